import PyProof.Rows.All
import Wide.All
import OpenK.AllK
import Wide.FinOn
import PyProof.EqAt
import PyProof.EqKinds
import PyProof.TupleCall
import PyProof.NeData
import PyProof.P3In
import PyProof.WalkInts
import PyProof.Rows.SortWalk
import PyProof.SumWalkG
import PyProof.Rows.CallKwBuiltin
import KE.KDictList
import PyProof.WalksEnum
import PyProof.ZipIter
import PyProof.ConsumeWalk
import PyProof.ListRange
import PyProof.TupleOfSeq
import PyProof.Rows.RuleN_abs
import KE.KUnpackStar
import PyProof.Rows.SetFrom
import KE.KDictOf
import PyProof.AttrMissHeap
import PyProof.SetRoads
import PyProof.ReprRoads
import PySem.Challenge.RW_fewties_k53_whole_hubs_middles_and_paper
open PySem.W (Frag kitOne mg_of nsIn mg_none_of excIn fnOf mroIn keepIn codeIn)
set_option Elab.async false
set_option linter.all false
set_option compiler.extract_closed false
set_option maxRecDepth 100000
set_option maxHeartbeats 4000000
noncomputable section
abbrev aA0:=@List.getElem?_eq_getElem
abbrev aA1:=@List.getElem?_eq_some_iff
abbrev aA2:=@List.mem_of_getElem?
abbrev aA3:=@List.length_map
abbrev aA4:=@Array.getElem?_eq_getElem
abbrev aA5:=@List.getElem?_map
abbrev aA6:=@Nat.le_refl
abbrev aA7:=@List.mem_append
abbrev aA8:=@Array.length_toList
abbrev aA9:=@List.mem_cons
abbrev aB0:=@Bool.false_ne_true
abbrev aB1:=@List.length_append
abbrev aB2:=@List.size_toArray
abbrev aB3:=@List.mem_append_right
abbrev aB4:=@List.append_assoc
abbrev aB5:=@List.mem_cons_of_mem
abbrev aB6:=@Nat.ne_of_lt
abbrev aB7:=@List.mem_map
abbrev aB8:=@List.mem_cons_self
abbrev aB9:=@List.mem_range
abbrev aC0:=@List.mem_of_mem_take
abbrev aC1:=@List.take_append_drop
abbrev aC2:=@List.mem_singleton
abbrev aC3:=@List.getElem?_append_left
abbrev aC4:=@List.mem_of_mem_drop
abbrev aC5:=@Nat.lt_of_lt_of_le
abbrev aC6:=@Option.some.inj
abbrev aC7:=@List.mem_append_left
abbrev aC8:=@List.getElem?_append_right
abbrev aC9:=@List.pairwise_append
abbrev aD0:=@Nat.le_trans
abbrev aD1:=@List.map_cons
abbrev aD2:=@List.getElem?_set
abbrev aD3:=@List.getD_eq_getElem?_getD
abbrev aD4:=@Classical.byContradiction
abbrev aD5:=@Array.getElem?_toList
abbrev aD6:=@decide_eq_false
abbrev aD7:=@decide_eq_true
abbrev aD8:=@List.getElem?_range
abbrev aD9:=@List.map_map
abbrev aE0:=@List.length_range
abbrev aE1:=@List.mem_filter
abbrev aE2:=@Nat.lt_of_le_of_lt
abbrev aE3:=@List.map_append
abbrev aE4:=@List.length_cons
abbrev aE5:=@Int.emod_nonneg
abbrev aE6:=@Int.emod_lt_of_pos
abbrev aE7:=@List.nodup_append
abbrev aE8:=@List.Nodup.length_le_of_subset
abbrev aE9:=@List.map_congr_left
abbrev aF0:=@List.append_nil
abbrev aF1:=@List.take_of_length_le
abbrev aF2:=@List.getElem_mem
abbrev aF3:=@List.length_filter_le
abbrev aF4:=@List.any_eq_true
abbrev aF5:=@List.all_eq_true
abbrev aF6:=@if_pos
abbrev aF7:=@if_neg
abbrev aF8:=@List.getElem?_eq_none_iff
abbrev aF9:=@Nat.lt_succ_of_lt
abbrev aG0:=@List.length_pos_iff
abbrev aG1:=@Nat.zero_le
abbrev aG2:=@List.pairwise_map
abbrev aG3:=@List.ext_getElem?
abbrev aG4:=@beq_iff_eq
abbrev aG5:=@Nat.lt_irrefl
abbrev aG6:=@Nat.le_of_lt
abbrev aG7:=@Array.toList_append
abbrev aG8:=@List.pairwise_iff_getElem
abbrev aG9:=@List.take_length
abbrev aH0:=@List.lookup_cons
abbrev aH1:=@List.length_take
abbrev aH2:=@Bool.and_eq_true
abbrev aH3:=@List.eq_nil_of_length_eq_zero
abbrev aH4:=@List.replicate_succ
abbrev aH5:=@List.take_add_one
abbrev aH6:=@List.getElem?_take_of_lt
abbrev aH7:=@List.mem_iff_getElem
abbrev aH8:=@List.getElem?_replicate
abbrev aH9:=@Bool.eq_iff_iff
abbrev aI0:=@Array.size_push
abbrev aI1:=@List.Pairwise.imp_of_mem
abbrev aI2:=@Option.map_some
abbrev aI3:=@List.getElem?_drop
abbrev aI4:=@List.not_mem_nil
abbrev aI5:=@List.nodup_cons
abbrev aI6:=@List.pairwise_cons
abbrev aI7:=@Nat.sub_self
abbrev aI8:=@Int.zero_add
abbrev aI9:=@Nat.lt_succ_self
abbrev aJ0:=@List.length_drop
abbrev aJ1:=@List.length_nil
open PySem PySem.Spec in
abbrev aJ2:=@wpAny_bind
open PySem PySem.Spec in
abbrev aJ3:=@wpAny_pure
open PySem PySem.Spec in
abbrev aJ4:=@Heap.get?_push_of_some
open PySem PySem.Spec in
abbrev aJ5:=@Heap.lt_size
open PySem PySem.Spec in
abbrev aJ6:=@Heap.get?_push_size
open PySem PySem.Spec in
abbrev aJ7:=@codeAny_mono
open PySem PySem.Spec in
abbrev aJ8:=@wpAny_holding
open PySem PySem.Spec in
abbrev aJ9:=@PassesOwn.never
open PySem PySem.Spec in
abbrev aK0:=@wpAny_mono
open PySem PySem.Spec in
abbrev aK1:=@wpAny_newObj_type
open PySem PySem.Spec in
abbrev aK2:=@Around.under_plainId
open PySem PySem.Spec in
abbrev aK3:=@Heap.size_push
open PySem PySem.Spec in
abbrev aK4:=@wpAny_call_entry
open PySem PySem.Spec in
abbrev aK5:=@wpAny_truthy_bool
open PySem PySem.Spec in
abbrev aK6:=@wpAny_pyIter_list
open PySem PySem.Spec in
abbrev aK7:=@codeAny_builtin
namespace L2
open PySem PySem.Spec PyProof.Rows
abbrev Key:=Sum Int Str
def ag4:Key->Value->Bool
 | .inl k,v=>Value.isInt k v
 | .inr x,v=>Value.isStrOf x v
def keyH (w:World):Key->Int
 | .inl k=>hashInt k
 | .inr x=>hashStr w x
theorem abo:∀ {k:Key} {v:Value},ag4 k v=true->(∃ i t,k=Sum.inl i/\v=Value.int i t)\/(∃ x t,k=Sum.inr x/\v=Value.str x t)
 | .inl i,v,h=>by
  obtain ⟨t,e⟩:=Value.isInt_shape (k:=i) (v:=v) h
  exact .inl ⟨i,t,rfl,e⟩
 | .inr x,v,h=>by
  obtain ⟨t,e⟩:=Value.isStrOf_shape (x:=x) (v:=v) h
  exact .inr ⟨x,t,rfl,e⟩
theorem ari (i:Int) (t:Tok):ag4 (.inl i) (.int i t)=true:=by simp [ag4,Value.isInt]
theorem arj (x:Str) (t:Tok):ag4 (.inr x) (.str x t)=true:=by simp [ag4,Value.isStrOf]
theorem ay7 (a b:Int):decide ((Sum.inl a:Key)=Sum.inl b)=(a == b):=by
 by_cases e:a=b
 ·subst e;simp
 ·have h:¬ (Sum.inl a:Key)=Sum.inl b:=fun q=>e (Sum.inl.inj q)
  rw [aD6 h]
  exact (beq_eq_false_iff_ne.mpr e).symm
theorem ay8 (a b:Str):decide ((Sum.inr a:Key)=Sum.inr b)=decide (a=b):=by
 by_cases e:a=b
 ·subst e;simp
 ·have h:¬ (Sum.inr a:Key)=Sum.inr b:=fun q=>e (Sum.inr.inj q)
  rw [aD6 h,aD6 e]
theorem ay9 (a:Int) (b:Str):decide ((Sum.inl a:Key)=Sum.inr b)=false:=aD6 (fun q=>nomatch q)
theorem aza (a:Str) (b:Int):decide ((Sum.inr a:Key)=Sum.inl b)=false:=aD6 (fun q=>nomatch q)
def abk (prog:Program) (w:World):PySem.KeyKind prog w Key where
 is:=ag4
 hash:=keyH w
 inj:=fun v a b ha hb=>by
  rcases abo ha with ⟨i,t,rfl,rfl⟩ | ⟨x,t,rfl,rfl⟩
  ·rcases abo hb with ⟨j,u,rfl,e⟩ | ⟨y,u,rfl,e⟩
   ·injection e with e1 _;rw [e1]
   ·exact nomatch e
  ·rcases abo hb with ⟨j,u,rfl,e⟩ | ⟨y,u,rfl,e⟩
   ·exact nomatch e
   ·injection e with e1 _;rw [e1]
 byValue:=fun k v h=>by
  rcases abo h with ⟨i,t,rfl,rfl⟩ | ⟨x,t,rfl,rfl⟩ <;> rfl
 pyHash:=fun hv h=>by
  rcases abo hv with ⟨i,t,rfl,rfl⟩ | ⟨x,t,rfl,rfl⟩
  ·exact wpAny_pyHash_int h
  ·exact wpAny_pyHash_str h
 eqBool:=fun hu hv h=>by
  rcases abo hu with ⟨i,t,rfl,rfl⟩ | ⟨x,t,rfl,rfl⟩
  ·rcases abo hv with ⟨j,u,rfl,rfl⟩ | ⟨y,u,rfl,rfl⟩
   ·rw [ay7] at h;exact wpAny_eqBool_int h
   ·rw [ay9] at h;exact SeqAt.EqAt.int_str i t y u _ _ _ _ h
  ·rcases abo hv with ⟨j,u,rfl,rfl⟩ | ⟨y,u,rfl,rfl⟩
   ·rw [aza] at h;exact SeqAt.EqAt.str_int x t j u _ _ _ _ h
   ·rw [ay8] at h;exact wpAny_eqBool_str h
 «strs»:=fun k x t v h=>by
  rcases abo h with ⟨i,u,rfl,e⟩ | ⟨y,u,rfl,e⟩
  ·exact nomatch e
  ·injection e with e1 _
   subst e1
   cases v <;> rfl
theorem aoe (prog:Program) (w:World) (i:Int) (t:Tok):(abk prog w).is (.inl i) (.int i t)=true:=ari i t
theorem aof (prog:Program) (w:World) (x:Str) (t:Tok):(abk prog w).is (.inr x) (.str x t)=true:=arj x t
inductive V where
 | non | bl (b:Bool) | int (i:Int) | str (x:Str) | byt (b:Array UInt8) | flt (b:UInt64) | ref (a:Addr) | ty (n:String)
 deriving DecidableEq
def RelV:V->Value->Prop
 | .non,u=>u=Value.none
 | .bl b,u=>u=Value.bool b
 | .int i,u=>∃ t,u=Value.int i t
 | .str x,u=>∃ t,u=Value.str x t
 | .byt b,u=>∃ t,u=Value.bytes b t
 | .flt b,u=>∃ t,u=Value.float b t
 | .ref a,u=>u=Value.ref a
 | .ty n,u=>u=Value.type n
abbrev Vals:List V->List Value->Prop:=Paired RelV
theorem Vals.length {xs:List V} {us:List Value} (r:Vals xs us):xs.length=us.length:=Paired.length r
theorem Vals.get:∀ {xs:List V} {us:List Value} {i:Nat} {x:V},Vals xs us->xs[i]?=some x->∃ u,us[i]?=some u/\RelV x u
 | _,_,_,_,.nil,e=>by simp at e
 | _,_,0,_,.cons r _,e=>by simp at e;subst e;exact ⟨_,rfl,r⟩
 | _,_,i+1,x,.cons _ t,e=>by
  obtain ⟨u,a,b⟩:=Vals.get (i:=i) (x:=x) t (by simpa using e)
  exact ⟨u,by simpa using a,b⟩
theorem Vals.set {x:V} {u:Value} (r:RelV x u):∀ {xs:List V} {us:List Value} (i:Nat),Vals xs us->Vals (xs.set i x) (us.set i u)
 | _,_,_,.nil => .nil
 | _,_,0,.cons _ t => .cons r t
 | _,_,i+1,.cons q t => .cons q (Vals.set r i t)
theorem Vals.append:∀ {xs ys:List V} {us a:List Value},Vals xs us->Vals ys a->Vals (xs ++ ys) (us ++ a)
 | _,_,_,_,.nil,s=>s
 | _,_,_,_,.cons r t,s => .cons r (Vals.append t s)
theorem Vals.take:∀ {xs:List V} {us:List Value} (n:Nat),Vals xs us->Vals (xs.take n) (us.take n)
 | _,_,0,_ => .nil
 | _,_,_+1,.nil => .nil
 | _,_,n+1,.cons r t => .cons r (Vals.take n t)
theorem Vals.drop:∀ {xs:List V} {us:List Value} (n:Nat),Vals xs us->Vals (xs.drop n) (us.drop n)
 | _,_,0,r=>r
 | _,_,_+1,.nil => .nil
 | _,_,n+1,.cons _ t=>Vals.drop n t
def RelO:Option V->Option Value->Prop
 | some v,some u=>RelV v u
 | none,none=>True
 | _,_=>False
def KV {κ:Type}:List (κ × V)->List (κ × Value)->Prop:=Paired fun (p : κ × V) (q : κ × Value)=>p.1=q.1/\RelV p.2 q.2
def kV:Key->V
 | .inl i => .int i
 | .inr x => .str x
inductive HO where
 /-- a list -/
 | lst (xs:List V)
 /-- a tuple (never changes) -/
 | tup (xs:List V)
 /-- a dict whose keys are ints and texts; one whose keys are tuples of ints and texts (the empty one is both) -/
 | dK (kvs:List (Key × V)) | dT (kvs:List (List Key × V))
 /-- a set of ints: its members, its size -/
 | set (S:Int->Bool) (n:Nat)
 /-- an instance of the class at C, its dict at dx, its attributes -/
 | ins (C dx:Addr) (fs:List (Str × V))
 /-- the dict of the instance at x -/
 | own (x:Addr)
 /-- the dict of an exception -/
 | xd (fs:List (Str × V))
 /-- a bound method, f of x -/
 | met (f x:Addr)
 /-- a range object lo, lo + 1, .. below hi -/
 | rng (lo hi:Int)
 /-- a thing that is known to the object (the script; a dict while a loop walks it): read, never written while it is so -/
 | frz (o:Obj) (u:HO)
 /-- a code object's table -/
 | tbl (ps:Array Value)
 /-- any other thing, by what is true of its one object (a def of one's own: SetO a S n:=HO.ext fun h => ..) -/
 | ext (φ:Heap->Prop)
abbrev Hp:=Addr->Option HO
def upd (H:Hp) (a:Addr) (o:HO):Hp:=fun b=>if b=a then some o else H b
theorem aaj {H:Hp} {a:Addr} {o:HO}:upd H a o a=some o:=by unfold upd;rw [aF6 rfl]
theorem aag {H:Hp} {a b:Addr} {o:HO} (h:b ≠ a):upd H a o b=H b:=by unfold upd;rw [aF7 h]
theorem a1l {H:Hp} {a b:Addr} {o u:HO} (h:H a=some o) (h':H b=some u) (d:o ≠ u):a ≠ b:=by
 intro e;subst e;rw [h] at h';exact d (aC6 h')
theorem aaq {H:Hp} {a b:Addr} {o:HO} (h:H a=some o) (h':H b=none):a ≠ b:=by
 intro e;subst e;rw [h] at h';cases h'
section
variable (P:Program) (w:World)
def ObjOk (H:Hp) (h:Heap) (a:Addr):HO->Prop
 | .lst xs=>xs.length<=sizeLine/\∃ (its:List Value) (n:Nat),Vals xs its/\h.get? a=some { cls:=.type "list",data:=.seq its.toArray n }
 | .tup xs=>xs.length<=sizeLine/\∃ its:List Value,Vals xs its/\IsTup h a its.toArray
 | .dK kvs=>kvs.length<=sizeLine/\(a == sysModules)=false/\∃ vs,KV kvs vs/\h.DictOf (abk P w) a vs
 | .dT kvs=>kvs.length<=sizeLine/\(a == sysModules)=false/\∃ xs:List (List Key × Addr × Value),
   Paired (fun (p:List Key × V) (q:List Key × Addr × Value)=>p.1=q.1/\H q.2.1=some (.tup (p.1.map kV))/\RelV p.2 q.2.2) kvs xs /\
   ∃ o es ep,h.get? a=some o/\o.ExactDict/\o.data=.dict es ep/\es.toList=xs.map (entryOfKey (tupleKind (abk P w)))/\(xs.map (·.1)).Nodup
 | .set S n=>h.SetOf (intKind P w) a S n
 | .ins C dx fs=>H dx=some (.own a)/\fs.length<=1000/\dx ≠ a/\h.get? a=some (PySem.W.instObj C dx) /\
   ∃ mA,h.Ns1 dx mA/\(∀ f,RelO (fs.lookup f) (mA f))/\PySem.Within mA (fs.map (·.1))
 | .own _=>∃ o,h.get? a=some o
 | .xd fs=>∃ mA,h.Ns1 a mA/\∀ f,RelO (fs.lookup f) (mA f)
 | .rng lo hi=>∃ t u v,h.get? a=some { cls:=.type "range",data:=.fields #[.int lo t,.int hi u,.int 1 v] }
 | .frz o u=>h.get? a=some o/\ObjOk H h a u
 | .tbl ps=>h.get? a=some { cls:=.none,data:=.fields ps }
 | .met f x=>h.get? a=some (PySem.W.methodObj (.ref f) (.ref x))
 | .ext φ => φ h/\(∃ o,h.get? a=some o)/\∀ h1 h2:Heap,φ h1->(∀ o,h1.get? a=some o->h2.get? a=some o)->φ h2
def HOk (H:Hp) (h:Heap):Prop:=∀ a o,H a=some o->ObjOk P w H h a o
end
section
variable {P:Program} {w:World} {H H':Hp} {h h':Heap} {a:Addr} {o:HO}
theorem ObjOk.lt (x:ObjOk P w H h a o):a < h.objs.size:=by
 cases o with
 | lst xs=>obtain ⟨_,_,_,_,e⟩:=x;exact aJ5 e
 | tup xs=>obtain ⟨_,_,_,p⟩:=x;exact p.lt
 | dK kvs=>obtain ⟨_,_,_,_,o,_,_,e,_⟩:=x;exact aJ5 e
 | dT kvs=>obtain ⟨_,_,_,_,o,_,_,e,_⟩:=x;exact aJ5 e
 | set S n=>obtain ⟨o,_,_,_,e,_⟩:=x;exact aJ5 e
 | ins C dx fs=>obtain ⟨_,_,_,e,_⟩:=x;exact aJ5 e
 | own y=>obtain ⟨_,e⟩:=x;exact aJ5 e
 | xd fs=>obtain ⟨_,⟨_,_,_,e,_⟩,_⟩:=x;exact aJ5 e
 | rng lo hi=>obtain ⟨_,_,_,e⟩:=x;exact aJ5 e
 | frz ob u=>obtain ⟨e,_⟩:=x;exact aJ5 e
 | tbl ps=>exact aJ5 (show h.get? a=some _ from x)
 | met f y=>exact aJ5 (show h.get? a=some _ from x)
 | ext φ=>obtain ⟨_,⟨_,e⟩,_⟩:=x;exact aJ5 e
theorem Paired.mapP {α β:Type} {F G : α->β->Prop}:∀ {l₁:List α} {l₂:List β},Paired F l₁ l₂->(∀ a b,F a b->G a b)->Paired G l₁ l₂
 | _,_,.nil,_ => .nil
 | _,_,.cons r t,f => .cons (f _ _ r) (Paired.mapP t f)
theorem ObjOk.stay (x:ObjOk P w H h a o) (k:∀ b u,(b=a\/H b=some (.own a))->h.get? b=some u->h'.get? b=some u)
  (j:∀ b,H b=some (.own a)->H' b=some (.own a)) (i:∀ b xs,H b=some (.tup xs)->H' b=some (.tup xs)):ObjOk P w H' h' a o:=by
 induction o with
 | lst xs=>obtain ⟨z,its,n,r,e⟩:=x;exact ⟨z,its,n,r,k _ _ (.inl rfl) e⟩
 | tup xs=>obtain ⟨z,its,r,g,e,c⟩:=x;exact ⟨z,its,r,g,k _ _ (.inl rfl) e,c⟩
 | dK kvs=>obtain ⟨z,y,vs,r,g,es,ep,e,c⟩:=x;exact ⟨z,y,vs,r,g,es,ep,k _ _ (.inl rfl) e,c⟩
 | dT kvs =>
  obtain ⟨z,y,xs,r,g,es,ep,e,c⟩:=x
  exact ⟨z,y,xs,Paired.mapP r fun p q z=>⟨z.1,i _ _ z.2.1,z.2.2⟩,g,es,ep,k _ _ (.inl rfl) e,c⟩
 | set S n=>obtain ⟨g,es,ep,t,e,c⟩:=x;exact ⟨g,es,ep,t,k _ _ (.inl rfl) e,c⟩
 | ins C dx fs =>
  obtain ⟨d,z,ne,e,mA,⟨od,es,ep,l,c⟩,r⟩:=x
  exact ⟨j _ d,z,ne,k _ _ (.inl rfl) e,mA,⟨od,es,ep,k _ _ (.inr d) l,c⟩,r⟩
 | own y=>obtain ⟨g,e⟩:=x;exact ⟨g,k _ _ (.inl rfl) e⟩
 | xd fs=>obtain ⟨mA,⟨od,es,ep,e,c⟩,r⟩:=x;exact ⟨mA,⟨od,es,ep,k _ _ (.inl rfl) e,c⟩,r⟩
 | rng lo hi=>obtain ⟨t,u,v,e⟩:=x;exact ⟨t,u,v,k _ _ (.inl rfl) e⟩
 | frz g u ih=>obtain ⟨e,q⟩:=x;exact ⟨k _ _ (.inl rfl) e,ih q⟩
 | tbl ps =>
  have e:h.get? a=some { cls:=.none,data:=.fields ps }:=x
  show h'.get? a=some { cls:=.none,data:=.fields ps }
  exact k a _ (.inl rfl) e
 | met f y =>
  have e:h.get? a=some (PySem.W.methodObj (.ref f) (.ref y)):=x
  show h'.get? a=some (PySem.W.methodObj (.ref f) (.ref y))
  exact k a _ (.inl rfl) e
 | ext φ=>obtain ⟨p,⟨o,e⟩,st⟩:=x;exact ⟨st _ _ p fun o q=>k _ _ (.inl rfl) q,⟨o,k _ _ (.inl rfl) e⟩,st⟩
theorem HOk.lt (x:HOk P w H h) (e:H a=some o):a < h.objs.size:=(x a o e).lt
theorem HOk.fresh (x:HOk P w H h) (e:h.objs.size<=a):H a=none:=by
 cases q:H a with
 | none=>rfl
 | some u=>exact absurd (aC5 (x.lt q) e) (aG5 _)
theorem HOk.kept (x:HOk P w H h) (k:∀ b u,h.get? b=some u->h'.get? b=some u):HOk P w H h':=fun a o e =>
 (x a o e).stay (fun b u _ q=>k b u q) (fun _ q=>q) fun _ _ q=>q
theorem HOk.laid (x:HOk P w H h) (k:∀ b u,h.get? b=some u->h'.get? b=some u) (d:h.objs.size<=a) (new:ObjOk P w (upd H a o) h' a o):HOk P w (upd H a o) h':=fun b u e=>by
 have hn:=x.fresh d
 by_cases hb:b=a
 ·subst hb;rw [aaj] at e;cases e;exact new
 ·rw [aag hb] at e
  exact (x b u e).stay (fun c v _ q=>k c v q) (fun c q=>by rw [aag (aaq q hn)];exact q) fun c xs q=>by rw [aag (aaq q hn)];exact q
end
def Rd (H:Hp) (a:Addr) (u:HO):Prop:=H a=some u\/∃ o,H a=some (.frz o u)
theorem Rd.ok {P:Program} {w:World} {H:Hp} {h:Heap} {a:Addr} {u:HO} (r:Rd H a u) (x:HOk P w H h):ObjOk P w H h a u:=by
 rcases r with r | ⟨o,r⟩
 ·exact x a u r
 ·obtain ⟨_,q⟩:=x a _ r
  exact q
def Mut:Option HO->Prop
 | some (.lst _)=>True
 | some (.dK _)=>True
 | some (.dT _)=>True
 | some (.set _ _)=>True
 | some (.ins _ _ _)=>True
 | some (.ext _)=>True
 | _=>False
section
variable {P:Program} {w:World} {H:Hp} {h h':Heap} {x e:Addr} {o':HO}
theorem HOk.write (ok:HOk P w H h) (f:Mut (H x)) (l:e=x\/H e=some (.own x)) (k:∀ b u,b ≠ e->h.get? b=some u->h'.get? b=some u) (i:∃ u,h'.get? e=some u)
  (new:ObjOk P w (upd H x o') h' x o'):HOk P w (upd H x o') h':=fun b u q=>by
 have a:∀ c y,H c=some (.own y)->c ≠ x:=fun c y r z=>by subst z;rw [r] at f;exact f
 have d:∀ c xs,H c=some (.tup xs)->c ≠ x:=fun c xs r z=>by subst z;rw [r] at f;exact f
 by_cases hb:b=x
 ·subst hb;rw [aaj] at q;cases q;exact new
 ·rw [aag hb] at q
  by_cases hbe:b=e
  ·have j:H b=some (.own x):=by
    rcases l with z | z
    ·exact absurd (hbe.trans z) hb
    ·rw [hbe];exact z
   rw [q] at j;cases j
   obtain ⟨v,m⟩:=i
   exact ⟨v,by rw [hbe];exact m⟩
  ·refine (ok b u q).stay (fun c v g r=>k c v ?_ r) (fun c r=>by rw [aag (a c b r)];exact r) fun c xs r=>by rw [aag (d c xs r)];exact r
   rcases g with rfl | g
   ·exact hbe
   ·rintro rfl
    rcases l with z | z
    ·exact a c b g z
    ·rw [g] at z;cases z;exact hb rfl
end
structure Un (fs ex:List Addr) (H H':Hp) (h h':Heap):Prop where
 keep:∀ b o,h.get? b=some o->H b=none->b ∉ fs->b ∉ ex->h'.get? b=some o
 slot:∀ b o,h.get? b=some o->H b=none->b∈fs->b ∉ ex->∃ sl,h'.get? b=some { o with slots:=sl }
 free:∀ b o,h.get? b=some o->H b=none->b ∉ ex->H' b=none
 there:∀ b o,h.get? b=some o->b ∉ ex->∃ o',h'.get? b=some o'
 tups:∀ b xs,H b=some (.tup xs)->H' b=some (.tup xs)
 frzs:∀ b o u,H b=some (.frz o u)->H' b=some (.frz o u)
 tbls:∀ b ps,H b=some (.tbl ps)->∃ more,H' b=some (.tbl (ps ++ more))
section
variable {fs fs' ex ex':List Addr} {H H1 H2:Hp} {h h1 h2 h':Heap} {a x e:Addr} {o:HO}
theorem Un.any (u:Un fs ex H H1 h h1) {b:Addr} {a:Obj} (q:h.get? b=some a) (n:H b=none) (c:b ∉ ex):∃ sl,h1.get? b=some { a with slots:=sl }:=by
 by_cases hb:b∈fs
 ·exact u.slot b a q n hb c
 ·exact ⟨a.slots,u.keep b a q n hb c⟩
theorem Un.kept (k:∀ b u,h.get? b=some u->h'.get? b=some u):Un fs ex H H h h' :=
 ⟨fun b a q _ _ _=>k b a q,fun b a q _ _ _=>⟨a.slots,k b a q⟩,fun _ _ _ n _=>n,fun b a q _=>⟨a,k b a q⟩,fun _ _ q=>q,fun _ _ _ q=>q,fun _ ps q=>⟨#[],by rw [q];simp⟩⟩
theorem Un.refl:Un fs ex H H h h:=Un.kept fun _ _ q=>q
theorem Un.laid (k:∀ b u,h.get? b=some u->h'.get? b=some u) (c:h.objs.size<=a) (hn:H a=none):Un fs ex H (upd H a o) h h' where
 keep:=fun b u q _ _ _=>k b u q
 slot:=fun b u q _ _ _=>⟨u.slots,k b u q⟩
 free:=fun b u q n _=>by rw [aag (aB6 (aC5 (aJ5 q) c))];exact n
 there:=fun b u q _=>⟨u,k b u q⟩
 tups:=fun b xs q=>by rw [aag (aaq q hn)];exact q
 frzs:=fun b u xs q=>by rw [aag (aaq q hn)];exact q
 tbls:=fun b ps q=>⟨#[],by rw [aag (aaq q hn),q];simp⟩
theorem Un.write (a:Mut (H x)) (g:e=x\/H e=some (.own x)) (k:∀ b u,b ≠ e->h.get? b=some u->h'.get? b=some u) (c:∃ u,h'.get? e=some u):Un fs ex H (upd H x o) h h':=by
 have d:∀ b,H b=none->b ≠ x:=fun b n z=>by subst z;rw [n] at a;exact a
 have hb:∀ b,H b=none->b ≠ e:=fun b n z=>by
  subst z
  rcases g with r | r
  ·exact d b n r
  ·rw [n] at r;cases r
 have hm:∀ b u,H b=some u->¬ Mut (some u)->b ≠ x:=fun b u q f z=>by subst z;rw [q] at a;exact f a
 refine ⟨fun b u q n _ _=>k b u (hb b n) q,fun b u q n _ _=>⟨u.slots,k b u (hb b n) q⟩,fun b u q n _=>by rw [aag (d b n)];exact n,fun b u q _=>?_,
  fun b xs q=>by rw [aag (hm b _ q fun z=>z)];exact q,fun b u xs q=>by rw [aag (hm b _ q fun z=>z)];exact q,fun b ps q=>⟨#[],by rw [aag (hm b _ q fun z=>z),q];simp⟩⟩
 by_cases hbe:b=e
 ·subst hbe;exact c
 ·exact ⟨u,k b u hbe q⟩
end
def trk (h:Heap) (H:Hp):List Addr:=(List.range h.objs.size).filter fun a=>(H a).isSome
def hidT (h:Heap) (H:Hp):Heap:=PySem.W.hideAll h (trk h H)
theorem ark (h:Heap) (H:Hp):(hidT h H).objs.size=h.objs.size:=PySem.W.hideAll_size _ _
theorem atp {h:Heap} {H:Hp} {b:Addr} {o:Obj} (e:h.get? b=some o) (n:H b=none):(hidT h H).get? b=some o :=
 PySem.W.hideAll_get _ e fun hm=>by
  have q:(H b).isSome=true:=(aE1.mp hm).2
  rw [n] at q;simp at q
theorem awu {h:Heap} {H:Hp} {b:Addr} {o:Obj} (e:(hidT h H).get? b=some o):h.get? b=some o/\H b=none:=by
 have a:h.get? b=some o:=PySem.W.of_hideAll (trk h H) e
 refine ⟨a,?_⟩
 cases q:H b with
 | none=>rfl
 | some x =>
  have hm:b∈trk h H:=aE1.mpr ⟨aB9.mpr (aJ5 a),by simp [q]⟩
  have z:(hidT h H).get? b=none:=PySem.W.hideAll_none (trk h H) hm
  rw [z] at e;cases e
def awv (g h:Heap) (L:Addr):List (Addr × Obj):=(List.range h.objs.size).filterMap fun a=>if a=L\/(g.get? a).isSome=true then none else (h.get? a).map fun o=>(a,o)
def rest (g h:Heap) (L d:Addr):List (Addr × Obj):=(awv g h L).filter fun p=>decide (p.1 ≠ d)
structure Mod (K:Frag) (mg:Str->Option Value) (base:Heap):Prop where
 kin:K.In base
 glob:base.Ns mainGlobals mg
 blt:∃ mb,base.Ns builtinsNs mb/\∀ x:Str,x ≠ "__name__"->mb x=bootBuiltins x
 nolimit:base.NoLimit
/-- the context: a def's body (or a comprehension's block) running. base: fixed through the whole law; s₀, H₀: the entry; outer: the frames whose slots others may change (a def's callers); stack: all frames that run;
  ex: iterators that were made ahead of the entry and are walked here (a comprehension's);fn: the names whose cells were made at the entry (a def: all;a comprehension's block: its own);calm: not within an except suite;pn: pins that every state bears;xe: what is wanted of an exception that leaves the code -/
structure Cx where
 prog:Program
 w:World
 K:Frag
 mg:Str->Option Value
 base:Heap
 A:Around
 N:List Str
 s₀:Shared
 H₀:Hp
 env:Env
 outer:List Env
 stack:List Env
 ex:List Addr
 fn:Str->Bool
 calm:Bool
 pn:List (Addr × Obj)
 xe:Value->Shared->Prop
def frs (l:List Env):List Addr:=l.filterMap (·.frame)
abbrev Cx.fs (X:Cx):List Addr:=frs X.outer
def Vis (sc:Scope) (x:Str):Prop:=sc.names.lookup x=some .local\/sc.names.lookup x=some .cell\/sc.names.lookup x=some .free
def Loc (sc:Scope) (x:Str):Prop:=sc.names.lookup x=some .local\/sc.names.lookup x=some .cell
def Look (env:Env) (h:Heap) (m:Str->Option Value) (x:Str) (u:Value):Prop :=
 (env.kindOf x=some .local/\m x=some u)\/((env.kindOf x=some .cell\/env.kindOf x=some .free)/\∃ c,env.cells.lookup x=some c/\h.IsCell c (some u))
structure Cx.Ok (X:Cx):Prop where
 mod:Mod X.K X.mg X.base
 kind:X.env.scope.kind=.function
 glob:X.env.globals=mainGlobals
 blt:X.env.builtins=builtinsNs
 above:X.s₀.heap.objs.size<=X.env.locals
 inj:∀ x y c,X.env.cells.lookup x=some c->X.env.cells.lookup y=some c->x=y
 has:∀ x,(X.env.kindOf x=some .cell\/X.env.kindOf x=some .free)->∃ c,X.env.cells.lookup x=some c
 cab:∀ x c,X.fn x=true->X.env.cells.lookup x=some c->X.s₀.heap.objs.size<=c
 hd:X.calm=true->X.A.handled=none
 frames:X.A.frames=some X.stack
 stk:X.stack=X.outer\/(X.stack=X.env :: X.outer/\X.env.frame=some X.env.locals)
 exf:∀ b∈X.ex,b ≠ X.env.locals/\∀ x c,X.env.cells.lookup x=some c->c ≠ b
 bs:∀ b o,X.base.get? b=some o->X.s₀.heap.get? b=some o/\X.H₀ b=none
 bsz:X.base.objs.size<=X.s₀.heap.objs.size
 noex:∀ b o,X.base.get? b=some o->b ∉ X.ex
 exfs:∀ b∈X.ex,b ∉ X.fs
 funs:X.s₀.heap.FunFrames X.base X.outer
 frf:∀ b∈X.fs,X.H₀ b=none
structure Inv (X:Cx) (pins:List (Addr × Obj)) (σ:List (Option V)) (H:Hp) (s:Shared):Prop where
 ok:X.Ok
 os:s.os=X.s₀.os
 bare:AllBare s.gens
 base:Un X.fs X.ex X.H₀ H X.s₀.heap s.heap
 loc:∃ m,s.heap.Ns X.env.locals m/\∀ (i:Nat) (x:Str) (v:V),X.N[i]?=some x->σ[i]?=some (some v)->Vis X.env.scope x->∃ u,RelV v u/\Look X.env s.heap m x u
 cell:∀ x c,X.env.cells.lookup x=some c->∃ v,s.heap.IsCell c v
 free:H X.env.locals=none
 freeC:∀ x c,X.env.cells.lookup x=some c->H c=none
 pin:∀ p∈X.pn ++ pins,s.heap.get? p.1=some p.2/\H p.1=none/\p.1 ≠ X.env.locals/\p.1 ∉ X.fs/\∀ v,p.2.data ≠ .cell v
 hok:HOk X.prog X.w H s.heap
 len : σ.length=X.N.length
section
variable {X:Cx} {pins:List (Addr × Obj)} {σ:List (Option V)} {H H':Hp} {s:Shared} {h':Heap}
theorem Cx.Ok.nofr (ok:X.Ok) {b:Addr} {o:Obj} (e:X.base.get? b=some o):b ∉ X.fs:=fun hb=>by
 have:=(ok.funs.mem hb).1
 rw [e] at this;cases this
theorem Inv.bs (I:Inv X pins σ H s):∀ b o,X.base.get? b=some o->s.heap.get? b=some o/\H b=none:=fun b o e =>
 ⟨I.base.keep b o (I.ok.bs b o e).1 (I.ok.bs b o e).2 (I.ok.nofr e) (I.ok.noex b o e),I.base.free b o (I.ok.bs b o e).1 (I.ok.bs b o e).2 (I.ok.noex b o e)⟩
theorem Inv.bk (I:Inv X pins σ H s):∀ b o,X.base.get? b=some o->s.heap.get? b=some o:=fun b o e=>(I.bs b o e).1
theorem Inv.mod (I:Inv X pins σ H s):Mod X.K X.mg X.base:=I.ok.mod
theorem Inv.kIn (I:Inv X pins σ H s):X.K.In s.heap:=I.ok.mod.kin.keeps I.bk
theorem Inv.lt (I:Inv X pins σ H s):X.env.locals < s.heap.objs.size:=let ⟨_,hn,_⟩:=I.loc;hn.lt
theorem Inv.sz (I:Inv X pins σ H s):X.s₀.heap.objs.size<=s.heap.objs.size:=aD0 I.ok.above (aG6 I.lt)
theorem Inv.nofs (I:Inv X pins σ H s) {a:Addr} (h:s.heap.objs.size<=a):a ∉ X.fs:=fun hb=>by
 obtain ⟨_,o,b,_⟩:=I.ok.funs.mem hb
 exact absurd (aC5 (aJ5 b) (aD0 I.sz h)) (aG5 _)
theorem Inv.cne (I:Inv X pins σ H s):∀ x c,X.env.cells.lookup x=some c->c ≠ X.env.locals:=fun x c e z=>by
 obtain ⟨v,o,d,hd⟩:=I.cell x c e
 obtain ⟨m,⟨o',es,ep,a,b,_⟩,_⟩:=I.loc
 rw [z,a] at d;cases d;rw [b] at hd;cases hd
theorem Inv.funs (I:Inv X pins σ H s):s.heap.FunFrames X.base X.outer:=by
 have all:∀ (l:List Env),(∀ b∈frs l,b∈X.fs)->X.s₀.heap.FunFrames X.base l->s.heap.FunFrames X.base l:=by
  intro l
  induction l with
  | nil=>intro _ _;trivial
  | cons env r ih =>
   intro hs d
   obtain ⟨f,⟨L,o,hf,hn,c,hd⟩,g⟩:=d
   have a:L∈X.fs:=hs L (by unfold frs;rw [List.filterMap_cons,hf];exact aB8)
   obtain ⟨sl,e⟩:=I.base.slot L o c (I.ok.frf L a) a fun z=>I.ok.exfs L z a
   exact ⟨f,⟨L,_,hf,hn,e,hd⟩,ih (fun b hb=>hs b (by unfold frs;rw [List.filterMap_cons,hf];exact aB5 _ hb)) g⟩
 exact all X.outer (fun _ hb=>hb) I.ok.funs
theorem Inv.stack (I:Inv X pins σ H s):s.heap.FunFrames X.base X.stack:=by
 rcases I.ok.stk with e | ⟨e,hf⟩
 ·rw [e];exact I.funs
 ·rw [e]
  obtain ⟨m,hn,_⟩:=I.loc
  refine .cons (by rw [I.ok.kind];decide) hf hn ?_ I.funs
  exact Heap.get?_none_of_le (aD0 I.ok.bsz I.ok.above)
theorem Inv.stkSub (I:Inv X pins σ H s):∀ b∈frs X.stack,b∈X.env.locals :: X.fs:=fun b hb=>by
 rcases I.ok.stk with e | ⟨e,hf⟩
 ·rw [e] at hb;exact aB5 _ hb
 ·rw [e] at hb
  unfold frs at hb
  rw [List.filterMap_cons,hf] at hb
  exact hb
theorem Inv.stkFree (I:Inv X pins σ H s):∀ b∈frs X.stack,H b=none:=fun b hb=>by
 rcases aA9.mp (I.stkSub b hb) with e | hb
 ·rw [e];exact I.free
 ·obtain ⟨_,o,a,_⟩:=I.ok.funs.mem hb
  exact I.base.free b o a (I.ok.frf b hb) fun z=>I.ok.exfs b z hb
theorem Inv.step {g':Array GenState} {t':Nat} {d':Drawn} {ch:List Addr} (I:Inv X pins σ H s)
  (g:∀ b∈ch,(b∈X.ex\/X.s₀.heap.objs.size<=b)/\b ≠ X.env.locals/\(∀ x c,X.env.cells.lookup x=some c->c ≠ b)/\∀ p∈X.pn ++ pins,p.1 ≠ b)
  (keep:∀ b o,b ≠ X.env.locals->b ∉ X.fs->b ∉ ch->s.heap.get? b=some o->H b=none->h'.get? b=some o)
  (slot:∀ b o,b ≠ X.env.locals->b∈X.fs->b ∉ ch->s.heap.get? b=some o->H b=none->∃ sl,h'.get? b=some { o with slots:=sl }) (free:∀ b o,b ∉ ch->s.heap.get? b=some o->H b=none->H' b=none)
  (there:∀ b o,b ∉ ch->s.heap.get? b=some o->∃ o',h'.get? b=some o')
  (tups:∀ b xs,H b=some (.tup xs)->H' b=some (.tup xs)) (frzs:∀ b o u,H b=some (.frz o u)->H' b=some (.frz o u)) (tbls:∀ b ps,H b=some (.tbl ps)->∃ more,H' b=some (.tbl (ps ++ more)))
  (ns:∀ m,s.heap.Ns X.env.locals m->h'.Ns X.env.locals m) (hok:HOk X.prog X.w H' h') (L:AllBare g') :
  Inv X pins σ H' { s with heap:=h',gens:=g',drawn:=d',toks:=t' }:=by
 have C:∀ b o,X.s₀.heap.get? b=some o->b ≠ X.env.locals:=fun b o e=>aB6 (aC5 (aJ5 e) I.ok.above)
 have j:∀ b o,X.s₀.heap.get? b=some o->b ∉ X.ex->b ∉ ch:=fun b o e a hb=>by
  rcases (g b hb).1 with z | z
  ·exact a z
  ·exact absurd (aC5 (aJ5 e) z) (aG5 _)
 have h:∀ x c,X.env.cells.lookup x=some c->∀ v,s.heap.IsCell c v->h'.IsCell c v:=fun x c e v M=>by
  obtain ⟨o,A,hd⟩:=M
  have f:c ∉ ch:=fun z=>(g c z).2.2.1 x c e rfl
  by_cases hc:c∈X.fs
  ·obtain ⟨sl,q⟩:=slot c o (I.cne x c e) hc f A (I.freeC x c e)
   exact ⟨_,q,hd⟩
  ·exact ⟨o,keep c o (I.cne x c e) hc f A (I.freeC x c e),hd⟩
 refine ⟨I.ok,I.os,L,⟨fun b o e n hb a=>?_,fun b o e n hb a=>?_,fun b o e n a=>?_,fun b o e a=>?_,fun b xs e=>tups b xs (I.base.tups b xs e),fun b o xs e=>frzs b o xs (I.base.frzs b o xs e),fun b ps e=>?_⟩,?_,fun x c e=>?_,?_,fun x c e=>?_,fun p F=>?_,hok,I.len⟩
 ·exact keep b o (C b o e) hb (j b o e a) (I.base.keep b o e n hb a) (I.base.free b o e n a)
 ·obtain ⟨sl,y⟩:=I.base.slot b o e n hb a
  obtain ⟨D,B⟩:=slot b _ (C b o e) hb (j b o e a) y (I.base.free b o e n a)
  exact ⟨D,B⟩
 ·obtain ⟨o',y⟩:=I.base.there b o e a
  exact free b o' (j b o e a) y (I.base.free b o e n a)
 ·obtain ⟨o',y⟩:=I.base.there b o e a
  exact there b o' (j b o e a) y
 ·obtain ⟨K,y⟩:=I.base.tbls b ps e
  obtain ⟨G,B⟩:=tbls b _ y
  exact ⟨K ++ G,by rw [B,Array.append_assoc]⟩
 ·obtain ⟨m,hn,J⟩:=I.loc
  refine ⟨m,ns m hn,fun i x v y B N=>?_⟩
  obtain ⟨u,r,l⟩:=J i x v y B N
  refine ⟨u,r,?_⟩
  rcases l with l | ⟨k,c,e,z⟩
  ·exact .inl l
  ·exact .inr ⟨k,c,e,h x c e _ z⟩
 ·obtain ⟨v,z⟩:=I.cell x c e
  exact ⟨v,h x c e v z⟩
 ·obtain ⟨m,⟨o,_,_,A,_⟩,_⟩:=I.loc
  exact free _ o (fun z=>(g _ z).2.1 rfl) A I.free
 ·obtain ⟨v,o,A,hd⟩:=I.cell x c e
  exact free c o (fun z=>(g c z).2.2.1 x c e rfl) A (I.freeC x c e)
 ·obtain ⟨e,n,ne,E,d⟩:=I.pin p F
  have f:p.1 ∉ ch:=fun z=>(g p.1 z).2.2.2 p F rfl
  exact ⟨keep p.1 p.2 ne E f e n,free p.1 p.2 f e n,ne,E,d⟩
theorem Inv.un {t':Nat} (I:Inv X pins σ H s) (u:Un X.fs [] H H' s.heap h') (hok:HOk X.prog X.w H' h'):Inv X pins σ H' { s with heap:=h',toks:=t' }:=by
 obtain ⟨m,⟨o,es,ep,d,r⟩,_⟩:=id I.loc
 obtain ⟨sl,g⟩:=u.any d I.free (by simp)
 exact I.step (g':=s.gens) (d':=s.drawn) (ch:=[]) (fun _ z=>nomatch z) (fun b o _ hb _ e n=>u.keep b o e n hb (by simp)) (fun b o _ hb _ e n=>u.slot b o e n hb (by simp)) (fun b o _ e n=>u.free b o e n (by simp)) (fun b o _ e=>u.there b o e (by simp)) u.tups u.frzs u.tbls (fun h hm=>by
  obtain ⟨o',es',c,a,f⟩:=hm
  rw [d] at a;cases a
  exact ⟨_,es',c,g,f⟩) hok I.bare
theorem Inv.call {g':Array GenState} {t':Nat} {d':Drawn} {ch:List Addr} (I:Inv X pins σ H s) (u:Un (frs X.stack) ch H H' s.heap h') (hok:HOk X.prog X.w H' h') (l:AllBare g')
  (f:∀ b∈ch,(b∈X.ex\/X.s₀.heap.objs.size<=b)/\b ≠ X.env.locals/\(∀ x c,X.env.cells.lookup x=some c->c ≠ b)/\∀ p∈X.pn ++ pins,p.1 ≠ b) :
  Inv X pins σ H' { s with heap:=h',gens:=g',drawn:=d',toks:=t' }:=by
 obtain ⟨m,⟨o,es,ep,i,r⟩,_⟩:=id I.loc
 obtain ⟨sl,g⟩:=u.any i I.free fun z=>(f _ z).2.1 rfl
 exact I.step (ch:=ch) f (fun b o g hb a e n=>u.keep b o e n (fun z=>(aA9.mp (I.stkSub b z)).elim g hb) a) (fun b o _ _ a e n=>u.any e n a) (fun b o a e n=>u.free b o e n a) (fun b o a e=>u.there b o e a) u.tups u.frzs u.tbls (fun q hm=>by
  obtain ⟨o',es',h,d,j⟩:=hm
  rw [i] at d;cases d
  exact ⟨_,es',h,g,j⟩) hok l
theorem Inv.turned {t':Nat} {it:Addr} (I:Inv X pins σ H s) (k:∀ b o,b ≠ it->s.heap.get? b=some o->h'.get? b=some o) (hn:H it=none) (f:it ≠ X.env.locals)
  (g:it∈X.ex\/X.s₀.heap.objs.size<=it) (h:∀ x c,X.env.cells.lookup x=some c->c ≠ it) (j:∀ p∈X.pn ++ pins,p.1 ≠ it):Inv X pins σ H { s with heap:=h',toks:=t' }:=by
 have d:∀ b u,H b=some u->b ≠ it:=fun b u e z=>by rw [z,hn] at e;cases e
 refine I.step (g':=s.gens) (d':=s.drawn) (ch:=[it]) (fun b hb=>?_) (fun b o _ _ a e _=>k b o (fun z=>a (by simp [z])) e) (fun b o _ _ a e _=>⟨o.slots,k b o (fun z=>a (by simp [z])) e⟩) (fun _ _ _ _ n=>n)
  (fun b o a e=>⟨o,k b o (fun z=>a (by simp [z])) e⟩) (fun _ _ e=>e) (fun _ _ _ e=>e) (fun b ps e=>⟨#[],by rw [e];simp⟩) (fun m hm=>?_) (fun b u e=>?_) I.bare
 ·have e:b=it:=by simpa using hb
  subst e
  exact ⟨g,f,h,j⟩
 ·obtain ⟨o,es,ep,i,r⟩:=hm
  exact ⟨o,es,ep,k _ o (Ne.symm f) i,r⟩
 ·refine (I.hok b u e).stay (fun c v a q=>k c v ?_ q) (fun _ q=>q) fun _ _ q=>q
  rcases a with z | z
  ·rw [z];exact d b u e
  ·exact d c _ z
theorem Inv.tok (I:Inv X pins σ H s) (t:Nat):Inv X pins σ H { s with toks:=t }:=I.un (h':=s.heap) (t':=t) Un.refl I.hok
theorem Inv.kept {t':Nat} (I:Inv X pins σ H s) (k:∀ b u,s.heap.get? b=some u->h'.get? b=some u):Inv X pins σ H { s with heap:=h',toks:=t' }:=I.un (Un.kept k) (I.hok.kept k)
theorem Inv.laid {a:Addr} {o:HO} {t':Nat} (I:Inv X pins σ H s) (k:∀ b u,s.heap.get? b=some u->h'.get? b=some u) (c:s.heap.objs.size<=a) (new:ObjOk X.prog X.w (upd H a o) h' a o) :
  Inv X pins σ (upd H a o) { s with heap:=h',toks:=t' }:=I.un (Un.laid k c (I.hok.fresh c)) (I.hok.laid k c new)
theorem Inv.write {x e:Addr} {o:HO} {t':Nat} (I:Inv X pins σ H s) (c:Mut (H x)) (d:e=x\/H e=some (.own x)) (k:∀ b u,b ≠ e->s.heap.get? b=some u->h'.get? b=some u) (a:∃ u,h'.get? e=some u)
  (new:ObjOk X.prog X.w (upd H x o) h' x o):Inv X pins σ (upd H x o) { s with heap:=h',toks:=t' }:=I.un (Un.write c d k a) (I.hok.write c d k a new)
theorem Inv.pins_of {a:List (Addr × Obj)} (I:Inv X pins σ H s) (h:∀ p∈a,s.heap.get? p.1=some p.2/\H p.1=none/\p.1 ≠ X.env.locals/\p.1 ∉ X.fs/\∀ v,p.2.data ≠ .cell v):Inv X a σ H s :=
 ⟨I.ok,I.os,I.bare,I.base,I.loc,I.cell,I.free,I.freeC,fun p b=>(aA7.mp b).elim (fun z=>I.pin p (aC7 _ z)) (h p),I.hok,I.len⟩
theorem nodup_ix {N:List Str} (c:N.Nodup) {i j:Nat} {x:Str} (a:N[i]?=some x) (b:N[j]?=some x):i=j:=by
 obtain ⟨g,d⟩:=aA1.mp a
 obtain ⟨h,f⟩:=aA1.mp b
 exact (List.getElem_inj c).mp (d.trans f.symm)
theorem age {M:Model} {A:Around} {E:Value->Shared->Prop} {i:Nat} {x:Str} {v:V} {u:Value} {Q:Unit->Shared->Prop} (I:Inv X pins σ H s) (hN:X.N.Nodup) (hi:X.N[i]?=some x) (B:Loc X.env.scope x) (r:RelV v u)
  (h:∀ s',Inv X pins (σ.set i (some v)) H s'->(∃ a,Heap.SameBut a s.heap s'.heap/\(a=X.env.locals\/X.env.cells.lookup x=some a))->Q () s') (hf:X.fn x=true\/X.env.scope.names.lookup x=some .local:=by first | exact .inl rfl | exact .inr rfl | assumption):wpAny M A (storeName X.env x u) Q E s:=by
 obtain ⟨m,hn,hl⟩:=id I.loc
 have K:(X.env.scope.kind == .class || (X.env.scope.kind == .module && X.env.locals != X.env.globals))=false:=by rw [I.ok.kind];rfl
 have F:i < σ.length:=by rw [I.len];exact (aA1.mp hi).1
 have cne:=I.cne
 have g:∀ {a:Addr} {h':Heap},(∃ o,s.heap.get? a=some o/\H a=none)->Heap.SameBut a s.heap h'->HOk X.prog X.w H h':=fun {a h'} ha hs b ob e=>by
  obtain ⟨_,_,C⟩:=ha
  refine (I.hok b ob e).stay (fun c R l q=>(hs.2 c ?_).trans q) (fun _ q=>q) fun _ _ q=>q
  rintro rfl
  rcases l with rfl | l
  ·rw [C] at e;cases e
  ·rw [C] at l;cases l
 rcases B with G | G
 ·refine wpAny_storeName_local G hn (fun h' W hs=>?_) K
  obtain ⟨oL,_,_,a0,_⟩:=id hn
  refine h _ ⟨I.ok,I.os,I.bare,⟨fun b o e n hb B=>?_,fun b o e n hb B=>?_,I.base.free,fun b o e B=>?_,I.base.tups,I.base.frzs,I.base.tbls⟩,⟨_,W,fun j y Y f D U=>?_⟩,fun y c e=>?_,I.free,I.freeC,fun p hp=>?_,g ⟨oL,a0,I.free⟩ hs,by simpa using I.len⟩ ⟨_,hs,.inl rfl⟩
  ·exact (hs.2 b (aB6 (aC5 (aJ5 e) I.ok.above))).trans (I.base.keep b o e n hb B)
  ·obtain ⟨sl,f⟩:=I.base.slot b o e n hb B
   exact ⟨sl,(hs.2 b (aB6 (aC5 (aJ5 e) I.ok.above))).trans f⟩
  ·obtain ⟨o',f⟩:=I.base.there b o e B
   exact ⟨o',(hs.2 b (aB6 (aC5 (aJ5 e) I.ok.above))).trans f⟩
  ·by_cases hj:j=i
   ·subst hj
    rw [hi] at f;cases f
    rw [List.getElem?_set_self F] at D
    cases D
    exact ⟨u,r,.inl ⟨G,by simp⟩⟩
   ·rw [List.getElem?_set_ne (Ne.symm hj)] at D
    obtain ⟨u',T,q⟩:=hl j y Y f D U
    refine ⟨u',T,?_⟩
    rcases q with ⟨k,e⟩ | ⟨k,c,e,z⟩
    ·refine .inl ⟨k,?_⟩
     have:y ≠ x:=fun e=>hj (nodup_ix hN f (e ▸ hi))
     simp [this,e]
    ·exact .inr ⟨k,c,e,z.sameBut hs (cne y c e)⟩
  ·obtain ⟨R,z⟩:=I.cell y c e
   exact ⟨R,z.sameBut hs (cne y c e)⟩
  ·obtain ⟨e,n,ne,Z,d⟩:=I.pin p hp
   exact ⟨(hs.2 p.1 ne).trans e,n,ne,Z,d⟩
 ·have J:X.fn x=true:=by
   rcases hf with z | z
   ·exact z
   ·rw [z] at G;cases G
  obtain ⟨c,l⟩:=I.ok.has x (.inl G)
  obtain ⟨R,z⟩:=I.cell x c l
  refine wpAny_storeName_cell I.ok.kind G l z (fun h' P hs=>?_)
  obtain ⟨oc,O,L⟩:=id z
  refine h { s with heap:=h' } ⟨I.ok,I.os,I.bare,⟨fun b o e n hb B=>?_,fun b o e n hb B=>?_,I.base.free,fun b o e B=>?_,I.base.tups,I.base.frzs,I.base.tbls⟩,⟨m,hn.sameBut hs (Ne.symm (cne x c l)),fun j y Y f D U=>?_⟩,fun y S e=>?_,I.free,I.freeC,fun p hp=>?_,g ⟨oc,O,I.freeC x c l⟩ hs,by simpa using I.len⟩ ⟨c,hs,.inr l⟩
  ·exact (hs.2 b (aB6 (aC5 (aJ5 e) (I.ok.cab x c J l)))).trans (I.base.keep b o e n hb B)
  ·obtain ⟨sl,f⟩:=I.base.slot b o e n hb B
   exact ⟨sl,(hs.2 b (aB6 (aC5 (aJ5 e) (I.ok.cab x c J l)))).trans f⟩
  ·obtain ⟨o',f⟩:=I.base.there b o e B
   exact ⟨o',(hs.2 b (aB6 (aC5 (aJ5 e) (I.ok.cab x c J l)))).trans f⟩
  ·by_cases hj:j=i
   ·subst hj
    rw [hi] at f;cases f
    rw [List.getElem?_set_self F] at D
    cases D
    exact ⟨u,r,.inr ⟨.inl G,c,l,P⟩⟩
   ·rw [List.getElem?_set_ne (Ne.symm hj)] at D
    obtain ⟨u',T,q⟩:=hl j y Y f D U
    refine ⟨u',T,?_⟩
    rcases q with q | ⟨k,S,e,z'⟩
    ·exact .inl q
    ·refine .inr ⟨k,S,e,z'.sameBut hs ?_⟩
     rintro rfl
     exact hj (nodup_ix hN f (I.ok.inj _ _ _ e l ▸ hi))
  ·by_cases hcc:S=c
   ·subst hcc;exact ⟨_,P⟩
   ·obtain ⟨w2,z2⟩:=I.cell y S e
    exact ⟨w2,z2.sameBut hs hcc⟩
  ·obtain ⟨e,n,ne,Z,d⟩:=I.pin p hp
   refine ⟨(hs.2 p.1 ?_).trans e,n,ne,Z,d⟩
   intro q
   rw [q,O] at e
   have q':oc=p.2:=aC6 e
   exact d R (by rw [← q'];exact L)
theorem store_ok {M:Model} {A:Around} {E:Value->Shared->Prop} {i:Nat} {x:Str} {v:V} {u:Value} {Q:Unit->Shared->Prop} (I:Inv X pins σ H s) (a:X.N.Nodup) (hi:X.N[i]?=some x) (c:Loc X.env.scope x) (r:RelV v u)
  (h:∀ s',Inv X pins (σ.set i (some v)) H s'->Q () s') (hf:X.fn x=true\/X.env.scope.names.lookup x=some .local:=by first | exact .inl rfl | exact .inr rfl | assumption):wpAny M A (storeName X.env x u) Q E s :=
 age I a hi c r (fun s' b _=>h s' b) hf
theorem Inv.call' {s':Shared} {ch:List Addr} (I:Inv X pins σ H s) (d:s'.os=s.os) (u:Un (frs X.stack) ch H H' s.heap s'.heap) (hok:HOk X.prog X.w H' s'.heap) (f:AllBare s'.gens)
  (a:∀ b∈ch,(b∈X.ex\/X.s₀.heap.objs.size<=b)/\b ≠ X.env.locals/\(∀ x c,X.env.cells.lookup x=some c->c ≠ b)/\∀ p∈X.pn ++ pins,p.1 ≠ b):Inv X pins σ H' s':=by
 obtain ⟨h',g',d',t',o'⟩:=s'
 have e:o'=s.os:=d
 subst e
 exact I.call (g':=g') (t':=t') (d':=d') u hok f a
end
abbrev XK:=Value->Option Addr->Hp->Prop
abbrev St:=List (Option V)
abbrev VK:=V->Hp->Prop
abbrev TE:=St->Hp->VK->Prop
abbrev TT:=St->Hp->(Bool->Hp->Prop)->Prop
abbrev TA:=St->Hp->(List V->Hp->Prop)->Prop
structure Ends where
 nx:St->Hp->Prop
 rt:VK
 bk:St->Hp->Prop:=fun _ _=>False
 ct:St->Hp->Prop:=fun _ _=>False
abbrev TS:=Ends->St->Hp->Prop
def EP (X:Cx) (pins:List (Addr × Obj)) (σ:St) (Q:VK) (u:Value) (s':Shared):Prop:=∃ v H',Inv X pins σ H' s'/\RelV v u/\Q v H'
def TP (X:Cx) (pins:List (Addr × Obj)) (σ:St) (Q:Bool->Hp->Prop) (b:Bool) (s':Shared):Prop:=∃ H',Inv X pins σ H' s'/\Q b H'
def AP (X:Cx) (pins:List (Addr × Obj)) (σ:St) (Q:List V->Hp->Prop) (us:List Value) (s':Shared):Prop:=∃ vs H',Inv X pins σ H' s'/\Vals vs us/\Q vs H'
def SP (X:Cx) (pins:List (Addr × Obj)) (D:Ends) (f:Flow) (s':Shared):Prop :=
 match f with
 | .next=>∃ σ' H',Inv X pins σ' H' s'/\D.nx σ' H'
 | .brk=>∃ σ' H',Inv X pins σ' H' s'/\D.bk σ' H'
 | .cont=>∃ σ' H',Inv X pins σ' H' s'/\D.ct σ' H'
 | .ret u=>∃ v σ' H',Inv X pins σ' H' s'/\RelV v u/\D.rt v H'
def PE (X:Cx) (e:Expr) (t:TE):Prop :=
 ∀ (pins:List (Addr × Obj)) (s:Shared) (σ:St) (H:Hp) (Q:VK),Inv X pins σ H s->t σ H Q->wpAny (model X.prog X.w) X.A (eval e X.env) (EP X pins σ Q) X.xe s
def PT (X:Cx) (e:Expr) (t:TT):Prop :=
 ∀ (pins:List (Addr × Obj)) (s:Shared) (σ:St) (H:Hp) (Q:Bool->Hp->Prop),Inv X pins σ H s->t σ H Q->wpAny (model X.prog X.w) X.A (isTrue e X.env (eval e X.env)) (TP X pins σ Q) X.xe s
def PW (X:Cx) (e:Expr) (t:TT):Prop :=
 ∀ (whole:Sem Value) (pins:List (Addr × Obj)) (s:Shared) (σ:St) (H:Hp) (Q:Bool->Hp->Prop),Inv X pins σ H s->t σ H Q->wpAny (model X.prog X.w) X.A (isTrue e X.env whole) (TP X pins σ Q) X.xe s
theorem PW.pt {X:Cx} {e:Expr} {t:TT} (h:PW X e t):PT X e t:=h _
def PA (X:Cx) (es:List Expr) (t:TA):Prop :=
 ∀ (pos:Pos) (pins:List (Addr × Obj)) (s:Shared) (σ:St) (H:Hp) (Q:List V->Hp->Prop),Inv X pins σ H s->t σ H Q->wpAny (model X.prog X.w) X.A (spliced (backTo pos (starEach es X.env))) (AP X pins σ Q) X.xe s
def PS (X:Cx) (st:Stmt) (t:TS):Prop :=
 ∀ (pins:List (Addr × Obj)) (s:Shared) (σ:St) (H:Hp) (D:Ends),Inv X pins σ H s->t D σ H->wpAny (model X.prog X.w) X.A (exec st X.env) (SP X pins D) X.xe s
def PSs (X:Cx) (st:List Stmt) (t:TS):Prop :=
 ∀ (pins:List (Addr × Obj)) (s:Shared) (σ:St) (H:Hp) (D:Ends),Inv X pins σ H s->t D σ H->wpAny (model X.prog X.w) X.A (execs st X.env) (SP X pins D) X.xe s
theorem thn {α:Type} {t:Sem α} {Q b : α->Shared->Prop} {M:Model} {A:Around} {E:Value->Shared->Prop} {s:Shared} (h:wpAny M A t Q E s) (c:∀ a s,Q a s->b a s):wpAny M A t b E s:=aK0 h c fun _ _ x=>x
section
variable {X:Cx}
def tVar (i:Nat):TE:=fun σ H Q=>∃ v,σ[i]?=some (some v)/\Q v H
def tC (v:V):TE:=fun _ H Q=>Q v H
theorem azb {i:Nat} {x:Str} {pos:Pos} (n:X.N[i]?=some x) (j:Vis X.env.scope x) (hd:(x == ("__debug__" : Str))=false:=by decide) (d:(x == ("__classdict__" : Str))=false:=by decide):PE X (.Name x pos) (tVar i):=by
 intro pins s σ H Q I h
 obtain ⟨v,e,h⟩:=h
 obtain ⟨m,hn,g⟩:=I.loc
 obtain ⟨u,r,l⟩:=g i x v n e j
 have fin:EP X pins σ Q u s:=⟨v,H,I,r,h⟩
 rcases l with ⟨b,hm⟩ | ⟨b,c,f,a⟩
 ·exact wpAny_Name (wpAny_loadName_local I.ok.kind b hn hm fin) hd
 ·rcases b with b | b
  ·exact wpAny_Name (wpAny_loadName_cell I.ok.kind b f a fin) hd
  ·exact wpAny_Name (wpAny_loadName_free I.ok.kind b f a fin d) hd
theorem aad {i j pos}:PE X (.Constant (.int i) j pos) (tC (.int i)):=fun _ _ _ H _ I h=>wpAny_Constant_int ⟨.int i,H,I.tok _,⟨_,rfl⟩,h⟩
theorem abp {b j pos}:PE X (.Constant (.bool b) j pos) (tC (.bl b)):=fun _ _ _ H _ I h=>Constant_bool ⟨.bl b,H,I,rfl,h⟩
theorem amd {j pos}:PE X (.Constant .none j pos) (tC .non):=fun _ _ _ H _ I h=>Constant_none ⟨.non,H,I,rfl,h⟩
def Gl (X:Cx) (x:Str):Prop:=X.env.kindOf x=some .globalImplicit
theorem aot {E:Value->Shared->Prop} {pins:List (Addr × Obj)} {s:Shared} {σ:St} {H:Hp} {x:Str} {u:Value} {pos:Pos} {Q:Value->Shared->Prop} (I:Inv X pins σ H s) (a:Gl X x) (hm:X.mg x=some u) (h:Q u s)
  (hd:(x == ("__debug__" : Str))=false:=by decide):wpAny (model X.prog X.w) X.A (eval (.Name x pos) X.env) Q E s :=
 Calls.Name_function_global I.ok.kind a (Calls.loadGlobal_global (by rw [I.ok.glob];exact I.mod.glob.keeps I.bk) hm h) hd
theorem adp {E:Value->Shared->Prop} {pins:List (Addr × Obj)} {s:Shared} {σ:St} {H:Hp} {x:Str} {u:Value} {pos:Pos} {Q:Value->Shared->Prop} (I:Inv X pins σ H s) (d:Gl X x) (hm:X.mg x=none) (c:bootBuiltins x=some u) (h:Q u s)
  (hn:x ≠ "__name__":=by decide) (hd:(x == ("__debug__" : Str))=false:=by decide):wpAny (model X.prog X.w) X.A (eval (.Name x pos) X.env) Q E s:=by
 obtain ⟨mb,a,b⟩:=I.mod.blt
 exact Calls.Name_function_global I.ok.kind d (Calls.loadGlobal_builtin (by rw [I.ok.glob];exact I.mod.glob.keeps I.bk) hm (by rw [I.ok.blt];exact a.keeps I.bk) ((b x hn).trans c) h) hd
theorem aww {x:Str} {v:V} {u:Value} {pos:Pos} (a:Gl X x) (hm:X.mg x=some u) (r:RelV v u) (hd:(x == ("__debug__" : Str))=false:=by decide):PE X (.Name x pos) (tC v) :=
 fun _ _ _ H _ I h=>aot I a hm ⟨v,H,I,r,h⟩ hd
theorem afl {x:Str} {v:V} {u:Value} {pos:Pos} (b:Gl X x) (hm:X.mg x=none) (a:bootBuiltins x=some u) (r:RelV v u) (hn:x ≠ "__name__":=by decide) (hd:(x == ("__debug__" : Str))=false:=by decide):PE X (.Name x pos) (tC v) :=
 fun _ _ _ H _ I h=>adp I b hm a ⟨v,H,I,r,h⟩ hn hd
variable {a b:Expr} {ta tb:TE} {pos:Pos}
def PC (X:Cx) (op:CmpOp) (a b:Expr) (t:TE):Prop :=
 ∀ (pins:List (Addr × Obj)) (s:Shared) (σ:St) (H:Hp) (Q:VK),Inv X pins σ H s->t σ H Q ->
  wpAny (model X.prog X.w) X.A (eval a X.env) (fun v s₁=>wpAny (model X.prog X.w) X.A (eval b X.env) (fun u s₂=>wpAny (model X.prog X.w) X.A (compareOp op v u) (EP X pins σ Q) X.xe s₂) X.xe s₁) X.xe s
def tB (t:TE):TT:=fun σ H Q=>t σ H fun x H1=>∃ c,x=.bl c/\Q c H1
theorem azc {op:CmpOp} {t:TE} (h:PC X op a b t) (f:behindInMarks op b=false:=by first | exact nobehind _ (by decide) (by decide) | rfl):PT X (.Compare a [op] [b] pos) (tB t):=by
 intro pins s σ H Q I i
 refine wpAny_isTrue_Compare1 (thn (h pins s σ H _ I i) fun v s1 f=>thn f fun u s2 l=>thn l fun c o ⟨x,g,n,m,j⟩=>?_) f
 obtain ⟨d,rfl,q⟩:=j
 cases m
 exact aK5 ⟨g,n,q⟩
theorem acg {e:Expr} {t:TE} (h:PE X e t) (i:∀ whole,isTrue e X.env whole=(do let v ← whole;standAt e.pos;holding [v] (truthy v)):=by intro _;rfl):PT X e (tB t):=by
 intro pins s σ H Q I b
 refine isTrue_plain (thn (h pins s σ H _ I b) fun v s1 ⟨x,a,g,f,c⟩=>?_) (i _)
 obtain ⟨d,rfl,q⟩:=c
 cases f
 exact aK5 ⟨a,g,q⟩
variable {tA tB':TT} {rest:List Expr}
def tAnd (t u:TT):TT:=fun σ H Q=>t σ H fun c H1=>if c=true then u σ H1 Q else Q false H1
def tOr (t u:TT):TT:=fun σ H Q=>t σ H fun c H1=>if c=true then Q true H1 else u σ H1 Q
def tNot (t:TT):TT:=fun σ H Q=>t σ H fun c H1=>Q (!c) H1
theorem aji (ha:PT X a tA):PW X (.BoolOp .And [a] pos) tA:=by
 intro b pins s σ H Q I h
 refine isTrue_and (thn (ha pins s σ H Q I h) fun c s1 e=>?_)
 cases c with
 | true=>exact isTrue_and_nil e
 | false=>exact e
theorem adq (ha:PT X a tA):PW X (.BoolOp .Or [a] pos) tA:=by
 intro b pins s σ H Q I h
 refine isTrue_or (thn (ha pins s σ H Q I h) fun c s1 e=>?_)
 cases c with
 | false=>exact isTrue_or_nil e
 | true=>exact e
theorem ame (ha:PT X a tA) (hb:PW X (.BoolOp .And (b :: rest) pos) tB'):PW X (.BoolOp .And (a :: b :: rest) pos) (tAnd tA tB'):=by
 intro i pins s σ H Q I h
 refine isTrue_and (thn (ha pins s σ H _ I h) fun c s1 ⟨d,g,f⟩=>?_)
 cases c with
 | true=>exact hb i pins s1 σ d Q g f
 | false=>exact ⟨d,g,f⟩
theorem adi (ha:PT X a tA) (hb:PW X (.BoolOp .Or (b :: rest) pos) tB'):PW X (.BoolOp .Or (a :: b :: rest) pos) (tOr tA tB'):=by
 intro i pins s σ H Q I h
 refine isTrue_or (thn (ha pins s σ H _ I h) fun c s1 ⟨d,g,f⟩=>?_)
 cases c with
 | true=>exact ⟨d,g,f⟩
 | false=>exact hb i pins s1 σ d Q g f
theorem ach (ha:PT X a tA):PT X (.UnaryOp .Not a pos) (tNot tA):=by
 intro pins s σ H Q I h
 exact isTrue_not (ha pins s σ H (fun c b=>Q (!c) b) I h)
def aqa (ta tb:TE):TE:=fun σ H Q=>ta σ H fun x H1=>∃ c,x=.bl c/\if c=true then tb σ H1 Q else Q (.bl false) H1
def aqb (ta:TE):TE:=fun σ H Q=>ta σ H fun x H1=>∃ c,x=.bl c/\Q (.bl (!c)) H1
theorem aei {op} {t:TE} (h:PE X a t):PE X (.BoolOp op [a] pos) t:=fun pins s σ H Q I b=>BoolOp_one (h pins s σ H Q I b)
theorem adr (ha:PE X a ta) (hb:PE X (.BoolOp .And (b :: rest) pos) tb):PE X (.BoolOp .And (a :: b :: rest) pos) (aqa ta tb):=by
 intro pins s σ H Q I h
 refine BoolOp_and (thn (ha pins s σ H _ I h) fun v s1 ⟨x,f,g,i,d⟩=>?_)
 obtain ⟨c,rfl,d⟩:=d
 cases i
 refine aK5 ?_
 cases c with
 | true=>exact hb pins s1 σ f Q g d
 | false=>exact ⟨.bl false,f,g,rfl,d⟩
theorem azd (ha:PE X a ta):PE X (.UnaryOp .Not a pos) (aqb ta):=by
 intro pins s σ H Q I h
 refine UnaryOp_ (thn (ha pins s σ H _ I h) fun v s1 ⟨x,d,g,f,b⟩=>?_)
 obtain ⟨c,rfl,b⟩:=b
 cases f
 exact not_of (aK5 ⟨.bl (!c),d,g,rfl,b⟩)
end
def SqL (K:Frag) (H:Hp) (a:Addr) (xs:List V):Prop :=
 Rd H a (.lst xs) ∨
  ∃ (o:Obj) (its:Array Value) (n:Nat),K.lookup a=some o/\o.cls=.type "list"/\o.dict=none/\o.data=.seq its n/\its.size<=sizeLine/\Vals xs its.toList
def SqT (K:Frag) (H:Hp) (a:Addr) (xs:List V):Prop :=
 Rd H a (.tup xs) ∨
  ∃ (o:Obj) (its:Array Value) (n:Nat),K.lookup a=some o/\o.cls=.type "tuple"/\o.data=.seq its n/\its.size<=sizeLine/\Vals xs its.toList
def absV:Value->Option V
 | .none=>some .non
 | .bool b=>some (.bl b)
 | .int i _=>some (.int i)
 | .str x _=>some (.str x)
 | .bytes b _=>some (.byt b)
 | .float b _=>some (.flt b)
 | .ref a=>some (.ref a)
 | .type n=>some (.ty n)
 | _=>none
theorem RelV.abs {x:V} {u:Value} (r:RelV x u):absV u=some x:=by
 cases x with
 | non=>cases r;rfl
 | bl _=>cases r;rfl
 | int _=>obtain ⟨t,rfl⟩:=r;rfl
 | str _=>obtain ⟨t,rfl⟩:=r;rfl
 | byt _=>obtain ⟨t,rfl⟩:=r;rfl
 | flt _=>obtain ⟨t,rfl⟩:=r;rfl
 | ref _=>cases r;rfl
 | ty _=>cases r;rfl
theorem RelV.inj {x y:V} {u:Value} (r:RelV x u) (q:RelV y u):x=y:=aC6 (r.abs.symm.trans q.abs)
theorem Vals.inj:∀ {xs ys:List V} {us:List Value},Vals xs us->Vals ys us->xs=ys
 | _,_,_,.nil,.nil=>rfl
 | _,_,_,.cons r t,.cons r' t'=>by rw [r.inj r',Vals.inj t t']
section
variable {X:Cx} {pins:List (Addr × Obj)} {σ:St} {H:Hp} {s:Shared} {a:Addr} {xs ys:List V}
theorem SqL.of {K:Frag} (h:H a=some (.lst xs)):SqL K H a xs:=.inl (.inl h)
theorem SqT.of {K:Frag} (h:H a=some (.tup xs)):SqT K H a xs:=.inl (.inl h)
theorem Inv.list (I:Inv X pins σ H s) (h:SqL X.K H a xs):∃ its:List Value,Vals xs its/\PlainL s.heap a its.toArray/\xs.length<=sizeLine:=by
 rcases h with h | ⟨o,its,n,b,c,hd,hs,d,r⟩
 ·obtain ⟨z,its,n,r,e⟩:=h.ok I.hok
  exact ⟨its,r,⟨_,n,e,rfl,rfl,rfl⟩,z⟩
 ·refine ⟨its.toList,r,⟨o,n,I.kIn a o b,c,hd,by simpa using hs⟩,?_⟩
  have e:=r.length
  simp only [aA8] at e
  omega
theorem Inv.tuple (I:Inv X pins σ H s) (h:SqT X.K H a xs):∃ its:List Value,Vals xs its/\IsTup s.heap a its.toArray/\xs.length<=sizeLine:=by
 rcases h with h | ⟨o,its,n,b,c,hs,d,r⟩
 ·obtain ⟨z,its,r,p⟩:=h.ok I.hok
  exact ⟨its,r,p,z⟩
 ·refine ⟨its.toList,r,⟨o,I.kIn a o b,c,n,by simpa using hs⟩,?_⟩
  have e:=r.length
  simp only [aA8] at e
  omega
theorem Inv.list_inj (I:Inv X pins σ H s) (h:SqL X.K H a xs) (h':SqL X.K H a ys):xs=ys:=by
 obtain ⟨its,r,⟨o,n,e,_,_,d⟩,_⟩:=I.list h
 obtain ⟨its',f,⟨o',g,b,_,_,d'⟩,_⟩:=I.list h'
 rw [e] at b;cases b
 rw [d] at d'
 injection d' with c _
 have:its=its':=by simpa using congrArg Array.toList c
 subst this
 exact r.inj f
end
abbrev Cx.wish (X:Cx) (E:Value->Shared->Prop):Cx:={ X with xe:=E }
abbrev Cx.nox (X:Cx):Cx:=X.wish fun _ _=>False
theorem Cx.Ok.wish {X:Cx} (ok:X.Ok) (E:Value->Shared->Prop):(X.wish E).Ok :=
 ⟨ok.mod,ok.kind,ok.glob,ok.blt,ok.above,ok.inj,ok.has,ok.cab,ok.hd,ok.frames,ok.stk,ok.exf,ok.bs,ok.bsz,ok.noex,ok.exfs,ok.funs,ok.frf⟩
theorem Cx.Ok.unwish {X:Cx} {E:Value->Shared->Prop} (ok:(X.wish E).Ok):X.Ok :=
 ⟨ok.mod,ok.kind,ok.glob,ok.blt,ok.above,ok.inj,ok.has,ok.cab,ok.hd,ok.frames,ok.stk,ok.exf,ok.bs,ok.bsz,ok.noex,ok.exfs,ok.funs,ok.frf⟩
section
variable {X:Cx} {pins:List (Addr × Obj)} {σ:St} {H:Hp} {s:Shared} {E:Value->Shared->Prop}
theorem Inv.wish (I:Inv X pins σ H s) (E:Value->Shared->Prop):Inv (X.wish E) pins σ H s:=⟨I.ok.wish E,I.os,I.bare,I.base,I.loc,I.cell,I.free,I.freeC,I.pin,I.hok,I.len⟩
theorem Inv.unwish (I:Inv (X.wish E) pins σ H s):Inv X pins σ H s:=⟨I.ok.unwish,I.os,I.bare,I.base,I.loc,I.cell,I.free,I.freeC,I.pin,I.hok,I.len⟩
theorem SP.unwish {D:Ends} {f:Flow} {s':Shared} (h:SP (X.wish E) pins D f s'):SP X pins D f s':=by
 cases f with
 | next=>obtain ⟨a,H',I,q⟩:=h;exact ⟨a,H',I.unwish,q⟩
 | brk=>obtain ⟨a,H',I,q⟩:=h;exact ⟨a,H',I.unwish,q⟩
 | cont=>obtain ⟨a,H',I,q⟩:=h;exact ⟨a,H',I.unwish,q⟩
 | ret u=>obtain ⟨v,a,H',I,r,q⟩:=h;exact ⟨v,a,H',I.unwish,r,q⟩
theorem PSs.nox {st:List Stmt} {t:TS} (h:PSs X.nox st t):PSs X st t:=fun pins s σ H D I a =>
 aK0 (h pins s σ H D (I.wish _) a) (fun _ _ q=>q.unwish) fun _ _ z=>False.elim z
end
section
variable {X:Cx} {st:Stmt} {rest:List Stmt} {t u:TS} {e:Expr} {te:TE} {pos:Pos}
def av7:TS:=fun D σ H=>D.nx σ H
def tSeq (t u:TS):TS:=fun D σ H=>t { D with nx:=u D } σ H
theorem aa0:PSs X [] av7:=fun _ _ σ H _ I h=>wpAny_execs_nil ⟨σ,H,I,h⟩
theorem aac (b:PS X st t) (d:PSs X rest u):PSs X (st :: rest) (tSeq t u):=by
 intro pins s σ H D I h
 refine wpAny_execs_cons (thn (b pins s σ H { D with nx:=u D } I h) fun f s1 q=>?_)
 cases f with
 | next =>
  obtain ⟨a,H',c,q⟩:=q
  exact d pins s1 a H' D c q
 | ret v=>exact q
 | brk=>exact q
 | cont=>exact q
theorem aaf (a:PS X st t):PSs X [st] t:=by
 intro pins s σ H D I h
 refine wpAny_execs_cons (thn (a pins s σ H D I h) fun f s1 q=>?_)
 cases f with
 | next=>exact wpAny_execs_nil q
 | ret v=>exact q
 | brk=>exact q
 | cont=>exact q
theorem Inv.quiet {pins:List (Addr × Obj)} {σ:St} {H:Hp} {s:Shared} (I:Inv X pins σ H s):interactive X.env=false:=by simp [interactive,I.ok.kind]
def av8 (te:TE):TS:=fun D σ H=>te σ H fun _ H1=>D.nx σ H1
theorem abh (d:PE X e te) (hs:swapsWith e none pos.line X.env=pure false:=by rfl):PS X (.Expr e pos) (av8 te):=by
 intro pins s σ H D I h
 exact wpAny_Expr_any (thn (d pins s σ H _ I h) fun v s1 ⟨x,a,c,f,b⟩=>⟨σ,a,c,b⟩) I.quiet hs
def tRet (te:TE):TS:=fun D σ H=>te σ H D.rt
theorem aar (f:PE X e te):PS X (.Return (some e) pos) (tRet te):=by
 intro pins s σ H D I h
 exact wpAny_Return_some (thn (f pins s σ H _ I h) fun v s1 ⟨x,a,d,c,b⟩=>⟨x,σ,a,d,c,b⟩)
def tIfS (c:TT) (t u:TS):TS:=fun D σ H=>c σ H fun b H1=>if b=true then t D σ H1 else u D σ H1
theorem abc {c:Expr} {a b:List Stmt} {i:TT} (l:PT X c i) (ha:PSs X a t) (hb:PSs X b u):PS X (.If c a b pos) (tIfS i t u):=by
 intro pins s σ H D I h
 refine wpAny_If (thn (l pins s σ H _ I h) fun d s1 ⟨f,j,g⟩=>?_)
 cases d with
 | true=>exact ha pins s1 σ f D j g
 | false=>exact hb pins s1 σ f D j g
def aze:TS:=fun _ _ _=>False
theorem aey:PS X st aze:=fun _ _ _ _ _ _ h=>h.elim
end
abbrev TG:=V->St->Hp->(St->Hp->Prop)->Prop
abbrev TGs:=List V->St->Hp->(St->Hp->Prop)->Prop
def PG (X:Cx) (target:Expr) (t:TG):Prop :=
 ∀ (pins:List (Addr × Obj)) (s:Shared) (σ:St) (H:Hp) (v:V) (u:Value) (Q:St->Hp->Prop),Inv X pins σ H s->RelV v u->t v σ H Q ->
  wpAny (model X.prog X.w) X.A (assign target X.env u) (fun _ s'=>∃ σ' H',Inv X pins σ' H' s'/\Q σ' H') X.xe s
def PGs (X:Cx) (ts:List Expr) (t:TGs):Prop :=
 ∀ (pins:List (Addr × Obj)) (s:Shared) (σ:St) (H:Hp) (vs:List V) (us:List Value) (Q:St->Hp->Prop),Inv X pins σ H s->Vals vs us->t vs σ H Q ->
  wpAny (model X.prog X.w) X.A (assignInOrder ((assignEach ts X.env).map (·.2)) us) (fun _ s'=>∃ σ' H',Inv X pins σ' H' s'/\Q σ' H') X.xe s
abbrev TSet:=V->V->V->Hp->(Hp->Prop)->Prop
def PSet (X:Cx) (t:TSet):Prop :=
 ∀ (pins:List (Addr × Obj)) (s:Shared) (σ:St) (H:Hp) (o i v:V) (ov iv u:Value) (Q:Hp->Prop),Inv X pins σ H s->RelV o ov->RelV i iv->RelV v u->t o i v H Q ->
  wpAny (model X.prog X.w) X.A (setItem ov iv u) (fun _ s'=>∃ H',Inv X pins σ H' s'/\Q H') X.xe s
section
variable {X:Cx} {pos:Pos}
def aa1 (i:Nat):TG:=fun v σ H Q=>Q (σ.set i (some v)) H
theorem aak {i:Nat} {x:Str} (a:X.N.Nodup) (hi:X.N[i]?=some x) (c:Loc X.env.scope x) (hf:X.fn x=true\/X.env.scope.names.lookup x=some .local:=by first | exact .inl rfl | exact .inr rfl | assumption):PG X (.Name x pos) (aa1 i):=by
 intro pins s σ H v u Q I r h
 exact wpAny_assign_Name (store_ok I a hi c r (fun s' b=>⟨_,H,b,h⟩) hf)
def gNil:TGs:=fun vs σ H Q=>vs=[]/\Q σ H
def ae8 (t:TG) (u:TGs):TGs:=fun vs σ H Q=>∃ v r,vs=v :: r/\t v σ H fun σ' H'=>u r σ' H' Q
theorem acs:PGs X [] gNil:=by
 intro pins s σ H vs us Q I r h
 obtain ⟨e,h⟩:=h
 subst e
 cases r
 exact assignInOrder_nil ⟨σ,H,I,h⟩
theorem aa2 {e:Expr} {es:List Expr} {t:TG} {u:TGs} (d:PG X e t) (f:PGs X es u)
  (hs:(assignEach (e :: es) X.env).map (·.2)=assign e X.env :: (assignEach es X.env).map (·.2):=by rfl):PGs X (e :: es) (ae8 t u):=by
 intro pins s σ H vs us Q I r h
 obtain ⟨v,j,g,h⟩:=h
 subst g
 cases r with
 | cons r rr =>
  rw [hs]
  refine assignInOrder_cons (thn (d pins s σ H _ _ _ I r h) fun _ s1 ⟨a,b,i,c⟩=>?_)
  exact f pins s1 a b _ _ Q i rr c
def gTup (K:Frag) (n:Nat) (t:TGs):TG:=fun v σ H Q=>∃ a xs,v=.ref a/\SqT K H a xs/\xs.length=n/\t xs σ H Q
theorem ade {es:List Expr} {k:Nat} {t:TGs} {n:Nat} (m:X.calm=true) (h:PGs X es t)
  (hn:(assignEach es X.env).length=n:=by rfl) (d:(assignEach es X.env).findIdx? (·.1)=none:=by rfl):PG X (.Tuple es k pos) (gTup X.K n t):=by
 intro pins s σ H v u Q I r c
 obtain ⟨a,xs,p,g,j,c⟩:=c
 subst p
 cases r
 obtain ⟨its,f,i,w⟩:=I.tuple g
 refine assign_Tuple_tuple (I.ok.hd m) i (by simp [hn,← j,f.length]) d fun h' l=>?_
 have q:Inv X pins σ H { s with heap:=h' }:=I.kept (t':=s.toks) fun b o e=>l b o (aB6 (aJ5 e)) e
 exact h pins _ σ H xs _ Q q (by simpa using f) c
def gSub (to ti:TE) (t:TSet):TG:=fun v σ H Q=>to σ H fun o H1=>ti σ H1 fun i H2=>t o i v H2 fun H3=>Q σ H3
theorem amf {o i:Expr} {to c:TE} {t:TSet} (g:PE X o to) (hi:PE X i c) (hs:PSet X t)
  (ha:∀ v,assign (.Subscript o i pos) X.env v=(do
   let a ← holding [v] (eval o X.env)
   let b ← holding [v,a] (eval i X.env)
   standAt pos
   holding [v,a,b] (setItem a b v)
   release [v,a,b] []):=by intro _;rfl):PG X (.Subscript o i pos) (gSub to c t):=by
 intro pins s σ H v u Q I r h
 rw [ha]
 refine aJ2 (aJ8 (thn (g pins s σ H _ I h) fun a s1 ⟨x,d,q,m,f⟩=>?_))
 refine aJ2 (aJ8 (thn (hi pins s1 σ d _ q f) fun b s2 ⟨y,H2,j,l,w⟩=>?_))
 refine aJ2 (wpAny_standAt (aJ2 (aJ8 (thn (hs pins s2 σ H2 x y v a b u _ j m l r w) fun _ z ⟨H3,n,p⟩=>?_))))
 exact wpAny_release ⟨σ,H3,n,p⟩
def tAsg (te:TE) (g:TG):TS:=fun D σ H=>te σ H fun x H1=>g x σ H1 D.nx
theorem adf {tg e:Expr} {te:TE} {g:TG} (l:PE X e te) (i:PG X tg g) (hs:swapsWithSole [tg] e pos.line X.env=pure false:=by rfl) (b:swappedStores [tg] e X.env=pure none:=by rfl)
  (d:(assignEach [tg] X.env).map (·.2)=[assign tg X.env]:=by rfl):PS X (.Assign [tg] e pos) (tAsg te g):=by
 intro pins s σ H D I h
 refine wpAny_Assign_stores (thn (l pins s σ H _ I h) fun v s1 ⟨x,a,j,f,c⟩=>?_) hs b
 rw [d]
 exact thn (i pins s1 σ a x v _ j f c) fun _ s2 q=>q
theorem aan {i:Nat} {x:Str} {e:Expr} {te:TE} {a:Pos} (g:X.N.Nodup) (hi:X.N[i]?=some x) (f:Loc X.env.scope x) (m:PE X e te) (hs:swapsWith e (some (.Name x a)) pos.line X.env=pure false:=by rfl) (hf:X.fn x=true\/X.env.scope.names.lookup x=some .local:=by first | exact .inl rfl | exact .inr rfl | assumption) :
  PS X (.Assign [.Name x a] e pos) (tAsg te (aa1 i)):=by
 intro pins s σ H D I h
 refine wpAny_Assign_Name (thn (m pins s σ H _ I h) fun v s1 ⟨y,b,l,j,c⟩=>?_) hs
 exact store_ok l g hi f j (fun s2 d=>⟨_,b,d,c⟩) hf
end
section
variable {X:Cx} {pos:Pos}
def arl (c:TT) (tb:TS):TS:=fun D σ H=>∃ W:Nat->St->Hp->Prop,(∃ m,W m σ H)/\∀ m σ H,W m σ H ->
 c σ H fun b H1=>if b=true then ∃ N:St->Hp->Prop,(∀ σ' H',N σ' H'->∃ m',m' < m/\W m' σ' H')/\tb { D with nx:=N,ct:=N,bk:=D.nx } σ H1 else D.nx σ H1
theorem ah2 {c:Expr} {body:List Stmt} {u:TT} {B:TS} (z:PassesOwn (model X.prog X.w) X.A X.env X.xe) (F:PT X c u) (hb:PSs X body B):PS X (.While c body [] pos) (arl u B):=by
 intro pins s σ H D I h
 obtain ⟨W,⟨C,G⟩,i⟩:=h
 refine wpAny_While (codeAny_whileLoop (fun n s'=>∃ g H',Inv X pins g H' s'/\W n g H') ?_ C ⟨σ,H,I,G⟩)
 rintro n s1 ⟨d,r,J,E⟩
 refine wpAny_passesOwn z (thn (F pins s1 d r _ J (i n d r E)) fun b s2 ⟨H2,x,l⟩=>?_)
 cases b with
 | true =>
  obtain ⟨N,y,l⟩:=l
  rw [aF6 rfl]
  refine wpAny_passesOwn z (thn (hb pins s2 d H2 _ x l) fun f K j=>?_)
  cases f with
  | next =>
   obtain ⟨a,H3,q,o⟩:=j
   obtain ⟨p,hm,m⟩:=y a H3 o
   exact ⟨p,hm,a,H3,q,m⟩
  | cont =>
   obtain ⟨a,H3,q,o⟩:=j
   obtain ⟨p,hm,m⟩:=y a H3 o
   exact ⟨p,hm,a,H3,q,m⟩
  | brk=>exact j
  | ret v=>exact j
 | false =>
  rw [aF7 aB0]
  exact wpAny_execs_nil ⟨d,H2,x,l⟩
end
structure It where
 go:Nat->Hp->Prop
 yld:Nat->Hp->V->Hp->Prop
 stop:Nat->Hp->Prop
def FpOk (X:Cx) (pins:List (Addr × Obj)) (H:Hp) (b:Addr):Prop :=
 H b=none/\b ≠ X.env.locals/\b ∉ X.fs/\(b∈X.ex\/X.s₀.heap.objs.size<=b)/\(∀ x c,X.env.cells.lookup x=some c->c ≠ b)/\∀ p∈X.pn ++ pins,p.1 ≠ b
theorem Inv.fpOk {X:Cx} {pins:List (Addr × Obj)} {σ:St} {H H':Hp} {s:Shared} {b:Addr} (I:Inv X pins σ H s) (hb:s.heap.objs.size<=b) (hn:H' b=none):FpOk X pins H' b:=by
 refine ⟨hn,Nat.ne_of_gt (aC5 I.lt hb),I.nofs hb,.inr (aD0 I.sz hb),fun x c e z=>?_,fun p a z=>?_⟩
 ·obtain ⟨v,q⟩:=I.cell x c e
  exact absurd (aC5 q.lt (by rw [z];exact hb)) (aG5 _)
 ·exact absurd (aC5 (aJ5 (I.pin p a).1) (by rw [z];exact hb)) (aG5 _)
structure Turn (P:Program) (w:World) (K:Frag) (tg:Expr) (J:It) (fp:List Addr) (it:Addr) (tn:Nat->Heap->Prop):Prop where
 mem:it∈fp
 obj:∀ i h,tn i h->∀ b∈fp,∃ o,h.get? b=some o/\∀ v,o.data ≠ .cell v
 keep:∀ i h h',tn i h->(∀ b∈fp,∀ o,h.get? b=some o->h'.get? b=some o)->tn i h'
 item:∀ (X:Cx),X.prog=P->X.w=w->X.K=K->X.calm=true->∀ (i:Nat) (pins:List (Addr × Obj)) (s:Shared) (σ:St) (H:Hp) (E:Value->Shared->Prop),Inv X pins σ H s->(∀ b∈fp,FpOk X pins H b)->tn i s.heap->J.go i H ->
  wpAny (model P w) X.A (pyNext (.ref it)) (fun r s1=>∃ u,r=some u /\
   wpAny (model P w) X.A (letOwnedTupleGo tg (.ref it) u) (fun _ s2=>∃ x H',Inv X pins σ H' s2/\RelV x u/\J.yld i H x H'/\tn (i+1) s2.heap/\∀ b∈fp,H' b=none) E s1) E s
 done:∀ (X:Cx),X.prog=P->X.w=w->X.K=K->X.calm=true->∀ (i:Nat) (pins:List (Addr × Obj)) (s:Shared) (σ:St) (H:Hp) (E:Value->Shared->Prop),Inv X pins σ H s->(∀ b∈fp,FpOk X pins H b)->tn i s.heap->J.stop i H ->
  wpAny (model P w) X.A (pyNext (.ref it)) (fun r s1=>r=none/\Inv X pins σ H s1) E s
 self:∀ (A:Around) (i:Nat) (s:Shared) (Q:Value->Shared->Prop) (E:Value->Shared->Prop),tn i s.heap->Q (.ref it) s->wpAny (model P w) A (pyIter (.ref it)) Q E s
abbrev TI:=St->Hp->(It->Hp->Prop)->Prop
def PIE (X:Cx) (pins:List (Addr × Obj)) (σ:St) (tg:Expr) (R:It->Hp->Prop) (itv:Value) (s2:Shared):Prop :=
 ∃ (it:Addr) (fp:List Addr) (tn:Nat->Heap->Prop) (J:It) (H':Hp),itv=.ref it/\Inv X pins σ H' s2/\Turn X.prog X.w X.K tg J fp it tn/\tn 0 s2.heap/\(∀ b∈fp,FpOk X pins H' b)/\R J H'
def PI (X:Cx) (tg iter:Expr) (wi:TI):Prop :=
 ∀ (pins:List (Addr × Obj)) (s:Shared) (σ:St) (H:Hp) (R:It->Hp->Prop),Inv X pins σ H s->wi σ H R ->
  wpAny (model X.prog X.w) X.A (eval iter X.env) (fun v s1=>wpAny (model X.prog X.w) X.A (pyIter v) (PIE X pins σ tg R) X.xe s1) X.xe s
theorem av9 {M:Model} {A:Around} {E:Value->Shared->Prop} {s:Shared} {tg:Expr} {it:Addr} {u:Value} {o:Obj} {n:String} {vs:Array Value} {Q:Unit->Shared->Prop} (c:s.heap.get? it=some o) (b:o.cls=.type n) (hd:o.data=.fields vs)
  (hn:["enumerate","zip","dict_itemiterator","dict_reverseitemiterator","odict_iterator","itertools.zip_longest","itertools.pairwise"].contains n=false) (a:Q () s):wpAny M A (letOwnedTupleGo tg (.ref it) u) Q E s:=by
 unfold letOwnedTupleGo
 cases tg <;> first
  | exact aJ3 a
  | (cases u <;> first
    | exact aJ3 a
    | (refine aJ2 (wpAny_load c ?_)
       rw [b,hd]
       show wpAny M A (if (["enumerate","zip","dict_itemiterator","dict_reverseitemiterator","odict_iterator","itertools.zip_longest","itertools.pairwise"].contains n && vs[0]? == some (rawInt _))=true then _ else _) Q E s
       rw [aF7 (by intro h;rw [hn,Bool.false_and] at h;cases h)]
       exact aJ3 a))
def Itl (K:Frag) (a:Addr):It :=
 ⟨fun i H=>∃ xs x,SqL K H a xs/\xs[i]?=some x,fun i H x H'=>H'=H/\∀ xs,SqL K H a xs->xs[i]?=some x,fun i H=>∃ xs,SqL K H a xs/\xs.length<=i⟩
def Itr (lo:Int) (n:Nat):It:=⟨fun i _=>i < n,fun i H x H'=>H'=H/\x=.int (lo+i),fun i _=>n<=i⟩
theorem arm {P:Program} {w:World} {K:Frag} {tg:Expr} (a it:Addr):Turn P w K tg (Itl K a) [it] it (fun i h=>h.IsListIter it a i) where
 mem:=by simp
 obj:=fun i h st b hb=>by
  have e:b=it:=by simpa using hb
  subst e
  obtain ⟨o,e,c,d⟩:=st
  exact ⟨o,e,fun v z=>by rw [d] at z;cases z⟩
 keep:=fun i h h' st k=>st.at fun o e=>k it (by simp) o e
 item:=by
  intro X A g n C i pins s σ H E I hf st y
  subst A g n
  obtain ⟨xs,x,f,q⟩:=y
  obtain ⟨its,m,p,G⟩:=I.list f
  obtain ⟨u,D,L⟩:=m.get q
  obtain ⟨r,f1,J,j,l,B⟩:=hf it (by simp)
  refine wpAny_pyNext_list_item st p.isList (x:=u) (by simpa using D) fun h' st' sb=>?_
  have N:Inv X pins σ H { s with heap:=h' }:=I.turned (t':=s.toks) (fun b o hb e=>(sb.2 b hb).trans e) r f1 j l B
  obtain ⟨o,e,c,d⟩:=id st'
  exact ⟨u,rfl,av9 (s:={ s with heap:=h' }) e c d (by decide) ⟨x,H,N,L,⟨rfl,fun ys M=>by rw [I.list_inj M f];exact q⟩,st',fun b hb=>(hf b hb).1⟩⟩
 done:=by
  intro X A g n C i pins s σ H E I hf st y
  subst A g n
  obtain ⟨xs,f,q⟩:=y
  obtain ⟨its,m,p,G⟩:=I.list f
  obtain ⟨r,f1,J,j,l,B⟩:=hf it (by simp)
  have O:=m.length
  exact wpAny_pyNext_list_end (I.ok.hd C) st p.isList (by simp;omega) fun h' F=>⟨rfl,I.turned (t':=s.toks) (fun b o hb e=>F b o hb e) r f1 j l B⟩
 self:=fun _ _ _ _ _ st h=>wpAny_pyIter_listiter st h
theorem aqc {P:Program} {w:World} {K:Frag} {tg:Expr} (it:Addr) (lo:Int) (n:Nat):Turn P w K tg (Itr lo n) [it] it (fun i h=>IsRangeIter h it (lo+(i:Nat) * 1) ((n:Int) - (i:Nat)) 1) where
 mem:=by simp
 obj:=fun i h st b hb=>by
  have e:b=it:=by simpa using hb
  subst e
  exact ⟨_,st,fun v z=>by
   have A:Data.fields _=Data.cell v:=z
   cases A⟩
 keep:=fun i h h' st k=>k it (by simp) _ st
 item:=by
  intro X m a f j i pins s σ H E I hf st l
  subst m a f
  obtain ⟨g,f1,u,c,d,p⟩:=hf it (by simp)
  have W:=Walks.range (prog:=X.prog) (w:=X.w) (I.ok.hd j) it lo 1 n
  refine W.item i s _ _ l st fun v h' q y st' x=>?_
  obtain ⟨t,rfl⟩:=y
  have B:Inv X pins σ H { s with heap:=h',toks:=q }:=I.turned (fun b o hb e=>x b o (by simpa using hb) e) g f1 c d p
  refine ⟨_,rfl,av9 (s:={ s with heap:=h',toks:=q }) (n:="range_iterator") st' rfl rfl (by decide) ⟨.int (lo+i),H,B,⟨t,?_⟩,⟨rfl,rfl⟩,st',fun b hb=>(hf b hb).1⟩⟩
  rw [Int.mul_one]
 done:=by
  intro X m a f j i pins s σ H E I hf st l
  subst m a f
  obtain ⟨g,f1,u,c,d,p⟩:=hf it (by simp)
  exact wpAny_pyNext_range_end (I.ok.hd j) st (by have:n<=i:=l;omega) fun h' r=>⟨rfl,I.turned (t':=s.toks) (fun b o hb e=>r b o hb e) g f1 c d p⟩
 self:=fun _ _ _ _ _ st h=>wpAny_pyIter_rangeiter st h
section
variable {X:Cx} {tg:Expr}
def aly (K:Frag) (tl:TE):TI:=fun σ H R=>tl σ H fun x H1=>∃ a,x=.ref a/\(∃ xs,SqL K H1 a xs)/\R (Itl K a) H1
theorem abe {l:Expr} {tl:TE} (i:PE X l tl):PI X tg l (aly X.K tl):=by
 intro pins s σ H R I h
 refine thn (i pins s σ H _ I h) fun v s1 ⟨x,d,c,j,f⟩=>?_
 obtain ⟨a,e,⟨xs,g⟩,q⟩:=f
 subst e
 cases j
 obtain ⟨its,n,p,m⟩:=c.list g
 refine aK6 p.isList ?_
 refine ⟨s1.heap.objs.size,[s1.heap.objs.size],_,_,d,rfl,c.kept (t':=s1.toks) fun b o e=>aJ4 _ e,arm a _,⟨_,aJ6 _ rfl,rfl,rfl⟩,fun b hb=>?_,q⟩
 have e:b=s1.heap.objs.size:=by simpa using hb
 subst e
 exact c.fpOk (aA6 _) (c.hok.fresh (aA6 _))
theorem amg {pins:List (Addr × Obj)} {σ:St} {H:Hp} {s:Shared} {R:It->Hp->Prop} {E:Value->Shared->Prop} {lo hi:Int} {t u v:Tok} {a:Nat} (I:Inv X pins σ H s) (d : -(2 ^ 62)<=lo) (f:lo < 2 ^ 62) (j : -(2 ^ 62)<=hi) (g:hi < 2 ^ 62)
  (q:R (Itr lo (hi - lo).toNat) H):wpAny (model X.prog X.w) X.A (pyIter (.ref s.heap.objs.size)) (PIE X pins σ tg R) E { s with heap:=s.heap.push { cls:=.type "range",data:=.fields #[.int lo t,.int hi u,.int 1 v] },toks:=a }:=by
 refine wpAny_pyIter_range (IsRange.new ..) (small_one d f j g) ?_
 have c:Inv X pins σ H { s with heap:=s.heap.push { cls:=.type "range",data:=.fields #[.int lo t,.int hi u,.int 1 v] },toks:=a }:=I.kept fun b o e=>aJ4 _ e
 refine ⟨(s.heap.push { cls:=.type "range",data:=.fields #[.int lo t,.int hi u,.int 1 v] }).objs.size,[(s.heap.push { cls:=.type "range",data:=.fields #[.int lo t,.int hi u,.int 1 v] }).objs.size],_,_,H,rfl,
  c.kept (t':=a) fun b o e=>aJ4 _ e,aqc _ lo (hi - lo).toNat,?_,fun b hb=>?_,q⟩
 ·have h:lo+((0:Nat):Int) * 1=lo:=by simp
  have i:(((hi - lo).toNat:Nat):Int) - ((0:Nat):Int)=Builtin.Range.rangeSize lo hi 1:=by rw [rangeSize_one];split <;> omega
  show IsRangeIter _ _ (lo+((0:Nat):Int) * 1) ((((hi - lo).toNat:Nat):Int) - ((0:Nat):Int)) 1
  rw [h,i]
  exact aJ6 _ rfl
 ·have e:b=(s.heap.push { cls:=.type "range",data:=.fields #[.int lo t,.int hi u,.int 1 v] }).objs.size:=by simpa using hb
  subst e
  exact c.fpOk (aA6 _) (c.hok.fresh (aA6 _))
def awa (ta:TA):TI:=fun σ H R=>ta σ H fun vs H1=>∃ j:Int,vs=[.int j]/\-(2 ^ 62)<=j/\j < 2 ^ 62/\R (Itr 0 j.toNat) H1
def awb (ta:TA):TI:=fun σ H R=>ta σ H fun vs H1=>∃ i j:Int,vs=[.int i,.int j]/\(-(2 ^ 62)<=i/\i < 2 ^ 62/\-(2 ^ 62)<=j/\j < 2 ^ 62)/\R (Itr i (j - i).toNat) H1
theorem abi {a:Expr} {c:TA} {p pos:Pos} (f:Gl X "range") (hm:X.mg "range" = none) (ha:PA X [a] c) (hs:starEach [a] X.env=[(false,eval a X.env)]:=by rfl):PI X tg (.Call (.Name "range" p) [a] [] pos) (awa c):=by
 intro pins s σ H R I h
 refine Call_ (adp I f hm boot_range (PyProof.Rows.callWith_type1 (thn (ha pos pins s σ H _ I h) fun us s1 ⟨vs,l,g,d,b⟩=>?_) hs rfl))
 obtain ⟨j,e,b,i,q⟩:=b
 subst e
 cases d with
 | cons r rr =>
  cases rr
  obtain ⟨t,rfl⟩:=r
  exact call_range_1 (amg g (by omega) (by omega) b i (by simpa using q))
theorem akg {a b:Expr} {f:TA} {p pos:Pos} (m:Gl X "range") (hm:X.mg "range" = none) (ha:PA X [a,b] f) (hs:starEach [a,b] X.env=[(false,eval a X.env),(false,eval b X.env)]:=by rfl) (c:starEach [b] X.env=[(false,eval b X.env)]:=by rfl) :
  PI X tg (.Call (.Name "range" p) [a,b] [] pos) (awb f):=by
 intro pins s σ H R I h
 refine Call_ (adp I m hm boot_range (PyProof.Rows.callWith_type1 (thn (ha pos pins s σ H _ I h) fun us s1 ⟨vs,v,o,l,d⟩=>?_) (by rw [hs,c]) (by rw [c];rfl)))
 obtain ⟨i,j,e,⟨d,u,n,g⟩,q⟩:=d
 subst e
 cases l with
 | cons r rr =>
  cases rr with
  | cons r' rr =>
   cases rr
   obtain ⟨t,rfl⟩:=r
   obtain ⟨t',rfl⟩:=r'
   exact call_range_2 (amg o d u n g q)
def tFor (wi:TI) (g:TG) (tb:TS):TS:=fun D σ H=>wi σ H fun J H1=>∃ W:Nat->Nat->St->Hp->Prop,(∃ m,W 0 m σ H1)/\∀ i m σ H,W i m σ H ->
 (J.stop i H/\D.nx σ H)\/(J.go i H/\∃ N:St->Hp->Prop,(∀ σ' H',N σ' H'->∃ m',m' < m/\W (i+1) m' σ' H')/\∀ x H',J.yld i H x H'->g x σ H' fun σ2 H2=>tb { D with nx:=N,ct:=N,bk:=D.nx } σ2 H2)
def aez (fp:List Addr) (h:Heap):List (Addr × Obj):=fp.filterMap fun b=>(h.get? b).map fun o=>(b,o)
theorem ab7 {fp:List Addr} {h:Heap} {b:Addr} {o:Obj} (hb:b∈fp) (e:h.get? b=some o):(b,o)∈aez fp h:=List.mem_filterMap.mpr ⟨b,hb,by rw [e];rfl⟩
theorem arn {fp:List Addr} {h:Heap} {p:Addr × Obj} (a:p∈aez fp h):p.1∈fp/\h.get? p.1=some p.2:=by
 obtain ⟨b,hb,e⟩:=List.mem_filterMap.mp a
 cases q:h.get? b with
 | none=>rw [q] at e;cases e
 | some o =>
  rw [q] at e
  have c:(b,o)=p:=aC6 e
  subst c
  exact ⟨hb,q⟩
theorem Inv.pinned {pins:List (Addr × Obj)} {σ:St} {H:Hp} {s:Shared} {fp:List Addr} (I:Inv X pins σ H s) (hf:∀ b∈fp,FpOk X pins H b) (f:∀ b∈fp,∃ o,s.heap.get? b=some o/\∀ v,o.data ≠ .cell v):Inv X (pins ++ aez fp s.heap) σ H s :=
 I.pins_of fun p h=>(aA7.mp h).elim (fun z=>I.pin p (aB3 _ z)) fun z=>by
  obtain ⟨hb,e⟩:=arn z
  obtain ⟨g,f1,c,_⟩:=hf p.1 hb
  obtain ⟨o,a,d⟩:=f p.1 hb
  rw [e] at a;cases a
  exact ⟨e,g,f1,c,d⟩
theorem Inv.unpinned {pins pl:List (Addr × Obj)} {σ:St} {H:Hp} {s:Shared} (I:Inv X (pins ++ pl) σ H s):Inv X pins σ H s:=I.pins_of fun p a=>I.pin p (aB3 _ (aC7 _ a))
theorem acv {iter:Expr} {body:List Stmt} {Z:TI} {g:TG} {tb:TS} {pos:Pos} (C:PassesOwn (model X.prog X.w) X.A X.env X.xe) (hc:X.calm=true) (hi:PI X tg iter Z) (hg:PG X tg g) (hb:PSs X body tb)
  (hs:∀ x,foldedSetIterable iter X.env x=pure x:=by intro _;rfl):PS X (.For tg iter body [] pos) (tFor Z g tb):=by
 intro pins s σ H D I h
 refine wpAny_For (thn (hi pins s σ H _ I h) fun v s1 h1=>thn h1 fun a0 s2 h2=>?_) hs
 obtain ⟨it,fp,tn,J,H2,e,I2,T,O,S,W,⟨m0,w0⟩,E⟩:=h2
 subst e
 -- what stays true of the iterator's objects through the loop
 have y:∀ {H':Hp},(∀ b∈fp,H' b=none)->∀ b∈fp,FpOk X pins H' b:=fun hn b hb=>⟨hn b hb,(S b hb).2⟩
 refine codeAny_forLoop_any (fun n s'=>∃ i q H',Inv X pins q H' s'/\tn i s'.heap/\(∀ b∈fp,H' b=none)/\W i n q H') ?_ m0 ⟨0,σ,H2,I2,O,fun b hb=>(S b hb).1,w0⟩
 rintro n s3 ⟨i,l,H3,U,K,G,w3⟩
 rcases E i n l H3 w3 with ⟨stop,qn⟩ | ⟨go,N,hN,step⟩
 ·refine wpAny_passesOwn C (thn (T.done X rfl rfl rfl hc i pins s3 l H3 X.xe U (y G) K stop) fun r s4 ⟨M,I4⟩=>?_)
  subst M
  exact wpAny_execs_nil ⟨l,H3,I4,qn⟩
 ·refine wpAny_passesOwn C (thn (T.item X rfl rfl rfl hc i pins s3 l H3 X.xe U (y G) K go) fun r s4 ⟨u,M,h4⟩=>?_)
  subst M
  refine wpAny_passesOwn C (thn h4 fun _ Y ⟨x,H5,I5,r5,y5,B,Q⟩=>?_)
  have L:=I5.pinned (y Q) (T.obj _ _ B)
  refine wpAny_passesOwn C (thn (hg _ Y l H5 x u _ L r5 (step x H5 y5)) fun _ s6 ⟨P,H6,I6,q6⟩=>?_)
  refine wpAny_passesOwn C (thn (hb _ s6 P H6 _ I6 q6) fun f R z=>?_)
  have p:∀ {a:St} {j:Hp},Inv X (pins ++ aez fp Y.heap) a j R->N a j->∃ m,m < n/\∃ i q H',Inv X pins q H' R/\tn i R.heap/\(∀ b∈fp,H' b=none)/\W i m q H':=fun {a j} c F=>by
   obtain ⟨m',hm,w7⟩:=hN a j F
   refine ⟨m',hm,i+1,a,j,c.unpinned,T.keep _ _ _ B fun b hb o e=>(c.pin (b,o) (aB3 _ (aB3 _ (ab7 hb e)))).1,fun b hb=>?_,w7⟩
   obtain ⟨o,e,d⟩:=T.obj _ _ B b hb
   exact (c.pin (b,o) (aB3 _ (aB3 _ (ab7 hb e)))).2.1
  cases f with
  | next=>obtain ⟨a,j,c,F⟩:=z;exact p c F
  | cont=>obtain ⟨a,j,c,F⟩:=z;exact p c F
  | brk=>obtain ⟨a,j,c,z⟩:=z;exact ⟨a,j,c.unpinned,z⟩
  | ret v=>obtain ⟨x7,a,j,c,r7,z⟩:=z;exact ⟨x7,a,j,c.unpinned,r7,z⟩
end
abbrev R2:=V->V->Hp->VK->Prop
def OpR (X:Cx) (f:Value->Value->Sem Value) (r:R2):Prop :=
 ∀ (pins:List (Addr × Obj)) (s:Shared) (σ:St) (H:Hp) (x y:V) (v u:Value) (Q:VK),Inv X pins σ H s->RelV x v->RelV y u->r x y H Q ->
  wpAny (model X.prog X.w) X.A (f v u) (EP X pins σ Q) X.xe s
def aa5 (X:Cx) (f:Value) (r:List V->Hp->VK->Prop):Prop :=
 ∀ (pins:List (Addr × Obj)) (s:Shared) (σ:St) (H:Hp) (xs:List V) (us:List Value) (Q:VK),Inv X pins σ H s->Vals xs us->r xs H Q ->
  wpAny (model X.prog X.w) X.A (call f us) (EP X pins σ Q) X.xe s
def TruR (X:Cx) (r:V->Hp->(Bool->Hp->Prop)->Prop):Prop :=
 ∀ (pins:List (Addr × Obj)) (s:Shared) (σ:St) (H:Hp) (x:V) (v:Value) (Q:Bool->Hp->Prop),Inv X pins σ H s->RelV x v->r x H Q ->
  wpAny (model X.prog X.w) X.A (truthy v) (TP X pins σ Q) X.xe s
def tOp (r:R2) (ta tb:TE):TE:=fun σ H Q=>ta σ H fun x H1=>tb σ H1 fun y H2=>r x y H2 Q
def rI (C:Int->Int->Prop) (g:Int->Int->V):R2:=fun x y H Q=>∃ i j,x=.int i/\y=.int j/\C i j/\Q (g i j) H
def rI0 (g:Int->Int->V):R2:=fun x y H Q=>∃ i j,x=.int i/\y=.int j/\Q (g i j) H
section
variable {X:Cx} {a b c:Expr} {ta tb tc:TE} {pos:Pos}
theorem binT (ha:PE X a ta) (hb:PE X b tb) {pins:List (Addr × Obj)} {s:Shared} {σ:St} {H:Hp} {R:V->V->Hp->Prop} (I:Inv X pins σ H s)
  (h:ta σ H fun x g=>tb σ g fun y H2=>R x y H2) {Q:Value->Shared->Prop} {f:Value->Value->Sem Value}
  (hf:∀ v u s2 x y H2,Inv X pins σ H2 s2->RelV x v->RelV y u->R x y H2->wpAny (model X.prog X.w) X.A (f v u) Q X.xe s2) :
  wpAny (model X.prog X.w) X.A (eval a X.env) (fun v d=>wpAny (model X.prog X.w) X.A (eval b X.env) (fun u c=>wpAny (model X.prog X.w) X.A (f v u) Q X.xe c) X.xe d) X.xe s:=by
 refine thn (ha pins s σ H _ I h) fun v s1 ⟨x,g,n,m,i⟩=>?_
 refine thn (hb pins s1 σ g _ n i) fun u s2 ⟨y,H2,j,l,o⟩=>?_
 exact hf v u s2 x y H2 j m l o
theorem aam {op:Operator} {r:R2} (c:OpR X (binaryOp op) r) (ha:PE X a ta) (hb:PE X b tb):PE X (.BinOp a op b pos) (tOp r ta tb):=by
 intro pins s σ H Q I h
 exact wpAny_BinOp (binT ha hb I h fun v u s2 x y H2 d g f q=>c pins s2 σ H2 x y v u Q d g f q)
theorem opI {f:Value->Value->Sem Value} {C:Int->Int->Prop} {g:Int->Int->Int}
  (a:∀ (i j:Int) (t u:Tok) (s:Shared) (Q:Value->Shared->Prop) (E:Value->Shared->Prop),C i j->Q (.int (g i j) s.toks) { s with toks:=s.toks+1 }->wpAny (model X.prog X.w) X.A (f (.int i t) (.int j u)) Q E s) :
  OpR X f (rI C fun i j => .int (g i j)):=by
 intro pins s σ H x y v u Q I d b h
 obtain ⟨i,j,rfl,rfl,c,q⟩:=h
 obtain ⟨t,rfl⟩:=d
 obtain ⟨t',rfl⟩:=b
 exact a i j t t' s _ _ c ⟨.int (g i j),H,I.tok _,⟨_,rfl⟩,q⟩
theorem opI0 {f:Value->Value->Sem Value} {g:Int->Int->Int}
  (a:∀ (i j:Int) (t u:Tok) (s:Shared) (Q:Value->Shared->Prop) (E:Value->Shared->Prop),Q (.int (g i j) s.toks) { s with toks:=s.toks+1 }->wpAny (model X.prog X.w) X.A (f (.int i t) (.int j u)) Q E s) :
  OpR X f (rI0 fun i j => .int (g i j)):=by
 intro pins s σ H x y v u Q I c b h
 obtain ⟨i,j,rfl,rfl,q⟩:=h
 obtain ⟨t,rfl⟩:=c
 obtain ⟨t',rfl⟩:=b
 exact a i j t t' s _ _ ⟨.int (g i j),H,I.tok _,⟨_,rfl⟩,q⟩
theorem opB0 {f:Value->Value->Sem Value} {g:Int->Int->Bool}
  (a:∀ (i j:Int) (t u:Tok) (s:Shared) (Q:Value->Shared->Prop) (E:Value->Shared->Prop),Q (.bool (g i j)) s->wpAny (model X.prog X.w) X.A (f (.int i t) (.int j u)) Q E s) :
  OpR X f (rI0 fun i j => .bl (g i j)):=by
 intro pins s σ H x y v u Q I c b h
 obtain ⟨i,j,rfl,rfl,q⟩:=h
 obtain ⟨t,rfl⟩:=c
 obtain ⟨t',rfl⟩:=b
 exact a i j t t' s _ _ ⟨.bl (g i j),H,I,rfl,q⟩
def CDiv (i j:Int):Prop:=0 < j/\j < 1073741824
def CPow (i j:Int):Prop:=0<=j/\j<=1000000/\i.natAbs < 2 ^ 64
def CMul (i j:Int):Prop:=(-(2 ^ 64) < i/\i < 2 ^ 64)\/(-(2 ^ 64) < j/\j < 2 ^ 64)
theorem CMul.ok {i j:Int} (h:CMul i j):IntMulOk i j:=by
 rcases h with ⟨a,b⟩ | ⟨a,b⟩
 ·exact .of_left (intBits_le_64 a b)
 ·exact .of_right (intBits_le_64 a b)
theorem abg:OpR X (binaryOp .Add) (rI0 fun i j => .int (i+j)):=opI0 fun _ _ _ _ _ _ _ q=>add_int q
theorem ads:OpR X (binaryOp .Sub) (rI0 fun i j => .int (i - j)):=opI0 fun _ _ _ _ _ _ _ q=>sub_int q
theorem acw:OpR X (binaryOp .Mult) (rI CMul fun i j => .int (i * j)):=opI fun _ _ _ _ _ _ _ a q=>mul_int q a.ok
theorem ad5:OpR X (binaryOp .FloorDiv) (rI CDiv fun i j => .int (i / j)):=opI fun i j _ _ _ _ _ a q=>by
 have b:(0:Int) < j:=a.1
 have c:j < 1073741824:=a.2
 exact floordiv_int (by omega) (by rw [Int.fdiv_eq_ediv_of_nonneg i (by omega)];exact q) (.inl (PyProof.noPylong_small (by omega)))
theorem abf:OpR X (binaryOp .Mod) (rI (fun _ j=>0 < j) fun i j => .int (i % j)):=opI fun i j _ _ _ _ _ a q=>by
 have b:(0:Int) < j:=a
 exact mod_int' (by omega) (by rw [Int.fmod_eq_emod_of_nonneg i (by omega)];exact q)
theorem azf:OpR X (binaryOp .Pow) (rI CPow fun i j => .int (i ^ j.toNat)):=opI fun _ _ _ _ _ _ _ a q=>pow_int_small a.1 a.2.1 a.2.2 q
end
def scal:V->V->Bool
 | .non,.non=>true | .non,.int _=>true | .int _,.non=>true | .non,.bl _=>true | .bl _,.non=>true | .non,.str _=>true | .str _,.non=>true
 | .int _,.int _=>true | .bl _,.bl _=>true | .str _,.str _=>true | .byt _,.byt _=>true
 | .int _,.str _=>true | .str _,.int _=>true | .bl _,.str _=>true | .str _,.bl _=>true
 | _,_=>false
def rEq:R2:=fun x y H Q=>scal x y=true/\Q (.bl (decide (x=y))) H
def rNe:R2:=fun x y H Q=>scal x y=true/\Q (.bl (!decide (x=y))) H
theorem ag5 {i j:Int}:decide (V.int i=V.int j)=(i == j):=by
 rw [aH9]
 simp
theorem aro {i j:Bool}:decide (V.bl i=V.bl j)=(i == j):=by
 rw [aH9]
 simp
theorem aou {i j:Str}:decide (V.str i=V.str j)=(i == j):=by
 rw [aH9]
 simp
theorem aov {i j:Array UInt8}:decide (V.byt i=V.byt j)=(i.toList == j.toList):=by
 rw [aH9]
 cases i
 cases j
 simp
section
variable {X:Cx} {a b c:Expr} {ta tb tc:TE} {pos:Pos}
theorem aax {pins:List (Addr × Obj)} {σ:St} {H:Hp} {s:Shared} {Q:VK} {k a:Bool} (I:Inv X pins σ H s) (q:Q (.bl k) H) (e:k=a):EP X pins σ Q (.bool a) s:=by
 subst e
 exact ⟨.bl k,H,I,rfl,q⟩
theorem ae9:OpR X (compareOp .Eq) rEq:=by
 intro pins s σ H x y v u Q I b a h
 obtain ⟨hs,q⟩:=h
 cases x with
 | non =>
  cases b
  cases y with
  | non=>cases a;exact PySem.EqNone.eq_none_none (aax I q (by simp))
  | bl j=>cases a;exact PySem.EqNone.eq_none_bool (aax I q (by simp))
  | int j=>obtain ⟨t',rfl⟩:=a;exact PySem.EqNone.eq_none_int (aax I q (by simp))
  | str j=>obtain ⟨t',rfl⟩:=a;exact PySem.EqNone.eq_none_str (aax I q (by simp))
  | _=>exact absurd (show false=true from hs) aB0
 | bl i =>
  cases b
  cases y with
  | non=>cases a;exact PySem.EqNone.eq_bool_none (aax I q (by simp))
  | bl j=>cases a;exact eq_bool (aax I q aro)
  | str j=>obtain ⟨t',rfl⟩:=a;exact PySem.EqMixed.eq_bool_str (aax I q (by simp))
  | _=>exact absurd (show false=true from hs) aB0
 | int i =>
  obtain ⟨t,rfl⟩:=b
  cases y with
  | non=>cases a;exact PySem.EqNone.eq_int_none (aax I q (by simp))
  | int j=>obtain ⟨t',rfl⟩:=a;exact eq_int (aax I q ag5)
  | str j=>obtain ⟨t',rfl⟩:=a;exact PySem.EqMixed.eq_int_str (aax I q (by simp))
  | _=>exact absurd (show false=true from hs) aB0
 | str i =>
  obtain ⟨t,rfl⟩:=b
  cases y with
  | non=>cases a;exact PySem.EqNone.eq_str_none (aax I q (by simp))
  | bl j=>cases a;exact PySem.EqMixed.eq_str_bool (aax I q (by simp))
  | int j=>obtain ⟨t',rfl⟩:=a;exact PySem.EqMixed.eq_str_int (aax I q (by simp))
  | str j=>obtain ⟨t',rfl⟩:=a;exact eq_str (aax I q aou)
  | _=>exact absurd (show false=true from hs) aB0
 | byt i =>
  obtain ⟨t,rfl⟩:=b
  cases y with
  | byt j=>obtain ⟨t',rfl⟩:=a;exact PySem.W.eq_bytes (aax I q aov)
  | _=>exact absurd (show false=true from hs) aB0
 | _=>cases y <;> exact absurd (show false=true from hs) aB0
theorem aet:OpR X (compareOp .NotEq) rNe:=by
 intro pins s σ H x y v u Q I b a h
 obtain ⟨hs,q⟩:=h
 cases x with
 | non =>
  cases b
  cases y with
  | non=>cases a;exact PySem.EqNone.ne_none_none (aax I q (by simp))
  | bl j=>cases a;exact PySem.EqNone.ne_none_bool (aax I q (by simp))
  | int j=>obtain ⟨t',rfl⟩:=a;exact PySem.EqNone.ne_none_int (aax I q (by simp))
  | str j=>obtain ⟨t',rfl⟩:=a;exact PySem.EqNone.ne_none_str (aax I q (by simp))
  | _=>exact absurd (show false=true from hs) aB0
 | bl i =>
  cases b
  cases y with
  | non=>cases a;exact PySem.EqNone.ne_bool_none (aax I q (by simp))
  | bl j=>cases a;exact ne_bool (aax I q (congrArg not aro))
  | str j=>obtain ⟨t',rfl⟩:=a;exact PySem.EqMixed.ne_bool_str (aax I q (by simp))
  | _=>exact absurd (show false=true from hs) aB0
 | int i =>
  obtain ⟨t,rfl⟩:=b
  cases y with
  | non=>cases a;exact PySem.EqNone.ne_int_none (aax I q (by simp))
  | int j=>obtain ⟨t',rfl⟩:=a;exact ne_int (aax I q (congrArg not ag5))
  | str j=>obtain ⟨t',rfl⟩:=a;exact PySem.EqMixed.ne_int_str (aax I q (by simp))
  | _=>exact absurd (show false=true from hs) aB0
 | str i =>
  obtain ⟨t,rfl⟩:=b
  cases y with
  | non=>cases a;exact PySem.EqNone.ne_str_none (aax I q (by simp))
  | bl j=>cases a;exact PySem.EqMixed.ne_str_bool (aax I q (by simp))
  | int j=>obtain ⟨t',rfl⟩:=a;exact PySem.EqMixed.ne_str_int (aax I q (by simp))
  | str j=>obtain ⟨t',rfl⟩:=a;exact ne_str (aax I q (congrArg not aou))
  | _=>exact absurd (show false=true from hs) aB0
 | byt i =>
  obtain ⟨t,rfl⟩:=b
  cases y with
  | byt j=>obtain ⟨t',rfl⟩:=a;exact PySem.W.ne_bytes (aax I q (congrArg not aov))
  | _=>exact absurd (show false=true from hs) aB0
 | _=>cases y <;> exact absurd (show false=true from hs) aB0
theorem aqd:OpR X (compareOp .Lt) (rI0 fun i j => .bl (decide (i < j))):=opB0 fun _ _ _ _ _ _ _ q=>lt_int q
theorem afr:OpR X (compareOp .LtE) (rI0 fun i j => .bl (decide (i<=j))):=opB0 fun _ _ _ _ _ _ _ q=>le_int q
theorem afa:OpR X (compareOp .Gt) (rI0 fun i j => .bl (decide (j < i))):=opB0 fun _ _ _ _ _ _ _ q=>gt_int q
theorem a1m:OpR X (compareOp .GtE) (rI0 fun i j => .bl (decide (j<=i))):=opB0 fun _ _ _ _ _ _ _ q=>ge_int q
theorem azg:OpR X (compareOp .Is) (fun x y H Q=>y=.non/\Q (.bl (decide (x=.non))) H):=by
 intro pins s σ H x y v u Q I a b h
 obtain ⟨rfl,q⟩:=h
 cases b
 refine is_none_gen (aax I q ?_)
 cases x <;> first
  | (cases a;rfl)
  | (obtain ⟨t,rfl⟩:=a;rfl)
theorem aau (b:Expr) {op:CmpOp} (h:op ≠ .In:=by decide) (d:op ≠ .NotIn:=by decide):behindInMarks op b=false:=by
 have a:(op == CmpOp.In)=false:=by cases op <;> first | rfl | exact absurd rfl h
 have c:(op == CmpOp.NotIn)=false:=by cases op <;> first | rfl | exact absurd rfl d
 cases b <;> simp [behindInMarks,a,c]
theorem ab1 {op:CmpOp} {r:R2} (c:OpR X (compareOp op) r) (ha:PE X a ta) (hb:PE X b tb) (hm:behindInMarks op b=false):PE X (.Compare a [op] [b] pos) (tOp r ta tb):=by
 intro pins s σ H Q I h
 exact wpAny_Compare1 (binT ha hb I h fun v u s2 x y H2 d g f q=>c pins s2 σ H2 x y v u Q d g f q) hm
def aqe (t:TE):TT:=fun σ H Q=>t σ H fun x H'=>∃ k,x=.bl k/\Q k H'
theorem aav {op:CmpOp} {r:R2} (g:OpR X (compareOp op) r) (ha:PE X a ta) (hb:PE X b tb) (hm:behindInMarks op b=false):PT X (.Compare a [op] [b] pos) (aqe (tOp r ta tb)):=by
 intro pins s σ H Q I h
 refine wpAny_isTrue_Compare1 (thn (ha pins s σ H _ I h) fun v s1 ⟨x,d,p,m,f⟩=>thn (hb pins s1 σ d _ p f) fun u s2 ⟨y,H2,j,l,q⟩ =>
  thn (g pins s2 σ H2 x y v u _ j m l q) fun c w ⟨z,H3,n,i,k,e,o⟩=>?_) hm
 subst e
 cases i
 exact aK5 ⟨H3,n,o⟩
def ail (r r':R2) (ta tb tc:TE):TE:=fun σ H Q=>ta σ H fun x H1=>tb σ H1 fun y H2=>r x y H2 fun z H3=>∃ k,z=.bl k /\
 (if k=true then tc σ H3 fun w' H4=>r' y w' H4 Q else Q (.bl false) H3)
theorem atq {op f:CmpOp} {r i:R2} (q:OpR X (compareOp op) r) (g:OpR X (compareOp f) i) (ha:PE X a ta) (hb:PE X b tb) (F:PE X c tc)
  (hm:lastMarks [op,f] [b,c]=false:=by with_unfolding_all rfl):PE X (.Compare a [op,f] [b,c] pos) (ail r i ta tb tc):=by
 intro pins s σ H Q I h
 refine Compare_chain (thn (ha pins s σ H _ I h) fun v s1 ⟨x,n,L,G,o⟩=>chain_link (thn (hb pins s1 σ n _ L o) fun u s2 ⟨y,H2,C,j,M⟩ =>
  thn (q pins s2 σ H2 x y v u _ C G j M) fun d K ⟨z,H3,l,A,k,e,m⟩=>?_)) hm
 subst e
 cases A
 refine aK5 ?_
 cases k with
 | false=>exact ite_ff ⟨.bl false,H3,l,rfl,m⟩
 | true=>exact ite_tt (chain_last (thn (F pins K σ H3 _ l m) fun w B ⟨J,D,E,N,p⟩=>g pins B σ D y J u w Q E j N p))
theorem atr {op f:CmpOp} {r i:R2} (A:OpR X (compareOp op) r) (g:OpR X (compareOp f) i) (ha:PE X a ta) (hb:PE X b tb) (K:PE X c tc)
  (hm:lastMarks [op,f] [b,c]=false:=by with_unfolding_all rfl):PT X (.Compare a [op,f] [b,c] pos) (aqe (ail r i ta tb tc)):=by
 intro pins s σ H Q I h
 refine isTrue_chain (thn (ha pins s σ H _ I h) fun v s1 ⟨x,n,T,L,o⟩=>test_link (thn (hb pins s1 σ n _ T o) fun u s2 ⟨y,H2,F,j,U⟩ =>
  thn (A pins s2 σ H2 x y v u _ F L j U) fun d N ⟨z,H3,l,C,k,e,m⟩=>?_)) hm
 subst e
 cases C
 refine aK5 ?_
 cases k with
 | false =>
  obtain ⟨k',p,R⟩:=m
  cases p
  exact ite_ff ⟨H3,l,R⟩
 | true =>
  refine ite_tt (test_last (thn (K pins N σ H3 _ l m) fun B D ⟨M,G,J,W,w⟩=>thn (g pins D σ G y M u B _ J j W w) fun d' Y ⟨Z,P,E,q,k2,S,O⟩=>?_))
  subst S
  cases q
  exact aK5 ⟨P,E,O⟩
def TruV (K:Frag) (x:V) (H:Hp) (k:Bool):Prop :=
 match x with
 | .non=>k=false
 | .bl b=>k=b
 | .int i=>k=(i != 0)
 | .str y=>y.length<=sizeLine/\k=((y.length:Int) != 0)
 | .byt y=>y.size<=sizeLine/\k=((y.size:Int) != 0)
 | .ref p=>(∃ xs,SqL K H p xs/\k = !xs.isEmpty)\/(∃ xs,SqT K H p xs/\k = !xs.isEmpty)\/∃ kvs,H p=some (.dK kvs)/\k = !kvs.isEmpty
 | _=>False
theorem aqf {κ:Type} {kvs:List (κ × V)} {vs:List (κ × Value)} (r:KV kvs vs):(!vs.isEmpty) = !kvs.isEmpty:=by
 cases r <;> rfl
theorem aim {xs:List V} {its:List Value} (r:Vals xs its):(!its.toArray.isEmpty) = !xs.isEmpty:=by
 cases r <;> simp
theorem agf:(sizeLine:Nat) < 2 ^ 63:=by rw [sizeLine_eq];decide
theorem azh:TruR X (fun x H Q=>∃ k,TruV X.K x H k/\Q k H):=by
 intro pins s σ H x v Q I d h
 obtain ⟨k,e,q⟩:=h
 have n:=agf
 have hs:sizeLine=16777216:=sizeLine_eq
 cases x with
 | non =>
  cases d
  have a:k=false:=e
  subst a
  exact truthy_none ⟨H,I,q⟩
 | bl b =>
  cases d
  have a:k=b:=e
  subst a
  exact aK5 ⟨H,I,q⟩
 | int i =>
  obtain ⟨t,rfl⟩:=d
  have a:k=(i != 0):=e
  subst a
  exact PySem.P.truthy_int ⟨H,I,q⟩
 | str y =>
  obtain ⟨t,rfl⟩:=d
  obtain ⟨l,a⟩:y.length<=sizeLine/\k=((y.length:Int) != 0):=e
  subst a
  exact PySem.P.truthy_str (by omega) ⟨H,I.tok _,q⟩
 | byt y =>
  obtain ⟨t,rfl⟩:=d
  obtain ⟨l,a⟩:y.size<=sizeLine/\k=((y.size:Int) != 0):=e
  subst a
  exact PySem.W.truthy_bytes (by omega) ⟨H,I.tok _,q⟩
 | ref p =>
  cases d
  have a:(∃ xs,SqL X.K H p xs/\k = !xs.isEmpty)\/(∃ xs,SqT X.K H p xs/\k = !xs.isEmpty)\/∃ kvs,H p=some (.dK kvs)/\k = !kvs.isEmpty:=e
  rcases a with ⟨xs,f,a⟩ | ⟨xs,f,a⟩ | ⟨kvs,f,a⟩
  ·subst a
   obtain ⟨its,r,pl,g⟩:=I.list f
   have c:=r.length
   exact wpAny_truthy_list pl.isList (by simp only [aB2];omega) ⟨H,I.tok _,by rw [aim r];exact q⟩
  ·subst a
   obtain ⟨its,r,pl,g⟩:=I.tuple f
   have c:=r.length
   exact truthy_tuple pl (by simp only [aB2];omega) ⟨H,I.tok _,by rw [aim r];exact q⟩
  ·subst a
   obtain ⟨g,j,vs,r,m⟩:kvs.length<=sizeLine/\(p == sysModules)=false/\∃ vs,KV kvs vs/\s.heap.DictOf (abk X.prog X.w) p vs:=I.hok p _ f
   have c:kvs.length=vs.length:=Paired.length r
   exact wpAny_truthy_dict j m (by omega) ⟨H,I.tok _,by rw [aqf r];exact q⟩
 | _=>exact (show False from e).elim
theorem ats (ha:PE X a ta) (g:∀ whole,isTrue a X.env whole=(do let v ← whole;standAt a.pos;holding [v] (truthy v))) :
  PT X a (fun σ H Q=>ta σ H fun x H'=>∃ k,TruV X.K x H' k/\Q k H'):=by
 intro pins s σ H Q I h
 exact isTrue_plain (thn (ha pins s σ H _ I h) fun v s1 ⟨x,b,f,d,c⟩=>azh pins s1 σ b x v Q f d c) (g _)
theorem ab8 {x:V} {us:List Value} (r:Vals [x] us):∃ u,us=[u]/\RelV x u:=by
 cases r with
 | cons r1 r2=>cases r2;exact ⟨_,rfl,r1⟩
theorem alz {x y:V} {us:List Value} (r:Vals [x,y] us):∃ u a,us=[u,a]/\RelV x u/\RelV y a:=by
 cases r with
 | cons r1 r2 =>
  cases r2 with
  | cons r3 r4=>cases r4;exact ⟨_,_,rfl,r1,r3⟩
theorem arp (a:X.calm=true):aa5 X (.builtin "max") (fun xs H Q=>∃ i j,xs=[.int i,.int j]/\Q (.int (if j > i then j else i)) H):=by
 intro pins s σ H xs us Q I r h
 obtain ⟨i,j,rfl,q⟩:=h
 obtain ⟨u,b,rfl,⟨t,rfl⟩,⟨t',rfl⟩⟩:=alz r
 refine max_two_ints (I.ok.hd a) fun h' c k=>⟨_,H,I.kept k,?_,q⟩
 by_cases hj:j > i
 ·rw [aF6 hj,aF6 hj];exact ⟨_,rfl⟩
 ·rw [aF7 hj,aF7 hj];exact ⟨_,rfl⟩
theorem arq (a:X.calm=true):aa5 X (.builtin "min") (fun xs H Q=>∃ i j,xs=[.int i,.int j]/\Q (.int (if j < i then j else i)) H):=by
 intro pins s σ H xs us Q I r h
 obtain ⟨i,j,rfl,q⟩:=h
 obtain ⟨u,b,rfl,⟨t,rfl⟩,⟨t',rfl⟩⟩:=alz r
 refine min_two_ints (I.ok.hd a) fun h' c k=>⟨_,H,I.kept k,?_,q⟩
 by_cases hj:j < i
 ·rw [aF6 hj,aF6 hj];exact ⟨_,rfl⟩
 ·rw [aF7 hj,aF7 hj];exact ⟨_,rfl⟩
theorem ars:aa5 X (.type "int") (fun xs H Q=>(∃ i,xs=[.int i]/\Q (.int i) H)\/∃ k,xs=[.bl k]/\Q (.int (if k then 1 else 0)) H):=by
 intro pins s σ H xs us Q I r h
 rcases h with ⟨i,rfl,q⟩ | ⟨k,rfl,q⟩
 ·obtain ⟨u,rfl,t,rfl⟩:=ab8 r
  exact call_int_int ⟨.int i,H,I,⟨_,rfl⟩,q⟩
 ·obtain ⟨u,rfl,a⟩:=ab8 r
  cases a
  exact call_int_bool ⟨.int (if k then 1 else 0),H,I.tok _,⟨_,rfl⟩,q⟩
end
structure ObjM (h:Heap) (x dx C:Addr) (mA:Str->Option Value):Prop where
 obj:h.get? x=some (PySem.W.instObj C dx)
 ns:h.Ns1 dx mA
 ne:dx ≠ x
theorem art {h:Heap} {dx:Addr} {mA:Str->Option Value} (n:h.Ns1 dx mA):∃ od,h.get? dx=some od/\∀ name,PySem.W.lookIn name od=some (mA name):=by
 obtain ⟨o,es,ep,c,hd,g,_,hm⟩:=n
 refine ⟨o,c,fun name=>?_⟩
 have e:=hm name
 unfold nsFind findBy at e
 rw [← Array.find?_toList] at e
 unfold PySem.W.lookIn
 rw [hd]
 dsimp only
 split
 ·rename_i y q
  rw [q] at e
  exact congrArg some e
 ·rename_i q
  rw [q] at e
  have a:es.toList.any (·.refKey)=false:=by
   rw [List.any_eq_false]
   intro y d
   obtain ⟨z,t,b⟩:=g y (Array.mem_toList_iff.mp d)
   simp [DictEntry.refKey,b]
  have f:¬ es.toList.any (·.refKey)=true:=by rw [a];exact aB0
  rw [aF7 f]
  exact congrArg some e
theorem ObjM.look {h:Heap} {x dx C:Addr} {mA:Str->Option Value} (I:ObjM h x dx C mA):∃ od,PySem.W.InstAt h x (PySem.W.instObj C dx) C (some od)/\∀ name,PySem.W.lookIn name od=some (mA name) :=
 let ⟨od,b,a⟩:=art I.ns
 ⟨od,⟨I.obj,rfl,rfl,b⟩,a⟩
section
variable {prog:Program} {w:World} {A:Around} {E:Value->Shared->Prop} {s:Shared} {K:Frag} {x dx C f:Addr} {mA:Str->Option Value} {name:Str} {v:Value}
end
def putF (f:Str) (v:V):List (Str × V)->List (Str × V)
 | []=>[(f,v)]
 | (g,x) :: r=>if g=f then (g,v) :: r else (g,x) :: putF f v r
section
variable {P:Program} {w:World} {H H':Hp} {h h':Heap} {a C dx:Addr} {fs fs':List (Str × V)}
theorem ins_get (hok:HOk P w H h) (e:H a=some (.ins C dx fs)):∃ mA,ObjM h a dx C mA/\(∀ f,RelO (fs.lookup f) (mA f))/\PySem.Within mA (fs.map (·.1))/\fs.length<=1000/\H dx=some (.own a):=by
 obtain ⟨d,z,ne,b,mA,n,r,q⟩:=(show ObjOk P w H h a (.ins C dx fs) from hok a _ e)
 exact ⟨mA,⟨b,n,ne⟩,r,q,z,d⟩
end
structure Cls (K:Frag) (C:Addr):Prop where
 pg:PySem.W.plainGet K C Str.empty=true
 hd:PySem.W.hasDictIn K C=true
 po:PySem.W.plainOver K C=true
 sa:PySem.W.findIn K (.ref C) "__setattr__" = some (some (.builtin "object.__setattr__"))
theorem Cls.get {K:Frag} {C:Addr} (c:Cls K C) (f:Str):PySem.W.plainGet K C f=true:=c.pg
section
variable {X:Cx} {pins:List (Addr × Obj)} {σ:St} {H:Hp} {s:Shared} {a C dx:Addr} {fs:List (Str × V)} {f:Str} {v:V} {A:Around} {E:Value->Shared->Prop}
end
section
variable {X:Cx} {o e value:Expr} {f:Str} {pos pos' tpos:Pos} {ta tv:TE}
end
section
variable {X:Cx} {pins:List (Addr × Obj)} {σ:St} {H:Hp} {s:Shared} {A:Around} {E:Value->Shared->Prop} {Q:Value->Shared->Prop} {c:Value} {b:Bool}
inductive TyOf (K:Frag) (H:Hp):V->Value->Prop where
 | non:TyOf K H .non (.type "NoneType")
 | bl (x:Bool):TyOf K H (.bl x) (.type "bool")
 | int (i:Int):TyOf K H (.int i) (.type "int")
 | str (x:Str):TyOf K H (.str x) (.type "str")
 | flt (x:UInt64):TyOf K H (.flt x) (.type "float")
 | lst {a:Addr} {xs:List V} (e:H a=some (.lst xs)):TyOf K H (.ref a) (.type "list")
 | frz {a:Addr} {o:Obj} {xs:List V} (e:H a=some (.frz o (.lst xs))):TyOf K H (.ref a) (.type "list")
 | tup {a:Addr} {xs:List V} (e:H a=some (.tup xs)):TyOf K H (.ref a) (.type "tuple")
 | dK {a:Addr} {kvs:List (Key × V)} (e:H a=some (.dK kvs)):TyOf K H (.ref a) (.type "dict")
 | dT {a:Addr} {kvs:List (List Key × V)} (e:H a=some (.dT kvs)):TyOf K H (.ref a) (.type "dict")
 | ins {a C dx:Addr} {fs:List (Str × V)} (e:H a=some (.ins C dx fs)) (cl:Cls K C) (ha:PySem.W.findIn K (.ref C) "__class__" = some (some (.builtin "object.__class__")))
   (hn:PySem.W.specialIn K (.builtin "object.__class__") "__get__" = some (some (.builtin "getset_descriptor.__get__"))) (htk:PySem.W.takesIn K (.builtin "object.__class__")=some true)
   (hm:mroIn K C (.type "object")=some true):TyOf K H (.ref a) (.ref C)
theorem aru {x:V} {u t:Value} (I:Inv X pins σ H s) (d:RelV x u) (ty:TyOf X.K H x t) (e:kitOne X.K t c=some b) (h:∀ j,Q (.bool b) { s with toks:=j }) :
  wpAny (model X.prog X.w) A (call (.builtin "isinstance") [u,c]) Q E s:=by
 cases ty with
 | non=>cases (show u=Value.none from d);exact PySem.W.kia_one PySem.W.kitx_none I.kIn True.intro e (fun z=>nomatch z) h
 | bl y=>cases (show u=Value.bool y from d);exact PySem.W.kia_one PySem.W.kitx_bool I.kIn True.intro e (fun z=>nomatch z) h
 | int i=>obtain ⟨t,q⟩:=(show ∃ t,u=Value.int i t from d);cases q;exact PySem.W.kia_one PySem.W.kitx_int I.kIn True.intro e (fun z=>nomatch z) h
 | str y=>obtain ⟨t,q⟩:=(show ∃ t,u=Value.str y t from d);cases q;exact PySem.W.kia_one PySem.W.kitx_str I.kIn True.intro e (fun z=>nomatch z) h
 | flt y=>obtain ⟨t,q⟩:=(show ∃ t,u=Value.float y t from d);cases q;exact PySem.W.kia_one PySem.W.kitx_float I.kIn True.intro e (fun z=>nomatch z) h
 | @lst a xs ea =>
  cases (show u=Value.ref a from d)
  obtain ⟨_,_,n,_,f⟩:=(show ObjOk X.prog X.w H s.heap a (.lst xs) from I.hok a _ ea)
  exact PySem.W.kia_one PySem.W.kitx_list I.kIn ⟨_,f,rfl⟩ e (fun z=>nomatch z) h
 | @frz a ob xs ea =>
  cases (show u=Value.ref a from d)
  obtain ⟨_,_,_,n,_,f⟩:=(show ObjOk X.prog X.w H s.heap a (.frz ob (.lst xs)) from I.hok a _ ea)
  exact PySem.W.kia_one PySem.W.kitx_list I.kIn ⟨_,f,rfl⟩ e (fun z=>nomatch z) h
 | @tup a xs ea =>
  cases (show u=Value.ref a from d)
  obtain ⟨_,_,_,p⟩:=(show ObjOk X.prog X.w H s.heap a (.tup xs) from I.hok a _ ea)
  obtain ⟨o,f,g,_⟩:=p
  exact PySem.W.kia_one PySem.W.kitx_tuple I.kIn ⟨o,f,g⟩ e (fun z=>nomatch z) h
 | @dK a kvs ea =>
  cases (show u=Value.ref a from d)
  obtain ⟨_,_,vs,_,p⟩:=(show ObjOk X.prog X.w H s.heap a (.dK kvs) from I.hok a _ ea)
  obtain ⟨o,es,ep,f,g,_⟩:=p
  exact PySem.W.kia_one PySem.W.kitx_dict I.kIn ⟨o,f,g.1⟩ e (fun z=>nomatch z) h
 | @dT a kvs ea =>
  cases (show u=Value.ref a from d)
  obtain ⟨_,_,xs,_,o,es,ep,f,g,_⟩:=(show ObjOk X.prog X.w H s.heap a (.dT kvs) from I.hok a _ ea)
  exact PySem.W.kia_one PySem.W.kitx_dict I.kIn ⟨o,f,g.1⟩ e (fun z=>nomatch z) h
 | @ins a C dx fs ea cl ha hn htk hm =>
  cases (show u=Value.ref a from d)
  obtain ⟨mA,O,_⟩:=ins_get I.hok ea
  obtain ⟨od,J,_⟩:=O.look
  exact PySem.W.kia_one (PySem.W.kitx_own (cl.get _) cl.hd ha hn htk hm) I.kIn J e (fun z=>nomatch z) h
end
structure Room (k:Nat) (A:Around):Prop where
 hd:A.handled=none
 dp:A.depth+3 * k+5 < recursionLimit
 un:A.units+16 * k+200 < cLine
 gd:A.guards=some []
theorem Room.mono {j k:Nat} {A:Around} (r:Room k A) (h:j<=k):Room j A:=⟨r.hd,by have:=r.dp;omega,by have:=r.un;omega,r.gd⟩
theorem Room.deeper {k:Nat} {A:Around} (r:Room (k+1) A) (env:Env):Room k (A.deeper env) :=
 ⟨r.hd,by have:=r.dp;show A.depth+1+3 * k+5 < _;omega,by have:=r.un;show A.units+3+16 * k+200 < _;omega,r.gd⟩
theorem Room.depth {k:Nat} {A:Around} (r:Room k A):A.depth < recursionLimit:=by have:=r.dp;omega
theorem Room.units {k:Nat} {A:Around} (r:Room k A):A.units+64 < cLine:=by have:=r.un;omega
theorem Room.units0 {k:Nat} {A:Around} (r:Room k A):A.units < cLine:=by have:=r.un;omega
def tNil:TA:=fun _ H Q=>Q [] H
def aa6 (ta:TE) (tr:TA):TA:=fun σ H Q=>ta σ H fun x H1=>tr σ H1 fun xs H2=>Q (x :: xs) H2
section
variable {X:Cx} {e:Expr} {es:List Expr} {te:TE} {t:TA} {pos:Pos}
theorem aab:PA X [] tNil:=fun _ _ _ _ H Q I h=>Calls.spliced_nil ⟨[],H,I,.nil,h⟩
theorem aaa (ha:PE X e te) (g:PA X es t) (hs:starEach (e :: es) X.env=(false,eval e X.env) :: starEach es X.env:=by rfl):PA X (e :: es) (aa6 te t):=by
 intro pos pins s σ H Q I h
 rw [hs]
 show wpAny _ _ (spliced ((false,eval e X.env) :: backTo pos (starEach es X.env))) _ _ s
 refine Calls.spliced_cons (thn (ha pins s σ H _ I h) fun u s1 ⟨x,a,i,f,b⟩=>?_)
 exact thn (g pos pins s1 σ a _ i b) fun us s2 ⟨xs,H2,c,d,j⟩=>⟨x :: xs,H2,c,.cons f d,j⟩
def tTup (t:TA):TE:=fun σ H Q=>t σ H fun xs H1=>xs.length<=sizeLine/\∀ p,H1 p=none->Q (.ref p) (upd H1 p (.tup xs))
def tLst (t:TA):TE:=fun σ H Q=>t σ H fun xs H1=>xs.length<=sizeLine/\∀ p,H1 p=none->Q (.ref p) (upd H1 p (.lst xs))
theorem ab3 {x1} (h:PA X es t):PE X (.Tuple es x1 pos) (tTup t):=by
 intro pins s σ H Q I d
 refine wpAny_Tuple_spliced (thn (h pos pins s σ H _ I d) fun us s1 ⟨xs,a,c,r,z,q⟩=>⟨by rw [← r.length];exact z,?_⟩)
 have hf:a s1.heap.objs.size=none:=c.hok.fresh (aA6 _)
 refine ⟨.ref s1.heap.objs.size,upd a s1.heap.objs.size (.tup xs),c.laid (t':=s1.toks) (fun b u e=>aJ4 _ e) (aA6 _) ?_,rfl,q _ hf⟩
 exact ⟨z,us,r,⟨_,aJ6 _ rfl,rfl,_,rfl⟩⟩
theorem abv (h:PA X es t):PE X (.List es pos) (tLst t):=by
 intro pins s σ H Q I d
 refine wpAny_List_spliced (thn (h pos pins s σ H _ I d) fun us s1 ⟨xs,a,c,r,z,q⟩=>⟨by rw [← r.length];exact z,?_⟩)
 have hf:a s1.heap.objs.size=none:=c.hok.fresh (aA6 _)
 refine ⟨.ref s1.heap.objs.size,upd a s1.heap.objs.size (.lst xs),c.laid (t':=s1.toks) (fun b u e=>aJ4 _ e) (aA6 _) ?_,rfl,q _ hf⟩
 exact ⟨z,us,0,r,aJ6 _ rfl⟩
end
abbrev Sp:=List V->Hp->VK->XK->Prop
abbrev CXT:=List Env->Hp->Shared->XK->Value->Shared->Prop
structure Env0 (P:Program) (w:World) (K:Frag) (mg:Str->Option Value) (base:Heap) (A:Around) (outer:List Env) (s:Shared) (H:Hp):Prop where
 frames:A.frames=some outer
 mod:Mod K mg base
 bs:∀ b o,base.get? b=some o->s.heap.get? b=some o/\H b=none
 bsz:base.objs.size<=s.heap.objs.size
 funs:s.heap.FunFrames base outer
 frf:∀ b∈frs outer,H b=none
 hok:HOk P w H s.heap
 bare:AllBare s.gens
def CE (outer:List Env) (P:Program) (w:World) (H:Hp) (s:Shared) (Q:VK) (u:Value) (s':Shared):Prop :=
 ∃ v H',s'.os=s.os/\AllBare s'.gens/\Un (frs outer) [] H H' s.heap s'.heap/\HOk P w H' s'.heap/\RelV v u/\Q v H'
def CR (CX:CXT) (outer:List Env) (P:Program) (w:World) (H:Hp) (s:Shared) (Q:VK) (E:XK) (r:Result) (s':Shared):Prop :=
 match r with
 | .ok (.ret u)=>CE outer P w H s Q u s'
 | .ok _=>False
 | .error e=>CX outer H s E e s'
structure FnOk (P:Program) (w:World) (K:Frag) (mg:Str->Option Value) (base:Heap) (CX:CXT) (k:Nat) (f:Addr) (fd:FuncData) (ps:List Str) (sp:Sp):Prop where
 len:∀ vs H Q E,sp vs H Q E->vs.length=ps.length
 run:∀ (A:Around) (outer:List Env) (s:Shared) (H:Hp) (args:Args) (us:List Value) (vs:List V) (Q:VK) (E:XK),Room k A->Env0 P w K mg base A outer s H->BindsTo s fd args (ps.zip us)->Vals vs us->sp vs H Q E ->
  codeAny (model P w) A (.call (.ref f) args) (CR CX outer P w H s Q E) s
theorem FnOk.imp {P:Program} {w:World} {K:Frag} {mg:Str->Option Value} {base:Heap} {CX:CXT} {k:Nat} {f:Addr} {fd:FuncData} {ps:List Str} {sp a:Sp} (F:FnOk P w K mg base CX k f fd ps sp)
  (h:∀ vs H Q E,a vs H Q E->sp vs H Q E):FnOk P w K mg base CX k f fd ps a :=
 ⟨fun vs H Q E q=>F.len vs H Q E (h _ _ _ _ q),fun A outer s H args us vs Q E c d hb b hs=>F.run A outer s H args us vs Q E c d hb b (h _ _ _ _ hs)⟩
section
variable {X:Cx} {pins:List (Addr × Obj)} {σ:St} {H:Hp} {s s':Shared}
theorem Inv.env0 (I:Inv X pins σ H s):Env0 X.prog X.w X.K X.mg X.base X.A X.stack s H :=
 ⟨I.ok.frames,I.ok.mod,I.bs,aD0 I.ok.bsz I.sz,I.stack,I.stkFree,I.hok,I.bare⟩
theorem Inv.after {Q:VK} {u:Value} (I:Inv X pins σ H s) (h:CE X.stack X.prog X.w H s Q u s'):EP X pins σ Q u s':=by
 obtain ⟨v,H',os,bare,un,hok,r,q⟩:=h
 obtain ⟨hh,g,d,t,os'⟩:=s'
 obtain rfl:os'=s.os:=os
 exact ⟨v,H',I.call (h':=hh) (g':=g) (d':=d) (t':=t) (ch:=[]) un hok bare (fun b z=>absurd z (by simp)),r,q⟩
end
def acf (sp:Sp) (dvs:List V) (E:XK) (t:TA):TE:=fun σ H Q=>t σ H fun vs H1=>sp (vs ++ dvs) H1 Q E
def Binds (K:Frag) (fd:FuncData) (ps:List Str) (ds:List Value):Prop :=
 ∀ (s:Shared) (us:List Value),K.In s.heap->(us ++ ds).length=ps.length->BindsTo s fd ⟨us,[]⟩ (ps.zip (us ++ ds))
theorem Binds.all {K:Frag} {fd:FuncData} {ps:List Str} (h:∀ us:List Value,us.length=ps.length->bindArgs fd ⟨us,[]⟩=pure (ps.zip us)):Binds K fd ps []:=fun s us _ a=>by
 rw [aF0] at a ⊢
 exact .of_eq (h us a)
def amh (CX:CXT) (X:Cx) (E:XK):Prop:=∀ (pins:List (Addr × Obj)) (σ:St) (H:Hp) (s:Shared) (e:Value) (s':Shared),Inv X pins σ H s->CX X.stack H s E e s'->X.xe e s'
section
variable {X:Cx} {CX:CXT} {k:Nat} {f C:Addr} {fd:FuncData} {ps:List Str} {sp:Sp} {dvs:List V} {ds:List Value} {E:XK} {x m:Str} {p pos apos:Pos} {e o:Expr} {es:List Expr} {ta:TE} {t:TA}
theorem azi {pins:List (Addr × Obj)} {σ:St} {H:Hp} {s:Shared} {Q:VK} {us:List Value} {vs:List V} (F:FnOk X.prog X.w X.K X.mg X.base CX k f fd ps sp) (g:Room k X.A) (hb:Binds X.K fd ps ds) (hd:Vals dvs ds) (d:amh CX X E)
  (I:Inv X pins σ H s) (r:Vals vs us) (h:sp (vs ++ dvs) H Q E):wpAny (model X.prog X.w) X.A (call (.ref f) us) (EP X pins σ Q) X.xe s:=by
 have b:Vals (vs ++ dvs) (us ++ ds):=r.append hd
 have c:(us ++ ds).length=ps.length:=by rw [← b.length];exact F.len _ _ _ _ h
 refine wpAny_call (aJ7 (F.run X.A X.stack s H ⟨us,[]⟩ (us ++ ds) (vs ++ dvs) Q E g I.env0 (hb s us I.kIn c) b h) fun r s' a=>?_)
 cases r with
 | error e=>exact d pins σ H s e s' I a
 | ok fl =>
  cases fl with
  | ret u=>exact I.after a
  | next=>exact False.elim a
  | brk=>exact False.elim a
  | cont=>exact False.elim a
theorem awx (F:FnOk X.prog X.w X.K X.mg X.base CX k f fd ps sp) (j:Room k X.A) (g:Gl X x) (hm:X.mg x=some (.ref f)) (i:keepIn X.K (.ref f)=true) (hb:Binds X.K fd ps ds) (hd:Vals dvs ds) (d:amh CX X E)
  (ha:PA X (e :: es) t) (b:(x == ("__debug__" : Str))=false:=by decide) (l:starEach (e :: es) X.env=(false,eval e X.env) :: starEach es X.env:=by rfl) (a:(backTo pos (starEach es X.env)).any (·.1)=false:=by rfl) :
  PE X (.Call (.Name x p) (e :: es) [] pos) (acf sp dvs E t):=by
 intro pins s σ H Q I h
 refine wpAny_Call_Name_kw (aot I g hm ?_ b)
 refine PySem.W.callWith_K (h₀:=X.base) I.ok.mod.kin i (thn (ha pos pins s σ H _ I h) fun us s1 ⟨vs,m,c,r,q⟩=>⟨c.kIn,?_⟩) l a
 exact azi F j hb hd d c r q
end
section
variable {X:Cx} {CX:CXT} {k:Nat} {f C:Addr} {fd:FuncData} {ps ks:List Str} {sp:Sp} {E:XK} {x m:Str} {p pos apos kpos:Pos} {e o:Expr} {es:List Expr} {kws:List Keyword} {te ta:TE} {t tk:TA} {nm:Option Str}
variable {g:List Value->List Value->List Value} {gV:List V->List V->List V}
end
structure FnScope (N P:List Str) (sc:Scope):Prop where
 kind:sc.kind=.function
 co:sc.isCoroutine=false
 gen:sc.isGenerator=false
 nd:N.Nodup
 pre:N.take P.length=P
 par:∀ x∈P,sc.names.lookup x=some .local\/sc.names.lookup x=some .cell
 nofree:∀ y∈sc.names,y.2 ≠ .free
theorem akh {kindOf:Str->Option NameKind} {x:Str}:∀ {binds:List (Str × Value)} {m:Str->Option Value},(∀ v,(x,v) ∉ binds)->bindL kindOf binds m x=m x
 | [],_,_=>rfl
 | (n,v) :: r,m,h=>by
  unfold bindL
  rw [akh fun w a=>h w (aB5 _ a)]
  split
  ·have:x ≠ n:=by rintro rfl;exact h v aB8
   simp [this]
  ·rfl
theorem aki {kindOf:Str->Option NameKind} {x:Str}:∀ {binds:List (Str × Value)} {m:Str->Option Value},(∀ v,(x,v) ∉ binds)->bindC kindOf binds m x=m x
 | [],_,_=>rfl
 | (n,v) :: r,m,h=>by
  unfold bindC
  rw [aki fun w a=>h w (aB5 _ a)]
  split
  ·rfl
  ·have:x ≠ n:=by rintro rfl;exact h v aB8
   simp [this]
theorem akj {kindOf:Str->Option NameKind} {x:Str} {v:Value}:∀ {P:List Str} {vs:List Value} {i:Nat} {m:Str->Option Value},P.Nodup->P[i]?=some x->vs[i]?=some v->kindOf x=some .local ->
  bindL kindOf (P.zip vs) m x=some v
 | [],_,_,_,_,h,_,_=>by simp at h
 | _ :: _,[],_,_,_,_,h,_=>by simp at h
 | p :: P,w :: vs,0,m,nd,h1,h2,hk=>by
  simp at h1 h2;subst h1;subst h2
  show bindL kindOf ((p,w) :: P.zip vs) m p=_
  unfold bindL
  rw [akh fun v a=>(aI5.mp nd).1 (List.of_mem_zip a).1,aF6 hk]
  simp
 | p :: P,w :: vs,i+1,m,nd,h1,h2,hk=>by
  show bindL kindOf ((p,w) :: P.zip vs) m x=_
  unfold bindL
  exact akj (i:=i) (aI5.mp nd).2 (by simpa using h1) (by simpa using h2) hk
theorem akk {kindOf:Str->Option NameKind} {x:Str} {v:Value}:∀ {P:List Str} {vs:List Value} {i:Nat} {m:Str->Option Value},P.Nodup->P[i]?=some x->vs[i]?=some v->kindOf x ≠ some .local ->
  bindC kindOf (P.zip vs) m x=some v
 | [],_,_,_,_,h,_,_=>by simp at h
 | _ :: _,[],_,_,_,_,h,_=>by simp at h
 | p :: P,w :: vs,0,m,nd,h1,h2,hk=>by
  simp at h1 h2;subst h1;subst h2
  show bindC kindOf ((p,w) :: P.zip vs) m p=_
  unfold bindC
  rw [aki fun v a=>(aI5.mp nd).1 (List.of_mem_zip a).1,aF7 hk]
  simp
 | p :: P,w :: vs,i+1,m,nd,h1,h2,hk=>by
  show bindC kindOf ((p,w) :: P.zip vs) m x=_
  unfold bindC
  exact akk (i:=i) (aI5.mp nd).2 (by simpa using h1) (by simpa using h2) hk
def start (N:List Str) (vs:List V):St:=vs.map some ++ List.replicate (N.length - vs.length) none
def cxOf (CX:CXT) (P:Program) (w:World) (K:Frag) (mg:Str->Option Value) (base:Heap) (N:List Str) (qual:Str) (scope:Scope) (f:Addr) (cd:Value) (A:Around) (outer:List Env) (s:Shared) (H:Hp) (E:XK):Cx where
 prog:=P
 w:=w
 K:=K
 mg:=mg
 base:=base
 A:=A.deeper (envOfC qual scope s.heap.objs.size f cd)
 N:=N
 s₀:=s
 H₀:=H
 env:=envOfC qual scope s.heap.objs.size f cd
 outer:=outer
 stack:=envOfC qual scope s.heap.objs.size f cd :: outer
 ex:=[]
 calm:=true
 fn:=fun _=>true
 pn:=[]
 xe:=fun e s'=>wpAny (model P w) (A.deeper (envOfC qual scope s.heap.objs.size f cd)) (leaving (envOfC qual scope s.heap.objs.size f cd) e) (fun _ s''=>CX outer H s E e s'') (fun e' s''=>CX outer H s E e' s'') s'
theorem ami {sc:Scope} {n:Nat} {x:Str} (h:sc.names.lookup x=some .cell):∃ c,(cellsFrom n sc.names []).lookup x=some c:=by
 have q:=PySem.W.cellsFrom_some sc.names n [] (.inl h)
 exact Option.isSome_iff_exists.mp q
theorem arv {CX:CXT} {P:Program} {w:World} {K:Frag} {mg:Str->Option Value} {base:Heap} {N ps:List Str} {qual:Str} {scope:Scope} {f:Addr} {C:Value} {A:Around} {outer:List Env} {s s1:Shared} {H:Hp} {E:XK} {us:List Value} {vs:List V}
  (S:FnScope N ps scope) (hd:A.handled=none) (g:Env0 P w K mg base A outer s H) (J:vs.length=ps.length) (r:Vals vs us)
  (x:InCallC s s.heap.objs.size (bindL (envOfC qual scope s.heap.objs.size f C).kindOf (ps.zip us) fun _=>none) (cellsFrom (s.heap.objs.size+1) scope.names []) (bindC (envOfC qual scope s.heap.objs.size f C).kindOf (ps.zip us) fun _=>none) s1) :
  Inv (cxOf CX P w K mg base N qual scope f C A outer s H E) [] (start N vs) H s1:=by
 have G:ps.length<=N.length:=by have:=congrArg List.length S.pre;rw [aH1] at this;omega
 obtain ⟨B,L,rfl,F⟩:=x.done
 have j:∀ b:Addr,b ∉ (cxOf CX P w K mg base N qual scope f C A outer s H E).ex:=fun b z=>absurd (show b∈([]:List Addr) from z) (by simp)
 refine ⟨⟨g.mod,S.kind,rfl,rfl,aA6 _,fun y z c B d=>?_,fun y l=>?_,fun y c _ h=>?_,fun _=>hd,Around.frames_deeper g.frames,.inr ⟨rfl,rfl⟩,fun b z=>absurd z (j b),g.bs,g.bsz,fun b _ _=>j b,fun b z=>absurd z (j b),g.funs,g.frf⟩,
  rfl,g.bare,Un.kept F,⟨_,x.toInCall.ns,fun i y v B d M=>?_⟩,fun y c h=>⟨_,x.cell y c h⟩,g.hok.fresh (aA6 _),fun y c h=>?_,fun p m=>absurd (show p∈([]:List (Addr × Obj)) from m) (by simp),g.hok.kept F,?_⟩
 ·exact name_of_addr x.apart (PySem.mem_of_lookup B) (PySem.mem_of_lookup d)
 ·have l:scope.names.lookup y=some .cell\/scope.names.lookup y=some .free:=l
  rcases l with l | l
  ·exact ami l
  ·exact absurd rfl (S.nofree _ (PySem.mem_of_lookup l))
 ·exact aG6 (x.above y c (PySem.mem_of_lookup h))
 ·have hi:i < vs.length:=by
   unfold start at d
   by_cases hi:i < vs.length
   ·exact hi
   ·rw [aC8 (by simpa using hi)] at d
    rw [aH8] at d
    split at d <;> cases d
  have ha:vs[i]?=some v:=by
   unfold start at d
   rw [aC3 (by simpa using hi),aA5] at d
   cases e:vs[i]? with
   | none=>rw [e] at d;cases d
   | some a=>rw [e] at d;cases d;rfl
  obtain ⟨u,D,I⟩:=r.get ha
  have m:ps[i]?=some y:=by
   rw [← S.pre,aH6 (by omega)];exact B
  have o:ps.Nodup:=by rw [← S.pre];exact S.nd.sublist (List.take_sublist _ _)
  refine ⟨u,I,?_⟩
  rcases S.par y (aA2 m) with k | k
  ·exact .inl ⟨k,akj o m D k⟩
  ·obtain ⟨c,e⟩:=ami (n:=s.heap.objs.size+1) k
   refine .inr ⟨.inl k,c,e,?_⟩
   have q:=x.cell y c e
   rw [akk o m D (by show scope.names.lookup y ≠ _;rw [k];decide)] at q
   exact q
 ·exact g.hok.fresh (aG6 (x.above y c (PySem.mem_of_lookup h)))
 ·unfold start
  show _=N.length
  rw [aB1,aA3,List.length_replicate]
  omega
theorem a1n {CX:CXT} {P:Program} {w:World} {K:Frag} {mg:Str->Option Value} {base:Heap} {k:Nat} {f:Addr} {name qual:Str} {a:Arguments} {body:List Stmt} {scope:Scope} {z kV doc pm cdv ct oc:Value} {an od:Option Addr}
  {osl:Array (Option Value)} {N ps:List Str} {sp:Sp} (L:K.lookup f=some ⟨oc,od,.func (fnOf name qual a body scope z kV doc pm an cdv ct),osl⟩) (l:codeIn K cdv qual=true) (S:FnScope N ps scope)
  (len:∀ vs H Q E,sp vs H Q E->vs.length=ps.length)
  (g:∀ (A:Around) (outer:List Env) (s:Shared) (H:Hp) (vs:List V) (Q:VK) (E:XK),Room k (A.deeper (envOfC qual scope s.heap.objs.size f cdv))->sp vs H Q E ->
   ∃ t,PSs (cxOf CX P w K mg base N qual scope f cdv A outer s H E) body t/\t { nx:=fun _ H'=>Q .non H',rt:=Q } (start N vs) H) :
  FnOk P w K mg base CX (k+1) f (fnOf name qual a body scope z kV doc pm an cdv ct) ps sp:=by
 refine ⟨len,fun A outer s H args us vs Q E p h hb r i=>?_⟩
 have G:=len _ _ _ _ i
 have B:K.In s.heap:=h.mod.kin.keeps fun b o e=>(h.bs b o e).1
 have m:s.heap.NoLimit:=h.mod.nolimit.keeps fun b o e=>(h.bs b o e).1
 have d:∀ y∈ps.zip us,scope.names.lookup y.1=some .local\/(scope.names.lookup y.1=some .cell/\((cellsFrom (s.heap.objs.size+1) scope.names []).lookup y.1).isSome=true):=fun ⟨n,v⟩ M=>by
  rcases S.par n (List.of_mem_zip M).1 with q | q
  ·exact .inl q
  ·exact .inr ⟨q,PySem.W.cellsFrom_some _ _ _ (.inl q)⟩
 refine codeAny_call_function p.depth (B _ _ L) rfl S.co S.gen rfl (PySem.W.codeRec_of B l) (hb _ _ _ _ ?_)
 refine wpAny_newFunctionEnv_cells S.kind d fun env O s1 x=>?_
 subst O
 refine ⟨m.keeps x.toInCall.keep,codeAny_func ?_⟩
 obtain ⟨t,F,D⟩:=g A outer s H vs Q E (p.deeper _) i
 have I:Inv (cxOf CX P w K mg base N qual scope f cdv A outer s H E) [] (start N vs) H s1:=arv S p.hd h G r x
 refine aK0 (F [] s1 (start N vs) H _ I D) (fun C s' hs=>?_) fun e s' hs=>hs
 have fin:∀ {c:St} {H':Hp} {v:V} {u:Value},Inv (cxOf CX P w K mg base N qual scope f cdv A outer s H E) [] c H' s'->RelV v u->Q v H'->CE outer P w H s Q u s' :=
  fun {c H' v u} J j q=>⟨v,H',J.os,J.bare,J.base,J.hok,j,q⟩
 cases C with
 | ret u =>
  obtain ⟨v,c,H',J,j,q⟩:=hs
  exact fin J j q
 | next =>
  obtain ⟨c,H',J,q⟩:=hs
  exact fin (v:=V.non) (u:=Value.none) J rfl q
 | brk =>
  obtain ⟨_,_,_,q⟩:=hs
  exact False.elim q
 | cont =>
  obtain ⟨_,_,_,q⟩:=hs
  exact False.elim q
section
variable {X:Cx} {x:Str} {p pos:Pos} {e:Expr} {es:List Expr} {t:TA} {id T:String} {r:List V->Hp->VK->Prop}
def tCB (r:List V->Hp->VK->Prop) (t:TA):TE:=fun σ H Q=>t σ H fun vs H1=>r vs H1 Q
theorem aah (g:aa5 X (.builtin id) r) (j:Gl X x) (hm:X.mg x=none) (f:bootBuiltins x=some (.builtin id)) (ha:PA X (e :: es) t) (hn:x ≠ "__name__":=by decide) (b:(x == ("__debug__" : Str))=false:=by decide)
  (m:starEach (e :: es) X.env=(false,eval e X.env) :: starEach es X.env:=by rfl) (a:(backTo pos (starEach es X.env)).any (·.1)=false:=by rfl):PE X (.Call (.Name x p) (e :: es) [] pos) (tCB r t):=by
 intro pins s σ H Q I h
 refine wpAny_Call_Name_kw (adp I j hm f ?_ hn b)
 exact PyProof.Rows.callWith_builtin1 (thn (ha pos pins s σ H _ I h) fun us s1 ⟨vs,c,l,i,d⟩=>g pins s1 σ c vs us Q l i d) m a
theorem agg (g:aa5 X (.type T) r) (j:Gl X x) (hm:X.mg x=none) (f:bootBuiltins x=some (.type T)) (ha:PA X (e :: es) t) (hn:x ≠ "__name__":=by decide) (b:(x == ("__debug__" : Str))=false:=by decide)
  (m:starEach (e :: es) X.env=(false,eval e X.env) :: starEach es X.env:=by rfl) (a:(backTo pos (starEach es X.env)).any (·.1)=false:=by rfl):PE X (.Call (.Name x p) (e :: es) [] pos) (tCB r t):=by
 intro pins s σ H Q I h
 refine wpAny_Call_Name_kw (adp I j hm f ?_ hn b)
 exact PyProof.Rows.callWith_type1 (thn (ha pos pins s σ H _ I h) fun us s1 ⟨vs,c,l,i,d⟩=>g pins s1 σ c vs us Q l i d) m a
end
end L2
namespace HT
open PySem PyProof.Rows
def lexLt:List Int->List Int->Bool
 | [],[]=>false
 | [],_ :: _=>true
 | _ :: _,[]=>false
 | x :: xs,y :: ys=>if x=y then lexLt xs ys else decide (x < y)
theorem aeu (x y:Int) (xs ys:List Int):lexLt (x :: xs) (y :: ys)=if x=y then lexLt xs ys else decide (x < y):=rfl
theorem ala:lexLt [] []=false:=rfl
theorem ajj (y:Int) (ys:List Int):lexLt [] (y :: ys)=true:=rfl
theorem ajk (x:Int) (xs:List Int):lexLt (x :: xs) []=false:=rfl
theorem atu (A:Around) (s:Shared) (a:Int) (t:Tok) (c:Int) (u:Tok):∃ e,SeqAt.EqAt A s (.int a t) (.int c u) e/\(e=true ↔ a=c) :=
 ⟨(a == c),SeqAt.EqAt.int_int a t c u,by simp⟩
theorem atv (A:Around) (s:Shared) (a:Int) (t:Tok) (c:Int) (u:Tok) (prog:Program) (w:World) (E:Value->Shared->Prop) (Q:Value->Shared->Prop) (h:Q (.bool (decide (a < c))) s) :
  wpAny (model prog w) A (richCompare .Lt (.int a t) (.int c u)) Q E s :=
 (PyProof.Rows.lt_int h:wpAny (model prog w) A (compareOp .Lt (.int a t) (.int c u)) Q E s)
section
open PySem.SeqAt
open PySem.AutoSeq1 (wpAny_loadPart')
open PySem.MeetsSeq PySem.MeetsSeq2 PySem.MeetsSeq3
theorem alb (l b:Addr) (items f:Array Value) (n N:Nat) (S H:Option Addr) (sl I:Array (Option Value)) (ns E:List Int) (hi:IntsAre items.toList ns) (L:IntsAre f.toList E) :
  Meets (Builtin.«tuple.__lt__» ⟨[.ref l,.ref b],[]⟩)
   (fun _ R s=>s.heap.get? l=some { cls:=.type "tuple",dict:=S,data:=.seq items n,slots:=sl }/\s.heap.get? b=some { cls:=.type "tuple",dict:=H,data:=.seq f N,slots:=I } /\
    R (.ok (.ret (.bool (lexLt ns E)))) s) :=
 .of_wp fun prog w A R s h=>by
  obtain ⟨F,g,d,D,os⟩:=s;obtain ⟨O,hb,h⟩:=h
  have X:=AutoSeq1.sub_tuple_tuple
  have W:items.size=ns.length:=by rw [← hi.length];simp
  have U:f.size=E.length:=by rw [← L.length];simp
  wp_walk using wpAny_loadPart' O,wpAny_loadPart' hb,wpAny_forIn_list _ (fun rest b s'=>b.1=none/\s'=⟨F,g,d,D,os⟩/\∃ (vs G:List Value) (m j:List Int),rest=vs.zip G /\
   IntsAre vs m/\IntsAre G j/\m.length+f.size=j.length+items.size/\R (.ok (.ret (.bool (lexLt m j)))) ⟨F,g,d,D,os⟩) _
  case turn =>
   rintro ⟨y,x⟩ rest b s' ⟨z,rfl,vs,G,m,j,o,B,p,i,r⟩
   cases B with
   | nil=>rw [List.zip_nil_left] at o;cases o
   | cons a t hvi' =>
    cases p with
    | nil=>rw [List.zip_nil_right] at o;cases o
    | cons c u hwi' =>
     rw [List.zip_cons_cons] at o
     injection o with K C
     injection K with Q P
     subst Q P
     rw [aeu] at r
     simp only [aE4] at i
     obtain ⟨e,T,v⟩:=atu A.in1 ⟨F,g,d,D,os⟩ a t c u
     refine aJ2 (T prog w _ _ ?_)
     cases e with
     | true =>
      rw [aF6 (v.mp rfl)] at r
      wp_walk
      exact ⟨rfl,rfl,_,_,_,_,C,hvi',hwi',by omega,r⟩
     | false =>
      rw [aF7 (fun q=>absurd (v.mpr q) aB0)] at r
      have J:=atv A.in1 ⟨F,g,d,D,os⟩ a t c u prog w
      wp_walk using J
      exact ⟨_,rfl,by simpa using r⟩
  case fin =>
   rintro ⟨b1,Y⟩ s' ⟨z,rfl,vs,G,m,j,o,B,p,i,r⟩
   simp only at z
   subst z
   have M:lexLt m j=decide (items.size < f.size):=by
    cases B with
    | nil =>
     cases p with
     | nil =>
      simp only [aJ1] at i
      rw [ala]
      exact (aD6 (by omega)).symm
     | cons c u hw =>
      simp only [aJ1,aE4] at i
      rw [ajj]
      exact (aD7 (by omega)).symm
    | cons a t M =>
     cases p with
     | nil =>
      simp only [aJ1,aE4] at i
      rw [ajk]
      exact (aD6 (by omega)).symm
     | cons c u hw =>
      rw [List.zip_cons_cons] at o
      cases o
   rw [M] at r
   wp_walk
   exact ⟨_,rfl,by simpa [Builtin.Tuple.tupleCompareSizes] using r⟩
  case h =>
   exact ⟨rfl,rfl,items.toList,f.toList,ns,E,rfl,hi,L,by omega,h⟩
end
section
variable {prog:Program} {w:World} {A:Around} {E:Value->Shared->Prop} {s:Shared}
theorem lt_tupInts {l b:Addr} {items a:Array Value} {ns d:List Int} {Q:Value->Shared->Prop} (y:IsTup s.heap l items) (hb:IsTup s.heap b a) (hi:IntsAre items.toList ns) (u:IntsAre a.toList d)
  (r:A.units < cLine) (h:Q (.bool (lexLt ns d)) s):wpAny (model prog w) A (compareOp .Lt (.ref l) (.ref b)) Q E s:=by
 obtain ⟨⟨cls,z,data,sl⟩,o,q,n,hd⟩:=id y
 obtain ⟨⟨p,i,j,m⟩,f,g,v,c⟩:=id hb
 simp only at q hd g c
 subst q hd g c
 exact richCompare_meets_room (op:=.Lt) ⟨_,o,rfl⟩ ⟨_,f,rfl⟩ PySem.F.slot_tuple_lt PySem.F.entry_tuple_lt (PySem.F.args_tuple_lt_2 _ _) (alb l b items a n v z i sl m ns d hi u)
  ⟨o,f,show Value.bool (lexLt ns d) ≠ Value.notImplemented/\Q (.bool (lexLt ns d)) s from ⟨(fun x=>nomatch x),h⟩⟩ r
def sIx (n d:Nat):Option Int->Nat
 | none=>d
 | some v=>if v < 0 then (v+(n:Int)).toNat else min v.toNat n
theorem sIx_none (n d:Nat):sIx n d none=d:=rfl
theorem sIx_nat (n d k:Nat):sIx n d (some (k:Int))=min k n:=by
 show (if (k:Int) < 0 then ((k:Int)+(n:Int)).toNat else min (k:Int).toNat n)=min k n
 rw [aF7 (by omega),Int.toNat_natCast]
end
end HT
namespace L2
open PySem PySem.Spec PyProof.Rows
abbrev TO:=St->Hp->(Option Int->Hp->Prop)->Prop
def PO (X:Cx) (e:Option Expr) (t:TO):Prop :=
 ∀ (pins:List (Addr × Obj)) (s:Shared) (σ:St) (H:Hp) (Q:Option Int->Hp->Prop),Inv X pins σ H s->t σ H Q ->
  wpAny (model X.prog X.w) X.A (evalPart e X.env) (fun u s'=>∃ o H',Inv X pins σ H' s'/\IsPart u o/\Q o H') X.xe s
def aow:TO:=fun _ H Q=>Q none H
def awc (t:TE):TO:=fun σ H Q=>t σ H fun x H1=>∃ i,x=.int i/\Q (some i) H1
theorem abx {ns:List Int}:∀ {us:List Value},Vals (ns.map V.int) us->IntsAre us ns:=by
 induction ns with
 | nil=>intro us r;rw [List.map_nil] at r;cases r;exact .nil
 | cons n ns ih =>
  intro us r
  rw [aD1] at r
  cases r with
  | cons r1 r2 =>
   obtain ⟨t,e⟩:=r1
   subst e
   exact .cons n t (ih r2)
section
variable {X:Cx} {e:Expr} {te:TE} {lo hi:Option Expr} {tl th:TO} {pos p2:Pos}
theorem aox:PO X none aow:=by
 intro pins s σ H Q I h
 rw [evalPart_none]
 exact aJ3 ⟨none,H,I,.none,h⟩
theorem aoy (h:PE X e te):PO X (some e) (awc te):=by
 intro pins s σ H Q I b
 rw [evalPart_some]
 refine thn (h pins s σ H _ I b) fun u s1 ⟨x,a,f,d,c⟩=>?_
 obtain ⟨i,rfl,q⟩:=c
 obtain ⟨t,rfl⟩:=d
 exact ⟨some i,a,f,.int i t,q⟩
def SlR (X:Cx) (r:V->Option Int->Option Int->Hp->VK->Prop):Prop :=
 ∀ (pins:List (Addr × Obj)) (s:Shared) (σ:St) (H:Hp) (x:V) (v vl vu:Value) (lo hi:Option Int) (sl:Addr) (Q:VK),Inv X pins σ H s->RelV x v->s.heap.IsSliceOf sl vl vu .none->IsPart vl lo->IsPart vu hi->r x lo hi H Q ->
  ∃ T id,typeLookup (.type T) "__getitem__" = pure (some (.builtin id))/\s.TypeIs v T/\wpAny (model X.prog X.w) X.A (getItem v (.ref sl)) (EP X pins σ Q) X.xe s
def tSl (r:V->Option Int->Option Int->Hp->VK->Prop) (te:TE) (tl th:TO):TE:=fun σ H Q=>te σ H fun x H1=>tl σ H1 fun l H2=>th σ H2 fun u H3=>r x l u H3 Q
theorem amj {r:V->Option Int->Option Int->Hp->VK->Prop} (D:SlR X r) (J:PE X e te) (m:PO X lo tl) (g:PO X hi th):PE X (.Subscript e (.Slice lo hi none p2) pos) (tSl r te tl th):=by
 intro pins s σ H Q I h
 refine Subscript_ (thn (J pins s σ H _ I h) fun v s1 ⟨x,f,F,y,i⟩=>?_)
 refine wpAny_Slice (thn (m pins s1 σ f _ F i) fun c s2 ⟨l,H2,o,pl,G⟩=>thn (g pins s2 σ H2 _ o G) fun d a ⟨u,H3,B,C,E⟩=>?_)
 rw [evalPart_none]
 refine aJ3 ?_
 have p:Inv X pins σ H3 { a with heap:=a.heap.push { cls:=.type "slice",data:=.fields #[c,d,.none] } }:=B.kept (t':=a.toks) fun b K q=>aJ4 _ q
 obtain ⟨T,id,n,j,z⟩:=D pins { a with heap:=a.heap.push { cls:=.type "slice",data:=.fields #[c,d,.none] } } σ H3 x v c d l u a.heap.objs.size Q p y (Heap.IsSliceOf.new ..) pl C E
 show wpAny (model X.prog X.w) X.A (subscriptTail e (.Slice lo hi none p2) v (.ref a.heap.objs.size)) (EP X pins σ Q) X.xe { a with heap:=a.heap.push { cls:=.type "slice",data:=.fields #[c,d,.none] } }
 exact tail_any (ops:=[.ref a.heap.objs.size,v]) j n z (by with_unfolding_all rfl)
def cutV (xs:List V) (lo hi:Option Int):List V:=(xs.drop (HT.sIx xs.length 0 lo)).take (HT.sIx xs.length xs.length hi - HT.sIx xs.length 0 lo)
theorem aog (xs:List V) (lo hi:Option Int):(cutV xs lo hi).length<=xs.length:=by
 unfold cutV
 rw [aH1,aJ0]
 omega
def rLtT (K:Frag):R2:=fun x y H Q=>∃ a b ns ms,x=.ref a/\y=.ref b/\SqT K H a (ns.map V.int)/\SqT K H b (ms.map V.int)/\Q (.bl (HT.lexLt ns ms)) H
theorem azj (f:X.A.units < cLine):OpR X (compareOp .Lt) (rLtT X.K):=by
 intro pins s σ H x y v u Q I n i h
 obtain ⟨a,b,ns,d,rfl,rfl,ha,hb,q⟩:=h
 cases n
 cases i
 obtain ⟨its,m,j,_⟩:=I.tuple ha
 obtain ⟨c,l,p2,_⟩:=I.tuple hb
 have i1:IntsAre its.toArray.toList ns:=abx m
 have g:IntsAre c.toArray.toList d:=abx l
 exact HT.lt_tupInts j p2 i1 g f ⟨.bl (HT.lexLt ns d),H,I,rfl,q⟩
end
def ixN (n:Nat) (i:Int):Option Nat:=if 0<=i then (if i < n then some i.toNat else none) else if -(n:Int)<=i then some (i+n).toNat else none
def atI {α:Type} (xs:List α) (i:Int):Option α:=(ixN xs.length i).bind fun j=>xs[j]?
theorem aoz {n:Nat} {i:Int} {j:Nat} (h:ixN n i=some j):seqIndex? i n=some j/\j < n/\-(n:Int)<=i/\i < n:=by
 unfold ixN at h
 by_cases h0:0<=i
 ·rw [aF6 h0] at h
  by_cases h1:i < n
  ·rw [aF6 h1] at h
   have e:i.toNat=j:=aC6 h
   exact ⟨by rw [seqIndex_of h0 h1,e],by omega,by omega,h1⟩
  ·rw [aF7 h1] at h;cases h
 ·rw [aF7 h0] at h
  by_cases h1 : -(n:Int)<=i
  ·rw [aF6 h1] at h
   have e:(i+n).toNat=j:=aC6 h
   exact ⟨by rw [seqIndex_neg (by omega) h1,e],by omega,h1,by omega⟩
  ·rw [aF7 h1] at h;cases h
theorem ao0 {α:Type} {xs:List α} {i:Int} {v : α} (h:atI xs i=some v):∃ j,seqIndex? i xs.length=some j/\xs[j]?=some v/\j < xs.length/\-(xs.length:Int)<=i/\i < xs.length:=by
 unfold atI at h
 cases e:ixN xs.length i with
 | none=>rw [e] at h;cases h
 | some j =>
  rw [e] at h
  obtain ⟨b,c,d,a⟩:=aoz e
  exact ⟨j,b,h,c,d,a⟩
theorem ag6 {α:Type} {xs:List α} {j:Nat} {v : α} (h:xs[j]?=some v):atI xs (j:Int)=some v:=by
 have a:j < xs.length:=(aA1.mp h).1
 have e:ixN xs.length (j:Int)=some j:=by
  unfold ixN
  rw [aF6 (by omega),aF6 (by omega)];simp
 unfold atI;rw [e];exact h
def awy (b:Expr):Prop:=∀ o i,subscripted b false o i=operate [o,i] (getItem o i)
def IxR (X:Cx) (r:R2):Prop :=
 ∀ (value slice:Expr) (pins:List (Addr × Obj)) (s:Shared) (σ:St) (H:Hp) (x y:V) (v u:Value) (Q:VK),Inv X pins σ H s->RelV x v->RelV y u->r x y H Q ->
  subscripted slice false v u=operate [v,u] (getItem v u)->wpAny (model X.prog X.w) X.A (subscriptTail value slice v u) (EP X pins σ Q) X.xe s
def MtR (X:Cx) (id:String) (r:V->List V->Hp->VK->Prop):Prop :=
 ∀ (pins:List (Addr × Obj)) (s:Shared) (σ:St) (H:Hp) (x:V) (xs:List V) (v:Value) (us:List Value) (Q:VK),Inv X pins σ H s->RelV x v->Vals xs us->r x xs H Q ->
  wpAny (model X.prog X.w) X.A (call (.builtin id) (v :: us)) (EP X pins σ Q) X.xe s
section
variable {X:Cx} {a b:Expr} {ta tb:TE} {pos:Pos}
theorem IxR.or {r c:R2} (h:IxR X r) (h':IxR X c):IxR X (fun x y H Q=>r x y H Q\/c x y H Q):=by
 intro a b pins s σ H x y v u Q I f d q hs
 rcases q with q | q
 ·exact h a b pins s σ H x y v u Q I f d q hs
 ·exact h' a b pins s σ H x y v u Q I f d q hs
theorem aas {r:R2} (f:IxR X r) (ha:PE X a ta) (hb:PE X b tb) (hs:awy b):PE X (.Subscript a b pos) (tOp r ta tb):=by
 intro pins s σ H Q I h
 exact Subscript_ (binT ha hb I h fun v u s2 x y H2 c g d q=>f a b pins s2 σ H2 x y v u Q c g d q (hs _ _))
def rIxL (K:Frag):R2:=fun x y H Q=>∃ p xs i v,x=.ref p/\y=.int i/\SqL K H p xs/\atI xs i=some v/\Q v H
def rIxT (K:Frag):R2:=fun x y H Q=>∃ p xs i v,x=.ref p/\y=.int i/\SqT K H p xs/\atI xs i=some v/\Q v H
theorem ix_list:IxR X (rIxL X.K):=by
 intro c d pins s σ H x y v u Q I C o h hs
 obtain ⟨p,xs,i,z,rfl,rfl,m,D,q⟩:=h
 cases C
 obtain ⟨t,rfl⟩:=o
 obtain ⟨its,r,pl,E⟩:=I.list m
 obtain ⟨j,a,l,F,B,A⟩:=ao0 D
 obtain ⟨w,g,f⟩:=r.get l
 have n:=r.length
 have hn:=agf
 have fin:EP X pins σ Q w s:=⟨z,H,I,f,q⟩
 by_cases h0:0<=i
 ·have b:i.toNat=j:=by
   rw [seqIndex_of h0 A] at a
   exact aC6 a
  exact item_listR pl.isList h0 (by omega) (by rw [b];simpa using g) fin hs
 ·have b:(i+(its.toArray.size:Int)).toNat=j:=by
   rw [seqIndex_neg (by omega) B] at a
   rw [aB2,← n]
   exact aC6 a
  exact subscriptTail_builtinR (x:=w) pl.isList.typeIs slot_list_getitem.lookup
   (wpAny_getItem_list_neg (Q:=fun r s'=>r=w/\EP X pins σ Q r s') pl.isList (by omega) (by rw [aB2] <;> omega) (by omega) (by rw [b];simpa using g) ⟨rfl,fin⟩) hs
theorem azk:IxR X (rIxT X.K):=by
 intro a b pins s σ H x y v u Q I o n h hs
 obtain ⟨p,xs,i,z,rfl,rfl,g,A,q⟩:=h
 cases o
 obtain ⟨t,rfl⟩:=n
 obtain ⟨its,r,pl,B⟩:=I.tuple g
 obtain ⟨j,d,f,E,D,C⟩:=ao0 A
 obtain ⟨w,m,c⟩:=r.get f
 have l:=r.length
 have hn:=agf
 have fin:EP X pins σ Q w s:=⟨z,H,I,c,q⟩
 exact subscriptTail_builtinR (x:=w) pl.typeIs slot_tuple_getitem.lookup
  (getItem_tuple (j:=j) (Q:=fun r s'=>r=w/\EP X pins σ Q r s') pl (by omega) (by omega) (by rw [aB2,← l];exact d) (by simpa using m) ⟨rfl,fin⟩) hs
theorem aqg (its:List Value) (n j:Nat) (u:Value):Obj.mapSeq (·.setIfInBounds j u) { cls:=.type "list",data:=.seq its.toArray n }={ cls:=.type "list",data:=.seq (its.set j u).toArray n }:=by
 simp [Obj.mapSeq]
theorem Inv.lst {pins:List (Addr × Obj)} {σ:St} {H:Hp} {s:Shared} {p:Addr} {xs:List V} (I:Inv X pins σ H s) (h:H p=some (.lst xs)) :
  ∃ (its:List Value) (n:Nat),Vals xs its/\s.heap.get? p=some { cls:=.type "list",data:=.seq its.toArray n }/\xs.length<=sizeLine:=by
 obtain ⟨z,its,n,r,e⟩:=I.hok p _ h
 exact ⟨its,n,r,e,z⟩
theorem Inv.lstUpd {pins:List (Addr × Obj)} {σ:St} {H:Hp} {s:Shared} {p:Addr} {xs ys:List V} {its its':List Value} {n a:Nat} {f:Obj->Obj} (I:Inv X pins σ H s) (h:H p=some (.lst xs))
  (d:s.heap.get? p=some { cls:=.type "list",data:=.seq its.toArray n }) (hf:f { cls:=.type "list",data:=.seq its.toArray n }={ cls:=.type "list",data:=.seq its'.toArray a }) (r:Vals ys its') (c:ys.length<=sizeLine) (t:Nat) :
  Inv X pins σ (upd H p (.lst ys)) { s with heap:=s.heap.update p f,toks:=t }:=by
 have e:(s.heap.update p f).get? p=some { cls:=.type "list",data:=.seq its'.toArray a }:=by
  rw [Heap.get?_update_self f d (by rw [hf] <;> rfl),hf]
 refine I.write (x:=p) (e:=p) (by rw [h];trivial) (.inl rfl) (fun b u hb q=>(Heap.get?_update_other _ _ (Ne.symm hb)).trans q) ⟨_,e⟩ ?_
 exact ⟨c,its',a,r,e⟩
def aqh:V->V->V->Hp->(Hp->Prop)->Prop:=fun o i v H Q=>∃ p xs k j,o=.ref p/\i=.int k/\H p=some (.lst xs)/\ixN xs.length k=some j/\Q (upd H p (.lst (xs.set j v)))
theorem ah3:PSet X aqh:=by
 intro pins s σ H o i v B C u Q I A z y h
 obtain ⟨p,xs,k,j,rfl,rfl,g,x,q⟩:=h
 cases A
 obtain ⟨t,rfl⟩:=z
 obtain ⟨its,n,r,b,w⟩:=I.lst g
 obtain ⟨a,D,m,l⟩:=aoz x
 have c:=r.length
 have hn:=agf
 have f:Inv X pins σ (upd H p (.lst (xs.set j v))) { s with heap:=s.heap.update p (Obj.mapSeq (·.setIfInBounds j u)) } :=
  I.lstUpd g b (aqg its n j u) (r.set y j) (by rw [List.length_set];exact w) s.toks
 by_cases h0:0<=k
 ·have d:k.toNat=j:=by
   rw [seqIndex_of h0 l] at a
   exact aC6 a
  exact PySem.W.ki_setAt b h0 (by omega) (by rw [aB2,← c];exact l) (by rw [d];exact ⟨_,f,q⟩)
 ·have d:(k+(its.toArray.size:Int)).toNat=j:=by
   rw [seqIndex_neg (by omega) m] at a
   rw [aB2,← c]
   exact aC6 a
  exact PySem.W.ki_setBack b (by omega) (by rw [aB2,← c];exact m) (by omega) (by rw [d];exact ⟨_,f,q⟩)
theorem amk (lo hi:Option Int) (n:Nat):(sliceBounds lo hi none n).1=((HT.sIx n 0 lo:Nat):Int)/\(sliceBounds lo hi none n).2.1=((HT.sIx n n hi:Nat):Int)/\(sliceBounds lo hi none n).2.2=1:=by
 refine ⟨?_,?_,rfl⟩
 ·cases lo with
  | none=>simp [sliceBounds,HT.sIx]
  | some i =>
   simp only [sliceBounds,HT.sIx,Option.getD_none,show (1:Int) > 0 by decide,if_true]
   by_cases h:i < 0
   ·simp only [h,if_true] <;> omega
   ·simp only [h,if_false] <;> omega
 ·cases hi with
  | none=>simp [sliceBounds,HT.sIx]
  | some i =>
   simp only [sliceBounds,HT.sIx,Option.getD_none,show (1:Int) > 0 by decide,if_true]
   by_cases h:i < 0
   ·simp only [h,if_true] <;> omega
   ·simp only [h,if_false] <;> omega
theorem alc (its:List Value) (lo hi:Option Int):slicePick its.toArray lo hi none=((its.drop (HT.sIx its.length 0 lo)).take (HT.sIx its.length its.length hi - HT.sIx its.length 0 lo)).toArray:=by
 obtain ⟨a,b,c⟩:=amk lo hi its.toArray.size
 unfold slicePick
 rw [a,b,c]
 simp only [sliceRange_one,pick_run,aB2] <;> rfl
def rSlL (K:Frag):V->Option Int->Option Int->Hp->VK->Prop:=fun x lo hi H Q=>∃ a xs,x=.ref a/\SqL K H a xs/\∀ p,H p=none->Q (.ref p) (upd H p (.lst (cutV xs lo hi)))
theorem ao1:SlR X (rSlL X.K):=by
 intro pins s σ H x v l n lo hi sl Q I j hs pl i h
 obtain ⟨a,xs,rfl,g,q⟩:=h
 cases j
 obtain ⟨its,r,d,f⟩:=I.list g
 have c:=r.length
 refine ⟨"list",_,slot_list_getitem.lookup,d.isList.typeIs,?_⟩
 refine wpAny_getItem_list_slice d.isList hs pl i .none (by simp) ?_ (by rw [aB2] <;> omega)
 rw [alc,← c]
 refine ⟨.ref s.heap.objs.size,_,I.laid (t':=s.toks) (o:=.lst (cutV xs lo hi)) (fun b m q=>aJ4 _ q) (aA6 _) ?_,rfl,q _ (I.hok.fresh (aA6 _))⟩
 exact ⟨aD0 (aog xs lo hi) f,_,0,(r.drop (HT.sIx xs.length 0 lo)).take (HT.sIx xs.length xs.length hi - HT.sIx xs.length 0 lo),aJ6 _ rfl⟩
theorem aml:aa5 X (.builtin "len") (fun xs H Q=>∃ p ys,xs=[.ref p]/\(SqL X.K H p ys\/SqT X.K H p ys)/\Q (.int ys.length) H):=by
 intro pins s σ H xs us Q I r h
 obtain ⟨p,ys,rfl,b,q⟩:=h
 obtain ⟨u,rfl,f⟩:=ab8 r
 cases f
 have hn:=agf
 rcases b with b | b
 ·obtain ⟨its,c,pl,d⟩:=I.list b
  have a:=c.length
  exact Calls.call_len_list pl.isList (by simp only [aB2] <;> omega) ⟨.int ys.length,H,I.tok _,⟨s.toks+1,by rw [aB2,a]⟩,q⟩
 ·obtain ⟨its,c,pl,d⟩:=I.tuple b
  have a:=c.length
  exact len_tuple pl (by simp only [aB2] <;> omega) ⟨.int ys.length,H,I.tok _,⟨s.toks+1,by rw [aB2,a]⟩,q⟩
def tyV (K:Frag) (T:String) (x:V) (H:Hp):Prop:=match x with
 | .str _=>T = "str"
 | .int _=>T = "int"
 | .ref p=>(T = "list"/\∃ xs,SqL K H p xs)\/(T = "tuple"/\∃ o,K.lookup p=some o/\o.cls=.type "tuple"/\o.dict=none) ∨
   (T = "dict"/\((∃ kvs,H p=some (.dK kvs))\/∃ kvs,H p=some (.dT kvs)))\/(T = "set"/\∃ S n,H p=some (.set S n))
 | _=>False
theorem azl {pins:List (Addr × Obj)} {σ:St} {H:Hp} {s:Shared} {T:String} {x:V} {v:Value} (I:Inv X pins σ H s) (r:RelV x v) (ty:tyV X.K T x H) :
  s.TypeIs v T/\∀ a,v=.ref a->∃ f,s.heap.get? a=some f/\f.dict=none:=by
 cases x with
 | str z =>
  obtain ⟨t,rfl⟩:=r
  cases (show T = "str" from ty)
  exact ⟨typeIs_str s z t,fun _ e=>nomatch e⟩
 | int i =>
  obtain ⟨t,rfl⟩:=r
  cases (show T = "int" from ty)
  exact ⟨typeIs_int s i t,fun _ e=>nomatch e⟩
 | ref p =>
  cases r
  rcases ty with ⟨rfl,xs,g⟩ | ⟨rfl,o,b,h,hd⟩ | ⟨rfl,b⟩ | ⟨rfl,S,n,b⟩
  ·obtain ⟨its,_,pl,_⟩:=I.list g
   refine ⟨pl.isList.typeIs,fun a e=>?_⟩
   cases e
   obtain ⟨o,n,e,c,hd,_⟩:=pl
   exact ⟨o,e,hd⟩
  ·refine ⟨⟨o,I.kIn p o b,h⟩,fun a e=>?_⟩
   cases e
   exact ⟨o,I.kIn _ o b,hd⟩
  ·have z:∃ o,s.heap.get? p=some o/\o.ExactDict:=by
    rcases b with ⟨kvs,b⟩ | ⟨kvs,b⟩
    ·obtain ⟨_,_,_,_,o,_,_,e,ex,_⟩:=I.hok p _ b
     exact ⟨o,e,ex⟩
    ·obtain ⟨_,_,_,_,o,_,_,e,ex,_⟩:=I.hok p _ b
     exact ⟨o,e,ex⟩
   obtain ⟨o,e,ex⟩:=z
   refine ⟨⟨o,e,ex.1⟩,fun a d=>?_⟩
   cases d
   exact ⟨o,e,ex.2.1⟩
  ·obtain ⟨o,_,_,_,e,ex,_⟩:=I.hok p _ b
   refine ⟨⟨o,e,ex.1⟩,fun a d=>?_⟩
   cases d
   exact ⟨o,e,ex.2.1⟩
 | _=>exact False.elim ty
def tBM (K:Frag) (T:String) (r:V->List V->Hp->VK->Prop) (to:TE) (t:TA):TE:=fun σ H Q=>to σ H fun x H1=>tyV K T x H1/\t σ H1 fun xs H2=>r x xs H2 Q
variable {o e:Expr} {es:List Expr} {to:TE} {t:TA} {name:Str} {apos cpos:Pos} {T id:String} {r:V->List V->Hp->VK->Prop}
theorem aco (q:PlainAttrs T) (slot:Slot T name id) (g:typeOf (.builtin id)=pure (.type "method_descriptor")) (hm:MtR X id r) (w:PE X o to) (ha:PA X (e :: es) t)
  (d:attributeBase o name X.env (eval o X.env)=eval o X.env:=by rfl)
  (f:((backTo cpos (starEach (e :: es) X.env)).all (fun x => !x.1) && (backToKw cpos (keywordEach [] X.env)).all (fun x=>x.1.isSome)
   && decide ((e :: es).length+([]:List Keyword).length+(if ([]:List Keyword).isEmpty then 0 else 1) < 30))=true:=by rfl)
  (c:(apos.endLine == cpos.line)=true:=by rfl) (hs:starEach (e :: es) X.env=(false,eval e X.env) :: starEach es X.env:=by rfl) (b:(backTo cpos (starEach es X.env)).any (·.1)=false:=by rfl) :
  PE X (.Call (.Attribute o name apos) (e :: es) [] cpos) (tBM X.K T r to t):=by
 intro pins s σ H Q I h
 refine wpAny_Call_method_late d f c rfl (thn (w pins s σ H _ I h) fun v s1 ⟨x,m,l,j,ty,n⟩=>?_)
 obtain ⟨p,u⟩:=azl l j ty
 refine ⟨T,id,q,slot,g,p,u,?_⟩
 have i:=ha cpos pins s1 σ m _ l n
 rw [hs] at i ⊢
 refine Calls.callWith_builtin (by show (false || (backTo cpos (starEach es X.env)).any (·.1))=false;rw [b] <;> rfl) (Calls.evalArgs_plain ?_)
 exact thn i fun us s2 ⟨vs,H2,y,z,A⟩=>hm pins s2 σ H2 x vs v us Q y j z A
/- xs.append(e), list.index on a module's tuple .. are MtR facts of 06m -/
end
def MtM (X:Cx) (id:String) (r:V->List V->Hp->VK->Prop):Prop :=
 ∀ (pins:List (Addr × Obj)) (s:Shared) (σ:St) (H:Hp) (x:V) (xs:List V) (v:Value) (us:List Value) (Q:VK),Inv X pins σ H s->RelV x v->Vals xs us->r x xs H Q ->
  wpAny (model X.prog X.w) X.A (call (.builtin id) (v :: us)) (EP X pins σ Q) X.xe s
theorem Vals.one:∀ {x:V} {us:List Value},Vals [x] us->∃ u,us=[u]/\RelV x u
 | _,_,.cons r .nil=>⟨_,rfl,r⟩
theorem Vals.eraseIdx:∀ {xs:List V} {us:List Value} (i:Nat),Vals xs us->Vals (xs.eraseIdx i) (us.eraseIdx i)
 | _,_,_,.nil => .nil
 | _,_,0,.cons _ t=>t
 | _,_,i+1,.cons r t => .cons r (Vals.eraseIdx i t)
theorem Vals.rep {xs:List V} {us:List Value} (h:Vals xs us):∀ k:Nat,Vals (List.replicate k xs).flatten (List.replicate k us).flatten
 | 0 => .nil
 | k+1=>by
  rw [aH4,aH4,List.flatten_cons,List.flatten_cons]
  exact Vals.append h (Vals.rep h k)
theorem akl {α:Type}:∀ (l:List α) (i:Nat),(l.eraseIdx i).length<=l.length
 | [],_=>aA6 _
 | _ :: _,0=>Nat.le_succ _
 | _ :: r,i+1=>Nat.succ_le_succ (akl r i)
theorem akm (its:List Value):∀ (k:Nat) (a:List Value),
  List.foldl (fun b d=>b ++ d) a.toArray (List.replicate k its.toArray)=(a ++ (List.replicate k its).flatten).toArray
 | 0,a=>by simp
 | k+1,a=>by
  have e:a.toArray ++ its.toArray=(a ++ its).toArray:=by simp
  have c:(a ++ its) ++ (List.replicate k its).flatten=a ++ (List.replicate (k+1) its).flatten:=by
   rw [aH4,List.flatten_cons,aB4]
  rw [← c,← akm its k (a ++ its),← e,aH4,List.foldl_cons]
section
variable {X:Cx} {pins:List (Addr × Obj)} {σ:St} {H:Hp} {s:Shared} {l b:Addr} {xs ys zs:List V}
theorem Inv.lset {its its':List Value} {n:Nat} {f:Array Value->Array Value} {t':Nat} (I:Inv X pins σ H s) (a:H l=some (.lst xs))
  (e:s.heap.get? l=some { cls:=.type "list",data:=.seq its.toArray n }) (hf:f its.toArray=its'.toArray) (b:Vals ys its') (d:ys.length<=sizeLine) :
  Inv X pins σ (upd H l (.lst ys)) { s with heap:=s.heap.update l (Obj.mapSeq f),toks:=t' }:=by
 have q:=PySem.IsL.update e f
 rw [hf] at q
 refine I.write (x:=l) (e:=l) (by rw [a];exact trivial) (.inl rfl) (fun g u hb c=>(Heap.get?_update_other s.heap (Obj.mapSeq f) (Ne.symm hb)).trans c) ⟨_,q⟩ ?_
 exact ⟨d,its',_,b,q⟩
theorem Inv.lnew {its:List Value} {t':Nat} (I:Inv X pins σ H s) (a:Vals ys its) (b:ys.length<=sizeLine) :
  Inv X pins σ (upd H s.heap.objs.size (.lst ys)) { s with heap:=s.heap.push { cls:=.type "list",data:=.seq its.toArray },toks:=t' } :=
 I.laid (fun _ _ q=>aJ4 _ q) (aA6 _) ⟨b,its,0,a,aJ6 _ rfl⟩
theorem Inv.fresh (I:Inv X pins σ H s):H s.heap.objs.size=none:=I.hok.fresh (aA6 _)
theorem Inv.lstM (I:Inv X pins σ H s) (a:H l=some (.lst xs)):xs.length<=sizeLine/\∃ (its:List Value) (n:Nat),Vals xs its/\xs.length=its.length/\s.heap.get? l=some { cls:=.type "list",data:=.seq its.toArray n }:=by
 obtain ⟨z,its,n,r,e⟩:=I.hok l _ a
 exact ⟨z,its,n,r,r.length,e⟩
theorem amm {n:Nat} (h:n<=sizeLine):Builtin.List.listTooLong n=false:=by
 unfold Builtin.List.listTooLong
 exact aD6 (by omega)
end
section
variable {X:Cx}
def afm:V->List V->Hp->VK->Prop:=fun x vs H Q=>∃ l xs y,x=.ref l/\vs=[y]/\H l=some (.lst xs)/\xs.length < sizeLine/\Q .non (upd H l (.lst (xs ++ [y])))
theorem abr:MtM X "list.append" afm:=by
 intro pins s σ H x vs v us Q I d c h
 obtain ⟨l,xs,y,rfl,rfl,a,f,q⟩:=h
 cases d
 obtain ⟨u,rfl,b⟩:=c.one
 obtain ⟨z,its,n,r,g,e⟩:=I.lstM a
 refine call_meets F.slot_list_append ⟨_,e,rfl⟩ F.entry_list_append (F.args_list_append_2 _ _) (PySem.list_append l its.toArray n u (by rw [aB2];omega)) ⟨e,?_⟩
 refine ⟨.non,_,I.lset (its':=its ++ [u]) a e (by simp) (r.append (.cons b .nil)) ?_,rfl,q⟩
 rw [aB1,List.length_singleton]
 omega
def ajl:V->List V->Hp->VK->Prop:=fun x vs H Q=>∃ l b xs zs,x=.ref l/\vs=[.ref b]/\H l=some (.lst xs)/\H b=some (.lst zs)/\xs.length+zs.length<=sizeLine/\Q .non (upd H l (.lst (xs ++ zs)))
theorem arw:MtM X "list.extend" ajl:=by
 intro pins s σ H x vs v us Q I p i h
 obtain ⟨l,b,xs,C,rfl,rfl,d,m,A,q⟩:=h
 cases p
 obtain ⟨u,rfl,f⟩:=i.one
 cases f
 obtain ⟨z,its,n,r,B,e⟩:=I.lstM d
 obtain ⟨y,a,g,j,w,o⟩:=I.lstM m
 have hsz:its.toArray.size+a.toArray.size<=sizeLine:=by rw [aB2,aB2];omega
 have c:¬ (!its.toArray.isEmpty && Builtin.List.listTooLong (its.toArray.size+a.toArray.size))=true:=by
  rw [amm hsz,Bool.and_false]
  exact aB0
 refine call_meets F.slot_list_extend ⟨_,e,rfl⟩ F.entry_list_extend (F.args_list_extend_2 _ _)
  (AutoSeq1.list_extend_list_list_0 l its.toArray n b a.toArray g c (by rw [aB2];omega) (by omega)) ⟨e,o,?_⟩
 refine ⟨.non,_,I.lset (its':=its ++ a) d e (by simp) (r.append j) ?_,rfl,q⟩
 rw [aB1]
 omega
def ain:V->List V->Hp->VK->Prop:=fun x vs H Q=>∃ l xs i k y,x=.ref l/\vs=[.int i]/\H l=some (.lst xs)/\-(2 ^ 63)<=i/\i < 2 ^ 63/\seqIndex? i xs.length=some k/\xs[k]?=some y/\Q y (upd H l (.lst (xs.eraseIdx k)))
theorem amn:MtM X "list.pop" ain:=by
 intro pins s σ H x vs v us Q I A j h
 obtain ⟨l,xs,i,k,y,rfl,rfl,b,d,f,p,o,q⟩:=h
 cases A
 obtain ⟨u,rfl,g⟩:=j.one
 obtain ⟨t,rfl⟩:=g
 obtain ⟨z,its,n,r,m,e⟩:=I.lstM b
 obtain ⟨w,c,a⟩:=r.get o
 refine call_meets F.slot_list_pop ⟨_,e,rfl⟩ F.entry_list_pop (F.args_list_pop_2 _ _)
  (MeetsSeq.list_pop_at l its.toArray n i t k w (fitsIndex_both d f) (by rw [aB2,← m];exact p) (by rw [← aD5];exact c) (by rw [aB2];omega)) ⟨e,?_⟩
 refine ⟨y,_,I.lset (its':=its.eraseIdx k) b e ?_ (r.eraseIdx k) ?_,a,q⟩
 ·show its.toArray.eraseIdxIfInBounds k=(its.eraseIdx k).toArray
  rw [List.eraseIdxIfInBounds_toArray]
 ·have:=akl xs k
  omega
def rCat:R2:=fun x y H Q=>∃ l b xs zs,x=.ref l/\y=.ref b/\H l=some (.lst xs)/\H b=some (.lst zs)/\xs.length+zs.length<=sizeLine/\∀ p,H p=none->Q (.ref p) (upd H p (.lst (xs ++ zs)))
theorem azm:OpR X (binaryOp .Add) rCat:=by
 intro pins s σ H x y v u Q I m d h
 obtain ⟨l,b,xs,C,rfl,rfl,c,g,w,q⟩:=h
 cases m
 cases d
 obtain ⟨z,its,n,r,B,e⟩:=I.lstM c
 obtain ⟨p,a,A,f,o,j⟩:=I.lstM g
 refine PySem.P.add_list e j ?_ (by rw [aB2,aB2];omega)
 have i:its.toArray ++ a.toArray=(its ++ a).toArray:=by simp
 rw [i]
 exact ⟨.ref _,_,I.lnew (t':=s.toks) (r.append f) (by rw [aB1];omega),rfl,q _ I.fresh⟩
def rRep:R2:=fun x y H Q=>∃ l k xs,x=.ref l/\y=.int k/\H l=some (.lst xs)/\-(2 ^ 63)<=k/\k < 2 ^ 63/\xs.length * k.toNat<=sizeLine /\
 ∀ p,H p=none->Q (.ref p) (upd H p (.lst (List.replicate k.toNat xs).flatten))
theorem ao2 {α:Type} (xs:List α) (k:Nat):(List.replicate k xs).flatten.length=k * xs.length:=by
 induction k with
 | zero=>simp
 | succ k ih=>rw [aH4,List.flatten_cons,aB1,ih,Nat.succ_mul,Nat.add_comm]
theorem azn:OpR X (binaryOp .Mult) rRep:=by
 intro pins s σ H x y v u Q I E D h
 obtain ⟨l,k,xs,rfl,rfl,p,w,A,o,q⟩:=h
 cases E
 obtain ⟨t,rfl⟩:=D
 obtain ⟨z,its,n,r,B,e⟩:=I.lstM p
 have g:its.toArray.size * k.toNat<=sizeLine:=by rw [aB2,← B];exact o
 have c:¬ its.toArray.size * k.toNat > (2 ^ 63 - 1) / 8:=by
  have:(sizeLine:Nat)<=(2 ^ 63 - 1) / 8:=by decide
  omega
 have f:¬ (!Builtin.List.listFitsIndex k)=true:=by
  rw [fitsIndex_both w A]
  exact aB0
 have b:¬ Builtin.List.listTooLong (its.toArray.size * k.toNat)=true:=by
  rw [amm g]
  exact aB0
 have d:List.foldl (fun i j=>i ++ j) #[] (List.replicate (if its.toArray.isEmpty=true then 0 else k.toNat) its.toArray)=(List.replicate k.toNat its).flatten.toArray:=by
  have C:∀ m:Nat,List.foldl (fun i j=>i ++ j) #[] (List.replicate m its.toArray)=(List.replicate m its).flatten.toArray:=fun m=>by
   have:=akm its m []
   rw [List.nil_append] at this
   exact this
  rw [C]
  cases its with
  | nil=>simp
  | cons a r'=>rw [aF7 (by simp)]
 refine wpAny_binaryOp_repeat_ref (T:="list") (U:="int") (by decide) ⟨_,e,rfl⟩ (fun s'=>typeIs_int s' k t) noFill_list_mul F.fills_int_mul F.slot_int_rmul repeat_list F.slot_int_index.lookup
  (call_meets F.slot_int_rmul (typeIs_int s k t) F.entry_int_rmul (F.args_int_rmul_2 _ _) (int___rmul___int_list k t l its.toArray n)
   ⟨e,rfl,⟨_,e,rfl⟩,call_meets F.slot_list_mul ⟨_,e,rfl⟩ F.entry_list_mul (F.args_list_mul_2 _ _) (AutoListH.list___mul___list_int_3 l its.toArray n k t f c b) ⟨e,?_⟩⟩)
 rw [d]
 exact ⟨.ref _,_,I.lnew (t':=s.toks) (r.rep k.toNat) (by rw [ao2,Nat.mul_comm];exact o),rfl,q _ I.fresh⟩
end
section
variable {prog:Program} {w:World} {A:Around} {E:Value->Shared->Prop} {s:Shared}
end
section
variable {X:Cx}
end
section
variable {κ:Type} [DecidableEq κ]
def valV (kvs:List (κ × V)) (k : κ):Option V:=(kvs.find? fun kv=>decide (kv.1=k)).map (·.2)
def putK (kvs:List (κ × V)) (k : κ) (v:V):List (κ × V) :=
 if (kvs.any fun kv=>decide (kv.1=k))=true then kvs.map (fun kv=>if kv.1=k then (kv.1,v) else kv) else kvs ++ [(k,v)]
def awd (kvs:List (κ × V)) (k : κ):List (κ × V):=kvs.filter fun kv=>decide (kv.1 ≠ k)
theorem ah4 {p : κ × V} {r:List (κ × V)} {k : κ} (e:p.1=k):valV (p :: r) k=some p.2:=by simp [valV,List.find?_cons,e]
theorem ah5 {p : κ × V} {r:List (κ × V)} {k : κ} (e:¬ p.1=k):valV (p :: r) k=valV r k:=by simp [valV,List.find?_cons,e]
theorem amo (k : κ):∀ kvs:List (κ × V),(kvs.any fun a=>decide (a.1=k))=(valV kvs k).isSome
 | []=>rfl
 | p :: r=>by
  rw [List.any_cons]
  by_cases e:p.1=k
  ·simp only [ah4 e,aD7 e,Bool.true_or,Option.isSome_some]
  ·rw [ah5 e,aD6 e,Bool.false_or];exact amo k r
theorem ahw (kvs:List (κ × V)) (k : κ) (v:V):(putK kvs k v).length<=kvs.length+1:=by
 unfold putK
 split
 ·rw [aA3];omega
 ·rw [aB1,aE4,aJ1];omega
theorem RelO.isSome_eq {o:Option V} {u:Option Value} (r:RelO o u):o.isSome=u.isSome:=by
 cases o with
 | none=>cases u with
  | none=>rfl
  | some _=>exact (show False from r).elim
 | some _=>cases u with
  | none=>exact (show False from r).elim
  | some _=>rfl
theorem KV.val {kvs:List (κ × V)} {vs:List (κ × Value)} (r:KV kvs vs) (k : κ):RelO (valV kvs k) (valueAt vs k):=by
 unfold KV at r
 induction r with
 | nil=>exact True.intro
 | @cons p q ps qs h t ih =>
  obtain ⟨c,d⟩:=h
  by_cases e:p.1=k
  ·have a:q.1=k:=c.symm.trans e
   have b:valueAt (q :: qs) k=some q.2:=by simp [valueAt,List.find?_cons,a]
   rw [ah4 e,b];exact d
  ·have a:¬ q.1=k:=fun z=>e (c.trans z)
   have b:valueAt (q :: qs) k=valueAt qs k:=by simp [valueAt,List.find?_cons,a]
   rw [ah5 e,b];exact ih
theorem KV.any {kvs:List (κ × V)} {vs:List (κ × Value)} (r:KV kvs vs) (k : κ):(kvs.any fun a=>decide (a.1=k))=vs.any fun a=>decide (a.1=k):=by
 unfold KV at r
 induction r with
 | nil=>rfl
 | cons h t ih=>rw [List.any_cons,List.any_cons,ih,h.1]
theorem KV.repl {kvs:List (κ × V)} {vs:List (κ × Value)} (r:KV kvs vs) (k : κ) {y:V} {u:Value} (d:RelV y u) :
  KV (kvs.map fun a=>if a.1=k then (a.1,y) else a) (vs.map fun a=>if a.1=k then (a.1,u) else a):=by
 unfold KV at r ⊢
 induction r with
 | nil=>exact .nil
 | @cons p q ps qs h t ih =>
  rw [aD1,aD1]
  refine .cons ?_ ih
  obtain ⟨b,c⟩:=h
  by_cases e:p.1=k
  ·rw [aF6 e,aF6 (b.symm.trans e)];exact ⟨b,d⟩
  ·rw [aF7 e,aF7 (fun z=>e (b.trans z))];exact ⟨b,c⟩
theorem KV.put {kvs:List (κ × V)} {vs:List (κ × Value)} (r:KV kvs vs) (k : κ) {y:V} {u:Value} (a:RelV y u):KV (putK kvs k y) (stored vs k u):=by
 unfold putK stored
 rw [r.any k]
 by_cases e:(vs.any fun b=>decide (b.1=k))=true
 ·rw [aF6 e,aF6 e];exact r.repl k a
 ·rw [aF7 e,aF7 e];exact Paired.snoc r ⟨rfl,a⟩
theorem KV.length {kvs:List (κ × V)} {vs:List (κ × Value)} (r:KV kvs vs):kvs.length=vs.length:=Paired.length r
end
theorem aqi {P:Program} {w:World} {k:Key} {u:Value} (r:RelV (kV k) u):(abk P w).is k u=true:=by
 cases k with
 | inl i=>obtain ⟨t,e⟩:=(show ∃ t,u=Value.int i t from r);subst e;exact aoe P w i t
 | inr x=>obtain ⟨t,e⟩:=(show ∃ t,u=Value.str x t from r);subst e;exact aof P w x t
theorem akn {P:Program} {w:World}:∀ {ks:List Key} {us:List Value},Vals (ks.map kV) us->ItemsAre (abk P w) ks us
 | [],_,r=>by rw [List.map_nil] at r;cases r;exact .nil
 | k :: ks,_,r=>by
  rw [aD1] at r
  cases r with
  | cons h t=>exact .cons (aqi h) (akn t)
abbrev KT (H:Hp):List (List Key × V)->List (List Key × Addr × Value)->Prop:=Paired fun p q=>p.1=q.1/\H q.2.1=some (.tup (p.1.map kV))/\RelV p.2 q.2.2
theorem KT.val {H:Hp} {kvs:List (List Key × V)} {xs:List (List Key × Addr × Value)} (r:KT H kvs xs) (k:List Key):RelO (valV kvs k) ((atKey xs k).map (·.2)):=by
 induction r with
 | nil=>exact True.intro
 | @cons p q ps qs h t ih =>
  obtain ⟨c,_,d⟩:=h
  by_cases e:p.1=k
  ·have a:q.1=k:=c.symm.trans e
   have b:atKey (q :: qs) k=some q.2:=by simp [atKey,List.find?_cons,a]
   rw [ah4 e,b];exact d
  ·have a:¬ q.1=k:=fun z=>e (c.trans z)
   have b:atKey (q :: qs) k=atKey qs k:=by simp [atKey,List.find?_cons,a]
   rw [ah5 e,b];exact ih
theorem KT.repl {H:Hp} {kvs:List (List Key × V)} {xs:List (List Key × Addr × Value)} (r:KT H kvs xs) (k:List Key) {y:V} {u:Value} (f:RelV y u) :
  KT H (kvs.map fun b=>if b.1=k then (b.1,y) else b) (xs.map (putAt k u)):=by
 induction r with
 | nil=>exact .nil
 | @cons p q ps qs h t ih =>
  rw [aD1,aD1]
  refine .cons ?_ ih
  obtain ⟨a,c,d⟩:=h
  unfold putAt
  by_cases e:p.1=k
  ·rw [aF6 e,aF6 (a.symm.trans e)];exact ⟨a,c,f⟩
  ·rw [aF7 e,aF7 (fun z=>e (a.trans z))];exact ⟨a,c,d⟩
theorem KT.put {H:Hp} {kvs:List (List Key × V)} {xs:List (List Key × Addr × Value)} (r:KT H kvs xs) (k:List Key) {b:Addr} {y:V} {u:Value} (hb:H b=some (.tup (k.map kV))) (a:RelV y u) :
  KT H (putK kvs k y) (storedH xs k b u):=by
 have e:(kvs.any fun c=>decide (c.1=k))=(atKey xs k).isSome:=by
  rw [amo,(r.val k).isSome_eq,Option.isSome_map]
 unfold putK storedH
 rw [e]
 by_cases q:(atKey xs k).isSome=true
 ·rw [aF6 q,aF6 q];exact r.repl k a
 ·rw [aF7 q,aF7 q];exact Paired.snoc r ⟨rfl,hb,a⟩
theorem KT.keeps {H H':Hp} {kvs:List (List Key × V)} {xs:List (List Key × Addr × Value)} (r:KT H kvs xs) (a:∀ b ys,H b=some (.tup ys)->H' b=some (.tup ys)):KT H' kvs xs :=
 Paired.mapP r fun _ _ z=>⟨z.1,a _ _ z.2.1,z.2.2⟩
section
variable {P:Program} {w:World} {H:Hp} {h:Heap} {a:Addr}
theorem awe {u:HO} (ok:HOk P w H h) (e:Rd H a u):ObjOk P w H h a u:=e.ok ok
theorem awf {kvs:List (Key × V)} (ok:HOk P w H h) (e:Rd H a (.dK kvs)):kvs.length<=sizeLine/\(a == sysModules)=false/\∃ vs,KV kvs vs/\h.DictOf (abk P w) a vs :=
 show ObjOk P w H h a (.dK kvs) from awe ok e
theorem a1o {kvs:List (Key × V)} (ok:HOk P w H h) (e:H a=some (.dK kvs)):kvs.length<=sizeLine/\(a == sysModules)=false/\∃ vs,KV kvs vs/\h.DictOf (abk P w) a vs:=awf ok (.inl e)
theorem aio {ks:List Key} (ok:HOk P w H h) (e:H a=some (.tup (ks.map kV))):(tupleKind (abk P w)).is h ks a:=by
 obtain ⟨_,its,r,o,d,b,n,c⟩:=(show ObjOk P w H h a (.tup (ks.map kV)) from ok a _ e)
 exact ⟨o,its.toArray,n,d,b,c,by simpa using akn r⟩
theorem awg {kvs:List (List Key × V)} (ok:HOk P w H h) (e:Rd H a (.dT kvs)):kvs.length<=sizeLine/\(a == sysModules)=false /\
  ∃ xs,KT H kvs xs/\h.DictOfH (tupleKind (abk P w)) a xs:=by
 obtain ⟨z,y,xs,r,o,es,ep,c,d,i,g,f⟩:=(show ObjOk P w H h a (.dT kvs) from awe ok e)
 refine ⟨z,y,xs,r,o,es,ep,c,d,i,g,fun x b=>?_,f⟩
 have all:∀ {l:List (List Key × V)} {m:List (List Key × Addr × Value)},KT H l m->∀ x∈m,(tupleKind (abk P w)).is h x.1 x.2.1:=by
  intro l m q
  induction q with
  | nil=>intro x b;exact nomatch b
  | @cons p q ps qs hq t ih =>
   intro x b
   rcases aA9.mp b with e | b
   ·subst e
    exact aio ok (by rw [← hq.1];exact hq.2.1)
   ·exact ih x b
 exact all r x b
theorem a1p {kvs:List (List Key × V)} (ok:HOk P w H h) (e:H a=some (.dT kvs)):kvs.length<=sizeLine/\(a == sysModules)=false /\
  ∃ xs,KT H kvs xs/\h.DictOfH (tupleKind (abk P w)) a xs:=awg ok (.inl e)
end
def DGet (H:Hp) (a:Addr) (y:V) (r:Option V):Prop :=
 (∃ kvs k,Rd H a (.dK kvs)/\y=kV k/\r=valV kvs k)\/∃ kvs k b,Rd H a (.dT kvs)/\y=.ref b/\H b=some (.tup (k.map kV))/\r=valV kvs k
def DPut (H:Hp) (a:Addr) (y v:V) (H':Hp):Prop :=
 (∃ kvs k,H a=some (.dK kvs)/\y=kV k/\kvs.length < sizeLine/\H'=upd H a (.dK (putK kvs k v))) ∨
 ∃ kvs k b,H a=some (.dT kvs)/\y=.ref b/\H b=some (.tup (k.map kV))/\kvs.length < sizeLine/\H'=upd H a (.dT (putK kvs k v))
theorem DGet.t {H:Hp} {a b:Addr} {kvs:List (List Key × V)} {k:List Key} (e:H a=some (.dT kvs)) (c:H b=some (.tup (k.map kV))):DGet H a (.ref b) (valV kvs k):=.inr ⟨kvs,k,b,.inl e,rfl,c,rfl⟩
theorem DPut.t {H:Hp} {a b:Addr} {kvs:List (List Key × V)} {k:List Key} {v:V} (e:H a=some (.dT kvs)) (c:H b=some (.tup (k.map kV))) (d:kvs.length < sizeLine) :
  DPut H a (.ref b) v (upd H a (.dT (putK kvs k v))):=.inr ⟨kvs,k,b,e,rfl,c,d,rfl⟩
section
variable {X:Cx} {pins:List (Addr × Obj)} {σ:St} {H:Hp} {s:Shared} {a:Addr} {y v:V} {u r:Value} {o:Option V} {A:Around} {E:Value->Shared->Prop}
theorem Inv.big (I:Inv X pins σ H s):sysModules < s.heap.objs.size:=by
 have h:mainGlobals < s.heap.objs.size:=(I.mod.glob.keeps I.bk).lt
 exact Nat.lt_trans (by decide) h
theorem awz {Q:Value->Shared->Prop} (m:A.units+1 < cLine) (I:Inv X pins σ H s) (g:DGet H a y o) (i:RelV y u) (h:∀ s',Inv X pins σ H s'->Q (.bool (!o.isSome)) s') :
  wpAny (model X.prog X.w) A (compareOp .NotIn u (.ref a)) Q E s:=by
 rcases g with ⟨kvs,k,e,d,l⟩ | ⟨kvs,k,b,e,d,j,l⟩
 ·subst d
  obtain ⟨z,hd,vs,c,f⟩:=awf I.hok e
  refine wpAny_notIn_of (aqi i) hd f.mapOf ?_
  rw [← (c.val k).isSome_eq,← l]
  exact h _ (I.tok _)
 ·subst d
  cases (show u=Value.ref b from i)
  obtain ⟨z,hd,xs,c,f⟩:=awg I.hok e
  refine wpAny_notIn_heap (tupleKind_room_in1 m) (aio I.hok j) hd f ?_
  have q:=(c.val k).isSome_eq
  rw [Option.isSome_map] at q
  rw [← q,← l]
  exact h _ (I.tok _)
theorem ao3 {h':Heap} {t':Nat} {c:HO} (I:Inv X pins σ H s) (d:Mut (H a)) (hs:Heap.SameBut a s.heap h') (f:∃ q,h'.get? a=some q) (new:ObjOk X.prog X.w (upd H a c) h' a c) :
  Inv X pins σ (upd H a c) { s with heap:=h',toks:=t' } :=
 I.write (x:=a) (e:=a) d (.inl rfl) (fun b q hb z=>(hs.2 b hb).trans z) f new
theorem azo {P:Program} {w:World} {H':Hp} {h':Heap} {kvs:List (Key × V)} {vs:List (Key × Value)} (z:kvs.length<=sizeLine) (hd:(a == sysModules)=false) (b:KV kvs vs) (c:h'.DictOf (abk P w) a vs) :
  ObjOk P w H' h' a (.dK kvs):=⟨z,hd,vs,b,c⟩
theorem arx {H':Hp} {Q:Unit->Shared->Prop} (F:A.units+1 < cLine) (I:Inv X pins σ H s) (g:DPut H a y v H') (C:RelV y u) (B:RelV v r) (h:∀ s',Inv X pins σ H' s'->Q () s') :
  wpAny (model X.prog X.w) A (setItem (.ref a) u r) Q E s:=by
 rcases g with ⟨kvs,k,e,m,l,p⟩ | ⟨kvs,k,b,e,m,x,l,p⟩
 ·subst m p
  obtain ⟨z,hd,vs,d,o⟩:=a1o I.hok e
  have j:vs.length<=sizeLine:=by rw [← d.length];exact z
  have n:(putK kvs k v).length<=sizeLine:=by have:=ahw kvs k v;omega
  refine wpAny_setItem_pairs (hsz:=j) (aqi C) o fun h' f hs=>h _ ?_
  have M:∃ q,h'.get? a=some q:=let ⟨q,_,_,i,_⟩:=f;⟨q,i⟩
  exact ao3 I (by rw [e];exact True.intro) hs M (azo n hd (d.put k B) f)
 ·subst m p
  cases (show u=Value.ref b from C)
  obtain ⟨z,hd,xs,d,o⟩:=a1p I.hok e
  have j:xs.length<=sizeLine:=by rw [← Paired.length d];exact z
  have n:(putK kvs k v).length<=sizeLine:=by have:=ahw kvs k v;omega
  refine wpAny_setItem_heap (hsz:=j) (tupleKind_room_in1 F) (aio I.hok x) o fun h' f hs=>h _ ?_
  obtain ⟨q,es,ep,i,G,L,K,_,J⟩:=f
  refine ao3 I (by rw [e];exact True.intro) hs ⟨q,i⟩ ⟨n,hd,_,(d.put k x B).keeps fun c ys D=>?_,q,es,ep,i,G,L,K,J⟩
  rw [aag (a1l D e (fun z=>nomatch z))]
  exact D
end
section
variable {X:Cx} {pins:List (Addr × Obj)} {σ:St} {H:Hp} {s:Shared} {a:Addr} {kvs:List (Key × V)} {k:Key} {u:Value} {A:Around} {E:Value->Shared->Prop}
end
def ajm (ty td:TE):TE:=fun σ H Q=>ty σ H fun y H1=>td σ H1 fun x H2=>∃ a o,x=.ref a/\DGet H2 a y o/\Q (.bl (!o.isSome)) H2
def aqj (td ty tv:TE):TS:=fun D σ H=>tv σ H fun v H1=>td σ H1 fun x H2=>ty σ H2 fun y H3=>∃ a H4,x=.ref a/\DPut H3 a y v H4/\D.nx σ H4
section
variable {X:Cx} {o i e value:Expr} {pos pos' tpos:Pos} {td ty tv:TE}
theorem ary (d:X.A.units+1 < cLine) (hi:PE X i ty) (j:PE X o td):PC X .NotIn i o (ajm ty td):=by
 intro pins s σ H Q I h
 refine thn (hi pins s σ H _ I h) fun v s1 ⟨y,b,q,m,f⟩=>thn (j pins s1 σ b _ q f) fun u s2 ⟨x,H2,l,p,a,c,ex,g,r⟩=>?_
 subst ex
 obtain rfl:u=Value.ref a:=p
 exact awz d l g m fun w n=>⟨.bl (!c.isSome),H2,n,rfl,r⟩
theorem ao4 (c:X.A.units+1 < cLine) (f:PE X o td) (hi:PE X i ty) (q:PE X value tv) (hs:swapsWith value (some (.Subscript o i pos')) pos.line X.env=pure false) :
  PS X (.Assign [.Subscript o i pos'] value pos) (aqj td ty tv):=by
 intro pins s σ H D I h
 refine wpAny_Assign_Subscript (thn (q pins s σ H _ I h) fun r s1 ⟨v,b,B,j,d⟩=>thn (f pins s1 σ b _ B d) fun u s2 ⟨x,H2,l,C,E⟩=>thn (hi pins s2 σ H2 _ l E) fun F J ⟨y,H3,w,p,a,m,ex,g,z⟩=>?_) hs
 subst ex
 obtain rfl:u=Value.ref a:=C
 exact arx c w g p j fun G n=>⟨σ,m,n,z⟩
end
theorem atw {P:Program} {w:World} {H:Hp} (h:Heap) (hb:sysModules < h.objs.size):ObjOk P w H (h.push { cls:=.type "dict",data:=.dict #[] }) h.objs.size (.dT []) :=
 ⟨aG1 _,beq_eq_false_iff_ne.mpr (Ne.symm (aB6 hb)),[],.nil,_,#[],0,aJ6 _ rfl,⟨rfl,rfl,rfl⟩,rfl,rfl,List.nodup_nil⟩
def arz:TE:=fun _ H Q=>∀ p,H p=none->Q (.ref p) (upd H p (.dT []))
section
variable {X:Cx} {pos:Pos}
theorem atx:PE X (.Dict [] [] pos) arz:=fun pins s σ H Q I h =>
 wpAny_Dict_empty ⟨.ref s.heap.objs.size,_,I.laid (a:=s.heap.objs.size) (o:=.dT []) (t':=s.toks) (fun _ _ q=>aJ4 _ q) (aA6 _) (atw s.heap I.big),rfl,h _ (I.hok.fresh (aA6 _))⟩
end
section
variable {X:Cx} {pins:List (Addr × Obj)} {σ:St} {H:Hp} {s:Shared} {a:Addr} {y d:V} {u r:Value} {o:Option V} {A:Around} {E:Value->Shared->Prop}
end
section
variable {X:Cx} {o e f:Expr} {apos cpos:Pos} {td ty tx:TE}
end
section
variable {X:Cx} {pins:List (Addr × Obj)} {σ:St} {H:Hp} {s:Shared} {a:Addr} {kvs:List (Key × V)} {A:Around} {E:Value->Shared->Prop}
end
section
variable {X:Cx} {pins:List (Addr × Obj)} {σ:St} {H:Hp} {s:Shared} {a:Addr} {y:V} {u:Value} {A:Around} {E:Value->Shared->Prop}
end
end L2
namespace Att
open PySem PySem.W PySem.Calls PyProof.Rows
theorem aip {P:Params} {h:Heap}:∀ (ns:List Int) (vs:List Value),WellAll P h vs (ns.map WData.int)->IntsAre vs ns:=by
 intro ns
 induction ns with
 | nil =>
  intro vs w
  rw [List.map_nil] at w
  cases w
  exact .nil
 | cons n ns ih =>
  intro vs w
  rw [aD1] at w
  cases w with
  | cons a b =>
   cases a
   exact .cons _ _ (ih _ b)
theorem ar0 {l:OpenLaw} {n:Nat} (hn:l.most=some n) {P:Params} {h:Heap} {args:List WData} {c:List Value}
  (b:l.row.toRowW.claim.pre args=true) (m:WellAll P h c args) :
  ∃ a vs ns,c=[Value.ref a]/\args=[WData.list (ns.map WData.int)]/\h.get? a=some { cls:=.type "list",data:=.seq vs.toArray }/\IntsAre vs ns/\ns.length<=n:=by
 have j:WShape.hasAll [] args [.list .int]=true:=(pre_splitW b).1
 have o:l.pre.holds [] { args:=args }=true:=(pre_splitW b).2
 obtain ⟨d,r,rfl,p,s⟩:=hasAllW_cons j
 obtain rfl:=hasAllW_nil s
 obtain ⟨xs,rfl,v⟩:=hasW_list p
 obtain ⟨ns,rfl⟩:=items_int v
 have f:ns.length<=n:=by
  unfold OpenLaw.pre at o
  have i:(WTm.not (.lt (.lit (.int (n:Int))) (.len (.arg 0)))).holds [] { args:=[.list (ns.map .int)] }=true:=by
   have i:=(holds_andW o).1
   rw [hn] at i
   exact i
  have g:=condW_of i (w_not (w_lt w_lit (w_len_list (w_arg rfl))))
  rw [aA3] at g
  refine Nat.le_of_not_lt fun q=>?_
  have u:(n:Int) < ((ns.length:Nat):Int):=by omega
  first
   | (rw [aD7 u] at g;exact absurd g (by decide))
   | (simp at g;omega)
 cases m with
 | cons w1 w2 =>
  cases w2
  cases w1 with
  | list ho hall=>exact ⟨_,_,ns,rfl,rfl,ho,aip ns _ hall,f⟩
theorem ar1 (l:OpenLaw) (args:List WData):l.row.toRowW.claim.post args (.bool true) args=true :=
 postW_of (r:=l.row.toRowW) (X:=(true == true))
  (show WShape.has [] (.bool true) .bool=true by first | rfl | decide | simp [WShape.has,WShape.arms,WShape.armsAll])
  (show (WTm.eq .res (.lit (.bool true))).value [] { args:=args,res:=some (.bool true),after:=args }=some (.bool (true == true)) from w_eq_bool (w_res rfl) w_lit) rfl
theorem attach_call {l:OpenLaw} {n:Nat} {q:Program} {c:List Str} {A:(Str->Option Value)->Heap->Prop} {z:World->Heap->Prop} {d:DefRec}
  (hn:l.most=some n) (p:d.params.defaults=[])
  (call:∀ (w:World) (s₀ b:Shared) (mg mb:Str->Option Value) (fa:Addr) (o:Obj) (pm m doc:Value) (a:Addr) (vs:List Value) (ns:List Int),
   Ground q c [] A w s₀ mg mb b.heap->z w b.heap ->
   b.heap.get? fa=some o->o.data=.func (docDef d.name d.params d.body d.scope pm m doc)->b.heap.CodeRec m d.name->mg d.name=some (.ref fa) ->
   b.heap.get? a=some { cls:=.type "list",data:=.seq vs.toArray }->IntsAre vs ns->ns.length<=n->b.gens = #[] ->
   codeAny (model l.prog w) callerA (.call (.ref fa) ⟨[.ref a],[]⟩) (fun r s'=>r=.ok (.ret (.bool true))/\OldK b.heap s'.heap/\s'.os=b.os/\AllBare s'.gens) b) :
  WalkO q c A z l.row.toRowW d [] (fun f vs=>PySem.call f vs):=by
 intro w s₀ b mg mb G Y fa o pm m doc I kV F hd u x s H args B as i y C v J
 obtain rfl:I=.none:=Dflts.none x p
 obtain rfl:kV=.none:=Dflts.noKw x
 obtain ⟨a,vs,ns,rfl,rfl,h,g,j⟩:=ar0 hn i v
 refine enter_call (aJ7 (call w s₀ b mg mb fa o pm m doc a vs ns G Y F (fd_plain hd) u s h g j H) fun r s' E=>?_)
 obtain ⟨rfl,D,L,K⟩:=E
 exact ⟨.inl ⟨.bool true,.bool true,[],rfl,fun _=>rfl,.bool true,ar1 l _,fun _=>⟨List.Pairwise.nil,fun _ hm=>(nomatch hm)⟩⟩,D,L,K⟩
section
variable {prog:Program} {w:World} {A:Around} {E:Value->Shared->Prop} {s:Shared} {K:Frag}
end
end Att
namespace L2
open PySem PySem.Spec PyProof.Rows
theorem agh:∀ {vs:List Value} {ns:List Int},IntsAre vs ns->Vals (ns.map V.int) vs
 | _,_,.nil => .nil
 | _,_,.cons n t h => .cons ⟨t,rfl⟩ (agh h)
def Only (H:Hp):Prop:=∀ b,H b=none\/∃ o xs,H b=some (.frz o (.lst xs))
theorem aty {P:Program} {w:World} {K:Frag} {mg mb:Str->Option Value} {CX:CXT} {k:Nat} {fa a:Addr} {fd:FuncData} {x:Str} {sp:Sp} {c:Shared} {vs:List Value} {ns:List Int}
  (R:K.In c.heap) (A:c.heap.Ns mainGlobals mg) (hb:c.heap.Ns builtinsNs mb) (G:∀ x:Str,x ≠ "__name__"->mb x=bootBuiltins x) (p:c.heap.NoLimit) (T:c.gens = #[])
  (ha:c.heap.get? a=some { cls:=.type "list",data:=.seq vs.toArray }) (hi:IntsAre vs ns) (O:ns.length<=sizeLine) (X:Room k callerA)
  (F:∀ base:Heap,K.In base->base.Ns mainGlobals mg->FnOk P w K mg base CX k fa fd [x] sp) (j:∀ (s:Shared) (u:Value),BindsTo s fd ⟨[u],[]⟩ [(x,u)])
  (E:∀ H:Hp,Only H->SqL K H a (ns.map V.int)->sp [.ref a] H (fun v _=>v=.bl true) fun _ _ _=>False)
  (I:∀ H e s',CX [] H c (fun _ _ _=>False) e s'->False) :
  codeAny (model P w) callerA (.call (.ref fa) ⟨[.ref a],[]⟩) (fun r s'=>r=.ok (.ret (.bool true))/\OldK c.heap s'.heap/\s'.os=c.os/\AllBare s'.gens) c:=by
 have N:=agh hi
 have l:=hi.length
 -- from an abstract heap in which nothing but the script may be tracked
 have i:∀ H:Hp,Only H->SqL K H a (ns.map V.int)->HOk P w H c.heap->(∀ b,H b ≠ none->b=a)->(H a ≠ none->K.lookup a=none) ->
   codeAny (model P w) callerA (.call (.ref fa) ⟨[.ref a],[]⟩) (fun r s'=>r=.ok (.ret (.bool true))/\OldK c.heap s'.heap/\s'.os=c.os/\AllBare s'.gens) c:=by
  intro H L hS hok M Z
  have f:∀ {b:Addr} {o:Obj},c.heap.get? b=some o->H b=none->(hidT c.heap H).get? b=some o:=fun e n=>atp e n
  have D:∀ {b:Addr} {o:Obj} {es:Array DictEntry} {ep:Nat},c.heap.get? b=some o->o.data=.dict es ep->H b=none:=fun {b o es ep} e d=>by
   cases q:H b with
   | none=>rfl
   | some u =>
    have J:b=a:=M b (by rw [q];simp)
    subst J
    rw [ha] at e;cases e
    have d':Data.seq vs.toArray _=Data.dict es ep:=d
    cases d'
  have g:∀ {b:Addr} {m:Str->Option Value},c.heap.Ns b m->(hidT c.heap H).Ns b m:=fun {b m} ⟨o,es,ep,e,d,r⟩=>⟨o,es,ep,f e (D e d),d,r⟩
  have C:K.In (hidT c.heap H):=fun b o e=>f (R b o e) (by
   cases q:H b with
   | none=>rfl
   | some u =>
    have J:b=a:=M b (by rw [q];simp)
    subst J
    rw [Z (by rw [q];simp)] at e;cases e)
  have W:Mod K mg (hidT c.heap H):=⟨C,g A,⟨mb,g hb,G⟩,let ⟨mc,U,h2⟩:=p;⟨mc,g U,h2⟩⟩
  have Y:Env0 P w K mg (hidT c.heap H) callerA [] c H:=⟨rfl,W,fun b o e=>awu e,Nat.le_of_eq (ark _ _),trivial,fun b hb=>absurd (show b∈([]:List Addr) from hb) (by simp),hok,.of_eq T⟩
  refine aJ7 ((F _ C (g A)).run callerA [] c H ⟨[.ref a],[]⟩ [.ref a] [.ref a] _ _ X Y (j c (.ref a)) (.cons rfl .nil) (E H L hS)) fun r s' h=>?_
  cases r with
  | error e=>exact (I H e s' h).elim
  | ok fl =>
   cases fl with
   | next=>exact False.elim h
   | brk=>exact False.elim h
   | cont=>exact False.elim h
   | ret u =>
    obtain ⟨v,H',os,bare,un,y,S,q⟩:=h
    have q':v=.bl true:=q
    subst q'
    obtain rfl:u=Value.bool true:=S
    refine ⟨rfl,OldK.of_keep fun b o e=>?_,os,bare⟩
    cases q:H b with
    | none=>exact un.keep b o e q (by intro z;exact absurd (show b∈([]:List Addr) from z) (by simp)) (by simp)
    | some u =>
     rcases L b with z | ⟨ob,xs,z⟩
     ·rw [q] at z;cases z
     ·have z2:=un.frzs b ob _ z
      obtain ⟨Q,_⟩:=hok b _ z
      obtain ⟨e2,_⟩:=y b _ z2
      rw [e] at Q;cases Q
      exact e2
 cases hk:K.lookup a with
 | some o =>
  -- the script is one of the module's own objects
  have e:=R a o hk
  rw [ha] at e
  cases e
  refine i (fun _=>none) (fun _ => .inl rfl) (.inr ⟨_,vs.toArray,_,hk,rfl,rfl,rfl,by rw [aB2,l];exact O,by simpa using N⟩) (fun b u z=>by have B:(none:Option HO)=some u:=z;cases B) (fun b z=>absurd rfl z) fun z=>absurd rfl z
 | none =>
  refine i (fun b=>if b=a then some (.frz { cls:=.type "list",data:=.seq vs.toArray } (.lst (ns.map V.int))) else none) (fun b=>?_) (.inl (.inr ⟨{ cls:=.type "list",data:=.seq vs.toArray },aF6 rfl⟩)) (fun b u z=>?_) (fun b z=>?_) fun _=>hk
  ·by_cases hb:b=a
   ·exact .inr ⟨_,_,aF6 hb⟩
   ·exact .inl (aF7 hb)
  ·by_cases hb:b=a
   ·have B:=(aF6 hb).symm.trans z
    cases B
    subst hb
    exact ⟨ha,by rw [aA3];exact O,vs,_,N,ha⟩
   ·have B:=(aF7 hb).symm.trans z
    cases B
  ·by_cases hb:b=a
   ·exact hb
   ·exact absurd (aF7 hb) z
abbrev KOf {K:Frag} {h:Heap} (_:K.In h):Frag:=K
theorem walk_of {l:PySem.W.OpenLaw} {n k:Nat} {q:Program} {j:List Str} {M:(Str->Option Value)->Heap->Prop} {C:World->Heap->Prop} {d:DefRec} {K:Params->Frag} {CX:World->CXT} {sp:World->Sp} {x:Str}
  (hn:l.most=some n) (B:n<=sizeLine) (y:d.params.defaults=[]) (P:Room k callerA)
  (O:∀ (w:World) (h:Heap),C w h->(K w.params).In h)
  (F:∀ (w:World) (mg:Str->Option Value) (fa:Addr) (h:Heap),(K w.params).In h->h.Ns mainGlobals mg->mg d.name=some (.ref fa) ->
   ∃ fd:FuncData,(∀ (s:Shared) (u:Value),BindsTo s fd ⟨[u],[]⟩ [(x,u)]) /\
    ∀ base:Heap,(K w.params).In base->base.Ns mainGlobals mg->FnOk l.prog w (K w.params) mg base (CX w) k fa fd [x] (sp w))
  (A:∀ (w:World) (H:Hp) (a:Addr) (ns:List Int),ns.length<=n->Only H->SqL (K w.params) H a (ns.map V.int)->sp w [.ref a] H (fun v _=>v=.bl true) fun _ _ _=>False)
  (r:∀ (w:World) (H:Hp) (s:Shared) (e:Value) (s':Shared),CX w [] H s (fun _ _ _=>False) e s'->False) :
  PySem.W.WalkO q j M C l.row.toRowW d [] (fun f vs=>PySem.call f vs):=by
 refine Att.attach_call hn y fun w s₀ p mg mb fa o pm R doc a vs ns G Y Q hd L z m i c N=>?_
 have D:=O w _ Y
 obtain ⟨fd,hb,E⟩:=F w mg fa _ D G.T.g z
 exact aty D G.T.g G.T.b G.T.builtins G.T.nolimit N m i (aD0 c B) P E hb (fun H I J=>A w H a ns c I J) fun H e s'=>r w H p e s'
end L2
/- THE LAST THEOREM (shape; LID, My.* are yours):
  My.Adr: a structure of the addresses that your layer names (classes,functions);My.Txt K t: a structure (Prop) of the equations over K;
  My.txt_mk:{K} {implicit addresses ..} (e1:nsIn K mainGlobals "law" = some (some (.ref f))) (e2:K.lookup f=some ⟨oc,od,.func (fnOf "law" "law" params body scope dV kV doc pm an cdv ct),sl⟩) (e3:codeIn K cdv "law" = true) .. : ∃ t,My.Txt K t
set_option maxRecDepth 100000 in
set_option maxHeartbeats 0 in
theorem PySem.Challenge.cw_LID_holds : PySem.Challenge.rw_LID.Holds := by
 w_on;o_law;k_head;(case hw=>w_witness2)
 k_fill
 refine L2.walk_of (l:=PySem.Challenge.rw_LID) (n:=63) (k:=40) (x:="script") (CX:=fun w => ..) (sp:=fun _=>My.sp_law) rfl (by decide) rfl ⟨rfl,by decide,by decide⟩ (fun w h Y=>PySem.W.kIn_of Y) ?F ?S ?C
 case F =>
  intro w mg fa h KX G hmg
  have T:∃ t,My.Txt (L2.KOf KX) t:=by
   dsimp only [L2.KOf]                          -- K must stand as «<heap const> w.params» for k_is
   refine' My.txt_mk ?e1 ?e2 ?e3 ..
   (case e1=>PySem.W.k_is)                    -- in the order: a name -> its address -> its object -> its parts
   (case e2=>PySem.W.k_is)
   ..
  obtain ⟨t,T⟩:=T
  have e0:=hmg.symm.trans (mg_of KX G T.law)
  cases e0                                       -- fa is the law's own address
  exact ⟨_,fun s u => .of_eq rfl,fun base kb nb=>My.law_fn T kb nb⟩     -- if «.of_eq rfl» comes too early: refine' ⟨_,?b,fun base kb nb=>My.law_fn T kb nb⟩;exact fun s u => .of_eq rfl
 case S=>exact fun w H a ns hl hO hS => ..
 case C=>exact ..
(the tactic k_is has no namespace: write k_is) -/
namespace L2
open PySem PySem.Spec PyProof.Rows
def aci (s:Stmt):Arguments:=match s with
 | .FunctionDef _ a _ _ _ _ _ _ _ _=>a
 | _=>{ posonlyargs:=[],args:=[],vararg:=none,kwonlyargs:=[],kw_defaults:=[],kwarg:=none,defaults:=[] }
def ab5 (s:Stmt):List Stmt:=match s with
 | .FunctionDef _ _ b _ _ _ _ _ _ _=>b
 | _=>[]
def aai (s:Stmt):Scope:=match s with
 | .FunctionDef _ _ _ _ _ _ sc _ _ _=>sc
 | _=>{ kind:=.function,names:=[],isGenerator:=false,isCoroutine:=false }
abbrev CX0:CXT:=fun _ _ _ _ _ _=>False
abbrev E0:XK:=fun _ _ _=>False
theorem a1q {X:Cx}:amh CX0 X E0:=fun _ _ _ _ _ _ _ h=>h.elim
structure Fun (K:Frag) (x qual:Str) (st:Stmt) (f:Addr) (fd:FuncData):Prop where
 ex:∃ (oc:Value) (od:Option Addr) (kV doc pm:Value) (an:Option Addr) (cdv ct:Value) (osl:Array (Option Value)),
  fd=fnOf x qual (aci st) (ab5 st) (aai st) .none kV doc pm an cdv ct/\K.lookup f=some ⟨oc,od,.func fd,osl⟩/\codeIn K cdv qual=true
 kp:keepIn K (.ref f)=true
section
variable {P:Program} {w:World} {K:Frag} {mg:Str->Option Value} {base:Heap}
theorem Fun.ok {x qual:Str} {st:Stmt} {f:Addr} {fd:FuncData} {N ps:List Str} {k:Nat} {sp:Sp} (F:Fun K x qual st f fd) (S:FnScope N ps (aai st)) (len:∀ vs H Q E,sp vs H Q E->vs.length=ps.length)
  (a:∀ (cdv:Value) (A:Around) (outer:List Env) (s:Shared) (H:Hp) (vs:List V) (Q:VK) (E:XK),Room k (A.deeper (envOfC qual (aai st) s.heap.objs.size f cdv))->sp vs H Q E ->
   ∃ t,PSs (cxOf CX0 P w K mg base N qual (aai st) f cdv A outer s H E).nox (ab5 st) t/\t { nx:=fun _ H'=>Q .non H',rt:=Q } (start N vs) H):FnOk P w K mg base CX0 (k+1) f fd ps sp:=by
 obtain ⟨oc,od,kV,doc,pm,an,cdv,ct,osl,rfl,d,b⟩:=F.ex
 refine a1n d b S len fun A outer s H vs Q E g c=>?_
 obtain ⟨t,h,q⟩:=a cdv A outer s H vs Q E g c
 exact ⟨t,h.nox,q⟩
theorem Fun.binds {x qual:Str} {st:Stmt} {f:Addr} {fd:FuncData} {ps:List Str} (F:Fun K x qual st f fd)
  (h:∀ (kV doc pm:Value) (an:Option Addr) (cdv ct:Value) (us:List Value),us.length=ps.length->bindArgs (fnOf x qual (aci st) (ab5 st) (aai st) .none kV doc pm an cdv ct) ⟨us,[]⟩=pure (ps.zip us)):Binds K fd ps []:=by
 obtain ⟨oc,od,kV,doc,pm,an,cdv,ct,osl,rfl,b,a⟩:=F.ex
 exact .all (h kV doc pm an cdv ct)
theorem azp {x qual:Str} {st:Stmt} {f:Addr} {oc:Value} {od an:Option Addr} {osl:Array (Option Value)} {kV doc pm cdv ct:Value} (l:K.lookup f=some ⟨oc,od,.func (fnOf x qual (aci st) (ab5 st) (aai st) .none kV doc pm an cdv ct),osl⟩)
  (c:codeIn K cdv qual=true) (k:keepIn K (.ref f)=true):Fun K x qual st f (fnOf x qual (aci st) (ab5 st) (aai st) .none kV doc pm an cdv ct):=⟨⟨oc,od,kV,doc,pm,an,cdv,ct,osl,rfl,l,c⟩,k⟩
end
theorem aqk {A:Around} {k:Nat} (a:Room k A):A.units+1 < cLine:=aE2 (Nat.add_le_add_left (by decide:1<=64) _) a.units
theorem afb {n:Nat} (h:n<=1000):n < sizeLine:=aE2 h (by decide)
section
variable {X:Cx}
theorem pv (i:Nat) {x:Str} {pos:Pos} (c:X.N[i]?=some x:=by rfl) (b:Vis X.env.scope x:=by first | exact Or.inl rfl | exact Or.inr (Or.inl rfl) | exact Or.inr (Or.inr rfl)) (hd:(x == ("__debug__" : Str))=false:=by decide)
  (a:(x == ("__classdict__" : Str))=false:=by decide):PE X (.Name x pos) (tVar i):=azb c b hd a
end
theorem iteF {A B:Prop} (h:B):if false=true then A else B:=by
 rw [aF7 aB0]
 exact h
theorem iteT {A B:Prop} (h:A):if true=true then A else B:=by
 rw [aF6 rfl]
 exact h
def Same (H H':Hp):Prop:=∀ b o,H b=some o->H' b=some o
theorem Same.refl (H:Hp):Same H H:=fun _ _ h=>h
theorem Same.trans {H d H2:Hp} (a:Same H d) (b:Same d H2):Same H H2:=fun c o h=>b c o (a c o h)
theorem Same.seq {K:Frag} {H H':Hp} {a:Addr} {xs:List V} (e:Same H H') (h:SqL K H a xs):SqL K H' a xs:=by
 rcases h with (h | ⟨o,h⟩) | h
 ·exact .inl (.inl (e _ _ h))
 ·exact .inl (.inr ⟨o,e _ _ h⟩)
 ·exact .inr h
section
variable {X:Cx}
end
section
variable {κ:Type} [DecidableEq κ]
end
def clos (env:Env):List (Str × NameKind)->List (Str × Addr)->List (Str × Addr)
 | [],cs=>cs
 | (n,k) :: r,cs=>if k == NameKind.free then (match env.cells.lookup n with | some a=>clos env r ((n,a) :: cs) | none=>clos env r cs) else clos env r cs
theorem afc {env:Env} {sc:Scope} (h:∀ n,(n,NameKind.free)∈sc.names->∃ a,env.cells.lookup n=some a):closureFor sc env=pure (clos env sc.names []):=by
 have all:∀ (l:List (Str × NameKind)) (cs:List (Str × Addr)),(∀ n,(n,NameKind.free)∈l->∃ a,env.cells.lookup n=some a) ->
   (forIn l cs fun (x:Str × NameKind) (cs:List (Str × Addr))=>match x with | (name,kind)=>if kind == NameKind.free then (do let a ← cellOf env name;pure (ForInStep.yield ((name,a) :: cs))) else pure (ForInStep.yield cs))=(pure (clos env l cs):Sem _):=by
  intro l
  induction l with
  | nil=>intro cs _;rfl
  | cons p r ih =>
   intro cs c
   obtain ⟨n,k⟩:=p
   rw [List.forIn_cons]
   unfold clos
   dsimp only
   cases hk:(k == NameKind.free) with
   | false =>
    simp only [Bool.false_eq_true,if_false,pure_bind]
    exact ih cs fun m hm=>c m (aB5 _ hm)
   | true =>
    have f:k=NameKind.free:=by simpa using hk
    subst f
    obtain ⟨a,ha⟩:=c n aB8
    have d:cellOf env n=pure a:=by unfold cellOf;rw [ha]
    simp only [if_true,d,pure_bind,ha]
    exact ih _ fun m hm=>c m (aB5 _ hm)
 have e:=all sc.names [] h
 unfold closureFor
 refine Eq.trans (b:=(pure (clos env sc.names []):Sem _) >>= fun cs=>pure cs) ?_ (pure_bind _ _)
 exact congrArg (fun z:Sem (List (Str × Addr))=>z >>= fun cs=>pure cs) e
theorem aej {env:Env} {x:Str} {c:Addr}:∀ {l:List (Str × NameKind)} {cs:List (Str × Addr)},(clos env l cs).lookup x=some c->env.cells.lookup x=some c\/cs.lookup x=some c
 | [],cs,h => .inr h
 | (n,k) :: r,cs,h=>by
  unfold clos at h
  by_cases hk:(k == NameKind.free)=true
  ·rw [aF6 hk] at h
   cases ha:env.cells.lookup n with
   | none=>rw [ha] at h;exact aej h
   | some a =>
    rw [ha] at h
    rcases aej h with e | e
    ·exact .inl e
    ·rw [aH0] at e
     cases hx:(x == n) with
     | true =>
      rw [hx] at e
      have:x=n:=by simpa using hx
      subst this
      cases e
      exact .inl ha
     | false=>rw [hx] at e;exact .inr e
  ·rw [aF7 hk] at h
   exact aej h
theorem afd {env:Env} {x:Str}:∀ {l:List (Str × NameKind)} {cs:List (Str × Addr)},(∃ c,cs.lookup x=some c)->∃ c,(clos env l cs).lookup x=some c
 | [],cs,h=>h
 | (n,k) :: r,cs,h=>by
  unfold clos
  by_cases hk:(k == NameKind.free)=true
  ·rw [aF6 hk]
   cases ha:env.cells.lookup n with
   | none=>exact afd h
   | some a =>
    refine afd ?_
    rw [aH0]
    cases hx:(x == n) with
    | true=>exact ⟨_,rfl⟩
    | false=>exact h
  ·rw [aF7 hk]
   exact afd h
theorem adk {env:Env} {x:Str} (h:∃ a,env.cells.lookup x=some a):∀ {l:List (Str × NameKind)} {cs:List (Str × Addr)},(x,NameKind.free)∈l->∃ c,(clos env l cs).lookup x=some c
 | [],_,hm=>absurd hm (by simp)
 | (n,k) :: r,cs,hm=>by
  rcases aA9.mp hm with e | hm
  ·cases e
   obtain ⟨a,ha⟩:=h
   unfold clos
   rw [aF6 (by rfl),ha]
   refine afd ⟨a,?_⟩
   rw [aH0]
   simp
  ·unfold clos
   by_cases hk:(k == NameKind.free)=true
   ·rw [aF6 hk]
    cases ha:env.cells.lookup n with
    | none=>exact adk h hm
    | some a=>exact adk h hm
   ·rw [aF7 hk]
    exact adk h hm
theorem agi {env:Env} {x:Str}:∀ {names:List (Str × NameKind)},(∀ y∈names,y.2 ≠ .cell) ->
  ((names.map fun (n,k)=>if (k == NameKind.free && env.scope.kind == .function && env.kindOf n == some .cell) then (n,NameKind.cell) else (n,k)).lookup x=some .cell ∨
   (names.map fun (n,k)=>if (k == NameKind.free && env.scope.kind == .function && env.kindOf n == some .cell) then (n,NameKind.cell) else (n,k)).lookup x=some .free)->names.lookup x=some .free
 | [],_,h=>by rcases h with h | h <;> simp at h
 | (n,k) :: r,hc,h=>by
  have a:=@agi env x r fun y c=>hc y (aB5 _ c)
  rw [aH0]
  simp only [aD1] at h
  by_cases hq:(k == NameKind.free && env.scope.kind == .function && env.kindOf n == some .cell)=true
  ·rw [aF6 hq] at h
   have b:k=NameKind.free:=by
    have:=hq;simp only [aH2] at this;simpa using this.1.1
   subst b
   cases hx:(x == n) with
   | true=>rfl
   | false=>simp only [aH0,hx] at h;exact a h
  ·rw [aF7 hq] at h
   cases hx:(x == n) with
   | true =>
    simp only [aH0,hx] at h
    rcases h with h | h
    ·cases h;exact absurd rfl (hc (n,NameKind.cell) aB8)
    ·exact h
   | false=>simp only [aH0,hx] at h;exact a h
theorem adt {env:Env} {x:Str}:∀ {names:List (Str × NameKind)},names.lookup x=some .free ->
  ((names.map fun (n,k)=>if (k == NameKind.free && env.scope.kind == .function && env.kindOf n == some .cell) then (n,NameKind.cell) else (n,k)).lookup x=some .cell ∨
   (names.map fun (n,k)=>if (k == NameKind.free && env.scope.kind == .function && env.kindOf n == some .cell) then (n,NameKind.cell) else (n,k)).lookup x=some .free)
 | [],h=>by simp at h
 | (n,k) :: r,h=>by
  have a:=@adt env x r
  rw [aH0] at h
  simp only [aD1]
  by_cases hq:(k == NameKind.free && env.scope.kind == .function && env.kindOf n == some .cell)=true
  ·rw [aF6 hq]
   cases hx:(x == n) with
   | true=>left;simp [aH0,hx]
   | false=>rw [hx] at h;simp only [aH0,hx];exact a h
  ·rw [aF7 hq]
   cases hx:(x == n) with
   | true=>rw [hx] at h;right;simp only [aH0,hx];exact h
   | false=>rw [hx] at h;simp only [aH0,hx];exact a h
def Cx.comp (X:Cx) (N:List Str) (sc:Scope) (C:Addr) (s0:Shared) (H0:Hp) (ex:List Addr):Cx where
 prog:=X.prog
 w:=X.w
 K:=X.K
 mg:=X.mg
 base:=X.base
 A:=X.A
 N:=N
 s₀:=s0
 H₀:=H0
 env:=compEnvC sc (clos X.env sc.names []) C X.env
 outer:=X.stack
 stack:=X.stack
 ex:=ex
 fn:=fun _=>false
 calm:=X.calm
 pn:=[]
 xe:=fun _ _=>False
def pick (src:List (Option Nat)) (σ:St):St:=src.map fun o=>match o with | some j=>(σ[j]?).getD none | none=>none
structure LcOk (X:Cx) (N:List Str) (sc:Scope) (src:List (Option Nat)):Prop where
 kind:sc.kind=.function
 nocell:∀ y∈sc.names,y.2 ≠ .cell
 own:∀ y∈sc.names,y.2=.local->sc.names.lookup y.1=some .local
 outs:∀ y∈sc.names,y.2=.free->X.env.kindOf y.1=some .cell\/X.env.kindOf y.1=some .free
 len:src.length=N.length
 from':∀ (i j:Nat),src[i]?=some (some j)->∃ x,N[i]?=some x/\X.N[j]?=some x/\sc.names.lookup x=some .free
theorem LcOk.clo {X:Cx} {N:List Str} {sc:Scope} {src:List (Option Nat)} (L:LcOk X N sc src) (ok:X.Ok):closureFor sc X.env=pure (clos X.env sc.names []) :=
 afc fun n hn=>ok.has n (L.outs (n,.free) hn rfl)
theorem amp {X:Cx} {pins:List (Addr × Obj)} {σ:St} {H:Hp} {s:Shared} {N:List Str} {sc:Scope} {src:List (Option Nat)} {fp:List Addr} {h:Heap} {t':Nat}
  (L:LcOk X N sc src) (I:Inv X pins σ H s) (hf:∀ b∈fp,FpOk X pins H b) (f:∀ b∈fp,b < s.heap.objs.size)
  (hn:h.Ns s.heap.objs.size fun _=>none) (g:∀ b o,s.heap.get? b=some o->h.get? b=some o) :
  Inv (X.comp N sc s.heap.objs.size s H fp) [] (pick src σ) H { s with heap:=h,toks:=t' }:=by
 have look:∀ {x c},(clos X.env sc.names []).lookup x=some c->X.env.cells.lookup x=some c:=fun {x c} e=>by
  rcases aej e with z | z
  ·exact z
  ·simp at z
 refine ⟨⟨I.ok.mod,L.kind,I.ok.glob,I.ok.blt,aA6 _,fun x y c B a=>?_,fun x M=>?_,fun x c z _=>?_,I.ok.hd,I.ok.frames,.inl rfl,fun b hb=>⟨?_,fun x c e=>?_⟩,I.bs,aD0 I.ok.bsz I.sz,fun b o e hb=>?_,fun b hb z=>?_,I.stack,I.stkFree⟩,
  rfl,I.bare,Un.kept g,⟨_,hn,fun i x v B a Q=>?_⟩,fun x c e=>?_,I.hok.fresh (aA6 _),fun x c e=>I.freeC x c (look e),fun p O=>?_,I.hok.kept g,?_⟩
 ·exact I.ok.inj x y c (look B) (look a)
 ·have q:=agi (env:=X.env) (x:=x) L.nocell M
  exact adk (I.ok.has x (L.outs (x,.free) (PySem.mem_of_lookup q) rfl)) (PySem.mem_of_lookup q)
 ·exact Bool.noConfusion z
 ·exact aB6 (f b hb)
 ·exact (hf b hb).2.2.2.2.1 x c (look e)
 ·rcases (hf b hb).2.2.2.1 with z | z
  ·exact I.ok.noex b o e z
  ·exact absurd (aC5 (aJ5 e) (aD0 I.ok.bsz z)) (aG5 _)
 ·rcases aA9.mp (I.stkSub b z) with q | q
  ·exact (hf b hb).2.1 q
  ·exact (hf b hb).2.2.1 q
 ·unfold pick at a
  rw [aA5] at a
  cases q:src[i]? with
  | none=>rw [q] at a;cases a
  | some o =>
   rw [q] at a
   cases o with
   | none=>cases a
   | some j =>
    obtain ⟨y,F,G,n⟩:=L.from' i j q
    have A:N[i]?=some x:=B
    rw [A] at F
    cases F
    have K : σ[j]?=some (some v):=by
     cases q2 : σ[j]? with
     | none=>simp [q2] at a
     | some z=>simp [q2] at a;rw [a]
    have f:=L.outs (x,.free) (PySem.mem_of_lookup n) rfl
    have w:Vis X.env.scope x:=by
     rcases f with z | z
     ·exact .inr (.inl z)
     ·exact .inr (.inr z)
    obtain ⟨m,_,J⟩:=I.loc
    obtain ⟨u,r,l⟩:=J j x v G K w
    refine ⟨u,r,.inr ⟨?_,?_⟩⟩
    ·exact adt (env:=X.env) n
    ·rcases l with ⟨z,_⟩ | ⟨_,c,D,oc,d,hd⟩
     ·rcases f with E | E <;> (rw [E] at z;cases z)
     ·obtain ⟨P,C⟩:=adk (env:=X.env) ⟨c,D⟩ (PySem.mem_of_lookup n) (cs:=[])
      have:=look C
      rw [D] at this;cases this
      exact ⟨c,C,oc,g c oc d,hd⟩
 ·obtain ⟨v,oc,d,hd⟩:=I.cell x c (look e)
  exact ⟨v,oc,g c oc d,hd⟩
 ·exact absurd (show p∈([]:List (Addr × Obj)) from O) (by simp)
 ·show (pick src σ).length=N.length
  unfold pick
  rw [aA3]
  exact L.len
def PIf (X:Cx) (ifs:List Expr) (t:TT):Prop :=
 ∀ (pins:List (Addr × Obj)) (s:Shared) (σ:St) (H:Hp) (Q:Bool->Hp->Prop),Inv X pins σ H s->t σ H Q ->
  wpAny (model X.prog X.w) X.A (forIn ifs true fun c r=>if r=true then do let ok ← isTrue c X.env (eval c X.env);pure (ForInStep.yield ok) else pure (ForInStep.yield r)) (TP X pins σ Q) X.xe s
def tYes:TT:=fun _ H Q=>Q true H
theorem aba {X:Cx}:PIf X [] tYes:=fun _ _ _ H _ I h=>wpAny_tests_nil ⟨H,I,h⟩
theorem ag7 {X:Cx} {c:Expr} {t:TT} (h:PT X c t):PIf X [c] t:=fun pins s σ H Q I q=>wpAny_tests_one (h pins s σ H Q I q)
abbrev LW:=Nat->Nat->List V->St->Hp->Prop
def aiq (J:It) (g:TG) (tif:TT) (te:TE) (acc:Addr) (Qd:List V->Hp->Prop) (W:LW):Prop:=∀ (i m:Nat) (ys:List V) (σ:St) (H:Hp),W i m ys σ H->H acc=some (.lst ys)/\((J.stop i H/\Qd ys H)\/(J.go i H /\
 ∃ Nx:List V->St->Hp->Prop,(∀ ys' σ' H',Nx ys' σ' H'->∃ m',m' < m/\W (i+1) m' ys' σ' H')/\∀ x H2,J.yld i H x H2 ->
 g x σ H2 fun σ3 H3=>tif σ3 H3 fun b H4=>if b=true then te σ3 H4 fun y H5=>H5 acc=some (.lst ys)/\ys.length < sizeLine/\Nx (ys ++ [y]) σ3 (upd H5 acc (.lst (ys ++ [y]))) else Nx ys σ3 H4))
theorem ako {X:Cx} {tg iter q:Expr} {v:List Expr} {sc:Scope} {pos:Pos} {J:It} {fp:List Addr} {it:Addr} {tn:Nat->Heap->Prop} {g:TG} {D:TT} {te:TE} {a:Addr} {Qd:List V->Hp->Prop} {W:LW} {R:Result->Shared->Prop}
  (T:Turn X.prog X.w X.K tg J fp it tn) (hc:X.calm=true) (l:∀ e s,¬ X.xe e s) (hg:PG X tg g) (a0:PIf X v D) (he:PE X q te)
  (E:aiq J g D te a Qd W) (hR:∀ ys σ H s,Inv X [] σ H s->Qd ys H->R (.ok .next) s)
  {i m:Nat} {ys:List V} {σ:St} {H:Hp} {s:Shared} (I:Inv X [] σ H s) (st:tn i s.heap) (hf:∀ b∈fp,FpOk X [] H b) (w:W i m ys σ H) :
  codeAny (model X.prog X.w) X.A (.compLoop (.ListComp q [⟨tg,iter,v,0⟩] sc pos) 0 (.ref it) (.ref a) X.env) R s:=by
 have h:∀ {H':Hp},(∀ b∈fp,H' b=none)->∀ b∈fp,FpOk X [] H' b:=fun hn b hb=>⟨hn b hb,(hf b hb).2⟩
 refine codeAny_loop rfl (fun n s'=>∃ i ys f H',Inv X [] f H' s'/\tn i s'.heap/\(∀ b∈fp,H' b=none)/\W i n ys f H') ?_ m ⟨i,ys,σ,H,I,st,fun b hb=>(hf b hb).1,w⟩
 rintro n s1 ⟨i,ys,c,S,I1,N,O,w1⟩
 show wpAny _ X.A ((compTurn (.ListComp q [⟨tg,iter,v,0⟩] sc pos) 0 (.ref it) (.ref a) X.env).onRaise (fun x=>do noteFrame x X.env;theTreesLotGoes x)) _ _ s1
 refine wpAny_noted ?_
 rw [compTurn_list]
 refine aJ2 (wpAny_standAt (aJ2 ?_))
 obtain ⟨a1,⟨stop,qd⟩ | ⟨go,Nx,G,step⟩⟩:=E i n ys c S w1
 ·refine thn (T.done X rfl rfl rfl hc i [] s1 c S _ I1 (h O) N stop) fun r s2 ⟨Y,I2⟩=>?_
  subst Y
  exact aJ3 (hR ys c S s2 I2 qd)
 ·refine thn (T.item X rfl rfl rfl hc i [] s1 c S _ I1 (h O) N go) fun r s2 ⟨u,Y,h2⟩=>?_
  subst Y
  refine aJ2 (thn h2 fun _ s3 ⟨x,H3,I3,r3,y3,B,Z⟩=>?_)
  have U:=I3.pinned (h Z) (T.obj _ _ B)
  refine aJ2 (aK0 (hg _ s3 c H3 x u _ U r3 (step x H3 y3)) (fun _ s4 ⟨C,H4,I4,q4⟩=>?_) fun e s' z=>(l e s' z).elim)
  have p:∀ {j:St} {L:Hp} {M:Shared} {zs:List V},Inv X ([] ++ aez fp s3.heap) j L M->(∃ P,P < n/\W (i+1) P zs j L)->∃ m,m < n/\∃ i ys f H',Inv X [] f H' M/\tn i M.heap/\(∀ b∈fp,H' b=none)/\W i m ys f H':=fun {j L M zs} F w7=>by
   obtain ⟨P,hm,w7⟩:=w7
   refine ⟨P,hm,i+1,zs,j,L,F.unpinned,T.keep _ _ _ B fun b hb o e=>(F.pin (b,o) (aB3 _ (aB3 _ (ab7 hb e)))).1,fun b hb=>?_,w7⟩
   obtain ⟨o,e,d⟩:=T.obj _ _ B b hb
   exact (F.pin (b,o) (aB3 _ (aB3 _ (ab7 hb e)))).2.1
  refine aJ2 (aK0 (a0 _ s4 C H4 _ I4 q4) (fun b s5 ⟨H5,I5,Q⟩=>?_) fun e s' z=>(l e s' z).elim)
  cases b with
  | false =>
   rw [aF7 aB0] at Q
   exact aJ3 ⟨rfl,p I5 (G _ _ _ Q)⟩
  | true =>
   rw [aF6 rfl] at Q
   refine aJ2 (aJ2 (aK0 (he _ s5 C H5 _ I5 Q) (fun yv s6 ⟨y,H6,I6,r6,a6,l6,w6⟩=>?_) fun e s' z=>(l e s' z).elim))
   have ap:=abr (X:=X) _ s6 C H6 (.ref a) [y] (.ref a) [yv] (fun _ H'=>H'=upd H6 a (.lst (ys ++ [y]))) I6 rfl (.cons r6 .nil) ⟨a,ys,y,rfl,rfl,a6,l6,rfl⟩
   refine aJ2 (aK0 ap (fun _ M ⟨v7,L,F,_,e7⟩=>?_) fun e s' z=>(l e s' z).elim)
   subst e7
   exact aJ3 (aJ3 ⟨rfl,p F (G _ _ _ w6)⟩)
def tLC (src:List (Option Nat)) (wi:TI) (g:TG) (tif:TT) (te:TE):TE:=fun σ H Q=>wi σ H fun J H1=>∀ acc,H1 acc=none->∃ W:LW,(∃ m,W 0 m [] (pick src σ) (upd H1 acc (.lst [])))/\aiq J g tif te acc (fun _ H'=>Q (.ref acc) H') W
section
variable {X:Cx} {N:List Str} {tg iter elt:Expr} {ifs:List Expr} {sc:Scope} {src:List (Option Nat)} {wi:TI} {g:TG} {tif:TT} {te:TE} {pos:Pos}
theorem aw0 (U:X.calm=true) (L:LcOk X N sc src) (Y:∀ C q l ex,PG (X.comp N sc C q l ex) tg g) (I:∀ C q l ex,PIf (X.comp N sc C q l ex) ifs tif) (he:∀ C q l ex,PE (X.comp N sc C q l ex) elt te)
  {pins:List (Addr × Obj)} {d:Shared} {σ:St} {H3:Hp} {Q:VK} (i:Inv X pins σ H3 d) {it a:Addr} {fp:List Addr} {J:It} {tn:Nat->Heap->Prop} (T:Turn X.prog X.w X.K tg J fp it tn) (D:tn 0 d.heap) (j:∀ b∈fp,FpOk X pins H3 b)
  {W:LW} {S:Nat} (w0:W 0 S [] (pick src σ) H3) (F:aiq J g tif te a (fun _ H'=>Q (.ref a) H') W) (use:Option (Value->Sem Unit)) (P:Value->Shared->Prop)
  (Z:∀ C H' s' m,Inv X pins σ H' s'->Q (.ref a) H'->s'.heap.Ns C m->H' C=none->C ≠ X.env.locals->(C∈X.ex\/X.s₀.heap.objs.size<=C)->(∀ x c,X.env.cells.lookup x=some c->c ≠ C)->(∀ p∈X.pn ++ pins,p.1 ≠ C) ->
   compPost (model X.prog X.w) X.A X.xe use P (.ref a) C (.ok .next) s') :
  wpAny (model X.prog X.w) X.A (newFunctionEnv sc X.env.globals (clos X.env sc.names []) [] X.env.qual none .none (some X.env)) (fun f B =>
    codeAny (model X.prog X.w) X.A (.compStart (.ListComp elt [⟨tg,iter,ifs,0⟩] sc pos) 0 (.ref it) (.ref a) { f with scope:=relabel sc X.env }) (compPost (model X.prog X.w) X.A X.xe use P (.ref a) f.locals) B) X.xe d:=by
 refine wpAny_newFunctionEnv L.nocell (by intro y hy;simp at hy) (fun R s n=>?_) L.kind
 have O:∀ b∈fp,b < d.heap.objs.size:=fun b hb=>by
  obtain ⟨o,H,_⟩:=T.obj _ _ D b hb
  exact aJ5 H
 have r:∀ b o,d.heap.get? b=some o->R.get? b=some o:=fun b o e=>n.extBut b o (aB6 (aJ5 e)) (aJ4 _ e)
 have G:=amp (t':=d.toks+([]:List (Str × Value)).length) L i j O (by simpa using s) r
 have u:tn 0 R:=T.keep _ _ _ D fun b _ o e=>r b o e
 have f4:∀ b∈fp,FpOk (X.comp N sc d.heap.objs.size d H3 fp) [] H3 b:=fun b hb =>
  ⟨(j b hb).1,(G.ok.exf b hb).1,G.ok.exfs b hb,.inl hb,(G.ok.exf b hb).2,fun p M=>absurd (show p∈([]:List (Addr × Obj)) from M) (by simp)⟩
 have fin:∀ (ys:List V) E H' s',Inv (X.comp N sc d.heap.objs.size d H3 fp) [] E H' s'->Q (.ref a) H'->compPost (model X.prog X.w) X.A X.xe use P (.ref a) d.heap.objs.size (.ok .next) s':=fun ys E H' s' h q'=>by
  have Jo:Inv X pins σ H' s':=i.call' (ch:=fp) h.os h.base h.hok h.bare fun b hb=>⟨(j b hb).2.2.2.1,(j b hb).2.1,(j b hb).2.2.2.2.1,(j b hb).2.2.2.2.2⟩
  obtain ⟨m,hn,_⟩:=h.loc
  refine Z _ H' s' m Jo q' hn h.free (Nat.ne_of_gt i.lt) (.inr i.sz) (fun x c e z=>?_) fun p M z=>?_
  ·obtain ⟨v,o,H,_⟩:=i.cell x c e
   exact absurd (aJ5 H) (by rw [z];exact aG5 _)
  ·exact absurd (aJ5 (i.pin p M).1) (by rw [z];exact aG5 _)
 have loop:codeAny (model X.prog X.w) X.A (.compLoop (.ListComp elt [⟨tg,iter,ifs,0⟩] sc pos) 0 (.ref it) (.ref a) (X.comp N sc d.heap.objs.size d H3 fp).env)
   (compPost (model X.prog X.w) X.A X.xe use P (.ref a) d.heap.objs.size) { d with heap:=R,toks:=d.toks+([]:List (Str × Value)).length } :=
  ako (X:=X.comp N sc d.heap.objs.size d H3 fp) T U (fun _ _ z=>z) (Y _ _ _ _) (I _ _ _ _) (he _ _ _ _) F fin G u f4 w0
 exact codeAny_compStart_list loop (T.self _ 0 _ _ _ u loop)
theorem amq (F:X.calm=true) (L:LcOk X N sc src) (hi:PI X tg iter wi) (G:∀ C i d ex,PG (X.comp N sc C i d ex) tg g) (n:∀ C i d ex,PIf (X.comp N sc C i d ex) ifs tif) (R:∀ C i d ex,PE (X.comp N sc C i d ex) elt te)
  {pins:List (Addr × Obj)} {s:Shared} {σ:St} {H:Hp} {Q:VK} (I:Inv X pins σ H s) (h:tLC src wi g tif te σ H Q) (use:Option (Value->Sem Unit)) (P:Value->Shared->Prop)
  (K:∀ a C H' s' m,Inv X pins σ H' s'->Q (.ref a) H'->s'.heap.Ns C m->H' C=none->C ≠ X.env.locals->(C∈X.ex\/X.s₀.heap.objs.size<=C)->(∀ x c,X.env.cells.lookup x=some c->c ≠ C)->(∀ p∈X.pn ++ pins,p.1 ≠ C) ->
   compPost (model X.prog X.w) X.A X.xe use P (.ref a) C (.ok .next) s')
  (hs:∀ x,foldedSetIterable iter X.env x=pure x) :
  wpAny (model X.prog X.w) X.A (comprehension (.ListComp elt [⟨tg,iter,ifs,0⟩] sc pos) sc X.env (firstIterPos [⟨tg,iter,ifs,0⟩] pos) (newList []) false (eval iter X.env) use) P X.xe s:=by
 refine wpAny_comprehension_free rfl hs (L.clo I.ok) L.kind L.own (thn (hi pins s σ H _ I h) fun v s1 z=>thn z fun E s2 B=>?_)
 obtain ⟨it,fp,tn,J,H2,e,y,T,f,r,O⟩:=B
 subst e
 have j:H2 s2.heap.objs.size=none:=y.hok.fresh (aA6 _)
 obtain ⟨W,⟨S,M⟩,l⟩:=O s2.heap.objs.size j
 have q:∀ b∈fp,b < s2.heap.objs.size:=fun b hb=>by
  obtain ⟨o,D,_⟩:=T.obj _ _ f b hb
  exact aJ5 D
 refine aK1 ?_
 refine aw0 F L G n R (H3:=upd H2 s2.heap.objs.size (.lst [])) ?_ T ?_ ?_ M l use P (K _)
 ·exact y.laid (t':=s2.toks) (fun b u e=>aJ4 _ e) (aA6 _) ⟨aG1 _,[],0,.nil,aJ6 _ rfl⟩
 ·exact T.keep _ _ _ f fun b _ o e=>aJ4 _ e
 ·exact fun b hb=>⟨by rw [aag (aB6 (q b hb))];exact (r b hb).1,(r b hb).2⟩
theorem ac9 (n:X.calm=true) (L:LcOk X N sc src) (hi:PI X tg iter wi) (r:∀ C c a ex,PG (X.comp N sc C c a ex) tg g) (i:∀ C c a ex,PIf (X.comp N sc C c a ex) ifs tif) (v:∀ C c a ex,PE (X.comp N sc C c a ex) elt te)
  (hs:∀ x,foldedSetIterable iter X.env x=pure x:=by intro _;rfl):PE X (.ListComp elt [⟨tg,iter,ifs,0⟩] sc pos) (tLC src wi g tif te):=by
 intro pins s σ H Q I h
 rw [eval_ListComp]
 refine amq n L hi r i v I h none _ (fun d C H' s' m J q hn u j l f p=>?_) hs
 refine ⟨m,hn,fun h' sb=>⟨.ref d,H',?_,rfl,q⟩⟩
 exact J.turned (t':=s'.toks) (fun b o hb e=>sb.extBut b o hb e) u j l f p
end
section
variable {X:Cx} {N:List Str} {tg iter elt:Expr} {ifs:List Expr} {sc:Scope} {src:List (Option Nat)} {wi:TI} {g:TG} {tif:TT} {te:TE} {pos spos px:Pos}
theorem ae0 {i:Nat} {x:Str} (F:X.N.Nodup) (p:X.N[i]?=some x) (E:Loc X.env.scope x) (G:X.calm=true) (L:LcOk X N sc src) (hi:PI X tg iter wi) (M:∀ C j d ex,PG (X.comp N sc C j d ex) tg g)
  (u:∀ C j d ex,PIf (X.comp N sc C j d ex) ifs tif) (Q:∀ C j d ex,PE (X.comp N sc C j d ex) elt te)
  (r:swapsWith (.ListComp elt [⟨tg,iter,ifs,0⟩] sc pos) (some (.Name x px)) spos.line X.env=pure true:=by rfl)
  (hf:X.fn x=true\/X.env.scope.names.lookup x=some .local:=by first | exact .inl rfl | exact .inr rfl | assumption)
  (hs:∀ x,foldedSetIterable iter X.env x=pure x:=by intro _;rfl):PS X (.Assign [.Name x px] (.ListComp elt [⟨tg,iter,ifs,0⟩] sc pos) spos) (tAsg (tLC src wi g tif te) (aa1 i)):=by
 intro pins s σ H D I h
 rw [exec_Assign_Name_used _ _ _ _ r]
 refine aJ2 (wpAny_standAt (aJ2 ?_))
 show wpAny _ X.A (do let _ ← comprehension (.ListComp elt [⟨tg,iter,ifs,0⟩] sc pos) sc X.env _ (newList []) false (eval iter X.env) (some (assign (.Name x px) X.env))) _ _ s
 refine aJ2 (aK0 (amq G L hi M u Q I h (some (assign (.Name x px) X.env)) (fun _ s'=>SP X pins D .next s') (fun c C H' s' m J q hn P y w f K=>?_) hs) (fun _ s' B=>aJ3 (aJ3 B)) fun _ _ e=>e)
 show wpAny _ X.A (assign (.Name x px) X.env (.ref c)) _ _ _
 refine wpAny_assign_Name (age J F p E (v:=.ref c) rfl (fun s2 O ⟨a,sb,ha⟩=>?_) hf)
 have l:C ≠ a:=by
  rcases ha with z | z
  ·rw [z];exact y
  ·exact (f x a z).symm
 refine ⟨m,hn.sameBut sb l,fun h' n=>⟨_,H',?_,q⟩⟩
 exact O.turned (t':=s2.toks) (fun b o hb e=>n.extBut b o hb e) P y w f K
end
section
variable {g:TG} {tif:TT} {te:TE} {acc:Addr} {Qd:List V->Hp->Prop} {σ0:St} {H0:Hp}
end
def ao5 (J:It) (g:TG) (tif:TT) (te:TE) (acc:Addr) (Qd:List V->St->Hp->Prop) (W:LW):Prop:=∀ (i m:Nat) (ys:List V) (σ:St) (H:Hp),W i m ys σ H->H acc=some (.lst ys)/\((J.stop i H/\Qd ys σ H)\/(J.go i H /\
 ∃ Nx:List V->St->Hp->Prop,(∀ ys' σ' H',Nx ys' σ' H'->∃ m',m' < m/\W (i+1) m' ys' σ' H')/\∀ x H2,J.yld i H x H2 ->
 g x σ H2 fun σ3 H3=>tif σ3 H3 fun b H4=>if b=true then te σ3 H4 fun y H5=>H5 acc=some (.lst ys)/\ys.length < sizeLine/\Nx (ys ++ [y]) σ3 (upd H5 acc (.lst (ys ++ [y]))) else Nx ys σ3 H4))
def ajn (J:It) (g:TG) (tif:TT) (wi2:TI) (g2:TG) (tif2:TT) (te:TE) (acc:Addr) (Qd:List V->Hp->Prop) (W:LW):Prop:=∀ (i m:Nat) (ys:List V) (σ:St) (H:Hp),W i m ys σ H->((J.stop i H/\Qd ys H)\/(J.go i H /\
 ∃ Nx:List V->St->Hp->Prop,(∀ ys' σ' H',Nx ys' σ' H'->∃ m',m' < m/\W (i+1) m' ys' σ' H')/\∀ x H2,J.yld i H x H2 ->
 g x σ H2 fun σ3 H3=>tif σ3 H3 fun b H4=>if b=true then wi2 σ3 H4 fun J2 H5=>∃ W2:LW,(∃ m2,W2 0 m2 ys σ3 H5)/\ao5 J2 g2 tif2 te acc Nx W2 else Nx ys σ3 H4))
theorem ald (a t1 i1 f d:Expr) (f1 g:List Expr) (sc:Scope) (pos:Pos) (it b:Value) (env:Env) :
  compTurn (.ListComp a [⟨t1,i1,f1,0⟩,⟨f,d,g,0⟩] sc pos) 0 it b env=(do
   standAt i1.pos
   match ← pyNext it with
   | none=>pure (.done .next)
   | some v =>
    letOwnedTupleGo t1 it v
    assign t1 env v
    let mut ok:=true
    for c in f1 do
     if ok then ok ← isTrue c env (eval c env)
    if ok then
     let x ← eval d env
     standAt d.pos
     let x ← foldedSetIterable d env x
     let _ ← runOwn (.compStart (.ListComp a [⟨t1,i1,f1,0⟩,⟨f,d,g,0⟩] sc pos) 1 (← holding [x] (pyIter x)) b env) env
    again (.compLoop (.ListComp a [⟨t1,i1,f1,0⟩,⟨f,d,g,0⟩] sc pos) 0 it b env)):=by rfl
theorem ale (a t1 i1 d g:Expr) (f1 f:List Expr) (sc:Scope) (pos:Pos) (it b:Value) (env:Env) :
  compTurn (.ListComp a [⟨t1,i1,f1,0⟩,⟨d,g,f,0⟩] sc pos) 1 it b env=(do
   standAt g.pos
   match ← pyNext it with
   | none=>pure (.done .next)
   | some v =>
    letOwnedTupleGo d it v
    assign d env v
    let mut ok:=true
    for c in f do
     if ok then ok ← isTrue c env (eval c env)
    if ok then
     (do let _ ← call (.builtin "list.append") [b,← eval a env])
    again (.compLoop (.ListComp a [⟨t1,i1,f1,0⟩,⟨d,g,f,0⟩] sc pos) 1 it b env)):=by rfl
theorem ar2 {prog:Program} {w:World} {A:Around} {R:Result->Shared->Prop} {s:Shared} {b t1 i1 i d:Expr} {f1 g:List Expr} {sc:Scope} {pos:Pos} {it c:Value} {env:Env}
  (j:codeAny (model prog w) A (.compLoop (.ListComp b [⟨t1,i1,f1,0⟩,⟨i,d,g,0⟩] sc pos) 1 it c env) R s)
  (h:wpAny (model prog w) A (pyIter it) (fun a s'=>codeAny (model prog w) A (.compLoop (.ListComp b [⟨t1,i1,f1,0⟩,⟨i,d,g,0⟩] sc pos) 1 a c env) R s') (notedBy (model prog w) A env fun x s'=>R (.error x) s') s) :
  codeAny (model prog w) A (.compStart (.ListComp b [⟨t1,i1,f1,0⟩,⟨i,d,g,0⟩] sc pos) 1 it c env) R s:=by
 refine codeAny_of_tree ?_
 show wpAny _ _ ((compStart (.ListComp b [⟨t1,i1,f1,0⟩,⟨i,d,g,0⟩] sc pos) 1 it c env).onRaise (fun x=>do noteFrame x env;standAt theWindowsPlace)) _ _ s
 refine wpAny_notedAt ?_
 unfold compStart
 show wpAny _ _ (ask >>= _) _ _ s
 apply aJ2;apply wpAny_askSetting;apply wpAny_ite;split
 ·first | exact aJ2 (aJ3 (aJ3 ⟨rfl,j⟩)) | exact aJ3 ⟨rfl,j⟩
 ·have q:wpAny (model prog w) A (pyIter it >>= fun a=>again (.compLoop (.ListComp b [⟨t1,i1,f1,0⟩,⟨i,d,g,0⟩] sc pos) 1 a c env)) (fun fin s'=>match fin with | .done f=>R (.ok f) s' | .again c'=>c'.quiet=true/\codeAny (model prog w) A c' R s') (notedBy (model prog w) A env fun x s'=>R (.error x) s') s :=
   aJ2 (aK0 h (fun a s' h'=>aJ3 ⟨rfl,h'⟩) fun _ _ x=>x)
  first
   | exact aJ2 (wpAny_rule (aJ2 (wpAny_standAt (aJ2 (aK0 h (fun a s' h'=>aJ3 ⟨rfl,h'⟩) fun _ _ x=>x)))))
   | (apply aJ2;apply wpAny_rule;show wpAny _ _ (standAt d.pos >>= _) _ _ s;exact aJ2 (wpAny_standAt (aJ2 (aK0 h (fun a s' h'=>aJ3 ⟨rfl,h'⟩) fun _ _ x=>x))))
theorem aql {X:Cx} {q t1 i1 tg iter:Expr} {f1 v:List Expr} {sc:Scope} {pos:Pos} {J:It} {fp:List Addr} {it:Addr} {tn:Nat->Heap->Prop} {g:TG} {D:TT} {te:TE} {a:Addr} {Qd:List V->St->Hp->Prop} {W:LW} {R:Result->Shared->Prop} {pins:List (Addr × Obj)}
  (T:Turn X.prog X.w X.K tg J fp it tn) (hc:X.calm=true) (l:∀ e s,¬ X.xe e s) (hg:PG X tg g) (a0:PIf X v D) (he:PE X q te)
  (E:ao5 J g D te a Qd W) (hR:∀ ys σ H s,Inv X pins σ H s->Qd ys σ H->R (.ok .next) s)
  {i m:Nat} {ys:List V} {σ:St} {H:Hp} {s:Shared} (I:Inv X pins σ H s) (st:tn i s.heap) (hf:∀ b∈fp,FpOk X pins H b) (w:W i m ys σ H) :
  codeAny (model X.prog X.w) X.A (.compLoop (.ListComp q [⟨t1,i1,f1,0⟩,⟨tg,iter,v,0⟩] sc pos) 1 (.ref it) (.ref a) X.env) R s:=by
 have h:∀ {H':Hp},(∀ b∈fp,H' b=none)->∀ b∈fp,FpOk X pins H' b:=fun hn b hb=>⟨hn b hb,(hf b hb).2⟩
 refine codeAny_loop rfl (fun n s'=>∃ i ys f H',Inv X pins f H' s'/\tn i s'.heap/\(∀ b∈fp,H' b=none)/\W i n ys f H') ?_ m ⟨i,ys,σ,H,I,st,fun b hb=>(hf b hb).1,w⟩
 rintro n s1 ⟨i,ys,c,S,I1,N,O,w1⟩
 show wpAny _ X.A ((compTurn (.ListComp q [⟨t1,i1,f1,0⟩,⟨tg,iter,v,0⟩] sc pos) 1 (.ref it) (.ref a) X.env).onRaise (fun x=>do noteFrame x X.env;theTreesLotGoes x)) _ _ s1
 refine wpAny_noted ?_
 rw [ale]
 refine aJ2 (wpAny_standAt (aJ2 ?_))
 obtain ⟨a1,⟨stop,qd⟩ | ⟨go,Nx,G,step⟩⟩:=E i n ys c S w1
 ·refine thn (T.done X rfl rfl rfl hc i pins s1 c S _ I1 (h O) N stop) fun r s2 ⟨Y,I2⟩=>?_
  subst Y
  exact aJ3 (hR ys c S s2 I2 qd)
 ·refine thn (T.item X rfl rfl rfl hc i pins s1 c S _ I1 (h O) N go) fun r s2 ⟨u,Y,h2⟩=>?_
  subst Y
  refine aJ2 (thn h2 fun _ s3 ⟨x,H3,I3,r3,y3,B,Z⟩=>?_)
  have U:=I3.pinned (h Z) (T.obj _ _ B)
  refine aJ2 (aK0 (hg _ s3 c H3 x u _ U r3 (step x H3 y3)) (fun _ s4 ⟨C,H4,I4,q4⟩=>?_) fun e s' z=>(l e s' z).elim)
  have p:∀ {j:St} {L:Hp} {M:Shared} {zs:List V},Inv X (pins ++ aez fp s3.heap) j L M->(∃ P,P < n/\W (i+1) P zs j L)->∃ m,m < n/\∃ i ys f H',Inv X pins f H' M/\tn i M.heap/\(∀ b∈fp,H' b=none)/\W i m ys f H':=fun {j L M zs} F w7=>by
   obtain ⟨P,hm,w7⟩:=w7
   refine ⟨P,hm,i+1,zs,j,L,F.unpinned,T.keep _ _ _ B fun b hb o e=>(F.pin (b,o) (aB3 _ (aB3 _ (ab7 hb e)))).1,fun b hb=>?_,w7⟩
   obtain ⟨o,e,d⟩:=T.obj _ _ B b hb
   exact (F.pin (b,o) (aB3 _ (aB3 _ (ab7 hb e)))).2.1
  refine aJ2 (aK0 (a0 _ s4 C H4 _ I4 q4) (fun b s5 ⟨H5,I5,Q⟩=>?_) fun e s' z=>(l e s' z).elim)
  cases b with
  | false =>
   rw [aF7 aB0] at Q
   exact aJ3 ⟨rfl,p I5 (G _ _ _ Q)⟩
  | true =>
   rw [aF6 rfl] at Q
   refine aJ2 (aJ2 (aK0 (he _ s5 C H5 _ I5 Q) (fun yv s6 ⟨y,H6,I6,r6,a6,l6,w6⟩=>?_) fun e s' z=>(l e s' z).elim))
   have ap:=abr (X:=X) _ s6 C H6 (.ref a) [y] (.ref a) [yv] (fun _ H'=>H'=upd H6 a (.lst (ys ++ [y]))) I6 rfl (.cons r6 .nil) ⟨a,ys,y,rfl,rfl,a6,l6,rfl⟩
   refine aJ2 (aK0 ap (fun _ M ⟨v7,L,F,_,e7⟩=>?_) fun e s' z=>(l e s' z).elim)
   subst e7
   exact aJ3 (aJ3 ⟨rfl,p F (G _ _ _ w6)⟩)
theorem aqm {X:Cx} {y t1 i1 t2 M:Expr} {f1 f2:List Expr} {sc:Scope} {pos:Pos} {J:It} {fp:List Addr} {it:Addr} {tn:Nat->Heap->Prop} {g:TG} {E:TT} {Z:TI} {g2:TG} {v:TT} {te:TE} {B:Addr} {Qd:List V->Hp->Prop} {W:LW} {R:Result->Shared->Prop}
  (T:Turn X.prog X.w X.K t1 J fp it tn) (hc:X.calm=true) (l:∀ e s,¬ X.xe e s) (hg:PG X t1 g) (a5:PIf X f1 E) (a2:PI X t2 M Z) (a6:PG X t2 g2) (Y:PIf X f2 v) (he:PE X y te)
  (a0:∀ x,foldedSetIterable M X.env x=pure x)
  (F:ajn J g E Z g2 v te B Qd W) (hR:∀ ys σ H s,Inv X [] σ H s->Qd ys H->R (.ok .next) s)
  {i m:Nat} {ys:List V} {σ:St} {H:Hp} {s:Shared} (I:Inv X [] σ H s) (st:tn i s.heap) (hf:∀ b∈fp,FpOk X [] H b) (w:W i m ys σ H) :
  codeAny (model X.prog X.w) X.A (.compLoop (.ListComp y [⟨t1,i1,f1,0⟩,⟨t2,M,f2,0⟩] sc pos) 0 (.ref it) (.ref B) X.env) R s:=by
 have j:∀ {H':Hp},(∀ b∈fp,H' b=none)->∀ b∈fp,FpOk X [] H' b:=fun hn b hb=>⟨hn b hb,(hf b hb).2⟩
 refine codeAny_loop rfl (fun n s'=>∃ i ys a H',Inv X [] a H' s'/\tn i s'.heap/\(∀ b∈fp,H' b=none)/\W i n ys a H') ?_ m ⟨i,ys,σ,H,I,st,fun b hb=>(hf b hb).1,w⟩
 rintro n s1 ⟨i,ys,c,H1,I1,Q,S,w1⟩
 show wpAny _ X.A ((compTurn (.ListComp y [⟨t1,i1,f1,0⟩,⟨t2,M,f2,0⟩] sc pos) 0 (.ref it) (.ref B) X.env).onRaise (fun x=>do noteFrame x X.env;theTreesLotGoes x)) _ _ s1
 refine wpAny_noted ?_
 rw [ald]
 refine aJ2 (wpAny_standAt (aJ2 ?_))
 obtain ⟨stop,qd⟩ | ⟨go,Nx,L,step⟩:=F i n ys c H1 w1
 ·refine thn (T.done X rfl rfl rfl hc i [] s1 c H1 _ I1 (j S) Q stop) fun r s2 ⟨hr,I2⟩=>?_
  subst hr
  exact aJ3 (hR ys c H1 s2 I2 qd)
 ·refine thn (T.item X rfl rfl rfl hc i [] s1 c H1 _ I1 (j S) Q go) fun r s2 ⟨u,hr,h2⟩=>?_
  subst hr
  refine aJ2 (thn h2 fun _ s3 ⟨x,H3,I3,r3,y3,C,a4⟩=>?_)
  have a1:=I3.pinned (j a4) (T.obj _ _ C)
  refine aJ2 (aK0 (hg _ s3 c H3 x u _ a1 r3 (step x H3 y3)) (fun _ s4 ⟨U,H4,I4,q4⟩=>?_) fun e s' z=>(l e s' z).elim)
  have q:∀ {p:St} {O:Hp} {P:Shared} {zs:List V},Inv X ([] ++ aez fp s3.heap) p O P->(∃ m',m' < n/\W (i+1) m' zs p O)->∃ m,m < n/\∃ i ys a H',Inv X [] a H' P/\tn i P.heap/\(∀ b∈fp,H' b=none)/\W i m ys a H':=fun {p O P zs} G w7=>by
   obtain ⟨m',hm,w7⟩:=w7
   refine ⟨m',hm,i+1,zs,p,O,G.unpinned,T.keep _ _ _ C fun b hb o e=>(G.pin (b,o) (aB3 _ (aB3 _ (ab7 hb e)))).1,fun b hb=>?_,w7⟩
   obtain ⟨o,e,d⟩:=T.obj _ _ C b hb
   exact (G.pin (b,o) (aB3 _ (aB3 _ (ab7 hb e)))).2.1
  refine aJ2 (aK0 (a5 _ s4 U H4 _ I4 q4) (fun b s5 ⟨H5,I5,q5⟩=>?_) fun e s' z=>(l e s' z).elim)
  cases b with
  | false =>
   rw [aF7 aB0] at q5
   exact aJ3 ⟨rfl,q I5 (L _ _ _ q5)⟩
  | true =>
   rw [aF6 rfl] at q5
   refine aJ2 (aK0 (a2 _ s5 U H5 _ I5 q5) (fun xv s6 h6=>?_) fun e s' z=>(l e s' z).elim)
   refine aJ2 (wpAny_standAt (aJ2 ?_))
   rw [a0 xv]
   refine aJ3 (aJ2 (aJ8 (aK0 h6 (fun a8 P h7=>?_) fun e s' z=>(l e s' z).elim)))
   obtain ⟨b2,a9,b1,J2,O,e,G,T2,N,a3,W2,⟨m2,w2⟩,D⟩:=h7
   subst e
   refine aJ2 (wpAny_runOwn ?_)
   have loop:=aql (R:=fun r s'=>match r with | .ok f=>(∃ m,m < n/\∃ i ys a H',Inv X [] a H' s'/\tn i s'.heap/\(∀ b∈fp,H' b=none)/\W i m ys a H') | .error e=>False) (t1:=t1) (i1:=i1) (f1:=f1) (iter:=M) (sc:=sc) (pos:=pos) T2 hc l a6 Y he D (fun b0 a7 H8 s8 I8 q8=>q I8 (L _ _ _ q8)) G N a3 w2
   have st:=ar2 loop (T2.self _ 0 _ _ _ N loop)
   refine aJ7 st fun r s' h=>?_
   cases r with
   | error e=>exact h.elim
   | ok f=>exact aJ3 ⟨rfl,h⟩
def tLC2 (src:List (Option Nat)) (wi:TI) (g:TG) (tif:TT) (wi2:TI) (g2:TG) (tif2:TT) (te:TE):TE:=fun σ H Q=>wi σ H fun J H1=>∀ acc,H1 acc=none->∃ W:LW,(∃ m,W 0 m [] (pick src σ) (upd H1 acc (.lst [])))/\ajn J g tif wi2 g2 tif2 te acc (fun _ H'=>Q (.ref acc) H') W
section
variable {X:Cx} {N:List Str} {t1 i1 t2 i2 elt:Expr} {f1 f2:List Expr} {sc:Scope} {src:List (Option Nat)} {wi wi2:TI} {g g2:TG} {tif tif2:TT} {te:TE} {pos:Pos}
theorem atz (hc:X.calm=true) (L:LcOk X N sc src) (hg:∀ C h f ex,PG (X.comp N sc C h f ex) t1 g) (R:∀ C h f ex,PIf (X.comp N sc C h f ex) f1 tif) (M:∀ C h f ex,PI (X.comp N sc C h f ex) t2 i2 wi2) (Z:∀ C h f ex,PG (X.comp N sc C h f ex) t2 g2) (E:∀ C h f ex,PIf (X.comp N sc C h f ex) f2 tif2) (he:∀ C h f ex,PE (X.comp N sc C h f ex) elt te)
  (I:∀ C h f ex x,foldedSetIterable i2 (X.comp N sc C h f ex).env x=pure x)
  {pins:List (Addr × Obj)} {d:Shared} {σ:St} {H3:Hp} {Q:VK} (l:Inv X pins σ H3 d) {it a:Addr} {fp:List Addr} {J:It} {tn:Nat->Heap->Prop} (T:Turn X.prog X.w X.K t1 J fp it tn) (D:tn 0 d.heap) (n:∀ b∈fp,FpOk X pins H3 b)
  {W:LW} {m0:Nat} (w0:W 0 m0 [] (pick src σ) H3) (G:ajn J g tif wi2 g2 tif2 te a (fun _ H'=>Q (.ref a) H') W) (use:Option (Value->Sem Unit)) (P:Value->Shared->Prop)
  (hP:∀ C H' s' m,Inv X pins σ H' s'->Q (.ref a) H'->s'.heap.Ns C m->H' C=none->C ≠ X.env.locals->(C∈X.ex\/X.s₀.heap.objs.size<=C)->(∀ x c,X.env.cells.lookup x=some c->c ≠ C)->(∀ p∈X.pn ++ pins,p.1 ≠ C) ->
   compPost (model X.prog X.w) X.A X.xe use P (.ref a) C (.ok .next) s') :
  wpAny (model X.prog X.w) X.A (newFunctionEnv sc X.env.globals (clos X.env sc.names []) [] X.env.qual none .none (some X.env)) (fun i B =>
    codeAny (model X.prog X.w) X.A (.compStart (.ListComp elt [⟨t1,i1,f1,0⟩,⟨t2,i2,f2,0⟩] sc pos) 0 (.ref it) (.ref a) { i with scope:=relabel sc X.env }) (compPost (model X.prog X.w) X.A X.xe use P (.ref a) i.locals) B) X.xe d:=by
 refine wpAny_newFunctionEnv L.nocell (by intro y hy;simp at hy) (fun Y s q=>?_) L.kind
 have U:∀ b∈fp,b < d.heap.objs.size:=fun b hb=>by
  obtain ⟨o,O,_⟩:=T.obj _ _ D b hb
  exact aJ5 O
 have r:∀ b o,d.heap.get? b=some o->Y.get? b=some o:=fun b o e=>q.extBut b o (aB6 (aJ5 e)) (aJ4 _ e)
 have H:=amp (t':=d.toks+([]:List (Str × Value)).length) L l n U (by simpa using s) r
 have u:tn 0 Y:=T.keep _ _ _ D fun b _ o e=>r b o e
 have f4:∀ b∈fp,FpOk (X.comp N sc d.heap.objs.size d H3 fp) [] H3 b:=fun b hb =>
  ⟨(n b hb).1,(H.ok.exf b hb).1,H.ok.exfs b hb,.inl hb,(H.ok.exf b hb).2,fun p S=>absurd (show p∈([]:List (Addr × Obj)) from S) (by simp)⟩
 have fin:∀ (ys:List V) F H' s',Inv (X.comp N sc d.heap.objs.size d H3 fp) [] F H' s'->Q (.ref a) H'->compPost (model X.prog X.w) X.A X.xe use P (.ref a) d.heap.objs.size (.ok .next) s':=fun ys F H' s' j q'=>by
  have Jo:Inv X pins σ H' s':=l.call' (ch:=fp) j.os j.base j.hok j.bare fun b hb=>⟨(n b hb).2.2.2.1,(n b hb).2.1,(n b hb).2.2.2.2.1,(n b hb).2.2.2.2.2⟩
  obtain ⟨m,hn,_⟩:=j.loc
  refine hP _ H' s' m Jo q' hn j.free (Nat.ne_of_gt l.lt) (.inr l.sz) (fun x c e z=>?_) fun p S z=>?_
  ·obtain ⟨v,o,O,_⟩:=l.cell x c e
   exact absurd (aJ5 O) (by rw [z];exact aG5 _)
  ·exact absurd (aJ5 (l.pin p S).1) (by rw [z];exact aG5 _)
 have loop:codeAny (model X.prog X.w) X.A (.compLoop (.ListComp elt [⟨t1,i1,f1,0⟩,⟨t2,i2,f2,0⟩] sc pos) 0 (.ref it) (.ref a) (X.comp N sc d.heap.objs.size d H3 fp).env)
   (compPost (model X.prog X.w) X.A X.xe use P (.ref a) d.heap.objs.size) { d with heap:=Y,toks:=d.toks+([]:List (Str × Value)).length } :=
  aqm (X:=X.comp N sc d.heap.objs.size d H3 fp) T hc (fun _ _ z=>z) (hg _ _ _ _) (R _ _ _ _) (M _ _ _ _) (Z _ _ _ _) (E _ _ _ _) (he _ _ _ _) (I _ _ _ _) G fin H u f4 w0
 exact codeAny_compStart_list loop (T.self _ 0 _ _ _ u loop)
theorem ar3 (M:X.calm=true) (L:LcOk X N sc src) (hi:PI X t1 i1 wi) (P:∀ C c a ex,PG (X.comp N sc C c a ex) t1 g) (r:∀ C c a ex,PIf (X.comp N sc C c a ex) f1 tif) (z:∀ C c a ex,PI (X.comp N sc C c a ex) t2 i2 wi2) (y:∀ C c a ex,PG (X.comp N sc C c a ex) t2 g2) (d:∀ C c a ex,PIf (X.comp N sc C c a ex) f2 tif2) (S:∀ C c a ex,PE (X.comp N sc C c a ex) elt te)
  (hs:∀ x,foldedSetIterable i1 X.env x=pure x:=by intro _;rfl) (n:∀ C c a ex x,foldedSetIterable i2 (X.comp N sc C c a ex).env x=pure x:=by intros;rfl):PE X (.ListComp elt [⟨t1,i1,f1,0⟩,⟨t2,i2,f2,0⟩] sc pos) (tLC2 src wi g tif wi2 g2 tif2 te):=by
 intro pins s σ H Q I h
 rw [eval_ListComp]
 refine wpAny_comprehension_free rfl hs (L.clo I.ok) L.kind L.own (thn (hi pins s σ H _ I h) fun v s1 B=>thn B fun G s2 D=>?_)
 obtain ⟨it,fp,tn,J,H2,e,A,T,f,i,Y⟩:=D
 subst e
 have j:H2 s2.heap.objs.size=none:=A.hok.fresh (aA6 _)
 obtain ⟨W,⟨Z,R⟩,l⟩:=Y s2.heap.objs.size j
 have w:∀ b∈fp,b < s2.heap.objs.size:=fun b hb=>by
  obtain ⟨o,F,_⟩:=T.obj _ _ f b hb
  exact aJ5 F
 refine aK1 ?_
 refine atz (pins:=pins) M L P r z y d S n (H3:=upd H2 s2.heap.objs.size (.lst [])) ?_ T ?_ ?_ R l none _ ?_
 ·exact A.laid (t':=s2.toks) (fun b u e=>aJ4 _ e) (aA6 _) ⟨aG1 _,[],0,.nil,aJ6 _ rfl⟩
 ·exact T.keep _ _ _ f fun b _ o e=>aJ4 _ e
 ·exact fun b hb=>⟨by rw [aag (aB6 (w b hb))];exact (i b hb).1,(i b hb).2⟩
 ·intro C H' s' m J q hn U E K p O
  refine ⟨m,hn,fun h' sb=>⟨.ref s2.heap.objs.size,H',?_,rfl,q⟩⟩
  exact J.turned (t':=s'.toks) (fun b o hb e=>sb.extBut b o hb e) U E K p O
end
theorem af9 {env:Env} {x x0:Str}:∀ {names:List (Str × NameKind)},(∀ y∈names,y.2=.cell->y.1=x0) ->
  ((names.map fun (n,k)=>if (k == NameKind.free && env.scope.kind == .function && env.kindOf n == some .cell) then (n,NameKind.cell) else (n,k)).lookup x=some .cell ∨
   (names.map fun (n,k)=>if (k == NameKind.free && env.scope.kind == .function && env.kindOf n == some .cell) then (n,NameKind.cell) else (n,k)).lookup x=some .free)->x=x0\/names.lookup x=some .free
 | [],_,h=>by rcases h with h | h <;> simp at h
 | (n,k) :: r,hc,h=>by
  have a:=@af9 env x x0 r fun y c=>hc y (aB5 _ c)
  rw [aH0]
  simp only [aD1] at h
  by_cases hq:(k == NameKind.free && env.scope.kind == .function && env.kindOf n == some .cell)=true
  ·rw [aF6 hq] at h
   have b:k=NameKind.free:=by
    have:=hq;simp only [aH2] at this;simpa using this.1.1
   subst b
   cases hx:(x == n) with
   | true=>exact .inr rfl
   | false=>simp only [aH0,hx] at h;exact a h
  ·rw [aF7 hq] at h
   cases hx:(x == n) with
   | true =>
    simp only [aH0,hx] at h
    rcases h with h | h
    ·cases h
     exact .inl ((aG4.mp hx).trans (hc (n,NameKind.cell) aB8 rfl))
    ·exact .inr h
   | false=>simp only [aH0,hx] at h;exact a h
def Cx.compC (X:Cx) (N:List Str) (sc:Scope) (x0:Str) (C:Addr) (s0:Shared) (H0:Hp) (ex:List Addr):Cx where
 prog:=X.prog
 w:=X.w
 K:=X.K
 mg:=X.mg
 base:=X.base
 A:=X.A
 N:=N
 s₀:=s0
 H₀:=H0
 env:=compEnvC sc ((x0,C+1) :: clos X.env sc.names []) C X.env
 outer:=X.stack
 stack:=X.stack
 ex:=ex
 fn:=fun x=>x == x0
 calm:=X.calm
 pn:=[]
 xe:=fun _ _=>False
structure LcOkC (X:Cx) (N:List Str) (sc:Scope) (src:List (Option Nat)) (x0:Str):Prop where
 kind:sc.kind=.function
 cells:∀ a cl,cellsFrom a sc.names cl=(x0,a) :: cl
 push:∀ h,pushCells h sc.names=h.push { cls:=.type "cell",data:=.cell none }
 only:∀ y∈sc.names,y.2=.cell->y.1=x0
 own:∀ y∈sc.names,y.2=.local->sc.names.lookup y.1=some .local
 outs:∀ y∈sc.names,y.2=.free->X.env.kindOf y.1=some .cell\/X.env.kindOf y.1=some .free
 nof:∀ y∈sc.names,y.2=.free->y.1 ≠ x0
 len:src.length=N.length
 from':∀ (i j:Nat),src[i]?=some (some j)->∃ x,N[i]?=some x/\X.N[j]?=some x/\sc.names.lookup x=some .free
theorem LcOkC.clo {X:Cx} {N:List Str} {sc:Scope} {src:List (Option Nat)} {x0:Str} (L:LcOkC X N sc src x0) (ok:X.Ok):closureFor sc X.env=pure (clos X.env sc.names []) :=
 afc fun n hn=>ok.has n (L.outs (n,.free) hn rfl)
theorem ar4 {X:Cx} {pins:List (Addr × Obj)} {σ:St} {H:Hp} {s:Shared} {N:List Str} {sc:Scope} {src:List (Option Nat)} {x0:Str} {fp:List Addr} {A:Heap} {t':Nat}
  (L:LcOkC X N sc src x0) (I:Inv X pins σ H s) (hf:∀ b∈fp,FpOk X pins H b) (h:∀ b∈fp,b < s.heap.objs.size)
  (hn:A.Ns s.heap.objs.size fun _=>none) (D:∀ b o,s.heap.get? b=some o->A.get? b=some o) (J:A.IsCell (s.heap.objs.size+1) none) :
  Inv (X.compC N sc x0 s.heap.objs.size s H fp) [] (pick src σ) H { s with heap:=A,toks:=t' }:=by
 have d:∀ {x c},(clos X.env sc.names []).lookup x=some c->X.env.cells.lookup x=some c:=fun {x c} e=>by
  rcases aej e with z | z
  ·exact z
  ·simp at z
 have look:∀ {x c},(((x0,s.heap.objs.size+1) :: clos X.env sc.names []:List (Str × Addr))).lookup x=some c->(x=x0/\c=s.heap.objs.size+1)\/(X.env.cells.lookup x=some c/\(clos X.env sc.names []).lookup x=some c/\x ≠ x0):=fun {x c} e=>by
  rw [aH0] at e
  cases g:(x == x0) with
  | true=>rw [g] at e;cases e;exact .inl ⟨aG4.mp g,rfl⟩
  | false=>rw [g] at e;exact .inr ⟨d e,e,fun z=>by rw [z] at g;simp at g⟩
 have old:∀ {x c},X.env.cells.lookup x=some c->c < s.heap.objs.size:=fun {x c} e=>by
  obtain ⟨v,o,h,_⟩:=I.cell x c e
  exact aJ5 h
 have w:∀ {x c},x ≠ x0->(clos X.env sc.names []).lookup x=some c->(((x0,s.heap.objs.size+1) :: clos X.env sc.names []:List (Str × Addr))).lookup x=some c:=fun {x c} g e=>by
  rw [aH0,show (x == x0)=false by simpa using g];exact e
 refine ⟨⟨I.ok.mod,L.kind,I.ok.glob,I.ok.blt,aA6 _,fun x y c K f=>?_,fun x g=>?_,fun x c z e=>?_,I.ok.hd,I.ok.frames,.inl rfl,fun b hb=>⟨?_,fun x c e=>?_⟩,I.bs,aD0 I.ok.bsz I.sz,fun b o e hb=>?_,fun b hb z=>?_,I.stack,I.stkFree⟩,
  rfl,I.bare,Un.kept D,⟨_,hn,fun i x v K f e3=>?_⟩,fun x c e=>?_,I.hok.fresh (aA6 _),fun x c e=>?_,fun p U=>?_,I.hok.kept D,?_⟩
 ·rcases look K with ⟨a1,b1⟩ | ⟨a1,_,_⟩ <;> rcases look f with ⟨C,W⟩ | ⟨C,_,_⟩
  ·rw [a1,C]
  ·exact absurd (old C) (by rw [b1];exact Nat.not_lt.mpr (Nat.le_succ _))
  ·exact absurd (old a1) (by rw [W];exact Nat.not_lt.mpr (Nat.le_succ _))
  ·exact I.ok.inj x y c a1 C
 ·rcases af9 (env:=X.env) (x:=x) L.only g with q | q
  ·exact ⟨s.heap.objs.size+1,by rw [q];show List.lookup x0 ((x0,_) :: _)=_;rw [aH0];simp⟩
  ·obtain ⟨c,e⟩:=adk (I.ok.has x (L.outs (x,.free) (PySem.mem_of_lookup q) rfl)) (PySem.mem_of_lookup q) (cs:=[])
   exact ⟨c,w (L.nof (x,.free) (PySem.mem_of_lookup q) rfl) e⟩
 ·rcases look e with ⟨_,b⟩ | ⟨_,_,E⟩
  ·rw [b];exact Nat.le_succ _
  ·exact absurd (aG4.mp z) E
 ·exact aB6 (h b hb)
 ·rcases look e with ⟨_,Y⟩ | ⟨a,_,_⟩
  ·rw [Y];exact Nat.ne_of_gt (aF9 (h b hb))
  ·exact (hf b hb).2.2.2.2.1 x c a
 ·rcases (hf b hb).2.2.2.1 with z | z
  ·exact I.ok.noex b o e z
  ·exact absurd (aC5 (aJ5 e) (aD0 I.ok.bsz z)) (aG5 _)
 ·rcases aA9.mp (I.stkSub b z) with q | q
  ·exact (hf b hb).2.1 q
  ·exact (hf b hb).2.2.1 q
 ·unfold pick at f
  rw [aA5] at f
  cases q:src[i]? with
  | none=>rw [q] at f;cases f
  | some o =>
   rw [q] at f
   cases o with
   | none=>cases f
   | some j =>
    obtain ⟨y,Q,R,B⟩:=L.from' i j q
    have G:N[i]?=some x:=K
    rw [G] at Q
    cases Q
    have T : σ[j]?=some (some v):=by
     cases q2 : σ[j]? with
     | none=>simp [q2] at f
     | some z=>simp [q2] at f;rw [f]
    have h:=L.outs (x,.free) (PySem.mem_of_lookup B) rfl
    have F:Vis X.env.scope x:=by
     rcases h with z | z
     ·exact .inr (.inl z)
     ·exact .inr (.inr z)
    obtain ⟨m,_,S⟩:=I.loc
    obtain ⟨u,r,l⟩:=S j x v R T F
    refine ⟨u,r,.inr ⟨?_,?_⟩⟩
    ·exact adt (env:=X.env) B
    ·rcases l with ⟨z,_⟩ | ⟨_,c,O,oc,n,hd⟩
     ·rcases h with P | P <;> (rw [P] at z;cases z)
     ·obtain ⟨Z,M⟩:=adk (env:=X.env) ⟨c,O⟩ (PySem.mem_of_lookup B) (cs:=[])
      have:=d M
      rw [O] at this;cases this
      exact ⟨c,w (L.nof (x,.free) (PySem.mem_of_lookup B) rfl) M,oc,D c oc n,hd⟩
 ·rcases look e with ⟨_,b⟩ | ⟨a,_,_⟩
  ·rw [b];exact ⟨none,J⟩
  ·obtain ⟨v,oc,n,hd⟩:=I.cell x c a
   exact ⟨v,oc,D c oc n,hd⟩
 ·rcases look e with ⟨_,b⟩ | ⟨a,_,_⟩
  ·rw [b];exact I.hok.fresh (Nat.le_succ _)
  ·exact I.freeC x c a
 ·exact absurd (show p∈([]:List (Addr × Obj)) from U) (by simp)
 ·show (pick src σ).length=N.length
  unfold pick
  rw [aA3]
  exact L.len
theorem ajo {sc:Scope} {x0:Str} {g:Addr} {cl:List (Str × Addr)} {qual:Str} {outer:Env} {M:Model} {A:Around} {E:Value->Shared->Prop} {s:Shared} {Q:Env->Shared->Prop}
  (c:∀ a cl,cellsFrom a sc.names cl=(x0,a) :: cl) (d:∀ h,pushCells h sc.names=h.push { cls:=.type "cell",data:=.cell none })
  (h:∀ h',h'.Ns s.heap.objs.size (fun _=>none)->(∀ b o,s.heap.get? b=some o->h'.get? b=some o)->h'.IsCell (s.heap.objs.size+1) none ->
   Q { scope:=sc,locals:=s.heap.objs.size,globals:=g,cells:=(x0,s.heap.objs.size+1) :: cl,qual:=qual,func:=none,code:=outer.code,frame:=outer.frame,builtins:=outer.builtins } { s with heap:=h' }) :
  wpAny M A (newFunctionEnv sc g cl [] qual none .none (some outer)) Q E s:=by
 simp only [newFunctionEnv,Option.isSome_some,if_true]
 refine aJ2 (wpAny_alloc ?_)
 refine aJ2 (wpAny_layCells _ (fun name kind cells=>by cases hkc:kind == NameKind.cell <;> simp [hkc]) _ _ _ _ ?_)
 rw [c,d]
 rw [show ({ s with heap:=s.heap.push { cls:=.type "dict",data:=.dict #[] } }:Shared).heap.objs.size=s.heap.objs.size+1 from aK3 ..]
 simp only [List.forIn_nil,pure_bind]
 refine aJ3 ?_
 have hsz:(s.heap.push { cls:=.type "dict",data:=.dict #[] }).objs.size=s.heap.objs.size+1:=aK3 ..
 refine h _ ((Heap.Ns.new s.heap (.type "dict")).keeps fun b o e=>aJ4 _ e) (fun b o e=>aJ4 _ (aJ4 _ e)) ?_
 rw [← hsz]
 exact ⟨_,aJ6 _ rfl,rfl⟩
section
variable {X:Cx} {N:List Str} {tg iter elt:Expr} {ifs:List Expr} {sc:Scope} {src:List (Option Nat)} {x0:Str} {wi:TI} {g:TG} {tif:TT} {te:TE} {pos:Pos}
theorem at3 (U:X.calm=true) (L:LcOkC X N sc src x0) (Y:∀ C u s ex,PG (X.compC N sc x0 C u s ex) tg g) (H:∀ C u s ex,PIf (X.compC N sc x0 C u s ex) ifs tif) (he:∀ C u s ex,PE (X.compC N sc x0 C u s ex) elt te)
  {pins:List (Addr × Obj)} {d:Shared} {σ:St} {H3:Hp} {Q:VK} (j:Inv X pins σ H3 d) {it a:Addr} {fp:List Addr} {J:It} {tn:Nat->Heap->Prop} (T:Turn X.prog X.w X.K tg J fp it tn) (q:tn 0 d.heap) (h:∀ b∈fp,FpOk X pins H3 b)
  {W:LW} {S:Nat} (w0:W 0 S [] (pick src σ) H3) (D:aiq J g tif te a (fun _ H'=>Q (.ref a) H') W) (use:Option (Value->Sem Unit)) (P:Value->Shared->Prop)
  (Z:∀ C H' s' m,Inv X pins σ H' s'->Q (.ref a) H'->s'.heap.Ns C m->H' C=none->C ≠ X.env.locals->(C∈X.ex\/X.s₀.heap.objs.size<=C)->(∀ x c,X.env.cells.lookup x=some c->c ≠ C)->(∀ p∈X.pn ++ pins,p.1 ≠ C) ->
   compPost (model X.prog X.w) X.A X.xe use P (.ref a) C (.ok .next) s') :
  wpAny (model X.prog X.w) X.A (newFunctionEnv sc X.env.globals (clos X.env sc.names []) [] X.env.qual none .none (some X.env)) (fun f n =>
    codeAny (model X.prog X.w) X.A (.compStart (.ListComp elt [⟨tg,iter,ifs,0⟩] sc pos) 0 (.ref it) (.ref a) { f with scope:=relabel sc X.env }) (compPost (model X.prog X.w) X.A X.xe use P (.ref a) f.locals) n) X.xe d:=by
 refine ajo L.cells L.push fun O E B r=>?_
 have M:∀ b∈fp,b < d.heap.objs.size:=fun b hb=>by
  obtain ⟨o,G,_⟩:=T.obj _ _ q b hb
  exact aJ5 G
 have F:=ar4 (t':=d.toks) L j h M E B r
 have l:tn 0 O:=T.keep _ _ _ q fun b _ o e=>B b o e
 have R:∀ b∈fp,FpOk (X.compC N sc x0 d.heap.objs.size d H3 fp) [] H3 b:=fun b hb =>
  ⟨(h b hb).1,(F.ok.exf b hb).1,F.ok.exfs b hb,.inl hb,(F.ok.exf b hb).2,fun p I=>absurd (show p∈([]:List (Addr × Obj)) from I) (by simp)⟩
 have fin:∀ (ys:List V) y H' s',Inv (X.compC N sc x0 d.heap.objs.size d H3 fp) [] y H' s'->Q (.ref a) H'->compPost (model X.prog X.w) X.A X.xe use P (.ref a) d.heap.objs.size (.ok .next) s':=fun ys y H' s' i q'=>by
  have Jo:Inv X pins σ H' s':=j.call' (ch:=fp) i.os i.base i.hok i.bare fun b hb=>⟨(h b hb).2.2.2.1,(h b hb).2.1,(h b hb).2.2.2.2.1,(h b hb).2.2.2.2.2⟩
  obtain ⟨m,hn,_⟩:=i.loc
  refine Z _ H' s' m Jo q' hn i.free (Nat.ne_of_gt j.lt) (.inr j.sz) (fun x c e z=>?_) fun p I z=>?_
  ·obtain ⟨v,o,G,_⟩:=j.cell x c e
   exact absurd (aJ5 G) (by rw [z];exact aG5 _)
  ·exact absurd (aJ5 (j.pin p I).1) (by rw [z];exact aG5 _)
 have loop:codeAny (model X.prog X.w) X.A (.compLoop (.ListComp elt [⟨tg,iter,ifs,0⟩] sc pos) 0 (.ref it) (.ref a) (X.compC N sc x0 d.heap.objs.size d H3 fp).env)
   (compPost (model X.prog X.w) X.A X.xe use P (.ref a) d.heap.objs.size) { d with heap:=O } :=
  ako (X:=X.compC N sc x0 d.heap.objs.size d H3 fp) T U (fun _ _ z=>z) (Y _ _ _ _) (H _ _ _ _) (he _ _ _ _) D fin F l R w0
 exact codeAny_compStart_list loop (T.self _ 0 _ _ _ l loop)
end
theorem at4 {X:Cx} {N:List Str} {sc:Scope} {src:List (Option Nat)} {x0:Str} (c:sc.kind=.function) (g:∀ a cl,cellsFrom a sc.names cl=(x0,a) :: cl) (l:∀ h,pushCells h sc.names=h.push { cls:=.type "cell",data:=.cell none })
  (d:sc.names.all (fun y=>y.2 != .cell || y.1 == x0)=true) (p:sc.names.all (fun y=>y.2 != .local || sc.names.lookup y.1 == some .local)=true)
  (n:sc.names.all (fun y=>y.2 != .free || X.env.kindOf y.1 == some .cell || X.env.kindOf y.1 == some .free)=true) (o:sc.names.all (fun y=>y.2 != .free || y.1 != x0)=true) (m:src.length=N.length)
  (f:(List.range src.length).all (fun i=>match src[i]? with | some (some j)=>(match N[i]?,X.N[j]? with | some x,some y=>x == y && sc.names.lookup x == some .free | _,_=>false) | _=>true)=true):LcOkC X N sc src x0:=by
 refine ⟨c,g,l,fun y b e=>?_,fun y b e=>?_,fun y b e=>?_,fun y b e=>?_,m,fun i j e=>?_⟩
 ·have:=aF5.mp d y b
  rw [e] at this
  simpa using this
 ·have:=aF5.mp p y b
  rw [e] at this
  simpa using this
 ·have:=aF5.mp n y b
  rw [e] at this
  simpa using this
 ·have:=aF5.mp o y b
  rw [e] at this
  simpa using this
 ·have hi:i < src.length:=(aA1.mp e).1
  have:=aF5.mp f i (aB9.mpr hi)
  simp only [e] at this
  cases hN:N[i]? with
  | none=>rw [hN] at this;simp at this
  | some x =>
   cases hX:X.N[j]? with
   | none=>rw [hN,hX] at this;simp at this
   | some y =>
    rw [hN,hX] at this
    simp only [aH2,aG4] at this
    exact ⟨x,rfl,by rw [this.1],this.2⟩
section
variable {X:Cx} {N:List Str} {t1 i1 t2 i2 elt:Expr} {f1 f2:List Expr} {sc:Scope} {src:List (Option Nat)} {wi wi2:TI} {g g2:TG} {tif tif2:TT} {te:TE} {pos spos px:Pos}
end
def rLen (K:Frag):List V->Hp->VK->Prop:=fun xs H Q=>∃ p ys,xs=[.ref p]/\(SqL K H p ys\/SqT K H p ys)/\Q (.int ys.length) H
theorem aa9 {X:Cx}:aa5 X (.builtin "len") (rLen X.K):=aml
def al0:List V->Hp->VK->Prop:=fun xs H Q=>∃ i j,xs=[.int i,.int j]/\Q (.int (if j > i then j else i)) H
def al1:List V->Hp->VK->Prop:=fun xs H Q=>∃ i j,xs=[.int i,.int j]/\Q (.int (if j < i then j else i)) H
theorem afs {X:Cx} (a:X.calm=true):aa5 X (.builtin "max") al0:=arp a
theorem ada {X:Cx} (a:X.calm=true):aa5 X (.builtin "min") al1:=arq a
def al2:List V->Hp->VK->Prop:=fun xs H Q=>(∃ i,xs=[.int i]/\Q (.int i) H)\/∃ k,xs=[.bl k]/\Q (.int (if k then 1 else 0)) H
theorem aqn {X:Cx}:aa5 X (.type "int") al2:=ars
section
variable {σ:St} {H:Hp} {D:Ends} {K:Frag}
theorem ajp {i:Nat} {v:V} {Q:St->Hp->Prop} (h:Q (σ.set i (some v)) H):aa1 i v σ H Q:=h
theorem ar5 {i:Nat} {v:V} {Q:VK} (a : σ[i]?=some (some v)) (h:Q v H):tVar i σ H Q:=⟨v,a,h⟩
theorem go_c {v:V} {Q:VK} (h:Q v H):tC v σ H Q:=h
theorem ajq {a:TE} {tr:TA} {Q:List V->Hp->Prop} (h:a σ H fun x b=>tr σ b fun xs H2=>Q (x :: xs) H2):aa6 a tr σ H Q:=h
theorem air {Q:List V->Hp->Prop} (h:Q [] H):tNil σ H Q:=h
theorem azq {t:TA} {Q:VK} (h:t σ H fun xs a=>xs.length<=sizeLine/\∀ p,a p=none->Q (.ref p) (upd a p (.tup xs))):tTup t σ H Q:=h
theorem azr {t:TA} {Q:VK} (h:t σ H fun xs a=>xs.length<=sizeLine/\∀ p,a p=none->Q (.ref p) (upd a p (.lst xs))):tLst t σ H Q:=h
theorem ar6 {i j:Int} {Q:VK} (h:Q (.bl (decide (i=j))) H):rEq (.int i) (.int j) H Q:=by
 have e:decide (V.int i=V.int j)=decide (i=j):=by rw [ag5];exact Bool.beq_eq_decide_eq i j
 exact ⟨rfl,by rw [e];exact h⟩
theorem azs {i j:Int} {Q:VK} (h:Q (.bl (!decide (i=j))) H):rNe (.int i) (.int j) H Q:=by
 have e:decide (V.int i=V.int j)=decide (i=j):=by rw [ag5];exact Bool.beq_eq_decide_eq i j
 exact ⟨rfl,by rw [e];exact h⟩
theorem azt {a:Addr} {xs:List V} {i:Int} {v:V} {Q:VK} (ha:H a=some (.lst xs)) (b:atI xs i=some v) (h:Q v H):rIxL K (.ref a) (.int i) H Q:=⟨a,xs,i,v,rfl,rfl,SqL.of ha,b,h⟩
theorem azu {a:Addr} {xs:List V} {i:Int} {v:V} {Q:VK} (ha:H a=some (.tup xs)) (b:atI xs i=some v) (h:Q v H):rIxT K (.ref a) (.int i) H Q:=⟨a,xs,i,v,rfl,rfl,SqT.of ha,b,h⟩
theorem ao6 {a:Addr} {xs:List V} {k:Int} {j:Nat} {v:V} {Q:Hp->Prop} (ha:H a=some (.lst xs)) (b:ixN xs.length k=some j) (h:Q (upd H a (.lst (xs.set j v)))):aqh (.ref a) (.int k) v H Q:=⟨a,xs,k,j,rfl,rfl,ha,b,h⟩
theorem agj {a:Addr} {xs:List V} {y:V} {Q:VK} (ha:H a=some (.lst xs)) (b:xs.length < sizeLine) (h:Q .non (upd H a (.lst (xs ++ [y])))):afm (.ref a) [y] H Q:=⟨a,xs,y,rfl,rfl,ha,b,h⟩
theorem ar7 {a b:Addr} {xs c:List V} {Q:VK} (ha:H a=some (.lst xs)) (hb:H b=some (.lst c)) (d:xs.length+c.length<=sizeLine) (h:Q .non (upd H a (.lst (xs ++ c)))):ajl (.ref a) [.ref b] H Q:=⟨a,b,xs,c,rfl,rfl,ha,hb,d,h⟩
theorem azv {a b:Addr} {xs c:List V} {Q:VK} (ha:H a=some (.lst xs)) (hb:H b=some (.lst c)) (d:xs.length+c.length<=sizeLine) (h:∀ p,H p=none->Q (.ref p) (upd H p (.lst (xs ++ c)))):rCat (.ref a) (.ref b) H Q:=⟨a,b,xs,c,rfl,rfl,ha,hb,d,h⟩
theorem ao7 {a:Addr} {xs:List V} {Q:VK} (ha:H a=some (.lst xs)) (h:Q (.int xs.length) H):rLen K [.ref a] H Q:=⟨a,xs,rfl,.inl (SqL.of ha),h⟩
theorem aw1 {a:Addr} {xs:List V} {Q:VK} (ha:H a=some (.tup xs)) (h:Q (.int xs.length) H):rLen K [.ref a] H Q:=⟨a,xs,rfl,.inr (SqT.of ha),h⟩
theorem ao8 {i j:Int} {Q:VK} (h:Q (.int (if j > i then j else i)) H):al0 [.int i,.int j] H Q:=⟨i,j,rfl,h⟩
theorem ao9 {i j:Int} {Q:VK} (h:Q (.int (if j < i then j else i)) H):al1 [.int i,.int j] H Q:=⟨i,j,rfl,h⟩
theorem apa {k:Bool} {Q:VK} (h:Q (.int (if k then 1 else 0)) H):al2 [.bl k] H Q:=.inr ⟨k,rfl,h⟩
theorem ajr {c:Prop} [Decidable c] {A B:Prop} (a:c) (h:A):if decide c=true then A else B:=by rw [aD7 a];exact iteT h
theorem ajs {c:Prop} [Decidable c] {A B:Prop} (a:¬ c) (h:B):if decide c=true then A else B:=by rw [aD6 a];exact iteF h
theorem adg {c:Prop} [Decidable c] {A B:Prop} (a:c->A) (b:¬ c->B):if decide c=true then A else B:=by
 by_cases hc:c
 ·exact ajr hc (a hc)
 ·exact ajs hc (b hc)
theorem aw2 {c:Prop} [Decidable c] {A B:Prop} (a:¬ c->A) (b:c->B):if (!decide c)=true then A else B:=by
 by_cases hc:c
 ·rw [aD7 hc];exact iteF (b hc)
 ·rw [aD6 hc];exact iteT (a hc)
theorem ixN1 {n:Nat}:ixN (n+2) 1=some 1:=by unfold ixN;rw [aF6 (by decide),aF6 (by omega)];rfl
end
structure CallOk (P:Program) (w:World) (K:Frag) (mg:Str->Option Value) (base:Heap) (x:Str) (k:Nat) (ps:List Str) (sp:Sp) (f:Addr) (fd:FuncData):Prop where
 ok:FnOk P w K mg base CX0 k f fd ps sp
 mgx:mg x=some (.ref f)
 kp:keepIn K (.ref f)=true
 bd:Binds K fd ps []
def Can (P:Program) (w:World) (K:Frag) (mg:Str->Option Value) (base:Heap) (x:Str) (k:Nat) (ps:List Str) (sp:Sp):Prop:=∃ f fd,CallOk P w K mg base x k ps sp f fd
structure DefAt (K:Frag) (mg:Str->Option Value) (x:Str) (st:Stmt) (ps:List Str) (f:Addr) (fd:FuncData):Prop where
 fn:Fun K x x st f fd
 mgx:mg x=some (.ref f)
 bd:Binds K fd ps []
theorem DefAt.can {P:Program} {w:World} {K:Frag} {mg:Str->Option Value} {base:Heap} {x:Str} {st:Stmt} {k:Nat} {ps:List Str} {sp:Sp} {f:Addr} {fd:FuncData} (D:DefAt K mg x st ps f fd) (ok:FnOk P w K mg base CX0 k f fd ps sp):Can P w K mg base x k ps sp :=
 ⟨f,fd,ok,D.mgx,D.fn.kp,D.bd⟩
section
variable {X:Cx} {k j:Nat} {ps:List Str} {sp:Sp} {x:Str} {p pos:Pos} {e:Expr} {es:List Expr} {t:TA}
theorem aae (F:Can X.prog X.w X.K X.mg X.base x k ps sp) (g:Room j X.A) (ha:PA X (e :: es) t) (c:k<=j:=by decide) (d:Gl X x:=by rfl) (a:(x == ("__debug__" : Str))=false:=by decide)
  (h:starEach (e :: es) X.env=(false,eval e X.env) :: starEach es X.env:=by rfl) (b:(backTo pos (starEach es X.env)).any (·.1)=false:=by rfl) :
  PE X (.Call (.Name x p) (e :: es) [] pos) (acf sp [] E0 t):=by
 obtain ⟨f,fd,C⟩:=F
 exact awx C.ok (g.mono c) d C.mgx C.kp C.bd .nil a1q ha a h b
end
theorem aa8 {X:Cx} {N:List Str} {sc:Scope} {src:List (Option Nat)} (b:sc.kind=.function) (c:sc.names.all (fun y=>y.2 != .cell)=true) (h:sc.names.all (fun y=>y.2 != .local || sc.names.lookup y.1 == some .local)=true)
  (f:sc.names.all (fun y=>y.2 != .free || X.env.kindOf y.1 == some .cell || X.env.kindOf y.1 == some .free)=true) (d:src.length=N.length)
  (l:(List.range src.length).all (fun i=>match src[i]? with | some (some j)=>(match N[i]?,X.N[j]? with | some x,some y=>x == y && sc.names.lookup x == some .free | _,_=>false) | _=>true)=true):LcOk X N sc src:=by
 refine ⟨b,fun y a e=>?_,fun y a e=>?_,fun y a e=>?_,d,fun i j e=>?_⟩
 ·have:=aF5.mp c y a
  rw [e] at this
  exact absurd this (by decide)
 ·have:=aF5.mp h y a
  rw [e] at this
  simpa using this
 ·have:=aF5.mp f y a
  rw [e] at this
  simpa using this
 ·have hi:i < src.length:=(aA1.mp e).1
  have:=aF5.mp l i (aB9.mpr hi)
  rw [e] at this
  dsimp only at this
  cases h7:N[i]? with
  | none=>rw [h7] at this;cases this
  | some x =>
   cases h8:X.N[j]? with
   | none=>rw [h7,h8] at this;cases this
   | some y =>
    rw [h7,h8] at this
    simp only [aH2] at this
    have g:x=y:=by simpa using this.1
    subst g
    exact ⟨x,rfl,rfl,by simpa using this.2⟩
section
variable {σ:St} {H:Hp} {D:Ends} {K:Frag}
theorem amr {Q:Bool->Hp->Prop} (h:Q true H):tYes σ H Q:=h
theorem at5 {a:Addr} {xs:List V} {i:Int} {k:Nat} {y:V} {Q:VK} (ha:H a=some (.lst xs)) (c : -(2 ^ 63)<=i) (d:i < 2 ^ 63) (f:seqIndex? i xs.length=some k) (b:xs[k]?=some y) (h:Q y (upd H a (.lst (xs.eraseIdx k)))):ain (.ref a) [.int i] H Q :=
 ⟨a,xs,i,k,y,rfl,rfl,ha,c,d,f,b,h⟩
end
end L2
namespace L2
open PySem
theorem abw:bootBuiltins "len" = some (.builtin "len"):=by decide +kernel
theorem acj:bootBuiltins "max" = some (.builtin "max"):=by decide +kernel
theorem aek:bootBuiltins "min" = some (.builtin "min"):=by decide +kernel
theorem agk:bootBuiltins "sorted" = some (.builtin "sorted"):=by decide +kernel
theorem acr:bootBuiltins "isinstance" = some (.builtin "isinstance"):=by decide +kernel
theorem agl:bootBuiltins "all" = some (.builtin "all"):=by decide +kernel
theorem azw:bootBuiltins "any" = some (.builtin "any"):=by decide +kernel
theorem ar8:bootBuiltins "int" = some (.type "int"):=by decide +kernel
theorem ajt:bootBuiltins "list" = some (.type "list"):=by decide +kernel
theorem aw3:bootBuiltins "dict" = some (.type "dict"):=by decide +kernel
theorem azx:bootBuiltins "set" = some (.type "set"):=by decide +kernel
theorem at6:bootBuiltins "tuple" = some (.type "tuple"):=by decide +kernel
theorem ams:bootBuiltins "enumerate" = some (.type "enumerate"):=by decide +kernel
theorem aw4:bootBuiltins "bool" = some (.type "bool"):=by decide +kernel
theorem azy:bootBuiltins "zip" = some (.type "zip"):=by decide +kernel
end L2
namespace TS
open PySem PyProof.Rows
def aju:Bool->Keyed->Array Keyed->Nat->Nat->Nat->StateT SortSt Sem (Option Nat):=sortPriv% PySem.Builtin.gallop
def at7:Array Keyed->Array Keyed->StateT SortSt Sem (Array Keyed):=sortPriv% PySem.Builtin.mergeLo
def at8:Array Keyed->Array Keyed->StateT SortSt Sem (Array Keyed):=sortPriv% PySem.Builtin.mergeHi
def amt:Nat->StateT SortSt Sem Bool:=sortPriv% PySem.Builtin.mergeAt
def aw5:Nat->Nat->StateT SortSt Sem (Option Nat):=sortPriv% PySem.Builtin.countRun
def at9:Nat->Nat->Nat->StateT SortSt Sem Bool:=sortPriv% PySem.Builtin.binarySort
def a1r:StateT SortSt Sem Unit:=sortPriv% PySem.Builtin.sortRuns
structure Cmp (M:Model) (A:Around) (E:Value->Shared->Prop) (s:Shared) (κ:SortKind) (S:Keyed->Prop) (R:Keyed->Keyed->Bool):Prop where
 ask:∀ x y,S x->S y->∀ (Q:Option Bool->SortSt->Prop) (st:SortSt),kindOf st = κ->Q (some (R x y)) st->wpS M A E s (lt' x y) Q st
 asy:∀ x y,S x->S y->R x y=true->R y x=false
 tr:∀ x y z,S x->S y->S z->R y x=false->R z y=false->R z x=false
section
variable {M:Model} {A:Around} {E:Value->Shared->Prop} {s:Shared} {κ:SortKind} {S:Keyed->Prop} {R:Keyed->Keyed->Bool}
theorem aay {arr:Array Keyed} {i:Nat} {x:Keyed} {Q:Keyed->SortSt->Prop} {st:SortSt} (a:arr[i]?=some x) (h:Q x st):wpS M A E s (elem' arr i) Q st:=by
 rw [elem'_eq,a]
 exact wpS_pure h
theorem ad6 {x:String} {Q:Unit->SortSt->Prop} {st:SortSt} (h:Q () st):wpS M A E s (liftM (PySem.rule x):StateT SortSt Sem Unit) Q st :=
 wpS_lift (wpAny_rule ⟨rfl,h⟩)
def bey (left:Bool) (key:Keyed) (arr:Array Keyed) (base i:Nat):StateT SortSt Sem (Option Bool):=do
 let x ← elem' arr (base+i)
 if left=true then lt' x key else do
  let r ← lt' key x
  pure (Option.map (fun b => !b) r)
theorem akp {left:Bool} {p:Keyed} {arr:Array Keyed} {base n a:Nat} {B:Nat->Bool}
  (hb:∀ i,i < n->∀ (Q:Option Bool->SortSt->Prop) (st:SortSt),kindOf st = κ->Q (some (B i)) st->wpS M A E s (bey left p arr base i) Q st)
  (mono:∀ i j,i < j->j < n->B j=true->B i=true) (hh:a < n) {Q:Option Nat->SortSt->Prop} {st:SortSt} (x:kindOf st = κ)
  (h:∀ k,k<=n->(∀ i,i < k->B i=true)->(∀ i,k<=i->i < n->B i=false)->Q (some k) st):wpS M A E s (aju left p arr base n a) Q st:=by
 have c:∀ i j,i < j->j < n->B i=false->B j=false:=fun i j y G hi=>by
  cases e:B j with
  | false=>rfl
  | true=>rw [mono i j y G e] at hi;cases hi
 -- the last loop
 have last:∀ (lo hi:Nat) (F:Option (Option Nat) × Nat × Nat->StateT SortSt Sem (Option Nat)),lo<=hi->hi<=n->(∀ i,i < lo->B i=true)->(∀ i,hi<=i->i < n->B i=false) ->
   (∀ lo hi,F (none,lo,hi)=pure (some hi)) ->
   wpS M A E s (forIn [:n] ((none,lo,hi):Option (Option Nat) × Nat × Nat) (fun (_:Nat) z=>if z.2.1 ≥ z.2.2 then pure (ForInStep.done (none,z.2.1,z.2.2)) else bey left p arr base (z.2.1+(z.2.2 - z.2.1) / 2) >>= fun r=>match r with
    | some more=>if more=true then pure (ForInStep.yield (none,z.2.1+(z.2.2 - z.2.1) / 2+1,z.2.2)) else pure (ForInStep.yield (none,z.2.1,z.2.1+(z.2.2 - z.2.1) / 2))
    | _=>pure (ForInStep.done (some none,z.2.1,z.2.2))) >>= F) Q st:=by
  intro lo hi F H I L K C
  refine wpS_bind (wpS_forRange (fun t z st'=>st'=st/\z.1=none/\z.2.1<=z.2.2/\z.2.2<=n/\z.2.2 - z.2.1+t<=n/\(∀ i,i < z.2.1->B i=true)/\(∀ i,z.2.2<=i->i < n->B i=false)) ?_ ?_ ⟨rfl,rfl,H,I,by dsimp only;omega,L,K⟩)
  ·rintro t ⟨o,l,u⟩ st' _ D ⟨rfl,e,q,d,b,g,w⟩
   dsimp only at e q d b g w ⊢
   subst e
   by_cases hlu:l ≥ u
   ·rw [aF6 hlu]
    have:l=u:=by omega
    subst this
    exact wpS_pure (by dsimp only;rw [C];exact wpS_pure (h l d g w))
   ·rw [aF7 hlu]
    have hm:l+(u - l) / 2 < u:=by omega
    refine wpS_bind (hb _ (by omega) _ _ x ?_)
    dsimp only
    cases e:B (l+(u - l) / 2) with
    | true =>
     rw [aF6 rfl]
     refine wpS_pure ⟨rfl,rfl,by dsimp only;omega,d,by dsimp only;omega,fun i hi=>?_,w⟩
     dsimp only at hi
     by_cases hi2:i=l+(u - l) / 2
     ·rw [hi2];exact e
     ·exact mono i _ (by omega) (by omega) e
    | false =>
     rw [aF7 (by simp)]
     refine wpS_pure ⟨rfl,rfl,by dsimp only;omega,by dsimp only;omega,by dsimp only;omega,g,fun i hi hn=>?_⟩
     dsimp only at hi
     by_cases hi2:i=l+(u - l) / 2
     ·rw [hi2];exact e
     ·exact c _ i (by omega) hn e
  ·rintro ⟨o,l,u⟩ st' ⟨rfl,e,q,d,b,g,w⟩
   dsimp only at e q d b g w ⊢
   subst e
   have : l = u := by have:n ≤ max 0 n := by omega
                      omega
   subst this
   rw [C]
   exact wpS_pure (h l d g w)
 refine wpS_bind (f:=fun J=>_) (m:=bey left p arr base a) (hb a hh _ st x ?_)
 dsimp only
 cases e0:B a with
 | true =>
  rw [aF6 rfl]
  refine wpS_bind ?_
  refine wpS_forRange (fun t (z:Option (Option Nat) × Nat × Nat) st'=>st'=st/\z.1=none/\z.2.1 < z.2.2/\a+z.2.1 < n/\B (a+z.2.1)=true/\t+1<=z.2.2) ?_ ?_ ⟨rfl,rfl,by decide,by dsimp only;omega,e0,Nat.le_refl _⟩
  ·rintro t ⟨o,l,u⟩ st' _ D ⟨rfl,e,q,d,b,g⟩
   dsimp only at e q d b g ⊢
   subst e
   by_cases hu:u ≥ n - a
   ·rw [aF6 hu]
    refine wpS_pure ?_
    dsimp only
    refine last _ _ _ (by omega) (by omega) (fun i hi=>?_) (fun i hi hn=>by omega) (fun _ _=>rfl)
    by_cases hi2:i=a+l
    ·rw [hi2];exact b
    ·exact mono i _ (by omega) d b
   ·rw [aF7 hu]
    refine wpS_bind (m:=bey left p arr base (a+u)) (hb _ (by omega) _ _ x ?_)
    dsimp only
    cases e1:B (a+u) with
    | true =>
     rw [aF7 (by decide)]
     exact wpS_pure ⟨rfl,rfl,by dsimp only;omega,by dsimp only;omega,e1,by dsimp only;omega⟩
    | false =>
     rw [aF6 (by decide)]
     refine wpS_pure ?_
     dsimp only
     refine last _ _ _ (by omega) (by omega) (fun i hi=>?_) (fun i hi hn=>?_) (fun _ _=>rfl)
     ·by_cases hi2:i=a+l
      ·rw [hi2];exact b
      ·exact mono i _ (by omega) d b
     ·by_cases hi2:i=a+u
      ·rw [hi2];exact e1
      ·exact c _ i (by omega) hn e1
  ·rintro ⟨o,l,u⟩ st' ⟨rfl,e,q,d,b,g⟩
   dsimp only at e q d b g ⊢
   subst e
   dsimp only
   refine last _ _ _ (by omega) (by omega) (fun i hi=>?_) (fun i hi hn=>by omega) (fun _ _=>rfl)
   by_cases hi2:i=a+l
   ·rw [hi2];exact b
   ·exact mono i _ (by omega) d b
 | false =>
  rw [aF7 (by decide)]
  refine wpS_bind ?_
  refine wpS_forRange (fun t (z:Option (Option Nat) × Nat × Nat) st'=>st'=st/\z.1=none/\z.2.1 < z.2.2/\z.2.1<=a/\B (a - z.2.1)=false/\t+1<=z.2.2) ?_ ?_ ⟨rfl,rfl,by decide,aG1 _,e0,aA6 _⟩
  ·rintro t ⟨o,l,u⟩ st' _ D ⟨rfl,e,q,d,b,g⟩
   dsimp only at e q d b g ⊢
   subst e
   have v:∀ i,a - l<=i->i < n->B i=false:=fun i hi hn=>by
    by_cases hi2:i=a - l
    ·rw [hi2];exact b
    ·exact c _ i (by omega) hn b
   by_cases hu:u ≥ a+1
   ·rw [aF6 hu]
    refine wpS_pure ?_
    dsimp only
    exact last _ _ _ (by omega) (by omega) (fun i hi=>by omega) v (fun _ _=>rfl)
   ·rw [aF7 hu]
    refine wpS_bind (m:=bey left p arr base (a - u)) (hb _ (by omega) _ _ x ?_)
    dsimp only
    cases e1:B (a - u) with
    | true =>
     rw [aF6 rfl]
     refine wpS_pure ?_
     dsimp only
     refine last _ _ _ (by omega) (by omega) (fun i hi=>?_) v (fun _ _=>rfl)
     by_cases hi2:i=a - u
     ·rw [hi2];exact e1
     ·exact mono i _ (by omega) (by omega) e1
    | false =>
     rw [aF7 (by decide)]
     exact wpS_pure ⟨rfl,rfl,by dsimp only;omega,by dsimp only;omega,e1,by dsimp only;omega⟩
  ·rintro ⟨o,l,u⟩ st' ⟨rfl,e,q,d,b,g⟩
   dsimp only at e q d b g ⊢
   subst e
   dsimp only
   refine last _ _ _ (by omega) (by omega) (fun i hi=>by omega) (fun i hi hn=>?_) (fun _ _=>rfl)
   by_cases hi2:i=a - l
   ·rw [hi2];exact b
   ·exact c _ i (by omega) hn b
end
def Srt (R:Keyed->Keyed->Bool) (l:List Keyed):Prop:=l.Pairwise fun x y=>R y x=false
structure Mid (R:Keyed->Keyed->Bool) (L out a b:List Keyed):Prop where
 perm:(out ++ a ++ b).Perm L
 so:Srt R out
 le:∀ x∈out,∀ y∈a ++ b,R y x=false
 sa:Srt R a
 sb:Srt R b
section
variable {R:Keyed->Keyed->Bool} {L out a b p:List Keyed}
theorem Mid.takeA (m:Mid R L out (p ++ a) b) (h:∀ x∈p,∀ y∈b,R y x=false):Mid R L (out ++ p) a b:=by
 have sp:=aC9.mp m.sa
 refine ⟨by have:=m.perm;rw [← aB4] at this;exact this,aC9.mpr ⟨m.so,sp.1,fun x d y c=>m.le x d y (aC7 _ (aC7 _ c))⟩,fun x d y c=>?_,sp.2.1,m.sb⟩
 rcases aA7.mp d with d | d
 ·refine m.le x d y ?_
  rcases aA7.mp c with c | c
  ·exact aC7 _ (aB3 _ c)
  ·exact aB3 _ c
 ·rcases aA7.mp c with c | c
  ·exact sp.2.2 x d y c
  ·exact h x d y c
theorem Mid.takeB (m:Mid R L out a (p ++ b)) (h:∀ x∈p,∀ y∈a,R y x=false):Mid R L (out ++ p) a b:=by
 have sp:=aC9.mp m.sb
 refine ⟨List.Perm.trans ?_ m.perm,aC9.mpr ⟨m.so,sp.1,fun x d y c=>m.le x d y (aB3 _ (aC7 _ c))⟩,fun x d y c=>?_,m.sa,sp.2.1⟩
 ·rw [← aB4 (out ++ a) p b]
  refine List.Perm.append_right b ?_
  rw [aB4,aB4]
  exact List.Perm.append_left out List.perm_append_comm
 ·rcases aA7.mp d with d | d
  ·refine m.le x d y ?_
   rcases aA7.mp c with c | c
   ·exact aC7 _ c
   ·exact aB3 _ (aB3 _ c)
  ·rcases aA7.mp c with c | c
   ·exact h x d y c
   ·exact sp.2.2 x d y c
theorem Mid.done (m:Mid R L out a b) (h:a=[]\/b=[]):(out ++ a ++ b).Perm L/\Srt R (out ++ a ++ b):=by
 refine ⟨m.perm,?_⟩
 rw [aB4]
 refine aC9.mpr ⟨m.so,?_,m.le⟩
 rcases h with h | h
 ·subst h;exact m.sb
 ·subst h;rw [aF0];exact m.sa
theorem Mid.last (m:Mid R L out a b) (h:∀ y∈b,∀ x∈a,R x y=false):(out ++ b ++ a).Perm L/\Srt R (out ++ b ++ a):=by
 refine ⟨List.Perm.trans ?_ m.perm,?_⟩
 ·rw [aB4,aB4]
  exact List.Perm.append_left out List.perm_append_comm
 ·rw [aB4]
  refine aC9.mpr ⟨m.so,aC9.mpr ⟨m.sb,m.sa,h⟩,fun x d y c=>m.le x d y ?_⟩
  rcases aA7.mp c with c | c
  ·exact aB3 _ c
  ·exact aC7 _ c
end
structure Eqv (st st':SortSt):Prop where
 k:kindOf st'=kindOf st
 a:arrOf st'=arrOf st
 p:pendingOf st'=pendingOf st
 f:failedOf st'=failedOf st
theorem Eqv.refl (st:SortSt):Eqv st st:=⟨rfl,rfl,rfl,rfl⟩
theorem Eqv.trans {a b c:SortSt} (h:Eqv a b) (g:Eqv b c):Eqv a c:=⟨g.k.trans h.k,g.a.trans h.a,g.p.trans h.p,g.f.trans h.f⟩
theorem ag8 (a:Array Keyed) (i:Nat):(a.extract i a.size).toList=a.toList.drop i:=by
 rw [Array.toList_extract];simp only [List.extract_eq_take_drop];exact aF1 (by simp)
theorem ajv (a:Array Keyed) (i k:Nat):(a.extract i (i+k)).toList=(a.toList.drop i).take k:=by
 rw [Array.toList_extract];simp [List.extract]
theorem abl {a:Array Keyed} {i:Nat} (h:i < a.size):a.toList.drop i=a[i] :: a.toList.drop (i+1):=by
 rw [List.drop_eq_getElem_cons (by simpa using h)];simp
section
variable {M:Model} {A:Around} {E:Value->Shared->Prop} {s:Shared} {κ:SortKind} {S:Keyed->Prop} {R:Keyed->Keyed->Bool}
theorem Cmp.irr {x:Keyed} (C:Cmp M A E s κ S R) (a:S x):R x x=false:=by
 cases e:R x x with
 | false=>rfl
 | true=>have:=C.asy x x a a e;rw [e] at this;cases this
theorem agm (C:Cmp M A E s κ S R) {a:Keyed} {arr:Array Keyed} {base n g:Nat} (f:S a) (K:∀ x∈arr.toList,S x) (hn:base+n<=arr.size) (hs:Srt R ((arr.toList.drop base).take n)) (hh:g < n)
  {Q:Option Nat->SortSt->Prop} {st:SortSt} (T:kindOf st = κ)
  (h:∀ k,k<=n->(∀ x∈(arr.toList.drop base).take k,R a x=false)->(∀ x∈((arr.toList.drop base).take n).drop k,R a x=true)->Q (some k) st) :
  wpS M A E s (aju false a arr base n g) Q st:=by
 have at':∀ i,i < n->∃ x,arr[base+i]?=some x/\S x/\((arr.toList.drop base).take n)[i]?=some x:=fun i hi=>by
  have o:base+i < arr.size:=by omega
  refine ⟨arr[base+i],aA4 o,K _ (by simp),?_⟩
  rw [aH6 hi,aI3]
  simp [o]
 have m:∀ i j x y,i < j->j < n->arr[base+i]?=some x->arr[base+j]?=some y->R y x=false:=fun i j x y l q ex J=>by
  obtain ⟨W,c,_,b⟩:=at' i (by omega)
  obtain ⟨X,F,_,v⟩:=at' j q
  rw [ex] at c;cases c
  rw [J] at F;cases F
  obtain ⟨H,b⟩:=aA1.mp b
  obtain ⟨P,v⟩:=aA1.mp v
  have:=aG8.mp hs i j H P l
  rw [b,v] at this
  exact this
 refine akp (κ:=κ) (B:=fun i=>match arr[base+i]? with | some x => !(R a x) | none=>false) (fun i hi U st' z D=>?_) (fun i j l q p=>?_) hh T fun k r G I=>h k r (fun x u=>?_) fun x u=>?_
 ·obtain ⟨x,c,w,_⟩:=at' i hi
  unfold bey
  refine wpS_bind (aay c ?_)
  rw [aF7 (by decide)]
  refine wpS_bind (C.ask _ _ f w _ _ z ?_)
  refine wpS_pure ?_
  simp only [c] at D
  exact D
 ·obtain ⟨x,c,w,_⟩:=at' i (by omega)
  obtain ⟨y,b,O,_⟩:=at' j q
  simp only [c,b] at p ⊢
  have N:=m i j x y l q c b
  have L:R a y=false:=by simpa using p
  have:=C.tr x y a w O f N L
  simp [this]
 ·obtain ⟨i,hi,e⟩:=List.getElem_of_mem u
  have d:i < k:=by rw [aH1] at hi;omega
  obtain ⟨y,c,_,b⟩:=at' i (by omega)
  have hb:=G i d
  simp only [c] at hb
  have ex:x=y:=by
   have:((arr.toList.drop base).take k)[i]?=some x:=by rw [aA0 hi,e]
   rw [aH6 d] at this
   rw [aH6 (by omega)] at b
   rw [this] at b;exact aC6 b
  subst ex
  simpa using hb
 ·obtain ⟨i,hi,e⟩:=List.getElem_of_mem u
  have d:k+i < n:=by rw [aJ0,aH1] at hi;omega
  obtain ⟨y,c,_,b⟩:=at' (k+i) d
  have hb:=I (k+i) (by omega) d
  simp only [c] at hb
  have ex:x=y:=by
   have:(((arr.toList.drop base).take n).drop k)[i]?=some x:=by rw [aA0 hi,e]
   rw [aI3] at this
   rw [this] at b;exact aC6 b
  subst ex
  simpa using hb
theorem ah6 (C:Cmp M A E s κ S R) {a:Keyed} {arr:Array Keyed} {base n g:Nat} (f:S a) (K:∀ x∈arr.toList,S x) (hn:base+n<=arr.size) (hs:Srt R ((arr.toList.drop base).take n)) (hh:g < n)
  {Q:Option Nat->SortSt->Prop} {st:SortSt} (P:kindOf st = κ)
  (h:∀ k,k<=n->(∀ x∈(arr.toList.drop base).take k,R x a=true)->(∀ x∈((arr.toList.drop base).take n).drop k,R x a=false)->Q (some k) st) :
  wpS M A E s (aju true a arr base n g) Q st:=by
 have at':∀ i,i < n->∃ x,arr[base+i]?=some x/\S x/\((arr.toList.drop base).take n)[i]?=some x:=fun i hi=>by
  have p:base+i < arr.size:=by omega
  refine ⟨arr[base+i],aA4 p,K _ (by simp),?_⟩
  rw [aH6 hi,aI3]
  simp [p]
 have m:∀ i j x y,i < j->j < n->arr[base+i]?=some x->arr[base+j]?=some y->R y x=false:=fun i j x y l q ex J=>by
  obtain ⟨U,c,_,b⟩:=at' i (by omega)
  obtain ⟨W,F,_,v⟩:=at' j q
  rw [ex] at c;cases c
  rw [J] at F;cases F
  obtain ⟨H,b⟩:=aA1.mp b
  obtain ⟨O,v⟩:=aA1.mp v
  have:=aG8.mp hs i j H O l
  rw [b,v] at this
  exact this
 refine akp (κ:=κ) (B:=fun i=>match arr[base+i]? with | some x=>R x a | none=>false) (fun i hi T st' z D=>?_) (fun i j l q o=>?_) hh P fun k r G I=>h k r (fun x u=>?_) fun x u=>?_
 ·obtain ⟨x,c,w,_⟩:=at' i hi
  unfold bey
  refine wpS_bind (aay c ?_)
  rw [aF6 rfl]
  simp only [c] at D
  exact C.ask _ _ w f _ _ z D
 ·obtain ⟨x,c,w,_⟩:=at' i (by omega)
  obtain ⟨y,b,N,_⟩:=at' j q
  simp only [c,b] at o ⊢
  have L:=m i j x y l q c b
  cases e:R x a with
  | true=>rfl
  | false =>
   have:=C.tr a x y f w N e L
   rw [this] at o;cases o
 ·obtain ⟨i,hi,e⟩:=List.getElem_of_mem u
  have d:i < k:=by rw [aH1] at hi;omega
  obtain ⟨y,c,_,b⟩:=at' i (by omega)
  have hb:=G i d
  simp only [c] at hb
  have ex:x=y:=by
   have:((arr.toList.drop base).take k)[i]?=some x:=by rw [aA0 hi,e]
   rw [aH6 d] at this
   rw [aH6 (by omega)] at b
   rw [this] at b;exact aC6 b
  subst ex
  exact hb
 ·obtain ⟨i,hi,e⟩:=List.getElem_of_mem u
  have d:k+i < n:=by rw [aJ0,aH1] at hi;omega
  obtain ⟨y,c,_,b⟩:=at' (k+i) d
  have hb:=I (k+i) (by omega) d
  simp only [c] at hb
  have ex:x=y:=by
   have:(((arr.toList.drop base).take n).drop k)[i]?=some x:=by rw [aA0 hi,e]
   rw [aI3] at this
   rw [this] at b;exact aC6 b
  subst ex
  exact hb
end
section
variable {M:Model} {A:Around} {E:Value->Shared->Prop} {s:Shared} {κ:SortKind} {S:Keyed->Prop} {R:Keyed->Keyed->Bool}
structure Two (S:Keyed->Prop) (R:Keyed->Keyed->Bool) (a b:Array Keyed):Prop where
 ha:∀ x∈a.toList,S x
 hb:∀ x∈b.toList,S x
 sa:Srt R a.toList
 sb:Srt R b.toList
 a0:0 < a.size
 b0:0 < b.size
 first:∀ x∈a.toList,∀ y,b[0]?=some y->R x y=false
 last:∀ y∈b.toList,∀ x,a[a.size - 1]?=some x->R x y=false
def Fin2 (R:Keyed->Keyed->Bool) (a b m:Array Keyed):Prop:=m.toList.Perm (a.toList ++ b.toList)/\Srt R m.toList
structure Lo (S:Keyed->Prop) (R:Keyed->Keyed->Bool) (a b out:Array Keyed) (ia ib:Nat):Prop where
 mid:Mid R (a.toList ++ b.toList) out.toList (a.toList.drop ia) (b.toList.drop ib)
 ia:ia<=a.size
 ib:ib<=b.size
theorem Lo.len {a b out:Array Keyed} {ia ib:Nat} (l:Lo S R a b out ia ib):out.size+(a.size - ia)+(b.size - ib)=a.size+b.size:=by
 have:=l.mid.perm.length_eq
 simp at this
 omega
theorem Lo.doneA {a b out:Array Keyed} {ia ib:Nat} (l:Lo S R a b out ia ib) (h:ib=b.size\/ia=a.size):Fin2 R a b (out ++ a.extract ia ++ b.extract ib):=by
 have:=l.mid.done (by
  rcases h with h | h
  ·right;rw [h];simp
  ·left;rw [h];simp)
 unfold Fin2
 rw [aG7,aG7,ag8,ag8]
 exact this
theorem ar9 {a:Array Keyed} {i:Nat} (h:i+1=a.size):a.toList.drop i=[a[a.size - 1]'(by omega)]:=by
 have hi:i < a.size:=by omega
 rw [abl hi]
 have:i=a.size - 1:=by omega
 subst this
 have e:a.toList.drop (a.size - 1+1)=[]:=by
  apply List.drop_eq_nil_of_le
  simp;omega
 rw [e]
theorem Lo.lastA {a b out:Array Keyed} {ia ib:Nat} (T:Two S R a b) (l:Lo S R a b out ia ib) (h:ia+1=a.size):Fin2 R a b (out ++ b.extract ib ++ a.extract ia):=by
 have:=l.mid.last (by
  intro y d x c
  rw [ar9 h] at c
  have ex:x=a[a.size - 1]'(by omega):=by simpa using c
  refine T.last y (aC4 d) x ?_
  rw [ex]
  exact aA4 _)
 unfold Fin2
 rw [aG7,aG7,ag8,ag8]
 exact this
theorem ae1 {x:Keyed} {l:List Keyed} (C:Cmp M A E s κ S R) (h:Srt R (x :: l)) (b:S x):∀ y∈x :: l,R y x=false:=by
 intro y a
 rcases aA9.mp a with e | a
 ·rw [e];exact C.irr b
 ·exact (aI6.mp h).1 y a
theorem Lo.pushB {a b out:Array Keyed} {ia ib:Nat} (C:Cmp M A E s κ S R) (T:Two S R a b) (l:Lo S R a b out ia ib) (hb:ib < b.size) (h:∀ x∈a.toList.drop ia,R x b[ib]=false):Lo S R a b (out.push b[ib]) ia (ib+1):=by
 refine ⟨?_,l.ia,hb⟩
 have m:=l.mid
 rw [abl hb] at m
 rw [Array.toList_push]
 exact m.takeB (p:=[b[ib]]) (fun x c y d=>by
  have:x=b[ib]:=by simpa using c
  rw [this];exact h y d)
theorem Lo.pushA {a b out:Array Keyed} {ia ib:Nat} (l:Lo S R a b out ia ib) (ha:ia < a.size) (h:∀ y∈b.toList.drop ib,R y a[ia]=false):Lo S R a b (out.push a[ia]) (ia+1) ib:=by
 refine ⟨?_,ha,l.ib⟩
 have m:=l.mid
 rw [abl ha] at m
 rw [Array.toList_push]
 exact m.takeA (p:=[a[ia]]) (fun x c y d=>by
  have:x=a[ia]:=by simpa using c
  rw [this];exact h y d)
theorem Lo.runA {a b out:Array Keyed} {ia ib k:Nat} (l:Lo S R a b out ia ib) (d:ia+k<=a.size) (h:∀ x∈(a.toList.drop ia).take k,∀ y∈b.toList.drop ib,R y x=false):Lo S R a b (out ++ a.extract ia (ia+k)) (ia+k) ib:=by
 refine ⟨?_,d,l.ib⟩
 have m:=l.mid
 rw [← aC1 k (a.toList.drop ia)] at m
 rw [aG7,ajv]
 have c:=m.takeA h
 rw [List.drop_drop] at c
 exact c
theorem Lo.runB {a b out:Array Keyed} {ia ib k:Nat} (l:Lo S R a b out ia ib) (d:ib+k<=b.size) (h:∀ x∈(b.toList.drop ib).take k,∀ y∈a.toList.drop ia,R y x=false):Lo S R a b (out ++ b.extract ib (ib+k)) ia (ib+k):=by
 refine ⟨?_,l.ia,d⟩
 have m:=l.mid
 rw [← aC1 k (b.toList.drop ib)] at m
 rw [aG7,ajv]
 have c:=m.takeB h
 rw [List.drop_drop] at c
 exact c
theorem acx {l:List Keyed} {i:Nat} (h:Srt R l):Srt R (l.drop i):=List.Pairwise.sublist (List.drop_sublist i l) h
theorem jpn {α β:Type} {prog : β->StateT SortSt Sem α} {P : β->Prop} {Q : α->SortSt->Prop} {st:SortSt} {G:Prop} (use:(∀ m,P m->wpS M A E s (prog m) Q st)->G) (a:∀ m,P m->wpS M A E s (prog m) Q st):G:=use a
theorem jpn2 {α:Type} {prog:Array Keyed->Nat->StateT SortSt Sem α} {P:Array Keyed->Nat->Prop} {Q : α->SortSt->Prop} {st:SortSt} {G:Prop} (use:(∀ o i,P o i->wpS M A E s (prog o i) Q st)->G) (a:∀ o i,P o i->wpS M A E s (prog o i) Q st):G:=use a
section
variable {ρ β γ δ ε ζ η:Type}
@[elab_as_elim] theorem un5 {J : β->γ->δ->ε->Prop} {G:Option ρ × β × γ × δ × ε->Prop} (z:Option ρ × β × γ × δ × ε) (h:z.1=none/\J z.2.1 z.2.2.1 z.2.2.2.1 z.2.2.2.2) (k:∀ x y u v,J x y u v->G (none,x,y,u,v)):G z:=by
 have e:z=(none,z.2.1,z.2.2.1,z.2.2.2.1,z.2.2.2.2):=by rw [← h.1]
 rw [e];exact k _ _ _ _ h.2
@[elab_as_elim] theorem un6 {J : β->γ->δ->ε->ζ->Prop} {G:Option ρ × β × γ × δ × ε × ζ->Prop} (z:Option ρ × β × γ × δ × ε × ζ) (h:z.1=none/\J z.2.1 z.2.2.1 z.2.2.2.1 z.2.2.2.2.1 z.2.2.2.2.2) (k:∀ x y u v a,J x y u v a->G (none,x,y,u,v,a)):G z:=by
 have e:z=(none,z.2.1,z.2.2.1,z.2.2.2.1,z.2.2.2.2.1,z.2.2.2.2.2):=by rw [← h.1]
 rw [e];exact k _ _ _ _ _ h.2
@[elab_as_elim] theorem un7 {J : β->γ->δ->ε->ζ->η->Prop} {G:Option ρ × β × γ × δ × ε × ζ × η->Prop} (z:Option ρ × β × γ × δ × ε × ζ × η) (h:z.1=none/\J z.2.1 z.2.2.1 z.2.2.2.1 z.2.2.2.2.1 z.2.2.2.2.2.1 z.2.2.2.2.2.2) (k:∀ x y u v a b,J x y u v a b->G (none,x,y,u,v,a,b)):G z:=by
 have e:z=(none,z.2.1,z.2.2.1,z.2.2.2.1,z.2.2.2.2.1,z.2.2.2.2.2.1,z.2.2.2.2.2.2):=by rw [← h.1]
 rw [e];exact k _ _ _ _ _ _ h.2
@[elab_as_elim] theorem unR {κ:Type} {F : ρ->Prop} {J : κ->Prop} {G:Option ρ × κ->Prop} (z:Option ρ × κ) (h:(∃ r,z.1=some r/\F r)\/(z.1=none/\J z.2)) (a:∀ r x,F r->G (some r,x)) (b:z.1=none/\J z.2->G z):G z:=by
 rcases h with ⟨r,e,c⟩ | h
 ·have e:z=(some r,z.2):=by rw [← e]
  rw [e];exact a _ _ c
 ·exact b h
end
theorem aap {c:Prop} [Decidable c] {α:Type} {a b:StateT SortSt Sem α} {Q : α->SortSt->Prop} {st:SortSt} (d:c->wpS M A E s a Q st) (f:¬ c->wpS M A E s b Q st):wpS M A E s (if c then a else b) Q st:=by
 by_cases h:c
 ·rw [aF6 h];exact d h
 ·rw [aF7 h];exact f h
theorem aqo (C:Cmp M A E s κ S R) {a b:Array Keyed} (T:Two S R a b) {Q:Array Keyed->SortSt->Prop} {st:SortSt} (hk:kindOf st = κ)
  (h:∀ m st',Eqv st st'->Fin2 R a b m->Q m st'):wpS M A E s (at7 a b) Q st:=by
 have N:∀ i (h:i < a.size),S a[i]:=fun i h=>T.ha _ (by simp)
 have O:∀ i (h:i < b.size),S b[i]:=fun i h=>T.hb _ (by simp)
 have b0:=T.b0
 have a0:=T.a0
 refine wpS_bind (ad6 ?_)
 refine wpS_bind (aay (x:=b[0]'b0) (aA4 b0) ?_)
 have l1:Lo S R a b #[b[0]'b0] 0 1:=by
  have l0:Lo S R a b #[] 0 0:=⟨⟨by simp,List.Pairwise.nil,fun x w=>by simp at w,T.sa,T.sb⟩,aG1 _,aG1 _⟩
  exact l0.pushB C T b0 fun x w=>T.first x (by simpa using w) _ (aA4 b0)
 refine aap (fun e1=>wpS_pure (h _ _ (Eqv.refl _) (l1.doneA (.inl (aG4.mp e1))))) (fun e1=>?_)
 refine aap (fun e2=>wpS_pure (h _ _ (Eqv.refl _) (l1.lastA T (aG4.mp e2)))) (fun e2=>?_)
 replace e1:1 ≠ b.size:=fun q=>e1 (aG4.mpr q)
 replace e2:0+1 ≠ a.size:=fun q=>e2 (aG4.mpr q)
 refine wpS_bind (wpS_get ?_)
 refine wpS_bind (wpS_mono (Q:=fun (z:Option (Array Keyed) × Array Keyed × Nat × Nat × Nat) st'=>Eqv st st'/\∃ r,z.1=some r/\Fin2 R a b r) ?_ ?_)
 ·refine wpS_forRange (fun t (z:Option (Array Keyed) × Array Keyed × Nat × Nat × Nat) st'=>Eqv st st'/\z.1=none/\Lo S R a b z.2.1 z.2.2.1 z.2.2.2.1/\z.2.2.1+1 < a.size/\z.2.2.2.1 < b.size/\t+1<=z.2.1.size) ?_ ?_ ⟨Eqv.refl _,rfl,l1,by dsimp only;omega,by dsimp only;omega,by simp⟩
  ·intro t z b2 _ ht n
   have q1:=n.1
   refine un5 (J:=fun out ia ib _=>Lo S R a b out ia ib/\ia+1 < a.size/\ib < b.size/\t+1<=out.size) z n.2 fun out ia ib mg v=>?_
   dsimp only
   refine wpS_bind (wpS_mono (Q:=fun (z:Option (Array Keyed) × Array Keyed × Nat × Nat × Nat × Nat) st'=>Eqv st st'/\((∃ r,z.1=some r/\Fin2 R a b r)\/(z.1=none/\Lo S R a b z.2.1 z.2.2.1 z.2.2.2.1/\z.2.2.1+1 < a.size/\z.2.2.2.1 < b.size/\t+2<=z.2.1.size))) ?_ ?_)
   ·refine wpS_forRange (fun i (z:Option (Array Keyed) × Array Keyed × Nat × Nat × Nat × Nat) st'=>Eqv st st'/\z.1=none/\Lo S R a b z.2.1 z.2.2.1 z.2.2.2.1/\z.2.2.1+1 < a.size/\z.2.2.2.1 < b.size/\t+1+min i 1<=z.2.1.size) ?_ ?_ ⟨q1,rfl,v.1,v.2.1,v.2.2.1,v.2.2.2⟩
    ·intro i z o _ hi n
     have q:=n.1
     refine un6 (J:=fun out ia ib _ _=>Lo S R a b out ia ib/\ia+1 < a.size/\ib < b.size/\t+1+min i 1<=out.size) z n.2 fun out ia ib ac bc v=>?_
     have l:=v.1
     have I:=v.2.1
     have d:=v.2.2.1
     have hsz:=v.2.2.2
     have g:ia < a.size:=Nat.lt_of_succ_lt I
     refine wpS_bind (aay (x:=b[ib]) (aA4 d) ?_)
     refine wpS_bind (aay (x:=a[ia]) (aA4 g) ?_)
     refine wpS_bind (C.ask _ _ (O ib d) (N ia g) _ _ (q.k.trans hk) ?_)
     dsimp only
     refine aap (fun er=>?_) (fun er=>?_)
     ·refine wpS_bind (aay (x:=b[ib]) (aA4 d) ?_)
      have D:Lo S R a b (out.push b[ib]) ia (ib+1):=l.pushB C T d fun x w=>by
       rw [abl g] at w
       have hd:Srt R (a[ia] :: a.toList.drop (ia+1)):=by rw [← abl g];exact acx T.sa
       have sx:S x:=T.ha x (aC4 (i:=ia) (by rw [abl g];exact w))
       exact C.tr _ _ _ (O ib d) (N ia g) sx (C.asy _ _ (O ib d) (N ia g) er) (ae1 C hd (N ia g) x w)
      refine aap (fun F=>wpS_pure ⟨q,.inl ⟨_,rfl,D.doneA (.inl (aG4.mp F))⟩⟩) (fun F=>?_)
      have hf:ib+1 < b.size/\t+2<=(out.push b[ib]).size:=by
       have a2:ib+1 ≠ b.size:=fun q=>F (aG4.mpr q)
       rw [aI0];omega
      refine aap (fun _=>wpS_pure ⟨q,.inr ⟨rfl,D,I,hf⟩⟩) (fun _=>wpS_pure ⟨q,rfl,D,I,hf.1,aD0 (by omega) hf.2⟩)
     ·refine wpS_bind (aay (x:=a[ia]) (aA4 g) ?_)
      have D:Lo S R a b (out.push a[ia]) (ia+1) ib:=l.pushA g fun y K=>by
       rw [abl d] at K
       have hd:Srt R (b[ib] :: b.toList.drop (ib+1)):=by rw [← abl d];exact acx T.sb
       have sy:S y:=T.hb y (aC4 (i:=ib) (by rw [abl d];exact K))
       exact C.tr _ _ _ (N ia g) (O ib d) sy (eq_false_of_ne_true er) (ae1 C hd (O ib d) y K)
      refine aap (fun F=>wpS_pure ⟨q,.inl ⟨_,rfl,D.lastA T (aG4.mp F)⟩⟩) (fun F=>?_)
      have hf:ia+1+1 < a.size/\ib < b.size/\t+2<=(out.push a[ia]).size:=by
       have a2:ia+1+1 ≠ a.size:=fun q=>F (aG4.mpr q)
       rw [aI0];omega
      refine aap (fun _=>wpS_pure ⟨q,.inr ⟨rfl,D,hf⟩⟩) (fun _=>wpS_pure ⟨q,rfl,D,hf.1,d,aD0 (by omega) hf.2.2⟩)
    ·exact fun z o n=>⟨n.1,.inr ⟨n.2.1,n.2.2.1,n.2.2.2.1,n.2.2.2.2.1,aD0 (by omega) n.2.2.2.2.2⟩⟩
   ·intro z o n
    have X:=n.1
    refine unR (J:=fun y:Array Keyed × Nat × Nat × Nat × Nat=>Lo S R a b y.1 y.2.1 y.2.2.1/\y.2.1+1 < a.size/\y.2.2.1 < b.size/\t+2<=y.1.size) z n.2 (fun r x Z=>wpS_pure ⟨X,r,rfl,Z⟩) fun Y=>?_
    refine un6 (J:=fun out ia ib _ _=>Lo S R a b out ia ib/\ia+1 < a.size/\ib < b.size/\t+2<=out.size) z Y fun out ia ib ac bc v=>?_
    dsimp only
    refine wpS_bind (ad6 ?_)
    refine wpS_bind (wpS_mono (Q:=fun (z:Option (Array Keyed) × Array Keyed × Nat × Nat × Nat × Nat × Nat) st'=>Eqv st st'/\((∃ r,z.1=some r/\Fin2 R a b r)\/(z.1=none/\Lo S R a b z.2.1 z.2.2.1 z.2.2.2.1/\z.2.2.1+1 < a.size/\z.2.2.2.1 < b.size/\t+2<=z.2.1.size))) ?_ ?_)
    ·refine wpS_forRange (fun i (z:Option (Array Keyed) × Array Keyed × Nat × Nat × Nat × Nat × Nat) st'=>Eqv st st'/\z.1=none/\Lo S R a b z.2.1 z.2.2.1 z.2.2.2.1/\z.2.2.1+1 < a.size/\z.2.2.2.1 < b.size/\t+2<=z.2.1.size) ?_ (fun z o n=>⟨n.1,.inr n.2⟩) ⟨X,rfl,v⟩
     intro i z o _ hi n
     have q:=n.1
     refine un7 (J:=fun out ia ib _ _ _=>Lo S R a b out ia ib/\ia+1 < a.size/\ib < b.size/\t+2<=out.size) z n.2 fun out ia ib mg ac bc v=>?_
     have l:=v.1
     have I:=v.2.1
     have d:=v.2.2.1
     have hsz:=v.2.2.2
     dsimp only
     refine' jpn (M:=M) (A:=A) (E:=E) (s:=s) (st:=o) (β:=Nat) (P:=fun _=>True) (prog:=?prog) (fun U=>?use) (fun b1 _=>?pf)
     case use =>
      refine aap (fun hm=>?_) (fun hm=>?_)
      ·generalize mg - 1=m
       exact U m trivial
      ·exact U mg trivial
     refine wpS_bind (wpS_mono (Q:=fun _ L=>Eqv o L) (wpS_modify ⟨rfl,rfl,rfl,rfl⟩) fun _ L G=>?_)
     replace G:=q.trans G
     refine wpS_bind (aay (x:=b[ib]) (aA4 d) ?_)
     refine wpS_bind (agm C (O ib d) T.ha (by omega) (by rw [aF1 (by simp)];exact acx T.sa) (by omega) (G.k.trans hk) fun k a8 h1 h2=>?_)
     rw [aF1 (by simp),List.drop_drop] at h2
     dsimp only
     refine' jpn2 (M:=M) (A:=A) (E:=E) (s:=s) (st:=L) (P:=fun j c=>Lo S R a b j c ib/\c+1 < a.size/\(∀ x∈a.toList.drop c,R x b[ib]=false)/\t+2<=j.size) (prog:=?prog2) (fun U=>?use2) (fun j c h5=>?pf2)
     case use2 =>
      have u:∀ x∈a.toList.drop (ia+k),R x b[ib]=false:=fun x w=>C.asy _ _ (O ib d) (T.ha x (aC4 w)) (h2 x w)
      refine aap (fun k0=>?_) (fun k0=>?_)
      ·have D:Lo S R a b (out ++ a.extract ia (ia+k)) (ia+k) ib:=l.runA (by omega) fun x w y K=>by
        rw [abl d] at K
        have hd:Srt R (b[ib] :: b.toList.drop (ib+1)):=by rw [← abl d];exact acx T.sb
        have sy:S y:=T.hb y (aC4 (i:=ib) (by rw [abl d];exact K))
        exact C.tr _ _ _ (T.ha x (aC4 (aC0 w))) (O ib d) sy (h1 x w) (ae1 C hd (O ib d) y K)
       refine aap (fun F=>wpS_pure ⟨G,.inl ⟨_,rfl,D.lastA T (aG4.mp F)⟩⟩) (fun F=>?_)
       refine aap (fun e4=>wpS_pure ⟨G,.inl ⟨_,rfl,D.doneA (.inr (aG4.mp e4))⟩⟩) (fun e4=>?_)
       have W:Lo S R a b (out ++ a.extract ia (ia+k)) (ia+k) ib/\ia+k+1 < a.size/\(∀ x∈a.toList.drop (ia+k),R x b[ib]=false)/\t+2<=(out ++ a.extract ia (ia+k)).size:=by
        have a2:ia+k+1 ≠ a.size:=fun q=>F (aG4.mpr q)
        have a6:ia+k ≠ a.size:=fun q=>e4 (aG4.mpr q)
        exact ⟨D,by omega,u,by rw [Array.size_append];omega⟩
       revert W
       clear F e4 D u
       generalize out ++ a.extract ia (ia+k)=j
       generalize ia+k=c
       intro W
       exact U j c W
      ·have:k=0:=by omega
       rw [this] at u
       exact U out ia ⟨l,I,u,hsz⟩
     have l3:=h5.1
     have a1:=h5.2.1
     have a3:=h5.2.2.1
     have a4:=h5.2.2.2
     have f:c < a.size:=Nat.lt_of_succ_lt a1
     refine wpS_bind (aay (x:=b[ib]) (aA4 d) ?_)
     have l4:=l3.pushB C T d a3
     refine aap (fun e5=>wpS_pure ⟨G,.inl ⟨_,rfl,l4.doneA (.inl (aG4.mp e5))⟩⟩) (fun e5=>?_)
     replace e5:ib+1 ≠ b.size:=fun q=>e5 (aG4.mpr q)
     refine wpS_bind (aay (x:=a[c]) (aA4 f) ?_)
     refine wpS_bind (ah6 C (N c f) T.hb (by omega) (by rw [aF1 (by simp)];exact acx T.sb) (by omega) (G.k.trans hk) fun H a5 h3 h4=>?_)
     rw [aF1 (by simp),List.drop_drop] at h4
     dsimp only
     refine' jpn2 (M:=M) (A:=A) (E:=E) (s:=s) (st:=L) (P:=fun p B=>Lo S R a b p c B/\B < b.size/\(∀ y∈b.toList.drop B,R y a[c]=false)/\t+2<=p.size) (prog:=?prog3) (fun U=>?use3) (fun p B h6=>?pf3)
     case use3 =>
      refine aap (fun k0=>?_) (fun k0=>?_)
      ·have hd:Srt R (a[c] :: a.toList.drop (c+1)):=by rw [← abl f];exact acx T.sa
       have l5:Lo S R a b (j.push b[ib] ++ b.extract (ib+1) (ib+1+H)) c (ib+1+H):=l4.runB (by omega) fun x w y K=>by
        rw [abl f] at K
        have sy:S y:=T.ha y (aC4 (i:=c) (by rw [abl f];exact K))
        have sx:S x:=T.hb x (aC4 (aC0 w))
        exact C.tr _ _ _ sx (N c f) sy (C.asy _ _ sx (N c f) (h3 x w)) (ae1 C hd (N c f) y K)
       refine aap (fun e6=>wpS_pure ⟨G,.inl ⟨_,rfl,l5.doneA (.inl (aG4.mp e6))⟩⟩) (fun e6=>?_)
       have W:Lo S R a b (j.push b[ib] ++ b.extract (ib+1) (ib+1+H)) c (ib+1+H)/\ib+1+H < b.size/\(∀ y∈b.toList.drop (ib+1+H),R y a[c]=false)/\t+2<=(j.push b[ib] ++ b.extract (ib+1) (ib+1+H)).size:=by
        have a7:ib+1+H ≠ b.size:=fun q=>e6 (aG4.mpr q)
        exact ⟨l5,by omega,h4,by rw [Array.size_append,aI0];omega⟩
       revert W
       clear e6 l5 hd
       generalize j.push b[ib] ++ b.extract (ib+1) (ib+1+H)=p
       generalize ib+1+H=B
       intro W
       exact U p B W
      ·have:H=0:=by omega
       rw [this] at h4
       exact U (j.push b[ib]) (ib+1) ⟨l4,by omega,h4,by rw [aI0];omega⟩
     refine wpS_bind (aay (x:=a[c]) (aA4 f) ?_)
     have l7:=h6.1.pushA f h6.2.2.1
     refine aap (fun e7=>wpS_pure ⟨G,.inl ⟨_,rfl,l7.lastA T (aG4.mp e7)⟩⟩) (fun e7=>?_)
     have hf:c+1+1 < a.size/\B < b.size/\t+2<=(p.push a[c]).size:=by
      have a9:c+1+1 ≠ a.size:=fun q=>e7 (aG4.mpr q)
      have h7:=h6.2.2.2
      exact ⟨by omega,h6.2.1,by rw [aI0];omega⟩
     exact aap (fun _=>wpS_pure ⟨G,.inr ⟨rfl,l7,hf⟩⟩) (fun _=>wpS_pure ⟨G,rfl,l7,hf⟩)
    ·intro z o n
     have X:=n.1
     refine unR (J:=fun y:Array Keyed × Nat × Nat × Nat × Nat × Nat=>Lo S R a b y.1 y.2.1 y.2.2.1/\y.2.1+1 < a.size/\y.2.2.1 < b.size/\t+2<=y.1.size) z n.2 (fun r x Z=>wpS_pure ⟨X,r,rfl,Z⟩) fun Y=>?_
     refine un7 (J:=fun out ia ib _ _ _=>Lo S R a b out ia ib/\ia+1 < a.size/\ib < b.size/\t+2<=out.size) z Y fun out ia ib mg ac bc v=>?_
     dsimp only
     refine wpS_bind (wpS_modify ?_)
     exact wpS_pure ⟨X.trans ⟨rfl,rfl,rfl,rfl⟩,rfl,v⟩
  ·intro z o n
   exfalso
   have h1:=n.2.2.1.len
   have h2:=n.2.2.2
   have:a.size+b.size<=max 0 (a.size+b.size):=by omega
   omega
 ·intro z o n
  have X:=n.1
  exact unR (J:=fun _=>False) z (.inl n.2) (fun r x Z=>wpS_pure (h r o X Z)) fun Y=>Y.2.elim
end
structure MidH (R:Keyed->Keyed->Bool) (L a b tl:List Keyed):Prop where
 perm:(a ++ b ++ tl).Perm L
 so:Srt R tl
 le:∀ x∈a ++ b,∀ y∈tl,R y x=false
 sa:Srt R a
 sb:Srt R b
section
variable {R:Keyed->Keyed->Bool} {L tl a b p:List Keyed}
theorem MidH.takeA (m:MidH R L (a ++ p) b tl) (h:∀ x∈b,∀ y∈p,R y x=false):MidH R L a b (p ++ tl):=by
 have sp:=aC9.mp m.sa
 refine ⟨List.Perm.trans ?_ m.perm,aC9.mpr ⟨sp.2.1,m.so,fun x c y d=>m.le x (aC7 _ (aB3 _ c)) y d⟩,fun x c y d=>?_,sp.1,m.sb⟩
 ·rw [← aB4,aB4 a p b,aB4 a b p]
  exact List.Perm.append_right tl (List.Perm.append_left a List.perm_append_comm)
 ·rcases aA7.mp d with d | d
  ·rcases aA7.mp c with c | c
   ·exact sp.2.2 x c y d
   ·exact h x c y d
  ·refine m.le x ?_ y d
   rcases aA7.mp c with c | c
   ·exact aC7 _ (aC7 _ c)
   ·exact aB3 _ c
theorem MidH.takeB (m:MidH R L a (b ++ p) tl) (h:∀ x∈a,∀ y∈p,R y x=false):MidH R L a b (p ++ tl):=by
 have sp:=aC9.mp m.sb
 refine ⟨by have:=m.perm;simp only [aB4] at this ⊢;exact this,aC9.mpr ⟨sp.2.1,m.so,fun x c y d=>m.le x (aB3 _ (aB3 _ c)) y d⟩,fun x c y d=>?_,m.sa,sp.1⟩
 rcases aA7.mp d with d | d
 ·rcases aA7.mp c with c | c
  ·exact h x c y d
  ·exact sp.2.2 x c y d
 ·refine m.le x ?_ y d
  rcases aA7.mp c with c | c
  ·exact aC7 _ c
  ·exact aB3 _ (aC7 _ c)
theorem MidH.done (m:MidH R L a b tl) (h:a=[]\/b=[]):(a ++ b ++ tl).Perm L/\Srt R (a ++ b ++ tl):=by
 refine ⟨m.perm,aC9.mpr ⟨?_,m.so,m.le⟩⟩
 rcases h with h | h
 ·subst h;exact m.sb
 ·subst h;rw [aF0];exact m.sa
theorem MidH.first (m:MidH R L a b tl) (h:∀ y∈b,∀ x∈a,R x y=false):(b ++ a ++ tl).Perm L/\Srt R (b ++ a ++ tl):=by
 refine ⟨List.Perm.trans (List.Perm.append_right tl List.perm_append_comm) m.perm,aC9.mpr ⟨aC9.mpr ⟨m.sb,m.sa,h⟩,m.so,fun x c y d=>m.le x ?_ y d⟩⟩
 rcases aA7.mp c with c | c
 ·exact aB3 _ c
 ·exact aC7 _ c
end
theorem ack {a:Array Keyed} {i:Nat} (c:0 < i) (h:i<=a.size):a.toList.take i=a.toList.take (i - 1) ++ [a[i - 1]'(by omega)]:=by
 obtain ⟨j,rfl⟩:∃ j,i=j+1:=⟨i - 1,by omega⟩
 rw [List.take_succ]
 have b:j < a.size:=by omega
 simp [b]
theorem al3 (a:Array Keyed) (k:Nat):(a.extract 0 k).toList=a.toList.take k:=by
 rw [Array.toList_extract];simp [List.extract]
theorem amu (a:Array Keyed) (k n:Nat):(a.extract k n).toList=(a.toList.take n).drop k:=by
 rw [Array.toList_extract];simp [List.extract,List.drop_take]
section
variable {M:Model} {A:Around} {E:Value->Shared->Prop} {s:Shared} {κ:SortKind} {S:Keyed->Prop} {R:Keyed->Keyed->Bool}
structure Hi (S:Keyed->Prop) (R:Keyed->Keyed->Bool) (a b out:Array Keyed) (na nb:Nat):Prop where
 mid:MidH R (a.toList ++ b.toList) (a.toList.take na) (b.toList.take nb) out.toList.reverse
 na:na<=a.size
 nb:nb<=b.size
theorem Hi.len {a b out:Array Keyed} {na nb:Nat} (l:Hi S R a b out na nb):out.size+na+nb=a.size+b.size:=by
 have:=l.mid.perm.length_eq
 have c:=l.na
 have d:=l.nb
 simp at this
 omega
theorem Hi.doneA {a b out:Array Keyed} {na nb:Nat} (l:Hi S R a b out na nb) (h:na=0\/nb=0):Fin2 R a b (a.extract 0 na ++ b.extract 0 nb ++ out.reverse):=by
 have:=l.mid.done (by
  rcases h with h | h
  ·left;rw [h];simp
  ·right;rw [h];simp)
 unfold Fin2
 rw [aG7,aG7,al3,al3,Array.toList_reverse]
 exact this
theorem Hi.firstB {a b out:Array Keyed} {na nb:Nat} (T:Two S R a b) (l:Hi S R a b out na nb) (h:nb=1):Fin2 R a b (b.extract 0 nb ++ a.extract 0 na ++ out.reverse):=by
 subst h
 have:=l.mid.first (by
  intro y c x d
  rw [ack (by decide) l.nb] at c
  have f:y=b[0]'T.b0:=by simpa using c
  exact T.first x (aC0 d) y (by rw [f];exact aA4 _))
 unfold Fin2
 rw [aG7,aG7,al3,al3,Array.toList_reverse]
 exact this
theorem aca {l:List Keyed} {i:Nat} (h:Srt R l):Srt R (l.take i):=List.Pairwise.sublist (List.take_sublist i l) h
theorem ael {x:Keyed} {l:List Keyed} (C:Cmp M A E s κ S R) (h:Srt R (l ++ [x])) (b:S x):∀ y∈l ++ [x],R x y=false:=by
 intro y a
 rcases aA7.mp a with a | a
 ·exact (aC9.mp h).2.2 y a x (by simp)
 ·have:y=x:=by simpa using a
  rw [this];exact C.irr b
theorem Hi.pushA {a b out:Array Keyed} {na nb:Nat} (l:Hi S R a b out na nb) (d:0 < na) (h:∀ x∈b.toList.take nb,R (a[na - 1]'(by have:=l.na;omega)) x=false):Hi S R a b (out.push (a[na - 1]'(by have:=l.na;omega))) (na - 1) nb:=by
 refine ⟨?_,by have:=l.na;omega,l.nb⟩
 have m:=l.mid
 rw [ack d l.na] at m
 rw [Array.toList_push,List.reverse_append]
 exact m.takeA (p:=[_]) (fun x c y f=>by
  rw [aC2.mp f];exact h x c)
theorem Hi.pushB {a b out:Array Keyed} {na nb:Nat} (l:Hi S R a b out na nb) (d:0 < nb) (h:∀ x∈a.toList.take na,R (b[nb - 1]'(by have:=l.nb;omega)) x=false):Hi S R a b (out.push (b[nb - 1]'(by have:=l.nb;omega))) na (nb - 1):=by
 refine ⟨?_,l.na,by have:=l.nb;omega⟩
 have m:=l.mid
 rw [ack d l.nb] at m
 rw [Array.toList_push,List.reverse_append]
 exact m.takeB (p:=[_]) (fun x c y f=>by
  rw [aC2.mp f];exact h x c)
theorem Hi.runA {a b out:Array Keyed} {na nb k:Nat} (l:Hi S R a b out na nb) (d:k<=na) (h:∀ x∈b.toList.take nb,∀ y∈(a.toList.take na).drop k,R y x=false):Hi S R a b (out ++ (a.extract k na).reverse) k nb:=by
 refine ⟨?_,by have:=l.na;omega,l.nb⟩
 have m:=l.mid
 rw [← aC1 k (a.toList.take na)] at m
 rw [aG7,Array.toList_reverse,amu,List.reverse_append,List.reverse_reverse]
 have c:=m.takeA h
 rw [List.take_take,Nat.min_eq_left d] at c
 exact c
theorem Hi.runB {a b out:Array Keyed} {na nb k:Nat} (l:Hi S R a b out na nb) (d:k<=nb) (h:∀ x∈a.toList.take na,∀ y∈(b.toList.take nb).drop k,R y x=false):Hi S R a b (out ++ (b.extract k nb).reverse) na k:=by
 refine ⟨?_,l.na,by have:=l.nb;omega⟩
 have m:=l.mid
 rw [← aC1 k (b.toList.take nb)] at m
 rw [aG7,Array.toList_reverse,amu,List.reverse_append,List.reverse_reverse]
 have c:=m.takeB h
 rw [List.take_take,Nat.min_eq_left d] at c
 exact c
theorem aqp (C:Cmp M A E s κ S R) {a b:Array Keyed} (T:Two S R a b) {Q:Array Keyed->SortSt->Prop} {st:SortSt} (hk:kindOf st = κ)
  (h:∀ m st',Eqv st st'->Fin2 R a b m->Q m st'):wpS M A E s (at8 a b) Q st:=by
 have L:∀ i (h:i < a.size),S a[i]:=fun i h=>T.ha _ (by simp)
 have N:∀ i (h:i < b.size),S b[i]:=fun i h=>T.hb _ (by simp)
 have b0:=T.b0
 have a0:=T.a0
 have la:a.size - 1 < a.size:=by omega
 refine wpS_bind (ad6 ?_)
 refine wpS_bind (aay (x:=a[a.size - 1]'la) (aA4 la) ?_)
 have l1:Hi S R a b #[a[a.size - 1]'la] (a.size - 1) b.size:=by
  have l0:Hi S R a b #[] a.size b.size:=⟨⟨by simp [aF1],List.Pairwise.nil,fun x g y hy=>by simp at hy,aca T.sa,aca T.sb⟩,aA6 _,aA6 _⟩
  exact l0.pushA a0 fun x g=>T.last x (aC0 g) _ (aA4 la)
 refine aap (fun e1=>wpS_pure (h _ _ (Eqv.refl _) (l1.doneA (.inl (aG4.mp e1))))) (fun e1=>?_)
 refine aap (fun e2=>wpS_pure (h _ _ (Eqv.refl _) (l1.firstB T (aG4.mp e2)))) (fun e2=>?_)
 replace e1:a.size - 1 ≠ 0:=fun q=>e1 (aG4.mpr q)
 replace e2:b.size ≠ 1:=fun q=>e2 (aG4.mpr q)
 refine wpS_bind (wpS_get ?_)
 have a8:∀ {na nb:Nat} (G:0 < na) (I:na<=a.size) (X:0 < nb) (Y:nb<=b.size),R (b[nb - 1]'(by omega)) (a[na - 1]'(by omega))=true->∀ x∈b.toList.take nb,R (a[na - 1]'(by omega)) x=false:=fun {na nb} G I X Y er x g=>by
  have sx:S x:=T.hb x (aC0 g)
  have hs:Srt R (b.toList.take (nb - 1) ++ [b[nb - 1]'(by omega)]):=by rw [← ack X Y];exact aca T.sb
  rw [ack X Y] at g
  exact C.tr _ _ _ sx (N _ _) (L _ _) (ael C hs (N _ _) x g) (C.asy _ _ (N _ _) (L _ _) er)
 have b2:∀ {na nb:Nat} (G:0 < na) (I:na<=a.size) (X:0 < nb) (Y:nb<=b.size),R (b[nb - 1]'(by omega)) (a[na - 1]'(by omega))=false->∀ x∈a.toList.take na,R (b[nb - 1]'(by omega)) x=false:=fun {na nb} G I X Y er x g=>by
  have sx:S x:=T.ha x (aC0 g)
  have hs:Srt R (a.toList.take (na - 1) ++ [a[na - 1]'(by omega)]):=by rw [← ack G I];exact aca T.sa
  rw [ack G I] at g
  exact C.tr _ _ _ sx (L _ _) (N _ _) (ael C hs (L _ _) x g) er
 refine wpS_bind (wpS_mono (Q:=fun (z:Option (Array Keyed) × Nat × Nat × Array Keyed × Nat) st'=>Eqv st st'/\∃ r,z.1=some r/\Fin2 R a b r) ?_ ?_)
 ·refine wpS_forRange (fun t (z:Option (Array Keyed) × Nat × Nat × Array Keyed × Nat) st'=>Eqv st st'/\z.1=none/\Hi S R a b z.2.2.2.1 z.2.1 z.2.2.1/\0 < z.2.1/\1 < z.2.2.1/\t+1<=z.2.2.2.1.size) ?_ ?_ ⟨Eqv.refl _,rfl,l1,by dsimp only;omega,by dsimp only;omega,by simp⟩
  ·intro t z b7 _ ht f
   have q1:=f.1
   refine un5 (J:=fun na nb out _=>Hi S R a b out na nb/\0 < na/\1 < nb/\t+1<=out.size) z f.2 fun na nb out mg o=>?_
   dsimp only
   refine wpS_bind (wpS_mono (Q:=fun (z:Option (Array Keyed) × Nat × Nat × Array Keyed × Nat × Nat) st'=>Eqv st st'/\((∃ r,z.1=some r/\Fin2 R a b r)\/(z.1=none/\Hi S R a b z.2.2.2.1 z.2.1 z.2.2.1/\0 < z.2.1/\1 < z.2.2.1/\t+2<=z.2.2.2.1.size))) ?_ ?_)
   ·refine wpS_forRange (fun i (z:Option (Array Keyed) × Nat × Nat × Array Keyed × Nat × Nat) st'=>Eqv st st'/\z.1=none/\Hi S R a b z.2.2.2.1 z.2.1 z.2.2.1/\0 < z.2.1/\1 < z.2.2.1/\t+1+min i 1<=z.2.2.2.1.size) ?_ ?_ ⟨q1,rfl,o.1,o.2.1,o.2.2.1,o.2.2.2⟩
    ·intro i z j _ hi f
     have q:=f.1
     refine un6 (J:=fun na nb out _ _=>Hi S R a b out na nb/\0 < na/\1 < nb/\t+1+min i 1<=out.size) z f.2 fun na nb out ac bc o=>?_
     have l:=o.1
     have p:=o.2.1
     have a3:=o.2.2.1
     have hsz:=o.2.2.2
     have ia:na - 1 < a.size:=by have:=l.na;omega
     have ib:nb - 1 < b.size:=by have:=l.nb;omega
     refine wpS_bind (aay (x:=b[nb - 1]) (aA4 ib) ?_)
     refine wpS_bind (aay (x:=a[na - 1]) (aA4 ia) ?_)
     refine wpS_bind (C.ask _ _ (N _ ib) (L _ ia) _ _ (q.k.trans hk) ?_)
     dsimp only
     refine aap (fun er=>?_) (fun er=>?_)
     ·refine wpS_bind (aay (x:=a[na - 1]) (aA4 ia) ?_)
      have D:=l.pushA p (a8 p l.na (by omega) l.nb er)
      refine aap (fun w=>wpS_pure ⟨q,.inl ⟨_,rfl,D.doneA (.inl (aG4.mp w))⟩⟩) (fun w=>?_)
      have hf:0 < na - 1/\1 < nb/\t+2<=(out.push a[na - 1]).size:=by
       have a2:na - 1 ≠ 0:=fun q=>w (aG4.mpr q)
       rw [aI0];omega
      exact aap (fun _=>wpS_pure ⟨q,.inr ⟨rfl,D,hf⟩⟩) (fun _=>wpS_pure ⟨q,rfl,D,hf.1,a3,aD0 (by omega) hf.2.2⟩)
     ·refine wpS_bind (aay (x:=b[nb - 1]) (aA4 ib) ?_)
      have D:=l.pushB (by omega) (b2 p l.na (by omega) l.nb (eq_false_of_ne_true er))
      refine aap (fun w=>wpS_pure ⟨q,.inl ⟨_,rfl,D.firstB T (aG4.mp w)⟩⟩) (fun w=>?_)
      have hf:1 < nb - 1/\t+2<=(out.push b[nb - 1]).size:=by
       have a2:nb - 1 ≠ 1:=fun q=>w (aG4.mpr q)
       rw [aI0];omega
      exact aap (fun _=>wpS_pure ⟨q,.inr ⟨rfl,D,p,hf⟩⟩) (fun _=>wpS_pure ⟨q,rfl,D,p,hf.1,aD0 (by omega) hf.2⟩)
    ·exact fun z j f=>⟨f.1,.inr ⟨f.2.1,f.2.2.1,f.2.2.2.1,f.2.2.2.2.1,aD0 (by omega) f.2.2.2.2.2⟩⟩
   ·intro z j f
    have q2:=f.1
    refine unR (J:=fun y:Nat × Nat × Array Keyed × Nat × Nat=>Hi S R a b y.2.2.1 y.1 y.2.1/\0 < y.1/\1 < y.2.1/\t+2<=y.2.2.1.size) z f.2 (fun r x hr=>wpS_pure ⟨q2,r,rfl,hr⟩) fun hN=>?_
    refine un6 (J:=fun na nb out _ _=>Hi S R a b out na nb/\0 < na/\1 < nb/\t+2<=out.size) z hN fun na nb out ac bc o=>?_
    dsimp only
    refine wpS_bind (ad6 ?_)
    refine wpS_bind (wpS_mono (Q:=fun (z:Option (Array Keyed) × Nat × Nat × Array Keyed × Nat × Nat × Nat) st'=>Eqv st st'/\((∃ r,z.1=some r/\Fin2 R a b r)\/(z.1=none/\Hi S R a b z.2.2.2.1 z.2.1 z.2.2.1/\0 < z.2.1/\1 < z.2.2.1/\t+2<=z.2.2.2.1.size))) ?_ ?_)
    ·refine wpS_forRange (fun i (z:Option (Array Keyed) × Nat × Nat × Array Keyed × Nat × Nat × Nat) st'=>Eqv st st'/\z.1=none/\Hi S R a b z.2.2.2.1 z.2.1 z.2.2.1/\0 < z.2.1/\1 < z.2.2.1/\t+2<=z.2.2.2.1.size) ?_ (fun z j f=>⟨f.1,.inr f.2⟩) ⟨q2,rfl,o⟩
     intro i z j _ hi f
     have q:=f.1
     refine un7 (J:=fun na nb out _ _ _=>Hi S R a b out na nb/\0 < na/\1 < nb/\t+2<=out.size) z f.2 fun na nb out mg ac bc o=>?_
     have l:=o.1
     have p:=o.2.1
     have a3:=o.2.2.1
     have hsz:=o.2.2.2
     have b3:=l.na
     have O:=l.nb
     have ib:nb - 1 < b.size:=by omega
     dsimp only
     refine' jpn (M:=M) (A:=A) (E:=E) (s:=s) (st:=j) (β:=Nat) (P:=fun _=>True) (prog:=?prog) (fun W=>?use) (fun b6 _=>?pf)
     case use =>
      refine aap (fun hm=>?_) (fun hm=>?_)
      ·generalize mg - 1=m
       exact W m trivial
      ·exact W mg trivial
     refine wpS_bind (wpS_mono (Q:=fun _ K=>Eqv j K) (wpS_modify ⟨rfl,rfl,rfl,rfl⟩) fun _ K F=>?_)
     replace F:=q.trans F
     refine wpS_bind (aay (x:=b[nb - 1]) (aA4 ib) ?_)
     refine wpS_bind (agm C (N _ ib) T.ha (by omega) (by rw [List.drop_zero];exact aca T.sa) (by omega) (F.k.trans hk) fun k a9 G I=>?_)
     rw [List.drop_zero] at G I
     dsimp only
     generalize hac:na - k=ac2
     refine' jpn2 (M:=M) (A:=A) (E:=E) (s:=s) (st:=K) (P:=fun d c=>Hi S R a b d c nb/\0 < c/\(∀ x∈a.toList.take c,R b[nb - 1] x=false)/\t+2<=d.size) (prog:=?prog2) (fun W=>?use2) (fun d c h5=>?pf2)
     case use2 =>
      refine aap (fun k0=>?_) (fun k0=>?_)
      ·have a4:Srt R (b.toList.take (nb - 1) ++ [b[nb - 1]]):=by rw [← ack (by omega) O];exact aca T.sb
       have D:Hi S R a b (out ++ (a.extract k na).reverse) k nb:=l.runA a9 fun x g y hy=>by
        have sx:S x:=T.hb x (aC0 g)
        have sy:S y:=T.ha y (aC0 (aC4 hy))
        rw [ack (by omega) O] at g
        exact C.tr _ _ _ sx (N _ ib) sy (ael C a4 (N _ ib) x g) (C.asy _ _ (N _ ib) sy (I y hy))
       refine aap (fun w=>wpS_pure ⟨F,.inl ⟨_,rfl,D.doneA (.inl (aG4.mp w))⟩⟩) (fun w=>?_)
       have Z:Hi S R a b (out ++ (a.extract k na).reverse) k nb/\0 < k/\(∀ x∈a.toList.take k,R b[nb - 1] x=false)/\t+2<=(out ++ (a.extract k na).reverse).size:=by
        have a2:k ≠ 0:=fun q=>w (aG4.mpr q)
        exact ⟨D,by omega,G,by rw [Array.size_append];omega⟩
       revert Z
       clear w D
       generalize out ++ (a.extract k na).reverse=d
       generalize k=c
       intro Z
       exact W d c Z
      ·have:k=na:=by omega
       rw [this] at G
       exact W out na ⟨l,p,G,hsz⟩
     have l3:=h5.1
     have B:=h5.2.1
     have a6:=h5.2.2.1
     have b4:=h5.2.2.2
     have H:=l3.na
     have ia:c - 1 < a.size:=by omega
     refine wpS_bind (aay (x:=b[nb - 1]) (aA4 ib) ?_)
     have l4:=l3.pushB (by omega) a6
     refine aap (fun e5=>wpS_pure ⟨F,.inl ⟨_,rfl,l4.firstB T (aG4.mp e5)⟩⟩) (fun e5=>?_)
     replace e5:nb - 1 ≠ 1:=fun q=>e5 (aG4.mpr q)
     refine wpS_bind (aay (x:=a[c - 1]) (aA4 ia) ?_)
     refine wpS_bind (ah6 C (L _ ia) T.hb (by omega) (by rw [List.drop_zero];exact aca T.sb) (by omega) (F.k.trans hk) fun v a5 X Y=>?_)
     rw [List.drop_zero] at X Y
     dsimp only
     generalize hbc:nb - 1 - v=bc2
     refine' jpn2 (M:=M) (A:=A) (E:=E) (s:=s) (st:=K) (P:=fun n u=>Hi S R a b n c u/\1 < u/\(∀ x∈b.toList.take u,R a[c - 1] x=false)/\t+2<=n.size) (prog:=?prog3) (fun W=>?use3) (fun n u h6=>?pf3)
     case use3 =>
      have a1:∀ x∈b.toList.take v,R a[c - 1] x=false:=fun x g=>C.asy _ _ (T.hb x (aC0 g)) (L _ ia) (X x g)
      refine aap (fun k0=>?_) (fun k0=>?_)
      ·have a7:Srt R (a.toList.take (c - 1) ++ [a[c - 1]]):=by rw [← ack B H];exact aca T.sa
       have l5:Hi S R a b (d.push b[nb - 1] ++ (b.extract v (nb - 1)).reverse) c v:=l4.runB a5 fun x g y hy=>by
        have sx:S x:=T.ha x (aC0 g)
        have sy:S y:=T.hb y (aC0 (aC4 hy))
        rw [ack B H] at g
        exact C.tr _ _ _ sx (L _ ia) sy (ael C a7 (L _ ia) x g) (Y y hy)
       refine aap (fun e6=>wpS_pure ⟨F,.inl ⟨_,rfl,l5.firstB T (aG4.mp e6)⟩⟩) (fun e6=>?_)
       refine aap (fun U=>wpS_pure ⟨F,.inl ⟨_,rfl,l5.doneA (.inr (aG4.mp U))⟩⟩) (fun U=>?_)
       have Z:Hi S R a b (d.push b[nb - 1] ++ (b.extract v (nb - 1)).reverse) c v/\1 < v/\(∀ x∈b.toList.take v,R a[c - 1] x=false)/\t+2<=(d.push b[nb - 1] ++ (b.extract v (nb - 1)).reverse).size:=by
        have b5:v ≠ 1:=fun q=>e6 (aG4.mpr q)
        have b1:v ≠ 0:=fun q=>U (aG4.mpr q)
        exact ⟨l5,by omega,a1,by rw [Array.size_append,aI0];omega⟩
       revert Z
       clear e6 U l5
       generalize d.push b[nb - 1] ++ (b.extract v (nb - 1)).reverse=n
       generalize v=u
       intro Z
       exact W n u Z
      ·have:v=nb - 1:=by omega
       rw [this] at a1
       exact W (d.push b[nb - 1]) (nb - 1) ⟨l4,by omega,a1,by rw [aI0];omega⟩
     refine wpS_bind (aay (x:=a[c - 1]) (aA4 ia) ?_)
     have l7:=h6.1.pushA B h6.2.2.1
     refine aap (fun U=>wpS_pure ⟨F,.inl ⟨_,rfl,l7.doneA (.inl (aG4.mp U))⟩⟩) (fun U=>?_)
     have hf:0 < c - 1/\1 < u/\t+2<=(n.push a[c - 1]).size:=by
      have b1:c - 1 ≠ 0:=fun q=>U (aG4.mpr q)
      have h7:=h6.2.2.2
      exact ⟨by omega,h6.2.1,by rw [aI0];omega⟩
     exact aap (fun _=>wpS_pure ⟨F,.inr ⟨rfl,l7,hf⟩⟩) (fun _=>wpS_pure ⟨F,rfl,l7,hf⟩)
    ·intro z j f
     have q2:=f.1
     refine unR (J:=fun y:Nat × Nat × Array Keyed × Nat × Nat × Nat=>Hi S R a b y.2.2.1 y.1 y.2.1/\0 < y.1/\1 < y.2.1/\t+2<=y.2.2.1.size) z f.2 (fun r x hr=>wpS_pure ⟨q2,r,rfl,hr⟩) fun hN=>?_
     refine un7 (J:=fun na nb out _ _ _=>Hi S R a b out na nb/\0 < na/\1 < nb/\t+2<=out.size) z hN fun na nb out mg ac bc o=>?_
     dsimp only
     refine wpS_bind (wpS_modify ?_)
     exact wpS_pure ⟨q2.trans ⟨rfl,rfl,rfl,rfl⟩,rfl,o⟩
  ·intro z j f
   exfalso
   have G:=f.2.2.1.len
   have I:=f.2.2.2
   have:a.size+b.size<=max 0 (a.size+b.size):=by omega
   omega
 ·intro z j f
  have q2:=f.1
  exact unR (J:=fun _=>False) z (.inl f.2) (fun r x hr=>wpS_pure (h r j q2 hr)) fun hN=>hN.2.elim
end
theorem akq (base:Nat):∀ (b v u w:List Keyed) (j:Nat) (xs:Array Keyed),xs.toList=u ++ v ++ w->v.length=b.length->u.length=base+j ->
  ((b.zipIdx j).foldl (fun a x=>match x with | (p,j)=>a.setIfInBounds (base+j) p) xs).toList=u ++ b ++ w
 | [],v,u,w,j,xs,h1,h2,h3=>by
  have:v=[]:=aH3 h2
  subst this
  exact h1
 | m :: b,v,u,w,j,xs,h1,h2,h3=>by
  cases v with
  | nil=>cases h2
  | cons y v =>
   rw [List.zipIdx_cons,List.foldl_cons]
   have c:=akq base b v (u ++ [m]) w (j+1) (xs.setIfInBounds (base+j) m) (by
    rw [Array.toList_setIfInBounds,h1,← h3]
    simp [List.set_append]) (by simpa using h2) (by simp [h3];omega)
   rw [c]
   simp
section
variable {M:Model} {A:Around} {E:Value->Shared->Prop} {s:Shared} {κ:SortKind} {S:Keyed->Prop} {R:Keyed->Keyed->Bool}
theorem aw6 {σ:Type} {st st' : σ} {Q:PUnit->σ->Prop} (h:Q ⟨⟩ st'):wpS M A E s (set st':StateT σ Sem PUnit) Q st:=by
 unfold wpS
 rw [StateT.run_set]
 exact aJ3 ⟨rfl,h⟩
theorem aqq (C:Cmp M A E s κ S R) {st:SortSt} {i pw pw2:Nat} {pre a b g:List Keyed} (F:(arrOf st).toList=pre ++ a ++ b ++ g) (hS:∀ x∈(arrOf st).toList,S x)
  (a2:(pendingOf st)[i]?=some (pre.length,a.length,pw)) (a5:(pendingOf st)[i+1]?=some (pre.length+a.length,b.length,pw2)) (na:a ≠ []) (nb:b ≠ []) (U:Srt R a) (O:Srt R b) (hk:kindOf st = κ) (hf:failedOf st=none)
  {Q:Bool->SortSt->Prop}
  (h:∀ st' m,kindOf st' = κ->failedOf st'=none->pendingOf st'=((pendingOf st).setIfInBounds i (pre.length,a.length+b.length,pw)).eraseIdxIfInBounds (i+1)->(arrOf st').toList=pre ++ m ++ g->m.Perm (a ++ b)->Srt R m->Q true st') :
  wpS M A E s (amt i) Q st:=by
 have la:0 < a.length:=aG0.mpr na
 have lb:0 < b.length:=aG0.mpr nb
 have I:∀ x∈a,S x:=fun x c=>hS x (by rw [F];simp [c])
 have L:∀ x∈b,S x:=fun x c=>hS x (by rw [F];simp [c])
 have lx:(arrOf st).size=pre.length+a.length+b.length+g.length:=by
  have:=congrArg List.length F
  simp at this
  omega
 have B:((arrOf st).toList.drop pre.length).take a.length=a:=by rw [F];simp [aB4]
 have w:((arrOf st).toList.drop (pre.length+a.length)).take b.length=b:=by
  rw [show pre.length+a.length=(pre ++ a).length by simp,F,aB4 (pre ++ a),List.drop_left,List.take_left]
 refine wpS_bind (wpS_get ?_)
 rw [a2,a5]
 refine wpS_bind (wpS_mono (Q:=fun _ o=>kindOf o = κ/\failedOf o=none/\arrOf o=arrOf st/\pendingOf o=((pendingOf st).setIfInBounds i (pre.length,a.length+b.length,pw)).eraseIdxIfInBounds (i+1)) (aw6 ⟨hk,hf,rfl,rfl⟩) fun _ o ⟨W,f1,a1,p1⟩=>?_)
 obtain ⟨b0,bt,eb⟩:∃ b0 bt,b=b0 :: bt:=by cases b with | nil=>exact absurd rfl nb | cons x r=>exact ⟨x,r,rfl⟩
 have a7:(arrOf st)[pre.length+a.length]?=some b0:=by
  rw [← aD5,F,eb]
  simp [List.getElem?_append]
 have v:S b0:=L b0 (by rw [eb];simp)
 have D:∀ y∈b,R y b0=false:=fun y d=>by rw [eb] at d O;exact ae1 C O v y d
 -- nothing is laid together: the two stand in order already
 have plain:(∀ x∈a,∀ y∈b,R y x=false)->∀ st',Eqv o st'->Q true st':=fun hc st' q=>by
  refine h st' (a ++ b) (q.k.trans W) (q.f.trans f1) (q.p.trans p1) ?_ (List.Perm.refl _) (aC9.mpr ⟨U,O,hc⟩)
  rw [q.a,a1,F]
  simp [aB4]
 refine wpS_bind (aay a7 ?_)
 refine wpS_bind (agm C v hS (by omega) (by rw [B];exact U) la W fun k a6 h1 h2=>?_)
 rw [B] at h2
 have H:∀ x∈a.take k,R b0 x=false:=fun x c=>h1 x (by
  have:((arrOf st).toList.drop pre.length).take k=a.take k:=by rw [← B,List.take_take,Nat.min_eq_left a6]
  rw [this];exact c)
 dsimp only
 refine aap (fun e=>?_) (fun e=>?_)
 ·have e':a.length - k=0:=by simpa using e
  refine wpS_pure (plain (fun x c y d=>?_) o (Eqv.refl _))
  have:a.take k=a:=aF1 (by omega)
  rw [this] at H
  exact C.tr x b0 y (I x c) v (L y d) (H x c) (D y d)
 ·have e':a.length - k ≠ 0:=by simpa using e
  -- the last of a
  have P:pre.length+k+(a.length - k) - 1=pre.length+(a.length - 1):=by omega
  have n:a.length - 1 < a.length:=by omega
  have a8:(arrOf st)[pre.length+k+(a.length - k) - 1]?=some (a[a.length - 1]'n):=by
   rw [← aD5,F,P]
   simp [List.getElem?_append,n,aB4]
  have Sl:S (a[a.length - 1]'n):=I _ (aF2 n)
  have u:a=a.take (a.length - 1) ++ [a[a.length - 1]'n]:=by
   have:=List.take_succ (l:=a) (i:=a.length - 1)
   rw [show a.length - 1+1=a.length by omega,aG9] at this
   simpa [n] using this
  have K:∀ x∈a,R (a[a.length - 1]'n) x=false:=fun x c=>by
   have hs:Srt R (a.take (a.length - 1) ++ [a[a.length - 1]'n]):=by rw [← u];exact U
   exact ael C hs Sl x (by rw [← u];exact c)
  refine wpS_bind (aay a8 ?_)
  refine wpS_bind (ah6 C Sl hS (by omega) (by rw [w];exact O) (by omega) W fun j a3 h3 h4=>?_)
  rw [w] at h4
  have Z:((arrOf st).toList.drop (pre.length+a.length)).take j=b.take j:=by rw [← w,List.take_take,Nat.min_eq_left a3]
  rw [Z] at h3
  dsimp only
  refine aap (fun e2=>?_) (fun e2=>?_)
  ·have a0:j=0:=by simpa using e2
   subst a0
   refine wpS_pure (plain (fun x c y d=>?_) o (Eqv.refl _))
   exact C.tr x _ y (I x c) Sl (L y d) (K x c) (h4 y (by simpa using d))
  ·have a0:j ≠ 0:=by simpa using e2
   have ex:((arrOf st).extract (pre.length+k) (pre.length+a.length)).toList=a.drop k:=by
    rw [amu,F]
    simp [aB4,List.take_append,List.drop_append]
   have N:((arrOf st).extract (pre.length+a.length) (pre.length+a.length+j)).toList=b.take j:=by
    rw [ajv,Z]
   generalize hX:(arrOf st).extract (pre.length+k) (pre.length+a.length)=X at ex
   generalize hY:(arrOf st).extract (pre.length+a.length) (pre.length+a.length+j)=Y at N
   have sX:X.size=a.length - k:=by have:=congrArg List.length ex;simpa using this
   have sY:Y.size=j:=by have:=congrArg List.length N;simp at this;omega
   have T:Two S R X Y:=by
    refine ⟨fun x c=>I x (aC4 (by rw [← ex];exact c)),fun x c=>L x (aC0 (by rw [← N];exact c)),by rw [ex];exact acx U,by rw [N];exact aca O,by omega,by omega,fun x c y d=>?_,fun y d x c=>?_⟩
    ·rw [← aD5,N,eb] at d
     have:y=b0:=by
      obtain ⟨j',rfl⟩:∃ j',j=j'+1:=⟨j - 1,by omega⟩
      simpa using d.symm
     rw [this]
     rw [ex] at c
     exact C.asy _ _ v (I x (aC4 c)) (h2 x c)
    ·rw [← aD5,ex,sX] at c
     rw [aI3,show k+(a.length - k - 1)=a.length - 1 by omega,aA0 n] at c
     cases c
     rw [N] at d
     exact C.asy _ _ (L y (aC0 d)) Sl (h3 y d)
   have fin:∀ (m:Array Keyed) (st':SortSt),Eqv o st'->Fin2 R X Y m->wpS M A E s (do
     modify fun (z:SortSt)=>setArr z (List.foldl (fun a x=>match x with | (p,j)=>a.setIfInBounds (pre.length+k+j) p) (arrOf z) m.toList.zipIdx)
     let z ← get
     pure (failedOf z).isNone) Q st':=by
    intro m st' q ⟨G,ms⟩
    rw [ex,N] at G
    refine wpS_bind (wpS_modify ?_)
    refine wpS_bind (wpS_get ?_)
    refine wpS_pure ?_
    show Q (failedOf st').isNone _
    rw [q.f,f1]
    have lm:m.toList.length=(a.drop k).length+(b.take j).length:=by rw [G.length_eq,aB1]
    have J:∀ z∈m.toList,z∈a.drop k\/z∈b.take j:=fun z hz=>aA7.mp (G.mem_iff.mp hz)
    refine h _ (a.take k ++ m.toList ++ b.drop j) (q.k.trans W) (q.f.trans f1) (q.p.trans p1) ?_ ?_ ?_
    ·show (List.foldl _ (arrOf st') m.toList.zipIdx).toList=_
     have base:(arrOf st').toList=(pre ++ a.take k) ++ (a.drop k ++ b.take j) ++ (b.drop j ++ g):=by
      rw [q.a,a1,F]
      have t1:=aC1 k a
      have t2:=aC1 j b
      calc pre ++ a ++ b ++ g=pre ++ (a.take k ++ a.drop k) ++ (b.take j ++ b.drop j) ++ g:=by rw [t1,t2]
       _=_:=by simp only [aB4]
     have:=akq (pre.length+k) m.toList (a.drop k ++ b.take j) (pre ++ a.take k) (b.drop j ++ g) 0 (arrOf st') base (by rw [aB1,lm]) (by rw [aB1,aH1];omega)
     rw [this]
     simp only [aB4]
    ·have t1:=aC1 k a
     have t2:=aC1 j b
     calc (a.take k ++ m.toList ++ b.drop j).Perm (a.take k ++ (a.drop k ++ b.take j) ++ b.drop j):=List.Perm.append_right _ (List.Perm.append_left _ G)
      _ = a ++ b:=by
       simp only [aB4]
       rw [t2,← aB4,t1]
    ·have a4:Srt R (a.take k ++ a.drop k):=by rw [aC1];exact U
     have a9:Srt R (b.take j ++ b.drop j):=by rw [aC1];exact O
     have ca:=(aC9.mp a4).2.2
     have cb:=(aC9.mp a9).2.2
     refine aC9.mpr ⟨aC9.mpr ⟨aca U,ms,fun x c y d=>?_⟩,acx O,fun x c y d=>?_⟩
     ·rcases J y d with d | d
      ·exact ca x c y d
      ·exact C.tr x b0 y (I x (aC0 c)) v (L y (aC0 d)) (H x c) (D y (aC0 d))
     ·have Sy:=L y (aC4 d)
      rcases aA7.mp c with c | c
      ·exact C.tr x b0 y (I x (aC0 c)) v Sy (H x c) (D y (aC4 d))
      ·rcases J x c with c | c
       ·exact C.tr x _ y (I x (aC4 c)) Sl Sy (K x (aC4 c)) (h4 y d)
       ·exact cb x c y d
   refine aap (fun e3=>?_) (fun e3=>?_)
   ·exact wpS_bind (aqo C T W fun m st' q fm=>fin m st' q fm)
   ·exact wpS_bind (aqp C T W fun m st' q fm=>fin m st' q fm)
end
def e (xs:Array Keyed) (k:Nat):Keyed:=(xs[k]?).getD (.none,.none)
theorem ais {xs:Array Keyed} {k:Nat} (h:k < xs.size):xs[k]?=some (e xs k):=by
 unfold e;rw [aA4 h];rfl
def Asc (R:Keyed->Keyed->Bool) (xs:Array Keyed) (l h:Nat):Prop:=∀ i j,l<=i->i<=j->j < h->R (e xs j) (e xs i)=false
def Des (R:Keyed->Keyed->Bool) (xs:Array Keyed) (l h:Nat):Prop:=∀ i j,l<=i->i<=j->j < h->R (e xs i) (e xs j)=false
structure Bs (κ:SortKind) (p0:Array (Nat × Nat × Nat)) (a0:Array Keyed) (lo:Nat) (st:SortSt):Prop where
 k:kindOf st = κ
 f:failedOf st=none
 p:pendingOf st=p0
 perm:(arrOf st).toList.Perm a0.toList
 pre:∀ k,k < lo->(arrOf st)[k]?=a0[k]?
theorem aua {xs:Array Keyed} {src d:Nat} (hs:src < xs.size) (hd:d<=src) (k:Nat):e (bubble xs src d) k=if k=src - d then e xs src else if src - d < k/\k<=src then e xs (k - 1) else e xs k:=by
 unfold e
 rw [getElem?_bubble hs d hd]
 repeat' split
 all_goals rfl
theorem adl {xs:Array Keyed} {i j:Nat} (a:j<=xs.size) (k:Nat):e (mirror xs i j ((j - i) / 2)) k=if i<=k/\k < j then e xs (i+j - 1 - k) else e xs k:=by
 unfold e
 rw [getElem?_mirror_all a]
 split <;> rfl
section
variable {M:Model} {A:Around} {E:Value->Shared->Prop} {s:Shared} {κ:SortKind} {S:Keyed->Prop} {R:Keyed->Keyed->Bool} {p0:Array (Nat × Nat × Nat)} {a0:Array Keyed} {lo:Nat}
theorem Bs.size {st:SortSt} (B:Bs κ p0 a0 lo st):(arrOf st).size=a0.size:=by
 have:=B.perm.length_eq
 simpa using this
theorem Bs.sat {st:SortSt} (B:Bs κ p0 a0 lo st) (a:∀ x∈a0.toList,S x) {k:Nat} (b:k < a0.size):S (e (arrOf st) k):=by
 have h:=ais (xs:=arrOf st) (k:=k) (by rw [B.size];exact b)
 refine a _ (B.perm.mem_iff.mp ?_)
 rw [← aD5] at h
 exact aA2 h
theorem agn (C:Cmp M A E s κ S R) (a:∀ x∈a0.toList,S x) {st:SortSt} (B:Bs κ p0 a0 lo st) {i j:Nat} (hi:i < a0.size) (b:j < a0.size) {Q:Option Bool->SortSt->Prop} (h:Q (some (R (e (arrOf st) i) (e (arrOf st) j))) st) :
  wpS M A E s (ltAt' i j) Q st:=by
 rw [ltAt'_eq]
 refine wpS_bind (wpS_get ?_)
 refine wpS_bind (aay (ais (by rw [B.size];exact hi)) ?_)
 refine wpS_bind (aay (ais (by rw [B.size];exact b)) ?_)
 exact C.ask _ _ (B.sat a hi) (B.sat a b) _ _ B.k h
theorem aub (C:Cmp M A E s κ S R) {xs:Array Keyed} {l h:Nat} (b:∀ k,k<=h->S (e xs k)) (f:l < h) (a:Asc R xs l h) (n:R (e xs h) (e xs (h - 1))=false):Asc R xs l (h+1):=by
 intro i j c d g
 by_cases hj:j=h
 ·subst hj
  by_cases hi:i=j
  ·subst hi;exact C.irr (b _ (aA6 _))
  ·exact C.tr _ (e xs (j - 1)) _ (b _ (by omega)) (b _ (by omega)) (b _ (by omega)) (a i (j - 1) c (by omega) (by omega)) n
 ·exact a i j c d (by omega)
theorem aft (C:Cmp M A E s κ S R) {xs:Array Keyed} {l h:Nat} (b:∀ k,k<=h->S (e xs k)) (f:l < h) (a:Des R xs l h) (n:R (e xs (h - 1)) (e xs h)=false):Des R xs l (h+1):=by
 intro i j c d g
 by_cases hj:j=h
 ·subst hj
  by_cases hi:i=j
  ·subst hi;exact C.irr (b _ (aA6 _))
  ·exact C.tr _ (e xs (j - 1)) _ (b _ (by omega)) (b _ (by omega)) (b _ (by omega)) n (a i (j - 1) c (by omega) (by omega))
 ·exact a i j c d (by omega)
theorem Bs.set {st:SortSt} (B:Bs κ p0 a0 lo st) {xs:Array Keyed} (c:xs.Perm (arrOf st)) (b:∀ k,k < lo->xs[k]?=(arrOf st)[k]?):Bs κ p0 a0 lo (setArr st xs) :=
 ⟨B.k,B.f,B.p,c.toList.trans B.perm,fun k a=>(b k a).trans (B.pre k a)⟩
theorem aqr (C:Cmp M A E s κ S R) (w:∀ x∈a0.toList,S x) {st:SortSt} (B:Bs κ p0 a0 lo st) {n ok:Nat} (hn:lo+n<=a0.size) (hok:ok<=n) (N:1<=n) (hs:Asc R (arrOf st) lo (lo+ok)) {Q:Bool->SortSt->Prop}
  (h:∀ st',Bs κ p0 a0 lo st'->Asc R (arrOf st') lo (lo+n)->Q true st'):wpS M A E s (at9 lo n ok) Q st:=by
 refine wpS_bind (wpS_mono (Q:=fun (z:Option Bool × Unit) st'=>z.1=none/\Bs κ p0 a0 lo st'/\Asc R (arrOf st') lo (lo+n)) ?_ ?_)
 ·refine wpS_forRange (fun k (z:Option Bool × Unit) st'=>z.1=none/\Bs κ p0 a0 lo st'/\Asc R (arrOf st') lo (lo+k)) ?_ ?_ ⟨rfl,B,fun i j f m u=>?_⟩
  ·rintro k ⟨o,_⟩ b I K ⟨rfl,q,as⟩
   have d:∀ j,j < lo+n->S (e (arrOf b) j):=fun j v=>q.sat w (by omega)
   refine wpS_bind (wpS_mono (Q:=fun (z:Option Bool × Nat × Nat) st'=>st'=b/\z.1=none/\z.2.1<=k/\(∀ i,i < z.2.1->R (e (arrOf b) (lo+k)) (e (arrOf b) (lo+i))=false)/\(∀ i,z.2.1<=i->i < k->R (e (arrOf b) (lo+k)) (e (arrOf b) (lo+i))=true)) ?_ ?_)
   ·refine wpS_forRange (fun t (z:Option Bool × Nat × Nat) st'=>st'=b/\z.1=none/\z.2.1<=z.2.2/\z.2.2<=k/\z.2.2 - z.2.1+t<=k/\(∀ i,i < z.2.1->R (e (arrOf b) (lo+k)) (e (arrOf b) (lo+i))=false)/\(∀ i,z.2.2<=i->i < k->R (e (arrOf b) (lo+k)) (e (arrOf b) (lo+i))=true)) ?_ ?_
     ⟨rfl,rfl,Nat.zero_le _,Nat.le_refl _,by dsimp only;omega,fun i hi=>absurd hi (Nat.not_lt_zero _),fun i f m=>by dsimp only at f;omega⟩
    ·rintro t ⟨o,l,r⟩ a _ O ⟨rfl,c,f,m,u,g,p⟩
     dsimp only at c f m u g p ⊢
     subst c
     refine aap (fun D=>?_) (fun D=>?_)
     ·have:l=r:=by omega
      subst this
      exact wpS_pure ⟨rfl,rfl,m,g,p⟩
     ·have hm:(l+r) / 2 < r:=by omega
      have F:l<=(l+r) / 2:=by omega
      refine wpS_bind (agn C w q (by omega) (by omega) ?_)
      dsimp only
      cases er:R (e (arrOf a) (lo+k)) (e (arrOf a) (lo+(l+r) / 2)) with
      | true =>
       rw [aF6 rfl]
       refine wpS_pure ⟨rfl,rfl,F,by dsimp only;omega,by dsimp only;omega,g,fun i i1 y=>?_⟩
       dsimp only at i1
       cases e2:R (e (arrOf a) (lo+k)) (e (arrOf a) (lo+i)) with
       | true=>rfl
       | false =>
        have:=C.tr _ _ _ (d _ (by omega)) (d _ (by omega)) (d _ (by omega)) (as (lo+(l+r) / 2) (lo+i) (by omega) (by omega) (by omega)) e2
        rw [this] at er;cases er
      | false =>
       rw [aF7 (by decide)]
       refine wpS_pure ⟨rfl,rfl,by dsimp only;omega,m,by dsimp only;omega,fun i i1=>?_,p⟩
       dsimp only at i1
       exact C.tr _ _ _ (d _ (by omega)) (d _ (by omega)) (d _ (by omega)) (as (lo+i) (lo+(l+r) / 2) (by omega) (by omega) (by omega)) er
    ·rintro ⟨o,l,r⟩ a ⟨rfl,c,f,m,u,g,p⟩
     dsimp only at c f m u g p ⊢
     have : l = r := by have:k ≤ max 0 k := by omega
                        omega
     subst this
     exact ⟨rfl,c,m,g,p⟩
   ·rintro ⟨o,l,r⟩ a ⟨rfl,c,f,g,p⟩
    dsimp only at c f g p ⊢
    subst c
    dsimp only
    have hsz:lo+k < (arrOf a).size:=by rw [q.size];omega
    have hd:(lo+k) - (lo+l)=k - l:=by omega
    refine wpS_bind (wpS_modify ?_)
    have G:∀ j,e (bubble (arrOf a) (lo+k) (lo+k - (lo+l))) j=if j=lo+l then e (arrOf a) (lo+k) else if lo+l < j/\j<=lo+k then e (arrOf a) (j - 1) else e (arrOf a) j:=fun j=>by
     rw [aua hsz (by omega),show lo+k - (lo+k - (lo+l))=lo+l by omega]
    refine wpS_pure ⟨rfl,q.set (bubble_perm _ _ _) (fun j v=>?_),fun i j i1 y J=>?_⟩
    ·show (bubble (arrOf a) (lo+k) (lo+k - (lo+l)))[j]?=_
     rw [getElem?_bubble hsz _ (by omega),aF7 (by omega),aF7 (by omega)]
    ·show R (e (bubble (arrOf a) (lo+k) (lo+k - (lo+l))) j) (e (bubble (arrOf a) (lo+k) (lo+k - (lo+l))) i)=false
     rw [G,G]
     have L:∀ j,j < lo+n->S (e (arrOf a) j):=d
     by_cases j1:j=lo+l
     ·rw [aF6 j1]
      by_cases i4:i=lo+l
      ·rw [aF6 i4];exact C.irr (d _ (by omega))
      ·rw [aF7 i4,aF7 (by omega)]
       have:=g (i - lo) (by omega)
       rw [show lo+(i - lo)=i by omega] at this
       exact this
     ·rw [aF7 j1]
      by_cases j2:lo+l < j/\j<=lo+k
      ·rw [aF6 j2]
       have H:=p (j - 1 - lo) (by omega) (by omega)
       rw [show lo+(j - 1 - lo)=j - 1 by omega] at H
       by_cases i4:i=lo+l
       ·rw [aF6 i4];exact C.asy _ _ (d _ (by omega)) (d _ (by omega)) H
       ·rw [aF7 i4]
        by_cases i5:lo+l < i/\i<=lo+k
        ·rw [aF6 i5];exact as (i - 1) (j - 1) (by omega) (by omega) (by omega)
        ·rw [aF7 i5];exact as i (j - 1) (by omega) (by omega) (by omega)
      ·rw [aF7 j2,aF7 (by omega),aF7 (by omega)]
       exact as i j (by omega) (by omega) (by omega)
  ·rintro ⟨o,_⟩ b ⟨c,q,as⟩
   exact ⟨c,q,fun i j i1 y J=>as i j i1 y (by omega)⟩
  ·by_cases v:j < lo+ok
   ·exact hs i j f m v
   ·have:i=j:=by omega
    subst this
    exact C.irr (B.sat w (by omega))
 ·rintro ⟨o,_⟩ b ⟨c,q,as⟩
  dsimp only at c ⊢
  subst c
  exact wpS_pure (h b q as)
end
def Eqb (R:Keyed->Keyed->Bool) (xs:Array Keyed) (l h:Nat):Prop:=∀ i j,l<=i->i < h->l<=j->j < h->R (e xs i) (e xs j)=false
section
variable {M:Model} {A:Around} {E:Value->Shared->Prop} {s:Shared} {κ:SortKind} {S:Keyed->Prop} {R:Keyed->Keyed->Bool} {p0:Array (Nat × Nat × Nat)} {a0:Array Keyed} {lo:Nat}
theorem apb {α:Type} {prog:StateT SortSt Sem α} {P:SortSt->Prop} {Q : α->SortSt->Prop} {G:Prop} (use:(∀ st,P st->wpS M A E s prog Q st)->G) (a:∀ st,P st->wpS M A E s prog Q st):G:=use a
theorem amv (C:Cmp M A E s κ S R) (f:∀ x∈a0.toList,S x) {st:SortSt} (B:Bs κ p0 a0 lo st) {a nrem:Nat} (i:1<=a) (g:a<=nrem) (hn:lo+nrem<=a0.size) (as:Asc R (arrOf st) lo (lo+a)) {Q:Option (Option Nat) × Nat->SortSt->Prop}
  (h:∀ n,a<=n->n<=nrem->Asc R (arrOf st) lo (lo+n)->(n < nrem->R (e (arrOf st) (lo+n)) (e (arrOf st) (lo+n - 1))=true)->Q (none,n) st) :
  wpS M A E s (forIn [a:nrem] ((none,a):Option (Option Nat) × Nat) (fun (_:Nat) z=>ltAt' (lo+z.2) (lo+z.2 - 1) >>= fun x=>match x with
   | some smaller=>if smaller=true then pure (ForInStep.done (none,z.2)) else pure (ForInStep.yield (none,z.2+1))
   | _=>pure (ForInStep.done (some none,z.2)))) Q st:=by
 refine wpS_forRange (fun t (z:Option (Option Nat) × Nat) st'=>st'=st/\z=(none,t)/\Asc R (arrOf st) lo (lo+t)) ?_ ?_ ⟨rfl,rfl,as⟩
 ·rintro t ⟨o,n⟩ c t1 j ⟨rfl,d,b⟩
  cases d
  dsimp only
  refine wpS_bind (agn C f B (by omega) (by omega) ?_)
  dsimp only
  cases er:R (e (arrOf c) (lo+t)) (e (arrOf c) (lo+t - 1)) with
  | true =>
   rw [aF6 rfl]
   exact wpS_pure (h t t1 (by omega) b fun _=>er)
  | false =>
   rw [aF7 (by decide)]
   exact wpS_pure ⟨rfl,rfl,aub C (h:=lo+t) (fun k l=>B.sat f (by omega)) (by omega) b er⟩
 ·rintro ⟨o,n⟩ c ⟨rfl,d,b⟩
  cases d
  rw [show max a nrem=nrem by omega] at b ⊢
  exact h nrem g (aA6 _) b fun z=>absurd z (aG5 _)
theorem auc (C:Cmp M A E s κ S R) {st:SortSt} (B:Bs κ p0 a0 lo st) {n:Nat} (hn:lo+n<=a0.size) (b:Des R (arrOf st) lo (lo+n)) :
  Bs κ p0 a0 lo (setArr st (mirror (arrOf st) lo (lo+n) ((lo+n - lo) / 2)))/\Asc R (mirror (arrOf st) lo (lo+n) ((lo+n - lo) / 2)) lo (lo+n):=by
 have a:lo+n<=(arrOf st).size:=by rw [B.size];exact hn
 refine ⟨B.set (mirror_perm _ _ _ _) (fun k c=>by rw [getElem?_mirror_all a,aF7 (by omega)]),fun i j d f g=>?_⟩
 rw [adl a,adl a,aF6 (by omega),aF6 (by omega)]
 exact b _ _ (by omega) (by omega) (by omega)
theorem ajw (C:Cmp M A E s κ S R) (c:∀ x∈a0.toList,S x) {st:SortSt} (B:Bs κ p0 a0 lo st) {l h m:Nat} (p:lo<=l) (hh:h<=a0.size) (hm:h<=m) (f:m<=a0.size) (b:Des R (arrOf st) lo m) (eq:Eqb R (arrOf st) l h) :
  Bs κ p0 a0 lo (setArr st (mirror (arrOf st) l h ((h - l) / 2)))/\Des R (mirror (arrOf st) l h ((h - l) / 2)) lo m:=by
 have a:h<=(arrOf st).size:=by rw [B.size];exact hh
 refine ⟨B.set (mirror_perm _ _ _ _) (fun k d=>by rw [getElem?_mirror_all a,aF7 (by omega)]),fun i j g n q=>?_⟩
 rw [adl a,adl a]
 have o:∀ k,k < m->S (e (arrOf st) k):=fun k d=>B.sat c (by omega)
 by_cases c1:l<=i/\i < h
 ·rw [aF6 c1]
  by_cases c2:l<=j/\j < h
  ·rw [aF6 c2]
   exact eq _ _ (by omega) (by omega) (by omega) (by omega)
  ·rw [aF7 c2]
   exact b _ _ (by omega) (by omega) (by omega)
 ·rw [aF7 c1]
  by_cases c2:l<=j/\j < h
  ·rw [aF6 c2]
   exact b _ _ (by omega) (by omega) (by omega)
  ·rw [aF7 c2]
   exact b _ _ (by omega) (by omega) (by omega)
theorem asa (C:Cmp M A E s κ S R) (p:∀ x∈a0.toList,S x) {st:SortSt} (B:Bs κ p0 a0 lo st) {nrem:Nat} (h1:1<=nrem) (hn:lo+nrem<=a0.size) {Q:Option Nat->SortSt->Prop}
  (h:∀ st' n,Bs κ p0 a0 lo st'->1<=n->n<=nrem->Asc R (arrOf st') lo (lo+n)->Q (some n) st'):wpS M A E s (aw5 lo nrem) Q st:=by
 refine wpS_bind (amv C p B (aA6 1) h1 hn (fun i j i1 r U=>?_) fun n n1 n2 as br=>?_)
 ·have:i=j:=by omega
  subst this
  exact C.irr (B.sat p (by omega))
 dsimp only
 refine aap (fun en=>wpS_pure (h st n B n1 n2 as)) (fun en=>?_)
 have a5:n ≠ nrem:=by simpa using en
 have Y:n < nrem:=by omega
 have I:=br Y
 refine apb (M:=M) (A:=A) (E:=E) (s:=s) (α:=Option Nat) (Q:=Q) (P:=fun u=>Bs κ p0 a0 lo u/\Des R (arrOf u) lo (lo+n)/\R (e (arrOf u) (lo+n)) (e (arrOf u) (lo+n - 1))=true) (prog:=?prog) (fun K=>?use) (fun u ⟨N,de,Z⟩=>?pf)
 case use =>
  refine aap (fun g1=>?_) (fun g1=>?_)
  ·refine wpS_bind (agn C p B (by omega) (by omega) ?_)
   dsimp only
   cases er:R (e (arrOf st) lo) (e (arrOf st) (lo+n - 1)) with
   | true=>rw [aF6 rfl];exact wpS_pure (h st n B n1 n2 as)
   | false =>
    rw [aF7 (by decide)]
    -- all of them are equal
    have c:∀ k,k < lo+n->S (e (arrOf st) k):=fun k J=>B.sat p (by omega)
    have all:Eqb R (arrOf st) lo (lo+n):=fun i j i1 r y w=>by
     -- j<=last<=first<=i
     have a1:=as j (lo+n - 1) y (by omega) (by omega)
     have a2:=as lo i (aA6 _) i1 r
     exact C.tr _ _ _ (c j w) (c lo (by omega)) (c i r) (C.tr _ _ _ (c j w) (c (lo+n - 1) (by omega)) (c lo (by omega)) a1 er) a2
    have de:Des R (arrOf st) lo (lo+n):=fun i j i1 r U=>all i j i1 (by omega) (by omega) U
    have T:lo+n<=(arrOf st).size:=by rw [B.size];omega
    obtain ⟨q,a⟩:=ajw C p B (aA6 lo) (show lo+n<=a0.size by omega) (aA6 _) (by omega) de all
    refine wpS_bind (wpS_modify ?_)
    refine K _ ⟨q,a,?_⟩
    show R (e (mirror (arrOf st) lo (lo+n) ((lo+n - lo) / 2)) (lo+n)) (e (mirror (arrOf st) lo (lo+n) ((lo+n - lo) / 2)) (lo+n - 1))=true
    rw [adl T,adl T,aF7 (by omega),aF6 (by omega)]
    rw [show lo+(lo+n) - 1 - (lo+n - 1)=lo by omega]
    cases e2:R (e (arrOf st) (lo+n)) (e (arrOf st) lo) with
    | true=>rfl
    | false =>
     have:=C.tr _ _ _ (c (lo+n - 1) (by omega)) (c lo (by omega)) (B.sat p (show lo+n < a0.size by omega)) er e2
     rw [this] at I;cases I
  ·have:n=1:=by omega
   subst this
   refine K st ⟨B,fun i j i1 r U=>?_,I⟩
   have:i=j:=by omega
   subst this
   exact C.irr (B.sat p (by omega))
 case pf =>
  -- the falling part
  refine wpS_bind (ad6 ?_)
  refine wpS_bind (wpS_mono (Q:=fun (z:Option (Option Nat) × Nat × Nat) st'=>z.1=none/\Bs κ p0 a0 lo st'/\z.2.1<=nrem/\z.2.2+1<=z.2.1/\Des R (arrOf st') lo (lo+z.2.1)/\Eqb R (arrOf st') (lo+z.2.1 - (z.2.2+1)) (lo+z.2.1)) ?_ ?_)
  ·refine wpS_forRange (fun t (z:Option (Option Nat) × Nat × Nat) st'=>z.1=none/\z.2.1=t/\Bs κ p0 a0 lo st'/\z.2.2+1<=z.2.1/\Des R (arrOf st') lo (lo+z.2.1)/\Eqb R (arrOf st') (lo+z.2.1 - (z.2.2+1)) (lo+z.2.1)) ?_ ?_ ⟨rfl,rfl,N,by dsimp only;omega,?_,fun i j i1 r y w=>?_⟩
   ·rintro t ⟨o,m,b⟩ d t1 t2 ⟨D,O,q,G,a,f⟩
    dsimp only at D O G a f ⊢
    subst D O
    have c:∀ k,k < a0.size->S (e (arrOf d) k):=fun k J=>q.sat p J
    refine wpS_bind (agn C p q (by omega) (by omega) ?_)
    dsimp only
    cases er:R (e (arrOf d) (lo+m)) (e (arrOf d) (lo+m - 1)) with
    | true =>
     rw [aF6 rfl]
     refine aap (fun g=>?_) (fun g=>?_)
     ·have T:lo+m<=(arrOf d).size:=by rw [q.size];omega
      obtain ⟨H,v⟩:=ajw C p q (l:=lo+m - (b+1)) (h:=lo+m) (by omega) (by omega) (aA6 _) (by omega) a f
      have L:∀ k,e (mirror (arrOf d) (lo+m - (b+1)) (lo+m) ((lo+m - (lo+m - (b+1))) / 2)) k=if lo+m - (b+1)<=k/\k < lo+m then e (arrOf d) (lo+m - (b+1)+(lo+m) - 1 - k) else e (arrOf d) k:=fun k=>adl T k
      refine wpS_bind (wpS_modify ?_)
      refine wpS_pure ⟨rfl,rfl,H,by dsimp only;omega,?_,fun i j i1 r y w=>?_⟩
      ·show Des R (mirror (arrOf d) (lo+m - (b+1)) (lo+m) ((lo+m - (lo+m - (b+1))) / 2)) lo (lo+(m+1))
       refine aft C (h:=lo+m) (fun k J=>H.sat p (by omega)) (by omega) v ?_
       rw [L,L,aF6 (by omega),aF7 (by omega)]
       rw [show lo+m - (b+1)+(lo+m) - 1 - (lo+m - 1)=lo+m - (b+1) by omega]
       exact C.tr _ _ _ (c _ (by omega)) (c (lo+m - 1) (by omega)) (c _ (by omega)) (C.asy _ _ (c _ (by omega)) (c _ (by omega)) er) (a _ _ (by omega) (by omega) (by omega))
      ·dsimp only at i1 r y w
       have:i=j:=by omega
       subst this
       exact C.irr (H.sat p (by omega))
     ·have:b=0:=by omega
      subst this
      refine wpS_pure ⟨rfl,rfl,q,by dsimp only;omega,aft C (h:=lo+m) (fun k J=>c k (by omega)) (by omega) a (C.asy _ _ (c _ (by omega)) (c _ (by omega)) er),fun i j i1 r y w=>?_⟩
      dsimp only at i1 r y w
      have:i=j:=by omega
      subst this
      exact C.irr (c _ (by omega))
    | false =>
     rw [aF7 (by decide)]
     refine wpS_bind (agn C p q (by omega) (by omega) ?_)
     dsimp only
     cases er2:R (e (arrOf d) (lo+m - 1)) (e (arrOf d) (lo+m)) with
     | true =>
      rw [aF6 rfl]
      exact wpS_pure ⟨rfl,q,by dsimp only;omega,G,a,f⟩
     | false =>
      rw [aF7 (by decide)]
      refine wpS_pure ⟨rfl,rfl,q,by dsimp only;omega,aft C (h:=lo+m) (fun k J=>c k (by omega)) (by omega) a er2,fun i j i1 r y w=>?_⟩
      dsimp only at i1 r y w
      by_cases ci:i=lo+m
      ·by_cases cj:j=lo+m
       ·rw [ci,cj];exact C.irr (c _ (by omega))
       ·rw [ci]
        exact C.tr _ _ _ (c j (by omega)) (c (lo+m - 1) (by omega)) (c _ (by omega)) (f (lo+m - 1) j (by omega) (by omega) (by omega) (by omega)) er
      ·by_cases cj:j=lo+m
       ·rw [cj]
        exact C.tr _ _ _ (c _ (by omega)) (c (lo+m - 1) (by omega)) (c i (by omega)) er2 (f i (lo+m - 1) (by omega) (by omega) (by omega) (by omega))
       ·exact f i j (by omega) (by omega) (by omega) (by omega)
   ·rintro ⟨o,m,b⟩ d ⟨D,O,q,G,a,f⟩
    dsimp only at D O G a f ⊢
    exact ⟨D,q,by omega,G,a,f⟩
   ·exact aft C (h:=lo+n) (fun k J=>N.sat p (by omega)) (by omega) de (C.asy _ _ (N.sat p (by omega)) (N.sat p (by omega)) Z)
   ·dsimp only at i1 r y w
    have:i=j:=by omega
    subst this
    exact C.irr (N.sat p (by omega))
  ·rintro ⟨o,m,b⟩ d ⟨D,q,hm,G,a,f⟩
   dsimp only at D hm G a f ⊢
   subst D
   dsimp only
   refine apb (M:=M) (A:=A) (E:=E) (s:=s) (α:=Option Nat) (Q:=Q) (P:=fun F=>Bs κ p0 a0 lo F/\Des R (arrOf F) lo (lo+m)) (prog:=?prog2) (fun K=>?use2) (fun F ⟨H,v⟩=>?pf2)
   case use2 =>
    refine aap (fun g=>?_) (fun g=>?_)
    ·obtain ⟨H,v⟩:=ajw C p q (l:=lo+m - (b+1)) (h:=lo+m) (by omega) (by omega) (aA6 _) (by omega) a f
     refine wpS_bind (wpS_modify ?_)
     exact K _ ⟨H,v⟩
    ·exact K _ ⟨q,a⟩
   case pf2 =>
    obtain ⟨B5,a3⟩:=auc C H (n:=m) (by omega) v
    refine wpS_bind (wpS_modify ?_)
    refine wpS_bind (amv C p B5 (by omega) hm hn a3 fun n' a4 X W _=>?_)
    exact wpS_pure (h _ n' B5 (by omega) X W)
end
def flat (rs:List (List Keyed × Nat)):List Keyed:=(rs.map (·.1)).flatten
def pend:Nat->List (List Keyed × Nat)->List (Nat × Nat × Nat)
 | _,[]=>[]
 | k,(r,pw) :: t=>(k,r.length,pw) :: pend (k+r.length) t
theorem ah7:flat []=[]:=rfl
theorem abz (r:List Keyed × Nat) (t:List (List Keyed × Nat)):flat (r :: t)=r.1 ++ flat t:=rfl
theorem abq (p q:List (List Keyed × Nat)):flat (p ++ q)=flat p ++ flat q:=by simp [flat]
theorem acb:∀ (k:Nat) (p q:List (List Keyed × Nat)),pend k (p ++ q)=pend k p ++ pend (k+(flat p).length) q
 | k,[],q=>by simp [pend,ah7]
 | k,(r,pw) :: t,q=>by
  simp only [List.cons_append,pend,abz,aB1,List.cons.injEq,true_and]
  rw [acb (k+r.length) t q,Nat.add_assoc]
theorem aec:∀ (k:Nat) (p:List (List Keyed × Nat)),(pend k p).length=p.length
 | _,[]=>rfl
 | k,(r,pw) :: t=>by simp [pend,aec _ t]
section
variable {M:Model} {A:Around} {E:Value->Shared->Prop} {s:Shared} {κ:SortKind} {S:Keyed->Prop} {R:Keyed->Keyed->Bool} {a0:Array Keyed}
structure Rn (κ:SortKind) (R:Keyed->Keyed->Bool) (a0:Array Keyed) (rs:List (List Keyed × Nat)) (rest:List Keyed) (st:SortSt):Prop where
 k:kindOf st = κ
 f:failedOf st=none
 arr:(arrOf st).toList=flat rs ++ rest
 pn:(pendingOf st).toList=pend 0 rs
 ok:∀ r∈rs,r.1 ≠ []/\Srt R r.1
 perm:(arrOf st).toList.Perm a0.toList
theorem aw7 {α:Type} (a c:List α) (x b y : α):((a ++ x :: y :: c).set a.length b).eraseIdx (a.length+1)=a ++ b :: c:=by
 rw [List.set_append_right _ _ (aA6 _),aI7,List.set_cons_zero,List.eraseIdx_append_of_length_le (by omega)]
 rw [show a.length+1 - a.length=1 by omega]
 rfl
theorem ait (C:Cmp M A E s κ S R) (v:∀ x∈a0.toList,S x) {st:SortSt} {rs:List (List Keyed × Nat)} {rest:List Keyed} (N:Rn κ R a0 rs rest st) {i:Nat} (hi:i+1 < rs.length) {Q:Bool->SortSt->Prop}
  (h:∀ st' n,Rn κ R a0 n rest st'->n.length+1=rs.length->(flat n).length=(flat rs).length->Q true st'):wpS M A E s (amt i) Q st:=by
 obtain ⟨p,a,pw,b,pw2,q,e,D⟩:∃ p a pw b pw2 q,rs=p ++ (a,pw) :: (b,pw2) :: q/\p.length=i:=by
  have H:rs=rs.take i ++ rs.drop i:=(aC1 i rs).symm
  have hd:rs.drop i=rs[i] :: rs[i+1] :: rs.drop (i+2):=by
   rw [List.drop_eq_getElem_cons (by omega),List.drop_eq_getElem_cons hi]
  exact ⟨rs.take i,rs[i].1,rs[i].2,rs[i+1].1,rs[i+1].2,rs.drop (i+2),by rw [← hd];exact H,by simp;omega⟩
 subst D
 have c:=N.ok (a,pw) (by rw [e];simp)
 have g:=N.ok (b,pw2) (by rw [e];simp)
 have l:(pendingOf st).toList=pend 0 p ++ ((flat p).length,a.length,pw) :: ((flat p).length+a.length,b.length,pw2) :: pend ((flat p).length+a.length+b.length) q:=by
  rw [N.pn,e,acb];simp [pend]
 have d:(pend 0 p).length=p.length:=aec 0 p
 have j:(arrOf st).toList=flat p ++ a ++ b ++ (flat q ++ rest):=by
  rw [N.arr,e,abq,abz,abz];simp [aB4]
 refine aqq C (i:=p.length) (pw:=pw) (pw2:=pw2) j (fun x B=>v x (N.perm.mem_iff.mp B)) ?_ ?_ c.1 g.1 c.2 g.2 N.k N.f fun st' m w I G u pm y=>?_
 ·rw [← aD5,l,aC8 (by omega),d,aI7];rfl
 ·rw [← aD5,l,aC8 (by omega),d,show p.length+1 - p.length=1 by omega];rfl
 ·refine h st' (p ++ (m,pw) :: q) ⟨w,I,?_,?_,fun r o=>?_,?_⟩ (by rw [e];simp;omega) ?_
  ·rw [u,abq,abz];simp [aB4]
  ·rw [G,Array.toList_eraseIdxIfInBounds,Array.toList_setIfInBounds,l,← d,aw7,acb]
   simp [pend,pm.length_eq,Nat.add_assoc]
  ·rcases aA7.mp o with o | o
   ·exact N.ok r (by rw [e];simp [o])
   ·rcases aA9.mp o with rfl | o
    ·refine ⟨?_,y⟩
     intro z
     have:=pm.length_eq
     have F:m=[]:=z
     rw [F] at this
     have:=aG0.mpr c.1
     simp at *
     omega
    ·exact N.ok r (by rw [e];simp [o])
  ·rw [u]
   refine List.Perm.trans ?_ N.perm
   rw [j]
   have:(flat p ++ a ++ b ++ (flat q ++ rest))=flat p ++ (a ++ b) ++ (flat q ++ rest):=by simp [aB4]
   rw [this]
   exact (pm.append_left (flat p)).append_right _
  ·rw [e,abq,abq,abz,abz,abz]
   simp [pm.length_eq]
   omega
theorem Rn.run {rs:List (List Keyed × Nat)} {rest:List Keyed} {st st':SortSt} {n:Nat} (N:Rn κ R a0 rs rest st) (B:Bs κ (pendingOf st) (arrOf st) (flat rs).length st') (u:1<=n) (hn:(flat rs).length+n<=(arrOf st).size) (as:Asc R (arrOf st') (flat rs).length ((flat rs).length+n)) :
  ∃ r a,r.length=n/\r ≠ []/\Srt R r/\Rn κ R a0 rs (r ++ a) st':=by
 have hsz:=B.size
 have c:(arrOf st').toList.take (flat rs).length=flat rs:=by
  have o:(arrOf st').toList.take (flat rs).length=(arrOf st).toList.take (flat rs).length:=by
   apply aG3
   intro k
   rw [List.getElem?_take,List.getElem?_take]
   split
   ·rename_i d
    have:=B.pre k d
    simpa using this
   ·rfl
  rw [o,N.arr,List.take_left]
 refine ⟨((arrOf st').toList.drop (flat rs).length).take n,((arrOf st').toList.drop (flat rs).length).drop n,?_,?_,?_,B.k,B.f,?_,?_,N.ok,B.perm.trans N.perm⟩
 ·simp;omega
 ·intro z
  have:=congrArg List.length z
  simp at this
  omega
 ·unfold Srt
  rw [aG8]
  intro i j hi g l
  have b:j < n:=by simp at g;omega
  have get:∀ k,k < n->∀ (d:k < (((arrOf st').toList.drop (flat rs).length).take n).length),(((arrOf st').toList.drop (flat rs).length).take n)[k]=e (arrOf st') ((flat rs).length+k):=by
   intro k d m
   rw [List.getElem_take,List.getElem_drop]
   have s:=ais (xs:=arrOf st') (k:=(flat rs).length+k) (by omega)
   have q:(flat rs).length+k < (arrOf st').toList.length:=by simp;omega
   have h:(arrOf st').toList[(flat rs).length+k]?=some (e (arrOf st') ((flat rs).length+k)):=by simpa using s
   rw [aA0 q] at h
   exact aC6 h
  rw [get i (by omega) hi,get j b g]
  exact as _ _ (by omega) (by omega) (by omega)
 ·rw [aC1]
  conv=>lhs;rw [← aC1 (flat rs).length (arrOf st').toList,c]
 ·rw [B.p];exact N.pn
theorem Rn.bs {rs:List (List Keyed × Nat)} {rest:List Keyed} {st:SortSt} (N:Rn κ R a0 rs rest st):Bs κ (pendingOf st) (arrOf st) (flat rs).length st:=⟨N.k,N.f,rfl,List.Perm.refl _,fun _ _=>rfl⟩
theorem Rn.size {rs:List (List Keyed × Nat)} {rest:List Keyed} {st:SortSt} (N:Rn κ R a0 rs rest st):(arrOf st).size=a0.size:=by
 have:=N.perm.length_eq;simpa using this
theorem Rn.len {rs:List (List Keyed × Nat)} {rest:List Keyed} {st:SortSt} (N:Rn κ R a0 rs rest st):(flat rs).length+rest.length=a0.size:=by
 have:=congrArg List.length N.arr
 have a:=N.size
 simp at this
 omega
theorem aud {rs:List (List Keyed × Nat)} (h:∀ r∈rs,r.1 ≠ []):rs.length<=(flat rs).length:=by
 induction rs with
 | nil=>simp [flat]
 | cons r t ih =>
  rw [abz,aB1,aE4]
  have:=ih fun q a=>h q (aB5 _ a)
  have:=aG0.mpr (h r aB8)
  omega
theorem amw {α:Type} (f : α->α):∀ (l:List α) (x : α),(l ++ [x]).modify l.length f=l ++ [f x]
 | [],x=>rfl
 | y :: l,x=>by
  show (y :: (l ++ [x])).modify (l.length+1) f=_
  rw [List.modify_succ_cons,amw f l x];rfl
theorem aoh {α:Type} (arr:Array α) (f : α->α) {l:List α} {x : α} (h:arr.toList=l ++ [x]):(arr.modify (arr.size - 1) f).toList=l ++ [f x]:=by
 have hs:arr.size=l.length+1:=by have:=congrArg List.length h;simpa using this
 rw [Array.toList_modify,h,hs,show l.length+1 - 1=l.length by omega]
 exact amw f l x
theorem aw8 {α:Type} (arr:Array α) {l:List α} {x : α} (h:arr.toList=l ++ [x]):arr.back?=some x:=by
 have hs:arr.size=l.length+1:=by have:=congrArg List.length h;simpa using this
 rw [Array.back?_eq_getElem?,← aD5,h,hs]
 simp
theorem apc:∀ (rs:List (List Keyed × Nat)),rs ≠ []->∃ p x,rs=p ++ [x]
 | rs,h=>⟨rs.dropLast,rs.getLast h,(List.dropLast_concat_getLast h).symm⟩
theorem Rn.push {rs:List (List Keyed × Nat)} {r rest:List Keyed} {st st':SortSt} (N:Rn κ R a0 rs (r ++ rest) st) (c:r ≠ []) (hs:Srt R r) (k:kindOf st'=kindOf st) (f:failedOf st'=failedOf st) (a:arrOf st'=arrOf st)
  (p:pendingOf st'=(pendingOf st).push ((flat rs).length,r.length,0)):Rn κ R a0 (rs ++ [(r,0)]) rest st':=by
 refine ⟨k.trans N.k,f.trans N.f,?_,?_,fun q b=>?_,by rw [a];exact N.perm⟩
 ·rw [a,N.arr,abq];simp [flat,aB4]
 ·rw [p,Array.toList_push,N.pn,acb];simp [pend]
 ·rcases aA7.mp b with b | b
  ·exact N.ok q b
  ·have:q=(r,0):=by simpa using b
   subst this;exact ⟨c,hs⟩
theorem Rn.pow {rs:List (List Keyed × Nat)} {rest:List Keyed} {st st':SortSt} {pw:Nat} (N:Rn κ R a0 rs rest st) (i:rs ≠ []) (k:kindOf st'=kindOf st) (f:failedOf st'=failedOf st) (a:arrOf st'=arrOf st)
  (p:pendingOf st'=(pendingOf st).modify ((pendingOf st).size - 1) fun x=>(x.1,x.2.1,pw)):∃ d,Rn κ R a0 d rest st'/\(flat d).length=(flat rs).length:=by
 obtain ⟨q,⟨b,g⟩,e⟩:=apc rs i
 subst e
 have h:(pendingOf st).toList=pend 0 q ++ [((flat q).length,b.length,g)]:=by rw [N.pn,acb];simp [pend]
 refine ⟨q ++ [(b,pw)],⟨k.trans N.k,f.trans N.f,?_,?_,fun x c=>?_,by rw [a];exact N.perm⟩,by simp [abq,abz,ah7]⟩
 ·rw [a,N.arr];simp [abq,abz,ah7]
 ·rw [p,aoh _ _ h,acb];simp [pend]
 ·rcases aA7.mp c with c | c
  ·exact N.ok x (by simp [c])
  ·have:x=(b,pw):=by simpa using c
   subst this
   exact N.ok (b,g) (by simp)
theorem azz {c:Prop} [Decidable c] {x y z:Nat} (a:x+1 < z) (b:y+1 < z):(if c then x else y)+1 < z:=by
 split
 ·exact a
 ·exact b
theorem Rn.powK {rs:List (List Keyed × Nat)} {rest:List Keyed} {st st':SortSt} {pw:Nat} {G:SortSt->Prop} (N:Rn κ R a0 rs rest st) (d:rs ≠ []) (h:∀ b,Rn κ R a0 b rest st'->(flat b).length=(flat rs).length->G st') (k:kindOf st'=kindOf st) (f:failedOf st'=failedOf st) (a:arrOf st'=arrOf st)
  (p:pendingOf st'=(pendingOf st).modify ((pendingOf st).size - 1) fun x=>(x.1,x.2.1,pw)):G st':=by
 obtain ⟨b,g,c⟩:=N.pow d k f a p
 exact h b g c
theorem aw9 (C:Cmp M A E s κ S R) (Z:∀ x∈a0.toList,S x) {st:SortSt} (h0:arrOf st=a0) (hk:kindOf st = κ) (hf:failedOf st=none) (hp:pendingOf st = #[]) {Q:Unit->SortSt->Prop}
  (h:∀ st',failedOf st'=none->(arrOf st').toList.Perm a0.toList->Srt R (arrOf st').toList->Q () st'):wpS M A E s a1r Q st:=by
 have o:(arrOf st).size=a0.size:=by rw [h0]
 refine wpS_bind (wpS_get ?_)
 dsimp only
 refine wpS_bind (wpS_mono (Q:=fun (c:Option Unit × Nat) v=>c.1=none/\∃ rs,Rn κ R a0 rs [] v) ?_ ?_)
 ·refine wpS_forRange (fun i (c:Option Unit × Nat) v=>c.1=none/\∃ rs rest,Rn κ R a0 rs rest v/\c.2=(flat rs).length/\i<=c.2) ?_ ?_ ⟨rfl,[],a0.toList,⟨hk,hf,by rw [h0];rfl,by rw [hp];rfl,fun r I=>(by cases I),by rw [h0]⟩,rfl,aA6 _⟩
  ·rintro i ⟨c1,lo⟩ v _ hi ⟨F,rs,rest,N,e2,D⟩
   dsimp only at F e2 D ⊢
   subst F e2
   have U:=N.len
   have b2:i < a0.size:=by rw [← o];exact hi
   refine aap (fun a1=>?_) (fun a5=>?_)
   ·have a8:a0.size<=(flat rs).length:=by rw [← o];exact a1
    refine wpS_pure ⟨rfl,rs,?_⟩
    have:rest=[]:=aH3 (by omega)
    subst this
    exact N
   ·have b0:(flat rs).length < a0.size:=by
     have:¬ (flat rs).length ≥ (arrOf st).size:=a5
     omega
    refine wpS_bind (asa C (fun x hx=>Z x (N.perm.mem_iff.mp hx)) N.bs (nrem:=(arrOf st).size - (flat rs).length) (by omega) (by rw [N.size];omega) fun b3 n B2 n1 n2 O=>?_)
    dsimp only
    have w:=N.size
    refine aap (fun m=>?g1) (fun m=>?g2)
    case' g1 =>
     refine wpS_bind (ad6 ?_)
     generalize hmr:min (_:Nat) _=nn
     refine wpS_bind (aqr C (fun x hx=>Z x (N.perm.mem_iff.mp hx)) B2 (n:=nn) (ok:=n) ?_ ?_ ?_ O fun b4 B3 a7=>?_)
     ·have:nn<=(arrOf st).size - (flat rs).length:=by rw [← hmr];exact Nat.min_le_left _ _
      rw [w];omega
     ·rw [← hmr];exact Nat.le_min.mpr ⟨n2,aG6 m⟩
     ·have:n<=nn:=by rw [← hmr];exact Nat.le_min.mpr ⟨n2,aG6 m⟩
      omega
     rw [aF7 (by decide)]
     have T:1<=nn:=by
      have:n<=nn:=by rw [← hmr];exact Nat.le_min.mpr ⟨n2,aG6 m⟩
      omega
     have a9:nn<=(arrOf st).size - (flat rs).length:=by rw [← hmr];exact Nat.min_le_left _ _
     obtain ⟨r,g,I,y,J,P⟩:=N.run B3 T (by rw [w];omega) a7
     clear hmr
     subst I
    case' g2 =>
     obtain ⟨r,g,I,y,J,P⟩:=N.run B2 n1 (by rw [w];omega) O
     clear m
     subst I
    all_goals
     refine wpS_bind (wpS_get ?_)
     rcases Classical.em (rs=[]) with X | X
     ·have B:=P.pn
      rw [X] at B
      have hb:=Array.back?_eq_none_iff.mpr (Array.toList_eq_nil_iff.mp B)
      rw [hb]
      dsimp only
      refine wpS_bind (wpS_modify (wpS_pure ⟨rfl,rs ++ [(r,0)],g,P.push y J rfl rfl rfl rfl,?_,?_⟩))
      ·rw [abq,aB1];simp [flat]
      ·have:=aG0.mpr y
       show i+1<=(flat rs).length+r.length
       omega
     ·obtain ⟨q,⟨b,L⟩,eq⟩:=apc rs X
      have B:=P.pn
      rw [eq,acb,show pend (0+(flat q).length) [(b,L)]=[((flat q).length,b.length,L)] by simp [pend]] at B
      have hb:=aw8 _ B
      rw [hb]
      dsimp only
      refine wpS_bind (wpS_mono (Q:=fun (c:Option Unit × Unit) d=>c.1=none/\∃ a,Rn κ R a0 a (r ++ g) d/\a ≠ []/\(flat a).length=(flat rs).length) ?_ ?_)
      ·refine wpS_forRange (fun _ (c:Option Unit × Unit) d=>c.1=none/\∃ a,Rn κ R a0 a (r ++ g) d/\a ≠ []/\(flat a).length=(flat rs).length) ?_ (fun c d h4=>h4) ⟨rfl,rs,P,X,rfl⟩
       rintro i4 ⟨Y,u4⟩ d _ _ ⟨u,a,l,z4,p⟩
       dsimp only at u
       subst u
       refine wpS_bind (wpS_get ?_)
       have W:(pendingOf d).size=a.length:=by
        have:=congrArg List.length l.pn
        rw [aec] at this
        simpa using this
       by_cases K:(pendingOf d).size > 1
       ·rw [aF6 K]
        obtain ⟨x4,a2⟩:∃ x4,(pendingOf d)[(pendingOf d).size - 2]?=some x4:=⟨_,aA4 (by omega)⟩
        obtain ⟨y1,y2,y3⟩:=x4
        rw [a2]
        dsimp only
        refine aap (fun _=>wpS_pure ⟨rfl,a,l,z4,p⟩) (fun _=>?_)
        rw [W]
        refine wpS_bind (ait C Z l (i:=a.length - 2) (by omega) fun a3 H N5 l5 f5=>?_)
        rw [aF7 (by decide)]
        refine wpS_pure ⟨rfl,H,N5,?_,by omega⟩
        rintro rfl
        simp at l5
        omega
       ·rw [aF7 K]
        exact wpS_pure ⟨rfl,a,l,z4,p⟩
      ·rintro ⟨Y,u4⟩ d ⟨u,a,l,z4,p⟩
       dsimp only at u ⊢
       subst u
       dsimp only
       refine wpS_bind (wpS_modify ?_)
       refine l.powK (G:=fun z=>wpS M A E s _ _ z) z4 (fun a4 N6 l6=>?_) rfl rfl rfl rfl
       refine wpS_bind (wpS_modify (wpS_pure ⟨rfl,a4 ++ [(r,0)],g,N6.push y J rfl rfl rfl ?_,?_,?_⟩))
       ·rw [l6,p]
       ·rw [abq,aB1,l6,p];simp [flat]
       ·have:=aG0.mpr y
        show i+1<=(flat rs).length+r.length
        omega
  ·rintro ⟨c1,lo⟩ v ⟨F,rs,rest,N,e2,D⟩
   dsimp only at F e2 D ⊢
   refine ⟨F,rs,?_⟩
   have U:=N.len
   have a6:(arrOf st).size<=lo:=aD0 (Nat.le_max_right 0 _) D
   have:rest=[]:=aH3 (by rw [o] at a6;omega)
   subst this
   exact N
 ·rintro ⟨c1,lo⟩ v ⟨F,rs,N⟩
  dsimp only at F ⊢
  subst F
  dsimp only
  refine wpS_bind (wpS_mono (Q:=fun (c:Option Unit × Unit) d=>c.1=none/\∃ a,Rn κ R a0 a [] d/\a.length<=1) ?_ ?_)
  ·refine wpS_forRange (fun j (c:Option Unit × Unit) d=>c.1=none/\∃ a,Rn κ R a0 a [] d/\(a.length<=1\/a.length+j<=a0.size)) ?_ ?_ ⟨rfl,rs,N,.inr ?_⟩
   ·rintro j ⟨Y,u4⟩ d _ _ ⟨u,a,l,p⟩
    dsimp only at u
    subst u
    refine wpS_bind (wpS_get ?_)
    have W:(pendingOf d).size=a.length:=by
     have:=congrArg List.length l.pn
     rw [aec] at this
     simpa using this
    refine aap (fun K=>wpS_pure ⟨rfl,a,l,?_⟩) (fun K=>?_)
    ·have:(pendingOf d).size<=1:=K
     omega
    ·have b1:¬ (pendingOf d).size<=1:=K
     refine wpS_bind (ait C Z l (i:=_) ?_ fun a3 H N5 l5 f5=>?_)
     ·refine azz ?_ ?_
      ·show (pendingOf d).size - 2 - 1+1 < a.length
       omega
      ·show (pendingOf d).size - 2+1 < a.length
       omega
     rw [aF7 (by decide)]
     exact wpS_pure ⟨rfl,H,N5,by omega⟩
   ·rintro ⟨Y,u4⟩ d ⟨u,a,l,p⟩
    refine ⟨u,a,l,?_⟩
    rcases p with p | p
    ·exact p
    ·have:(arrOf st).size<=max 0 (arrOf st).size:=Nat.le_max_right _ _
     have h3:a.length+max 0 (arrOf st).size<=a0.size:=p
     omega
   ·have:=aud fun r I=>(N.ok r I).1
    have:=N.len
    omega
  ·rintro ⟨Y,u4⟩ d ⟨u,a,l,p⟩
   dsimp only at u ⊢
   subst u
   dsimp only
   refine wpS_pure (h d l.f l.perm ?_)
   rw [l.arr]
   match a,p with
   | [],_=>exact List.Pairwise.nil
   | [x],_=>simpa [flat] using (l.ok x (by simp)).2
end
end TS
namespace L2
open PySem PySem.Spec PyProof.Rows
mutual
inductive Rep (H:Hp):V->PyData->Prop
 | non:Rep H .non .none
 | bl (b:Bool):Rep H (.bl b) (.bool b)
 | int (i:Int):Rep H (.int i) (.int i)
 | str (x:Str):Rep H (.str x) (.str x)
 | lst {a:Addr} {xs:List V} {ds:List PyData}:H a=some (.lst xs)->Reps H xs ds->Rep H (.ref a) (.list ds)
 | tup {a:Addr} {xs:List V} {ds:List PyData}:H a=some (.tup xs)->Reps H xs ds->Rep H (.ref a) (.tuple ds)
inductive Reps (H:Hp):List V->List PyData->Prop
 | nil:Reps H [] []
 | cons {v:V} {vs:List V} {d:PyData} {ds:List PyData}:Rep H v d->Reps H vs ds->Reps H (v :: vs) (d :: ds)
end
mutual
theorem Rep.same {H H':Hp} (s:Same H H'):∀ {v:V} {d:PyData},Rep H v d->Rep H' v d
 | _,_,.non => .non
 | _,_,.bl b => .bl b
 | _,_,.int i => .int i
 | _,_,.str x => .str x
 | _,_,.lst h r => .lst (s _ _ h) (Reps.same s r)
 | _,_,.tup h r => .tup (s _ _ h) (Reps.same s r)
theorem Reps.same {H H':Hp} (s:Same H H'):∀ {vs:List V} {ds:List PyData},Reps H vs ds->Reps H' vs ds
 | _,_,.nil => .nil
 | _,_,.cons r t => .cons (Rep.same s r) (Reps.same s t)
end
section
variable {X:Cx} {pins:List (Addr × Obj)} {σ:St} {H:Hp} {s:Shared}
mutual
theorem Rep.reads (I:Inv X pins σ H s):∀ {v:V} {d:PyData} {u:Value},Rep H v d->RelV v u->∃ as,Reads s.heap u d as
 | _,_,_,.non,r=>by cases r;exact ⟨_,.none⟩
 | _,_,_,.bl b,r=>by cases r;exact ⟨_,.bool b⟩
 | _,_,_,.int i,r=>by obtain ⟨t,rfl⟩:=r;exact ⟨_,.int i t⟩
 | _,_,_,.str x,r=>by obtain ⟨t,rfl⟩:=r;exact ⟨_,.str x t⟩
 | _,_,_,.lst (a:=a) (xs:=xs) h q,r=>by
  cases r
  obtain ⟨_,its,n,f,e⟩:=(show ObjOk X.prog X.w H s.heap a (.lst xs) from I.hok a _ h)
  obtain ⟨as,g⟩:=Reps.reads I q f
  exact ⟨_,.list e rfl rfl (by simpa using g)⟩
 | _,_,_,.tup (a:=a) (xs:=xs) h q,r=>by
  cases r
  obtain ⟨_,its,f,o,e,c,n,j⟩:=(show ObjOk X.prog X.w H s.heap a (.tup xs) from I.hok a _ h)
  obtain ⟨as,g⟩:=Reps.reads I q f
  exact ⟨_,.tuple e c j (by simpa using g)⟩
theorem Reps.reads (I:Inv X pins σ H s):∀ {vs:List V} {ds:List PyData} {us:List Value},Reps H vs ds->Vals vs us->∃ as,ReadsAll s.heap us ds as
 | _,_,_,.nil,.nil=>⟨_,.nil⟩
 | _,_,_,.cons r t,.cons q qs=>by
  obtain ⟨as,a⟩:=Rep.reads I r q
  obtain ⟨bs,rb⟩:=Reps.reads I t qs
  exact ⟨_,.cons a rb⟩
end
end
mutual
def aao:PyData->Bool
 | .none | .int _=>true
 | .list xs | .tuple xs=>plainDs xs
 | _=>false
def plainDs:List PyData->Bool
 | []=>true
 | x :: xs=>aao x && plainDs xs
end
mutual
theorem acy:∀ (d:PyData),aao d=true->d.canLay0=true
 | .none,_=>by simp [PyData.canLay0]
 | .int _,_=>by simp [PyData.canLay0]
 | .list xs,h=>by simp only [PyData.canLay0];exact plain_lays xs (by simpa [aao] using h)
 | .tuple xs,h=>by simp only [PyData.canLay0];exact plain_lays xs (by simpa [aao] using h)
 | .bool _,h=>by simp [aao] at h
 | .str _,h=>by simp [aao] at h
 | .dict _,h=>by simp [aao] at h
theorem plain_lays:∀ (ds:List PyData),plainDs ds=true->PyData.canLayAll0 ds=true
 | [],_=>by simp [PyData.canLayAll0]
 | x :: xs,h=>by
  have h':aao x=true/\plainDs xs=true:=by simpa [plainDs] using h
  simp only [PyData.canLayAll0,acy x h'.1,plain_lays xs h'.2,Bool.and_self]
end
mutual
theorem ago:∀ (d e:PyData),aao d=true->aao e=true->(PyData.eqv d e=true ↔ d=e)
 | .none,e,_,h=>by cases e <;> simp_all [aao,PyData.eqv]
 | .int i,e,_,h=>by cases e <;> simp_all [aao,PyData.eqv]
 | .list xs,e,g,h=>by
  cases e with
  | list ys=>simp only [PyData.eqv,PyData.list.injEq];exact eqvAll_plain xs ys (by simpa [aao] using g) (by simpa [aao] using h)
  | _=>simp_all [aao,PyData.eqv]
 | .tuple xs,e,g,h=>by
  cases e with
  | tuple ys=>simp only [PyData.eqv,PyData.tuple.injEq];exact eqvAll_plain xs ys (by simpa [aao] using g) (by simpa [aao] using h)
  | _=>simp_all [aao,PyData.eqv]
 | .bool _,_,h,_=>by simp [aao] at h
 | .str _,_,h,_=>by simp [aao] at h
 | .dict _,_,h,_=>by simp [aao] at h
theorem eqvAll_plain:∀ (ds es:List PyData),plainDs ds=true->plainDs es=true->(PyData.eqvAll ds es=true ↔ ds=es)
 | [],[],_,_=>by simp [PyData.eqvAll]
 | [],_ :: _,_,_=>by simp [PyData.eqvAll]
 | _ :: _,[],_,_=>by simp [PyData.eqvAll]
 | x :: xs,y :: ys,g,h=>by
  have g':aao x=true/\plainDs xs=true:=by simpa [plainDs] using g
  have h':aao y=true/\plainDs ys=true:=by simpa [plainDs] using h
  simp only [PyData.eqvAll,aH2,List.cons.injEq,ago x y g'.1 h'.1,eqvAll_plain xs ys g'.2 h'.2]
end
theorem afj (ds:List PyData):plainDs ds=true ↔ ∀ d∈ds,aao d=true:=by
 induction ds with
 | nil=>simp [plainDs]
 | cons d ds ih=>simp [plainDs,ih]
def rEqD:R2:=fun x y H Q=>∃ d e,Rep H x d/\Rep H y e/\aao d=true/\aao e=true/\d.depth<=60/\Q (.bl (PyData.eqv d e)) H
def rNeD:R2:=fun x y H Q=>∃ d e,Rep H x d/\Rep H y e/\aao d=true/\aao e=true/\d.depth<=60/\Q (.bl (!PyData.eqv d e)) H
section
variable {X:Cx}
theorem asb (i:X.A.units+64 < cLine):OpR X (compareOp .Eq) rEqD:=by
 intro pins s σ H x y v u Q I f b h
 obtain ⟨d,e,c,re,hd,g,j,q⟩:=h
 obtain ⟨as,a⟩:=c.reads I f
 obtain ⟨bs,rb⟩:=re.reads I b
 refine SeqAt.compareEq_reads a rb (acy _ hd) (acy _ g) ?_ ⟨.bl _,H,I,rfl,q⟩
 have:=Nat.min_le_left d.depth e.depth
 omega
theorem amx (i:X.A.units+64 < cLine):OpR X (compareOp .NotEq) rNeD:=by
 intro pins s σ H x y v u Q I f b h
 obtain ⟨d,e,c,re,hd,g,j,q⟩:=h
 obtain ⟨as,a⟩:=c.reads I f
 obtain ⟨bs,rb⟩:=re.reads I b
 refine SeqAt.compareNe_reads a rb (acy _ hd) (acy _ g) ?_ ⟨.bl _,H,I,rfl,q⟩
 have:=Nat.min_le_left d.depth e.depth
 omega
def rInD (neg:Bool):R2:=fun x y H Q=>∃ d es,Rep H x d/\(Rep H y (.list es)\/Rep H y (.tuple es))/\aao d=true/\plainDs es=true/\d.depth<=60/\Q (.bl (if neg then !es.any (fun z=>PyData.eqv z d) else es.any (fun z=>PyData.eqv z d))) H
theorem agp (i:X.A.units+64 < cLine):OpR X (compareOp .NotIn) (rInD true):=by
 intro pins s σ H x y v u Q I g b h
 obtain ⟨d,es,f,re,hd,c,j,q⟩:=h
 obtain ⟨as,a⟩:=f.reads I g
 have hm:=Nat.min_le_right (PyData.depthAll es) d.depth
 rcases re with re | re
 ·obtain ⟨bs,rb⟩:=re.reads I b
  exact SeqAt.notIn_list_reads rb a (plain_lays _ c) (acy _ hd) (by omega) ⟨.bl _,H,I,rfl,q⟩
 ·obtain ⟨bs,rb⟩:=re.reads I b
  exact SeqAt.notIn_tuple_reads rb a (plain_lays _ c) (acy _ hd) (by omega) ⟨.bl _,H,I,rfl,q⟩
def rIsi (K:Frag):List V->Hp->VK->Prop:=fun xs H Q=>∃ (x:V) (T:String) (t:Value) (b:Bool),xs=[x,.ty T]/\TyOf K H x t/\kitOne K t (.type T)=some b/\Q (.bl b) H
theorem ae2:aa5 X (.builtin "isinstance") (rIsi X.K):=by
 intro pins s σ H xs us Q I r h
 obtain ⟨x,T,t,b,rfl,ty,e,q⟩:=h
 obtain ⟨u,c,rfl,d,a⟩:=alz r
 cases a
 exact aru I d ty e fun f=>⟨.bl b,H,I.tok _,rfl,q⟩
end
end L2
namespace HT
open PySem PyProof.Rows
section
open PySem.SeqAt
open PySem.AutoSeq1 (wpAny_loadPart')
open PySem.MeetsSeq PySem.MeetsSeq2 PySem.MeetsSeq3
end
section
variable {prog:Program} {w:World} {A:Around} {E:Value->Shared->Prop} {s:Shared}
end
end HT
namespace L2
open PySem PySem.Spec PyProof.Rows
section
variable {X:Cx}
def amy (K:Frag):List V->Hp->VK->Prop:=fun xs H Q=>∃ (a:Addr) (ns:List Int),xs=[.ref a]/\SqL K H a (ns.map V.int)/\ns.length < 64/\∀ (ns':List Int) (p:Addr),ns'.Perm ns->ns'.Pairwise (·<=·)->H p=none->Q (.ref p) (upd H p (.lst (ns'.map V.int)))
theorem aqs:aa5 X (.builtin "sorted") (amy X.K):=by
 intro pins s σ H xs us Q I r h
 obtain ⟨a,ns,rfl,ha,f,q⟩:=h
 obtain ⟨u,rfl,j⟩:=ab8 r
 cases j
 obtain ⟨its,m,l,v⟩:=I.list ha
 have i1:IntsAre its.toArray.toList ns:=abx m
 have g:IntsAre its ns:=by simpa using i1
 refine sorted_ints (vs:=its) l.isList g (by rw [g.length];exact f) fun out d b1 i n=>?_
 obtain ⟨e,p⟩:=sortedAll_at s.heap its out
 have c:H (s.heap.objs.size+1)=none:=I.hok.fresh (Nat.le_succ _)
 refine ⟨.ref (s.heap.objs.size+1),_,I.laid (t':=s.toks) (o:=.lst (d.map V.int)) (fun b w q=>sortedAll_old q) (Nat.le_succ _) ?_,rfl,q d _ i n c⟩
 refine ⟨?_,out.toList,e,agh b1,by rw [p]⟩
 rw [aA3,i.length_eq]
 exact aG6 (afb (by omega))
end
end L2
namespace HT
open PySem PyProof.Rows
theorem ajx (val:Nat->Int):∀ k,argBest (fun i j=>decide (val i > val j)) k<=k/\∀ i,i<=k->val i<=val (argBest (fun i j=>decide (val i > val j)) k)
 | 0 => ⟨Nat.le_refl _, fun i hi => by have:i=0 := by omega
                                       subst this;exact Int.le_refl _⟩
 | k+1=>by
  obtain ⟨b,a⟩:=ajx val k
  unfold argBest
  by_cases hc:val (k+1) > val (argBest (fun i j=>decide (val i > val j)) k)
  ·rw [aF6 (aD7 hc)]
   refine ⟨aA6 _,fun i hi=>?_⟩
   by_cases e:i=k+1
   ·subst e;exact Int.le_refl _
   ·have:=a i (by omega)
    exact Int.le_trans this (Int.le_of_lt hc)
  ·rw [aF7 (by simpa using hc)]
   refine ⟨by omega,fun i hi=>?_⟩
   by_cases e:i=k+1
   ·subst e;omega
   ·exact a i (by omega)
theorem ajy (val:Nat->Int):∀ k,argBest (fun i j=>decide (val i < val j)) k<=k/\∀ i,i<=k->val (argBest (fun i j=>decide (val i < val j)) k)<=val i
 | 0 => ⟨Nat.le_refl _, fun i hi => by have:i=0 := by omega
                                       subst this;exact Int.le_refl _⟩
 | k+1=>by
  obtain ⟨b,a⟩:=ajy val k
  unfold argBest
  by_cases hc:val (k+1) < val (argBest (fun i j=>decide (val i < val j)) k)
  ·rw [aF6 (aD7 hc)]
   refine ⟨aA6 _,fun i hi=>?_⟩
   by_cases e:i=k+1
   ·subst e;exact Int.le_refl _
   ·have:=a i (by omega)
    exact Int.le_trans (Int.le_of_lt hc) this
  ·rw [aF7 (by simpa using hc)]
   refine ⟨by omega,fun i hi=>?_⟩
   by_cases e:i=k+1
   ·subst e;omega
   ·exact a i (by omega)
def val (ns:List Int) (i:Nat):Int:=(ns[i]?).getD 0
theorem aem {us:List Value} {ns:List Int} (hi:IntsAre us ns) (i:Nat) (v:Value) (h:us.toArray[i]?=some v):∃ t,v=.int (val ns i) t:=by
 induction hi generalizing i with
 | nil=>simp at h
 | cons n t r ih =>
  cases i with
  | zero=>simp at h;subst h;exact ⟨t,by simp [val]⟩
  | succ i =>
   obtain ⟨t',e⟩:=ih i (by simpa using h)
   exact ⟨t',by simpa [val] using e⟩
theorem ag9 {ns:List Int} {i:Nat} (h:i < ns.length):val ns i∈ns:=by
 unfold val
 rw [aA0 h]
 exact aF2 h
theorem aiu {ns:List Int} {x:Int} (h:x∈ns):∃ i,i < ns.length/\val ns i=x:=by
 obtain ⟨i,hi,e⟩:=aH7.mp h
 exact ⟨i,hi,by unfold val;rw [aA0 hi];exact e⟩
section
variable {prog:Program} {w:World} {A:Around} {E:Value->Shared->Prop} {s:Shared}
theorem max_list {l:Addr} {us:List Value} {ns:List Int} {Q:Value->Shared->Prop} (hh:A.handled=none) (d:s.heap.IsList l us.toArray) (hi:IntsAre us ns) (c:ns ≠ [])
  (h:∀ m t h' f,m∈ns->(∀ x∈ns,x<=m)->(∀ b o,s.heap.get? b=some o->h'.get? b=some o)->Q (.int m t) { s with heap:=h',toks:=f }) :
  wpAny (model prog w) A (call (.builtin "max") [.ref l]) Q E s:=by
 have a:l < s.heap.objs.size:=by obtain ⟨_,e,_⟩:=d;exact aJ5 e
 have j:us.length=ns.length:=hi.length
 have y:0 < ns.length:=aG0.mpr c
 refine call_max_walk (aK6 d ?_)
 refine ⟨_,[s.heap.objs.size,l],_,_,_,_,_,rfl,Walks.list (A:=A.in1) hh _ l (aB6 a) us.toArray,⟨⟨_,aJ6 _ rfl,rfl,rfl⟩,d.push _⟩,fun b hb=>?_,by simp;omega,CmpOf.ints_gt (val ns) (fun i v=>aem hi i v),fun v h' f q r=>?_⟩
 ·show b < (s.heap.push _).objs.size
  rw [aK3]
  rcases aA9.mp hb with rfl | hb
  ·exact aI9 _
  ·rcases aA9.mp hb with rfl | hb
   ·exact aF9 a
   ·cases hb
 ·obtain ⟨t,e⟩:=aem hi _ _ q
  obtain ⟨b1,g⟩:=ajx (val ns) (us.toArray.size - 1)
  have hs:us.toArray.size=ns.length:=by simp [j]
  rw [hs] at b1 g
  subst e
  refine h _ t h' f (ag9 (by rw [hs];omega)) (fun x p=>?_) fun b o e=>?_
  ·obtain ⟨i,n,e⟩:=aiu p
   have:=g i (by omega)
   rw [e] at this
   rw [hs]
   exact this
  ·refine r b o (fun hm=>?_) (aJ4 _ e)
   rcases aA9.mp hm with u | hm
   ·exact absurd (u ▸ aJ5 e) (aG5 _)
   ·cases hm
theorem min_list {l:Addr} {us:List Value} {ns:List Int} {Q:Value->Shared->Prop} (hh:A.handled=none) (d:s.heap.IsList l us.toArray) (hi:IntsAre us ns) (c:ns ≠ [])
  (h:∀ m t h' f,m∈ns->(∀ x∈ns,m<=x)->(∀ b o,s.heap.get? b=some o->h'.get? b=some o)->Q (.int m t) { s with heap:=h',toks:=f }) :
  wpAny (model prog w) A (call (.builtin "min") [.ref l]) Q E s:=by
 have a:l < s.heap.objs.size:=by obtain ⟨_,e,_⟩:=d;exact aJ5 e
 have j:us.length=ns.length:=hi.length
 have y:0 < ns.length:=aG0.mpr c
 refine call_min_walk (aK6 d ?_)
 refine ⟨_,[s.heap.objs.size,l],_,_,_,_,_,rfl,Walks.list (A:=A.in1) hh _ l (aB6 a) us.toArray,⟨⟨_,aJ6 _ rfl,rfl,rfl⟩,d.push _⟩,fun b hb=>?_,by simp;omega,CmpOf.ints_lt (val ns) (fun i v=>aem hi i v),fun v h' f q r=>?_⟩
 ·show b < (s.heap.push _).objs.size
  rw [aK3]
  rcases aA9.mp hb with rfl | hb
  ·exact aI9 _
  ·rcases aA9.mp hb with rfl | hb
   ·exact aF9 a
   ·cases hb
 ·obtain ⟨t,e⟩:=aem hi _ _ q
  obtain ⟨b1,g⟩:=ajy (val ns) (us.toArray.size - 1)
  have hs:us.toArray.size=ns.length:=by simp [j]
  rw [hs] at b1 g
  subst e
  refine h _ t h' f (ag9 (by rw [hs];omega)) (fun x p=>?_) fun b o e=>?_
  ·obtain ⟨i,n,e⟩:=aiu p
   have:=g i (by omega)
   rw [e] at this
   rw [hs]
   exact this
  ·refine r b o (fun hm=>?_) (aJ4 _ e)
   rcases aA9.mp hm with u | hm
   ·exact absurd (u ▸ aJ5 e) (aG5 _)
   ·cases hm
theorem max_tup {l:Addr} {us:List Value} {ns:List Int} {Q:Value->Shared->Prop} (hh:A.handled=none) (g:s.heap.IsTuple l us.toArray) (hi:IntsAre us ns) (f:ns ≠ [])
  (h:∀ m t h' c,m∈ns->(∀ x∈ns,x<=m)->(∀ b o,s.heap.get? b=some o->h'.get? b=some o)->Q (.int m t) { s with heap:=h',toks:=c }) :
  wpAny (model prog w) A.in1 (pyIter (.ref l)) (fun it a=>∃ I fp j n P St bt,it=.ref I/\Walks prog w A.in1 I fp j n P St/\St 0 a.heap/\(∀ b∈fp,b < a.heap.objs.size)/\0 < n/\CmpOf prog w A.in1 .Gt P bt /\
   ∀ v h' c,P (argBest bt (n - 1)) v->(∀ b o,b ∉ j->a.heap.get? b=some o->h'.get? b=some o)->Q v { a with heap:=h',toks:=c }) E s:=by
 have d:l < s.heap.objs.size:=by obtain ⟨_,e,_⟩:=g;exact aJ5 e
 have q:us.length=ns.length:=hi.length
 have C:0 < ns.length:=aG0.mpr f
 refine wpAny_pyIter_tuple g ?_
 refine ⟨_,[s.heap.objs.size,l],[_],_,_,_,_,rfl,Walks.tuple (A:=A.in1) hh _ l (aB6 d) us.toArray,⟨⟨_,aJ6 _ rfl,rfl,rfl⟩,g.push _⟩,fun b hb=>?_,by simp;omega,CmpOf.ints_gt (val ns) (fun i v=>aem hi i v),fun v h' c y z=>?_⟩
 ·show b < (s.heap.push _).objs.size
  rw [aK3]
  rcases aA9.mp hb with rfl | hb
  ·exact aI9 _
  ·rcases aA9.mp hb with rfl | hb
   ·exact aF9 d
   ·cases hb
 ·obtain ⟨t,e⟩:=aem hi _ _ y
  obtain ⟨b1,p⟩:=ajx (val ns) (us.toArray.size - 1)
  have hs:us.toArray.size=ns.length:=by simp [q]
  rw [hs] at b1 p
  subst e
  refine h _ t h' c (ag9 (by rw [hs];omega)) (fun x u=>?_) fun b o e=>?_
  ·obtain ⟨i,r,e⟩:=aiu u
   have:=p i (by omega)
   rw [e] at this
   rw [hs]
   exact this
  ·refine z b o (fun hm=>?_) (aJ4 _ e)
   rcases aA9.mp hm with B | hm
   ·exact absurd (B ▸ aJ5 e) (aG5 _)
   ·cases hm
theorem min_tup {l:Addr} {us:List Value} {ns:List Int} {Q:Value->Shared->Prop} (hh:A.handled=none) (g:s.heap.IsTuple l us.toArray) (hi:IntsAre us ns) (f:ns ≠ [])
  (h:∀ m t h' c,m∈ns->(∀ x∈ns,m<=x)->(∀ b o,s.heap.get? b=some o->h'.get? b=some o)->Q (.int m t) { s with heap:=h',toks:=c }) :
  wpAny (model prog w) A.in1 (pyIter (.ref l)) (fun it a=>∃ I fp j n P St bt,it=.ref I/\Walks prog w A.in1 I fp j n P St/\St 0 a.heap/\(∀ b∈fp,b < a.heap.objs.size)/\0 < n/\CmpOf prog w A.in1 .Lt P bt /\
   ∀ v h' c,P (argBest bt (n - 1)) v->(∀ b o,b ∉ j->a.heap.get? b=some o->h'.get? b=some o)->Q v { a with heap:=h',toks:=c }) E s:=by
 have d:l < s.heap.objs.size:=by obtain ⟨_,e,_⟩:=g;exact aJ5 e
 have q:us.length=ns.length:=hi.length
 have C:0 < ns.length:=aG0.mpr f
 refine wpAny_pyIter_tuple g ?_
 refine ⟨_,[s.heap.objs.size,l],[_],_,_,_,_,rfl,Walks.tuple (A:=A.in1) hh _ l (aB6 d) us.toArray,⟨⟨_,aJ6 _ rfl,rfl,rfl⟩,g.push _⟩,fun b hb=>?_,by simp;omega,CmpOf.ints_lt (val ns) (fun i v=>aem hi i v),fun v h' c y z=>?_⟩
 ·show b < (s.heap.push _).objs.size
  rw [aK3]
  rcases aA9.mp hb with rfl | hb
  ·exact aI9 _
  ·rcases aA9.mp hb with rfl | hb
   ·exact aF9 d
   ·cases hb
 ·obtain ⟨t,e⟩:=aem hi _ _ y
  obtain ⟨b1,p⟩:=ajy (val ns) (us.toArray.size - 1)
  have hs:us.toArray.size=ns.length:=by simp [q]
  rw [hs] at b1 p
  subst e
  refine h _ t h' c (ag9 (by rw [hs];omega)) (fun x u=>?_) fun b o e=>?_
  ·obtain ⟨i,r,e⟩:=aiu u
   have:=p i (by omega)
   rw [e] at this
   rw [hs]
   exact this
  ·refine z b o (fun hm=>?_) (aJ4 _ e)
   rcases aA9.mp hm with B | hm
   ·exact absurd (B ▸ aJ5 e) (aG5 _)
   ·cases hm
end
end HT
namespace L2
open PySem PySem.Spec PyProof.Rows
section
variable {X:Cx}
def aed (ns:List Int) (m:Int):Prop:=m∈ns/\∀ x∈ns,x<=m
def aqt (ns:List Int) (m:Int):Prop:=m∈ns/\∀ x∈ns,m<=x
def aha (K:Frag):List V->Hp->VK->Prop:=fun xs H Q=>∃ (a:Addr) (ns:List Int),xs=[.ref a]/\(SqL K H a (ns.map V.int)\/SqT K H a (ns.map V.int))/\ns ≠ []/\∀ m,aed ns m->Q (.int m) H
def al4 (K:Frag):List V->Hp->VK->Prop:=fun xs H Q=>∃ (a:Addr) (ns:List Int),xs=[.ref a]/\(SqL K H a (ns.map V.int)\/SqT K H a (ns.map V.int))/\ns ≠ []/\∀ m,aqt ns m->Q (.int m) H
theorem ab0 (i:X.calm=true):aa5 X (.builtin "max") (aha X.K):=by
 intro pins s σ H xs us Q I r h
 obtain ⟨a,ns,rfl,ha,b,q⟩:=h
 obtain ⟨u,rfl,j⟩:=ab8 r
 cases j
 rcases ha with ha | ha
 ·obtain ⟨its,g,f,_⟩:=I.list ha
  have i1:IntsAre its.toArray.toList ns:=abx g
  exact HT.max_list (I.ok.hd i) f.isList (by simpa using i1) b fun m t h' l d c kp=>⟨.int m,H,I.kept kp,⟨_,rfl⟩,q m ⟨d,c⟩⟩
 ·obtain ⟨its,g,f,_⟩:=I.tuple ha
  have i1:IntsAre its.toArray.toList ns:=abx g
  refine call_max_walk (HT.max_tup (I.ok.hd i) f (by simpa using i1) b fun m t h' l d c kp=>⟨.int m,H,I.kept kp,⟨_,rfl⟩,q m ⟨d,c⟩⟩)
theorem akr (i:X.calm=true):aa5 X (.builtin "min") (al4 X.K):=by
 intro pins s σ H xs us Q I r h
 obtain ⟨a,ns,rfl,ha,b,q⟩:=h
 obtain ⟨u,rfl,j⟩:=ab8 r
 cases j
 rcases ha with ha | ha
 ·obtain ⟨its,g,f,_⟩:=I.list ha
  have i1:IntsAre its.toArray.toList ns:=abx g
  exact HT.min_list (I.ok.hd i) f.isList (by simpa using i1) b fun m t h' l d c kp=>⟨.int m,H,I.kept kp,⟨_,rfl⟩,q m ⟨d,c⟩⟩
 ·obtain ⟨its,g,f,_⟩:=I.tuple ha
  have i1:IntsAre its.toArray.toList ns:=abx g
  refine call_min_walk (HT.min_tup (I.ok.hd i) f (by simpa using i1) b fun m t h' l d c kp=>⟨.int m,H,I.kept kp,⟨_,rfl⟩,q m ⟨d,c⟩⟩)
end
def tTru (K:Frag) (ta:TE):TT:=fun σ H Q=>ta σ H fun x H'=>∃ k,TruV K x H' k/\Q k H'
def rIsN:R2:=fun x y H Q=>y=.non/\Q (.bl (decide (x=.non))) H
section
variable {X:Cx} {a:Expr} {ta:TE}
theorem az0 (ha:PE X a ta) (b:∀ whole,isTrue a X.env whole=(do let v ← whole;standAt a.pos;holding [v] (truthy v)):=by intro _;rfl):PT X a (tTru X.K ta):=ats ha b
def adj (K:Frag):R2:=fun x y H Q=>rIxL K x y H Q\/rIxT K x y H Q
theorem aat:IxR X (adj X.K):=ix_list.or azk
theorem axa {i j n:Int} {a c:Nat} {d p2 pos:Pos} (h:i ^ j.toNat=n) (b:CPow i j):PE X (.BinOp (.Constant (.int i) a d) .Pow (.Constant (.int j) c p2) pos) (tC (.int n)):=by
 intro pins s σ H Q I q
 subst h
 exact aam azf aad aad pins s σ H Q I ⟨i,j,rfl,rfl,b,q⟩
theorem axb:OpR X (compareOp .Is) rIsN:=azg
end
section
variable {σ:St} {H:Hp} {D:Ends} {K:Frag}
theorem afu {a:Addr} {xs:List V} {i:Int} {v:V} {Q:VK} (ha:H a=some (.lst xs)) (b:atI xs i=some v) (h:Q v H):adj K (.ref a) (.int i) H Q:=.inl (azt ha b h)
theorem aue {a:Addr} {xs:List V} {i:Int} {v:V} {Q:VK} (ha:H a=some (.tup xs)) (b:atI xs i=some v) (h:Q v H):adj K (.ref a) (.int i) H Q:=.inr (azu ha b h)
theorem acl {A B:Prop} (h:A):if true=true then A else B:=by rw [aF6 rfl];exact h
theorem acz {A B:Prop} (h:B):if false=true then A else B:=by rw [aF7 aB0];exact h
theorem ajz {A B:Prop} (h:B):if (!true)=true then A else B:=by rw [aF7 (by decide)];exact h
theorem aj0 {A B:Prop} (h:A):if (!false)=true then A else B:=by rw [aF6 (by decide)];exact h
theorem auf {c:Prop} [Decidable c] {A B:Prop} (a:c) (h:B):if (!decide c)=true then A else B:=by rw [aD7 a];exact ajz h
theorem aug {c:Prop} [Decidable c] {A B:Prop} (a:¬ c) (h:A):if (!decide c)=true then A else B:=by rw [aD6 a];exact aj0 h
theorem ah8 {K:Frag}:kitOne K (.type "NoneType") (.type "int")=some false:=by first | rfl | decide
theorem aht {K:Frag}:kitOne K (.type "NoneType") (.type "bool")=some false:=by first | rfl | decide
theorem agq {K:Frag}:kitOne K (.type "NoneType") (.type "tuple")=some false:=by first | rfl | decide
theorem ahu {K:Frag}:kitOne K (.type "NoneType") (.type "list")=some false:=by first | rfl | decide
theorem ah9 {K:Frag}:kitOne K (.type "NoneType") (.type "str")=some false:=by first | rfl | decide
theorem ahv {K:Frag}:kitOne K (.type "NoneType") (.type "dict")=some false:=by first | rfl | decide
theorem amz {K:Frag}:kitOne K (.type "bool") (.type "int")=some true:=by first | rfl | decide
theorem alf {K:Frag}:kitOne K (.type "bool") (.type "bool")=some true:=by first | rfl | decide
theorem aj1 {K:Frag}:kitOne K (.type "bool") (.type "tuple")=some false:=by first | rfl | decide
theorem alg {K:Frag}:kitOne K (.type "bool") (.type "list")=some false:=by first | rfl | decide
theorem am0 {K:Frag}:kitOne K (.type "bool") (.type "str")=some false:=by first | rfl | decide
theorem alh {K:Frag}:kitOne K (.type "bool") (.type "dict")=some false:=by first | rfl | decide
theorem aoi {K:Frag}:kitOne K (.type "int") (.type "int")=some true:=by first | rfl | decide
theorem am1 {K:Frag}:kitOne K (.type "int") (.type "bool")=some false:=by first | rfl | decide
theorem ali {K:Frag}:kitOne K (.type "int") (.type "tuple")=some false:=by first | rfl | decide
theorem am2 {K:Frag}:kitOne K (.type "int") (.type "list")=some false:=by first | rfl | decide
theorem aoj {K:Frag}:kitOne K (.type "int") (.type "str")=some false:=by first | rfl | decide
theorem am3 {K:Frag}:kitOne K (.type "int") (.type "dict")=some false:=by first | rfl | decide
theorem aok {K:Frag}:kitOne K (.type "str") (.type "int")=some false:=by first | rfl | decide
theorem am4 {K:Frag}:kitOne K (.type "str") (.type "bool")=some false:=by first | rfl | decide
theorem alj {K:Frag}:kitOne K (.type "str") (.type "tuple")=some false:=by first | rfl | decide
theorem am5 {K:Frag}:kitOne K (.type "str") (.type "list")=some false:=by first | rfl | decide
theorem aol {K:Frag}:kitOne K (.type "str") (.type "str")=some true:=by first | rfl | decide
theorem am6 {K:Frag}:kitOne K (.type "str") (.type "dict")=some false:=by first | rfl | decide
theorem am7 {K:Frag}:kitOne K (.type "list") (.type "int")=some false:=by first | rfl | decide
theorem alk {K:Frag}:kitOne K (.type "list") (.type "bool")=some false:=by first | rfl | decide
theorem aj2 {K:Frag}:kitOne K (.type "list") (.type "tuple")=some false:=by first | rfl | decide
theorem alm {K:Frag}:kitOne K (.type "list") (.type "list")=some true:=by first | rfl | decide
theorem am8 {K:Frag}:kitOne K (.type "list") (.type "str")=some false:=by first | rfl | decide
theorem aln {K:Frag}:kitOne K (.type "list") (.type "dict")=some false:=by first | rfl | decide
theorem alo {K:Frag}:kitOne K (.type "tuple") (.type "int")=some false:=by first | rfl | decide
theorem aj3 {K:Frag}:kitOne K (.type "tuple") (.type "bool")=some false:=by first | rfl | decide
theorem aiv {K:Frag}:kitOne K (.type "tuple") (.type "tuple")=some true:=by first | rfl | decide
theorem aj4 {K:Frag}:kitOne K (.type "tuple") (.type "list")=some false:=by first | rfl | decide
theorem alp {K:Frag}:kitOne K (.type "tuple") (.type "str")=some false:=by first | rfl | decide
theorem aj5 {K:Frag}:kitOne K (.type "tuple") (.type "dict")=some false:=by first | rfl | decide
theorem am9 {K:Frag}:kitOne K (.type "dict") (.type "int")=some false:=by first | rfl | decide
theorem alq {K:Frag}:kitOne K (.type "dict") (.type "bool")=some false:=by first | rfl | decide
theorem aj6 {K:Frag}:kitOne K (.type "dict") (.type "tuple")=some false:=by first | rfl | decide
theorem alr {K:Frag}:kitOne K (.type "dict") (.type "list")=some false:=by first | rfl | decide
theorem ana {K:Frag}:kitOne K (.type "dict") (.type "str")=some false:=by first | rfl | decide
theorem als {K:Frag}:kitOne K (.type "dict") (.type "dict")=some true:=by first | rfl | decide
end
end L2
namespace L2
open PySem
section
variable {σ:St} {H:Hp} {K:Frag}
theorem abm {p:Addr} {o:HO} (a:H p=none):Same H (upd H p o):=fun b u e=>by rw [aag (aaq e a)];exact e
theorem Same.at {H H':Hp} {b:Addr} {o:HO} (s:Same H H') (h:H b=some o):H' b=some o:=s b o h
end
section
variable {σ:St} {H:Hp} {K:Frag}
end
end L2
namespace Gr
inductive Walk (T:Int->Int->Prop) (u:Int):Nat->Int->Prop
 | refl:Walk T u 0 u
 | step {k:Nat} {v w:Int}:Walk T u k v->T v w->Walk T u (k+1) w
def Dist (T:Int->Int->Prop) (u v:Int) (d:Nat):Prop:=Walk T u d v/\∀ k,Walk T u k v->d<=k
theorem Dist.uniq {T:Int->Int->Prop} {u v:Int} {d e:Nat} (h:Dist T u v d) (g:Dist T u v e):d=e:=Nat.le_antisymm (h.2 _ g.1) (g.2 _ h.1)
theorem Dist.self (T:Int->Int->Prop) (u:Int):Dist T u u 0:=⟨.refl,fun _ _=>aG1 _⟩
theorem Dist.of_walk {T:Int->Int->Prop} {u v:Int} {k:Nat} (h:Walk T u k v):∃ d,d<=k/\Dist T u v d:=by
 induction k using Nat.strongRecOn with
 | ind k ih =>
  by_cases hx:∃ j,j < k/\Walk T u j v
  ·obtain ⟨j,a,w⟩:=hx
   obtain ⟨d,hd,e⟩:=ih j a w
   exact ⟨d,by omega,e⟩
  ·refine ⟨k,aA6 _,h,fun j w=>?_⟩
   by_cases a:j < k
   ·exact absurd ⟨j,a,w⟩ hx
   ·omega
theorem Dist.pred {T:Int->Int->Prop} {u w:Int} {d:Nat} (h:Dist T u w (d+1)):∃ v,T v w/\Dist T u v d:=by
 obtain ⟨a,hm⟩:=h
 cases a with
 | step hv ht =>
  rename_i v
  refine ⟨v,ht,hv,fun k b=>?_⟩
  have:=hm (k+1) (.step b ht)
  omega
theorem Dist.next {T:Int->Int->Prop} {u v w:Int} {d:Nat} (h:Dist T u v d) (t:T v w):∃ e,e<=d+1/\Dist T u w e:=Dist.of_walk (.step h.1 t)
structure Bfs (T:Int->Int->Prop) (a:Int) (line:List Int) (ds:List Nat) (at_:Nat):Prop where
 len:ds.length=line.length
 fst:line[0]?=some a
 nd:line.Nodup
 le:at_<=line.length
 dist:∀ (i:Nat) v d,line[i]?=some v->ds[i]?=some d->Dist T a v d
 mono:∀ (i j:Nat) d e,i<=j->ds[i]?=some d->ds[j]?=some e->d<=e
 near:∀ (i j:Nat) d e,at_<=i->ds[i]?=some d->ds[j]?=some e->e<=d+1
 done:∀ (i:Nat) v w,i < at_->line[i]?=some v->T v w->w∈line
end Gr
namespace L2
open PySem PySem.Spec PyProof.Rows
section
variable {σ:St} {H:Hp} {D:Ends} {K:Frag}
end
theorem few_places:∀ (n:Nat) (l:List Int),l.Nodup->(∀ v∈l,0<=v/\v < (n:Int))->l.length<=n
 | 0,l,_,h=>by
  cases l with
  | nil=>simp
  | cons v r=>have:=h v (by simp);omega
 | n+1,l,hn,h=>by
  have c:=few_places n (l.erase (n:Int)) (hn.erase _) fun v a=>by
   have hm:=List.mem_of_mem_erase a
   have hb:=h v hm
   have b:v ≠ (n:Int):=by
    rintro rfl
    exact absurd a (List.Nodup.not_mem_erase hn)
   omega
  have d:l.length<=(l.erase (n:Int)).length+1:=by
   rw [List.length_erase]
   split <;> omega
  omega
end L2
namespace L2
open PySem
end L2
namespace HT
open PySem PyProof.Rows
section
variable {prog:Program} {w:World} {A:Around} {E:Value->Shared->Prop} {s:Shared}
end
end HT
namespace L2
open PySem PySem.Spec PyProof.Rows
section
variable {X:Cx}
end
section
variable {X:Cx} {pins:List (Addr × Obj)} {σ:St} {H:Hp} {s:Shared} {A:Around} {E:Value->Shared->Prop} {Q:Value->Shared->Prop} {b:Bool}
end
section
variable {X:Cx}
end
end L2
namespace HT
open PySem PyProof.Rows L2
def LtAt (A:Around) (s:Shared) (y x:Value) (b:Bool):Prop :=
 ∀ (prog:Program) (w:World) (E:Value->Shared->Prop) (Q:Value->Shared->Prop),Q (.bool b) s->wpAny (model prog w) A (richCompare .Lt y x) Q E s
section
open PySem.SeqAt
open PySem.AutoSeq1 (wpAny_loadPart')
open PySem.MeetsSeq PySem.MeetsSeq2 PySem.MeetsSeq3
inductive Its (A:Around) (s:Shared):List Value->List Value->Bool->Prop
 | nn:Its A s [] [] false
 | nc {x:Value} {ys:List Value}:Its A s [] (x :: ys) true
 | cn {x:Value} {xs:List Value}:Its A s (x :: xs) [] false
 | eq {x y:Value} {xs ys:List Value} {b:Bool}:EqAt A s x y true->Its A s xs ys b->Its A s (x :: xs) (y :: ys) b
 | ne {x y:Value} {xs ys:List Value} {b:Bool}:EqAt A s x y false->LtAt A s x y b->Its A s (x :: xs) (y :: ys) b
end
section
variable {A:Around} {s:Shared}
end
end HT
namespace L2
open PySem PySem.Spec PyProof.Rows
section
variable {X:Cx}
end
end L2
namespace L2
open PySem
end L2
namespace TS
open PySem PyProof.Rows HT
theorem apd:∀ x y:List Int,HT.lexLt x y=true->HT.lexLt y x=false
 | [],[],h=>by simp [HT.lexLt] at h
 | [],_ :: _,_=>rfl
 | _ :: _,[],h=>by simp [HT.lexLt] at h
 | a :: x,b :: y,h=>by
  rw [aeu] at h ⊢
  by_cases e:a=b
  ·subst e
   rw [aF6 rfl] at h ⊢
   exact apd x y h
  ·rw [aF7 e] at h
   rw [aF7 (fun z=>e z.symm)]
   have:=of_decide_eq_true h
   exact aD6 (by omega)
theorem asc:∀ x y z:List Int,HT.lexLt y x=false->HT.lexLt z y=false->HT.lexLt z x=false
 | _,[],[],h,_=>h
 | [],[],_ :: _,_,_=>rfl
 | _ :: _,[],_ :: _,h,_=>by simp [HT.lexLt] at h
 | _,_ :: _,[],_,h=>by simp [HT.lexLt] at h
 | [],_ :: _,_ :: _,_,_=>rfl
 | a :: x,b :: y,c :: z,h,g=>by
  rw [aeu] at h g ⊢
  by_cases e:b=a
  ·subst e
   rw [aF6 rfl] at h
   by_cases e2:c=b
   ·subst e2
    rw [aF6 rfl] at g ⊢
    exact asc x y z h g
   ·rw [aF7 e2] at g ⊢
    exact g
  ·rw [aF7 e] at h
   have h':=of_decide_eq_false h
   by_cases e2:c=b
   ·subst e2
    rw [aF7 e]
    exact h
   ·rw [aF7 e2] at g
    have g':=of_decide_eq_false g
    rw [aF7 (by omega)]
    exact aD6 (by omega)
def TI (h:Heap) (a:Addr) (ns:List Int):Prop:=∃ o xs n,h.get? a=some o/\o.cls=.type "tuple"/\o.data=.seq xs n/\IntsAre xs.toList ns
def kfV (kf:Addr->List Int):Value->List Int
 | .ref a=>kf a
 | _=>[]
section
variable {prog:Program} {w:World} {A:Around} {E:Value->Shared->Prop} {s:Shared}
theorem ahx {fin:Bool} {Q:Bool->Shared->Prop}:∀ {xs ys:List Value} {ns c:List Int} (i:Nat),IntsAre xs ns->IntsAre ys c->(ns.length < c.length->fin=true)->(c.length<=ns.length->fin=false)->Q (HT.lexLt ns c) s ->
  PySem.W.KatLex prog w A true fin Q (xs.zip ys) i s
 | _,_,_,_,i,.nil,.nil,_,h2,q=>by
  rw [h2 (aA6 _)];exact q
 | _,_,_,_,i,.nil,.cons b u r,h1,_,q=>by
  rw [h1 (by simp)];exact q
 | _,_,_,_,i,.cons a t r,.nil,_,h2,q=>by
  rw [List.zip_nil_right,h2 (by simp)];exact q
 | _,_,_,_,i,.cons a t r,.cons b u r2,h1,h2,q=>by
  rw [List.zip_cons_cons]
  refine PySem.W.kat_cons (SeqAt.EqAt.int_int a t b u prog w _ _ ?_)
  rw [aeu] at q
  by_cases e:a=b
  ·subst e
   rw [aF6 rfl] at q
   rw [show (a == a)=true by simp]
   exact PySem.W.kat_yes (ahx (i+1) r r2 (fun z=>h1 (by simpa using z)) (fun z=>h2 (by simpa using z)) q)
  ·rw [aF7 e] at q
   rw [show (a == b)=false by simpa using e]
   refine PySem.W.kat_no ?_
   by_cases hi:i=0
   ·subst hi
    exact oneLt_int q
   ·rw [show (true && i == 0)=false by simpa using hi]
    exact PySem.W.kat_one _ _ (PyProof.Rows.lt_int q)
def tS (h:Heap) (kf:Addr->List Int) (x:Keyed):Prop:=x.1=x.2/\∃ a,x.1=.ref a/\TI h a (kf a)
def tR (kf:Addr->List Int) (x y:Keyed):Bool:=HT.lexLt (kfV kf x.1) (kfV kf y.1)
theorem cmp_tups (j:Addr->List Int):Cmp (model prog w) A E s (tuples' true) (tS s.heap j) (tR j):=by
 refine ⟨fun x y l m Q st r q=>?_,fun x y _ _=>apd _ _,fun x y z _ _ _=>asc _ _ _⟩
 obtain ⟨G,I⟩:=x
 obtain ⟨F,J⟩:=y
 obtain ⟨_,a,i,o,xs,n,u,H,B,f⟩:=l
 obtain ⟨_,b,h,o',ys,C,p,D,v,g⟩:=m
 dsimp only at i h
 subst i h
 rw [lt'_eq]
 refine wpS_bind (wpS_get ?_)
 rw [r]
 refine wpS_bind (wpS_lift (wpAny_attempt (PySem.W.kat_lt u B p v (ahx 0 f g (fun z=>?_) (fun z=>?_) ⟨rfl,?_⟩))))
 ·have c:=f.length;have d:=g.length
  simp at c d
  exact aD7 (by omega)
 ·have c:=f.length;have d:=g.length
  simp at c d
  exact aD6 (by omega)
 ·exact wpS_pure q
theorem aqu {vs:List Value} {ps:List Keyed} (h:ps.Perm (vs.zip vs)):(∀ p∈ps,p.1=p.2/\p.1∈vs)/\(ps.map (·.2)).Perm vs:=by
 refine ⟨fun p b=>mem_zip_self (h.mem_iff.mp b),?_⟩
 have a:=h.map (fun p=>p.2)
 have e:(vs.zip vs).map (fun p=>p.2)=vs:=List.map_snd_zip (aA6 _)
 rwa [e] at a
theorem aga {a:Addr} {vs:List Value} {n:Nat} {P:PySem.Fin->Shared->Prop} (j:s.heap.get? a=some (seqObj "list" vs.toArray n)) (c:vs.length<=sizeLine)
  (r:2<=vs.length->∀ h',(∀ b o,b ≠ a->s.heap.get? b=some o->h'.get? b=some o)->∃ κ S R,(∀ (Q:SortKind->Shared->Prop),Q κ { s with heap:=h' }->wpAny (model prog w) A (keyKind' vs.toArray) Q E { s with heap:=h' })/\Cmp (model prog w) A E { s with heap:=h' } κ S R/\(∀ v∈vs,S (v,v)) /\
   ∀ out:List Value,out.Perm vs->out.Pairwise (fun x y=>R (y,y) (x,x)=false)->P (.done (.ret .none)) { s with heap:=sortedHeap s.heap a vs out.toArray })
  (z:vs.length < 2->P (.done (.ret .none)) { s with heap:=sortedHeap s.heap a vs vs.toArray }) :
  wpAny (model prog w) A (Builtin.«list.sort» ⟨[.ref a],[]⟩) P E s:=by
 rw [list_sort_plain]
 have ha:a < s.heap.objs.size:=aJ5 j
 refine aJ2 (listItems_at j rfl ?_)
 refine aJ2 (listUpdate_at j rfl ?_ (by rw [aB2];exact c) (aG1 _))
 obtain ⟨p,i⟩:∃ p,(s.heap.update a (Obj.mapSeq fun _ => #[])).get? a=some (seqObj "list" #[] p):=⟨_,get?_update_seq j (fun _ => #[])⟩
 refine aJ2 (seqEpoch_at i rfl ?_)
 refine aJ2 (wpAny_newTuple ?_ (by show vs.length<=_;exact c))
 refine aJ2 (wpAny_newList ?_ (aG1 _))
 refine aJ8 ?_
 have d:(((s.heap.update a (Obj.mapSeq fun _ => #[])).push (seqObj "tuple" vs.toArray 0)).push (seqObj "list" #[] 0)).get? a=some (seqObj "list" #[] p):=by
  rw [Heap.get?_push_ne _ _ _ (by rw [size_push',Heap.size_update];exact aB6 (aF9 ha)),Heap.get?_push_ne _ _ _ (by rw [Heap.size_update];exact aB6 ha)]
  exact i
 show wpAny (model prog w) A _ P E { s with heap:=((s.heap.update a (Obj.mapSeq fun _ => #[])).push (seqObj "tuple" vs.toArray 0)).push (seqObj "list" #[] 0) }
 dsimp only
 have hsz:vs.toArray.size=vs.length:=by simp
 have kp:∀ b o,b ≠ a->s.heap.get? b=some o->(((s.heap.update a (Obj.mapSeq fun _ => #[])).push (seqObj "tuple" vs.toArray 0)).push (seqObj "list" #[] 0)).get? b=some o:=fun b o hb e=>by
  refine aJ4 _ (aJ4 _ ?_)
  rw [Heap.get?_update_ne _ _ _ _ hb];exact e
 by_cases h2:vs.toArray.size < 2
 ·rw [aF6 h2,aF6 h2]
  refine aJ2 (aJ3 ?_)
  rw [StateT.run_pure]
  refine aJ2 (aJ3 ?_)
  dsimp only
  have l:(arrOf (SortSt.mk' general' (vs.toArray.zip vs.toArray) #[] 7 none)).map (·.2)=vs.toArray:=by
   show (vs.toArray.zip vs.toArray).map (·.2)=vs.toArray
   apply Array.toList_inj.mp
   rw [Array.toList_map,Array.toList_zip]
   exact List.map_snd_zip (aA6 _)
  rw [l]
  refine aJ2 (seqEpoch_at d rfl ?_)
  refine aJ2 (listUpdate_at d rfl ?_ (aG1 _) (by rw [aB2];exact Nat.le_succ_of_le c))
  simp only [bne_self_eq_false,Bool.false_eq_true,if_false]
  exact aJ3 (z (by omega))
 ·rw [aF7 h2,aF7 h2]
  obtain ⟨κ,S,R,I,C,B,g⟩:=r (by omega) _ kp
  refine aJ2 (I _ ?_)
  refine aJ2 (aK0 (aw9 C (a0:=vs.toArray.zip vs.toArray) (st:=SortSt.mk' κ (vs.toArray.zip vs.toArray) #[] 7 none) (Q:=fun _ st'=>failedOf st'=none/\(arrOf st').toList.Perm (vs.zip vs)/\Srt R (arrOf st').toList) (fun x m=>?_) rfl rfl rfl rfl fun st' J H s'=>⟨J,by simpa using H,s'⟩) ?_ fun _ _ e=>e)
  ·have:x∈vs.zip vs:=by simpa using m
   obtain ⟨f,h⟩:=mem_zip_self this
   obtain ⟨G,L⟩:=x
   dsimp only at f h
   subst f
   exact B _ h
  rintro ⟨⟨⟩,st'⟩ s' ⟨rfl,hf,F,hs⟩
  dsimp only
  obtain ⟨f,h⟩:=aqu F
  have l:(arrOf st').map (·.2)=(((arrOf st').toList.map (·.2)).toArray):=by
   apply Array.toList_inj.mp
   simp
  rw [l]
  have q:((arrOf st').toList.map (·.2)).length=vs.length:=h.length_eq
  refine aJ2 (seqEpoch_at d rfl ?_)
  refine aJ2 (listUpdate_at d rfl ?_ (aG1 _) (by rw [aB2,q];exact Nat.le_succ_of_le c))
  rw [hf]
  simp only [bne_self_eq_false,Bool.false_eq_true,if_false]
  refine aJ3 (g _ h ?_)
  rw [aG2]
  refine aI1 ?_ hs
  intro x y m D K
  have ex:=(f x m).1
  have u:=(f y D).1
  obtain ⟨G,L⟩:=x
  obtain ⟨M,N⟩:=y
  dsimp only at ex u
  subst ex u
  exact K
theorem sorted_any {l:Addr} {vs:List Value} {Q:Value->Shared->Prop} (p:s.heap.IsList l vs.toArray) (c:vs.length<=sizeLine)
  (h:2<=vs.length->∀ h',(∀ b o,s.heap.get? b=some o->h'.get? b=some o)->∃ κ S R,(∀ (Q:SortKind->Shared->Prop),Q κ { s with heap:=h' }->wpAny (model prog w) A.in1.in1 (keyKind' vs.toArray) Q E { s with heap:=h' })/\Cmp (model prog w) A.in1.in1 E { s with heap:=h' } κ S R/\(∀ v∈vs,S (v,v)) /\
   ∀ out:List Value,out.Perm vs->out.Pairwise (fun x y=>R (y,y) (x,x)=false)->Q (.ref (s.heap.objs.size+1)) { s with heap:=sortedAll s.heap vs out.toArray })
  (j:vs.length < 2->Q (.ref (s.heap.objs.size+1)) { s with heap:=sortedAll s.heap vs vs.toArray }) :
  wpAny (model prog w) A (call (.builtin "sorted") [.ref l]) Q E s:=by
 refine Calls.call_function_entry kind_sorted plain_sorted entry_sorted (args_sorted1 _) ?_
 unfold Builtin.«sorted»
 refine aJ2 (m:=checkCount "sorted" 1 1 _) (aJ3 ?_)
 refine aJ2 (collect_list p ?_ c)
 refine aJ2 (wpAny_newList ?_ c)
 have hsz:((s.heap.push (seqObj "list" #[] 0)).update s.heap.objs.size (Obj.mapSeq (· ++ vs.toArray))).objs.size=s.heap.objs.size+1:=by
  rw [Heap.size_update,size_push']
 have f:(((s.heap.push (seqObj "list" #[] 0)).update s.heap.objs.size (Obj.mapSeq (· ++ vs.toArray))).push (seqObj "list" vs.toArray 0)).get? (s.heap.objs.size+1)=some (seqObj "list" vs.toArray 0):=by
  rw [← hsz];exact aJ6 _ rfl
 have keep:∀ b o,s.heap.get? b=some o->(((s.heap.push (seqObj "list" #[] 0)).update s.heap.objs.size (Obj.mapSeq (· ++ vs.toArray))).push (seqObj "list" vs.toArray 0)).get? b=some o:=fun b o q=>by
  have a:b < s.heap.objs.size:=aJ5 q
  rw [Heap.get?_push_ne _ _ _ (by rw [hsz];exact aB6 (aF9 a)),Heap.get?_update_ne _ _ _ _ (aB6 a),Heap.get?_push_ne _ _ _ (aB6 a)]
  exact q
 show wpAny _ _ _ _ _ { s with heap:=((s.heap.push (seqObj "list" #[] 0)).update s.heap.objs.size (Obj.mapSeq (· ++ vs.toArray))).push (seqObj "list" vs.toArray 0) }
 rw [hsz]
 refine aJ2 (aJ8 (aK4 slot_list_sort ⟨_,f,rfl⟩ entry_list_sort ?body (args_list_sort _)))
 case body =>
  refine aga (s:={ s with heap:=((s.heap.push (seqObj "list" #[] 0)).update s.heap.objs.size (Obj.mapSeq (· ++ vs.toArray))).push (seqObj "list" vs.toArray 0) }) f c (fun g h' kp=>?_) fun a=>?_
  ·obtain ⟨κ,S,R,r,C,n,d⟩:=h g h' fun b o e=>kp b o (aB6 (aF9 (aJ5 e))) (keep b o e)
   exact ⟨κ,S,R,r,C,n,fun out i u=>⟨_,rfl,aJ3 ⟨_,rfl,d out i u⟩⟩⟩
  ·exact ⟨_,rfl,aJ3 ⟨_,rfl,j a⟩⟩
end
end TS
namespace L2
open PySem PySem.Spec PyProof.Rows
def toI:V->Int
 | .int i=>i
 | _=>0
def kH (H:Hp):V->List Int
 | .ref t=>match H t with
  | some (.tup xs)=>xs.map toI
  | _=>[]
 | _=>[]
theorem axc (ns:List Int):(ns.map V.int).map toI=ns:=by
 rw [aD9]
 have:(toI ∘ V.int)=id:=by funext i;rfl
 rw [this,List.map_id]
theorem al5 {H:Hp} {t:Addr} {ns:List Int} (h:H t=some (.tup (ns.map V.int))):kH H (.ref t)=ns:=by
 simp only [kH,h];exact axc ns
def TupI (H:Hp) (v:V):Prop:=∃ t ns,v=.ref t/\H t=some (.tup (ns.map V.int))/\ns ≠ []
def adu:Value->V
 | .ref a => .ref a
 | _ => .non
theorem agr:∀ {us:List Value},(∀ u∈us,∃ a,u=.ref a)->Vals (us.map adu) us
 | [],_ => .nil
 | u :: us,h=>by
  obtain ⟨a,e⟩:=h u aB8
  subst e
  exact .cons rfl (agr fun v b=>h v (aB5 _ b))
theorem ags {H:Hp}:∀ {vs:List V} {us:List Value},Vals vs us->(∀ v∈vs,TupI H v)->(∀ u∈us,∃ a,u=.ref a)/\us.map adu=vs
 | _,_,.nil,_=>⟨fun u d=>(by cases d),rfl⟩
 | v :: vs,u :: us,.cons r t,h=>by
  obtain ⟨a,ns,rfl,_,_⟩:=h v aB8
  cases r
  obtain ⟨f,g⟩:=ags t fun v c=>h v (aB5 _ c)
  refine ⟨fun x b=>?_,by rw [aD1,g];rfl⟩
  rcases aA9.mp b with rfl | b
  ·exact ⟨_,rfl⟩
  ·exact f x b
section
variable {X:Cx}
def aiw (K:Frag):List V->Hp->VK->Prop:=fun xs H Q=>∃ (a:Addr) (vs:List V),xs=[.ref a]/\SqL K H a vs/\(∀ v∈vs,TupI H v) /\
 ∀ (vs':List V) (p:Addr),vs'.Perm vs->vs'.Pairwise (fun x y=>HT.lexLt (kH H y) (kH H x)=false)->H p=none->Q (.ref p) (upd H p (.lst vs'))
theorem aia {H:Hp} {pins:List (Addr × Obj)} {σ:St} {s:Shared} (I:Inv X pins σ H s) {h':Heap} (kp:∀ b o,s.heap.get? b=some o->h'.get? b=some o):∀ {vs:List V} {us:List Value},Vals vs us->(∀ v∈vs,TupI H v) ->
  (∃ fs,PySem.W.KatTups h' us fs/\fs.length=us.length/\∀ f∈fs,∃ i t,f=.int i t)/\∀ u∈us,∃ a,u=.ref a/\TS.TI h' a (kH H (.ref a))
 | _,_,.nil,_=>⟨⟨[],trivial,rfl,fun f hf=>by cases hf⟩,fun u y=>by cases y⟩
 | v :: vs,u :: us,.cons r t,h=>by
  obtain ⟨a,ns,rfl,e,c⟩:=h v aB8
  cases r
  obtain ⟨⟨fs,G,E,z⟩,F⟩:=aia I kp t fun v C=>h v (aB5 _ C)
  obtain ⟨_,its,A,o,m,p,n,q⟩:=(show ObjOk X.prog X.w H s.heap a (.tup (ns.map V.int)) from I.hok a _ e)
  have hi:IntsAre its ns:=by simpa using (abx A:IntsAre its.toArray.toList ns)
  have B:TS.TI h' a (kH H (.ref a)):=⟨o,its.toArray,n,kp _ _ m,p,q,by rw [al5 e];simpa using hi⟩
  obtain ⟨f,hf,i,d,D⟩:∃ f,its.toArray[0]?=some f/\∃ i t,f=.int i t:=by
   cases hi with
   | nil=>exact absurd rfl c
   | cons i d _=>exact ⟨_,by simp,i,d,rfl⟩
  refine ⟨⟨f :: fs,PySem.W.KatTups.cons (kp _ _ m) p q hf G,by simp [E],fun g l=>?_⟩,fun x j=>?_⟩
  ·rcases aA9.mp l with rfl | l
   ·exact ⟨i,d,D⟩
   ·exact z g l
  ·rcases aA9.mp j with rfl | j
   ·exact ⟨a,rfl,B⟩
   ·exact F x j
theorem anc {α:Type} {R : α->α->Prop}:∀ {l:List α},l.length < 2->l.Pairwise R
 | [],_=>List.Pairwise.nil
 | [_],_=>List.pairwise_singleton _ _
 | _ :: _ :: _,h=>absurd h (by simp)
theorem aqv:aa5 X (.builtin "sorted") (aiw X.K):=by
 intro pins s σ H xs us Q I r h
 obtain ⟨a,vs,rfl,ha,n,q⟩:=h
 obtain ⟨u,rfl,B⟩:=ab8 r
 cases B
 obtain ⟨its,m,E,w⟩:=I.list ha
 obtain ⟨b1,G⟩:=ags m n
 have c:its.length<=sizeLine:=by rw [← m.length];exact w
 have d:H (s.heap.objs.size+1)=none:=I.hok.fresh (Nat.le_succ _)
 have fin:∀ out:List Value,out.Perm its->(out.map adu).Pairwise (fun x y=>HT.lexLt (kH H y) (kH H x)=false)->EP X pins σ Q (.ref (s.heap.objs.size+1)) { s with heap:=sortedAll s.heap its out.toArray }:=by
  intro out f hs
  obtain ⟨e,O⟩:=sortedAll_at s.heap its out.toArray
  have g:Vals (out.map adu) out:=agr fun u p=>b1 u (f.mem_iff.mp p)
  refine ⟨.ref (s.heap.objs.size+1),_,I.laid (t':=s.toks) (o:=.lst (out.map adu)) (fun b R q=>sortedAll_old q) (Nat.le_succ _) ?_,rfl,q _ _ ?_ hs d⟩
  ·refine ⟨by rw [aA3,f.length_eq];exact c,out,e,g,by rw [O]⟩
  ·rw [← G];exact f.map adu
 refine TS.sorted_any E.isList c (fun M h' kp=>?_) fun l=>?_
 ·obtain ⟨⟨fs,N,U,z⟩,L⟩:=aia I kp m n
  have j:(Value.type "int" != Value.type "tuple")=true:=by rfl
  refine ⟨tuples' true,TS.tS h' (fun a=>kH H (.ref a)),TS.tR (fun a=>kH H (.ref a)),fun P A=>?_,TS.cmp_tups (s:={ s with heap:=h' }) (fun a=>kH H (.ref a)),fun v g=>?_,fun out f hs=>fin out f ?_⟩
  ·refine PySem.W.kat_kind (T:=.type "int") (s:={ s with heap:=h' }) N (by omega) (fun v g=>?_) (by rfl) ?_
   ·obtain ⟨i,t,rfl⟩:=z v g
    exact .now
   ·rw [j];exact A
  ·obtain ⟨a,e,C⟩:=L v g
   exact ⟨rfl,a,e,C⟩
  ·rw [aG2]
   refine aI1 ?_ hs
   intro x y D F J
   obtain ⟨Y,rfl⟩:=b1 x (f.mem_iff.mp D)
   obtain ⟨S,rfl⟩:=b1 y (f.mem_iff.mp F)
   exact J
 ·refine fin its (List.Perm.refl _) ?_
  exact anc (by rw [aA3];exact l)
end
end L2
namespace HT
open PySem PySem.Spec PyProof.Rows L2
section
variable {prog:Program} {w:World} {A:Around} {kw:List (Str × Value)} {R:Result->Shared->Prop} {I S:Addr} {fp wr:List Addr} {n:Nat} {P:Nat->Value->Prop} {St:Nat->Heap->Prop} {Hd:Heap->Prop}
end
section
variable {prog:Program} {w:World} {A:Around} {E:Value->Shared->Prop} {s:Shared}
end
end HT
namespace L2
open PySem PySem.Spec PyProof.Rows
section
variable {X:Cx} {x:Str} {p pos kpos:Pos} {e en:Expr} {t:TA}
end
end L2
namespace HT
open PySem PySem.Spec PyProof.Rows
section
variable {prog:Program} {w:World} {A:Around} {E:Value->Shared->Prop} {s:Shared}
end
end HT
namespace L2
open PySem PySem.Spec PyProof.Rows
section
variable {X:Cx}
end
end L2
namespace VL
open PySem PySem.Spec L2
def kD:Key->PyData
 | .inl i => .int i
 | .inr x => .str x
mutual
inductive Rp (G:Hp):V->PyData->Prop
 | non:Rp G .non .none
 | bl (b:Bool):Rp G (.bl b) (.bool b)
 | int (i:Int):Rp G (.int i) (.int i)
 | str (x:Str):Rp G (.str x) (.str x)
 | lst {a:Addr} {xs:List V} {ds:List PyData}:G a=some (.lst xs)->Rps G xs ds->Rp G (.ref a) (.list ds)
 | tup {a:Addr} {xs:List V} {ds:List PyData}:G a=some (.tup xs)->Rps G xs ds->Rp G (.ref a) (.tuple ds)
 | dk {a:Addr} {kvs:List (Key × V)} {es:List (Key × PyData)} {ds:List (PyData × PyData)}:G a=some (.dK kvs)->RpK G kvs es->ds=es.map (fun p=>(kD p.1,p.2))->Rp G (.ref a) (.dict ds)
 | dt {a:Addr} {kvs:List (List Key × V)} {es:List (List Key × PyData)} {ds:List (PyData × PyData)}:G a=some (.dT kvs)->RpT G kvs es->ds=es.map (fun p=>(.tuple (p.1.map kD),p.2))->Rp G (.ref a) (.dict ds)
inductive Rps (G:Hp):List V->List PyData->Prop
 | nil:Rps G [] []
 | cons {v:V} {vs:List V} {d:PyData} {ds:List PyData}:Rp G v d->Rps G vs ds->Rps G (v :: vs) (d :: ds)
inductive RpK (G:Hp):List (Key × V)->List (Key × PyData)->Prop
 | nil:RpK G [] []
 | cons {k:Key} {v:V} {d:PyData} {r:List (Key × V)} {s:List (Key × PyData)}:Rp G v d->RpK G r s->RpK G ((k,v) :: r) ((k,d) :: s)
inductive RpT (G:Hp):List (List Key × V)->List (List Key × PyData)->Prop
 | nil:RpT G [] []
 | cons {k:List Key} {v:V} {d:PyData} {r:List (List Key × V)} {s:List (List Key × PyData)}:Rp G v d->RpT G r s->RpT G ((k,v) :: r) ((k,d) :: s)
end
mutual
theorem Rp.same {G G':Hp} (s:Same G G'):∀ {v:V} {d:PyData},Rp G v d->Rp G' v d
 | _,_,.non => .non
 | _,_,.bl b => .bl b
 | _,_,.int i => .int i
 | _,_,.str x => .str x
 | _,_,.lst h r => .lst (s _ _ h) (Rps.same s r)
 | _,_,.tup h r => .tup (s _ _ h) (Rps.same s r)
 | _,_,.dk h r e => .dk (s _ _ h) (RpK.same s r) e
 | _,_,.dt h r e => .dt (s _ _ h) (RpT.same s r) e
theorem Rps.same {G G':Hp} (s:Same G G'):∀ {vs:List V} {ds:List PyData},Rps G vs ds->Rps G' vs ds
 | _,_,.nil => .nil
 | _,_,.cons r t => .cons (Rp.same s r) (Rps.same s t)
theorem RpK.same {G G':Hp} (s:Same G G'):∀ {vs:List (Key × V)} {ds:List (Key × PyData)},RpK G vs ds->RpK G' vs ds
 | _,_,.nil => .nil
 | _,_,.cons r t => .cons (Rp.same s r) (RpK.same s t)
theorem RpT.same {G G':Hp} (s:Same G G'):∀ {vs:List (List Key × V)} {ds:List (List Key × PyData)},RpT G vs ds->RpT G' vs ds
 | _,_,.nil => .nil
 | _,_,.cons r t => .cons (Rp.same s r) (RpT.same s t)
end
theorem Rps.length {G:Hp}:∀ {vs:List V} {ds:List PyData},Rps G vs ds->vs.length=ds.length
 | _,_,.nil=>rfl
 | _,_,.cons _ t=>by simp [Rps.length t]
theorem Rps.get {G:Hp}:∀ {vs:List V} {ds:List PyData} {i:Nat} {d:PyData},Rps G vs ds->ds[i]?=some d->∃ v,vs[i]?=some v/\Rp G v d
 | _,_,_,_,.nil,e=>by simp at e
 | _,_,0,_,.cons r _,e=>by simp at e;subst e;exact ⟨_,rfl,r⟩
 | _,_,i+1,d,.cons _ t,e=>by
  obtain ⟨u,a,b⟩:=Rps.get (i:=i) (d:=d) t (by simpa using e)
  exact ⟨u,by simpa using a,b⟩
theorem Rps.append {G:Hp}:∀ {vs a:List V} {ds es:List PyData},Rps G vs ds->Rps G a es->Rps G (vs ++ a) (ds ++ es)
 | _,_,_,_,.nil,s=>s
 | _,_,_,_,.cons r t,s => .cons r (Rps.append t s)
theorem Rps.set {G:Hp} {v:V} {d:PyData} (h:Rp G v d):∀ {vs:List V} {ds:List PyData} (i:Nat),Rps G vs ds->Rps G (vs.set i v) (ds.set i d)
 | _,_,_,.nil => .nil
 | _,_,0,.cons _ t => .cons h t
 | _,_,i+1,.cons r t => .cons r (Rps.set h i t)
theorem Rps.erase {G:Hp}:∀ {vs:List V} {ds:List PyData} (i:Nat),Rps G vs ds->Rps G (vs.eraseIdx i) (ds.eraseIdx i)
 | _,_,_,.nil => .nil
 | _,_,0,.cons _ t=>t
 | _,_,i+1,.cons r t => .cons r (Rps.erase i t)
theorem Rps.take {G:Hp}:∀ {vs:List V} {ds:List PyData} (i:Nat),Rps G vs ds->Rps G (vs.take i) (ds.take i)
 | _,_,0,_ => .nil
 | _,_,_+1,.nil => .nil
 | _,_,i+1,.cons r t => .cons r (Rps.take i t)
theorem Rps.drop {G:Hp}:∀ {vs:List V} {ds:List PyData} (i:Nat),Rps G vs ds->Rps G (vs.drop i) (ds.drop i)
 | _,_,0,r=>r
 | _,_,_+1,.nil => .nil
 | _,_,i+1,.cons _ t=>Rps.drop i t
theorem Rps.rep {G:Hp} {vs:List V} {ds:List PyData} (h:Rps G vs ds):∀ (k:Nat),Rps G (List.replicate k vs).flatten (List.replicate k ds).flatten
 | 0 => .nil
 | k+1=>by
  rw [aH4,aH4,List.flatten_cons,List.flatten_cons]
  exact h.append (Rps.rep h k)
theorem Rps.ints {G:Hp}:∀ (ns:List Int),Rps G (ns.map V.int) (ns.map PyData.int)
 | [] => .nil
 | n :: ns => .cons (.int n) (Rps.ints ns)
theorem Rps.ints_inv {G:Hp}:∀ {ns:List Int} {vs:List V},Rps G vs (ns.map PyData.int)->vs=ns.map V.int
 | [],_,.nil=>rfl
 | n :: ns,_,.cons r t=>by
  cases r
  rw [Rps.ints_inv t];rfl
mutual
theorem Rp.rep {G:Hp}:∀ {v:V} {d:PyData},Rp G v d->aao d=true->Rep G v d
 | _,_,.non,_ => .non
 | _,_,.bl b,_ => .bl b
 | _,_,.int i,_ => .int i
 | _,_,.str x,_ => .str x
 | _,_,.lst h r,p => .lst h (Rps.reps r (by simpa [aao] using p))
 | _,_,.tup h r,p => .tup h (Rps.reps r (by simpa [aao] using p))
 | _,_,.dk h r e,p=>by simp [aao] at p
 | _,_,.dt h r e,p=>by simp [aao] at p
theorem Rps.reps {G:Hp}:∀ {vs:List V} {ds:List PyData},Rps G vs ds->plainDs ds=true->Reps G vs ds
 | _,_,.nil,_ => .nil
 | _,_,.cons r t,p=>by
  simp only [plainDs,aH2] at p
  exact .cons (Rp.rep r p.1) (Rps.reps t p.2)
end
structure Own where
 P:Hp->Hp->V->(Addr->Prop)->Prop
 mono:∀ {G H G' H':Hp} {v:V} {F:Addr->Prop},P G H v F->Same G G'->(∀ a o,F a->H a=some o->H' a=some o)->P G' H' v F
 dom:∀ {G H:Hp} {v:V} {F:Addr->Prop},P G H v F->∀ a,F a->∃ o,H a=some o
inductive Sl where
 | st (d:PyData) | own (A:Own) | io (A:Own) | scr (ns:List Int)
abbrev En:=List (Option Sl)
structure Bs where
 K:Frag
 G:Hp
 H:Hp
 R:Hp
 S:St
 F:Nat->Addr->Prop
def SlOk (B:Bs) (G H:Hp) (i:Nat) (v:V) (F:Addr->Prop):Sl->Prop
 | .st d=>Rp G v d/\∀ a,¬ F a
 | .own A=>A.P G H v F/\∀ a,F a->B.H a=none
 | .io A=>A.P G H v F/\(∀ a,F a->B.F i a\/B.H a=none)/\B.S[i]?=some (some v)
 | .scr ns=>(∃ a,v=.ref a/\SqL B.K G a (ns.map V.int))/\∀ a,¬ F a
def FT (G H:Hp):Prop:=∀ (a:Addr) (ks:List Key),H a=some (.tup (ks.map kV))->G a=some (.tup (ks.map kV))
structure VI (B:Bs) (G H:Hp) (σ:St) (env:En) (F:Nat->Addr->Prop):Prop where
 gh:Same G H
 g0:Same B.G G
 gn:∀ a o,G a=some o->B.G a=some o\/B.H a=none
 rs:Same B.R H
 rb:Same B.R B.H
 bh:∀ a o,B.H a=some o->∃ o',H a=some o'
 fg:∀ i a,F i a->G a=none
 fr:∀ i a,F i a->B.R a=none
 fd:∀ i j a,F i a->F j a->i=j
 fo:∀ i a,F i a->∃ o,H a=some o
 sl:∀ i s,env[i]?=some (some s)->∃ v,σ[i]?=some (some v)/\SlOk B G H i v (F i) s
 ln : σ.length=env.length
 ft:FT G H
def RsOk (G H:Hp) (v:V) (F:Addr->Prop):Sl->Prop
 | .st d=>Rp G v d/\∀ a,¬ F a
 | .own A=>A.P G H v F
 | _=>False
structure RsX (B:Bs) (G H:Hp) (v:V) (Fv:Addr->Prop) (s:Sl) (F:Nat->Addr->Prop):Prop where
 ok:RsOk G H v Fv s
 fb:∀ a,Fv a->B.H a=none
 fg:∀ a,Fv a->G a=none
 fo:∀ a,Fv a->∃ o,H a=some o
 fd:∀ j a,Fv a->¬ F j a
structure Out (G H:Hp) (v:V) (G' H':Hp) (s:Sl) (Fv:Addr->Prop):Prop where
 gg:Same G G'
 gh:Same G' H'
 hh:Same H H'
 gn:∀ a o,G' a=some o->G a=some o\/H a=none
 fn:∀ a,Fv a->H a=none
 fg:∀ a,Fv a->G' a=none
 fo:∀ a,Fv a->∃ o,H' a=some o
 ok:RsOk G' H' v Fv s
 ft:FT G H->FT G' H'
theorem aqw {α:Type} {o:Option α} (h:o ≠ none):∃ x,o=some x:=by
 cases o with
 | none=>exact absurd rfl h
 | some x=>exact ⟨x,rfl⟩
theorem SlOk.mono {B:Bs} {G H G' H':Hp} {i:Nat} {v:V} {F:Addr->Prop} {s:Sl} (h:SlOk B G H i v F s) (g:Same G G') (hh:∀ a o,F a->H a=some o->H' a=some o):SlOk B G' H' i v F s:=by
 cases s with
 | st d=>exact ⟨h.1.same g,h.2⟩
 | own A=>exact ⟨A.mono h.1 g hh,h.2⟩
 | io A=>exact ⟨A.mono h.1 g hh,h.2⟩
 | scr ns =>
  obtain ⟨⟨a,e,q⟩,n⟩:=h
  exact ⟨⟨a,e,g.seq q⟩,n⟩
section
variable {B:Bs} {G H G' H':Hp} {σ:St} {env:En} {F:Nat->Addr->Prop} {v:V} {s:Sl} {Fv:Addr->Prop}
theorem VI.no_r (I:VI B G H σ env F) {a:Addr} (h:H a=none):B.R a=none:=by
 cases e:B.R a with
 | none=>rfl
 | some o=>rw [I.rs a o e] at h;cases h
theorem VI.no_b (I:VI B G H σ env F) {a:Addr} (h:H a=none):B.H a=none:=by
 cases e:B.H a with
 | none=>rfl
 | some o=>obtain ⟨o',b⟩:=I.bh a o e;rw [b] at h;cases h
theorem VI.no_g (I:VI B G H σ env F) {a:Addr} (h:H a=none):G a=none:=by
 cases e:G a with
 | none=>rfl
 | some o=>rw [I.gh a o e] at h;cases h
theorem VI.no_f (I:VI B G H σ env F) {a:Addr} (h:H a=none) (i:Nat):¬ F i a:=fun z=>by
 obtain ⟨o,e⟩:=I.fo i a z;rw [e] at h;cases h
theorem VI.grow (I:VI B G H σ env F) (gg:Same G G') (gh:Same G' H') (hh:Same H H') (gn:∀ a o,G' a=some o->G a=some o\/H a=none) (ft:FT G' H'):VI B G' H' σ env F where
 gh:=gh
 g0:=I.g0.trans gg
 gn:=fun a o e=>by
  rcases gn a o e with e | e
  ·exact I.gn a o e
  ·exact .inr (I.no_b e)
 rs:=I.rs.trans hh
 rb:=I.rb
 bh:=fun a o e=>by obtain ⟨o',b⟩:=I.bh a o e;exact ⟨o',hh _ _ b⟩
 fg:=fun i a z=>by
  cases e:G' a with
  | none=>rfl
  | some o =>
   rcases gn a o e with e | e
   ·rw [I.fg i a z] at e;cases e
   ·exact absurd z (I.no_f e i)
 fr:=I.fr
 fd:=I.fd
 fo:=fun i a z=>by obtain ⟨o,e⟩:=I.fo i a z;exact ⟨o,hh _ _ e⟩
 sl:=fun i s e=>by
  obtain ⟨v,c,d⟩:=I.sl i s e
  exact ⟨v,c,d.mono gg fun a o _ q=>hh _ _ q⟩
 ln:=I.ln
 ft:=ft
theorem VI.out (I:VI B G H σ env F) (o:Out G H v G' H' s Fv):VI B G' H' σ env F/\RsX B G' H' v Fv s F :=
 ⟨I.grow o.gg o.gh o.hh o.gn (o.ft I.ft),o.ok,fun a z=>I.no_b (o.fn a z),o.fg,o.fo,fun j a z y=>I.no_f (o.fn a z) j y⟩
theorem VI.b_r (I:VI B G H σ env F) {a:Addr} (h:B.H a=none):B.R a=none:=by
 cases e:B.R a with
 | none=>rfl
 | some o=>rw [I.rb a o e] at h;cases h
def putF (F:Nat->Addr->Prop) (i:Nat) (Fv:Addr->Prop):Nat->Addr->Prop:=fun j a=>if j=i then Fv a else F j a
theorem putF_same {i:Nat} {a:Addr}:putF F i Fv i a ↔ Fv a:=by unfold putF;rw [aF6 rfl]
theorem afn {i:Nat}:putF F i Fv i=Fv:=by funext a;unfold putF;rw [aF6 rfl]
theorem abb {i j:Nat} (h:j ≠ i):putF F i Fv j=F j:=by funext a;unfold putF;rw [aF7 h]
theorem VI.slot (I:VI B G H σ env F) (i:Nat) (o:Option V) (os:Option Sl) (fg:∀ a,Fv a->G a=none) (fr:∀ a,Fv a->B.R a=none) (fo:∀ a,Fv a->∃ o,H a=some o) (fd:∀ j a,j ≠ i->Fv a->¬ F j a)
  (ok:∀ s,os=some s->∃ v,o=some v/\SlOk B G H i v Fv s):VI B G H (σ.set i o) (env.set i os) (putF F i Fv) where
 gh:=I.gh
 g0:=I.g0
 gn:=I.gn
 rs:=I.rs
 rb:=I.rb
 bh:=I.bh
 fg:=fun j a z=>by
  by_cases h:j=i
  ·subst h;exact fg a (putF_same.mp z)
  ·rw [abb h] at z;exact I.fg j a z
 fr:=fun j a z=>by
  by_cases h:j=i
  ·subst h;exact fr a (putF_same.mp z)
  ·rw [abb h] at z;exact I.fr j a z
 fd:=fun j k a y z=>by
  by_cases h:j=i
  ·by_cases g:k=i
   ·rw [h,g]
   ·subst h;rw [abb g] at z;exact absurd z (fd k a g (putF_same.mp y))
  ·by_cases g:k=i
   ·subst g;rw [abb h] at y;exact absurd y (fd j a h (putF_same.mp z))
   ·rw [abb h] at y;rw [abb g] at z;exact I.fd j k a y z
 fo:=fun j a z=>by
  by_cases h:j=i
  ·subst h;exact fo a (putF_same.mp z)
  ·rw [abb h] at z;exact I.fo j a z
 sl:=fun j t e=>by
  by_cases h:j=i
  ·subst h
   rw [aD2,aF6 rfl] at e
   by_cases hl:j < env.length
   ·rw [aF6 hl] at e
    obtain ⟨v,b,q⟩:=ok t (aC6 e)
    refine ⟨v,by rw [aD2,aF6 rfl,aF6 (by rw [I.ln];exact hl),b],?_⟩
    rw [afn];exact q
   ·rw [aF7 hl] at e;cases e
  ·rw [aD2,aF7 (fun z=>h z.symm)] at e
   obtain ⟨v,b,q⟩:=I.sl j t e
   refine ⟨v,by rw [aD2,aF7 (fun z=>h z.symm)];exact b,?_⟩
   rw [abb h];exact q
 ln:=by simp [I.ln]
 ft:=I.ft
theorem VI.store (I:VI B G H σ env F) (r:RsX B G H v Fv s F) (i:Nat):VI B G H (σ.set i (some v)) (env.set i (some s)) (putF F i Fv):=by
 refine I.slot i (some v) (some s) r.fg (fun a z=>I.b_r (r.fb a z)) r.fo (fun j a _ z=>r.fd j a z) fun t e=>?_
 cases e
 refine ⟨v,rfl,?_⟩
 have:=r.ok
 cases s with
 | st d=>exact this
 | own A=>exact ⟨this,r.fb⟩
 | io A=>exact this.elim
 | scr ns=>exact this.elim
theorem VI.drop (I:VI B G H σ env F) (i:Nat):VI B G H σ (env.set i none) (putF F i fun _=>False):=by
 have:=I.slot (Fv:=fun _=>False) i ((σ[i]?).getD none) none (fun a z=>z.elim) (fun a z=>z.elim) (fun a z=>z.elim) (fun j a _ z=>z.elim) (fun s e=>by cases e)
 rwa [show σ.set i ((σ[i]?).getD none) = σ from ?_] at this
 apply aG3
 intro j
 rw [aD2]
 by_cases h:i=j
 ·subst h
  rw [aF6 rfl]
  by_cases hl:i < σ.length
  ·rw [aF6 hl,aA0 hl];rfl
  ·rw [aF7 hl,aF8.mpr (by omega)]
 ·rw [aF7 h]
theorem VI.change {A:Own} (I:VI B G H σ env F) (i:Nat) {H2:Hp} {F2:Addr->Prop} {os os':Sl} (e:env[i]?=some (some os)) (g : σ[i]?=some (some v))
  (keep:∀ a o,¬ F i a->H a=some o->H2 a=some o) (p:∀ a o,H a=some o->∃ o',H2 a=some o') (c:∀ a,F2 a->(F i a\/H a=none)/\∃ o,H2 a=some o) (m:A.P G H2 v F2) (C:FT G H2)
  (hs:(os'=.own A/\∃ d,os=.own d)\/(os'=.io A/\∃ d,os=.io d)):VI B G H2 σ (env.set i (some os')) (putF F i F2):=by
 obtain ⟨Q,f,q⟩:=I.sl i os e
 rw [g] at f;cases f
 have l:∀ j a,j ≠ i->F j a->¬ F i a:=fun j a b y z=>b (I.fd j i a y z)
 have L:∀ a,F2 a->G a=none:=fun a z=>by
  rcases (c a z).1 with y | y
  ·exact I.fg i a y
  ·exact I.no_g y
 have J:VI B G H2 σ (env.set i none) (putF F i fun _=>False):=by
  have D:=I.drop i
  refine ⟨fun a o x=>keep a o (fun z=>by rw [I.fg i a z] at x;cases x) (I.gh a o x),D.g0,D.gn,fun a o x=>keep a o (fun z=>by rw [I.fr i a z] at x;cases x) (I.rs a o x),D.rb,fun a o x=>?_,D.fg,D.fr,D.fd,fun j a z=>?_,fun j s x=>?_,D.ln,C⟩
  ·obtain ⟨o',E⟩:=I.bh a o x
   exact p a o' E
  ·obtain ⟨o,x⟩:=D.fo j a z
   exact p a o x
  ·obtain ⟨u,r,w⟩:=D.sl j s x
   refine ⟨u,r,w.mono (Same.refl G) fun a o z y=>?_⟩
   by_cases b:j=i
   ·subst b;exact (putF_same.mp z).elim
   ·rw [abb b] at z
    exact keep a o (l j a b z) y
 have n:=J.slot (Fv:=F2) i (some v) (some os') L (fun a z=>by
   rcases (c a z).1 with y | y
   ·exact I.fr i a y
   ·exact I.no_r y) (fun a z=>(c a z).2) (fun j a b z y=>by
   rw [abb b] at y
   rcases (c a z).1 with x | x
   ·exact l j a b y x
   ·exact I.no_f x j y) fun t K=>by
   cases K
   refine ⟨v,rfl,?_⟩
   rcases hs with ⟨rfl,d,rfl⟩ | ⟨rfl,d,rfl⟩
   ·refine ⟨m,fun a z=>?_⟩
    rcases (c a z).1 with y | y
    ·exact q.2 a y
    ·exact I.no_b y
   ·refine ⟨m,fun a z=>?_,q.2.2⟩
    rcases (c a z).1 with y | y
    ·exact q.2.1 a y
    ·exact .inr (I.no_b y)
 have M : σ.set i (some v) = σ:=by
  apply aG3
  intro j
  rw [aD2]
  by_cases h:i=j
  ·subst h
   rw [aF6 rfl,g,aF6 (aA1.mp g).1]
  ·rw [aF7 h]
 have N:(env.set i none).set i (some os')=env.set i (some os'):=by simp
 have O:putF (putF F i fun _=>False) i F2=putF F i F2:=by
  funext j a
  by_cases h:j=i
  ·subst h;rw [afn,afn]
  ·rw [abb h,abb h,abb h]
 rw [M,N,O] at n
 exact n
end
open Classical in
def jn (G H:Hp) (F:Addr->Prop):Hp:=fun a=>if F a then H a else G a
theorem ahb {G H:Hp} {F:Addr->Prop} {a:Addr} (h:F a):jn G H F a=H a:=aF6 h
theorem al6 {G H:Hp} {F:Addr->Prop} {a:Addr} (h:¬ F a):jn G H F a=G a:=aF7 h
theorem ab2 {G H:Hp} {F:Addr->Prop} (h:∀ a,F a->G a=none):Same G (jn G H F):=fun a o e=>by
 rw [al6 (fun z=>by rw [h a z] at e;cases e)];exact e
theorem aqx {G H:Hp} {F:Addr->Prop} (h:Same G H):Same (jn G H F) H:=fun a o e=>by
 by_cases z:F a
 ·rw [ahb z] at e;exact e
 ·rw [al6 z] at e;exact h a o e
def Frz (A:Own) (d:PyData):Prop:=∀ (G H:Hp) (v:V) (F:Addr->Prop),A.P G H v F->(∀ a,F a->G a=none)->Same G H->Rp (jn G H F) v d
def FQ:Sl->(PyData->Prop)->Prop
 | .st d,R=>R d
 | .own A,R=>∃ d,Frz A d/\R d
 | _,_=>False
def OL (ds:List PyData):Own where
 P:=fun G H v F=>∃ a vs,v=.ref a/\H a=some (.lst vs)/\Rps G vs ds/\∀ b,F b ↔ b=a
 mono:=fun ⟨a,vs,e,h,r,f⟩ g hh=>⟨a,vs,e,hh a _ ((f a).mpr rfl) h,r.same g,f⟩
 dom:=fun ⟨a,vs,e,h,r,f⟩ b z=>by rw [(f b).mp z];exact ⟨_,h⟩
def OT (es:List (List Key × PyData)):Own where
 P:=fun G H v F=>∃ a kvs,v=.ref a/\H a=some (.dT kvs)/\RpT G kvs es/\∀ b,F b ↔ b=a
 mono:=fun ⟨a,vs,e,h,r,f⟩ g hh=>⟨a,vs,e,hh a _ ((f a).mpr rfl) h,r.same g,f⟩
 dom:=fun ⟨a,vs,e,h,r,f⟩ b z=>by rw [(f b).mp z];exact ⟨_,h⟩
theorem ab9 {ds:List PyData}:Frz (OL ds) (.list ds):=fun G H v F ⟨a,vs,e,h,r,f⟩ n g=>by
 subst e
 exact .lst (by rw [ahb ((f a).mpr rfl)];exact h) (r.same (ab2 n))
theorem a1s {d:PyData} {R:PyData->Prop} (h:R d):FQ (.st d) R:=h
theorem adw {ds:List PyData} {R:PyData->Prop} (h:R (.list ds)):FQ (.own (OL ds)) R:=⟨_,ab9,h⟩
section
variable {B:Bs} {G H G' H':Hp} {σ:St} {env:En} {F:Nat->Addr->Prop} {v:V} {s:Sl} {Fv:Addr->Prop}
theorem VI.freeze (I:VI B G H σ env F) (fb:∀ a,Fv a->B.H a=none) (fd:∀ j a,Fv a->¬ F j a) (fg:∀ a,Fv a->G a=none):VI B (jn G H Fv) H σ env F where
 gh:=aqx I.gh
 g0:=I.g0.trans (ab2 fg)
 gn:=fun a o e=>by
  by_cases z:Fv a
  ·exact .inr (fb a z)
  ·rw [al6 z] at e;exact I.gn a o e
 rs:=I.rs
 rb:=I.rb
 bh:=I.bh
 fg:=fun i a z=>by
  rw [al6 (fun y=>fd i a y z)];exact I.fg i a z
 fr:=I.fr
 fd:=I.fd
 fo:=I.fo
 sl:=fun i s e=>by
  obtain ⟨v,b,c⟩:=I.sl i s e
  exact ⟨v,b,c.mono (ab2 fg) fun a o _ q=>q⟩
 ln:=I.ln
 ft:=fun a ks e=>ab2 fg _ _ (I.ft a ks e)
theorem VI.frz {A:Own} {d:PyData} {i:Nat} (I:VI B G H σ env F) (e:env[i]?=some (some (.own A))) (f:Frz A d) :
  ∃ v,σ[i]?=some (some v)/\Rp (jn G H (F i)) v d/\Same G (jn G H (F i))/\VI B (jn G H (F i)) H σ (env.set i (some (.st d))) (putF F i fun _=>False):=by
 obtain ⟨v,b,q⟩:=I.sl i _ e
 have c:=f G H v (F i) q.1 (I.fg i) I.gh
 refine ⟨v,b,c,ab2 (I.fg i),?_⟩
 have D:=(I.drop i).freeze (Fv:=F i) q.2 (fun j a z y=>by
  by_cases h:j=i
  ·subst h;exact (putF_same.mp y).elim
  ·rw [abb h] at y;exact h (I.fd j i a y z)) (I.fg i)
 have J:=D.slot (Fv:=fun _=>False) i (some v) (some (.st d)) (fun a z=>z.elim) (fun a z=>z.elim) (fun a z=>z.elim) (fun j a _ z=>z.elim) (fun t g=>by cases g;exact ⟨v,rfl,c,fun a z=>z⟩)
 have l : σ.set i (some v) = σ:=by
  apply aG3
  intro j
  rw [aD2]
  by_cases h:i=j
  ·subst h
   rw [aF6 rfl,b,aF6 (aA1.mp b).1]
  ·rw [aF7 h]
 have m:putF (putF F i fun _=>False) i (fun _=>False)=putF F i fun _=>False:=by
  funext j a
  by_cases h:j=i
  ·subst h;rw [afn,afn]
  ·rw [abb h,abb h]
 rw [l,m,List.set_set] at J
 exact J
theorem Out.refl {d:PyData} (g:Same G H) (r:Rp G v d):Out G H v G H (.st d) (fun _=>False):=⟨Same.refl _,g,Same.refl _,fun a o e => .inl e,fun a z=>z.elim,fun a z=>z.elim,fun a z=>z.elim,⟨r,fun a z=>z⟩,fun t=>t⟩
theorem axd {p:Addr} {o:HO} (g:Same G H) (h:H p=none):Same (upd G p o) (upd H p o):=fun a u e=>by
 by_cases z:a=p
 ·subst z;rw [aaj] at e ⊢;exact e
 ·rw [aag z] at e ⊢;exact g a u e
theorem aby {p:Addr} (g:Same G H) (h:H p=none):G p=none:=by
 cases e:G p with
 | none=>rfl
 | some o=>rw [g p o e] at h;cases h
theorem Out.newT {p:Addr} {xs:List V} {ds:List PyData} (g:Same G H) (h:H p=none) (r:Rps G xs ds):Out G H (.ref p) (upd G p (.tup xs)) (upd H p (.tup xs)) (.st (.tuple ds)) (fun _=>False) where
 gg:=abm (aby g h)
 gh:=axd g h
 hh:=abm h
 gn:=fun a o e=>by
  by_cases z:a=p
  ·subst z;exact .inr h
  ·rw [aag z] at e;exact .inl e
 fn:=fun a z=>z.elim
 fg:=fun a z=>z.elim
 fo:=fun a z=>z.elim
 ok:=⟨.tup aaj (r.same (abm (aby g h))),fun a z=>z⟩
 ft:=fun t a ks e=>by
  by_cases z:a=p
  ·subst z;rw [aaj] at e ⊢;exact e
  ·rw [aag z] at e ⊢;exact t a ks e
theorem Out.newO {p:Addr} {o:HO} {A:Own} (g:Same G H) (h:H p=none) (b:∀ xs,o ≠ .tup xs) (r:A.P G (upd H p o) (.ref p) (· = p)):Out G H (.ref p) G (upd H p o) (.own A) (· = p) where
 gg:=Same.refl _
 gh:=g.trans (abm h)
 hh:=abm h
 gn:=fun a o e => .inl e
 fn:=fun a z=>by rw [z];exact h
 fg:=fun a z=>by rw [z];exact aby g h
 fo:=fun a z=>by rw [z];exact ⟨_,aaj⟩
 ok:=r
 ft:=fun t a ks e=>by
  by_cases z:a=p
  ·subst z;rw [aaj] at e;exact absurd (aC6 e) (b _)
  ·rw [aag z] at e;exact t a ks e
theorem Out.newL {p:Addr} {xs:List V} {ds:List PyData} (g:Same G H) (h:H p=none) (r:Rps G xs ds):Out G H (.ref p) G (upd H p (.lst xs)) (.own (OL ds)) (· = p) :=
 .newO g h (fun _ z=>nomatch z) ⟨p,xs,rfl,aaj,r,fun b=>Iff.rfl⟩
theorem Out.newDT {p:Addr} {xs:List (List Key × V)} {ds:List (List Key × PyData)} (g:Same G H) (h:H p=none) (r:RpT G xs ds):Out G H (.ref p) G (upd H p (.dT xs)) (.own (OT ds)) (· = p) :=
 .newO g h (fun _ z=>nomatch z) ⟨p,xs,rfl,aaj,r,fun b=>Iff.rfl⟩
end
def EvO (B:Bs) (te:TE) (env:En) (Q':Sl->En->Prop):Prop:=∀ (σ:St) (G H:Hp) (F:Nat->Addr->Prop) (Q:VK),VI B G H σ env F ->
 (∀ v G' H' F' Fv s env',VI B G' H' σ env' F'->Same G G'->RsX B G' H' v Fv s F'->Q' s env'->Q v H')->te σ H Q
def Ev (B:Bs) (te:TE) (env:En) (Q':PyData->En->Prop):Prop:=∀ (σ:St) (G H:Hp) (F:Nat->Addr->Prop) (Q:VK),VI B G H σ env F ->
 (∀ v G' H' F' d env',VI B G' H' σ env' F'->Same G G'->Rp G' v d->Q' d env'->Q v H')->te σ H Q
def EvT (B:Bs) (tt:TT) (env:En) (Q':Bool->En->Prop):Prop:=∀ (σ:St) (G H:Hp) (F:Nat->Addr->Prop) (Q:Bool->Hp->Prop),VI B G H σ env F ->
 (∀ b G' H' F' env',VI B G' H' σ env' F'->Same G G'->Q' b env'->Q b H')->tt σ H Q
def EvA (B:Bs) (ta:TA) (env:En) (Q':List PyData->En->Prop):Prop:=∀ (σ:St) (G H:Hp) (F:Nat->Addr->Prop) (Q:List V->Hp->Prop),VI B G H σ env F ->
 (∀ vs G' H' F' ds env',VI B G' H' σ env' F'->Same G G'->Rps G' vs ds->Q' ds env'->Q vs H')->ta σ H Q
structure ItOk (G:Hp) (J:It) (ds:List PyData):Prop where
 go:∀ i G' H',Same G G'->Same G' H'->i < ds.length->J.go i H'
 stop:∀ i G' H',Same G G'->Same G' H'->i=ds.length->J.stop i H'
 yld:∀ i G' H' x H'' d,Same G G'->Same G' H'->FT G' H'->ds[i]?=some d->J.yld i H' x H''->∃ G'',Out G' H' x G'' H'' (.st d) (fun _=>False)
def EvI (B:Bs) (ti:TI) (env:En) (Q':List PyData->En->Prop):Prop:=∀ (σ:St) (G H:Hp) (F:Nat->Addr->Prop) (R:It->Hp->Prop),VI B G H σ env F ->
 (∀ J G' H' F' ds env',VI B G' H' σ env' F'->Same G G'->ItOk G' J ds->Q' ds env'->R J H')->ti σ H R
def EvG (B:Bs) (g:TG) (s:Sl) (env:En) (Q':En->Prop):Prop:=∀ (σ:St) (G H:Hp) (F:Nat->Addr->Prop) (v:V) (Fv:Addr->Prop) (Q:St->Hp->Prop),VI B G H σ env F->RsX B G H v Fv s F ->
 (∀ σ' G' H' F' env',VI B G' H' σ' env' F'->Same G G'->Q' env'->Q σ' H')->g v σ H Q
def EvGs (B:Bs) (g:TGs) (ds:List PyData) (env:En) (Q':En->Prop):Prop:=∀ (σ:St) (G H:Hp) (F:Nat->Addr->Prop) (vs:List V) (Q:St->Hp->Prop),VI B G H σ env F->Rps G vs ds ->
 (∀ σ' G' H' F' env',VI B G' H' σ' env' F'->Same G G'->Q' env'->Q σ' H')->g vs σ H Q
structure VEnds where
 nx:En->Prop
 rt:Sl->En->Prop
 bk:En->Prop:=fun _=>False
 ct:En->Prop:=fun _=>False
structure RelE (B:Bs) (G:Hp) (D:Ends) (D':VEnds):Prop where
 nx:∀ σ G' H F env,VI B G' H σ env F->Same G G'->D'.nx env->D.nx σ H
 rt:∀ σ G' H F env v Fv s,VI B G' H σ env F->Same G G'->RsX B G' H v Fv s F->D'.rt s env->D.rt v H
 bk:∀ σ G' H F env,VI B G' H σ env F->Same G G'->D'.bk env->D.bk σ H
 ct:∀ σ G' H F env,VI B G' H σ env F->Same G G'->D'.ct env->D.ct σ H
def EvS (B:Bs) (ts:TS) (D':VEnds) (env:En):Prop:=∀ (σ:St) (G H:Hp) (F:Nat->Addr->Prop) (D:Ends),VI B G H σ env F->RelE B G D D'->ts D σ H
theorem RelE.later {B:Bs} {G G':Hp} {D:Ends} {D':VEnds} (r:RelE B G D D') (g:Same G G'):RelE B G' D D' :=
 ⟨fun σ a H F env I q=>r.nx σ a H F env I (g.trans q),fun σ a H F env v Fv s I q=>r.rt σ a H F env v Fv s I (g.trans q),fun σ a H F env I q=>r.bk σ a H F env I (g.trans q),fun σ a H F env I q=>r.ct σ a H F env I (g.trans q)⟩
section
variable {B:Bs} {env:En} {Q':PyData->En->Prop} {QO:Sl->En->Prop} {QT:Bool->En->Prop} {QA:List PyData->En->Prop} {te ta tb:TE}
theorem adx {G H:Hp} {v:V} {d:PyData} {F:Nat->Addr->Prop} (r:Rp G v d):RsX B G H v (fun _=>False) (.st d) F:=⟨⟨r,fun a z=>z⟩,fun a z=>z.elim,fun a z=>z.elim,fun a z=>z.elim,fun j a z=>z.elim⟩
theorem abj (h:Ev B te env fun d e=>QO (.st d) e):EvO B te env QO:=fun σ G H F Q I k =>
 h σ G H F Q I fun v G' H' F' d a b g r q=>k v G' H' F' _ (.st d) a b g (adx r) q
theorem abt (h:EvO B te env fun s e=>FQ s fun d=>Q' d e):Ev B te env Q':=fun σ G H F Q I k =>
 h σ G H F Q I fun v G' H' F' Fv s a b g r q=>by
  cases s with
  | st d=>exact k v G' H' F' d a b g r.ok.1 q
  | own A =>
   obtain ⟨d,f,q⟩:=q
   exact k v _ H' F' d a (b.freeze r.fb r.fd r.fg) (g.trans (ab2 r.fg)) (f G' H' v Fv r.ok r.fg b.gh) q
  | io A=>exact q.elim
  | scr ns=>exact q.elim
theorem az1 {i:Nat} {d:PyData} (e:env[i]?=some (some (.st d))) (q:Q' d env):Ev B (tVar i) env Q':=fun σ G H F Q I k=>by
 obtain ⟨v,a,r⟩:=I.sl i _ e
 exact ⟨v,a,k v G H F d env I (Same.refl _) r.1 q⟩
theorem axe {i:Nat} {A:Own} {d:PyData} (e:env[i]?=some (some (.own A))) (f:Frz A d) (q:Q' d (env.set i (some (.st d)))):Ev B (tVar i) env Q':=fun σ G H F Q I k=>by
 obtain ⟨v,a,r,g,J⟩:=I.frz e f
 exact ⟨v,a,k v _ H _ d _ J g r q⟩
theorem auh {i:Nat} {A:Own} (e:env[i]?=some (some (.own A))) (q:QO (.own A) (env.set i none)):EvO B (tVar i) env QO:=fun σ G H F Q I k=>by
 obtain ⟨v,b,r⟩:=I.sl i _ e
 refine ⟨v,b,k v G H _ (F i) (.own A) _ (I.drop i) (Same.refl _) ⟨r.1,r.2,I.fg i,I.fo i,fun j a z y=>?_⟩ q⟩
 by_cases h:j=i
 ·subst h;exact putF_same.mp y
 ·rw [abb h] at y;exact h (I.fd j i a y z)
theorem az2 {i:Int} (q:Q' (.int i) env):Ev B (tC (.int i)) env Q':=fun σ G H F Q I k=>k _ G H F _ env I (Same.refl _) (.int i) q
theorem a1t {b:Bool} (q:Q' (.bool b) env):Ev B (tC (.bl b)) env Q':=fun σ G H F Q I k=>k _ G H F _ env I (Same.refl _) (.bl b) q
theorem az3 (q:Q' .none env):Ev B (tC .non) env Q':=fun σ G H F Q I k=>k _ G H F _ env I (Same.refl _) .non q
def Op2 (r:R2) (x y:PyData) (R:Sl->Prop):Prop:=∀ (G H:Hp) (vx vy:V) (Q:VK),Same G H->Rp G vx x->Rp G vy y->(∀ v G' H' s Fv,Out G H v G' H' s Fv->R s->Q v H')->r vx vy H Q
def OpA (r:List V->Hp->VK->Prop) (ds:List PyData) (R:Sl->Prop):Prop:=∀ (G H:Hp) (vs:List V) (Q:VK),Same G H->Rps G vs ds->(∀ v G' H' s Fv,Out G H v G' H' s Fv->R s->Q v H')->r vs H Q
theorem ane {r:R2} (h:Ev B ta env fun x d=>Ev B tb d fun y b=>Op2 r x y fun s=>QO s b):EvO B (tOp r ta tb) env QO:=fun σ G H F Q I k =>
 h σ G H F _ I fun u l f q x d z m p g=>g σ l f q _ z fun i A H2 F2 y b a c n C =>
  C A H2 u i Q a.gh (p.same c) n fun v j H3 s Fv o w=>k v j H3 F2 Fv s b (a.out o).1 (m.trans (c.trans o.gg)) (a.out o).2 w
theorem a1u {r:R2} (h:Ev B ta env fun x a=>Ev B tb a fun y b=>Op2 r x y fun s=>FQ s fun d=>Q' d b):Ev B (tOp r ta tb) env Q':=abt (ane h)
theorem ape (q:QA [] env):EvA B tNil env QA:=fun σ G H F Q I k=>k [] G H F [] env I (Same.refl _) .nil q
theorem aui {tr:TA} (h:Ev B ta env fun x c=>EvA B tr c fun xs a=>QA (x :: xs) a):EvA B (aa6 ta tr) env QA:=fun σ G H F Q I k =>
 h σ G H F _ I fun r g d n x c o j m f=>f σ g d n _ o fun vs p H2 F2 ds a i b l q=>k _ p H2 F2 _ a i (j.trans b) (.cons (m.same b) l) q
theorem asd {r:List V->Hp->VK->Prop} {t:TA} (h:EvA B t env fun ds a=>OpA r ds fun s=>QO s a):EvO B (tCB r t) env QO:=fun σ G H F Q I k =>
 h σ G H F _ I fun vs g c l ds a b i j d=>d g c vs Q b.gh j fun v f H3 s Fv o m=>k v f H3 l Fv s a (b.out o).1 (i.trans o.gg) (b.out o).2 m
theorem a1v {r:List V->Hp->VK->Prop} {t:TA} (h:EvA B t env fun ds a=>OpA r ds fun s=>FQ s fun d=>Q' d a):Ev B (tCB r t) env Q':=abt (asd h)
theorem apf {t:TA} (h:EvA B t env fun ds a=>ds.length<=1000/\QO (.st (.tuple ds)) a):EvO B (tTup t) env QO:=fun σ G H F Q I k =>
 h σ G H F _ I fun vs l j i ds a b f d c=>⟨by rw [d.length];exact aG6 (afb c.1),fun p g=>by
  have o:=Out.newT b.gh g d
  exact k _ _ _ i _ _ a (b.out o).1 (f.trans o.gg) (b.out o).2 c.2⟩
theorem az4 {t:TA} (h:EvA B t env fun ds a=>ds.length<=1000/\Q' (.tuple ds) a):Ev B (tTup t) env Q':=abt (apf h)
theorem apg {t:TA} (h:EvA B t env fun ds a=>ds.length<=1000/\QO (.own (OL ds)) a):EvO B (tLst t) env QO:=fun σ G H F Q I k =>
 h σ G H F _ I fun vs l j i ds a b f d c=>⟨by rw [d.length];exact aG6 (afb c.1),fun p g=>by
  have o:=Out.newL b.gh g d
  exact k _ _ _ i _ _ a (b.out o).1 (f.trans o.gg) (b.out o).2 c.2⟩
theorem az5 {t:TA} (h:EvA B t env fun ds a=>ds.length<=1000/\Q' (.list ds) a):Ev B (tLst t) env Q':=abt (apg fun σ G H F Q I k=>h σ G H F Q I fun vs G' H' F' ds a b g r q=>k vs G' H' F' ds a b g r ⟨q.1,adw q.2⟩)
theorem afv (h:Ev B te env fun x a=>∃ b,x=.bool b/\QT b a):EvT B (aqe te) env QT:=fun σ G H F Q I k =>
 h σ G H F _ I fun v d c i x a l f g j=>by
  obtain ⟨b,e,q⟩:=j
  subst e
  cases g
  exact ⟨b,rfl,k b d c i a l f q⟩
theorem awh (h:Ev B te env fun x a=>∃ b,x=.bool b/\QT b a):EvT B (tB te) env QT:=afv h
theorem x_bl {b:Bool} {R:Bool->Prop} (h:R b):∃ c,PyData.bool b=.bool c/\R c:=⟨b,rfl,h⟩
theorem axf {t u:TT} (h:EvT B t env fun c a=>if c=true then EvT B u a QT else QT false a):EvT B (tAnd t u) env QT:=fun σ G H F Q I k =>
 h σ G H F _ I fun b f d i a j g q=>by
  cases b with
  | true=>rw [aF6 rfl] at q ⊢;exact q σ f d i Q j fun c o H2 F2 n l m p=>k c o H2 F2 n l (g.trans m) p
  | false=>rw [aF7 aB0] at q ⊢;exact k false f d i a j g q
theorem az6 {t u:TT} (h:EvT B t env fun c a=>if c=true then QT true a else EvT B u a QT):EvT B (tOr t u) env QT:=fun σ G H F Q I k =>
 h σ G H F _ I fun b f d i a j g q=>by
  cases b with
  | false=>rw [aF7 aB0] at q ⊢;exact q σ f d i Q j fun c o H2 F2 n l m p=>k c o H2 F2 n l (g.trans m) p
  | true=>rw [aF6 rfl] at q ⊢;exact k true f d i a j g q
theorem aph {t:TT} (h:EvT B t env fun c a=>QT (!c) a):EvT B (tNot t) env QT:=fun σ G H F Q I k =>
 h σ G H F _ I fun b f d i a j g q=>k (!b) f d i a j g q
theorem ad7 (q:QT true env):EvT B tYes env QT:=fun σ G H F Q I k=>k true G H F env I (Same.refl _) q
def TruD:PyData->Bool->Prop
 | .bool b,k=>k=b
 | .list ds,k=>k = !ds.isEmpty
 | _,_=>False
theorem axg {K:Frag} (h:Ev B te env fun x a=>∃ b,TruD x b/\QT b a):EvT B (tTru K te) env QT:=fun σ G H F Q I k =>
 h σ G H F _ I fun v g f j x a d i m n=>by
  obtain ⟨b,e,q⟩:=n
  cases m with
  | bl c=>cases e;exact ⟨_,rfl,k _ g f j a d i q⟩
  | lst ha rs =>
   refine ⟨b,.inl ⟨_,SqL.of (d.gh _ _ ha),?_⟩,k _ g f j a d i q⟩
   have l:b = !_:=e
   rw [l]
   cases rs <;> rfl
  | _=>exact e.elim
theorem axh (h:Ev B ta env fun x a=>∃ b,x=.bool b/\if b=true then Ev B tb a Q' else Q' (.bool false) a):Ev B (aqa ta tb) env Q':=fun σ G H F Q I k =>
 h σ G H F _ I fun v f c i x a j g o r=>by
  obtain ⟨b,e,q⟩:=r
  subst e
  cases o
  refine ⟨b,rfl,?_⟩
  cases b with
  | true=>rw [aF6 rfl] at q ⊢;exact q σ f c i Q j fun v s H2 F2 d p l m n u=>k v s H2 F2 d p l (g.trans m) n u
  | false=>rw [aF7 aB0] at q ⊢;exact k _ f c i _ a j g (.bl false) q
theorem axi (h:Ev B ta env fun x a=>∃ b,x=.bool b/\Q' (.bool (!b)) a):Ev B (aqb ta) env Q':=fun σ G H F Q I k =>
 h σ G H F _ I fun v d c i x a l f g j=>by
  obtain ⟨b,e,q⟩:=j
  subst e
  cases g
  exact ⟨b,rfl,k _ d c i _ a l f (.bl _) q⟩
theorem auj {r u:R2} {C:TE} (h:Ev B ta env fun x S=>Ev B tb S fun y c=>Op2 r x y fun s=>∃ b,s=.st (.bool b)/\if b=true then Ev B C c fun z e3=>Op2 u y z fun s'=>FQ s' fun d=>Q' d e3 else Q' (.bool false) c):Ev B (ail r u ta tb C) env Q':=fun σ G H F Q I k =>
 h σ G H F _ I fun v1 Z U F1 x S I1 L r1 X=>X σ Z U F1 _ I1 fun w G2 H2 F2 y c E n M q2 =>
  q2 G2 H2 v1 w _ E.gh (r1.same n) M fun v D H3 s Fv o z_=>by
   obtain ⟨b,es,g⟩:=z_
   have R:=(E.out o).1
   have l:=o.ok
   subst es
   obtain ⟨l,_⟩:=l
   cases l
   refine ⟨b,rfl,?_⟩
   cases b with
   | false=>rw [aF7 aB0] at g ⊢;exact k _ D H3 F2 _ c R (L.trans (n.trans o.gg)) (.bl _) g
   | true =>
    rw [aF6 rfl] at g ⊢
    refine g σ D H3 F2 _ R fun v3 G4 H4 O z N K P r4 Y=>Y G4 H4 w v3 Q K.gh (M.same (o.gg.trans P)) r4 fun j T p W i m a=>?_
    have J:=K.out m
    have gg:=L.trans (n.trans (o.gg.trans (P.trans m.gg)))
    cases W with
    | st d=>exact k j T p O d N J.1 gg m.ok.1 a
    | own A =>
     obtain ⟨d,f,q⟩:=a
     exact k j _ p O d N (J.1.freeze J.2.fb J.2.fd J.2.fg) (gg.trans (ab2 J.2.fg)) (f T p j i J.2.ok J.2.fg J.1.gh) q
    | io A=>exact a.elim
    | scr ns=>exact a.elim
end
section
variable {B:Bs} {env:En} {D':VEnds} {t u tb:TS} {te:TE} {g:TG} {c:TT} {QE:En->Prop}
theorem api (h:EvS B t { D' with nx:=fun e=>EvS B u D' e } env):EvS B (tSeq t u) D' env:=fun σ G H F D I r =>
 h σ G H F { D with nx:=u D } I ⟨fun σ G' H F env a g q=>q σ G' H F D a (r.later g),r.rt,r.bk,r.ct⟩
theorem auk (h:D'.nx env):EvS B av7 D' env:=fun σ G H F D I r=>r.nx σ G H F env I (Same.refl _) h
theorem axj (h:EvO B te env fun s e=>EvG B g s e D'.nx):EvS B (tAsg te g) D' env:=fun σ G H F D I r =>
 h σ G H F _ I fun v d b l Fv s u o j m c=>c σ d b l v Fv D.nx o m fun a p H2 F2 n f i q=>r.nx a p H2 F2 n f (j.trans i) q
theorem aaz {i:Nat} {s:Sl} (h:QE (env.set i (some s))):EvG B (aa1 i) s env QE:=fun σ G H F v Fv Q I x k=>k _ G H _ _ (I.store x i) (Same.refl _) h
theorem anf (h:QE env):EvGs B gNil [] env QE:=fun σ G H F vs Q I x k=>by cases x;exact ⟨rfl,k σ G H F env I (Same.refl _) h⟩
theorem agt {c:TGs} {d:PyData} {ds:List PyData} (h:EvG B g (.st d) env fun e=>EvGs B c ds e QE):EvGs B (ae8 g c) (d :: ds) env QE:=fun σ G H F vs Q I x k=>by
 cases x with
 | cons r rs =>
  refine ⟨_,_,rfl,h σ G H F _ _ _ I (adx r) fun a l i o v q f j=>j a l i o _ Q q (rs.same f) fun b s H2 F2 p m n u=>k b s H2 F2 p m (f.trans n) u⟩
theorem apj {K:Frag} {n:Nat} {a:TGs} {ds:List PyData} (b:ds.length=n) (h:EvGs B a ds env QE):EvG B (gTup K n a) (.st (.tuple ds)) env QE:=fun σ G H F v Fv Q I x k=>by
 obtain ⟨r,_⟩:=x.ok
 cases r with
 | tup ha rs=>exact ⟨_,_,rfl,SqT.of (I.gh _ _ ha),by rw [rs.length,b],h σ G H F _ Q I rs k⟩
theorem apk (h:EvO B te env fun s e=>D'.rt s e):EvS B (tRet te) D' env:=fun σ G H F D I r =>
 h σ G H F _ I fun v c a f Fv s i j d g b=>r.rt σ c a f i v Fv s j d g b
theorem aul (h:EvO B te env fun _ e=>D'.nx e):EvS B (av8 te) D' env:=fun σ G H F D I r =>
 h σ G H F _ I fun v c a f Fv s g i d j b=>r.nx σ c a f g i d b
theorem ase (h:EvT B c env fun b e=>if b=true then EvS B t D' e else EvS B u D' e):EvS B (tIfS c t u) D' env:=fun σ G H F D I r =>
 h σ G H F _ I fun b a d g j i f q=>by
  cases b with
  | true=>rw [aF6 rfl] at q ⊢;exact q σ a d g D i (r.later f)
  | false=>rw [aF7 aB0] at q ⊢;exact q σ a d g D i (r.later f)
def ForV (B:Bs) (g:TG) (tb:TS) (D':VEnds) (ds:List PyData) (e1:En):Prop:=∃ J:Nat->En->Prop,J 0 e1/\(∀ i d e,ds[i]?=some d->J i e->EvG B g (.st d) e fun e2=>EvS B tb { D' with nx:=J (i+1),ct:=J (i+1),bk:=D'.nx } e2)/\∀ e,J ds.length e->D'.nx e
theorem axk {K:TI} (h:EvI B K env fun ds E=>ForV B g tb D' ds E):EvS B (tFor K g tb) D' env:=fun σ G H F D I r =>
 h σ G H F _ I fun J w H1 Y ds E I1 A it z_=>by
  obtain ⟨L,T,js,Q⟩:=z_
  refine ⟨fun i m σ H=>m=ds.length - i/\i<=ds.length/\∃ l F2 p,VI B l H σ p F2/\Same w l/\L i p,⟨ds.length,by simp,aG1 _,w,Y,E,I1,Same.refl _,T⟩,?_⟩
  rintro i m σ H ⟨rfl,hi,l,F2,p,n,q,M⟩
  by_cases hlt:i < ds.length
  ·refine .inr ⟨it.go i l H q n.gh hlt,fun σ H=>∃ u F3 O,VI B u H σ O F3/\Same w u/\L (i+1) O,fun Z H' h'=>⟨ds.length - (i+1),by omega,rfl,hlt,h'⟩,fun x H' y=>?_⟩
   obtain ⟨u,o⟩:=it.yld i l H x H' _ q n.gh n.ft (aA0 hlt) y
   have N:=n.out o
   refine js i _ p (aA0 hlt) M σ u H' F2 x _ _ N.1 N.2 fun z W U F4 e4 X g4 R=>?_
   have gg:=q.trans (o.gg.trans g4)
   refine R z W U F4 _ X ⟨fun a j s b d c f C=>⟨j,b,d,c,gg.trans f,C⟩,fun a j s b d S v P c f=>r.rt a j s b d S v P c (A.trans (gg.trans f)),fun a j s b d c f=>r.nx a j s b d c (A.trans (gg.trans f)),fun a j s b d c f C=>⟨j,b,d,c,gg.trans f,C⟩⟩
  ·have e:i=ds.length:=by omega
   subst e
   exact .inl ⟨it.stop _ l H q n.gh rfl,r.nx σ l H F2 p n (A.trans q) (Q p M)⟩
theorem agu (J:Nat->En->Prop) (y:∃ m,J m env) (h:∀ m e,J m e->EvT B c e fun b C=>if b=true then EvS B tb { D' with nx:=fun f=>∃ d,d < m/\J d f,ct:=fun f=>∃ d,d < m/\J d f,bk:=D'.nx } C else D'.nx C):EvS B (arl c tb) D' env:=fun σ G H F D I r=>by
 obtain ⟨M,y⟩:=y
 refine ⟨fun m σ H=>∃ u F2 f,VI B u H σ f F2/\Same G u/\J m f,⟨M,G,F,env,I,Same.refl _,y⟩,?_⟩
 rintro m σ H ⟨u,F2,f,N,O,Q⟩
 refine h m f Q σ u H F2 _ N fun b z H3 E W A U s=>?_
 have gg:=O.trans U
 cases b with
 | false=>rw [aF7 aB0] at s ⊢;exact r.nx σ z H3 E W A gg s
 | true =>
  rw [aF6 rfl] at s ⊢
  refine ⟨fun σ H=>∃ p w q,VI B p H σ q w/\Same G p/\∃ d,d < m/\J d q,fun R H' ⟨p,w,q,P,S,d,hm,T⟩=>⟨d,hm,p,w,q,P,S,T⟩,?_⟩
  exact s σ z H3 E _ A ⟨fun a n o g j i l x=>⟨n,g,j,i,gg.trans l,x⟩,fun a n o g j L v K i l=>r.rt a n o g j L v K i (gg.trans l),fun a n o g j i l=>r.nx a n o g j i (gg.trans l),fun a n o g j i l x=>⟨n,g,j,i,gg.trans l,x⟩⟩
variable {QI:List PyData->En->Prop}
theorem aum {K:Frag} (h:Ev B te env fun d e=>∃ ds,d=.list ds/\QI ds e):EvI B (aly K te) env QI:=fun σ G H F R I k =>
 h σ G H F _ I fun v j c p d r b n o s=>by
  obtain ⟨ds,q,f⟩:=s
  subst q
  cases o with
  | @lst a vs ds ha rs =>
   refine ⟨a,rfl,⟨vs,SqL.of (b.gh _ _ ha)⟩,k _ j c p ds r b n ⟨fun i G' H' g h hi=>?_,fun i G' H' g h hi=>?_,fun i G' H' x H'' d g h ft hd y=>?_⟩ f⟩
   ·have:i < vs.length:=by rw [rs.length];exact hi
    exact ⟨vs,vs[i],SqL.of (h _ _ (g _ _ ha)),aA0 this⟩
   ·exact ⟨vs,SqL.of (h _ _ (g _ _ ha)),by rw [rs.length];exact Nat.le_of_eq hi.symm⟩
   ·obtain ⟨e,y⟩:=y
    subst e
    obtain ⟨v,m,l⟩:=rs.get hd
    have:=y vs (SqL.of (h _ _ (g _ _ ha)))
    rw [m] at this
    cases this
    exact ⟨G',Out.refl h (l.same g)⟩
theorem az7 {ds:List PyData} {R:List PyData->Prop} (h:R ds):∃ xs,PyData.list ds=.list xs/\R xs:=⟨ds,rfl,h⟩
def rngD (lo:Int) (n:Nat):List PyData:=(List.range n).map fun (i:Nat) => .int (lo+(i:Int))
theorem act {lo:Int} {n:Nat}:(rngD lo n).length=n:=by simp [rngD]
theorem afw {lo:Int} {n i:Nat} {d:PyData} (h:(rngD lo n)[i]?=some d):i < n/\d=.int (lo+(i:Int)):=by
 unfold rngD at h
 rw [aA5] at h
 have hi:i < n:=by
  have:=(aA1 (l:=(List.range n).map fun (i:Nat)=>PyData.int (lo+(i:Int)))).mp (by rw [aA5];exact h)
  obtain ⟨q,_⟩:=this
  simpa using q
 rw [aA0 (by simpa using hi)] at h
 simp at h
 exact ⟨hi,h.symm⟩
theorem asf {G:Hp} {lo:Int} {n:Nat}:ItOk G (Itr lo n) (rngD lo n):=by
 refine ⟨fun i G' H' g h hi=>?_,fun i G' H' g h hi=>?_,fun i G' H' x H'' d g h ft hd y=>?_⟩
 ·rw [act] at hi;exact hi
 ·rw [act] at hi;exact Nat.le_of_eq hi.symm
 ·obtain ⟨e,y⟩:=y
  subst e y
  rw [(afw hd).2]
  exact ⟨G',Out.refl h (.int _)⟩
def al7 (ds:List PyData) (R:List PyData->Prop):Prop:=∃ j:Int,ds=[.int j]/\-(2 ^ 62)<=j/\j < 2 ^ 62/\R (rngD 0 j.toNat)
def al8 (ds:List PyData) (R:List PyData->Prop):Prop:=∃ i j:Int,ds=[.int i,.int j]/\(-(2 ^ 62)<=i/\i < 2 ^ 62/\-(2 ^ 62)<=j/\j < 2 ^ 62)/\R (rngD i (j - i).toNat)
theorem aun {a:TA} (h:EvA B a env fun ds e=>al7 ds fun xs=>QI xs e):EvI B (awa a) env QI:=fun σ G H F R I k =>
 h σ G H F _ I fun vs d b i ds n p f g o=>by
  obtain ⟨j,m,b1,l,c⟩:=o
  subst m
  obtain rfl:vs=[V.int j]:=Rps.ints_inv (ns:=[j]) g
  exact ⟨j,rfl,b1,l,k _ d b i _ n p f asf c⟩
theorem auo {a:TA} (h:EvA B a env fun ds e=>al8 ds fun xs=>QI xs e):EvI B (awb a) env QI:=fun σ G H F R I k =>
 h σ G H F _ I fun vs d b l ds n p f g o=>by
  obtain ⟨i,j,m,b1,c⟩:=o
  subst m
  obtain rfl:vs=[V.int i,V.int j]:=Rps.ints_inv (ns:=[i,j]) g
  exact ⟨i,j,rfl,b1,k _ d b l _ n p f asf c⟩
theorem az8 {j:Int} {R:List PyData->Prop} (a : -4611686018427387904<=j) (b:j < 4611686018427387904) (h:R (rngD 0 j.toNat)):al7 [.int j] R:=⟨j,rfl,by omega,by omega,h⟩
theorem az9 {a b:Int} {R:List PyData->Prop} (c : -4611686018427387904<=a/\a < 4611686018427387904/\-4611686018427387904<=b/\b < 4611686018427387904) (h:R (rngD a (b - a).toNat)):al8 [.int a,.int b] R:=⟨a,b,rfl,by omega,h⟩
theorem ad8 {lo:Int} {n:Nat} (J:Nat->En->Prop) (b:J 0 env) (hs:∀ i e,i < n->J i e->EvG B g (.st (.int (lo+(i:Int)))) e fun a=>EvS B tb { D' with nx:=J (i+1),ct:=J (i+1),bk:=D'.nx } a) (hd:∀ e,J n e->D'.nx e):ForV B g tb D' (rngD lo n) env :=
 ⟨J,b,fun i d e h j=>by obtain ⟨hi,rfl⟩:=afw h;exact hs i e hi j,fun e j=>hd e (by rw [act] at j;exact j)⟩
theorem afx {α:Type} {f : α->PyData} {xs:List α} (J:Nat->En->Prop) (b:J 0 env) (hs:∀ i x e,xs[i]?=some x->J i e->EvG B g (.st (f x)) e fun a=>EvS B tb { D' with nx:=J (i+1),ct:=J (i+1),bk:=D'.nx } a) (hd:∀ e,J xs.length e->D'.nx e):ForV B g tb D' (xs.map f) env :=
 ⟨J,b,fun i d e h j=>by
  rw [aA5] at h
  cases hx:xs[i]? with
  | none=>rw [hx] at h;cases h
  | some x=>rw [hx] at h;cases h;exact hs i x e hx j,fun e j=>hd e (by rw [aA3] at j;exact j)⟩
end
theorem aup {B:Bs} {a b:TS} {D':VEnds} {env:En} (h:∀ c:TS,c=b->EvS B a { D' with nx:=fun e=>EvS B c D' e } env):EvS B (tSeq a b) D' env:=api (h b rfl)
theorem apl {B:Bs} {c b:TS} {D':VEnds} {env:En} (e:c=b) (h:EvS B b D' env):EvS B c D' env:=by rw [e];exact h
@[elab_as_elim] theorem exS1 {b:Type} {σ:Type} {f : b->σ} {p : b->Prop} {a : σ->Prop} (s : σ) (h:∃ x0,s=f x0/\p x0) (k:∀ x0,p x0->a (f x0)):a s:=by
 obtain ⟨x0,e,h⟩:=h
 rw [e];exact k _ h
@[elab_as_elim] theorem exE1 {b:Type} {σ:Type} {f : b->σ} {a : σ->Prop} (s : σ) (h:∃ x0,s=f x0) (k:∀ x0,a (f x0)):a s:=by
 obtain ⟨x0,e⟩:=h
 rw [e];exact k _
@[elab_as_elim] theorem exS2 {d:Type} {c:Type} {σ:Type} {f : d->c->σ} {p : d->c->Prop} {a : σ->Prop} (s : σ) (h:∃ x0 b,s=f x0 b/\p x0 b) (k:∀ x0 b,p x0 b->a (f x0 b)):a s:=by
 obtain ⟨x0,b,e,h⟩:=h
 rw [e];exact k _ _ h
@[elab_as_elim] theorem exS3 {i:Type} {g:Type} {d:Type} {σ:Type} {f : i->g->d->σ} {p : i->g->d->Prop} {a : σ->Prop} (s : σ) (h:∃ x0 b c,s=f x0 b c/\p x0 b c) (k:∀ x0 b c,p x0 b c->a (f x0 b c)):a s:=by
 obtain ⟨x0,b,c,e,h⟩:=h
 rw [e];exact k _ _ _ h
@[elab_as_elim] theorem exS4 {l:Type} {j:Type} {g:Type} {i:Type} {σ:Type} {f : l->j->g->i->σ} {p : l->j->g->i->Prop} {a : σ->Prop} (s : σ) (h:∃ x0 c d b,s=f x0 c d b/\p x0 c d b) (k:∀ x0 c d b,p x0 c d b->a (f x0 c d b)):a s:=by
 obtain ⟨x0,c,d,b,e,h⟩:=h
 rw [e];exact k _ _ _ _ h
@[elab_as_elim] theorem exS5 {n:Type} {m:Type} {i:Type} {l:Type} {j:Type} {σ:Type} {f : n->m->i->l->j->σ} {p : n->m->i->l->j->Prop} {a : σ->Prop} (s : σ) (h:∃ x0 c g b d,s=f x0 c g b d/\p x0 c g b d) (k:∀ x0 c g b d,p x0 c g b d->a (f x0 c g b d)):a s:=by
 obtain ⟨x0,c,g,b,d,e,h⟩:=h
 rw [e];exact k _ _ _ _ _ h
@[elab_as_elim] theorem exE5 {n:Type} {m:Type} {i:Type} {l:Type} {j:Type} {σ:Type} {f : n->m->i->l->j->σ} {a : σ->Prop} (s : σ) (h:∃ x0 b d g c,s=f x0 b d g c) (k:∀ x0 b d g c,a (f x0 b d g c)):a s:=by
 obtain ⟨x0,b,d,g,c,e⟩:=h
 rw [e];exact k _ _ _ _ _
@[elab_as_elim] theorem exS6 {q:Type} {o:Type} {j:Type} {n:Type} {l:Type} {m:Type} {σ:Type} {f : q->o->j->n->l->m->σ} {p : q->o->j->n->l->m->Prop} {a : σ->Prop} (s : σ) (h:∃ x0 g i b c d,s=f x0 g i b c d/\p x0 g i b c d) (k:∀ x0 g i b c d,p x0 g i b c d->a (f x0 g i b c d)):a s:=by
 obtain ⟨x0,g,i,b,c,d,e,h⟩:=h
 rw [e];exact k _ _ _ _ _ _ h
@[elab_as_elim] theorem exS7 {u:Type} {r:Type} {m:Type} {q:Type} {n:Type} {o:Type} {l:Type} {σ:Type} {f : u->r->m->q->n->o->l->σ} {p : u->r->m->q->n->o->l->Prop} {a : σ->Prop} (s : σ) (h:∃ x0 g i b c d j,s=f x0 g i b c d j/\p x0 g i b c d j) (k:∀ x0 g i b c d j,p x0 g i b c d j->a (f x0 g i b c d j)):a s:=by
 obtain ⟨x0,g,i,b,c,d,j,e,h⟩:=h
 rw [e];exact k _ _ _ _ _ _ _ h
theorem big {n:Nat} (h:n<=1000000):n < sizeLine:=aE2 h (by decide)
section
variable {B B1:Bs} {G H G' H':Hp} {σ σI:St} {env envI:En} {F F':Nat->Addr->Prop} {v:V} {s:Sl} {Fv:Addr->Prop} {inv:Nat->Option Nat}
open Classical in
def acu (H:Hp) (F:Nat->Addr->Prop) (inv:Nat->Option Nat):Hp:=fun a=>if ∃ i j,inv i=some j/\F i a then none else H a
theorem afy {i j:Nat} {a:Addr} (h:inv i=some j) (f:F i a):acu H F inv a=none:=aF6 ⟨i,j,h,f⟩
theorem aib {a:Addr} (h:∀ i j,inv i=some j->¬ F i a):acu H F inv a=H a:=aF7 fun ⟨i,j,x,y⟩=>h i j x y
theorem ady:Same (acu H F inv) H:=fun a o e=>by
 unfold acu at e
 split at e
 ·cases e
 ·exact e
theorem VI.enter (I:VI B G H σ env F) (inj:∀ i b j,inv i=some j->inv b=some j->i=b) (ln : σI.length=envI.length)
  (sl:∀ j s,envI[j]?=some (some s)->∃ v,σI[j]?=some (some v)/\((∃ d,s=.st d/\Rp G v d/\∀ i,inv i ≠ some j)\/(∃ ns a,s=.scr ns/\v=.ref a/\SqL B.K G a (ns.map V.int)/\∀ i,inv i ≠ some j) ∨
   ∃ i A,inv i=some j/\s=.io A/\σ[i]?=some (some v)/\(env[i]?=some (some (.own A))\/env[i]?=some (some (.io A))))) :
  VI ⟨B.K,G,H,acu H F inv,σI,fun j a=>∃ i,inv i=some j/\F i a⟩ G H σI envI (fun j a=>∃ i,inv i=some j/\F i a) where
 gh:=I.gh
 g0:=Same.refl _
 gn:=fun a o e => .inl e
 rs:=ady
 rb:=ady
 bh:=fun a o e=>⟨o,e⟩
 fg:=fun j a ⟨i,_,z⟩=>I.fg i a z
 fr:=fun j a ⟨i,h,z⟩=>afy h z
 fd:=fun j k a ⟨i,h,z⟩ ⟨b,h',p⟩=>by
  have:=I.fd i b a z p
  subst this
  rw [h] at h';cases h';rfl
 fo:=fun j a ⟨i,h,z⟩=>I.fo i a z
 sl:=fun j s e=>by
  obtain ⟨v,l,q⟩:=sl j s e
  refine ⟨v,l,?_⟩
  rcases q with ⟨d,rfl,r,n⟩ | ⟨ns,a,rfl,rfl,q,n⟩ | ⟨i,A,hi,rfl,hs,f⟩
  ·exact ⟨r,fun a ⟨i,h,_⟩=>n i h⟩
  ·exact ⟨⟨a,rfl,q⟩,fun a ⟨i,h,_⟩=>n i h⟩
  ·refine ⟨?_,fun a z => .inl z,l⟩
   have u:(fun a=>∃ b,inv b=some j/\F b a)=F i:=by
    funext a
    exact propext ⟨fun ⟨b,h,z⟩=>by rw [inj i b j hi h];exact z,fun z=>⟨i,hi,z⟩⟩
   show A.P G H v (fun a=>∃ b,inv b=some j/\F b a)
   rw [u]
   rcases f with f | f
   ·obtain ⟨m,c,g⟩:=I.sl i _ f
    rw [hs] at c;cases c;exact g.1
   ·obtain ⟨m,c,g⟩:=I.sl i _ f
    rw [hs] at c;cases c;exact g.1
 ln:=ln
 ft:=I.ft
theorem VI.leave (I:VI B G H σ env F) (inj:∀ i p j,inv i=some j->inv p=some j->i=p) (r:B1.G=G) (h:B1.H=H) (L:∀ a o,H a=some o->(∀ i j,inv i=some j->¬ F i a)->B1.R a=some o)
  (C:∀ i j,inv i=some j->∀ a,B1.F j a->F i a) (M:∀ i j,inv i=some j->B1.S[j]? = σ[i]?) (J:VI B1 G' H' σI envI F') (io:∀ i j,inv i=some j->∃ A',envI[j]?=some (some (.io A'))) {env2:En} (O:env2.length=env.length)
  (D:∀ i s,env2[i]?=some (some s)->(inv i=none/\env[i]?=some (some s))\/∃ j A A',inv i=some j/\envI[j]?=some (some (.io A'))/\((env[i]?=some (some (.own A))/\s=.own A')\/(env[i]?=some (some (.io A))/\s=.io A'))) :
  VI B G' H' σ env2 (fun i a=>match inv i with | some j=>F' j a | none=>F i a):=by
 have c:∀ a o,G' a=some o->G a=some o\/H a=none:=fun a o e=>by
  have:=J.gn a o e
  rw [r,h] at this;exact this
 have fi:∀ i j a,inv i=some j->F' j a->F i a\/H a=none:=fun i j a hi z=>by
  obtain ⟨A',e⟩:=io i j hi
  obtain ⟨v,_,q⟩:=J.sl j _ e
  rcases q.2.1 a z with y | y
  ·exact .inl (C i j hi a y)
  ·rw [h] at y;exact .inr y
 have kp:∀ a o,H a=some o->(∀ i j,inv i=some j->¬ F i a)->H' a=some o:=fun a o e n=>J.rs a o (L a o e n)
 refine ⟨J.gh,I.g0.trans (r ▸ J.g0),fun a o e=>?_,fun a o e=>?_,I.rb,fun a o e=>?_,fun i a z=>?_,fun i a z=>?_,fun i k a y z=>?_,fun i a z=>?_,fun i t e=>?_,by rw [O];exact I.ln,J.ft⟩
 ·rcases c a o e with e | e
  ·exact I.gn a o e
  ·exact .inr (I.no_b e)
 ·refine kp a o (I.rs a o e) fun i j _ z=>?_
  rw [I.fr i a z] at e;cases e
 ·obtain ⟨N,f⟩:=I.bh a o e
  exact J.bh a N (by rw [h];exact f)
 ·cases hi:inv i with
  | some j=>rw [hi] at z;exact J.fg j a z
  | none =>
   rw [hi] at z
   cases e:G' a with
   | none=>rfl
   | some o =>
    rcases c a o e with e | e
    ·rw [I.fg i a z] at e;cases e
    ·exact absurd z (I.no_f e i)
 ·cases hi:inv i with
  | some j =>
   rw [hi] at z
   rcases fi i j a hi z with y | y
   ·exact I.fr i a y
   ·exact I.no_r y
  | none=>rw [hi] at z;exact I.fr i a z
 ·cases hi:inv i with
  | some j =>
   rw [hi] at y
   cases hk:inv k with
   | some l =>
    rw [hk] at z
    have:=J.fd j l a y z
    subst this
    exact inj i k j hi hk
   | none =>
    rw [hk] at z
    rcases fi i j a hi y with x | x
    ·exact I.fd i k a x z
    ·exact absurd z (I.no_f x k)
  | none =>
   rw [hi] at y
   cases hk:inv k with
   | some l =>
    rw [hk] at z
    rcases fi k l a hk z with x | x
    ·exact I.fd i k a y x
    ·exact absurd y (I.no_f x i)
   | none=>rw [hk] at z;exact I.fd i k a y z
 ·cases hi:inv i with
  | some j=>rw [hi] at z;exact J.fo j a z
  | none =>
   rw [hi] at z
   obtain ⟨o,e⟩:=I.fo i a z
   exact J.bh a o (by rw [h];exact e)
 ·rcases D i t e with ⟨hi,f⟩ | ⟨j,A,A',hi,f,g⟩
  ·obtain ⟨v,w,q⟩:=I.sl i t f
   refine ⟨v,w,?_⟩
   simp only [hi]
   refine q.mono (r ▸ J.g0) fun a o z y=>kp a o y fun p j' b K=>?_
   have:=I.fd i p a z K
   subst this
   rw [hi] at b;cases b
  ·obtain ⟨v,w,q⟩:=J.sl j _ f
   have u : σ[i]?=some (some v):=by rw [← M i j hi];exact q.2.2
   refine ⟨v,u,?_⟩
   simp only [hi]
   rcases g with ⟨g,rfl⟩ | ⟨g,rfl⟩
   ·obtain ⟨E,_,m⟩:=I.sl i _ g
    refine ⟨q.1,fun a z=>?_⟩
    rcases fi i j a hi z with y | y
    ·exact m.2 a y
    ·exact I.no_b y
   ·obtain ⟨E,d,m⟩:=I.sl i _ g
    rw [u] at d;cases d
    refine ⟨q.1,fun a z=>?_,m.2.2⟩
    rcases fi i j a hi z with y | y
    ·exact m.2.1 a y
    ·exact .inr (I.no_b y)
theorem RsX.leave (I:VI B G H σ env F) (b:B1.H=H) (r:RsX B1 G' H' v Fv s F'):RsX B G' H' v Fv s (fun i a=>match inv i with | some j=>F' j a | none=>F i a):=by
 have hn:∀ a,Fv a->H a=none:=fun a z=>b ▸ r.fb a z
 refine ⟨r.ok,fun a z=>I.no_b (hn a z),r.fg,r.fo,fun i a z y=>?_⟩
 cases hi:inv i with
 | some j=>rw [hi] at y;exact r.fd j a z y
 | none=>rw [hi] at y;exact I.no_f (hn a z) i y
end
abbrev VP:=List Sl->(Sl->Prop)->Prop
abbrev VIo:=Own->List Sl->(Own->Sl->Prop)->Prop
def noF:Nat->Addr->Prop:=fun _ _=>False
def bsP (K:Frag) (G H:Hp) (vs:List V):Bs:=⟨K,G,H,H,vs.map some,noF⟩
def awi (K:Frag) (G:Hp):V->Sl->Prop
 | v,.st d=>Rp G v d
 | v,.scr ns=>∃ a,v=.ref a/\SqL K G a (ns.map V.int)
 | _,_=>False
inductive ArgsOk (K:Frag) (G:Hp):List V->List Sl->Prop
 | nil:ArgsOk K G [] []
 | cons {v:V} {s:Sl} {vs:List V} {ss:List Sl}:awi K G v s->ArgsOk K G vs ss->ArgsOk K G (v :: vs) (s :: ss)
theorem ArgsOk.length {K:Frag} {G:Hp}:∀ {vs:List V} {ss:List Sl},ArgsOk K G vs ss->vs.length=ss.length
 | _,_,.nil=>rfl
 | _,_,.cons _ t=>by simp [ArgsOk.length t]
theorem ArgsOk.get {K:Frag} {G:Hp}:∀ {vs:List V} {ss:List Sl} {i:Nat} {s:Sl},ArgsOk K G vs ss->ss[i]?=some s->∃ v,vs[i]?=some v/\awi K G v s
 | _,_,_,_,.nil,e=>by simp at e
 | _,_,0,_,.cons r _,e=>by simp at e;subst e;exact ⟨_,rfl,r⟩
 | _,_,i+1,s,.cons _ t,e=>by
  obtain ⟨u,b,a⟩:=ArgsOk.get (i:=i) (s:=s) t (by simpa using e)
  exact ⟨u,by simpa using b,a⟩
theorem ArgsOk.of {K:Frag} {G:Hp}:∀ {vs:List V} {ds:List PyData},Rps G vs ds->ArgsOk K G vs (ds.map Sl.st)
 | _,_,.nil => .nil
 | _,_,.cons r t => .cons r (ArgsOk.of t)
theorem apm {α:Type} {xs:List α} {n i:Nat} {s : α} (e:(xs.map some ++ List.replicate n none)[i]?=some (some s)):xs[i]?=some s:=by
 by_cases h:i < xs.length
 ·rw [aC3 (by simpa using h),aA5] at e
  rw [aA0 h] at e ⊢
  simpa using e
 ·rw [aC8 (by simpa using h),aH8] at e
  split at e <;> cases e
theorem apn {α:Type} {xs:List α} {n i:Nat} {s : α} (e:xs[i]?=some s):(xs.map some ++ List.replicate n none)[i]?=some (some s):=by
 have h:i < xs.length:=(aA1.mp e).1
 rw [aC3 (by simpa using h),aA5,e];rfl
def spP (K:Frag) (f:VP):Sp:=fun vs H Q _=>∃ G ss Q',Same G H/\FT G H/\ArgsOk K G vs ss/\f ss Q'/\∀ s,Q' s->∀ v G' H' Fv,Out G H v G' H' s Fv->Q v H'
structure OutI (G H R:Hp) (F0:Addr->Prop) (v0:V) (A':Own) (s:Sl) (v:V) (G' H':Hp) (F' Fv:Addr->Prop):Prop where
 gg:Same G G'
 gh:Same G' H'
 ft:FT G' H'
 gn:∀ a o,G' a=some o->G a=some o\/H a=none
 rs:Same R H'
 bh:∀ a o,H a=some o->∃ o',H' a=some o'
 ap:A'.P G' H' v0 F'
 fi:∀ a,F' a->F0 a\/H a=none
 fg:∀ a,F' a->G' a=none
 ok:RsOk G' H' v Fv s
 fv:∀ a,Fv a->H a=none/\G' a=none/\(∃ o,H' a=some o)/\¬ F' a
def spI (K:Frag) (f:VIo):Sp:=fun vs H Q _=>∃ v0 vr G R A ss F0 Q',vs=v0 :: vr/\Same G H/\FT G H/\Same R H/\A.P G H v0 F0/\(∀ a,F0 a->G a=none)/\(∀ a,F0 a->R a=none)/\ArgsOk K G vr ss /\
 f A ss Q'/\∀ A' s,Q' A' s->∀ v G' H' F' Fv,OutI G H R F0 v0 A' s v G' H' F' Fv->Q v H'
theorem aa3 {K:Frag} {f:VP} {l:TS} {N:List Str} {vs:List V} {H:Hp} {Q:VK} {E:XK} (h:spP K f vs H Q E)
  (hb:∀ ss b,f ss b->∀ B,B.K=K->EvS B l { nx:=fun _=>b (.st .none),rt:=fun s _=>b s } (ss.map some ++ List.replicate (N.length - ss.length) none)):l { nx:=fun _ H'=>Q .non H',rt:=Q } (L2.start N vs) H:=by
 obtain ⟨G,ss,b,gh,ft,m,hf,c⟩:=h
 have fin:∀ {σ G' H' F env v Fv s},VI (bsP K G H vs) G' H' σ env F->RsX (bsP K G H vs) G' H' v Fv s F->Out G H v G' H' s Fv:=fun I r =>
  ⟨I.g0,I.gh,I.rs,I.gn,r.fb,r.fg,r.fo,r.ok,fun _=>I.ft⟩
 refine hb ss _ hf (bsP K G H vs) rfl (L2.start N vs) G H noF _ ?_ ⟨fun σ G' H' F env I g q=>c _ q _ _ _ _ (fin I (adx .non)),fun σ G' H' F env v Fv s I g r q=>c _ q v G' H' Fv (fin I r),fun _ _ _ _ _ _ _ q=>q,fun _ _ _ _ _ _ _ q=>q⟩
 refine ⟨gh,Same.refl _,fun a o e => .inl e,Same.refl _,Same.refl _,fun a o e=>⟨o,e⟩,fun i a z=>z.elim,fun i a z=>z.elim,fun i j a z=>z.elim,fun i a z=>z.elim,fun i s e=>?_,?_,ft⟩
 ·obtain ⟨v,n,q⟩:=m.get (apm e)
  refine ⟨v,by unfold L2.start;exact apn n,?_⟩
  cases s with
  | st d=>exact ⟨q,fun a z=>z⟩
  | scr ns=>exact ⟨q,fun a z=>z⟩
  | own A=>exact q.elim
  | io A=>exact q.elim
 ·unfold L2.start;simp [m.length]
theorem aqy {K:Frag} {f:VIo} {p:TS} {N:List Str} {vs:List V} {H:Hp} {Q:VK} {E:XK} (h:spI K f vs H Q E)
  (hb:∀ A ss c,f A ss c->∀ B,B.K=K->EvS B p { nx:=fun e=>∃ A',e[0]?=some (some (.io A'))/\c A' (.st .none),rt:=fun s e=>∃ A',e[0]?=some (some (.io A'))/\c A' s } (some (.io A) :: (ss.map some ++ List.replicate (N.length - (ss.length+1)) none))):p { nx:=fun _ H'=>Q .non H',rt:=Q } (L2.start N vs) H:=by
 obtain ⟨v0,b,G,R,A,ss,F0,c,rfl,gh,ft,u,ap,fg,fr,l,hf,C⟩:=h
 have O:(v0 :: b).length=ss.length+1:=by simp [l.length]
 refine hb A ss _ hf ⟨K,G,H,R,(v0 :: b).map some,fun i a=>i=0/\F0 a⟩ rfl (L2.start N (v0 :: b)) G H (fun i a=>i=0/\F0 a) _ ?_ ?_
 ·refine ⟨gh,Same.refl _,fun a o e => .inl e,u,u,fun a o e=>⟨o,e⟩,fun i a z=>fg a z.2,fun i a z=>fr a z.2,fun i j a z y=>by rw [z.1,y.1],fun i a z=>A.dom ap a z.2,fun i s e=>?_,?_,ft⟩
  ·cases i with
   | zero =>
    simp at e
    subst e
    refine ⟨v0,rfl,?_,fun a z => .inl z,rfl⟩
    have:(fun a=>0=0/\F0 a)=F0:=by funext a;simp
    rw [this];exact ap
   | succ i =>
    have x:(ss.map some ++ List.replicate (N.length - (ss.length+1)) none)[i]?=some (some s):=by simpa using e
    obtain ⟨v,D,q⟩:=l.get (apm x)
    refine ⟨v,?_,?_⟩
    ·unfold L2.start;exact apn (by simpa using D)
    ·cases s with
     | st d=>exact ⟨q,fun a z=>by cases z.1⟩
     | scr ns=>exact ⟨q,fun a z=>by cases z.1⟩
     | own A=>exact q.elim
     | io A=>exact q.elim
  ·unfold L2.start;simp [l.length]
 ·have fin:∀ σ G' H' F env v Fv s,VI ⟨K,G,H,R,(v0 :: b).map some,fun i a=>i=0/\F0 a⟩ G' H' σ env F->RsX ⟨K,G,H,R,(v0 :: b).map some,fun i a=>i=0/\F0 a⟩ G' H' v Fv s F->(∃ A',env[0]?=some (some (.io A'))/\c A' s)->Q v H':=by
   intro σ G' H' F env v Fv s I r ⟨A',e,q⟩
   obtain ⟨n,J,w,M,L⟩:=I.sl 0 _ e
   have:n=v0:=by
    have m:((v0 :: b).map some)[0]?=some (some n):=L
    simpa using m.symm
   subst this
   exact C A' s q v G' H' (F 0) Fv ⟨I.g0,I.gh,I.ft,I.gn,I.rs,I.bh,w,fun a z=>by
    rcases M a z with y | y
    ·exact .inl y.2
    ·exact .inr y,I.fg 0,r.ok,fun a z=>⟨r.fb a z,r.fg a z,r.fo a z,r.fd 0 a z⟩⟩
  refine ⟨fun σ G' H' F env I g q=>fin σ G' H' F env .non _ (.st .none) I (adx .non) q,fun σ G' H' F env v Fv s I g r q=>fin σ G' H' F env v Fv s I r q,fun _ _ _ _ _ _ _ q=>q,fun _ _ _ _ _ _ _ q=>q⟩
section
variable {B:Bs} {env:En} {Q':PyData->En->Prop} {QO:Sl->En->Prop} {K:Frag} {E:XK}
theorem aks {f:VP} {t:TA} (h:EvA B t env fun ds b=>f (ds.map Sl.st) fun s=>QO s b):EvO B (acf (spP K f) [] E t) env QO:=fun σ G H F Q I k=>by
 unfold acf
 simp only [aF0]
 exact h σ G H F _ I fun vs d l j ds b a g i c=>⟨d,_,_,a.gh,a.ft,ArgsOk.of i,c,fun s q v G' H' Fv o=>k v G' H' j Fv s b (a.out o).1 (g.trans o.gg) (a.out o).2 q⟩
theorem auq {f:VP} {t:TA} (h:EvA B t env fun ds a=>f (ds.map Sl.st) fun s=>FQ s fun d=>Q' d a):Ev B (acf (spP K f) [] E t) env Q':=abt (aks h)
theorem akt {f:VP} {t:TA} {i:Nat} {ns:List Int} (e:env[i]?=some (some (.scr ns))) (l:B.K=K) (h:EvA B t env fun ds c=>f (.scr ns :: ds.map Sl.st) fun s=>QO s c):EvO B (acf (spP K f) [] E (aa6 (tVar i) t)) env QO:=fun σ G H F Q I k=>by
 subst l
 unfold acf
 simp only [aF0]
 obtain ⟨v0,m,⟨a,u,p⟩,_⟩:=I.sl i _ e
 refine ⟨v0,m,h σ G H F _ I fun vs j w r ds c b d n g=>⟨j,_,_,b.gh,b.ft,.cons (s:=.scr ns) ⟨a,u,d.seq p⟩ (ArgsOk.of n),g,fun s q v G' H' Fv o=>k v G' H' r Fv s c (b.out o).1 (d.trans o.gg) (b.out o).2 q⟩⟩
theorem aur {f:VP} {t:TA} {i:Nat} {ns:List Int} (e:env[i]?=some (some (.scr ns))) (b:B.K=K) (h:EvA B t env fun ds a=>f (.scr ns :: ds.map Sl.st) fun s=>FQ s fun d=>Q' d a):Ev B (acf (spP K f) [] E (aa6 (tVar i) t)) env Q':=abt (akt e b h)
def reS:Sl->Own->Sl
 | .io _,A => .io A
 | _,A => .own A
theorem aku {f:VIo} {t:TA} {i:Nat} (U:∃ s,env[i]?=some (some s)) (h:EvA B t env fun ds D=>∃ r A,D[i]?=some (some r)/\(r=.own A\/r=.io A)/\f A (ds.map Sl.st) fun A' s=>QO s (D.set i (some (reS r A')))):EvO B (acf (spI K f) [] E (aa6 (tVar i) t)) env QO:=fun σ G H F Q I k=>by
 unfold acf
 simp only [aF0]
 obtain ⟨s,e⟩:=U
 obtain ⟨v0,O,_⟩:=I.sl i _ e
 refine ⟨v0,O,h σ G H F _ I fun vs N p m ds D w S T ⟨r,A,M,hs,R⟩=>?_⟩
 obtain ⟨W,C,q⟩:=w.sl i _ M
 rw [O] at C;cases C
 have ap:A.P N p v0 (m i):=by
  rcases hs with rfl | rfl
  ·exact q.1
  ·exact q.1
 let inv:Nat->Option Nat:=fun j=>if j=i then some 0 else none
 have d:inv i=some 0:=aF6 rfl
 have g:∀ j,j ≠ i->inv j=none:=fun j h=>aF7 h
 have c:∀ j l,inv j=some l->j=i/\l=0:=fun j l h=>by
  by_cases hj:j=i
  ·subst hj;rw [d] at h;cases h;exact ⟨rfl,rfl⟩
  ·rw [g j hj] at h;cases h
 refine ⟨v0,vs,N,acu p m inv,A,_,m i,_,rfl,w.gh,w.ft,ady,ap,w.fg i,fun a z=>afy d z,ArgsOk.of T,R,fun A' s q v G' H' F' Fv o=>?_⟩
 have hi:i < D.length:=(aA1.mp M).1
 have J:VI ⟨K,N,p,acu p m inv,[some v0],fun j a=>j=0/\m i a⟩ G' H' [some v0] [some (.io A')] (fun j a=>j=0/\F' a):=by
  refine ⟨o.gh,o.gg,o.gn,o.rs,ady,o.bh,fun j a z=>o.fg a z.2,fun j a z=>?_,fun j l a y z=>by rw [y.1,z.1],fun j a z=>A'.dom o.ap a z.2,fun j s e=>?_,rfl,o.ft⟩
  ·rcases o.fi a z.2 with y | y
   ·exact afy d y
   ·cases e:acu p m inv a with
    | none=>exact e
    | some u=>rw [ady a u e] at y;cases y
  ·cases j with
   | zero =>
    simp at e
    subst e
    refine ⟨v0,rfl,?_,fun a z=>?_,rfl⟩
    ·have:(fun a=>0=0/\F' a)=F':=by funext a;simp
     rw [this];exact o.ap
    ·rcases o.fi a z.2 with y | y
     ·exact .inl ⟨rfl,y⟩
     ·exact .inr y
   | succ j=>simp at e
 have L:=w.leave (inv:=inv) (env2:=D.set i (some (reS r A'))) (fun a b j ha hb=>by rw [(c a j ha).1,(c b j hb).1]) rfl rfl (fun a u e n=>by show acu p m inv a=_;rw [aib n];exact e)
  (fun a j ha x z=>by rw [(c a j ha).1];exact z.2) (fun a j ha=>by rw [(c a j ha).1,(c a j ha).2,O];rfl) J (fun a j ha=>⟨A',by rw [(c a j ha).2];rfl⟩) (by simp) fun j s' e=>by
   by_cases hj:j=i
   ·subst hj
    rw [aD2,aF6 rfl,aF6 hi] at e
    cases e
    refine .inr ⟨0,A,A',d,rfl,?_⟩
    rcases hs with rfl | rfl
    ·exact .inl ⟨M,rfl⟩
    ·exact .inr ⟨M,rfl⟩
   ·rw [aD2,aF7 (fun z=>hj z.symm)] at e
    exact .inl ⟨g j hj,e⟩
 have X:RsX ⟨K,N,p,acu p m inv,[some v0],fun j a=>j=0/\m i a⟩ G' H' v Fv s (fun j a=>j=0/\F' a):=⟨o.ok,fun a z=>(o.fv a z).1,fun a z=>(o.fv a z).2.1,fun a z=>(o.fv a z).2.2.1,fun j a z y=>(o.fv a z).2.2.2 y.2⟩
 exact k v G' H' _ Fv s _ L (S.trans o.gg) (X.leave (inv:=inv) w rfl) q
end
def aix:Option Sl->Option Sl
 | some (.own A)=>some (.io A)
 | s=>s
def aal (src:List (Option Nat)) (env:En):En:=src.map fun o=>match o with | some j=>aix ((env[j]?).getD none) | none=>none
def isIo:Option Sl->Bool
 | some (.io _)=>true
 | _=>false
def idxE (i:Nat):List (Option Nat)->Nat->Option Nat
 | [],_=>none
 | o :: r,k=>if o=some i then some k else idxE i r (k+1)
def ahc (src:List (Option Nat)) (e:En) (i:Nat) (s:Option Sl):Option Sl :=
 match s with
 | some (.own A)=>(match idxE i src 0 with | some j=>(match e[j]? with | some (some (.io A'))=>some (.own A') | _=>none) | none=>some (.own A))
 | some (.io A)=>(match idxE i src 0 with | some j=>(match e[j]? with | some (some (.io A'))=>some (.io A') | _=>none) | none=>some (.io A))
 | s=>s
def afo (src:List (Option Nat)) (e:En):Nat->En->En
 | _,[]=>[]
 | k,s :: r=>ahc src e k s :: afo src e (k+1) r
def ahd (src:List (Option Nat)) (e1 e:En):En:=afo src e 0 e1
theorem afz (src:List (Option Nat)) (e:En):∀ (k:Nat) (l:En) (i:Nat),(afo src e k l)[i]?=(l[i]?).map (ahc src e (k+i))
 | _,[],i=>by simp [afo]
 | k,s :: r,0=>by simp [afo]
 | k,s :: r,i+1=>by
  have:=afz src e (k+1) r i
  simp only [afo,List.getElem?_cons_succ,this]
  rw [show k+1+i=k+(i+1) by omega]
theorem afe {i:Nat}:∀ {src:List (Option Nat)} {k j:Nat},idxE i src k=some j->k<=j/\src[j - k]?=some (some i)
 | [],_,_,h=>by cases h
 | o :: r,k,j,h=>by
  unfold idxE at h
  by_cases e:o=some i
  ·rw [aF6 e] at h;cases h
   exact ⟨aA6 _,by simp [e]⟩
  ·rw [aF7 e] at h
   obtain ⟨b,a⟩:=afe h
   refine ⟨by omega,?_⟩
   rw [show j - k=(j - (k+1))+1 by omega]
   simpa using a
theorem akv {i:Nat}:∀ {src:List (Option Nat)} {k:Nat},idxE i src k=none->∀ j:Nat,src[j]? ≠ some (some i)
 | [],_,_,j=>by simp
 | o :: r,k,h,j=>by
  unfold idxE at h
  by_cases e:o=some i
  ·rw [aF6 e] at h;cases h
  ·rw [aF7 e] at h
   cases j with
   | zero=>simpa using e
   | succ j=>simpa using akv h j
theorem ang:∀ (src:List (Option Nat)),(src.filterMap id).Nodup->∀ j j' i:Nat,src[j]?=some (some i)->src[j']?=some (some i)->j=j'
 | [],_,j,_,_,h,_=>by simp at h
 | none :: r,h,j,j',i,h1,h2=>by
  cases j with
  | zero=>simp at h1
  | succ j =>
   cases j' with
   | zero=>simp at h2
   | succ j'=>rw [ang r (by simpa using h) j j' i (by simpa using h1) (by simpa using h2)]
 | some x :: r,h,j,j',i,h1,h2=>by
  have h':=aI5.mp (show (x :: r.filterMap id).Nodup by simpa using h)
  have b:∀ k,r[k]?=some (some x)->False:=fun k c=>h'.1 (List.mem_filterMap.mpr ⟨some x,aA2 c,rfl⟩)
  cases j with
  | zero =>
   have a:x=i:=by simpa using h1
   subst a
   cases j' with
   | zero=>rfl
   | succ j'=>exact (b j' (by simpa using h2)).elim
  | succ j =>
   cases j' with
   | zero =>
    have a:x=i:=by simpa using h2
    subst a
    exact (b j (by simpa using h1)).elim
   | succ j'=>rw [ang r h'.2 j j' i (by simpa using h1) (by simpa using h2)]
def ahe:Option Sl->Bool
 | some (.own _)=>true
 | _=>false
def ioLe:En->En->Prop
 | a :: r,b :: s=>(isIo a=isIo b/\ahe b=false)/\ioLe r s
 | [],[]=>True
 | _,_=>False
theorem anh {x:Option Sl} (h:isIo x=true):∃ A,x=some (.io A):=by
 cases x with
 | none=>simp [isIo] at h
 | some y =>
  cases y with
  | io A=>exact ⟨A,rfl⟩
  | _=>simp [isIo] at h
theorem ioLe.get:∀ {a b:En} {j:Nat} {x:Option Sl},ioLe a b->a[j]?=some x->isIo x=true->∃ A,b[j]?=some (some (.io A))
 | [],_,_,_,_,e,_=>by simp at e
 | x :: r,[],_,_,h,_,_=>h.elim
 | x :: r,y :: s,0,z,h,e,p=>by
  simp at e;subst e
  have:=h.1.1
  rw [p] at this
  obtain ⟨A,q⟩:=anh this.symm
  exact ⟨A,by simp [q]⟩
 | x :: r,y :: s,j+1,z,h,e,p=>by
  obtain ⟨A,q⟩:=ioLe.get (j:=j) h.2 (by simpa using e) p
  exact ⟨A,by simpa using q⟩
theorem ioLe.got:∀ {a b:En} {j:Nat} {x:Option Sl},ioLe a b->b[j]?=some x->(isIo x=true->∃ A,a[j]?=some (some (.io A)))/\ahe x=false
 | [],[],_,_,_,e=>by simp at e
 | [],_ :: _,_,_,h,e=>h.elim
 | x :: r,[],_,_,h,_=>h.elim
 | x :: r,y :: s,0,z,h,e=>by
  simp at e;subst e
  refine ⟨fun p=>?_,h.1.2⟩
  have:=h.1.1
  rw [p] at this
  obtain ⟨A,q⟩:=anh this
  exact ⟨A,by simp [q]⟩
 | x :: r,y :: s,j+1,z,h,e=>by
  obtain ⟨p,q⟩:=ioLe.got (j:=j) (x:=z) h.2 (by simpa using e)
  exact ⟨fun t=>by obtain ⟨A,u⟩:=p t;exact ⟨A,by simpa using u⟩,q⟩
section
variable {B:Bs} {G H:Hp} {σ:St} {env:En} {F:Nat->Addr->Prop}
theorem VI.aside (I:VI B G H σ env F) {p:Addr} {o:HO} (d:∀ xs,o ≠ .tup xs) (c:G p=none) (hf:∀ j,¬ F j p) (hb:B.H p=none):VI B G (upd H p o) σ env F where
 gh:=fun a u e=>by rw [aag (aaq e c)];exact I.gh a u e
 g0:=I.g0
 gn:=I.gn
 rs:=fun a u e=>by rw [aag (aaq e (I.b_r hb))];exact I.rs a u e
 rb:=I.rb
 bh:=fun a u e=>by rw [aag (aaq e hb)];exact I.bh a u e
 fg:=I.fg
 fr:=I.fr
 fd:=I.fd
 fo:=fun j a z=>by rw [aag (fun e:a=p=>hf j (e ▸ z))];exact I.fo j a z
 sl:=fun i s e=>by
  obtain ⟨v,b,q⟩:=I.sl i s e
  exact ⟨v,b,q.mono (Same.refl _) fun a u z y=>by rw [aag (fun e:a=p=>hf i (e ▸ z))];exact y⟩
 ln:=I.ln
 ft:=fun a ks e=>by
  by_cases z:a=p
  ·subst z;rw [aaj] at e;exact absurd (aC6 e) (d _)
  ·rw [aag z] at e;exact I.ft a ks e
def LcV (K:Frag) (src:List (Option Nat)) (g:TG) (tif:TT) (te:TE) (ds:List PyData) (e1:En) (R:List PyData->En->Prop):Prop:=∃ J:Nat->List PyData->En->Prop,J 0 [] (aal src e1)/\(∀ i ys e,J i ys e->ioLe (aal src e1) e) /\
 (∀ i d ys e,ds[i]?=some d->J i ys e->∀ B':Bs,B'.K=K->EvG B' g (.st d) e fun e2=>EvT B' tif e2 fun b e3=>if b=true then Ev B' te e3 fun y e4=>ys.length<=999999/\J (i+1) (ys ++ [y]) e4 else J (i+1) ys e3)/\∀ ys e,J ds.length ys e->R ys (ahd src e1 e)
theorem agv {src:List (Option Nat)} {j:Nat} {s:Sl} (h:(aal src env)[j]?=some (some s)):∃ i t,src[j]?=some (some i)/\env[i]?=some (some t)/\aix (some t)=some s:=by
 unfold aal at h
 rw [aA5] at h
 cases e:src[j]? with
 | none=>rw [e] at h;cases h
 | some o =>
  rw [e] at h
  cases o with
  | none=>cases h
  | some i =>
   simp only [aI2,Option.some.injEq] at h
   cases e2:env[i]? with
   | none=>rw [e2] at h;cases h
   | some o2 =>
    rw [e2] at h
    cases o2 with
    | none=>cases h
    | some t=>exact ⟨i,t,rfl,e2,h⟩
theorem ani {src:List (Option Nat)} {i j:Nat} {v:V} (h:src[j]?=some (some i)) (a : σ[i]?=some (some v)):(pick src σ)[j]?=some (some v):=by
 unfold pick
 rw [aA5,h]
 simp [a]
theorem asg {src:List (Option Nat)} {wi:TI} {g:TG} {b0:TT} {te:TE} {QO:Sl->En->Prop} (nd:(src.filterMap id).Nodup) (h:EvI B wi env fun ds U=>LcV B.K src g b0 te ds U fun ys W=>QO (.own (OL ys)) W):EvO B (tLC src wi g b0 te) env QO:=fun σ G H F Q I k=>by
 refine h σ G H F _ I fun J G1 H1 F1 ds U I1 g1 it ⟨Jv,j0,a6,js,jd⟩ p S=>?_
 let M:Nat->Bool:=fun i=>match U[i]? with | some (some (.own _))=>true | some (some (.io _))=>true | _=>false
 let inv:Nat->Option Nat:=fun i=>if M i=true then idxE i src 0 else none
 have E:∀ i j,inv i=some j->src[j]?=some (some i)/\M i=true:=fun i j hi=>by
  by_cases hm:M i=true
  ·have f:idxE i src 0=some j:=by simpa [inv,hm] using hi
   have:=(afe f).2
   exact ⟨by simpa using this,hm⟩
  ·simp [inv,hm] at hi
 have Z:∀ i j,src[j]?=some (some i)->M i=true->inv i=some j:=fun i j hs hm=>by
  have e0:inv i=idxE i src 0:=by simp [inv,hm]
  cases e:idxE i src 0 with
  | none=>exact absurd hs (akv e j)
  | some j' =>
   have:=(afe e).2
   rw [e0,e,ang src nd j j' i hs (by simpa using this)]
 have inj:∀ i c j,inv i=some j->inv c=some j->i=c:=fun i c j Y C=>by
  have a:=(E i j Y).1
  rw [(E c j C).1] at a
  simpa using a.symm
 have b2:∀ i,M i=true->∃ A,U[i]?=some (some (.own A))\/U[i]?=some (some (.io A)):=fun i hm=>by
  cases e:U[i]? with
  | none=>simp [M,e] at hm
  | some o =>
   cases o with
   | none=>simp [M,e] at hm
   | some s =>
    cases s with
    | own A=>exact ⟨A,.inl rfl⟩
    | io A=>exact ⟨A,.inr rfl⟩
    | st d=>simp [M,e] at hm
    | scr ns=>simp [M,e] at hm
 have b3:∀ i ys e,Jv i ys e->∀ c j,inv c=some j->∃ A,e[j]?=some (some (.io A)):=fun i ys e hj c j hi=>by
  obtain ⟨hs,hm⟩:=E c j hi
  obtain ⟨A,N⟩:=b2 c hm
  refine (a6 i ys e hj).get (x:=some (.io A)) ?_ rfl
  unfold aal
  rw [aA5,hs]
  rcases N with N | N <;> simp [N,aix]
 -- between two turns
 let Wv:Nat->List V->St->Hp->Prop:=fun i ys σI H=>∃ G2 F2 e env2 yd,VI B G2 H σ env2 F2/\Same G1 G2/\H p=some (.lst ys)/\Rps G2 ys yd/\G2 p=none/\(∀ j,¬ F2 j p)/\Jv i yd e/\σI.length=e.length/\env2.length=U.length /\
  (∀ j s,e[j]?=some (some s)->∃ v,σI[j]?=some (some v)/\((∃ d,s=.st d/\Rp G2 v d/\∀ i,inv i ≠ some j)\/(∃ ns a,s=.scr ns/\v=.ref a/\SqL B.K G2 a (ns.map V.int)/\∀ i,inv i ≠ some j) ∨
   ∃ i A,inv i=some j/\s=.io A/\σ[i]?=some (some v)/\(env2[i]?=some (some (.own A))\/env2[i]?=some (some (.io A))))) /\
  (∀ i,inv i=none->env2[i]?=U[i]?)/\(∀ i j,inv i=some j->∃ A0 A,e[j]?=some (some (.io A))/\((U[i]?=some (some (.own A0))/\env2[i]?=some (some (.own A)))\/(U[i]?=some (some (.io A0))/\env2[i]?=some (some (.io A)))))
 have hb:B.H p=none:=I1.no_b S
 refine ⟨fun i m ys σI H=>m=ds.length - i/\i<=ds.length/\Wv i ys σI H,⟨ds.length,by simp,aG1 _,?_⟩,?_⟩
 ·refine ⟨G1,F1,aal src U,U,[],I1.aside (fun _ z=>nomatch z) (I1.no_g S) (I1.no_f S) hb,Same.refl _,aaj,.nil,I1.no_g S,I1.no_f S,j0,by simp [pick,aal],rfl,fun j s e=>?_,fun _ _=>rfl,fun i j hi=>?_⟩
  ·obtain ⟨i,t,hs,ht,hp⟩:=agv e
   obtain ⟨v,hv,q⟩:=I1.sl i t ht
   refine ⟨v,ani hs hv,?_⟩
   cases t with
   | st d =>
    cases hp
    refine .inl ⟨d,rfl,q.1,fun c f=>?_⟩
    have a:=(E c j f).1
    rw [hs] at a
    have:i=c:=by simpa using a
    subst this
    have:=(E i j f).2
    simp [M,ht] at this
   | scr ns =>
    cases hp
    obtain ⟨⟨a,ea,sq⟩,_⟩:=q
    refine .inr (.inl ⟨ns,a,rfl,ea,sq,fun c f=>?_⟩)
    have a:=(E c j f).1
    rw [hs] at a
    have:i=c:=by simpa using a
    subst this
    have:=(E i j f).2
    simp [M,ht] at this
   | own A=>cases hp;exact .inr (.inr ⟨i,A,Z i j hs (by simp [M,ht]),rfl,hv,.inl ht⟩)
   | io A=>cases hp;exact .inr (.inr ⟨i,A,Z i j hs (by simp [M,ht]),rfl,hv,.inr ht⟩)
  ·obtain ⟨hs,hm⟩:=E i j hi
   obtain ⟨A,N⟩:=b2 i hm
   refine ⟨A,A,?_,?_⟩
   ·unfold aal
    rw [aA5,hs]
    rcases N with N | N <;> simp [N,aix]
   ·rcases N with N | N
    ·exact .inl ⟨N,N⟩
    ·exact .inr ⟨N,N⟩
 ·rintro i m ys σI H2 ⟨rfl,hi,G2,F2,e,env2,yd,I2,g2,a1,ry,ga,fa,jv,ln,b8,sl,un,mv⟩
  refine ⟨a1,?_⟩
  by_cases hlt:i < ds.length
  ·refine .inr ⟨it.go i G2 H2 g2 I2.gh hlt,Wv (i+1),fun a2 c2 H' hw=>⟨ds.length - (i+1),by omega,rfl,hlt,hw⟩,fun x H3 y=>?_⟩
   obtain ⟨G3,o⟩:=it.yld i G2 H2 x H3 _ g2 I2.gh I2.ft (aA0 hlt) y
   obtain ⟨I3,X3⟩:=I2.out o
   have a7:=o.hh _ _ a1
   have a9:=fa
   have b5:G3 p=none:=by
    cases e':G3 p with
    | none=>rfl
    | some u =>
     rcases o.gn p u e' with q | q
     ·rw [ga] at q;cases q
     ·rw [a1] at q;cases q
   have b9:∀ j s,e[j]?=some (some s)->∃ v,σI[j]?=some (some v)/\((∃ d,s=.st d/\Rp G3 v d/\∀ i,inv i ≠ some j)\/(∃ ns a,s=.scr ns/\v=.ref a/\SqL B.K G3 a (ns.map V.int)/\∀ i,inv i ≠ some j) ∨
     ∃ i A,inv i=some j/\s=.io A/\σ[i]?=some (some v)/\(env2[i]?=some (some (.own A))\/env2[i]?=some (some (.io A)))):=fun j s es=>by
    obtain ⟨v,hv,q⟩:=sl j s es
    refine ⟨v,hv,?_⟩
    rcases q with ⟨d,a8,r,n⟩ | ⟨ns,a,a8,c1,r,n⟩ | q
    ·exact .inl ⟨d,a8,r.same o.gg,n⟩
    ·exact .inr (.inl ⟨ns,a,a8,c1,o.gg.seq r,n⟩)
    ·exact .inr (.inr q)
   have E3:=I3.enter (inv:=inv) (σI:=σI) (envI:=e) inj ln b9
   -- back from the turn
   have fin:∀ (T:St) (G4 H4:Hp) (F4:Nat->Addr->Prop) (e4:En) (a0:List PyData) (a2:List V) (o4:HO),VI ⟨B.K,G3,H3,acu H3 F2 inv,σI,fun j a=>∃ i,inv i=some j/\F2 i a⟩ G4 H4 T e4 F4->Jv (i+1) a0 e4->Rps G4 a2 a0 ->
     Wv (i+1) a2 T (upd H4 p (.lst a2))/\H4 p=some (.lst ys):=by
    intro T G4 H4 F4 e4 a0 a2 o4 I4 j4 r4
    have a3:=b3 (i+1) a0 e4 j4
    have b6:H4 p=some (.lst ys):=I4.rs p _ (by show acu H3 F2 inv p=_;rw [aib (fun c _ _=>a9 c)];exact a7)
    have b1:G4 p=none:=by
     cases e':G4 p with
     | none=>rfl
     | some u =>
      rcases I4.gn p u e' with q | q
      ·change G3 p=_ at q;rw [b5] at q;cases q
      ·change H3 p=_ at q;rw [a7] at q;cases q
    -- the slots of the outer frame
    let D:En:=(List.range env2.length).map fun c=>match inv c with
     | some j=>(match env2[c]?,e4[j]? with | some (some (.own _)),some (some (.io A))=>some (.own A) | some (some (.io _)),some (some (.io A))=>some (.io A) | _,_=>none)
     | none=>(env2[c]?).getD none
    have P:∀ c,c < env2.length->D[c]?=some (match inv c with
     | some j=>(match env2[c]?,e4[j]? with | some (some (.own _)),some (some (.io A))=>some (.own A) | some (some (.io _)),some (some (.io A))=>some (.io A) | _,_=>none)
     | none=>(env2[c]?).getD none):=fun c hl=>by
     simp only [D,aA5]
     rw [aA0 (by simpa using hl)]
     simp
    have L:=I3.leave (inv:=inv) (env2:=D) inj rfl rfl (fun a u q n=>by show acu H3 F2 inv a=_;rw [aib n];exact q) (fun c j f a z=>by obtain ⟨X,Y,C⟩:=z;rw [inj c X j f Y];exact C)
     (fun c j f=>by
      obtain ⟨A0,A,Y,C⟩:=mv c j f
      obtain ⟨v,hv,q⟩:=sl j _ Y
      rcases q with ⟨d,q,_⟩ | ⟨ns,a,q,_⟩ | ⟨X,c0,q1,q2,q3,_⟩
      ·cases q
      ·cases q
      ·rw [inj c X j f q1]
       show σI[j]?=_
       rw [hv,q3]) I4 a3 (by simp [D]) (fun c s es=>by
      have hl:c < env2.length:=by
       have:=(aA1.mp es).1
       simpa [D] using this
      rw [P c hl] at es
      cases f:inv c with
      | none =>
       refine .inl ⟨rfl,?_⟩
       rw [f] at es
       simp only [Option.some.injEq] at es
       cases q:env2[c]? with
       | none=>rw [q] at es;cases es
       | some u=>rw [q] at es;simp at es;rw [es]
      | some j =>
       rw [f] at es
       obtain ⟨A',R⟩:=a3 c j f
       obtain ⟨A0,A,Y,C⟩:=mv c j f
       simp only [R] at es
       rcases C with ⟨_,C⟩ | ⟨_,C⟩
       ·rw [C] at es
        simp only [Option.some.injEq] at es
        exact .inr ⟨j,A,A',rfl,R,.inl ⟨C,es.symm⟩⟩
       ·rw [C] at es
        simp only [Option.some.injEq] at es
        exact .inr ⟨j,A,A',rfl,R,.inr ⟨C,es.symm⟩⟩)
    have b4:∀ j,¬ (match inv j with | some j=>F4 j p | none=>F2 j p):=fun j z=>by
     cases hj:inv j with
     | none=>rw [hj] at z;exact a9 j z
     | some l =>
      rw [hj] at z
      obtain ⟨A',R⟩:=a3 j l hj
      obtain ⟨v,_,q⟩:=I4.sl l _ R
      rcases q.2.1 p z with ⟨X,_,q⟩ | q
      ·exact a9 X q
      ·change H3 p=_ at q;rw [a7] at q;cases q
    refine ⟨⟨G4,_,e4,D,a0,L.aside (fun _ z=>nomatch z) b1 b4 hb,g2.trans (o.gg.trans I4.g0),aaj,r4,b1,b4,j4,I4.ln,by simp [D,b8],fun j s es=>?_,fun c f=>?_,fun c j f=>?_⟩,b6⟩
    ·obtain ⟨v,hv,q⟩:=I4.sl j s es
     refine ⟨v,hv,?_⟩
     have a4:(∀ A,s ≠ .io A)->∀ c,inv c ≠ some j:=fun hn c f=>by
      obtain ⟨A,N⟩:=a3 c j f
      rw [es] at N
      exact hn A (by simpa using N)
     cases s with
     | st d=>exact .inl ⟨d,rfl,q.1,a4 (by intro A z;cases z)⟩
     | scr ns =>
      obtain ⟨⟨a,ea,sq⟩,_⟩:=q
      exact .inr (.inl ⟨ns,a,rfl,ea,sq,a4 (by intro A z;cases z)⟩)
     | own A =>
      have:=((a6 _ _ _ j4).got es).2
      simp [ahe] at this
     | io A =>
      obtain ⟨A0,h0⟩:=((a6 _ _ _ j4).got es).1 rfl
      obtain ⟨c,t,hs,ht,hp⟩:=agv h0
      have hm:M c=true:=by
       cases t with
       | own A=>simp [M,ht]
       | io A=>simp [M,ht]
       | st d=>cases hp
       | scr ns=>cases hp
      have f:=Z c j hs hm
      obtain ⟨B0,A1,Y,C⟩:=mv c j f
      have hl:c < env2.length:=by
       rcases C with ⟨_,C⟩ | ⟨_,C⟩ <;> exact (aA1.mp C).1
      refine .inr (.inr ⟨c,A,f,rfl,?_,?_⟩)
      ·have hS : σI[j]?=some (some v):=q.2.2
       obtain ⟨v',b7,q'⟩:=sl j _ Y
       rcases q' with ⟨d,q',_⟩ | ⟨ns,a,q',_⟩ | ⟨X,c0,q1,q2,q3,_⟩
       ·cases q'
       ·cases q'
       ·rw [inj c X j f q1,q3,← b7,hS]
      ·rw [P c hl,f]
       simp only [es]
       rcases C with ⟨_,C⟩ | ⟨_,C⟩
       ·rw [C];exact .inl rfl
       ·rw [C];exact .inr rfl
    ·by_cases hl:c < env2.length
     ·rw [P c hl,f]
      simp only
      rw [← un c f]
      rw [aA0 hl];rfl
     ·rw [aF8.mpr (by simp [D];omega),← un c f,aF8.mpr (by omega)]
    ·obtain ⟨A',R⟩:=a3 c j f
     obtain ⟨A0,A,Y,C⟩:=mv c j f
     have hl:c < env2.length:=by
      rcases C with ⟨_,C⟩ | ⟨_,C⟩ <;> exact (aA1.mp C).1
     refine ⟨A0,A',R,?_⟩
     rw [P c hl,f]
     simp only [R]
     rcases C with ⟨h3,C⟩ | ⟨h3,C⟩
     ·rw [C];exact .inl ⟨h3,rfl⟩
     ·rw [C];exact .inr ⟨h3,rfl⟩
   have hd:ds[i]?=some ds[i]:=aA0 hlt
   refine js i _ yd e hd jv ⟨B.K,G3,H3,acu H3 F2 inv,σI,fun j a=>∃ i,inv i=some j/\F2 i a⟩ rfl σI G3 H3 _ x _ _ E3 (adx o.ok.1) fun T G4 H4 F4 e4 I4 g4 q4=>?_
   refine q4 T G4 H4 F4 _ I4 fun b G5 H5 F5 e5 I5 g5 q5=>?_
   cases b with
   | false =>
    rw [aF7 aB0] at q5 ⊢
    obtain ⟨w,ac⟩:=fin T G5 H5 F5 e5 yd ys (.lst ys) I5 q5 (ry.same (o.gg.trans (g4.trans g5)))
    have:upd H5 p (.lst ys)=H5:=by
     funext b
     unfold upd
     split
     ·rename_i hb';rw [hb'];exact ac.symm
     ·rfl
    rw [this] at w
    exact w
   | true =>
    rw [aF6 rfl] at q5 ⊢
    refine q5 T G5 H5 F5 _ I5 fun y G6 H6 F6 d6 e6 I6 g6 r6 q6=>?_
    obtain ⟨w,ac⟩:=fin T G6 H6 F6 e6 (yd ++ [d6]) (ys ++ [y]) (.lst ys) I6 q6.2 ((ry.same (o.gg.trans (g4.trans (g5.trans g6)))).append (.cons r6 .nil))
    exact ⟨ac,by rw [ry.length];exact big (by have:=q6.1;omega),w⟩
  ·have ei:i=ds.length:=by omega
   subst ei
   refine .inl ⟨it.stop _ G2 H2 g2 I2.gh rfl,?_⟩
   have q:=jd yd e jv
   have eb:ahd src U e=env2:=by
    apply aG3
    intro c
    unfold ahd
    rw [afz,Nat.zero_add]
    have O:M c=false->env2[c]?=U[c]?:=fun hm=>un c (by simp [inv,hm])
    cases W:U[c]? with
    | none =>
     rw [O (by simp [M,W]),W];rfl
    | some o =>
     cases o with
     | none=>rw [O (by simp [M,W]),W];rfl
     | some t =>
      have a5:∀ A,(t=.own A\/t=.io A)->M c=true:=fun A h=>by rcases h with rfl | rfl <;> simp [M,W]
      cases t with
      | st d=>rw [O (by simp [M,W]),W];rfl
      | scr ns=>rw [O (by simp [M,W]),W];rfl
      | own A =>
       have hm:=a5 A (.inl rfl)
       simp only [aI2,ahc]
       cases e3:idxE c src 0 with
       | none =>
        have:inv c=none:=by simp [inv,e3]
        rw [un c this,W]
       | some j =>
        have f:inv c=some j:=by simp [inv,hm,e3]
        obtain ⟨A0,A1,Y,C⟩:=mv c j f
        simp only [Y]
        rcases C with ⟨h3,C⟩ | ⟨h3,C⟩
        ·rw [C]
        ·rw [W] at h3;cases h3
      | io A =>
       have hm:=a5 A (.inr rfl)
       simp only [aI2,ahc]
       cases e3:idxE c src 0 with
       | none =>
        have:inv c=none:=by simp [inv,e3]
        rw [un c this,W]
       | some j =>
        have f:inv c=some j:=by simp [inv,hm,e3]
        obtain ⟨A0,A1,Y,C⟩:=mv c j f
        simp only [Y]
        rcases C with ⟨h3,C⟩ | ⟨h3,C⟩
        ·rw [W] at h3;cases h3
        ·rw [C]
   rw [eb] at q
   refine k (.ref p) G2 H2 F2 (· = p) (.own (OL yd)) env2 I2 (g1.trans g2) ⟨⟨p,ys,rfl,a1,ry,fun b=>Iff.rfl⟩,fun a z=>by rw [z];exact hb,fun a z=>by rw [z];exact ga,fun a z=>by rw [z];exact ⟨_,a1⟩,fun j a z=>by rw [z];exact fa j⟩ q
end
def noIo (e:En):Bool:=e.all fun s => !isIo s
theorem aus {e:En} {j:Nat} {x:Option Sl} (h:noIo e=true) (a:e[j]?=some x):isIo x=false:=by
 have:=aF5.mp h x (aA2 a)
 simpa using this
theorem ahf {src:List (Option Nat)} {b e:En} (h:noIo (aal src b)=true):ahd src b e=b:=by
 apply aG3
 intro i
 unfold ahd
 rw [afz,Nat.zero_add]
 cases e2:b[i]? with
 | none=>rfl
 | some o =>
  have a:∀ A,(o=some (.own A)\/o=some (.io A))->idxE i src 0=none:=fun A c=>by
   cases e3:idxE i src 0 with
   | none=>rfl
   | some j =>
    have hs:=(afe e3).2
    have:(aal src b)[j]?=some (some (.io A)):=by
     unfold aal
     rw [aA5,show src[j]?=some (some i) by simpa using hs]
     rcases c with rfl | rfl <;> simp [e2,aix]
    have:=aus h this
    simp [isIo] at this
  cases o with
  | none=>rfl
  | some t =>
   cases t with
   | st d=>rfl
   | scr ns=>rfl
   | own A=>simp only [aI2,ahc,a A (.inl rfl)]
   | io A=>simp only [aI2,ahc,a A (.inr rfl)]
def stO:Option PyData->Option Sl:=Option.map Sl.st
theorem isIo_stO {o:Option PyData}:isIo (stO o)=false:=by cases o <;> rfl
theorem ac0 {o:Option PyData}:ahe (stO o)=false:=by cases o <;> rfl
theorem adh {src:List (Option Nat)} {a:En}:∀ x∈aal src a,ahe x=false:=by
 intro x b
 unfold aal at b
 obtain ⟨o,_,rfl⟩:=aB7.mp b
 cases o with
 | none=>rfl
 | some j =>
  dsimp only
  cases (a[j]?).getD none with
  | none=>rfl
  | some t=>cases t <;> rfl
theorem adn:∀ {e:En},(∀ x∈e,ahe x=false)->ioLe e e
 | [],_=>True.intro
 | x :: r,h=>⟨⟨rfl,h x aB8⟩,adn fun y a=>h y (aB5 _ a)⟩
section
variable {B:Bs} {env:En} {g:TG} {tif:TT} {te:TE} {K:Frag} {src:List (Option Nat)} {ds:List PyData} {e1:En} {R:List PyData->En->Prop}
theorem aut (f:PyData->PyData) (p:PyData->Bool) (g:noIo (aal src e1)=true) (C:ds.length<=999999)
  (h:∀ d∈ds,∀ a:Bs,a.K=K->EvT a tif (some (.st d) :: aal src e1) fun b n=>b=p d/\n=some (.st d) :: aal src e1/\(b=true->Ev a te (some (.st d) :: aal src e1) fun y l=>y=f d/\l=some (.st d) :: aal src e1))
  (w:R ((ds.filter p).map f) e1):LcV K (none :: src) (aa1 0) tif te ds e1 R:=by
 have c:noIo (aal (none :: src) e1)=true:=by
  show ((none :: aal src e1).all fun s => !isIo s)=true
  rw [List.all_cons]
  exact (aH2 _ _).mpr ⟨rfl,g⟩
 refine ⟨fun i ys e=>ys=((ds.take i).filter p).map f/\∃ o,e=stO o :: aal src e1,⟨by simp,none,rfl⟩,?_,?_,?_⟩
 ·rintro i ys e ⟨_,o,rfl⟩
  exact ⟨⟨isIo_stO.symm,ac0⟩,adn adh⟩
 ·rintro i d ys e hd ⟨rfl,o,rfl⟩ a z
  have hi:i < ds.length:=(aA1.mp hd).1
  have q:ds.take (i+1)=ds.take i ++ [d]:=by rw [aH5,hd];rfl
  refine aaz ?_
  show EvT a tif (some (.st d) :: aal src e1) _
  intro σ G H F Q I k
  refine h d (aA2 hd) a z σ G H F Q I fun b G' H' F' n j g' ⟨hb,A,u⟩=>k b G' H' F' n j g' ?_
  subst A
  by_cases hp:b=true
  ·rw [aF6 hp]
   intro σ G H F Q I k
   refine u hp σ G H F Q I fun v G' H' F' d' l j g' r ⟨x,m⟩=>k v G' H' F' d' l j g' r ?_
   subst x m
   refine ⟨?_,?_,some d,rfl⟩
   ·have:=aF3 p (ds.take i)
    simp only [aA3]
    have B:(ds.take i).length<=i:=by simp;omega
    omega
   ·rw [q,List.filter_append,aE3]
    have:p d=true:=by rw [← hb];exact hp
    simp [this]
  ·rw [aF7 hp]
   refine ⟨?_,some d,rfl⟩
   rw [q,List.filter_append,aE3]
   have:p d=false:=by rw [← hb];simpa using hp
   simp [this]
 ·rintro ys e ⟨rfl,o,rfl⟩
  rw [ahf c,aG9]
  exact w
theorem af0 {α:Type} (xs:List α):xs.filter (fun _=>true)=xs:=by simp
theorem aj7 (f:PyData->PyData) (b:noIo (aal src e1)=true) (c:ds.length<=999999)
  (h:∀ d∈ds,∀ a:Bs,a.K=K->Ev a te (some (.st d) :: aal src e1) fun y i=>y=f d/\i=some (.st d) :: aal src e1)
  (g:R (ds.map f) e1):LcV K (none :: src) (aa1 0) tYes te ds e1 R :=
 aut f (fun _=>true) b c (fun d hd a j=>ad7 ⟨rfl,rfl,fun _=>h d hd a j⟩) (by rw [af0];exact g)
theorem anj {C:Frag} {α:Type} {xs:List α} {fa fb : α->PyData} (f : α->PyData) (p : α->Bool) (g:noIo (aal src e1)=true) (E:xs.length<=999999)
  (h:∀ x∈xs,∀ a:Bs,a.K=K->EvT a tif (some (.st (fa x)) :: some (.st (fb x)) :: aal src e1) fun b n=>b=p x/\n=some (.st (fa x)) :: some (.st (fb x)) :: aal src e1/\(b=true->Ev a te (some (.st (fa x)) :: some (.st (fb x)) :: aal src e1) fun y l=>y=f x/\l=some (.st (fa x)) :: some (.st (fb x)) :: aal src e1))
  (w:R ((xs.filter p).map f) e1):LcV K (none :: none :: src) (gTup C 2 (ae8 (aa1 0) (ae8 (aa1 1) gNil))) tif te (xs.map fun x => .tuple [fa x,fb x]) e1 R:=by
 have c:noIo (aal (none :: none :: src) e1)=true:=by
  show ((none :: none :: aal src e1).all fun s => !isIo s)=true
  rw [List.all_cons,List.all_cons]
  exact (aH2 _ _).mpr ⟨rfl,(aH2 _ _).mpr ⟨rfl,g⟩⟩
 refine ⟨fun i ys e=>ys=((xs.take i).filter p).map f/\∃ o o',e=stO o :: stO o' :: aal src e1,⟨by simp,none,none,rfl⟩,?_,?_,?_⟩
 ·rintro i ys e ⟨_,o,o',rfl⟩
  exact ⟨⟨isIo_stO.symm,ac0⟩,⟨isIo_stO.symm,ac0⟩,adn adh⟩
 ·rintro i d ys e hd ⟨rfl,o,o',rfl⟩ a A
  rw [aA5] at hd
  cases hx:xs[i]? with
  | none=>rw [hx] at hd;cases hd
  | some x =>
   rw [hx] at hd
   cases hd
   have hi:i < xs.length:=(aA1.mp hx).1
   have q:xs.take (i+1)=xs.take i ++ [x]:=by rw [aH5,hx];rfl
   refine apj rfl (agt (aaz (agt (aaz (anf ?_)))))
   show EvT a tif (some (.st (fa x)) :: some (.st (fb x)) :: aal src e1) _
   intro σ G H F Q I k
   refine h x (aA2 hx) a A σ G H F Q I fun b G' H' F' n j g' ⟨hb,B,u⟩=>k b G' H' F' n j g' ?_
   subst B
   by_cases hp:b=true
   ·rw [aF6 hp]
    intro σ G H F Q I k
    refine u hp σ G H F Q I fun v G' H' F' d' l j g' r ⟨z,m⟩=>k v G' H' F' d' l j g' r ?_
    subst z m
    refine ⟨?_,?_,some _,some _,rfl⟩
    ·have:=aF3 p (xs.take i)
     simp only [aA3]
     have D:(xs.take i).length<=i:=by simp;omega
     omega
    ·rw [q,List.filter_append,aE3]
     have:p x=true:=by rw [← hb];exact hp
     simp [this]
   ·rw [aF7 hp]
    refine ⟨?_,some _,some _,rfl⟩
    rw [q,List.filter_append,aE3]
    have:p x=false:=by rw [← hb];simpa using hp
    simp [this]
 ·rintro ys e ⟨rfl,o,o',rfl⟩
  rw [ahf c]
  simpa using w
end
section
variable {R:Sl->Prop}
theorem axl {g:Int->Int->Int} {i j:Int} (h:R (.st (.int (g i j)))):Op2 (rI0 fun i j => .int (g i j)) (.int i) (.int j) R:=fun G H c d Q gh a b k=>by
 cases a;cases b
 exact ⟨i,j,rfl,rfl,k _ _ _ _ _ (Out.refl gh (.int _)) h⟩
theorem axm {g:Int->Int->Bool} {i j:Int} (h:R (.st (.bool (g i j)))):Op2 (rI0 fun i j => .bl (g i j)) (.int i) (.int j) R:=fun G H c d Q gh a b k=>by
 cases a;cases b
 exact ⟨i,j,rfl,rfl,k _ _ _ _ _ (Out.refl gh (.bl _)) h⟩
theorem a0a {C:Int->Int->Prop} {g:Int->Int->Int} {i j:Int} (a:C i j) (h:R (.st (.int (g i j)))):Op2 (rI C fun i j => .int (g i j)) (.int i) (.int j) R:=fun G H d f Q gh b c k=>by
 cases b;cases c
 exact ⟨i,j,rfl,rfl,a,k _ _ _ _ _ (Out.refl gh (.int _)) h⟩
theorem axn {i j:Int} (h:R (.st (.bool (decide (i=j))))):Op2 rEq (.int i) (.int j) R:=fun G H c d Q gh a b k=>by
 cases a;cases b
 exact ar6 (k _ _ _ _ _ (Out.refl gh (.bl _)) h)
theorem axo {i j:Int} (h:R (.st (.bool (!decide (i=j))))):Op2 rNe (.int i) (.int j) R:=fun G H c d Q gh a b k=>by
 cases a;cases b
 exact azs (k _ _ _ _ _ (Out.refl gh (.bl _)) h)
theorem auu (i j:Str):decide (V.str i=V.str j)=decide (i=j):=by
 by_cases h:i=j
 ·subst h;simp
 ·simp [h]
theorem axp {i j:Str} (h:R (.st (.bool (!decide (i=j))))):Op2 rNe (.str i) (.str j) R:=fun G H c d Q gh a b k=>by
 cases a;cases b
 refine ⟨rfl,?_⟩
 rw [auu]
 exact k _ _ _ _ _ (Out.refl gh (.bl _)) h
theorem apo {x y:PyData} (a:aao x=true) (b:aao y=true) (hd:x.depth<=60) (h:R (.st (.bool (PyData.eqv x y)))):Op2 rEqD x y R:=fun G H f g Q gh c d k =>
 ⟨x,y,(c.rep a).same gh,(d.rep b).same gh,a,b,hd,k _ _ _ _ _ (Out.refl gh (.bl _)) h⟩
theorem aj8 {x y:PyData} (a:aao x=true) (b:aao y=true) (hd:x.depth<=60) (h:R (.st (.bool (!PyData.eqv x y)))):Op2 rNeD x y R:=fun G H f g Q gh c d k =>
 ⟨x,y,(c.rep a).same gh,(d.rep b).same gh,a,b,hd,k _ _ _ _ _ (Out.refl gh (.bl _)) h⟩
theorem apq {a:Bool} {x:PyData} {es:List PyData} (b:aao x=true) (c:plainDs es=true) (hd:x.depth<=60) (h:R (.st (.bool (if a then !es.any (fun z=>PyData.eqv z x) else es.any (fun z=>PyData.eqv z x))))):Op2 (rInD a) x (.list es) R:=fun G H g i Q gh d f k =>
 ⟨x,es,(d.rep b).same gh,.inl ((f.rep (by simpa [aao] using c)).same gh),b,c,hd,k _ _ _ _ _ (Out.refl gh (.bl _)) h⟩
theorem auv {a:Bool} {x:PyData} {es:List PyData} (b:aao x=true) (c:plainDs es=true) (hd:x.depth<=60) (h:R (.st (.bool (if a then !es.any (fun z=>PyData.eqv z x) else es.any (fun z=>PyData.eqv z x))))):Op2 (rInD a) x (.tuple es) R:=fun G H g i Q gh d f k =>
 ⟨x,es,(d.rep b).same gh,.inr ((f.rep (by simpa [aao] using c)).same gh),b,c,hd,k _ _ _ _ _ (Out.refl gh (.bl _)) h⟩
theorem Rps.at {G:Hp} {vs:List V} {ds:List PyData} {i:Int} {d:PyData} (r:Rps G vs ds) (h:atI ds i=some d):∃ v,atI vs i=some v/\Rp G v d:=by
 unfold atI at h ⊢
 rw [r.length]
 cases e:ixN ds.length i with
 | none=>rw [e] at h;cases h
 | some j =>
  rw [e] at h
  exact r.get h
theorem axq {K:Frag} {ds:List PyData} {i:Int} {d:PyData} (hd:atI ds i=some d) (h:R (.st d)):Op2 (adj K) (.list ds) (.int i) R:=fun G H g j Q gh c f k=>by
 cases f
 cases c with
 | lst ha rs =>
  obtain ⟨v,a,b⟩:=rs.at hd
  exact afu (gh _ _ ha) a (k _ _ _ _ _ (Out.refl gh b) h)
theorem axr {K:Frag} {ds:List PyData} {i:Int} {d:PyData} (hd:atI ds i=some d) (h:R (.st d)):Op2 (adj K) (.tuple ds) (.int i) R:=fun G H g j Q gh c f k=>by
 cases f
 cases c with
 | tup ha rs =>
  obtain ⟨v,a,b⟩:=rs.at hd
  exact aue (gh _ _ ha) a (k _ _ _ _ _ (Out.refl gh b) h)
def isNone:PyData->Bool
 | .none=>true
 | _=>false
theorem axs {G:Hp} {v:V} {x:PyData} (r:Rp G v x):decide (v=.non)=isNone x:=by cases r <;> rfl
theorem axt {x:PyData} (h:R (.st (.bool (isNone x)))):Op2 rIsN x .none R:=fun G H c d Q gh a b k=>by
 cases b
 refine ⟨rfl,?_⟩
 rw [axs a]
 exact k _ _ _ _ _ (Out.refl gh (.bl _)) h
theorem axu {xs ys:List PyData} (a:xs.length+ys.length<=1000000) (h:R (.own (OL (xs ++ ys)))):Op2 rCat (.list xs) (.list ys) R:=fun G H f g Q gh c d k=>by
 cases c with
 | lst ha ra =>
  cases d with
  | lst hb rb =>
   refine azv (gh _ _ ha) (gh _ _ hb) ?_ fun p b=>k _ _ _ _ _ (Out.newL gh b (ra.append rb)) h
   rw [ra.length,rb.length];exact aG6 (big a)
theorem axv {xs:List PyData} {n:Int} (a : -(2 ^ 63)<=n) (c:n < 2 ^ 63) (d:xs.length * n.toNat<=1000000) (h:R (.own (OL (List.replicate n.toNat xs).flatten))):Op2 rRep (.list xs) (.int n) R:=fun G H i j Q gh f g k=>by
 cases g
 cases f with
 | lst ha ra =>
  refine ⟨_,n,_,rfl,rfl,gh _ _ ha,a,c,?_,fun p b=>k _ _ _ _ _ (Out.newL gh b (ra.rep _)) h⟩
  rw [ra.length];exact aG6 (big d)
theorem auw {K:Frag} {xs:List PyData} (h:R (.st (.int xs.length))):OpA (rLen K) [.list xs] R:=fun G H vs Q gh rs k=>by
 cases rs with
 | cons r t =>
  cases t
  cases r with
  | lst ha ra =>
   refine ao7 (gh _ _ ha) ?_
   rw [ra.length]
   exact k _ _ _ _ _ (Out.refl gh (.int _)) h
theorem aux {K:Frag} {xs:List PyData} (h:R (.st (.int xs.length))):OpA (rLen K) [.tuple xs] R:=fun G H vs Q gh rs k=>by
 cases rs with
 | cons r t =>
  cases t
  cases r with
  | tup ha ra =>
   refine aw1 (gh _ _ ha) ?_
   rw [ra.length]
   exact k _ _ _ _ _ (Out.refl gh (.int _)) h
theorem auy {i j:Int} (h:R (.st (.int (if j > i then j else i)))):OpA al0 [.int i,.int j] R:=fun G H vs Q gh rs k=>by
 obtain rfl:vs=[V.int i,V.int j]:=Rps.ints_inv (ns:=[i,j]) rs
 exact ao8 (k _ _ _ _ _ (Out.refl gh (.int _)) h)
theorem auz {i j:Int} (h:R (.st (.int (if j < i then j else i)))):OpA al1 [.int i,.int j] R:=fun G H vs Q gh rs k=>by
 obtain rfl:vs=[V.int i,V.int j]:=Rps.ints_inv (ns:=[i,j]) rs
 exact ao9 (k _ _ _ _ _ (Out.refl gh (.int _)) h)
theorem au0 {b:Bool} (h:R (.st (.int (if b then 1 else 0)))):OpA al2 [.bool b] R:=fun G H vs Q gh rs k=>by
 cases rs with
 | cons r t =>
  cases t;cases r
  exact apa (k _ _ _ _ _ (Out.refl gh (.int _)) h)
theorem acd {K:Frag} {ns:List Int} (a:ns ≠ []) (h:∀ m,aed ns m->R (.st (.int m))):OpA (aha K) [.list (ns.map .int)] R:=fun G H vs Q gh rs k=>by
 cases rs with
 | cons r t =>
  cases t
  cases r with
  | lst ha ra =>
   have:=Rps.ints_inv ra
   subst this
   exact ⟨_,ns,rfl,.inl (SqL.of (gh _ _ ha)),a,fun m hm=>k _ _ _ _ _ (Out.refl gh (.int _)) (h m hm)⟩
theorem ank {K:Frag} {ns:List Int} (a:ns ≠ []) (h:∀ m,aqt ns m->R (.st (.int m))):OpA (al4 K) [.list (ns.map .int)] R:=fun G H vs Q gh rs k=>by
 cases rs with
 | cons r t =>
  cases t
  cases r with
  | lst ha ra =>
   have:=Rps.ints_inv ra
   subst this
   exact ⟨_,ns,rfl,.inl (SqL.of (gh _ _ ha)),a,fun m hm=>k _ _ _ _ _ (Out.refl gh (.int _)) (h m hm)⟩
end
section
variable {B:Bs} {env:En} {QO:Sl->En->Prop} {Q':PyData->En->Prop} {te tl th:TE} {K:Frag}
def cutD (xs:List PyData) (lo hi:Option Int):List PyData:=(xs.drop (HT.sIx xs.length 0 lo)).take (HT.sIx xs.length xs.length hi - HT.sIx xs.length 0 lo)
def EvOp (B:Bs) (t:TO) (env:En) (Q':Option Int->En->Prop):Prop:=∀ (σ:St) (G H:Hp) (F:Nat->Addr->Prop) (Q:Option Int->Hp->Prop),VI B G H σ env F->(∀ o G' H' F' env',VI B G' H' σ env' F'->Same G G'->Q' o env'->Q o H')->t σ H Q
theorem au1 {a:Option Int->En->Prop} (q:a none env):EvOp B aow env a:=fun σ G H F Q I k=>k none G H F env I (Same.refl _) q
theorem au2 {a:Option Int->En->Prop} (h:Ev B te env fun d e=>∃ i,d=.int i/\a (some i) e):EvOp B (awc te) env a:=fun σ G H F Q I k =>
 h σ G H F _ I fun v c b j d m o f g n=>by
  obtain ⟨i,l,q⟩:=n
  subst l;cases g
  exact ⟨i,rfl,k _ c b j m o f q⟩
theorem a1w {i:Int} {R:Int->Prop} (h:R i):∃ j,PyData.int i=.int j/\R j:=⟨i,rfl,h⟩
theorem akw {tl j:TO} (h:Ev B te env fun d l=>∃ ds,d=.list ds/\EvOp B tl l fun lo m=>EvOp B j m fun hi g=>QO (.own (OL (cutD ds lo hi))) g):EvO B (tSl (rSlL K) te tl j) env QO:=fun σ G H F Q I k =>
 h σ G H F _ I fun v r n y d l E u x A=>by
  obtain ⟨ds,z,q⟩:=A
  subst z
  cases x with
  | @lst a vs _ ha rs =>
   refine q σ r n y _ E fun lo J H2 F2 m s f L=>L σ J H2 F2 _ s fun hi M H3 C g b i D=>?_
   have c:=rs.same (f.trans i)
   refine ⟨a,vs,rfl,SqL.of (b.gh _ _ (i _ _ (f _ _ ha))),fun p w=>?_⟩
   have e:cutV vs lo hi=(vs.drop (HT.sIx ds.length 0 lo)).take (HT.sIx ds.length ds.length hi - HT.sIx ds.length 0 lo):=by unfold cutV;rw [rs.length]
   have o:=Out.newL (xs:=cutV vs lo hi) (ds:=cutD ds lo hi) b.gh w (by rw [e];exact (c.drop _).take _)
   exact k _ _ _ C _ _ g (b.out o).1 (u.trans (f.trans (i.trans o.gg))) (b.out o).2 D
theorem au3 {tl c:TO} (h:Ev B te env fun d b=>∃ ds,d=.list ds/\EvOp B tl b fun lo j=>EvOp B c j fun hi l=>Q' (.list (cutD ds lo hi)) l):Ev B (tSl (rSlL K) te tl c) env Q':=abt (akw (by
 intro σ G H F Q I k
 refine h σ G H F Q I fun v G' H' F' d b m f g ⟨ds,i,q⟩=>k v G' H' F' d b m f g ⟨ds,i,?_⟩
 intro σ G H F Q I k
 refine q σ G H F Q I fun lo G' H' F' e a g' q=>k lo G' H' F' e a g' ?_
 intro σ G H F Q I k
 exact q σ G H F Q I fun hi G' H' F' e a g' q=>k hi G' H' F' e a g' (adw q)))
end
def ahg:PyData->Bool
 | .none | .bool _ | .int _ | .str _=>true
 | _=>false
theorem apr {G G':Hp} {v:V} {d:PyData} (r:Rp G v d) (h:ahg d=true):Rp G' v d:=by
 cases r with
 | non=>exact .non
 | bl b=>exact .bl b
 | int i=>exact .int i
 | str x=>exact .str x
 | _=>simp [ahg] at h
def Has (env:En) (i:Nat) (A:Own):Prop:=env[i]?=some (some (.own A))\/env[i]?=some (some (.io A))
section
variable {B:Bs} {env:En} {QO:Sl->En->Prop} {Q':PyData->En->Prop} {QT:Bool->En->Prop} {QE:En->Prop} {te ta tb tk:TE} {K:Frag} {i:Nat}
theorem VI.has {G H:Hp} {σ:St} {F:Nat->Addr->Prop} {A:Own} (I:VI B G H σ env F) (h:Has env i A):∃ v,σ[i]?=some (some v)/\A.P G H v (F i):=by
 rcases h with h | h
 ·obtain ⟨v,a,q⟩:=I.sl i _ h;exact ⟨v,a,q.1⟩
 ·obtain ⟨v,a,q⟩:=I.sl i _ h;exact ⟨v,a,q.1⟩
theorem VI.moment {G c b H H3:Hp} {σ:St} {F:Nat->Addr->Prop} {v:V} {s:Sl} {Fv:Addr->Prop} (I:VI B G H σ env F) (g:Same G c) (o:Out c H v b H3 s Fv):∃ f,Same G f/\VI B f H3 σ env F:=by
 refine ⟨fun a=>if H a=none then b a else G a,fun a u e=>?_,I.grow (fun a u e=>?_) (fun a u e=>?_) o.hh (fun a u e=>?_) fun a ks e=>?_⟩
 ·show (if H a=none then b a else G a)=some u;rw [aF7 (by rw [I.gh a u e];simp)];exact e
 ·rw [aF7 (by rw [I.gh a u e];simp)];exact e
 ·by_cases h:H a=none
  ·rw [aF6 h] at e;exact o.gh a u e
  ·rw [aF7 h] at e;exact o.hh _ _ (I.gh a u e)
 ·by_cases h:H a=none
  ·exact .inr h
  ·rw [aF7 h] at e;exact .inl e
 ·have f1:FT c H:=fun a ks e=>g _ _ (I.ft a ks e)
  by_cases h:H a=none
  ·rw [aF6 h];exact o.ft f1 a ks e
  ·rw [aF7 h]
   obtain ⟨u,d⟩:=aqw h
   have:=o.hh _ _ d
   rw [e] at this
   exact I.ft a ks (by rw [d,← this])
theorem a0b {r:List V->Hp->VK->Prop} {A:Own} {dx:PyData} (f:Has env i A) (a:Frz A dx) (h:OpA r [dx] fun s=>∃ d,s=.st d/\ahg d=true/\Q' d env):Ev B (tCB r (aa6 (tVar i) tNil)) env Q':=fun σ G H F Q I k=>by
 obtain ⟨v,g,ap⟩:=I.has f
 refine ⟨v,g,h (jn G H (F i)) H [v] Q (aqx I.gh) (.cons (a _ _ _ _ ap (I.fg i) I.gh) .nil) fun w m H3 s Fv o ⟨d,es,hs,l⟩=>?_⟩
 subst es
 obtain ⟨c,j,b⟩:=I.moment (ab2 (I.fg i)) o
 exact k w c H3 F d env b j (apr o.ok.1 hs) l
theorem x_sc {d:PyData} {R:PyData->Prop} (a:ahg d=true) (h:R d):∃ d',Sl.st d=.st d'/\ahg d'=true/\R d':=⟨d,rfl,a,h⟩
theorem a0c {f:List PyData} (C:Has env i (OL f)) (h:Ev B tb env fun y c=>∃ ds k d,Has c i (OL ds)/\y=.int k/\atI ds k=some d/\Q' d c):Ev B (tOp (adj K) (tVar i) tb) env Q':=fun σ G H F Q I k=>by
 obtain ⟨v,n,_⟩:=I.has C
 refine ⟨v,n,h σ G H F _ I fun u A H2 F2 y c m r x ⟨ds,j,d,s,p,l,q⟩=>?_⟩
 subst p
 cases x
 obtain ⟨D,b,a,vs,z,ha,rs,_⟩:=m.has s
 rw [n] at b;cases b
 subst z
 obtain ⟨w,o,g⟩:=rs.at l
 exact afu ha o (k w A H2 F2 d c m r g q)
theorem VI.upd1 {G H:Hp} {σ:St} {F:Nat->Addr->Prop} {s:Sl} {A A':Own} {a:Addr} {o:HO} (I:VI B G H σ env F) (e:env[i]?=some (some s)) (hs:s=.own A\/s=.io A) (d : σ[i]?=some (some (.ref a))) (hf:∀ b,F i b ↔ b=a) (f:A'.P G (upd H a o) (.ref a) (· = a)) (g:∀ xs,o ≠ .tup xs:=by intro _ z;cases z) :
  VI B G (upd H a o) σ (env.set i (some (reS s A'))) (putF F i (· = a)):=by
 refine I.change (A:=A') i e d (fun b u hb c=>by rw [aag (fun z=>hb ((hf b).mpr z))];exact c) (fun b u c=>?_) (fun b z=>⟨.inl ((hf b).mpr z),by rw [z];exact ⟨_,aaj⟩⟩) f (fun b ks e=>?_) ?_
 ·by_cases z:b=a
  ·rw [z];exact ⟨_,aaj⟩
  ·rw [aag z];exact ⟨u,c⟩
 ·by_cases z:b=a
  ·subst z;rw [aaj] at e;exact absurd (aC6 e) (g _)
  ·rw [aag z] at e;exact I.ft b ks e
 ·rcases hs with rfl | rfl
  ·exact .inl ⟨rfl,A,rfl⟩
  ·exact .inr ⟨rfl,A,rfl⟩
theorem ash {j:List PyData} (A:Has env i (OL j)) (h:Ev B te env fun y f=>∃ s ds,f[i]?=some (some s)/\(s=.own (OL ds)\/s=.io (OL ds))/\ds.length<=999999/\Q' .none (f.set i (some (reS s (OL (ds ++ [y])))))):Ev B (tBM K "list" afm (tVar i) (aa6 te tNil)) env Q':=fun σ G H F Q I k=>by
 obtain ⟨v,l,a,vs,x,ha,rs,_⟩:=I.has A
 subst x
 refine ⟨_,l,.inl ⟨rfl,_,SqL.of ha⟩,h σ G H F _ I fun u z H2 F2 y f n p w ⟨s,ds,es,hs,D,q⟩=>?_⟩
 have r:Has f i (OL ds):=by rcases hs with rfl | rfl;exact .inl es;exact .inr es
 obtain ⟨C,d,E,o,g,m,c,hf⟩:=n.has r
 rw [l] at d;cases d;cases g
 refine agj m (by rw [c.length];exact big (by omega)) ?_
 exact k _ z _ _ _ _ (n.upd1 (A':=OL (ds ++ [y])) es hs l hf ⟨a,_,rfl,aaj,c.append (.cons w .nil),fun b=>Iff.rfl⟩) p .non q
theorem aqz {a:List PyData} (l:Has env i (OL a)) (h:Ev B te env fun y b=>∃ ds,b[i]?=some (some (.own (OL ds)))/\ds.length<=999999/\Q' .none (b.set i (some (.own (OL (ds ++ [y])))))):Ev B (tBM K "list" afm (tVar i) (aa6 te tNil)) env Q' :=
 ash l fun σ G H F Q I k=>h σ G H F Q I fun v G' H' F' d e j g r ⟨ds,c,f,q⟩=>k v G' H' F' d e j g r ⟨_,ds,c,.inl rfl,f,q⟩
theorem aq0 {g:List PyData} (A:Has env i (OL g)) (h:Ev B te env fun y n=>∃ ds ys,y=.list ys/\n[i]?=some (some (.own (OL ds)))/\ds.length+ys.length<=1000000/\Q' .none (n.set i (some (.own (OL (ds ++ ys)))))):Ev B (tBM K "list" ajl (tVar i) (aa6 te tNil)) env Q':=fun σ G H F Q I k=>by
 obtain ⟨v,l,a,vs,x,ha,rs,_⟩:=I.has A
 subst x
 refine ⟨_,l,.inl ⟨rfl,_,SqL.of ha⟩,h σ G H F _ I fun u z H2 F2 y n j s w ⟨ds,ys,p,es,r,q⟩=>?_⟩
 subst p
 cases w with
 | lst hb rb =>
  obtain ⟨C,d,D,o,f,m,c,hf⟩:=j.has (.inl es)
  rw [l] at d;cases d;cases f
  refine ar7 m (j.gh _ _ hb) (by rw [c.length,rb.length];exact aG6 (big r)) ?_
  exact k _ z _ _ _ _ (j.upd1 (A':=OL (ds ++ ys)) es (.inl rfl) l hf ⟨a,_,rfl,aaj,c.append rb,fun b=>Iff.rfl⟩) s .non q
theorem au4 {m:List PyData} (O:Has env i (OL m)) (h:Ev B te env fun y g=>∃ s ds j n d,y=.int j/\g[i]?=some (some s)/\(s=.own (OL ds)\/s=.io (OL ds))/\-(2 ^ 63)<=j/\j < 2 ^ 63/\seqIndex? j ds.length=some n/\ds[n]?=some d/\Q' d (g.set i (some (reS s (OL (ds.eraseIdx n)))))):Ev B (tBM K "list" ain (tVar i) (aa6 te tNil)) env Q':=fun σ G H F Q I k=>by
 obtain ⟨v,o,a,vs,M,ha,rs,_⟩:=I.has O
 subst M
 refine ⟨_,o,.inl ⟨rfl,_,SqL.of ha⟩,h σ G H F _ I fun u N H2 F2 y g x D J ⟨s,ds,j,n,d,C,es,hs,b1,L,hn,hd,q⟩=>?_⟩
 subst C
 cases J
 have E:Has g i (OL ds):=by rcases hs with rfl | rfl;exact .inl es;exact .inr es
 obtain ⟨P,f,R,A,l,r,c,hf⟩:=x.has E
 rw [o] at f;cases f;cases l
 obtain ⟨w,z,p⟩:=c.get hd
 refine at5 r b1 L (by rw [c.length];exact hn) z ?_
 exact k _ N _ _ _ _ (x.upd1 (A':=OL (ds.eraseIdx n)) es hs o hf ⟨a,_,rfl,aaj,c.erase n,fun b=>Iff.rfl⟩) D p q
theorem au5 {d:PyData} {m:List PyData} (M:Has env i (OL m)) (h:Ev B tk env fun y g=>∃ s ds k j,y=.int k/\g[i]?=some (some s)/\(s=.own (OL ds)\/s=.io (OL ds))/\ixN ds.length k=some j/\QE (g.set i (some (reS s (OL (ds.set j d)))))):EvG B (gSub (tVar i) tk aqh) (.st d) env QE:=fun σ G H F v Fv Q I x k=>by
 obtain ⟨D,_⟩:=x.ok
 obtain ⟨O,o,a,vs,K,ha,rs,_⟩:=I.has M
 subst K
 refine ⟨_,o,h σ G H F _ I fun u L H2 F2 y g r w J ⟨s,ds,n,j,C,es,hs,z,q⟩=>?_⟩
 subst C
 cases J
 have E:Has g i (OL ds):=by rcases hs with rfl | rfl;exact .inl es;exact .inr es
 obtain ⟨N,f,P,A,l,p,c,hf⟩:=r.has E
 rw [o] at f;cases f;cases l
 refine ao6 p (by rw [c.length];exact z) ?_
 exact k _ L _ _ _ (r.upd1 (A':=OL (ds.set j d)) es hs o hf ⟨a,_,rfl,aaj,c.set (D.same w) j,fun b=>Iff.rfl⟩) w q
theorem aj9 {t:TS} {D':VEnds} {A:Own} {d:PyData} (i:Nat) (e:env[i]?=some (some (.own A))) (f:Frz A d) (h:EvS B t D' (env.set i (some (.st d)))):EvS B t D' env:=fun σ G H F D I r=>by
 obtain ⟨v,b,a,g,J⟩:=I.frz e f
 exact h σ _ H _ D J (r.later g)
end
def tyD:PyData->String
 | .none => "NoneType" | .bool _ => "bool" | .int _ => "int" | .str _ => "str" | .list _ => "list" | .tuple _ => "tuple" | .dict _ => "dict"
def aew (T:String):Prop:=T = "int"\/T = "bool"\/T = "tuple"\/T = "list"\/T = "str"\/T = "dict"
def isiD (T:String) (d:PyData):Bool:=tyD d == T || (T == "int" && tyD d == "bool")
theorem a1x {K:Frag} {H:Hp} {v:V} {d:PyData} (r:Rp H v d):TyOf K H v (.type (tyD d)):=by
 cases r with
 | non=>exact .non
 | bl b=>exact .bl b
 | int i=>exact .int i
 | str x=>exact .str x
 | lst h _=>exact .lst h
 | tup h _=>exact .tup h
 | dk h _ _=>exact .dK h
 | dt h _ _=>exact .dT h
theorem a1y {K:Frag} {T:String} (h:aew T) (d:PyData):kitOne K (.type (tyD d)) (.type T)=some (isiD T d):=by
 rcases h with rfl | rfl | rfl | rfl | rfl | rfl
 ·cases d with
  | none=>exact ah8
  | bool _=>exact amz
  | int _=>exact aoi
  | str _=>exact aok
  | list _=>exact am7
  | tuple _=>exact alo
  | dict _=>exact am9
 ·cases d with
  | none=>exact aht
  | bool _=>exact alf
  | int _=>exact am1
  | str _=>exact am4
  | list _=>exact alk
  | tuple _=>exact aj3
  | dict _=>exact alq
 ·cases d with
  | none=>exact agq
  | bool _=>exact aj1
  | int _=>exact ali
  | str _=>exact alj
  | list _=>exact aj2
  | tuple _=>exact aiv
  | dict _=>exact aj6
 ·cases d with
  | none=>exact ahu
  | bool _=>exact alg
  | int _=>exact am2
  | str _=>exact am5
  | list _=>exact alm
  | tuple _=>exact aj4
  | dict _=>exact alr
 ·cases d with
  | none=>exact ah9
  | bool _=>exact am0
  | int _=>exact aoj
  | str _=>exact aol
  | list _=>exact am8
  | tuple _=>exact alp
  | dict _=>exact ana
 ·cases d with
  | none=>exact ahv
  | bool _=>exact alh
  | int _=>exact am3
  | str _=>exact am6
  | list _=>exact aln
  | tuple _=>exact aj5
  | dict _=>exact als
section
variable {B:Bs} {env:En} {QO:Sl->En->Prop} {Q':PyData->En->Prop} {QT:Bool->En->Prop} {QE:En->Prop} {te ta tb tk:TE} {K:Frag} {i:Nat}
theorem a0d {T:String} (g:aew T) (h:Ev B te env fun d e=>Q' (.bool (isiD T d)) e):Ev B (tCB (rIsi K) (aa6 te (aa6 (tC (.ty T)) tNil))) env Q':=fun σ G H F Q I k =>
 h σ G H F _ I fun v f b l d m a i j c=>⟨v,T,_,_,rfl,a1x (j.same a.gh),a1y g d,k _ f b l _ m a i (.bl _) c⟩
theorem a0e:aew "int":=.inl rfl
theorem axw:aew "bool":=.inr (.inl rfl)
theorem au6:aew "tuple":=.inr (.inr (.inl rfl))
theorem axx:aew "list":=.inr (.inr (.inr (.inl rfl)))
theorem au7 {A:Own} {D':VEnds} (e:env[i]?=some (some (.own A))) (q:D'.rt (.own A) (env.set i none)):EvS B (tRet (tVar i)) D' env:=apk (auh e q)
theorem a1z {n m:Nat} {P:Prop} (h:n<=m) (q:P):n<=m/\P:=⟨h,q⟩
theorem a0f {ds:List PyData} {a:En} {R:List PyData->Prop} (e:a[i]?=some (some (.own (OL ds)))) (b:ds.length<=999999) (q:R ds):∃ ds,a[i]?=some (some (.own (OL ds)))/\ds.length<=999999/\R ds:=⟨ds,e,b,q⟩
theorem a10 {ds:List PyData} {d:PyData} {k:Int} {b:En} {R:PyData->Prop} (c:Has b i (OL ds)) (h:atI ds k=some d) (q:R d):∃ ds a d,Has b i (OL ds)/\PyData.int k=.int a/\atI ds a=some d/\R d:=⟨ds,k,d,c,rfl,h,q⟩
theorem aq1 {ds:List PyData} {k:Int} {j:Nat} {b:En} {R:Sl->List PyData->Nat->Prop} (e:b[i]?=some (some (.own (OL ds)))) (c:ixN ds.length k=some j) (q:R (.own (OL ds)) ds j):∃ s ds a j,PyData.int k=.int a/\b[i]?=some (some s)/\(s=.own (OL ds)\/s=.io (OL ds))/\ixN ds.length a=some j/\R s ds j:=⟨_,ds,k,j,rfl,e,.inl rfl,c,q⟩
theorem a0g {ds:List PyData} {k:Int} {j:Nat} {b:En} {R:Sl->List PyData->Nat->Prop} (e:b[i]?=some (some (.io (OL ds)))) (c:ixN ds.length k=some j) (q:R (.io (OL ds)) ds j):∃ s ds a j,PyData.int k=.int a/\b[i]?=some (some s)/\(s=.own (OL ds)\/s=.io (OL ds))/\ixN ds.length a=some j/\R s ds j:=⟨_,ds,k,j,rfl,e,.inr rfl,c,q⟩
theorem x_rt {A:Own} {a:En} {R:Own->Prop} (e:a[0]?=some (some (.io A))) (q:R A):∃ A',a[0]?=some (some (.io A'))/\R A':=⟨A,e,q⟩
theorem x_st {b:Bool} {R:Bool->Prop} (h:R b):∃ c,Sl.st (.bool b)=.st (.bool c)/\R c:=⟨b,rfl,h⟩
theorem au8 {ds:List PyData} {R:Bool->Prop} (h:R (!ds.isEmpty)):∃ k,TruD (.list ds) k/\R k:=⟨_,rfl,h⟩
theorem lenP {f:VP} {n:Nat} {vs:List V} {H:Hp} {Q:VK} {E:XK} (h:spP K f vs H Q E) (hf:∀ ss a,f ss a->ss.length=n):vs.length=n:=by
 obtain ⟨G,ss,a,_,_,b,q,_⟩:=h
 rw [b.length];exact hf ss a q
theorem lenI {f:VIo} {n:Nat} {vs:List V} {H:Hp} {Q:VK} {E:XK} (h:spI K f vs H Q E) (hf:∀ A ss a,f A ss a->ss.length+1=n):vs.length=n:=by
 obtain ⟨v0,c,G,R,A,ss,F0,a,rfl,_,_,_,_,_,_,b,q,_⟩:=h
 rw [aE4,b.length];exact hf A ss a q
theorem aiy {f:VIo} {t:TA} {E:XK} {A:Own} (d:env[i]?=some (some (.io A))) (h:EvA B t env fun ds a=>a[i]?=some (some (.io A))/\f A (ds.map Sl.st) fun A' s=>QO s (a.set i (some (.io A')))):EvO B (acf (spI K f) [] E (aa6 (tVar i) t)) env QO :=
 aku ⟨_,d⟩ fun σ G H F Q I k=>h σ G H F Q I fun vs G' H' F' ds a c g r ⟨b,q⟩=>k vs G' H' F' ds a c g r ⟨_,A,b,.inr rfl,q⟩
theorem aiz {f:VIo} {t:TA} {E:XK} {A:Own} (d:env[i]?=some (some (.own A))) (h:EvA B t env fun ds a=>a[i]?=some (some (.own A))/\f A (ds.map Sl.st) fun A' s=>QO s (a.set i (some (.own A')))):EvO B (acf (spI K f) [] E (aa6 (tVar i) t)) env QO :=
 aku ⟨_,d⟩ fun σ G H F Q I k=>h σ G H F Q I fun vs G' H' F' ds a c g r ⟨b,q⟩=>k vs G' H' F' ds a c g r ⟨_,A,b,.inl rfl,q⟩
theorem asi {f:VIo} {t:TA} {E:XK} {A:Own} (b:env[i]?=some (some (.io A))) (h:EvA B t env fun ds a=>a[i]?=some (some (.io A))/\f A (ds.map Sl.st) fun A' s=>FQ s fun d=>Q' d (a.set i (some (.io A')))):Ev B (acf (spI K f) [] E (aa6 (tVar i) t)) env Q':=abt (aiy b h)
theorem asj {f:VIo} {t:TA} {E:XK} {A:Own} (b:env[i]?=some (some (.own A))) (h:EvA B t env fun ds a=>a[i]?=some (some (.own A))/\f A (ds.map Sl.st) fun A' s=>FQ s fun d=>Q' d (a.set i (some (.own A')))):Ev B (acf (spI K f) [] E (aa6 (tVar i) t)) env Q':=abt (aiz b h)
theorem a11 {P Q:Prop} (h:P) (q:Q):P/\Q:=⟨h,q⟩
theorem a12 {src:List (Option Nat)} {j:TI} {g:TG} {f:TT} (nd:(src.filterMap id).Nodup) (h:EvI B j env fun ds i=>LcV B.K src g f te ds i fun ys n=>Q' (.list ys) n):Ev B (tLC src j g f te) env Q':=abt (asg nd fun σ G H F R I k=>h σ G H F R I fun J G' H' F' ds i l g' it ⟨m,a,b,c,d⟩=>k J G' H' F' ds i l g' it ⟨m,a,b,c,fun ys e q=>adw (d ys e q)⟩)
end
end VL
namespace VL
open PySem L2
section
variable {B:Bs} {QE:En->Prop} {Q':PyData->En->Prop} {s:Sl} {r:En} {A:Own} {d:PyData} {x0 x1 x2 x3 x4 x5 x6 x7 x8 x9 x10 x11 x12 x13 x14 x15 x16 x17 x18 x19 x20 x21 x22 x23 x24 x25:Option Sl}
theorem a0h (h:QE (x0 :: some s :: r)):EvG B (aa1 1) s (x0 :: x1 :: r) QE:=aaz h
theorem a0i (h:QE (x0 :: x1 :: some s :: r)):EvG B (aa1 2) s (x0 :: x1 :: x2 :: r) QE:=aaz h
theorem a0j (h:QE (x0 :: x1 :: x2 :: some s :: r)):EvG B (aa1 3) s (x0 :: x1 :: x2 :: x3 :: r) QE:=aaz h
theorem a0k (h:QE (x0 :: x1 :: x2 :: x3 :: some s :: r)):EvG B (aa1 4) s (x0 :: x1 :: x2 :: x3 :: x4 :: r) QE:=aaz h
theorem a0l (h:QE (x0 :: x1 :: x2 :: x3 :: x4 :: some s :: r)):EvG B (aa1 5) s (x0 :: x1 :: x2 :: x3 :: x4 :: x5 :: r) QE:=aaz h
theorem a0m (h:QE (x0 :: x1 :: x2 :: x3 :: x4 :: x5 :: some s :: r)):EvG B (aa1 6) s (x0 :: x1 :: x2 :: x3 :: x4 :: x5 :: x6 :: r) QE:=aaz h
theorem a0n (h:QE (x0 :: x1 :: x2 :: x3 :: x4 :: x5 :: x6 :: some s :: r)):EvG B (aa1 7) s (x0 :: x1 :: x2 :: x3 :: x4 :: x5 :: x6 :: x7 :: r) QE:=aaz h
theorem a0o (h:QE (x0 :: x1 :: x2 :: x3 :: x4 :: x5 :: x6 :: x7 :: some s :: r)):EvG B (aa1 8) s (x0 :: x1 :: x2 :: x3 :: x4 :: x5 :: x6 :: x7 :: x8 :: r) QE:=aaz h
theorem a0p (h:QE (x0 :: x1 :: x2 :: x3 :: x4 :: x5 :: x6 :: x7 :: x8 :: some s :: r)):EvG B (aa1 9) s (x0 :: x1 :: x2 :: x3 :: x4 :: x5 :: x6 :: x7 :: x8 :: x9 :: r) QE:=aaz h
theorem axy (h:QE (x0 :: x1 :: x2 :: x3 :: x4 :: x5 :: x6 :: x7 :: x8 :: x9 :: some s :: r)):EvG B (aa1 10) s (x0 :: x1 :: x2 :: x3 :: x4 :: x5 :: x6 :: x7 :: x8 :: x9 :: x10 :: r) QE:=aaz h
end
end VL
namespace Gr
structure Ring (T:Int->Int->Prop) (a:Int) (k:Nat) (far:Int->Option Nat) (edge:List Int):Prop where
 lab:∀ v d,far v=some d ↔ (Dist T a v d/\d<=k)
 edg:∀ v,v∈edge ↔ Dist T a v k
structure Mid (T:Int->Int->Prop) (k:Nat) (far0:Int->Option Nat) (edge:List Int) (done:Int->Prop) (far:Int->Option Nat) (beyond:List Int):Prop where
 old:∀ v d,far0 v=some d->far v=some d
 new:∀ v,v∈beyond ↔ (far0 v=none/\far v ≠ none)
 val:∀ v d,far0 v=none->far v=some d->d=k+1/\∃ u,u∈edge/\T u v
 dn:∀ u w,done u->T u w->far w ≠ none
def label (far:Int->Option Nat) (w:Int) (d:Nat):Int->Option Nat:=fun v=>if v=w then some d else far v
theorem label_same {far:Int->Option Nat} {w:Int} {d:Nat}:label far w d w=some d:=aF6 rfl
theorem label_ne {far:Int->Option Nat} {w v:Int} {d:Nat} (h:v ≠ w):label far w d v=far v:=aF7 h
variable {T:Int->Int->Prop} {a:Int} {k:Nat} {far0 far:Int->Option Nat} {edge beyond:List Int} {done:Int->Prop}
theorem Ring.start:Ring T a 0 (label (fun _=>none) a 0) [a]:=by
 refine ⟨fun v d=>?_,fun v=>?_⟩
 ·by_cases h:v=a
  ·subst h
   rw [label_same]
   constructor
   ·intro e;cases e;exact ⟨Dist.self T v,aA6 _⟩
   ·rintro ⟨h,_⟩;rw [h.uniq (Dist.self T v)]
  ·rw [label_ne h]
   constructor
   ·intro e;cases e
   ·rintro ⟨b,c⟩
    have:d=0:=by omega
    subst this
    cases b.1
    exact absurd rfl h
 ·simp only [aC2]
  constructor
  ·rintro rfl;exact Dist.self T v
  ·intro h;cases h.1;rfl
theorem Mid.start:Mid T k far0 edge (fun _=>False) far0 [] :=
 ⟨fun v d h=>h,fun v=>⟨fun h=>by simp at h,fun h=>absurd h.1 h.2⟩,fun v d h g=>(by rw [h] at g;cases g),fun u w h=>h.elim⟩
theorem Mid.add (m:Mid T k far0 edge done far beyond) {u w:Int} (c:u∈edge) (t:T u w) (a:far w=none):Mid T k far0 edge done (label far w (k+1)) (beyond ++ [w]):=by
 have b:far0 w=none:=by
  cases e:far0 w with
  | none=>rfl
  | some d=>rw [m.old w d e] at a;cases a
 refine ⟨fun v d h=>?_,fun v=>?_,fun v d h g=>?_,fun x y f i=>?_⟩
 ·rw [label_ne (by rintro rfl;rw [b] at h;cases h)];exact m.old v d h
 ·by_cases hv:v=w
  ·subst hv
   simp [label_same,b]
  ·rw [label_ne hv]
   simp only [aA7,aC2,hv,or_false]
   exact m.new v
 ·by_cases hv:v=w
  ·subst hv
   rw [label_same] at g
   cases g
   exact ⟨rfl,u,c,t⟩
  ·rw [label_ne hv] at g
   exact m.val v d h g
 ·by_cases hv:y=w
  ·subst hv;rw [label_same];simp
  ·rw [label_ne hv];exact m.dn x y f i
theorem Mid.did (m:Mid T k far0 edge done far beyond) {u:Int} (h:∀ w,T u w->far w ≠ none):Mid T k far0 edge (fun x=>done x\/x=u) far beyond :=
 ⟨m.old,m.new,m.val,fun x w a t=>by rcases a with a | rfl;exact m.dn x w a t;exact h w t⟩
theorem Mid.imp {a:Int->Prop} (m:Mid T k far0 edge done far beyond) (h:∀ u,a u->done u):Mid T k far0 edge a far beyond :=
 ⟨m.old,m.new,m.val,fun x w b t=>m.dn x w (h x b) t⟩
theorem Ring.next (r:Ring T a k far0 edge) (m:Mid T k far0 edge done far beyond) (hd:∀ u∈edge,done u):Ring T a (k+1) far beyond:=by
 have g:∀ v,far0 v=none->far v ≠ none->Dist T a v (k+1):=fun v f b=>by
  cases e:far v with
  | none=>exact absurd e b
  | some d =>
   obtain ⟨rfl,u,j,t⟩:=m.val v d f e
   obtain ⟨l,p,h⟩:=((r.edg u).mp j).next t
   by_cases i:l<=k
   ·rw [(r.lab v l).mpr ⟨h,i⟩] at f;cases f
   ·have:l=k+1:=by omega
    rw [← this];exact h
 have c:∀ v,Dist T a v (k+1)->far0 v=none/\far v ≠ none:=fun v h=>by
  refine ⟨?_,?_⟩
  ·cases e:far0 v with
   | none=>rfl
   | some d =>
    obtain ⟨b,n⟩:=(r.lab v d).mp e
    have:=b.uniq h
    omega
  ·obtain ⟨u,t,j⟩:=h.pred
   exact m.dn u v (hd u ((r.edg u).mpr j)) t
 refine ⟨fun v d=>?_,fun v=>⟨fun h=>?_,fun h=>(m.new v).mpr (c v h)⟩⟩
 ·constructor
  ·intro e
   cases e0:far0 v with
   | some d0 =>
    rw [m.old v d0 e0] at e
    cases e
    obtain ⟨b,n⟩:=(r.lab v d).mp e0
    exact ⟨b,by omega⟩
   | none =>
    have i:=(m.val v d e0 e).1
    subst i
    exact ⟨g v e0 (by rw [e];simp),aA6 _⟩
  ·rintro ⟨h,i⟩
   by_cases hd':d<=k
   ·exact m.old v d ((r.lab v d).mpr ⟨h,hd'⟩)
   ·have o:d=k+1:=by omega
    subst o
    obtain ⟨f,b⟩:=c v h
    cases e:far v with
    | none=>exact absurd e b
    | some d=>rw [(m.val v d f e).1]
 ·obtain ⟨f,b⟩:=(m.new v).mp h
  exact g v f b
theorem Dist.down {v:Int}:∀ {d:Nat},Dist T a v d->∀ j,j<=d->∃ u,Dist T a u j
 | 0,h,j,hj=>⟨v,by rw [show j=0 by omega];exact h⟩
 | d+1,h,j,hj=>by
  by_cases e:j=d+1
  ·rw [e];exact ⟨v,h⟩
  ·obtain ⟨u,_,b⟩:=h.pred
   exact Dist.down b j (by omega)
def farO (T:Int->Int->Prop) (a v:Int):Option Nat:=open Classical in if h:∃ d,Dist T a v d then some (Classical.choose h) else none
theorem farO_some {v:Int} {d:Nat}:farO T a v=some d ↔ Dist T a v d:=by
 unfold farO
 constructor
 ·intro h
  split at h
  ·rename_i b
   cases h
   exact Classical.choose_spec b
  ·cases h
 ·intro h
  have b:∃ d,Dist T a v d:=⟨d,h⟩
  rw [dif_pos b,(Classical.choose_spec b).uniq h]
theorem farO_none {v:Int}:farO T a v=none ↔ ∀ d,¬ Dist T a v d:=by
 constructor
 ·intro h d hd
  rw [farO_some.mpr hd] at h;cases h
 ·intro h
  cases e:farO T a v with
  | none=>rfl
  | some d=>exact absurd (farO_some.mp e) (h d)
theorem aps {v:Int} {o:Option Nat} (h:∀ d,o=some d ↔ Dist T a v d):o=farO T a v:=by
 cases o with
 | some d=>exact (farO_some.mpr ((h d).mp rfl)).symm
 | none=>exact (farO_none.mpr fun d hd=>by cases (h d).mpr hd).symm
theorem Ring.fin (r:Ring T a k far0 []) (v:Int):far0 v=farO T a v:=by
 refine aps fun d=>?_
 rw [r.lab]
 refine ⟨fun h=>h.1,fun h=>⟨h,?_⟩⟩
 apply aD4
 intro c
 obtain ⟨u,b⟩:=h.down k (by omega)
 have:=(r.edg u).mpr b
 simp at this
theorem Walk.app {u v w:Int} {i j:Nat} (h:Walk T u i v) (g:Walk T v j w):Walk T u (i+j) w:=by
 induction g with
 | refl=>exact h
 | step _ t ih=>exact .step ih t
theorem Walk.rev (hs:∀ u v,T u v->T v u) {u v:Int} {i:Nat} (h:Walk T u i v):Walk T v i u:=by
 induction h with
 | refl=>exact .refl
 | @step j x y _ t ih =>
  have:=(Walk.step (T:=T) (u:=y) .refl (hs _ _ t)).app ih
  rw [Nat.add_comm] at this
  exact this
theorem Dist.rev (hs:∀ u v,T u v->T v u) {u v:Int} {d:Nat} (h:Dist T u v d):Dist T v u d:=⟨h.1.rev hs,fun k w=>h.2 k (w.rev hs)⟩
theorem farO_comm (hs:∀ u v,T u v->T v u) (u v:Int):farO T u v=farO T v u:=aps fun d=>by
 rw [farO_some];exact ⟨fun h=>h.rev hs,fun h=>h.rev hs⟩
theorem farO_self:farO T a a=some 0:=farO_some.mpr (Dist.self T a)
end Gr
namespace VL
open PySem PySem.Spec L2
theorem nodup_ix {α:Type} {xs:List α} (h:xs.Nodup) {i j:Nat} (hi:i < xs.length) (a:j < xs.length) (e:xs[i]=xs[j]):i=j:=by
 have p:=aG8.mp h
 rcases Nat.lt_trichotomy i j with q | q | q
 ·exact absurd e (p i j hi a q)
 ·exact q
 ·exact absurd e.symm (p j i a hi q)
def OLL (dss:List (List PyData)):Own where
 P:=fun G H v F=>∃ (a:Addr) (as:List Addr),v=.ref a/\H a=some (.lst (as.map V.ref))/\as.Nodup/\a ∉ as/\as.length=dss.length/\(∀ (i:Nat) b ds,as[i]?=some b->dss[i]?=some ds->∃ vs,H b=some (.lst vs)/\Rps G vs ds)/\∀ b,F b ↔ b=a\/b∈as
 mono:=fun ⟨a,as,e,h,n1,n2,l,r,f⟩ g hh=>⟨a,as,e,hh a _ ((f a).mpr (.inl rfl)) h,n1,n2,l,fun i b ds hb hd=>by
  obtain ⟨vs,h1,h2⟩:=r i b ds hb hd
  exact ⟨vs,hh b _ ((f b).mpr (.inr (aA2 hb))) h1,h2.same g⟩,f⟩
 dom:=fun ⟨a,as,e,h,n1,n2,l,r,f⟩ b z=>by
  rcases (f b).mp z with rfl | z
  ·exact ⟨_,h⟩
  ·obtain ⟨i,hi,e⟩:=aH7.mp z
   have hb:as[i]?=some b:=by rw [aA0 hi,e]
   obtain ⟨vs,h1,_⟩:=r i b _ hb (aA0 (by rw [← l];exact hi))
   exact ⟨_,h1⟩
theorem anl {G:Hp}:∀ {vs:List V} {ds:List PyData},vs.length=ds.length->(∀ (i:Nat) v d,vs[i]?=some v->ds[i]?=some d->Rp G v d)->Rps G vs ds
 | [],[],_,_ => .nil
 | [],_ :: _,h,_=>by simp at h
 | _ :: _,[],h,_=>by simp at h
 | v :: vs,d :: ds,h,k => .cons (k 0 v d rfl rfl) (anl (by simpa using h) fun i v d a b=>k (i+1) v d (by simpa using a) (by simpa using b))
theorem ahh {c:List (List PyData)}:Frz (OLL c) (.list (c.map .list)):=fun G H v F ⟨a,as,e,h,q,p,l,r,f⟩ n g=>by
 subst e
 refine .lst (by rw [ahb ((f a).mpr (.inl rfl))];exact h) (anl (by simp [l]) fun i u d j hd=>?_)
 rw [aA5] at j hd
 cases hb:as[i]? with
 | none=>rw [hb] at j;cases j
 | some b =>
  cases hds:c[i]? with
  | none=>rw [hds] at hd;cases hd
  | some ds =>
   rw [hb] at j;rw [hds] at hd
   cases j;cases hd
   obtain ⟨vs,m,o⟩:=r i b ds hb hds
   exact .lst (by rw [ahb ((f b).mpr (.inr (aA2 hb)))];exact m) (o.same (ab2 n))
section
variable {B:Bs} {env:En} {QO:Sl->En->Prop} {Q':PyData->En->Prop} {D':VEnds} {K:Frag} {i:Nat}
theorem a0q {a:List (List PyData)} {R:PyData->Prop} (h:R (.list (a.map .list))):FQ (.own (OLL a)) R:=⟨_,ahh,h⟩
theorem axz {src:List (Option Nat)} {wi:TI} {j:Nat} (h:EvI B wi env fun ds U=>ds.length<=1000000/\QO (.own (OLL (List.replicate ds.length []))) U):EvO B (tLC src wi (aa1 j) tYes (tLst tNil)) env QO:=fun σ G H F Q I k=>by
 refine h σ G H F _ I fun J N L F1 ds U s g1 it ⟨a0,q⟩ c d=>?_
 let W:Nat->List V->Hp->Prop:=fun n ys H=>∃ (as:List Addr) (g:Hp),ys=as.map V.ref/\as.length=n/\as.Nodup/\c ∉ as/\(∀ b∈as,L b=none/\g b=none/\H b=some (.lst []))/\H c=some (.lst ys)/\g c=none/\Same N g/\Same g H/\Same L H/\(∀ a o,g a=some o->N a=some o\/L a=none)/\FT g H
 refine ⟨fun n m ys σI H=>m=ds.length - n/\n<=ds.length/\W n ys H,⟨ds.length,by simp,aG1 _,[],N,rfl,rfl,List.nodup_nil,by simp,fun b hb=>by simp at hb,aaj,s.no_g d,Same.refl _,s.gh.trans (abm d),abm d,fun a o e => .inl e,fun a ks e=>?_⟩,?_⟩
 ·by_cases z:a=c
  ·subst z;rw [aaj] at e;cases e
  ·rw [aag z] at e;exact s.ft a ks e
 rintro n m ys σI H2 ⟨rfl,hn,as,g,rfl,T,nd,na,all,f,O,A,r,l,K,v⟩
 refine ⟨f,?_⟩
 by_cases hlt:n < ds.length
 ·refine .inr ⟨it.go n g H2 A r hlt,fun E Y H'=>W (n+1) E H',fun E Y H' hw=>⟨ds.length - (n+1),by omega,rfl,hlt,hw⟩,fun x H3 y=>?_⟩
  obtain ⟨M,o⟩:=it.yld n g H2 x H3 _ A r v (aA0 hlt) y
  refine ajp (amr (acl (azr (air ⟨by decide,fun p C=>?_⟩))))
  have n2:H2 p=none:=aby o.hh C
  have Z:L p=none:=aby l n2
  have S:p ≠ c:=(aaq (o.hh _ _ f) C).symm
  have D:p ∉ as:=fun z=>by
   have:=o.hh _ _ (all p z).2.2
   rw [this] at C;cases C
  refine ⟨by rw [aag S.symm];exact o.hh _ _ f,by rw [aA3,T];exact big (by omega),as ++ [p],M,by simp,by simp [T],?_,?_,fun b hb=>?_,aaj,?_,A.trans o.gg,fun a u e=>?_,fun a u e=>?_,fun a u e=>?_,fun a ks e=>?_⟩
  ·rw [aE7]
   exact ⟨nd,by simp,fun x hx y hy=>by simp at hy;subst hy;intro e;subst e;exact D hx⟩
  ·intro z
   rcases aA7.mp z with z | z
   ·exact na z
   ·exact S (aC2.mp z).symm
  ·have gb:∀ b,g b=none->(∃ u,H2 b=some u)->M b=none:=fun b P z_=>by
    obtain ⟨u,X⟩:=z_
    cases e:M b with
    | none=>rfl
    | some w =>
     rcases o.gn b w e with e | e
     ·rw [P] at e;cases e
     ·rw [X] at e;cases e
   rcases aA7.mp hb with hb | hb
   ·obtain ⟨P,X,h3⟩:=all b hb
    refine ⟨P,gb b X ⟨_,h3⟩,?_⟩
    rw [aag (fun z:b=c=>na (by rw [← z];exact hb)),aag (fun z:b=p=>D (by rw [← z];exact hb))]
    exact o.hh _ _ h3
   ·have e:b=p:=by simpa using hb
    subst e
    exact ⟨Z,aby o.gh C,by rw [aag S,aaj]⟩
  ·cases e:M c with
   | none=>rfl
   | some w =>
    rcases o.gn c w e with e | e
    ·rw [O] at e;cases e
    ·rw [f] at e;cases e
  ·have ap:a ≠ p:=aaq (o.gh a u e) C
   have R:a ≠ c:=by
    rintro rfl
    rcases o.gn _ u e with e | e
    ·rw [O] at e;cases e
    ·rw [f] at e;cases e
   rw [aag R,aag ap];exact o.gh a u e
  ·have ap:a ≠ p:=aaq e Z
   have R:a ≠ c:=aaq e d
   rw [aag R,aag ap];exact o.hh _ _ (l a u e)
  ·rcases o.gn a u e with e | e
   ·exact K a u e
   ·exact .inr (aby l e)
  ·by_cases z:a=c
   ·subst z;rw [aaj] at e;cases e
   ·rw [aag z] at e
    by_cases y:a=p
    ·subst y;rw [aaj] at e;cases e
    ·rw [aag y] at e;exact o.ft v a ks e
 ·have e:n=ds.length:=by omega
  subst e
  refine .inl ⟨it.stop _ g H2 A r rfl,?_⟩
  have I2:=s.grow A r l K v
  refine k (.ref c) g H2 F1 (fun b=>b=c\/b∈as) (.own (OLL (List.replicate ds.length []))) U I2 (g1.trans A) ⟨⟨c,as,rfl,f,nd,na,by simp [T],fun i b a1 hb hd=>?_,fun b=>Iff.rfl⟩,fun b z=>?_,fun b z=>?_,fun b z=>?_,fun j b z y=>?_⟩ q
  ·rw [aH8] at hd
   split at hd
   ·cases hd;exact ⟨[],(all b (aA2 hb)).2.2,.nil⟩
   ·cases hd
  ·rcases z with rfl | z
   ·exact s.no_b d
   ·exact s.no_b (all b z).1
  ·rcases z with rfl | z
   ·exact O
   ·exact (all b z).2.1
  ·rcases z with rfl | z
   ·exact ⟨_,f⟩
   ·exact ⟨_,(all b z).2.2⟩
  ·rcases z with rfl | z
   ·exact s.no_f d j y
   ·exact s.no_f (all b z).1 j y
theorem ai0 {d:List (List PyData)} {l j n:Nat} {k:Int} {y:PyData} {ds:List PyData} (e:env[i]?=some (some (.own (OLL d)))) (ek:env[l]?=some (some (.st (.int k)))) (R:env[j]?=some (some (.st y)))
  (Y:ixN d.length k=some n) (hd:d[n]?=some ds) (hl:ds.length<=999999) (q:Q' .none (env.set i (some (.own (OLL (d.set n (ds ++ [y]))))))):Ev B (tBM K "list" afm (tOp (adj K) (tVar i) (tVar l)) (aa6 (tVar j) tNil)) env Q':=fun σ G H F Q I S=>by
 obtain ⟨v,N,⟨a,as,rfl,h,O,M,ln,r,f⟩,_⟩:=I.sl i _ e
 obtain ⟨vk,D,T,_⟩:=I.sl l _ ek
 obtain ⟨vy,w,W,_⟩:=I.sl j _ R
 cases T
 have hn:n < d.length:=(aA1.mp hd).1
 have hb:as[n]?=some (as[n]'(by omega)):=aA0 _
 generalize as[n]'(by omega)=b at hb
 have s:b∈as:=aA2 hb
 obtain ⟨vs,E,L⟩:=r n b ds hb hd
 have C:atI (as.map V.ref) k=some (.ref b):=by
  unfold atI
  rw [aA3,ln,Y]
  simp [hb]
 refine ⟨_,N,_,D,afu h C ⟨.inl ⟨rfl,_,SqL.of E⟩,_,w,agj E (by rw [L.length];exact big (by omega)) ?_⟩⟩
 have u:a ≠ b:=fun z=>M (z ▸ s)
 have J:=I.change (A:=OLL (d.set n (ds ++ [y]))) (H2:=upd H b (.lst (vs ++ [vy]))) (F2:=F i) (os':=.own (OLL (d.set n (ds ++ [y])))) i e N (fun c o p x=>by rw [aag (fun z:c=b=>p ((f c).mpr (.inr (by rw [z];exact s))))];exact x)
  (fun c o x=>by
   by_cases z:c=b
   ·rw [z];exact ⟨_,aaj⟩
   ·rw [aag z];exact ⟨o,x⟩)
  (fun c z=>⟨.inl z,by
   by_cases y:c=b
   ·rw [y];exact ⟨_,aaj⟩
   ·rw [aag y];exact I.fo i c z⟩) ?_ (fun c ks e=>by
   by_cases z:c=b
   ·subst z;rw [aaj] at e;cases e
   ·rw [aag z] at e;exact I.ft c ks e) (.inl ⟨rfl,_,rfl⟩)
 ·exact S _ G _ _ _ _ J (Same.refl _) .non q
 ·refine ⟨a,as,rfl,by rw [aag u];exact h,O,M,by simp [ln],fun m c es p g=>?_,f⟩
  by_cases hm:m=n
  ·subst hm
   rw [hb] at p;cases p
   rw [aD2,aF6 rfl,aF6 hn] at g
   cases g
   exact ⟨_,aaj,L.append (.cons W .nil)⟩
  ·rw [aD2,aF7 (fun z=>hm z.symm)] at g
   obtain ⟨us,h3,Z⟩:=r m c es p g
   refine ⟨us,?_,Z⟩
   rw [aag]
   ·exact h3
   ·rintro rfl
    have i1:=(aA1.mp hb)
    have U:=(aA1.mp p)
    obtain ⟨P,e1⟩:=i1
    obtain ⟨X,e2⟩:=U
    exact hm (nodup_ix O X P (e2.trans e1.symm))
def exO {α:Type} (f : α->Own):Own where
 P:=fun G H v F=>∃ x,(f x).P G H v F
 mono:=fun ⟨x,h⟩ g hh=>⟨x,(f x).mono h g hh⟩
 dom:=fun ⟨x,h⟩=>(f x).dom h
theorem VI.weakO {G H:Hp} {σ:St} {F:Nat->Addr->Prop} {A A':Own} (I:VI B G H σ env F) (e:env[i]?=some (some (.own A))) (h:∀ G H v F,A.P G H v F->A'.P G H v F):VI B G H σ (env.set i (some (.own A'))) F:=by
 refine ⟨I.gh,I.g0,I.gn,I.rs,I.rb,I.bh,I.fg,I.fr,I.fd,I.fo,fun j s es=>?_,by simp [I.ln],I.ft⟩
 by_cases hj:j=i
 ·subst hj
  rw [aD2,aF6 rfl,aF6 (aA1.mp e).1] at es
  cases es
  obtain ⟨v,a,q⟩:=I.sl j _ e
  exact ⟨v,a,h _ _ _ _ q.1,q.2⟩
 ·rw [aD2,aF7 (fun z=>hj z.symm)] at es
  exact I.sl j s es
end
@[reducible] def prD (p:Int × Int):PyData:=.tuple [.int p.1,.int p.2]
@[reducible] def webD (n:Int) (es:List (Int × Int)):PyData:=.tuple [.int n,.list (es.map prD)]
def Tied (es:List (Int × Int)) (u v:Int):Prop:=(u,v)∈es\/(v,u)∈es
theorem Tied.symm {es:List (Int × Int)} {u v:Int} (h:Tied es u v):Tied es v u:=h.elim .inr .inl
def InN (n:Int) (es:List (Int × Int)):Prop:=∀ p∈es,0<=p.1/\p.1 < n/\0<=p.2/\p.2 < n
theorem Tied.in {n:Int} {es:List (Int × Int)} {u v:Int} (hi:InN n es) (h:Tied es u v):(0<=u/\u < n)/\0<=v/\v < n:=by
 rcases h with h | h
 ·have:=hi _ h;exact ⟨⟨this.1,this.2.1⟩,this.2.2⟩
 ·have:=hi _ h;exact ⟨⟨this.2.2.1,this.2.2.2⟩,this.1,this.2.1⟩
theorem Tied.snoc {es:List (Int × Int)} {i:Nat} {a b:Int} (h:es[i]?=some (a,b)) (u v:Int):Tied (es.take (i+1)) u v ↔ (Tied (es.take i) u v\/(u=a/\v=b))\/(u=b/\v=a):=by
 have e:es.take (i+1)=es.take i ++ [(a,b)]:=by rw [aH5,h];rfl
 unfold Tied
 rw [e]
 simp only [aA7,aC2,Prod.mk.injEq]
 constructor
 ·rintro ((h | ⟨rfl,rfl⟩) | (h | ⟨rfl,rfl⟩))
  ·exact .inl (.inl (.inl h))
  ·exact .inl (.inr ⟨rfl,rfl⟩)
  ·exact .inl (.inl (.inr h))
  ·exact .inr ⟨rfl,rfl⟩
 ·rintro (((h | h) | ⟨rfl,rfl⟩) | ⟨rfl,rfl⟩)
  ·exact .inl (.inl h)
  ·exact .inr (.inl h)
  ·exact .inl (.inr ⟨rfl,rfl⟩)
  ·exact .inr (.inr ⟨rfl,rfl⟩)
def TiedL (n:Int) (T:Int->Int->Prop) (tl:List (List Int)):Prop:=(tl.length:Int)=n/\∀ (i:Nat) ws,tl[i]?=some ws->∀ w,w∈ws ↔ T i w
def oD:Option Nat->PyData
 | none => .none
 | some d => .int d
def lab (n:Nat) (far:Int->Option Nat):List PyData:=(List.range n).map fun (i:Nat)=>oD (far (i:Int))
theorem adb {n:Nat} {far:Int->Option Nat}:(lab n far).length=n:=by simp [lab]
theorem aex {n:Nat} {far:Int->Option Nat} {i:Nat} (h:i < n):(lab n far)[i]?=some (oD (far i)):=by
 unfold lab
 rw [aA5,aA0 (by simpa using h)]
 simp
theorem anm {n:Nat} {far:Int->Option Nat} {v:Int} (a:0<=v) (h:v < n):atI (lab n far) v=some (oD (far v)):=by
 have:=ag6 (xs:=lab n far) (j:=v.toNat) (aex (by omega))
 rwa [show ((v.toNat:Nat):Int)=v by omega] at this
theorem ai1 {n:Nat} {v:Int} (a:0<=v) (h:v < n):ixN n v=some v.toNat:=by
 unfold ixN;rw [aF6 a,aF6 h]
theorem apt {n:Nat} {far:Int->Option Nat} {v:Int} {d:Nat} (a:0<=v) (h:v < n):(lab n far).set v.toNat (.int d)=lab n (Gr.label far v d):=by
 apply aG3
 intro i
 rw [aD2]
 by_cases e:v.toNat=i
 ·rw [aF6 e,aF6 (by rw [adb];omega),aex (by omega)]
  have:(i:Int)=v:=by omega
  rw [this,Gr.label_same];rfl
 ·rw [aF7 e]
  by_cases hi:i < n
  ·rw [aex hi,aex hi,Gr.label_ne (by omega)]
  ·rw [aF8.mpr (by rw [adb];omega),aF8.mpr (by rw [adb];omega)]
theorem asl {n:Nat} {f g:Int->Option Nat} (h:∀ v,0<=v->v < (n:Int)->f v=g v):lab n f=lab n g:=by
 unfold lab
 apply aE9
 intro i hi
 rw [h i (by omega) (by have:=aB9.mp hi;omega)]
theorem ax0 {o:Option Nat}:isNone (oD o)=o.isNone:=by cases o <;> rfl
theorem ai2 {α:Type} {f : α->PyData} {xs:List α} {i:Int} {x : α} (h:atI xs i=some x):atI (xs.map f) i=some (f x):=by
 unfold atI at h ⊢
 rw [aA3]
 cases e:ixN xs.length i with
 | none=>rw [e] at h;cases h
 | some j=>rw [e] at h;simp at h ⊢;exact ⟨_,h,rfl⟩
theorem aff {α:Type} {xs:List α} {i:Int} {x : α} (a:0<=i) (h:xs[i.toNat]?=some x):atI xs i=some x:=by
 have:=ag6 (xs:=xs) (j:=i.toNat) h
 rwa [show ((i.toNat:Nat):Int)=i by omega] at this
@[reducible] def tlD (tl:List (List Int)):List (List PyData):=tl.map fun ws=>ws.map .int
theorem TiedL.get {n:Int} {T:Int->Int->Prop} {tl:List (List Int)} (h:TiedL n T tl) {v:Int} (c:0<=v) (d:v < n):∃ a,tl[v.toNat]?=some a/\∀ w,w∈a ↔ T v w:=by
 have b:v.toNat < tl.length:=by have:=h.1;omega
 refine ⟨tl[v.toNat],aA0 b,fun w=>?_⟩
 rw [h.2 _ _ (aA0 b) w,show ((v.toNat:Nat):Int)=v by omega]
theorem ahi {tl:List (List Int)} {i:Nat} {a:List Int} (h:tl[i]?=some a):(tlD tl)[i]?=some (a.map .int):=by
 rw [aA5,h];rfl
theorem TiedL.put {n:Int} {T:Int->Int->Prop} {tl:List (List Int)} (h:TiedL n T tl) {v q:Int} {c:List Int} (l:0<=v) (g:v < n) (d:tl[v.toNat]?=some c):TiedL n (fun a b=>T a b\/(a=v/\b=q)) (tl.set v.toNat (c ++ [q])):=by
 refine ⟨by rw [List.length_set];exact h.1,fun i us hi w=>?_⟩
 rw [aD2] at hi
 by_cases e:v.toNat=i
 ·rw [aF6 e] at hi
  have j:v.toNat < tl.length:=(aA1.mp d).1
  rw [aF6 (by omega)] at hi
  cases hi
  have f:(i:Int)=v:=by omega
  rw [aA7,aC2,h.2 i c (by rw [← e];exact d) w,f]
  simp
 ·rw [aF7 e] at hi
  rw [h.2 i us hi w]
  exact ⟨.inl,fun z=>z.elim id fun z=>by omega⟩
theorem apu {tl:List (List Int)} {i:Nat} {a:List Int}:(tlD tl).set i (a.map .int)=tlD (tl.set i a):=by
 unfold tlD;rw [List.map_set]
theorem TiedL.iff {n:Int} {T a:Int->Int->Prop} {tl:List (List Int)} (h:TiedL n T tl) (e:∀ u v,T u v ↔ a u v):TiedL n a tl:=⟨h.1,fun i b hi w=>(h.2 i b hi w).trans (e _ _)⟩
end VL
namespace VL
open PySem L2
def cnt (far:Int->Option Nat):Nat->Nat
 | 0=>0
 | n+1=>cnt far n+(if far (n:Int)=none then 1 else 0)
theorem agb {far:Int->Option Nat} {w:Int} {d:Nat}:∀ {n:Nat},(w:Int) ≥ n->cnt (Gr.label far w d) n=cnt far n
 | 0,_=>rfl
 | n+1,h=>by
  unfold cnt
  rw [agb (by omega),Gr.label_ne (by omega)]
theorem akx {far:Int->Option Nat} {w:Int} {d:Nat} (b:0<=w) (a:far w=none):∀ {n:Nat},w < (n:Int)->cnt (Gr.label far w d) n+1=cnt far n
 | 0,h=>by omega
 | n+1,h=>by
  unfold cnt
  by_cases e:w=n
  ·subst e
   rw [agb (by omega),Gr.label_same,a];simp
  ·rw [Gr.label_ne (by omega)]
   have:=akx b a (n:=n) (d:=d) (by omega)
   omega
theorem ax1 (n:Nat):(List.replicate n [PyData.none]).flatten=lab n (fun _=>none):=by
 apply aG3
 intro i
 by_cases hi:i < n
 ·rw [aex hi]
  have:(List.replicate n [PyData.none]).flatten=List.replicate n PyData.none:=by
   clear hi
   induction n with
   | zero=>rfl
   | succ n ih=>rw [aH4,List.flatten_cons,ih,aH4];rfl
  rw [this,aH8,aF6 hi];rfl
 ·rw [aF8.mpr (by rw [ao2];simp;omega),aF8.mpr (by rw [adb];omega)]
theorem aom {α:Type} {f : α->PyData} {xs:List α}:(xs.map f).isEmpty=xs.isEmpty:=by cases xs <;> rfl
theorem aeq {xs:List Int} {j:Nat} {u w:Int} (a:xs[j]?=some u) (hm:w∈xs.take (j+1)):w∈xs.take j\/w=u:=by
 rw [aH5,a] at hm
 rcases aA7.mp hm with q | q
 ·exact .inl q
 ·exact .inr (by simpa using q)
theorem asm {n:Nat} {far:Int->Option Nat}:plainDs (lab n far)=true:=by
 rw [afj]
 intro d hd
 obtain ⟨i,_,rfl⟩:=aB7.mp hd
 cases far (i:Int) <;> rfl
theorem ax2 {n:Nat} {far:Int->Option Nat}:((lab n far).any fun z=>PyData.eqv z .none)=true ↔ ∃ v:Int,0<=v/\v < n/\far v=none:=by
 rw [aF4]
 constructor
 ·rintro ⟨d,hd,e⟩
  obtain ⟨i,hi,rfl⟩:=aB7.mp hd
  refine ⟨i,by omega,by have:=aB9.mp hi;omega,?_⟩
  cases h:far (i:Int) with
  | none=>rfl
  | some d=>rw [h] at e;simp [oD,PyData.eqv] at e
 ·rintro ⟨v,b,a,h⟩
  refine ⟨oD (far v),?_,by rw [h];rfl⟩
  have:=aex (far:=far) (show v.toNat < n by omega)
  rw [show ((v.toNat:Nat):Int)=v by omega] at this
  exact aA2 this
def Joined (n:Int) (es:List (Int × Int)):Prop:=∀ v,0<=v->v < n->∃ d,Gr.Dist (Tied es) 0 v d
end VL
namespace DI
open PySem PySem.W
def Raw (h:Heap) (d:Addr) (es:Array DictEntry) (ep:Nat):Prop:=∃ o,h.get? d=some o/\o.ExactDict/\o.data=.dict es ep
theorem Raw.keep {h h':Heap} {d:Addr} {es:Array DictEntry} {ep:Nat} (r:Raw h d es ep) (k:∀ o,h.get? d=some o->h'.get? d=some o):Raw h' d es ep:=let ⟨o,e,x⟩:=r;⟨o,k o e,x⟩
theorem Raw.ty {s:Shared} {d:Addr} {es:Array DictEntry} {ep:Nat} (r:Raw s.heap d es ep):s.TypeIs (.ref d) "dict":=let ⟨o,e,x,_⟩:=r;⟨o,e,x.1⟩
section
variable {prog:Program} {w:World} {A:Around} {E:Value->Shared->Prop} {s:Shared} {d it:Addr} {es:Array DictEntry} {ep i:Nat}
theorem au9 {Q:Value->Shared->Prop} (hd:(d == sysModules)=false) (r:Raw s.heap d es ep)
  (c:Q (.ref s.heap.objs.size) { s with heap:=s.heap.push { cls:=.type "dict_keyiterator",data:=.fields #[.ref d,.int 0 0,.int es.size 0,.int ep 0] } }):wpAny (model prog w) A (pyIter (.ref d)) Q E s:=by
 obtain ⟨o,b,f,a⟩:=id r
 refine wpAny_pyIter_slot r.ty PySem.F.slot_dict_iter (aK4 PySem.F.slot_dict_iter r.ty PySem.F.entry_dict_iter ?body (PySem.F.args_dict_iter_1 _))
 case body =>
  unfold Builtin.«dict.__iter__»
  refine aJ2 ?slot
  case slot =>
   unfold Builtin.Dict.dictSlotNone
   refine aJ2 (wpAny_notOrdered_dict r.ty ?pl)
   case pl =>
    show wpAny _ _ (pure (Value.ref d)) _ _ s
    refine aJ3 ?rest
    case rest =>
     show wpAny _ _ (Builtin.Dict.showsAll d >>= _) _ _ s
     unfold Builtin.Dict.showsAll
     rw [aF7 (by rw [hd];exact aB0)]
     refine aJ2 (aJ3 (aJ2 (wpAny_dictEntries b a (aJ2 (wpAny_dictEpoch b a (aJ2 (aK1 (aJ3 ⟨_,rfl,"dict_keyiterator",_,⟨_,aJ6 _ rfl,rfl⟩,PySem.F.slot_dict_keyiterator_next.lookup,?fin⟩))))))))
     case fin=>simpa [rawInt] using c
theorem ava {Q:Option Value->Shared->Prop} (a:s.heap.IsKeyIter it d i es.size ep) (r:Raw s.heap d es ep) (hi:i < es.size)
  (u:∀ h',h'.IsKeyIter it d (i+1) es.size ep->Heap.SameBut it s.heap h'->Q (some es[i].key) { s with heap:=h' }):wpAny (model prog w) A (pyNext (.ref it)) Q E s:=by
 obtain ⟨o,q,v,hd⟩:=id a
 obtain ⟨od,n,x,p⟩:=r
 unfold pyNext
 refine aJ2 (wpAny_attempt (wpAny_callSpecial?_slot (name:=Str.ofString "__next__") a.typeIs PySem.F.slot_dict_keyiterator_next (aK4 PySem.F.slot_dict_keyiterator_next a.typeIs PySem.F.entry_dict_keyiterator_next ?b (PySem.F.args_dict_keyiterator_next_1 _))))
 case b =>
  refine aJ2 (aJ3 (aJ2 (aJ2 ?c)))
  case c =>
   first | refine aJ2 (wpAny_typeNameOfWhole_keyiter a.typeIs (aJ3 (aJ2 (wpAny_fieldsOf q hd ?e)))) | refine aJ2 (wpAny_typeNameOf_keyiter a.typeIs (aJ3 (aJ2 (wpAny_fieldsOf q hd ?e))))
   case e =>
    simp only [show Builtin.Dict_items.ownsTuple "dict_keyiterator" = false by decide,Bool.false_eq_true,if_false]
    show wpAny _ _ (if (Value.ref d == Value.none)=true then _ else _) _ _ s;rw [aF7 (show ¬ ((Value.ref d == Value.none)=true) from aB0)]
    refine aJ2 (aJ3 (aJ2 (wpAny_dictEntries n p ?f)))
    case f =>
     rw [aF7 (by simp)];refine aJ2 (aJ3 (aJ2 (wpAny_dictEpoch n p ?g)))
     case g =>
      rw [aF7 (by simp)];refine aJ3 ?h
      case h =>
       simp only [show ¬ ((i:Int) < 0) by omega,if_false,Int.toNat_natCast,aA4 hi];refine aJ2 ?j
       case j =>
        first | refine aJ2 (wpAny_typeNameOfWhole_keyiter a.typeIs (aJ3 (aJ2 (wpAny_isOneOf_keyiter a.typeIs ?k)))) | refine aJ2 (wpAny_typeNameOf_keyiter a.typeIs (aJ3 (aJ2 (wpAny_isOneOf_keyiter a.typeIs ?k))))
        case k =>
         show wpAny _ _ (setField (.ref it) 1 (rawInt ((i:Int)+1)) >>= _) _ _ s;refine aJ2 (wpAny_setField q hd (by simp) ?l)
         case l =>
          have nx:(s.heap.update it (Obj.mapFields (·.setIfInBounds 1 (rawInt ((i:Int)+1))))).IsKeyIter it d (i+1) es.size ep:=⟨_,Heap.get?_update_self _ q (Obj.isFreed_of_fields (Obj.data_mapFields hd _)),(Obj.cls_mapFields ..).trans v,by rw [Obj.data_mapFields hd];simp [rawInt]⟩
          refine aJ2 (aJ8 (aJ2 (wpAny_isOneOf_keyiter (s:={ s with heap:=s.heap.update it (Obj.mapFields (·.setIfInBounds 1 (rawInt ((i:Int)+1)))) }) nx.typeIs ?m)))
          case m=>show wpAny _ _ (pure es[i].key) _ _ _;exact aJ3 (aJ3 ⟨_,rfl,aJ3 (u _ nx (Heap.SameBut.update ..))⟩)
theorem ax3 {Q:Option Value->Shared->Prop} (hh:A.handled=none) (i:s.heap.IsKeyIter it d es.size es.size ep) (r:Raw s.heap d es ep) (v:∀ h',Heap.ExtBut it s.heap h'->Q none { s with heap:=h' }):wpAny (model prog w) A (pyNext (.ref it)) Q E s:=by
 obtain ⟨o,u,y,hd⟩:=id i
 obtain ⟨od,n,x,p⟩:=r
 unfold pyNext
 refine aJ2 (wpAny_attempt (wpAny_callSpecial?_slot (name:=Str.ofString "__next__") i.typeIs PySem.F.slot_dict_keyiterator_next (aK4 PySem.F.slot_dict_keyiterator_next i.typeIs PySem.F.entry_dict_keyiterator_next ?b (PySem.F.args_dict_keyiterator_next_1 _))))
 case b =>
  refine aJ2 (aJ3 (aJ2 (aJ2 ?c)))
  case c =>
   first | refine aJ2 (wpAny_typeNameOfWhole_keyiter i.typeIs (aJ3 (aJ2 (wpAny_fieldsOf u hd ?e)))) | refine aJ2 (wpAny_typeNameOf_keyiter i.typeIs (aJ3 (aJ2 (wpAny_fieldsOf u hd ?e))))
   case e =>
    simp only [show Builtin.Dict_items.ownsTuple "dict_keyiterator" = false by decide,Bool.false_eq_true,if_false]
    show wpAny _ _ (if (Value.ref d == Value.none)=true then _ else _) _ _ s;rw [aF7 (show ¬ ((Value.ref d == Value.none)=true) from aB0)]
    refine aJ2 (aJ3 (aJ2 (wpAny_dictEntries n p ?f)))
    case f =>
     rw [aF7 (by simp)];refine aJ2 (aJ3 (aJ2 (wpAny_dictEpoch n p ?g)))
     case g =>
      rw [aF7 (by simp)];refine aJ3 ?h
      case h =>
       simp only [show ¬ ((es.size:Int) < 0) by omega,if_false,Int.toNat_natCast,Array.getElem?_eq_none (aA6 es.size)];refine aJ2 ?j
       case j =>
        first | refine aJ2 (wpAny_typeNameOfWhole_keyiter i.typeIs (aJ3 ?k)) | refine aJ2 (wpAny_typeNameOf_keyiter i.typeIs (aJ3 ?k))
        case k =>
         show wpAny _ _ (setField (.ref it) 0 .none >>= _) _ _ s;refine aJ2 (wpAny_setField u hd (by simp) ?l)
         case l =>
          show wpAny _ _ (newExc (.type "StopIteration") [] >>= _) _ _ _;refine aJ2 ?m
          case m =>
           simp only [newExc,newTuple];refine aJ2 (aK1 ?zz2 (by size_fits))
           case zz2 =>
            refine aJ2 (m:=firstArgMember _ _) (wpAny_of_eq (a:=Value.none) (by first | rfl | (simp only [firstArgMember];rfl)) (aK1 ?zz1 (by size_fits)))
            case zz1 =>
             simp only [raiseNew];refine aJ2 (wpAny_handled ?q)
             case q =>
              rw [show A.in1.handled=none from hh];refine aJ2 (aJ3 (wpAny_throw ?u1))
              case u1=>refine aJ2 (wpAny_isInstance (T:="StopIteration") (b:=true) ⟨_,aJ6 _ rfl,rfl⟩ isSubtype_stop ?u2);exact aJ3 (v _ (((Heap.SameBut.update ..).extBut.push _).push _))
end
theorem walks {prog:Program} {w:World} {A:Around} (hh:A.handled=none) (I d:Addr) (c:d ≠ I) (es:Array DictEntry) (ep:Nat) :
  Walks prog w A I [I,d] [I] es.size (fun i v=>(es[i]?).map (·.key)=some v) (fun i h=>h.IsKeyIter I d i es.size ep/\Raw h d es ep) where
 sub:=fun b hb=>by simp at hb;simp [hb]
 frame:=fun _ _ _ st f=>⟨st.1.at fun o e=>f I (by simp) o e,st.2.keep fun o e=>f d (by simp) o e⟩
 item:=fun i s Q E hi st a=>ava st.1 st.2 hi fun h' nx sb=>a _ h' s.toks (by rw [aA4 hi];rfl) ⟨nx,st.2.keep fun o e=>sb.extBut d o c e⟩ fun b o hb e=>sb.extBut b o (fun z=>hb (by simp [z])) e
 done:=fun s Q E st a=>ax3 hh st.1 st.2 fun h' g=>a h' s.toks fun b o hb e=>g b o (fun z=>hb (by simp [z])) e
 self:=fun _ _ _ _ st a=>wpAny_pyIter_keyiter st.1 a
end DI
namespace DI
open PySem PySem.W PyProof.Rows
section
variable {prog:Program} {w:World} {A:Around} {E:Value->Shared->Prop} {s:Shared}
theorem src (d:Addr) (es:Array DictEntry) (ep:Nat) (hd:(d == sysModules)=false):KdlSrc prog w "dict" d d es.size (fun i v=>(es[i]?).map (·.key)=some v) (fun h=>Raw h d es ep) where
 type:=fun s r=>r.ty
 there:=fun h r=>let ⟨o,e,_⟩:=r;⟨aJ5 e,aJ5 e⟩
 keep:=fun h h' r k=>r.keep fun o e=>k d (.inl rfl) o e
 notList:=by decide
 notTuple:=by decide
 hint:=fun A E s Q r q=>kdl_hint_dict r.ty q
 iter:=fun A s hh r=>⟨{ cls:=.type "dict_keyiterator",data:=.fields #[.ref d,.int 0 0,.int es.size 0,.int ep 0] },fun i h=>h.IsKeyIter s.heap.objs.size d i es.size ep/\Raw h d es ep,fun E Q q=>au9 hd r q,
  walks hh s.heap.objs.size d (by obtain ⟨o,e,_⟩:=r;exact aB6 (aJ5 e)) es ep,⟨_,aJ6 _ rfl,rfl,rfl⟩,r.keep fun o e=>aJ4 _ e⟩
theorem collect_src {T:String} {r d:Addr} {n:Nat} {P:Nat->Value->Prop} {j:Heap->Prop} {Q:List Value->Shared->Prop} (K:KdlSrc prog w T r d n P j) (hh:A.handled=none) (hok:j s.heap) (hn:n<=sizeLine)
  (p:∀ h' i (f:Array Value),(∀ b o,s.heap.get? b=some o->h'.get? b=some o)->s.heap.objs.size<=h'.objs.size->ItemsOf P f n->Q f.toList { s with heap:=h',toks:=i }):wpAny (model prog w) A (collect (.ref r)) Q E s:=by
 unfold collect
 refine aJ2 (wpAny_runValue (aK7 PySem.F.entry_proto_collect ?a1))
 case a1 =>
  rw [aK2 PySem.F.plain_proto_collect _];show wpAny _ A.in1 (newList [] >>= fun l=>again (.builtin "list.__iadd__" ⟨[l,.ref r],[]⟩)) _ _ s
  refine aJ2 (aK1 (aJ3 ⟨plainId_quiet PySem.F.plain_list_iadd _,aK7 PySem.F.entry_list_iadd ?a2⟩))
  case a2 =>
   rw [aK2 PySem.F.plain_list_iadd _];show wpAny _ A.in1 (Builtin.List.listExtendWith (.ref s.heap.objs.size) (.ref r) (.ref s.heap.objs.size)) _ _ _
   have m:(s.heap.push { cls:=.type "list",data:=.seq ([]:List Value).toArray }).get? s.heap.objs.size=some { cls:=.type "list",data:=.seq #[] 0 }:=aJ6 _ rfl
   obtain ⟨t1,q⟩:=K.there _ hok
   refine kdl_extend (R:=wants (fun v s'=>wpAny (model prog w) A (match v with | .ref a=>(do match (← load a).data with | .seq xs _=>pure xs.toList | _=>unsupported "internal:collect") | _=>unsupported "internal:collect") Q E s') E) (s:={ s with heap:=s.heap.push { cls:=.type "list",data:=.seq ([]:List Value).toArray } }) K hh (K.keep _ _ hok fun b _ o e=>aJ4 _ e) s.heap.objs.size (Nat.ne_of_gt t1) (Nat.ne_of_gt q) _ 0 m (fun h' i f c k g h=>?a3) hn
   case a3 =>
    show wpAny (model prog w) A _ Q E _
    refine aJ2 (wpAny_load g ?a4)
    case a4=>exact aJ3 (p h' i f (fun b o e=>k b o (aB6 (aJ5 e)) (aJ4 _ e)) (aG6 (aJ5 g)) h)
end
end DI
namespace TS
open PySem PySem.W PyProof.Rows
section
variable {prog:Program} {w:World} {A:Around} {E:Value->Shared->Prop} {s:Shared}
theorem sorted_gen {l:Addr} {Ok:List Value->Prop} {Q:Value->Shared->Prop}
  (j:∀ (D:List Value->Shared->Prop),(∀ vs h d,(∀ b o,s.heap.get? b=some o->h.get? b=some o)->s.heap.objs.size<=h.objs.size->Ok vs->D vs { s with heap:=h,toks:=d })->wpAny (model prog w) A.in1 (collect (.ref l)) D E s)
  (c:∀ vs,Ok vs->vs.length<=sizeLine)
  (B:∀ vs,Ok vs->2<=vs.length->∀ h' d,(∀ b o,s.heap.get? b=some o->h'.get? b=some o)->∃ κ S R,(∀ (Q:SortKind->Shared->Prop),Q κ { s with heap:=h',toks:=d }->wpAny (model prog w) A.in1.in1 (keyKind' vs.toArray) Q E { s with heap:=h',toks:=d }) /\
   Cmp (model prog w) A.in1.in1 E { s with heap:=h',toks:=d } κ S R/\(∀ v∈vs,S (v,v))/\∀ out:List Value,out.Perm vs->out.Pairwise (fun x y=>R (y,y) (x,x)=false) ->
    ∀ a h' d e,(∀ b o,s.heap.get? b=some o->h'.get? b=some o)->s.heap.objs.size<=a->h'.get? a=some (seqObj "list" out.toArray e)->Q (.ref a) { s with heap:=h',toks:=d })
  (h:∀ vs,Ok vs->vs.length < 2->∀ a h' d e,(∀ b o,s.heap.get? b=some o->h'.get? b=some o)->s.heap.objs.size<=a->h'.get? a=some (seqObj "list" vs.toArray e)->Q (.ref a) { s with heap:=h',toks:=d }) :
  wpAny (model prog w) A (call (.builtin "sorted") [.ref l]) Q E s:=by
 refine Calls.call_function_entry kind_sorted plain_sorted entry_sorted (args_sorted1 _) ?_
 unfold Builtin.«sorted»
 refine aJ2 (m:=checkCount "sorted" 1 1 _) (aJ3 (aJ2 (j _ fun vs g d kp hsz r=>?_)))
 have c:=c vs r
 refine aJ2 (wpAny_newList ?_ c)
 have f:(g.push (seqObj "list" vs.toArray 0)).get? g.objs.size=some (seqObj "list" vs.toArray 0):=aJ6 _ rfl
 have keep:∀ b o,s.heap.get? b=some o->(g.push (seqObj "list" vs.toArray 0)).get? b=some o:=fun b o q=>aJ4 _ (kp b o q)
 refine aJ2 (aJ8 (aK4 slot_list_sort ⟨_,f,rfl⟩ entry_list_sort ?body (args_list_sort _)))
 case body =>
  have fin:∀ out:List Value,∃ e,(sortedHeap (g.push (seqObj "list" vs.toArray 0)) g.objs.size vs out.toArray).get? g.objs.size=some (seqObj "list" out.toArray e):=fun out=>sortedHeap_at (n:=0) f
  have old:∀ (out:List Value) b o,s.heap.get? b=some o->(sortedHeap (g.push (seqObj "list" vs.toArray 0)) g.objs.size vs out.toArray).get? b=some o:=fun out b o e=>by
   have lt:=aJ5 (kp b o e)
   rw [sortedHeap_old (aB6 lt) (by rw [size_push'];exact aF9 lt)];exact keep b o e
  refine aga (s:={ s with heap:=g.push (seqObj "list" vs.toArray 0),toks:=d }) f c (fun u h' H=>?_) fun p=>?_
  ·obtain ⟨κ,S,R,I,C,G,i⟩:=B vs r u h' d fun b o e=>H b o (aB6 (aJ5 (kp b o e))) (keep b o e)
   refine ⟨κ,S,R,I,C,G,fun out F J=>⟨_,rfl,aJ3 ⟨_,rfl,?_⟩⟩⟩
   obtain ⟨e,z⟩:=fin out
   exact i out F J _ _ _ e (old out) hsz z
  ·obtain ⟨e,z⟩:=fin vs
   exact ⟨_,rfl,aJ3 ⟨_,rfl,h vs r p _ _ _ e (old vs) hsz z⟩⟩
end
end TS
namespace L2
open PySem PySem.Spec PyProof.Rows
section
variable {X:Cx} {pins:List (Addr × Obj)} {σ:St} {H:Hp} {s:Shared} {h':Heap}
theorem Inv.turnNew {t':Nat} {ch:List Addr} {T:Addr} {o:HO} (I:Inv X pins σ H s) (f:∀ b∈ch,FpOk X pins H b) (k:∀ b u,b ∉ ch->s.heap.get? b=some u->h'.get? b=some u) (g:s.heap.objs.size<=T) (new:ObjOk X.prog X.w (upd H T o) h' T o) :
  Inv X pins σ (upd H T o) { s with heap:=h',toks:=t' }:=by
 have hn:H T=none:=I.hok.fresh g
 have d:∀ b u,H b=some u->b ∉ ch:=fun b u e z=>by rw [(f b z).1] at e;cases e
 refine I.step (g':=s.gens) (d':=s.drawn) (ch:=ch) (fun b hb=>⟨(f b hb).2.2.2.1,(f b hb).2.1,(f b hb).2.2.2.2.1,(f b hb).2.2.2.2.2⟩) (fun b u _ _ a e _=>k b u a e) (fun b u _ _ a e _=>⟨u.slots,k b u a e⟩)
  (fun b u _ e n=>by rw [aag (aB6 (aC5 (aJ5 e) g))];exact n) (fun b u a e=>⟨u,k b u a e⟩) (fun b xs e=>by rw [aag (aaq e hn)];exact e) (fun b u v e=>by rw [aag (aaq e hn)];exact e)
  (fun b ps e=>⟨#[],by rw [aag (aaq e hn),e];simp⟩) (fun m hm=>?_) (fun b u e=>?_) I.bare
 ·obtain ⟨u,es,ep,h,r⟩:=hm
  exact ⟨u,es,ep,k _ u (fun z=>(f _ z).2.1 rfl) h,r⟩
 ·by_cases hb:b=T
  ·subst hb;rw [aaj] at e;cases e;exact new
  ·rw [aag hb] at e
   refine (I.hok b u e).stay (fun c v a q=>k c v ?_ q) (fun c q=>by rw [aag (aaq q hn)];exact q) fun c xs q=>by rw [aag (aaq q hn)];exact q
   rcases a with z | z
   ·rw [z];exact d b u e
   ·exact d c _ z
theorem Inv.turnedL {t':Nat} {ch:List Addr} (I:Inv X pins σ H s) (f:∀ b∈ch,FpOk X pins H b) (k:∀ b u,b ∉ ch->s.heap.get? b=some u->h'.get? b=some u):Inv X pins σ H { s with heap:=h',toks:=t' }:=by
 have d:∀ b u,H b=some u->b ∉ ch:=fun b u e z=>by rw [(f b z).1] at e;cases e
 refine I.step (g':=s.gens) (d':=s.drawn) (ch:=ch) (fun b hb=>⟨(f b hb).2.2.2.1,(f b hb).2.1,(f b hb).2.2.2.2.1,(f b hb).2.2.2.2.2⟩) (fun b u _ _ a e _=>k b u a e) (fun b u _ _ a e _=>⟨u.slots,k b u a e⟩) (fun _ _ _ _ n=>n)
  (fun b u a e=>⟨u,k b u a e⟩) (fun _ _ e=>e) (fun _ _ _ e=>e) (fun b ps e=>⟨#[],by rw [e];simp⟩) (fun m hm=>?_) (fun b u e=>?_) I.bare
 ·obtain ⟨u,es,ep,g,r⟩:=hm
  exact ⟨u,es,ep,k _ u (fun z=>(f _ z).2.1 rfl) g,r⟩
 ·refine (I.hok b u e).stay (fun c v a q=>k c v ?_ q) (fun _ q=>q) fun _ _ q=>q
  rcases a with z | z
  ·rw [z];exact d b u e
  ·exact d c _ z
end
def Ite (K:Frag) (a:Addr):It :=
 ⟨fun i H=>∃ xs x,SqL K H a xs/\xs[i]?=some x,fun i H x H'=>∃ p y,x=.ref p/\H p=none/\H'=upd H p (.tup [.int i,y])/\∀ xs,SqL K H a xs->xs[i]?=some y,fun i H=>∃ xs,SqL K H a xs/\xs.length<=i⟩
def Itz (K:Frag) (a b:Addr):It :=
 ⟨fun i H=>∃ xs ys x y,SqL K H a xs/\SqL K H b ys/\xs[i]?=some x/\ys[i]?=some y,fun i H v H'=>∃ p x y,v=.ref p/\H p=none/\H'=upd H p (.tup [x,y])/\(∀ xs,SqL K H a xs->xs[i]?=some x)/\∀ ys,SqL K H b ys->ys[i]?=some y,
  fun i H=>∃ xs ys,SqL K H a xs/\SqL K H b ys/\min xs.length ys.length=i⟩
theorem asn {P:Program} {w:World} {K:Frag} {f:List Expr} {k:Nat} {pos:Pos} (a e it:Addr) (N:e ≠ it) (U:a ≠ e) (B:a ≠ it) :
  Turn P w K (.Tuple f k pos) (Ite K a) [e,it] e (fun i h=>(∃ old,IsEnum h e it i old)/\h.IsListIter it a i) where
 mem:=by simp
 obj:=fun i h st b hb=>by
  obtain ⟨⟨old,g⟩,o,R,c,d⟩:=st
  rcases aA9.mp hb with rfl | hb
  ·exact ⟨_,g,fun v z=>by simp at z⟩
  ·have:b=it:=by simpa using hb
   subst this
   exact ⟨o,R,fun v z=>by rw [d] at z;cases z⟩
 keep:=fun i h h' st q=>⟨let ⟨old,g⟩:=st.1;⟨old,q e (by simp) _ g⟩,st.2.at fun o x=>q it (by simp) o x⟩
 item:=by
  intro X j F J M i pins s σ H E I hf st C
  subst j F J
  obtain ⟨xs,x,r,L⟩:=C
  obtain ⟨its,G,p,hz⟩:=I.list r
  obtain ⟨u,Y,ru⟩:=G.get L
  have hi:i < its.toArray.size:=by simpa using (aA1.mp Y).1
  have W:=WalksT.enumerate (prog:=X.prog) (w:=X.w) (I.ok.hd M) e it a N U B its.toArray
  refine W.item i s _ _ hi ⟨st.1,st.2,p.isList⟩ fun T a0 h1 tk j hT O mid kk=>⟨_,rfl,?_⟩
  obtain ⟨t,y,S,rfl⟩:=j
  have ey:y=u:=by
   have:its[i]?=some y:=by simpa using S
   rw [Y] at this;cases this;rfl
  subst ey
  have aT:=W.apart i T _ mid
  refine W.go f k pos i T { s with heap:=h1,toks:=tk } _ _ mid fun h2 l Z=>?_
  have m:IsTup h2 T #[.int i t,y]:=by
   obtain ⟨o,R,e2,n,e3⟩:=O
   exact ⟨o,Z T o aT R,e2,n,e3⟩
  refine ⟨.ref T,upd H T (.tup [.int i,x]),I.turnNew hf (fun b o hb q=>Z b o hb (kk b o hb q)) hT ?_,rfl,⟨T,x,rfl,I.hok.fresh hT,rfl,fun ys S=>by rw [I.list_inj S r];exact L⟩,⟨?_,l.2.1⟩,fun b hb=>?_⟩
  ·exact ⟨by show (2:Nat)<=sizeLine;decide,[.int i t,y],.cons ⟨t,rfl⟩ (.cons ru .nil),m⟩
  ·obtain ⟨old,q⟩:=l.1
   exact ⟨old,by simpa using q⟩
  ·rw [aag]
   ·exact (hf b hb).1
   ·rintro rfl;exact aT hb
 done:=by
  intro X j F J M i pins s σ H E I hf st C
  subst j F J
  obtain ⟨xs,r,L⟩:=C
  obtain ⟨its,G,p,hz⟩:=I.list r
  obtain ⟨⟨old,g⟩,D⟩:=st
  have hl:=G.length
  exact wpAny_pyNext_enum_end (I.ok.hd M) g D p.isList (by simp;omega) fun h2 eb=>⟨rfl,I.turnedL (t':=s.toks) hf fun b o hb q=>eb b o (fun z=>hb (by simp [z])) q⟩
 self:=fun A i s Q E st h=>by
  obtain ⟨⟨old,g⟩,_⟩:=st
  exact wpAny_pyIter_enum g h
section
variable {X:Cx} {elts:List Expr} {k:Nat} {tpos:Pos}
def awj (K:Frag) (ta:TA):TI:=fun σ H R=>ta σ H fun vs H1=>∃ a xs,vs=[.ref a]/\SqL K H1 a xs/\R (Ite K a) H1
theorem apv {a:Expr} {i:TA} {p pos:Pos} (w:Gl X "enumerate") (hm:X.mg "enumerate" = none) (ha:PA X [a] i) (hs:starEach [a] X.env=[(false,eval a X.env)]:=by rfl):PI X (.Tuple elts k tpos) (.Call (.Name "enumerate" p) [a] [] pos) (awj X.K i):=by
 intro pins s σ H R I h
 refine Call_ (adp I w hm ams (PyProof.Rows.callWith_type1 (thn (ha pos pins s σ H _ I h) fun us s1 ⟨vs,l,f,v,a,xs,x,r,q⟩=>?_) hs rfl))
 subst x
 obtain ⟨u,rfl,m⟩:=ab8 v
 cases m
 obtain ⟨its,A,pl,y⟩:=f.list r
 refine call_enumerate_list pl.isList fun z j g hsz kp=>?_
 have d:a < s1.heap.objs.size:=by obtain ⟨o,n,e,_⟩:=pl;exact aJ5 e
 refine wpAny_pyIter_enum j ⟨s1.heap.objs.size+1,[s1.heap.objs.size+1,s1.heap.objs.size],_,_,l,rfl,f.kept (t':=s1.toks) kp,asn a _ _ (Nat.succ_ne_self _) (aB6 (aF9 d)) (aB6 d),⟨⟨_,j⟩,g⟩,fun b hb=>?_,q⟩
 have c:s1.heap.objs.size<=b:=by
  rcases aA9.mp hb with rfl | hb
  ·exact Nat.le_succ _
  ·have:b=s1.heap.objs.size:=by simpa using hb
   exact Nat.le_of_eq this.symm
 exact f.fpOk c (f.hok.fresh c)
end
theorem avb {P:Program} {w:World} {K:Frag} {m:List Expr} {k:Nat} {pos:Pos} (z TI TO i1 f J M:Addr) (D:ZipApart z TI TO i1 f J M) :
  Turn P w K (.Tuple m k pos) (Itz K J M) [z,TI,TO,i1,f] z (fun i h=>IsZip h z TI TO .none/\IsPair h TI (.ref i1) (.ref f)/\(∃ a b,IsPair h TO a b)/\h.IsListIter i1 J i/\h.IsListIter f M i) where
 mem:=by simp
 obj:=fun i h st b hb=>by
  obtain ⟨p,c,⟨a,b',d⟩,⟨o1,e1,c1,d1⟩,⟨o2,e2,c2,d2⟩⟩:=st
  simp only [aA9,aI4,or_false] at hb
  rcases hb with rfl | rfl | rfl | rfl | rfl
  ·exact ⟨_,p,fun v y=>by simp at y⟩
  ·exact ⟨_,c,fun v y=>by simp at y⟩
  ·exact ⟨_,d,fun v y=>by simp at y⟩
  ·exact ⟨o1,e1,fun v y=>by rw [d1] at y;cases y⟩
  ·exact ⟨o2,e2,fun v y=>by rw [d2] at y;cases y⟩
 keep:=fun i h h' st q=>by
  obtain ⟨p,c,⟨a,b',d⟩,F,G⟩:=st
  exact ⟨q z (by simp) _ p,q TI (by simp) _ c,⟨a,b',q TO (by simp) _ d⟩,F.at fun o x=>q i1 (by simp) o x,G.at fun o x=>q f (by simp) o x⟩
 item:=by
  intro X L hw hK hc i pins s σ H E I hf st hg
  subst L hw hK
  obtain ⟨xs,ys,x,y,l,j,Y,hy⟩:=hg
  obtain ⟨us,C,Z,_⟩:=I.list l
  obtain ⟨vs,B,p2,_⟩:=I.list j
  obtain ⟨u,hu,ru⟩:=C.get Y
  obtain ⟨v,hv,rv⟩:=B.get hy
  have hi:i < min us.toArray.size vs.toArray.size:=by
   have a1:=(aA1.mp hu).1
   have a2:=(aA1.mp hv).1
   simp;omega
  obtain ⟨p,c,d,F,G⟩:=st
  have W:=WalksT.zip2 (prog:=X.prog) (w:=X.w) (I.ok.hd hc) z TI TO i1 f J M D us.toArray vs.toArray
  refine W.item i s _ _ hi ⟨p,c,d,F,G,Z.isList,p2.isList⟩ fun T a4 h3 tk L hT R mid kk=>⟨_,rfl,?_⟩
  obtain ⟨U,S,a0,a3,rfl⟩:=L
  have ex:U=u:=by
   have:us[i]?=some U:=by simpa using a0
   rw [hu] at this;cases this;rfl
  have ey:S=v:=by
   have:vs[i]?=some S:=by simpa using a3
   rw [hv] at this;cases this;rfl
  subst ex ey
  have O:=W.apart i T _ mid
  have sub:∀ b,b ∉ [z,TI,TO,i1,f]->b ∉ [z,TO,i1,f]:=fun b hb y=>hb (by simp at y ⊢;rcases y with y | y | y | y <;> simp [y])
  have Tt:T ∉ [z,TI,TO,i1,f]:=fun y=>by
   have:=(hf T y).1
   obtain ⟨o,e,_⟩:=R
   simp only [aA9,aI4,or_false] at y
   rcases y with rfl | rfl | rfl | rfl | rfl
   ·exact O (by simp)
   ·exact absurd (aJ5 c) (Nat.not_lt.mpr hT)
   ·exact O (by simp)
   ·exact O (by simp)
   ·exact O (by simp)
  refine W.go m k pos i T { s with heap:=h3,toks:=tk } _ _ mid fun h4 g k4=>?_
  have N:IsTup h4 T #[U,S]:=by
   obtain ⟨o,e1,e2,n,e3⟩:=R
   exact ⟨o,k4 T o O e1,e2,n,e3⟩
  refine ⟨.ref T,upd H T (.tup [x,y]),I.turnNew hf (fun b o hb q=>k4 b o (sub b hb) (kk b o (sub b hb) q)) hT ?_,rfl,⟨T,x,y,rfl,I.hok.fresh hT,rfl,fun zs r=>by rw [I.list_inj r l];exact Y,fun zs r=>by rw [I.list_inj r j];exact hy⟩,⟨g.1,g.2.1,g.2.2.1,g.2.2.2.1,g.2.2.2.2.1⟩,fun b hb=>?_⟩
  ·exact ⟨by show (2:Nat)<=sizeLine;decide,[U,S],.cons ru (.cons rv .nil),N⟩
  ·rw [aag]
   ·exact (hf b hb).1
   ·rintro rfl;exact Tt hb
 done:=by
  intro X L hw hK hc i pins s σ H E I hf st hg
  subst L hw hK
  obtain ⟨xs,ys,l,j,Y⟩:=hg
  obtain ⟨us,C,Z,_⟩:=I.list l
  obtain ⟨vs,B,p2,_⟩:=I.list j
  obtain ⟨p,c,d,F,G⟩:=st
  have W:=WalksT.zip2 (prog:=X.prog) (w:=X.w) (I.ok.hd hc) z TI TO i1 f J M D us.toArray vs.toArray
  have ei:min us.toArray.size vs.toArray.size=i:=by
   rw [← Y,C.length,B.length];simp
  have sub:∀ b,b ∉ [z,TI,TO,i1,f]->b ∉ [z,TO,i1,f]:=fun b hb y=>hb (by simp at y ⊢;rcases y with y | y | y | y <;> simp [y])
  rw [← ei] at F G
  exact W.done s _ _ ⟨p,c,d,F,G,Z.isList,p2.isList⟩ fun h3 tk kk=>⟨rfl,I.turnedL (t':=tk) hf fun b o hb q=>kk b o (sub b hb) q⟩
 self:=fun A i s Q E st h=>wpAny_pyIter_zip st.1 h
theorem a0r {n a b:Nat} (c:a < n) (d:b < n):ZipApart (n+4) (n+2) (n+3) n (n+1) a b:=by constructor <;> (show (_:Nat) ≠ _;omega)
section
variable {X:Cx} {elts:List Expr} {k:Nat} {tpos:Pos}
def iZip (K:Frag) (ta:TA):TI:=fun σ H R=>ta σ H fun vs H1=>∃ a b xs ys,vs=[.ref a,.ref b]/\SqL K H1 a xs/\SqL K H1 b ys/\R (Itz K a b) H1
theorem a0s {a b:Expr} {v:TA} {p pos:Pos} (E:Gl X "zip") (hm:X.mg "zip" = none) (ha:PA X [a,b] v) (hs:starEach [a,b] X.env=[(false,eval a X.env),(false,eval b X.env)]:=by rfl) (d:starEach [b] X.env=[(false,eval b X.env)]:=by rfl):PI X (.Tuple elts k tpos) (.Call (.Name "zip" p) [a,b] [] pos) (iZip X.K v):=by
 intro pins s σ H R I h
 refine Call_ (adp I E hm azy (PyProof.Rows.callWith_type1 (thn (ha pos pins s σ H _ I h) fun us s1 ⟨vs,y,f,D,a,b,xs,ys,G,i,m,q⟩=>?_) (by rw [hs,d]) (by rw [d];rfl)))
 subst G
 obtain ⟨u,c,rfl,C,A⟩:=alz D
 cases C
 cases A
 obtain ⟨_,_,w,_⟩:=f.list i
 obtain ⟨_,_,p2,_⟩:=f.list m
 have B:a < s1.heap.objs.size:=by obtain ⟨o,n,e,_⟩:=w;exact aJ5 e
 have F:b < s1.heap.objs.size:=by obtain ⟨o,n,e,_⟩:=p2;exact aJ5 e
 refine call_zip_2 w.isList p2.isList fun L r j l z J hsz kp=>?_
 refine wpAny_pyIter_zip r ⟨s1.heap.objs.size+4,[s1.heap.objs.size+4,s1.heap.objs.size+2,s1.heap.objs.size+3,s1.heap.objs.size,s1.heap.objs.size+1],_,_,y,rfl,f.kept (t':=s1.toks) kp,avb _ _ _ _ _ a b (a0r B F),⟨r,j,⟨_,_,l⟩,z,J⟩,fun c x=>?_,q⟩
 have g:s1.heap.objs.size<=c:=by
  simp only [aA9,aI4,or_false] at x
  rcases x with rfl | rfl | rfl | rfl | rfl
  ·exact Nat.le_add_right _ 4
  ·exact Nat.le_add_right _ 2
  ·exact Nat.le_add_right _ 3
  ·exact aA6 _
  ·exact Nat.le_add_right _ 1
 exact f.fpOk g (f.hok.fresh g)
end
theorem aka:∀ {xs:List V} {us:List Value},xs.length=us.length->(∀ (i:Nat) v u,xs[i]?=some v->us[i]?=some u->RelV v u)->Vals xs us
 | [],[],_,_ => .nil
 | [],_ :: _,h,_=>by simp at h
 | _ :: _,[],h,_=>by simp at h
 | x :: xs,u :: us,h,k => .cons (k 0 x u rfl rfl) (aka (by simpa using h) fun i v w a b=>k (i+1) v w (by simpa using a) (by simpa using b))
theorem a0t:bootBuiltins "abs" = some (.builtin "abs"):=by decide +kernel
theorem apw:bootBuiltins "repr" = some (.builtin "repr"):=by decide +kernel
theorem ahy (prog:Program) (w:World) (A:Around) {bs:List Bool} {us:List Value} (r:Vals (bs.map V.bl) us):TruthOf prog w A (fun i v=>us.toArray[i]?=some v) (fun i=>bs.getD i false):=by
 intro i v s Q E d h
 have b:us[i]?=some v:=by simpa using d
 have hi:i < us.length:=(aA1.mp b).1
 have hb:i < bs.length:=by have:=r.length;simp at this;omega
 obtain ⟨u,a,c⟩:=r.get (i:=i) (x:=.bl bs[i]) (by simp [hb])
 rw [b] at a;cases a
 cases (show v=Value.bool bs[i] from c)
 have e:bs.getD i false=bs[i]:=by simp [List.getD,hb]
 have h':Q (bs.getD i false) s:=h
 rw [e] at h'
 exact aK5 h'
section
variable {X:Cx}
theorem aso (bs:List Bool):((List.range bs.length).all fun i=>bs.getD i false)=bs.all id:=by
 rw [aH9,aF5,aF5]
 constructor
 ·intro h b hb
  obtain ⟨i,hi,e⟩:=aH7.mp hb
  have:=h i (aB9.mpr hi)
  simp [List.getD,hi,e] at this
  exact this
 ·intro h i hi
  have a:=aB9.mp hi
  have:=h bs[i] (aF2 a)
  simp [List.getD,a];exact this
theorem asp (bs:List Bool):((List.range bs.length).any fun i=>bs.getD i false)=bs.any id:=by
 rw [aH9,aF4,aF4]
 constructor
 ·rintro ⟨i,hi,h⟩
  have a:=aB9.mp hi
  refine ⟨bs[i],aF2 a,?_⟩
  simp [List.getD,a] at h;exact h
 ·rintro ⟨b,hb,h⟩
  obtain ⟨i,hi,e⟩:=aH7.mp hb
  refine ⟨i,aB9.mpr hi,?_⟩
  simp [List.getD,hi,e];exact h
def rAll (K:Frag):List V->Hp->VK->Prop:=fun xs H Q=>∃ (a:Addr) (bs:List Bool),xs=[.ref a]/\SqL K H a (bs.map V.bl)/\Q (.bl (bs.all id)) H
def rAny (K:Frag):List V->Hp->VK->Prop:=fun xs H Q=>∃ (a:Addr) (bs:List Bool),xs=[.ref a]/\SqL K H a (bs.map V.bl)/\Q (.bl (bs.any id)) H
theorem aen (j:X.calm=true):aa5 X (.builtin "all") (rAll X.K):=by
 intro pins s σ H xs us Q I r h
 obtain ⟨a,bs,rfl,ha,q⟩:=h
 obtain ⟨u,rfl,g⟩:=ab8 r
 cases g
 obtain ⟨its,d,c,_⟩:=I.list ha
 have i:a < s.heap.objs.size:=by obtain ⟨o,n,e,_⟩:=c;exact aJ5 e
 have f:its.toArray.size=bs.length:=by have:=d.length;simp at this;simp [this]
 refine call_all_walk (aK6 c.isList ⟨_,[s.heap.objs.size,a],_,_,_,_,_,rfl,Walks.list (A:=X.A.in1) (I.ok.hd j) _ a (aB6 i) its.toArray,⟨⟨_,aJ6 _ rfl,rfl,rfl⟩,c.isList.push _⟩,ahy _ _ _ d,fun l m kp=>?_⟩)
 rw [f,aso]
 refine ⟨.bl _,H,I.kept fun b o e=>kp b o (fun z=>?_) (aJ4 _ e),rfl,q⟩
 exact absurd (aJ5 e) (by rw [aC2.mp z];exact aG5 _)
theorem asq (j:X.calm=true):aa5 X (.builtin "any") (rAny X.K):=by
 intro pins s σ H xs us Q I r h
 obtain ⟨a,bs,rfl,ha,q⟩:=h
 obtain ⟨u,rfl,g⟩:=ab8 r
 cases g
 obtain ⟨its,d,c,_⟩:=I.list ha
 have i:a < s.heap.objs.size:=by obtain ⟨o,n,e,_⟩:=c;exact aJ5 e
 have f:its.toArray.size=bs.length:=by have:=d.length;simp at this;simp [this]
 refine call_any_walk (aK6 c.isList ⟨_,[s.heap.objs.size,a],_,_,_,_,_,rfl,Walks.list (A:=X.A.in1) (I.ok.hd j) _ a (aB6 i) its.toArray,⟨⟨_,aJ6 _ rfl,rfl,rfl⟩,c.isList.push _⟩,ahy _ _ _ d,fun l m kp=>?_⟩)
 rw [f,asp]
 refine ⟨.bl _,H,I.kept fun b o e=>kp b o (fun z=>?_) (aJ4 _ e),rfl,q⟩
 exact absurd (aJ5 e) (by rw [aC2.mp z];exact aG5 _)
def rAbs:List V->Hp->VK->Prop:=fun xs H Q=>∃ i:Int,xs=[.int i]/\Q (.int (if i < 0 then -i else i)) H
theorem asr:aa5 X (.builtin "abs") rAbs:=by
 intro pins s σ H xs us Q I r h
 obtain ⟨i,rfl,q⟩:=h
 obtain ⟨u,rfl,t,rfl⟩:=ab8 r
 exact call_abs_int fun t' a=>⟨.int _,H,I.tok _,⟨_,rfl⟩,q⟩
def ass (ta:TA):TE:=fun σ H Q=>ta σ H fun vs H1=>∃ j:Int,vs=[.int j]/\0<=j/\j<=1000000/\∀ l,H1 l=none->Q (.ref l) (upd H1 l (.lst ((List.range j.toNat).map fun (i:Nat)=>V.int (i:Int))))
theorem ann {a:Expr} {y:TA} {F p2 pos d:Pos} (K:Gl X "list") (hm:X.mg "list" = none) (x:Gl X "range") (r:X.mg "range" = none) (G:X.calm=true) (ha:PA X [a] y) (hs:starEach [a] X.env=[(false,eval a X.env)]:=by rfl)
  (g:starEach [.Call (.Name "range" p2) [a] [] d] X.env=[(false,eval (.Call (.Name "range" p2) [a] [] d) X.env)]:=by rfl):PE X (.Call (.Name "list" F) [.Call (.Name "range" p2) [a] [] d] [] pos) (ass y):=by
 intro pins s σ H Q I h
 refine Call_ (adp I K hm ajt (PyProof.Rows.callWith_type1 ?_ g rfl))
 rw [g]
 refine Calls.spliced_cons (Call_ (adp I x r boot_range (PyProof.Rows.callWith_type1 (thn (ha d pins s σ H _ I h) fun us s1 ⟨vs,O,w,J,j,M,P,R,q⟩=>?_) hs rfl)))
 subst M
 obtain ⟨u,rfl,t,rfl⟩:=ab8 J
 refine call_range_1 (Calls.spliced_nil ?_)
 have N:IsRange (s1.heap.push { cls:=.type "range",data:=.fields #[.int 0 s1.toks,.int j t,.int 1 (s1.toks+1)] }) s1.heap.objs.size 0 j 1 s1.toks t (s1.toks+1):=aJ6 _ rfl
 have hn:Builtin.Range.rangeSize 0 j 1=((j.toNat:Nat):Int):=by rw [rangeSize_one];split <;> omega
 refine call_list_range (s:={ s1 with heap:=s1.heap.push { cls:=.type "range",data:=.fields #[.int 0 s1.toks,.int j t,.int 1 (s1.toks+1)] },toks:=s1.toks+1+1 }) (w.ok.hd G) N (small_one (by omega) (by omega) (by omega) (by omega)) hn (by omega) fun C E m c kp D items=>?_
 have L:∀ b o,s1.heap.get? b=some o->C.get? b=some o:=fun b o e=>kp b o (aJ4 _ e)
 have f:s1.heap.objs.size<=(s1.heap.push { cls:=.type "range",data:=.fields #[.int 0 s1.toks,.int j t,.int 1 (s1.toks+1)] }).objs.size:=by rw [aK3];exact Nat.le_succ _
 refine ⟨.ref _,_,w.laid (t':=E) (o:=.lst ((List.range j.toNat).map fun (i:Nat)=>V.int (i:Int))) L f ?_,rfl,q _ (w.hok.fresh f)⟩
 refine ⟨by rw [aA3,aE0];exact aG6 (VL.big (by omega)),m.toList,c,?_,by simpa using D⟩
 obtain ⟨A,p⟩:=items
 refine aka (by simp [A]) fun i v u n z=>?_
 have l:m[i]?=some u:=by simpa using z
 obtain ⟨t',B⟩:=p i u l
 rw [aA5] at n
 have hi:i < j.toNat:=by
  have:=(Array.getElem?_eq_some_iff.mp l).1
  omega
 rw [aA0 (by simpa using hi)] at n
 simp at n
 subst n
 exact ⟨t',by rw [B];simp⟩
end
section
variable {X:Cx} {pins:List (Addr × Obj)} {σ:St} {H:Hp} {s:Shared}
end
section
variable {X:Cx} {tg:Expr}
def ahj:List V->Hp->VK->Prop:=fun xs H Q=>∃ (a:Addr) (kvs:List (List Key × V)) (kss:List (List Int)),xs=[.ref a]/\H a=some (.dT kvs)/\kvs.map (·.1)=kss.map (fun ns=>ns.map Sum.inl)/\(∀ ns∈kss,ns ≠ []) /\
 ∀ (vs:List V) (p:Addr),(∀ v∈vs,TupI H v)->(vs.map (kH H)).Perm kss->vs.Pairwise (fun x y=>HT.lexLt (kH H y) (kH H x)=false)->H p=none->Q (.ref p) (upd H p (.lst vs))
theorem apx {H:Hp}:∀ {kvs:List (List Key × V)} {xs:List (List Key × Addr × Value)} {a:List (List Int)},KT H kvs xs->kvs.map (·.1)=a.map (fun ns=>ns.map Sum.inl)->(∀ ns∈a,ns ≠ []) ->
  (∀ v∈xs.map (fun q=>V.ref q.2.1),TupI H v)/\(xs.map (fun q=>V.ref q.2.1)).map (kH H)=a
 | _,_,[],.nil,_,_=>⟨fun v b=>by simp at b,rfl⟩
 | _,_,_ :: _,.nil,h,_=>by simp at h
 | _,_,[],.cons _ _,h,_=>by simp at h
 | p :: kvs,q :: xs,ns :: a,.cons r t,h,hn=>by
  simp only [aD1,List.cons.injEq] at h
  obtain ⟨i1,d⟩:=apx t h.2 fun c hm=>hn c (aB5 _ hm)
  have e:H q.2.1=some (.tup (ns.map V.int)):=by
   rw [r.2.1,h.1,aD9];rfl
  refine ⟨fun v b=>?_,?_⟩
  ·rcases aA9.mp b with rfl | b
   ·exact ⟨_,ns,rfl,e,hn ns aB8⟩
   ·exact i1 v b
  ·rw [aD1,aD1,al5 e,d]
theorem aon (hc:X.calm=true):aa5 X (.builtin "sorted") ahj:=by
 intro pins s σ H xs us Q I r h
 obtain ⟨a,kvs,U,rfl,N,hk,D,q⟩:=h
 obtain ⟨u,rfl,O⟩:=ab8 r
 cases O
 obtain ⟨z,y,ys,B,o,es,ep,S,m,h3,M,h5⟩:=(show ObjOk X.prog X.w H s.heap a (.dT kvs) from I.hok a _ N)
 obtain ⟨t1,t2⟩:=apx B hk D
 have hz:es.size=ys.length:=by
  have e1:es.toList.length=ys.length:=by rw [M];simp
  simpa using e1
 have g:ys.length<=sizeLine:=by have:=Paired.length B;omega
 let c:List Value:=ys.map fun q => .ref q.2.1
 have K:Vals (ys.map fun q=>V.ref q.2.1) c:=aka (by simp [c]) fun i v u d n=>by
  rw [aA5] at d n
  cases e:ys[i]? with
  | none=>rw [e] at d;cases d
  | some q=>rw [e] at d n;cases d;cases n;rfl
 obtain ⟨b1,L⟩:=ags K t1
 have fin:∀ out:List Value,out.Perm c->(out.map adu).Pairwise (fun x y=>HT.lexLt (kH H y) (kH H x)=false)->∀ p m j e,(∀ b o,s.heap.get? b=some o->m.get? b=some o)->s.heap.objs.size<=p->m.get? p=some (seqObj "list" out.toArray e)->EP X pins σ Q (.ref p) { s with heap:=m,toks:=j }:=by
  intro out f hs p m j e kp hsz he
  have d:Vals (out.map adu) out:=agr fun u n=>b1 u (f.mem_iff.mp n)
  refine ⟨.ref p,_,I.laid (t':=j) (o:=.lst (out.map adu)) kp hsz ?_,rfl,q _ _ (fun v C=>?_) ?_ hs (I.hok.fresh hsz)⟩
  ·refine ⟨by rw [aA3,f.length_eq];simp [c];exact g,out,e,d,by rw [he]⟩
  ·have:=(f.map adu).mem_iff.mp C
   rw [L] at this;exact t1 v this
  ·have:=(f.map adu).map (kH H)
   rw [L,t2] at this;exact this
 refine TS.sorted_gen (Ok:=fun vs=>vs=c) (fun Qc E=>DI.collect_src (DI.src a es ep y) (I.ok.hd hc) ⟨o,S,m,h3⟩ (by omega) fun h' j l kp hsz items=>E _ h' j kp hsz ?_) (fun vs e=>by subst e;simp [c];exact g) (fun vs e R h' j kp=>?_) fun vs e F=>?_
 ·obtain ⟨i1,Z⟩:=items
  apply aG3
  intro i
  simp only [c,aA5]
  by_cases hi:i < ys.length
  ·have ha:l[i]?=some l[i]:=aA4 (by omega)
   have:(es[i]?).map (·.key)=some l[i]:=Z i _ ha
   have J:es[i]?=some es[i]:=aA4 (by omega)
   rw [J] at this
   have G:es.toList[i]?=some es[i]:=by rw [aD5];exact J
   rw [M,aA5,aA0 hi] at G
   rw [aA0 hi]
   simp at this G
   rw [aD5,ha,← this,← G];rfl
  ·rw [aF8.mpr (by simp;omega),aF8.mpr (by omega)];rfl
 ·subst e
  obtain ⟨⟨fs,k1,k2,k3⟩,k4⟩:=aia I kp K t1
  have A:(Value.type "int" != Value.type "tuple")=true:=by rfl
  refine ⟨tuples' true,TS.tS h' (fun a=>kH H (.ref a)),TS.tR (fun a=>kH H (.ref a)),fun Q' E=>?_,TS.cmp_tups (s:={ s with heap:=h',toks:=j }) (fun a=>kH H (.ref a)),fun v d=>?_,fun out f hs=>fin out f ?_⟩
  ·refine PySem.W.kat_kind (T:=.type "int") (s:={ s with heap:=h',toks:=j }) k1 (by omega) (fun v d=>?_) (by rfl) ?_
   ·obtain ⟨i,t,rfl⟩:=k3 v d
    exact .now
   ·rw [A];exact E
  ·obtain ⟨a,e,P⟩:=k4 v d
   exact ⟨rfl,a,e,P⟩
  ·rw [aG2]
   refine aI1 ?_ hs
   intro x y hx hy Y
   obtain ⟨ax,rfl⟩:=b1 x (f.mem_iff.mp hx)
   obtain ⟨ay,rfl⟩:=b1 y (f.mem_iff.mp hy)
   exact Y
 ·subst e
  exact fin c (List.Perm.refl _) (anc (by rw [aA3];exact F))
end
end L2
namespace VL
open PySem PySem.Spec L2
def enD (ds:List PyData):List PyData:=(List.range ds.length).map fun (i:Nat) => .tuple [.int (i:Int),ds.getD i .none]
def zipD (xs ys:List PyData):List PyData:=(xs.zip ys).map fun p => .tuple [p.1,p.2]
theorem adz {ds:List PyData}:(enD ds).length=ds.length:=by simp [enD]
theorem akb {ds:List PyData} {i:Nat} {d:PyData} (h:(enD ds)[i]?=some d):∃ x,ds[i]?=some x/\d=.tuple [.int (i:Int),x]:=by
 unfold enD at h
 rw [aA5] at h
 by_cases hi:i < ds.length
 ·rw [aA0 (by simpa using hi)] at h
  simp at h
  refine ⟨ds[i],aA0 hi,?_⟩
  rw [← h]
  simp [hi]
 ·rw [aF8.mpr (by simp;omega)] at h;cases h
theorem avc {xs ys:List PyData} {i:Nat} {d:PyData} (h:(zipD xs ys)[i]?=some d):∃ x y,xs[i]?=some x/\ys[i]?=some y/\d=.tuple [x,y]:=by
 unfold zipD at h
 rw [aA5] at h
 cases e:(xs.zip ys)[i]? with
 | none=>rw [e] at h;cases h
 | some p =>
  rw [e] at h
  cases h
  obtain ⟨a,b⟩:=List.getElem?_zip_eq_some.mp e
  exact ⟨p.1,p.2,a,b,rfl⟩
theorem Out.tup2 {G H:Hp} {p:Addr} {x y:V} {d e:PyData} (g:Same G H) (h:H p=none) (b:Rp G x d) (a:Rp G y e):Out G H (.ref p) (upd G p (.tup [x,y])) (upd H p (.tup [x,y])) (.st (.tuple [d,e])) (fun _=>False):=Out.newT g h (.cons b (.cons a .nil))
section
variable {B:Bs} {env:En} {QI:List PyData->En->Prop} {QO:Sl->En->Prop} {Q':PyData->En->Prop} {K:Frag} {i:Nat} {ta:TA}
theorem avd (h:EvA B ta env fun vs e=>∃ ds,vs=[.list ds]/\QI (enD ds) e):EvI B (awj K ta) env QI:=fun σ G H F R I k =>
 h σ G H F _ I fun vs m c z ds C b q w D=>by
  obtain ⟨xs,A,j⟩:=D
  subst A
  cases w with
  | cons r t =>
   cases t
   cases r with
   | @lst a us _ ha rs =>
    refine ⟨a,us,rfl,SqL.of (b.gh _ _ ha),k _ m c z _ C b q ⟨fun i G' H' g h hi=>?_,fun i G' H' g h hi=>?_,fun i G' H' x H'' d g h ft hd y=>?_⟩ j⟩
    ·have:i < us.length:=by rw [rs.length];rw [adz] at hi;exact hi
     exact ⟨us,us[i],SqL.of (h _ _ (g _ _ ha)),aA0 this⟩
    ·exact ⟨us,SqL.of (h _ _ (g _ _ ha)),by rw [rs.length];rw [adz] at hi;exact Nat.le_of_eq hi.symm⟩
    ·obtain ⟨p,v,rfl,s,rfl,o⟩:=y
     obtain ⟨dx,n,rfl⟩:=akb hd
     obtain ⟨u,f,l⟩:=rs.get n
     have:=o us (SqL.of (h _ _ (g _ _ ha)))
     rw [f] at this;cases this
     exact ⟨_,Out.tup2 h s (.int _) (l.same g)⟩
theorem ax4 (h:EvA B ta env fun vs e=>∃ xs ys,vs=[.list xs,.list ys]/\QI (zipD xs ys) e):EvI B (iZip K ta) env QI:=fun σ G H F R I k =>
 h σ G H F _ I fun vs D n Q ds c j N P T=>by
  obtain ⟨xs,ys,S,s⟩:=T
  subst S
  cases P with
  | cons r t =>
   cases t with
   | cons r2 t =>
    cases t
    cases r with
    | @lst a us _ ha rs =>
     cases r2 with
     | @lst b ws _ hb rs2 =>
      have E:(zipD xs ys).length=min us.length ws.length:=by simp [zipD,rs.length,rs2.length]
      refine ⟨a,b,us,ws,rfl,SqL.of (j.gh _ _ ha),SqL.of (j.gh _ _ hb),k _ D n Q _ c j N ⟨fun i G' H' g h hi=>?_,fun i G' H' g h hi=>?_,fun i G' H' x H'' d g h ft hd y=>?_⟩ s⟩
      ·have z:i < us.length:=by omega
       have A:i < ws.length:=by omega
       exact ⟨us,ws,us[i],ws[i],SqL.of (h _ _ (g _ _ ha)),SqL.of (h _ _ (g _ _ hb)),aA0 z,aA0 A⟩
      ·exact ⟨us,ws,SqL.of (h _ _ (g _ _ ha)),SqL.of (h _ _ (g _ _ hb)),by rw [← E];exact hi.symm⟩
      ·obtain ⟨p,v,w,rfl,O,rfl,M,o⟩:=y
       obtain ⟨dx,U,J,L,rfl⟩:=avc hd
       obtain ⟨u,q,C⟩:=rs.get J
       obtain ⟨W,f,l⟩:=rs2.get L
       have c:=M us (SqL.of (h _ _ (g _ _ ha)))
       have m:=o ws (SqL.of (h _ _ (g _ _ hb)))
       rw [q] at c;cases c
       rw [f] at m;cases m
       exact ⟨_,Out.tup2 h O (C.same g) (l.same g)⟩
theorem RpT.len {G:Hp}:∀ {kvs:List (List Key × V)} {es:List (List Key × PyData)},RpT G kvs es->kvs.length=es.length/\kvs.map (·.1)=es.map (·.1)
 | _,_,.nil=>⟨rfl,rfl⟩
 | _,_,.cons _ t=>by
  obtain ⟨a,b⟩:=RpT.len t
  exact ⟨by simp [a],by simp [b]⟩
@[reducible] def tkD (ks:List Key):PyData:=.tuple (ks.map kD)
@[reducible] def tiD (ns:List Int):PyData:=.tuple (ns.map .int)
def lexS (pss:List (List Int)):Prop:=pss.Pairwise fun x y=>HT.lexLt y x=false
theorem aic {G H:Hp} (ft:FT G H):∀ {vs:List V},(∀ v∈vs,TupI H v)->Rps G vs ((vs.map (kH H)).map tiD)
 | [],_ => .nil
 | v :: vs,h=>by
  obtain ⟨t,ns,rfl,e,_⟩:=h v aB8
  rw [aD1,aD1,al5 e]
  have:(ns.map V.int)=(ns.map (fun i=>(Sum.inl i:Key))).map kV:=by rw [aD9];rfl
  refine .cons (.tup ?_ (Rps.ints ns)) (aic ft fun u a=>h u (aB5 _ a))
  rw [this];exact ft t _ (by rw [← this];exact e)
theorem ahz {G H:Hp} (gh:Same G H):∀ {vs:List V} {pss:List (List Int)},Rps G vs (pss.map tiD)->(∀ ns∈pss,ns ≠ [])->(∀ v∈vs,TupI H v)/\vs.map (kH H)=pss
 | _,[],.nil,_=>⟨fun v b=>by simp at b,rfl⟩
 | v :: vs,ns :: pss,.cons r t,hn=>by
  obtain ⟨i1,d⟩:=ahz gh t fun c hm=>hn c (aB5 _ hm)
  cases r with
  | tup h rs =>
   have:=Rps.ints_inv rs
   subst this
   have e:=gh _ _ h
   refine ⟨fun u a=>?_,by rw [aD1,al5 e,d]⟩
   rcases aA9.mp a with rfl | a
   ·exact ⟨_,ns,rfl,e,hn ns aB8⟩
   ·exact i1 u a
theorem ast {pss:List (List Int)} (hn:∀ ns∈pss,ns ≠ []) (h:EvA B ta env fun ds e=>ds=[.list (pss.map tiD)]/\∀ b:List (List Int),b.Perm pss->lexS b->QO (.own (OL (b.map tiD))) e):EvO B (tCB (aiw K) ta) env QO:=fun σ G H F Q I k =>
 h σ G H F _ I fun vs y d q ds w c m n x=>by
  obtain ⟨s,g⟩:=x
  subst s
  cases n with
  | cons r t =>
   cases t
   cases r with
   | @lst a us _ ha rs =>
    obtain ⟨t1,j⟩:=ahz c.gh rs hn
    refine ⟨a,us,rfl,SqL.of (c.gh _ _ ha),t1,fun u p f hs hf=>?_⟩
    have i:∀ v∈u,TupI d v:=fun v l=>t1 v (f.mem_iff.mp l)
    have o:=Out.newL c.gh hf (aic c.ft i)
    refine k _ _ _ q _ _ w (c.out o).1 (m.trans o.gg) (c.out o).2 (g _ ?_ ?_)
    ·have:=f.map (kH d);rw [j] at this;exact this
    ·unfold lexS;rw [aG2];exact hs
theorem aq2 {es:List (List Key × PyData)} {b:List (List Int)} (g:Has env i (OT es)) (m:es.map (·.1)=b.map (fun ns=>ns.map Sum.inl)) (hn:∀ ns∈b,ns ≠ []) (q:∀ c:List (List Int),c.Perm b->lexS c->QO (.own (OL (c.map tiD))) env):EvO B (tCB ahj (aa6 (tVar i) tNil)) env QO:=fun σ G H F Q I k=>by
 obtain ⟨v,h,a,kvs,rfl,ha,rt,hf⟩:=I.has g
 obtain ⟨n,l⟩:=RpT.len rt
 refine ⟨_,h,a,kvs,b,rfl,ha,by rw [l,m],hn,fun r p f j hs d=>?_⟩
 have o:=Out.newL I.gh d (aic I.ft f)
 refine k _ _ _ F _ _ env (I.out o).1 o.gg (I.out o).2 (q _ j ?_)
 unfold lexS;rw [aG2];exact hs
end
section
variable {B:Bs} {env:En} {QO:Sl->En->Prop} {Q':PyData->En->Prop} {K:Frag} {i:Nat} {ta:TA} {R:Sl->Prop}
theorem Rps.bools_inv {G:Hp}:∀ {bs:List Bool} {vs:List V},Rps G vs (bs.map PyData.bool)->vs=bs.map V.bl
 | [],_,.nil=>rfl
 | b :: bs,_,.cons r t=>by
  cases r
  rw [Rps.bools_inv t];rfl
theorem afp {bs:List Bool} (h:R (.st (.bool (bs.all id)))):OpA (rAll K) [.list (bs.map .bool)] R:=fun G H vs Q gh rs k=>by
 cases rs with
 | cons r t =>
  cases t
  cases r with
  | lst ha ra =>
   have:=Rps.bools_inv ra
   subst this
   exact ⟨_,bs,rfl,SqL.of (gh _ _ ha),k _ _ _ _ _ (Out.refl gh (.bl _)) h⟩
theorem ax5 {bs:List Bool} (h:R (.st (.bool (bs.any id)))):OpA (rAny K) [.list (bs.map .bool)] R:=fun G H vs Q gh rs k=>by
 cases rs with
 | cons r t =>
  cases t
  cases r with
  | lst ha ra =>
   have:=Rps.bools_inv ra
   subst this
   exact ⟨_,bs,rfl,SqL.of (gh _ _ ha),k _ _ _ _ _ (Out.refl gh (.bl _)) h⟩
theorem ax6 {n:Int} (h:R (.st (.int (if n < 0 then -n else n)))):OpA rAbs [.int n] R:=fun G H vs Q gh rs k=>by
 obtain rfl:vs=[V.int n]:=Rps.ints_inv (ns:=[n]) rs
 exact ⟨n,rfl,k _ _ _ _ _ (Out.refl gh (.int _)) h⟩
theorem asu {G:Hp} (n:Nat):Rps G ((List.range n).map fun (i:Nat)=>V.int (i:Int)) (rngD 0 n):=by
 unfold rngD
 refine anl (by simp) fun i v d a hd=>?_
 rw [aA5] at a hd
 cases e:(List.range n)[i]? with
 | none=>rw [e] at a;cases a
 | some m=>rw [e] at a hd;cases a;cases hd;show Rp G (.int (m:Int)) (.int (0+(m:Int)));rw [aI8];exact .int _
theorem asv (h:EvA B ta env fun ds e=>∃ j:Int,ds=[.int j]/\0<=j/\j<=1000000/\QO (.own (OL (rngD 0 j.toNat))) e):EvO B (ass ta) env QO:=fun σ G H F Q I k =>
 h σ G H F _ I fun vs s r i ds m a d g q=>by
  obtain ⟨j,l,c,n,b⟩:=q
  subst l
  obtain rfl:vs=[V.int j]:=Rps.ints_inv (ns:=[j]) g
  refine ⟨j,rfl,c,n,fun p f=>?_⟩
  have o:=Out.newL a.gh f (asu j.toNat)
  exact k _ _ _ i _ _ m (a.out o).1 (d.trans o.gg) (a.out o).2 b
end
section
variable {κ:Type} [DecidableEq κ] {α:Type}
def valD (es:List (κ × α)) (k : κ):Option α:=(es.find? fun e=>decide (e.1=k)).map (·.2)
def putD (es:List (κ × α)) (k : κ) (d : α):List (κ × α):=if (es.any fun e=>decide (e.1=k))=true then es.map (fun e=>if e.1=k then (e.1,d) else e) else es ++ [(k,d)]
end
theorem RpT.any {G:Hp} {k:List Key}:∀ {kvs:List (List Key × V)} {es:List (List Key × PyData)},RpT G kvs es->(kvs.any fun e=>decide (e.1=k))=es.any fun e=>decide (e.1=k)
 | _,_,.nil=>rfl
 | _,_,.cons r t=>by simp [RpT.any t]
theorem RpT.map {G:Hp} {k:List Key} {v:V} {d:PyData} (h:Rp G v d):∀ {kvs:List (List Key × V)} {es:List (List Key × PyData)},RpT G kvs es->RpT G (kvs.map fun e=>if e.1=k then (e.1,v) else e) (es.map fun e=>if e.1=k then (e.1,d) else e)
 | _,_,.nil => .nil
 | _,_,.cons (k:=k') r t=>by
  by_cases e:k'=k
  ·simp only [aD1,e,if_true];exact .cons h (RpT.map h t)
  ·simp only [aD1,e,if_false];exact .cons r (RpT.map h t)
theorem RpT.append {G:Hp}:∀ {a b:List (List Key × V)} {c d:List (List Key × PyData)},RpT G a c->RpT G b d->RpT G (a ++ b) (c ++ d)
 | _,_,_,_,.nil,s=>s
 | _,_,_,_,.cons r t,s => .cons r (RpT.append t s)
theorem RpT.put {G:Hp} {k:List Key} {v:V} {d:PyData} (h:Rp G v d) {kvs:List (List Key × V)} {es:List (List Key × PyData)} (r:RpT G kvs es):RpT G (putK kvs k v) (putD es k d):=by
 unfold putK putD
 rw [r.any]
 split
 ·exact r.map h
 ·exact r.append (.cons h .nil)
theorem a13 {G:Hp} {v:V} {k:Key} (r:Rp G v (kD k)):v=kV k:=by
 cases k with
 | inl i=>cases r;rfl
 | inr x=>cases r;rfl
theorem ano {G:Hp}:∀ {ks:List Key} {vs:List V},Rps G vs (ks.map kD)->vs=ks.map kV
 | [],_,.nil=>rfl
 | k :: ks,_,.cons r t=>by rw [a13 r,ano t];rfl
section
variable {B:Bs} {env:En} {QO:Sl->En->Prop} {Q':PyData->En->Prop} {D':VEnds} {i:Nat} {te ty tv td:TE}
theorem asw (q:QO (.own (OT [])) env):EvO B arz env QO:=fun σ G H F Q I k p a=>by
 have o:=Out.newDT (ds:=[]) I.gh a .nil
 exact k _ _ _ F _ _ env (I.out o).1 o.gg (I.out o).2 q
theorem asx {l:List (List Key × PyData)} (h:Ev B tv env fun d p=>Has p i (OT l)/\Ev B ty p fun y q=>∃ es ks,q[i]?=some (some (.own (OT es)))/\y=tkD ks/\es.length<=999999/\D'.nx (q.set i (some (.own (OT (putD es ks d)))))):EvS B (aqj (tVar i) ty tv) D' env:=fun σ G H F D I r =>
 h σ G H F _ I fun v C x L d p w E K M=>by
  obtain ⟨P,z⟩:=M
  obtain ⟨v0,n,a,kvs,rfl,ha,rt,_⟩:=w.has P
  refine ⟨_,n,z σ C x L _ w fun T N H2 F2 y q m u J ⟨es,ks,c,A,R,O⟩=>?_⟩
  subst A
  obtain ⟨Q,f,⟨S,s,j,o,g,hf⟩,hb⟩:=m.sl i _ c
  rw [n] at f;cases f;cases j
  cases J with
  | tup hk rs =>
   have:=ano rs
   subst this
   refine ⟨a,_,rfl,DPut.t o (m.gh _ _ hk) (by rw [(RpT.len g).1];exact big (by omega)),?_⟩
   exact r.nx σ N _ _ _ (m.upd1 (A':=OT (putD es ks d)) c (.inl rfl) n hf ⟨a,_,rfl,aaj,g.put (K.same u),fun b=>Iff.rfl⟩) (E.trans u) O
end
section
variable {B:Bs} {env:En} {QO:Sl->En->Prop} {Q':PyData->En->Prop} {QE:En->Prop} {D':VEnds} {K:Frag} {i:Nat} {ta:TA}
theorem ai3 {ns:List Int} {tl f:TO} (e:env[i]?=some (some (.scr ns))) (l:B.K=K) (h:EvOp B tl env fun lo j=>EvOp B f j fun hi c=>QO (.own (OL (cutD (ns.map .int) lo hi))) c):EvO B (tSl (rSlL K) (tVar i) tl f) env QO:=fun σ G H F Q I k=>by
 subst l
 obtain ⟨v0,n,⟨a,s,r⟩,_⟩:=I.sl i _ e
 subst s
 refine ⟨_,n,h σ G H F _ I fun lo w H2 F2 j m d x=>x σ w H2 F2 _ m fun hi y H3 u c b g v=>⟨a,_,rfl,b.gh.seq (g.seq (d.seq r)),fun p q=>?_⟩⟩
 have o:=Out.newL (xs:=cutV (ns.map V.int) lo hi) (ds:=cutD (ns.map .int) lo hi) b.gh q (by
  unfold cutV cutD
  rw [aA3,aA3]
  exact ((Rps.ints ns).drop _).take _)
 exact k _ _ _ u _ _ c (b.out o).1 (d.trans (g.trans o.gg)) (b.out o).2 v
theorem asz {ns:List Int} {tl c:TO} (e:env[i]?=some (some (.scr ns))) (d:B.K=K) (h:EvOp B tl env fun lo f=>EvOp B c f fun hi g=>Q' (.list (cutD (ns.map .int) lo hi)) g):Ev B (tSl (rSlL K) (tVar i) tl c) env Q':=abt (ai3 e d fun σ G H F Q I k=>h σ G H F Q I fun lo G' H' F' a b g' q=>k lo G' H' F' a b g' fun σ G H F Q I k=>q σ G H F Q I fun hi G' H' F' a b g' q=>k hi G' H' F' a b g' (adw q))
theorem as0 (h:EvA B ta env fun ds e=>∃ ns:List Int,ds=[.list (ns.map .int)]/\ns.length < 64/\∀ b:List Int,b.Perm ns->b.Pairwise (·<=·)->QO (.own (OL (b.map .int))) e):EvO B (tCB (amy K) ta) env QO:=fun σ G H F Q I k =>
 h σ G H F _ I fun vs u s l ds n c g j q=>by
  obtain ⟨ns,m,f,d⟩:=q
  subst m
  cases j with
  | cons r t =>
   cases t
   cases r with
   | @lst a us _ ha rs =>
    have:=Rps.ints_inv rs
    subst this
    refine ⟨a,ns,rfl,SqL.of (c.gh _ _ ha),f,fun b p i hs hf=>?_⟩
    have o:=Out.newL c.gh hf (Rps.ints b)
    exact k _ _ _ l _ _ n (c.out o).1 (g.trans o.gg) (c.out o).2 (d _ i hs)
theorem x_en {ds:List PyData} {R:List PyData->Prop} (h:R ds):∃ xs,[PyData.list ds]=[.list xs]/\R xs:=⟨ds,rfl,h⟩
theorem a14 {xs ys:List PyData} {R:List PyData->List PyData->Prop} (h:R xs ys):∃ us vs,[PyData.list xs,.list ys]=[.list us,.list vs]/\R us vs:=⟨xs,ys,rfl,h⟩
theorem ax7 {j:Int} {R:Int->Prop} (b:0<=j) (a:j<=1000000) (h:R j):∃ i:Int,[PyData.int j]=[.int i]/\0<=i/\i<=1000000/\R i:=⟨j,rfl,b,a,h⟩
theorem x_dT {es:List (List Key × PyData)} {a b:Int} {c:En} {R:List (List Key × PyData)->List Key->Prop} (e:c[i]?=some (some (.own (OT es)))) (d:es.length<=999999) (q:R es [.inl a,.inl b]):∃ es ks,c[i]?=some (some (.own (OT es)))/\PyData.tuple [.int a,.int b]=tkD ks/\es.length<=999999/\R es ks:=⟨es,_,e,rfl,d,q⟩
end
def ltP (p q:Int × Int):Prop:=p.1 < q.1\/(p.1=q.1/\p.2 < q.2)
@[reducible] def p2 (p:Int × Int):List Int:=[p.1,p.2]
theorem lex2 (p q:Int × Int):HT.lexLt (p2 p) (p2 q)=true ↔ ltP p q:=by
 obtain ⟨a,b⟩:=p
 obtain ⟨c,d⟩:=q
 simp [p2,HT.lexLt,ltP]
 split <;> omega
theorem ai4 {a:List (List Int)} {ps:List (Int × Int)} (h:a.Perm (ps.map p2)):∃ b:List (Int × Int),a=b.map p2/\b.Perm ps:=by
 refine ⟨a.map fun l=>(l.getD 0 0,l.getD 1 0),?_,?_⟩
 ·rw [aD9]
  symm
  conv=>rhs;rw [← List.map_id a]
  apply aE9
  intro l c
  obtain ⟨p,_,rfl⟩:=aB7.mp (h.mem_iff.mp c)
  rfl
 ·have:=h.map fun l=>(l.getD 0 0,l.getD 1 0)
  rw [aD9] at this
  have e:((fun l:List Int=>(l.getD 0 0,l.getD 1 0)) ∘ p2)=id:=by funext p;rfl
  rw [e,List.map_id] at this
  exact this
def Rise (es:List (Int × Int)):Prop:=es.Pairwise ltP
theorem ahk (p:Int × Int):¬ ltP p p:=by unfold ltP;omega
theorem ax8 (p q:Int × Int):ltP p q\/p=q\/ltP q p:=by
 obtain ⟨a,b⟩:=p
 obtain ⟨c,d⟩:=q
 unfold ltP
 simp only [Prod.mk.injEq]
 omega
theorem as4 {p q r:Int × Int} (h:ltP p q) (g:ltP q r):ltP p r:=by unfold ltP at *;omega
theorem apy {a ps:List (Int × Int)} (c:a.Perm ps) (hn:ps.Nodup) (hs:lexS (a.map p2)):Rise a:=by
 have b:a.Nodup:=c.nodup_iff.mpr hn
 unfold lexS at hs
 rw [aG2] at hs
 unfold Rise
 refine (List.Pairwise.and hs b).imp fun {p q} h=>?_
 have d:¬ ltP q p:=fun z=>by rw [(lex2 q p).mpr z] at h;exact absurd h.1 (by simp)
 rcases ax8 p q with z | z | z
 ·exact z
 ·exact absurd z h.2
 ·exact absurd z d
theorem Rise.eq:∀ {as bs:List (Int × Int)},Rise as->Rise bs->(∀ p,p∈as ↔ p∈bs)->as=bs
 | [],[],_,_,_=>rfl
 | [],b :: _,_,_,h=>by have:=(h b).mpr aB8;simp at this
 | a :: _,[],_,_,h=>by have:=(h a).mp aB8;simp at this
 | a :: as,b :: bs,ha,hb,h=>by
  obtain ⟨d,f⟩:=aI6.mp ha
  obtain ⟨c,j⟩:=aI6.mp hb
  have e:a=b:=by
   rcases aA9.mp ((h a).mp aB8) with e | e
   ·exact e
   ·rcases aA9.mp ((h b).mpr aB8) with g | g
    ·exact g.symm
    ·exact absurd (as4 (d b g) (c a e)) (ahk a)
  subst e
  have:=Rise.eq f j fun p=>by
   have i:=h p
   simp only [aA9] at i
   constructor
   ·intro m
    rcases i.mp (.inr m) with e | e
    ·subst e;exact absurd (d p m) (ahk p)
    ·exact e
   ·intro m
    rcases i.mpr (.inr m) with e | e
    ·subst e;exact absurd (c p m) (ahk p)
    ·exact e
  rw [this]
structure WebOk (n:Int) (es:List (Int × Int)):Prop where
 lo:1<=n
 hi:n<=60
 inn:∀ p∈es,0<=p.1/\p.1 < p.2/\p.2 < n
 rise:Rise es
theorem afg {n:Nat} {es:List (Int × Int)} (hn:es.Nodup) (hi:∀ p∈es,0<=p.1/\p.1 < (n:Int)/\0<=p.2/\p.2 < (n:Int)):es.length<=n * n:=by
 have g:(es.map fun (p:Int × Int)=>p.1 * (n:Int)+p.2).Nodup:=by
  unfold List.Nodup
  rw [aG2]
  refine aI1 ?_ hn
  intro p q d h c e
  have a:=hi p d
  have b:=hi q h
  apply c
  have f:p.1=q.1:=by
   rcases Int.lt_trichotomy p.1 q.1 with z | z | z
   ·have:(p.1+1) * n<=q.1 * n:=Int.mul_le_mul_of_nonneg_right (by omega) (by omega)
    rw [Int.add_mul] at this;omega
   ·exact z
   ·have:(q.1+1) * n<=p.1 * n:=Int.mul_le_mul_of_nonneg_right (by omega) (by omega)
    rw [Int.add_mul] at this;omega
  rw [f] at e
  exact Prod.ext f (by omega)
 have:=L2.few_places (n * n) _ g fun v i=>by
  obtain ⟨p,d,rfl⟩:=aB7.mp i
  have a:=hi p d
  have l:0<=p.1 * (n:Int):=Int.mul_nonneg a.1 (by omega)
  have j:(p.1+1) * (n:Int)<=n * n:=Int.mul_le_mul_of_nonneg_right (by omega) (by omega)
  rw [Int.add_mul] at j
  push_cast
  omega
 simpa using this
def kE (ps:List (Int × Int)):List (List Key × PyData):=ps.map fun p=>([Sum.inl p.1,Sum.inl p.2],.bool true)
def addP (ps:List (Int × Int)) (p:Int × Int):List (Int × Int):=if p∈ps then ps else ps ++ [p]
theorem aky {ps:List (Int × Int)}:(kE ps).length=ps.length:=by simp [kE]
theorem anp (ps:List (Int × Int)) (a b:Int):putD (kE ps) [Sum.inl a,Sum.inl b] (.bool true)=kE (addP ps (a,b)):=by
 have c:((kE ps).any fun e=>decide (e.1=[Sum.inl a,Sum.inl b]))=decide ((a,b)∈ps):=by
  rw [aH9,aF4,decide_eq_true_iff]
  constructor
  ·rintro ⟨e,f,h⟩
   obtain ⟨p,d,rfl⟩:=aB7.mp f
   simp at h
   obtain ⟨g,p2⟩:=p
   simp at h
   rw [← h.1,← h.2];exact d
  ·intro h
   exact ⟨_,aB7.mpr ⟨(a,b),h,rfl⟩,by simp⟩
 unfold putD
 rw [c]
 unfold addP
 by_cases h:(a,b)∈ps
 ·rw [aF6 (by simpa using h),aF6 h]
  unfold kE
  rw [aD9]
  apply aE9
  intro p _
  simp only [Function.comp]
  split <;> rfl
 ·rw [aF7 (by simpa using h),aF7 h]
  simp [kE]
theorem addP_mem {ps:List (Int × Int)} {p q:Int × Int}:q∈addP ps p ↔ q∈ps\/q=p:=by
 unfold addP
 split
 ·rename_i h
  exact ⟨.inl,fun z=>z.elim id fun e=>e ▸ h⟩
 ·simp
theorem ai5 {ps:List (Int × Int)} {p:Int × Int} (h:ps.Nodup):(addP ps p).Nodup:=by
 unfold addP
 split
 ·exact h
 ·rename_i hn
  rw [aE7]
  exact ⟨h,by simp,fun x b y a=>by simp at a;subst a;rintro rfl;exact hn b⟩
theorem anq {ps:List (Int × Int)} {p:Int × Int}:(addP ps p).length<=ps.length+1:=by
 unfold addP;split <;> simp
theorem ax9 (ps:List (Int × Int)):(kE ps).map (·.1)=(ps.map p2).map (fun ns=>ns.map Sum.inl):=by
 unfold kE;rw [aD9,aD9];rfl
theorem a0u:([]:List (List Key × PyData))=kE []:=rfl
theorem anr (ps:List (Int × Int)):(ps.map p2).map tiD=ps.map prD:=by rw [aD9];rfl
theorem awk {ps:List (Int × Int)}:∀ ns∈ps.map p2,ns ≠ []:=fun ns h=>by
 obtain ⟨p,_,rfl⟩:=aB7.mp h
 simp
section
variable {B:Bs} {env:En} {QO:Sl->En->Prop} {K:Frag} {i:Nat} {ta:TA}
theorem as6 {ps:List (Int × Int)} (h:EvA B ta env fun ds e=>ds=[.list (ps.map prD)]/\∀ a:List (Int × Int),a.Perm ps->lexS (a.map p2)->QO (.own (OL (a.map prD))) e):EvO B (tCB (aiw K) ta) env QO :=
 ast (pss:=ps.map p2) awk fun σ G H F Q I k=>h σ G H F Q I fun vs G' H' F' ds e f g r ⟨b,q⟩=>k vs G' H' F' ds e f g r ⟨by rw [anr];exact b,fun d i hs=>by
  obtain ⟨a,rfl,c⟩:=ai4 i
  rw [anr];exact q a c hs⟩
theorem aq3 {ps:List (Int × Int)} (f:Has env i (OT (kE ps))) (q:∀ a:List (Int × Int),a.Perm ps->lexS (a.map p2)->QO (.own (OL (a.map prD))) env):EvO B (tCB ahj (aa6 (tVar i) tNil)) env QO :=
 aq2 f (ax9 ps) awk fun b c hs=>by
  obtain ⟨a,rfl,d⟩:=ai4 c
  rw [anr];exact q a d hs
end
def OW (d:PyData) (ds:List PyData):Own where
 P:=fun G H v F=>∃ t l u vs,v=.ref t/\H t=some (.tup [u,.ref l])/\Rp G u d/\H l=some (.lst vs)/\Rps G vs ds/\∀ b,F b ↔ b=t\/b=l
 mono:=fun ⟨t,l,u,vs,e,h1,r1,h2,r2,f⟩ g hh=>⟨t,l,u,vs,e,hh t _ ((f t).mpr (.inl rfl)) h1,r1.same g,hh l _ ((f l).mpr (.inr rfl)) h2,r2.same g,f⟩
 dom:=fun ⟨t,l,u,vs,e,h1,r1,h2,r2,f⟩ b z=>by
  rcases (f b).mp z with rfl | rfl
  ·exact ⟨_,h1⟩
  ·exact ⟨_,h2⟩
theorem ae3 {d:PyData} {ds:List PyData}:Frz (OW d ds) (.tuple [d,.list ds]):=fun G H v F ⟨t,l,u,vs,e,b,c,h,a,f⟩ n g=>by
 subst e
 exact .tup (by rw [ahb ((f t).mpr (.inl rfl))];exact b) (.cons (c.same (ab2 n)) (.cons (.lst (by rw [ahb ((f l).mpr (.inr rfl))];exact h) (a.same (ab2 n))) .nil))
theorem ahl {d:PyData} {ds:List PyData} {R:PyData->Prop} (h:R (.tuple [d,.list ds])):FQ (.own (OW d ds)) R:=⟨_,ae3,h⟩
section
variable {B:Bs} {env:En} {QO:Sl->En->Prop} {Q':PyData->En->Prop} {K:Frag} {i j:Nat} {ta te:TE}
theorem ans {u:V} {l:Addr} {ks:List Key}:HO.tup [u,.ref l] ≠ .tup (ks.map kV):=by
 intro z
 injection z with z
 match ks,z with
 | [],z=>cases z
 | [_],z=>cases z
 | [_,k],z =>
  simp at z
  cases k <;> simp [kV] at z
 | _ :: _ :: _ :: _,z=>simp at z
theorem ave {i:List PyData} (M:env[j]?=some (some (.own (OL i)))) (h:Ev B ta env fun d g=>∃ ds,g[j]?=some (some (.own (OL ds)))/\QO (.own (OW d ds)) (g.set j none)):EvO B (tTup (aa6 ta (aa6 (tVar j) tNil))) env QO:=fun σ G H F Q I k =>
 h σ G H F _ I fun v u x r d g c C E L=>by
  obtain ⟨ds,A,q⟩:=L
  obtain ⟨w,y,⟨l,vs,rfl,n,rs,hf⟩,hb⟩:=c.sl j _ A
  refine ⟨_,y,⟨by show (2:Nat)<=sizeLine;decide,fun p f=>?_⟩⟩
  have s:r j l:=(hf l).mpr rfl
  have pl:p ≠ l:=(aaq n f).symm
  have D:=c.drop j
  have K:∀ m a,(a=p\/a=l)->¬ putF r j (fun _=>False) m a:=fun m a ha z=>by
   by_cases hm:m=j
   ·subst hm;exact putF_same.mp z
   ·rw [abb hm] at z
    rcases ha with rfl | rfl
    ·exact c.no_f f m z
    ·exact hm (c.fd m j a z s)
  have J:VI B u (upd x p (.tup [v,.ref l])) σ (g.set j none) (putF r j fun _=>False):=D.grow (Same.refl _) (c.gh.trans (abm f)) (abm f) (fun a o e => .inl e) fun a ks e=>by
   by_cases z:a=p
   ·subst z;rw [aaj] at e;exact absurd (aC6 e) ans
   ·rw [aag z] at e;exact c.ft a ks e
  refine k _ u _ _ (fun a=>a=p\/a=l) (.own (OW d ds)) _ J C ⟨⟨p,l,v,vs,rfl,aaj,E,by rw [aag pl.symm];exact n,rs,fun b=>Iff.rfl⟩,fun a z=>?_,fun a z=>?_,fun a z=>?_,fun m a z=>K m a z⟩ q
  ·rcases z with rfl | rfl
   ·exact c.no_b f
   ·exact hb a s
  ·rcases z with rfl | rfl
   ·exact c.no_g f
   ·exact c.fg j a s
  ·rcases z with rfl | rfl
   ·exact ⟨_,aaj⟩
   ·exact ⟨_,by rw [aag pl.symm];exact n⟩
theorem x_ow {ds:List PyData} {a:En} {R:List PyData->Prop} (e:a[j]?=some (some (.own (OL ds)))) (q:R ds):∃ ds,a[j]?=some (some (.own (OL ds)))/\R ds:=⟨ds,e,q⟩
end
section
variable {B:Bs} {env:En} {Q':PyData->En->Prop} {D':VEnds} {i:Nat} {ty tv:TE}
theorem aq4 {a:List (List Key × PyData)} (f:env[i]?=some (some (.own (OT a)))) (h:Ev B tv env fun d b=>Has b i (OT a)/\Ev B ty b fun y c=>∃ es ks,c[i]?=some (some (.own (OT es)))/\y=tkD ks/\es.length<=999999/\D'.nx (c.set i (some (.own (OT (putD es ks d)))))):EvS B (aqj (tVar i) ty tv) D' env:=asx h
end
section
variable {R:Sl->Prop} {K:Frag}
theorem aya {p q:Int × Int} (h:R (.st (.bool (HT.lexLt (p2 p) (p2 q))))):Op2 (rLtT K) (prD p) (prD q) R:=fun G H f g Q gh c d k=>by
 cases c with
 | tup ha ra =>
  cases d with
  | tup hb rb =>
   have a:=Rps.ints_inv (ns:=p2 p) ra
   have b:=Rps.ints_inv (ns:=p2 q) rb
   subst a b
   exact ⟨_,_,p2 p,p2 q,rfl,rfl,SqT.of (gh _ _ ha),SqT.of (gh _ _ hb),k _ _ _ _ _ (Out.refl gh (.bl _)) h⟩
end
theorem as7 (p:Int × Int):aao (prD p)=true:=rfl
theorem af1 (ps:List (Int × Int)):plainDs (ps.map prD)=true:=by
 rw [afj]
 intro d hd
 obtain ⟨p,_,rfl⟩:=aB7.mp hd
 rfl
theorem apz (p q:Int × Int):PyData.eqv (prD p) (prD q)=decide (p=q):=by
 rw [aH9,ago _ _ rfl rfl,decide_eq_true_iff]
 constructor
 ·intro h
  simp [prD] at h
  exact Prod.ext h.1 h.2
 ·rintro rfl;rfl
theorem ayb (ps:List (Int × Int)) (q:Int × Int):((ps.map prD).any fun z=>PyData.eqv z (prD q))=decide (q∈ps):=by
 rw [aH9,aF4,decide_eq_true_iff]
 constructor
 ·rintro ⟨d,hd,e⟩
  obtain ⟨p,a,rfl⟩:=aB7.mp hd
  rw [apz] at e
  rw [← of_decide_eq_true e];exact a
 ·intro h
  exact ⟨prD q,aB7.mpr ⟨q,h,rfl⟩,by rw [apz];exact aD7 rfl⟩
theorem aee {ds:List PyData} {m:Nat} (h:∀ d∈ds,d.depth<=m):PyData.depthAll ds<=m:=by
 induction ds with
 | nil=>simp [PyData.depthAll]
 | cons d ds ih =>
  simp only [PyData.depthAll]
  exact Nat.max_le.mpr ⟨h d aB8,ih fun e a=>h e (aB5 _ a)⟩
theorem agw (p:Int × Int):(prD p).depth<=1:=by simp [prD,PyData.depth,PyData.depthAll]
theorem aid {d:PyData} (h:aao d=true):PyData.eqv d d=true:=(ago d d h h).mpr rfl
end VL
namespace VL
theorem ant {α:Type} (R : α->α->Prop) (tr:∀ {a b c},R a b->R b c->R a c) {xs:List α}:xs.Pairwise R ↔ ∀ i (h:i+1 < xs.length),R (xs[i]'(by omega)) xs[i+1]:=by
 constructor
 ·intro h i hi
  exact aG8.mp h i (i+1) (by omega) hi (by omega)
 ·intro h
  rw [aG8]
  intro i j hi d f
  induction j with
  | zero=>omega
  | succ j ih =>
   by_cases e:i=j
   ·subst e;exact h i d
   ·exact tr (ih (by omega) (by omega)) (h j d)
end VL
namespace VL
open PySem PySem.Spec L2
section
variable {B:Bs} {env:En} {Q':PyData->En->Prop} {K:Frag} {E:XK} {i:Nat}
theorem avf {f:VP} {t:TA} {L:Own} (M:Has env i L) (h:EvA B t env fun ds g=>∃ A d,Has g i A/\Frz A d/\f (.st d :: ds.map Sl.st) fun s=>∃ d',s=.st d'/\ahg d'=true/\Q' d' g):Ev B (acf (spP K f) [] E (aa6 (tVar i) t)) env Q':=fun σ G H F Q I k=>by
 unfold acf
 simp only [aF0]
 obtain ⟨v,m,_⟩:=I.has M
 refine ⟨v,m,h σ G H F _ I fun vs w l n ds g b C D ⟨A,d,z,r,p⟩=>?_⟩
 obtain ⟨N,c,ap⟩:=b.has z
 rw [m] at c;cases c
 have j:=ab2 (H:=l) (b.fg i)
 refine ⟨jn w l (n i),_,_,aqx b.gh,fun a ks e=>j _ _ (b.ft a ks e),.cons (s:=.st d) (r _ _ _ _ ap (b.fg i) b.gh) (ArgsOk.of (D.same j)),p,fun s q u G' H' Fv o=>?_⟩
 obtain ⟨d',rfl,hs,q⟩:=q
 obtain ⟨x,J,y⟩:=b.moment j o
 exact k u x H' n d' g y (C.trans J) (apr o.ok.1 hs) q
end
end VL
namespace VL
open PySem L2
theorem a15 {B:Bs} {t:TS} {D':VEnds} {e:En} (h:EvS B t D' e):EvS B t D' e:=h
theorem a16 {B:Bs} {g:TG} {s:Sl} {e:En} {Q:En->Prop} (h:EvG B g s e Q):EvG B g s e Q:=h
theorem a0v {B:Bs} {g:TGs} {s:List PyData} {e:En} {Q:En->Prop} (h:EvGs B g s e Q):EvGs B g s e Q:=h
theorem g_Ev {B:Bs} {t:TE} {e:En} {Q:PyData->En->Prop} (h:Ev B t e Q):Ev B t e Q:=h
theorem a17 {B:Bs} {t:TE} {e:En} {Q:Sl->En->Prop} (h:EvO B t e Q):EvO B t e Q:=h
theorem a18 {B:Bs} {t:TT} {e:En} {Q:Bool->En->Prop} (h:EvT B t e Q):EvT B t e Q:=h
theorem a19 {B:Bs} {t:TA} {e:En} {Q:List PyData->En->Prop} (h:EvA B t e Q):EvA B t e Q:=h
theorem a2a {B:Bs} {t:TI} {e:En} {Q:List PyData->En->Prop} (h:EvI B t e Q):EvI B t e Q:=h
theorem a0w {B:Bs} {t:TO} {e:En} {Q:Option Int->En->Prop} (h:EvOp B t e Q):EvOp B t e Q:=h
theorem a2b {r:R2} {x y:PyData} {R:Sl->Prop} (h:Op2 r x y R):Op2 r x y R:=h
theorem a2c {r:List V->Hp->VK->Prop} {x:List PyData} {R:Sl->Prop} (h:OpA r x R):OpA r x R:=h
theorem g_FQ {s:Sl} {R:PyData->Prop} (h:FQ s R):FQ s R:=h
theorem ayc {ds:List PyData} {R:List PyData->Prop} (h:al7 ds R):al7 ds R:=h
theorem ayd {ds:List PyData} {R:List PyData->Prop} (h:al8 ds R):al8 ds R:=h
structure PsOk (n:Int) (ps:List (Int × Int)):Prop where
 nd:ps.Nodup
 inn:∀ p∈ps,0<=p.1/\p.1 < p.2/\p.2 < n
def Tr (n:Int) (ps:List (Int × Int)):Prop:=∀ k,1<=k->k < n->∃ h,0<=h/\h < k/\(h,k)∈ps
def Conn (n:Int) (T:Int->Int->Prop):Prop:=∀ u v,0<=u->u < n->0<=v->v < n->∃ k,Gr.Walk T u k v
theorem Tr.conn {n:Int} {ps:List (Int × Int)} (h:Tr n ps):Conn n (Tied ps):=by
 have d:∀ (m:Nat) (v:Int),v=m->v < n->∃ k,Gr.Walk (Tied ps) 0 k v:=by
  intro m
  induction m using Nat.strongRecOn with
  | ind m ih =>
   intro v i hn
   by_cases h0:m=0
   ·subst h0;have:v=0:=by omega
    subst this;exact ⟨0,.refl⟩
   ·obtain ⟨x,a,b,c⟩:=h v (by omega) hn
    obtain ⟨k,w⟩:=ih x.toNat (by omega) x (by omega) (by omega)
    exact ⟨k+1,.step w (.inl c)⟩
 intro u v l g v0 f
 obtain ⟨k,w⟩:=d u.toNat u (by omega) g
 obtain ⟨j,x⟩:=d v.toNat v (by omega) f
 exact ⟨k+j,(w.rev fun _ _ t=>t.symm).app x⟩
theorem Conn.joined {n:Int} {es:List (Int × Int)} (h:Conn n (Tied es)) (b:0 < n):Joined n es:=fun v v0 a=>by
 obtain ⟨k,w⟩:=h 0 v (by omega) (by omega) v0 a
 obtain ⟨d,_,hd⟩:=Gr.Dist.of_walk w
 exact ⟨d,hd⟩
theorem Joined.conn {n:Int} {es:List (Int × Int)} (h:Joined n es):Conn n (Tied es):=fun u v a c v0 b=>by
 obtain ⟨d,hd⟩:=h u a c
 obtain ⟨e,f⟩:=h v v0 b
 exact ⟨d+e,(hd.1.rev fun _ _ t=>t.symm).app f.1⟩
theorem Conn.mono {n:Int} {T a:Int->Int->Prop} (h:Conn n T) (g:∀ u v,T u v->a u v):Conn n a:=fun u v b f v0 c=>by
 obtain ⟨k,w⟩:=h u v b f v0 c
 exact ⟨k,w.rec .refl fun _ t d => .step d (g _ _ t)⟩
def Order (n:Int) (row:List Int):Prop:=row.Perm ((List.range n.toNat).map fun (i:Nat)=>(i:Int))
theorem Order.len {n:Int} {a:List Int} (h:Order n a):a.length=n.toNat:=by have:=h.length_eq;simpa using this
theorem Order.nodup {n:Int} {c:List Int} (h:Order n c):c.Nodup:=by
 refine h.nodup_iff.mpr ?_
 unfold List.Nodup
 rw [aG2]
 exact List.nodup_range.imp fun {a b} d e=>d (by omega)
theorem Order.mem {n:Int} {a:List Int} (h:Order n a) {v:Int}:v∈a ↔ 0<=v/\v < n:=by
 rw [h.mem_iff,aB7]
 constructor
 ·rintro ⟨i,hi,rfl⟩
  have:=aB9.mp hi
  omega
 ·rintro ⟨c,b⟩
  exact ⟨v.toNat,aB9.mpr (by omega),by omega⟩
theorem Order.get {n:Int} {b:List Int} (h:Order n b) {a:Int} (c:0<=a) (f:a < n):∃ x,b[a.toNat]?=some x/\atI b a=some x/\0<=x/\x < n:=by
 have d:a.toNat < b.length:=by rw [h.len];omega
 have e:b[a.toNat]?=some b[a.toNat]:=aA0 d
 have:=h.mem.mp (aA2 e)
 exact ⟨_,e,aff c e,this.1,this.2⟩
theorem Order.inj {n:Int} {c:List Int} (h:Order n c) {a b x:Int} (a0:0<=a) (b0:0<=b) (ha:c[a.toNat]?=some x) (hb:c[b.toNat]?=some x):a=b:=by
 obtain ⟨g,d⟩:=aA1.mp ha
 obtain ⟨i,f⟩:=aA1.mp hb
 have:=nodup_ix h.nodup g i (d.trans f.symm)
 omega
theorem Order.id (n:Int):Order n ((List.range n.toNat).map fun (i:Nat)=>(i:Int)):=List.Perm.refl _
def aa7 (row:List Int) (a:Int):Int:=row.getD a.toNat 0
def reP (row:List Int) (p:Int × Int):Int × Int:=if aa7 row p.1 < aa7 row p.2 then (aa7 row p.1,aa7 row p.2) else (aa7 row p.2,aa7 row p.1)
theorem Order.at {n:Int} {b:List Int} (h:Order n b) {a:Int} (d:0<=a) (f:a < n):b[a.toNat]?=some (aa7 b a)/\0<=aa7 b a/\aa7 b a < n:=by
 obtain ⟨x,e,_,x0,c⟩:=h.get d f
 have:aa7 b a=x:=by unfold aa7;rw [aD3,e];rfl
 rw [this];exact ⟨e,x0,c⟩
theorem Order.ne {n:Int} {c:List Int} (h:Order n c) {a b:Int} (a0:0<=a) (a1:a < n) (b0:0<=b) (b1:b < n) (d:a ≠ b):aa7 c a ≠ aa7 c b:=fun e=>by
 have f:=(h.at a0 a1).1
 have g:=(h.at b0 b1).1
 rw [e] at f
 exact d (h.inj a0 b0 f g)
theorem PsOk.re {n:Int} {ps:List (Int × Int)} {c:List Int} (h:PsOk n ps) (o:Order n c):PsOk n (ps.map (reP c)):=by
 have inn:∀ p∈ps,0<=(reP c p).1/\(reP c p).1 < (reP c p).2/\(reP c p).2 < n:=fun p d=>by
  obtain ⟨p0,v,p2⟩:=h.inn p d
  have a:=o.at p0 (by omega)
  have b:=o.at (a:=p.2) (by omega) p2
  have ne:=o.ne p0 (by omega) (by omega) p2 (by omega)
  unfold reP
  split <;> dsimp only <;> omega
 refine ⟨?_,fun q g=>by obtain ⟨p,d,rfl⟩:=aB7.mp g;exact inn p d⟩
 unfold List.Nodup
 rw [aG2]
 refine aI1 ?_ h.nd
 intro p q d g f e
 apply f
 obtain ⟨p0,v,p2⟩:=h.inn p d
 obtain ⟨r,w,u⟩:=h.inn q g
 have inj:∀ a b,0<=a->a < n->0<=b->b < n->aa7 c a=aa7 c b->a=b:=fun a b a0 a1 b0 b1 e=>by
  apply aD4
  intro i
  exact o.ne a0 a1 b0 b1 i e
 have l:=inj p.1 q.1 p0 (by omega) r (by omega)
 have m:=inj p.2 q.2 (by omega) p2 (by omega) u
 have s:=inj p.1 q.2 p0 (by omega) (by omega) u
 have j:=inj p.2 q.1 (by omega) p2 r (by omega)
 unfold reP at e
 split at e <;> split at e <;> simp only [Prod.mk.injEq] at e
 ·exact Prod.ext (l e.1) (m e.2)
 ·have:=s e.1;have:=j e.2;omega
 ·have:=j e.1;have:=s e.2;omega
 ·exact Prod.ext (l e.2) (m e.1)
theorem Tied.re {ps:List (Int × Int)} {c:List Int} {u v:Int} (h:Tied ps u v):Tied (ps.map (reP c)) (aa7 c u) (aa7 c v):=by
 have d:∀ a b,(a,b)∈ps->Tied (ps.map (reP c)) (aa7 c a) (aa7 c b):=fun a b hm=>by
  have:=List.mem_map_of_mem (f:=reP c) hm
  unfold reP at this
  dsimp only at this
  split at this
  ·exact .inl this
  ·exact .inr this
 rcases h with h | h
 ·exact d u v h
 ·exact (d v u h).symm
theorem Conn.re {n:Int} {ps:List (Int × Int)} {d:List Int} (h:Conn n (Tied ps)) (o:Order n d):Conn n (Tied (ps.map (reP d))):=fun u v l m v0 f=>by
 have c:∀ x,0<=x->x < n->∃ a,0<=a/\a < n/\aa7 d a=x:=fun x x0 j=>by
  obtain ⟨i,hi,e⟩:=aH7.mp (o.mem.mpr ⟨x0,j⟩)
  refine ⟨i,by omega,by rw [o.len] at hi;omega,?_⟩
  unfold aa7
  simp [hi,e]
 obtain ⟨a,a0,a1,rfl⟩:=c u l m
 obtain ⟨b,b0,b1,rfl⟩:=c v v0 f
 obtain ⟨k,w⟩:=h a b a0 a1 b0 b1
 exact ⟨k,w.rec .refl fun _ t g => .step g t.re⟩
theorem Tied.perm {a ps:List (Int × Int)} (h:a.Perm ps) {u v:Int}:Tied a u v ↔ Tied ps u v:=by unfold Tied;rw [h.mem_iff,h.mem_iff]
theorem ai6 {α:Type}:∀ {l:List α} {k:Nat} {x : α},l[k]?=some x->(x :: l.eraseIdx k).Perm l
 | [],_,_,h=>by simp at h
 | a :: l,0,x,h=>by simp at h;subst h;exact List.Perm.refl _
 | a :: l,k+1,x,h=>by
  have b:=ai6 (l:=l) (k:=k) (x:=x) (by simpa using h)
  exact (List.Perm.swap a x _).trans (b.cons a)
theorem aq5 {n:Int} {a left:List Int} {k:Nat} {x:Int} (h:Order n (a ++ left)) (b:left[k]?=some x):Order n ((a ++ [x]) ++ left.eraseIdx k):=by
 refine List.Perm.trans ?_ h
 rw [aB4]
 refine List.Perm.append_left a ?_
 exact ai6 b
section
variable {B:Bs} {env:En} {g:TG} {tif:TT} {te:TE} {K:Frag} {src:List (Option Nat)} {ds:List PyData} {e1:En} {R:List PyData->En->Prop}
end
theorem ap0 (n:Nat):rngD 0 n=((List.range n).map fun (i:Nat)=>(i:Int)).map PyData.int:=by simp [rngD]
theorem abn {B:Bs} {g:TG} {A:Own} {d:PyData} {env:En} {b:En->Prop} (f:Frz A d) (h:EvG B g (.st d) env b):EvG B g (.own A) env b:=fun σ G H F v Fv Q I x k =>
 h σ _ H F v _ Q (I.freeze x.fb x.fd x.fg) (adx (f G H v Fv x.ok x.fg I.gh)) fun a G' H' F' c i g' q=>k a G' H' F' c i ((ab2 x.fg).trans g') q
theorem cutR {R X:Prop} (h:R->X) (r:R):X:=h r
end VL
namespace VL
open PySem PySem.Spec L2
def ae4 (e:En):Prop:=∀ (j:Nat) (s:Sl),e[j]?=some (some s)->(∃ d,s=.st d)\/∃ ns:List Int,s=.scr ns
def Sls (K:Frag) (G:Hp) (σ:St) (e:En):Prop:=∀ (j:Nat) (s:Sl),e[j]?=some (some s)->∃ v,σ[j]?=some (some v)/\((∃ d,s=.st d/\Rp G v d)\/∃ (ns:List Int) (a:Addr),s=.scr ns/\v=.ref a/\SqL K G a (ns.map V.int))
theorem Sls.same {K:Frag} {G G':Hp} {σ:St} {e:En} (h:Sls K G σ e) (g:Same G G'):Sls K G' σ e:=fun j s es=>by
 obtain ⟨v,c,q⟩:=h j s es
 refine ⟨v,c,?_⟩
 rcases q with ⟨d,b,r⟩ | ⟨ns,a,b,f,r⟩
 ·exact .inl ⟨d,b,r.same g⟩
 ·exact .inr ⟨ns,a,b,f,g.seq r⟩
def bsC (K:Frag) (G H:Hp) (σ:St):Bs:=⟨K,G,H,H,σ,noF⟩
theorem akz {K:Frag} {G H:Hp} {σ:St} {e:En} (gh:Same G H) (ft:FT G H) (ln : σ.length=e.length) (sl:Sls K G σ e):VI (bsC K G H σ) G H σ e noF:=by
 refine ⟨gh,Same.refl _,fun a o e => .inl e,Same.refl _,Same.refl _,fun a o e=>⟨o,e⟩,fun i a z=>z.elim,fun i a z=>z.elim,fun i j a z=>z.elim,fun i a z=>z.elim,fun i s es=>?_,ln,ft⟩
 obtain ⟨v,c,q⟩:=sl i s es
 refine ⟨v,c,?_⟩
 rcases q with ⟨d,b,r⟩ | ⟨ns,a,b,f,r⟩
 ·subst b;exact ⟨r,fun a z=>z⟩
 ·subst b;exact ⟨⟨a,f,r⟩,fun a z=>z⟩
theorem ai7 {B:Bs} {K:Frag} {G H:Hp} {σ:St} {e:En} {F:Nat->Addr->Prop} (I:VI B G H σ e F) (c:ae4 e) (b:B.K=K:=by rfl):Sls K G σ e:=fun j s es=>by
 subst b
 obtain ⟨v,f,q⟩:=I.sl j s es
 refine ⟨v,f,?_⟩
 rcases c j s es with ⟨d,rfl⟩ | ⟨ns,rfl⟩
 ·exact .inl ⟨d,rfl,q.1⟩
 ·obtain ⟨⟨a,h,g⟩,_⟩:=q
  exact .inr ⟨ns,a,rfl,h,g⟩
def LcV2 (K:Frag) (src:List (Option Nat)) (g:TG) (tif:TT) (wi2:TI) (g2:TG) (tif2:TT) (te:TE) (ds:List PyData) (e1:En) (R:List PyData->Prop):Prop:=∃ J:Nat->List PyData->En->Prop,J 0 [] (aal src e1)/\(∀ i ys e,J i ys e->ae4 e) /\
 (∀ i d ys e,ds[i]?=some d->J i ys e->∀ B':Bs,B'.K=K->EvG B' g (.st d) e fun e2=>EvT B' tif e2 fun b e3=>if b=true then EvI B' wi2 e3 fun ds2 e4=>∃ J2:Nat->List PyData->En->Prop,J2 0 ys e4/\(∀ j ys e,J2 j ys e->ae4 e) /\
  (∀ j d2 ys2 e,ds2[j]?=some d2->J2 j ys2 e->∀ B2:Bs,B2.K=K->EvG B2 g2 (.st d2) e fun e5=>EvT B2 tif2 e5 fun b e6=>if b=true then Ev B2 te e6 fun y e7=>ys2.length<=999999/\J2 (j+1) (ys2 ++ [y]) e7 else J2 (j+1) ys2 e6)/\(∀ ys2 e,J2 ds2.length ys2 e->J (i+1) ys2 e) else J (i+1) ys e3)/\∀ ys e,J ds.length ys e->R ys
section
variable {B:Bs} {env:En}
theorem ap1 {src:List (Option Nat)} {wi:TI} {g:TG} {a2:TT} {b3:TI} {g2:TG} {L:TT} {te:TE} {QO:Sl->En->Prop} (h:EvI B wi env fun ds w=>LcV2 B.K src g a2 b3 g2 L te ds w fun ys=>QO (.own (OL ys)) w):EvO B (tLC2 src wi g a2 b3 g2 L te) env QO:=fun σ G H F Q I k=>by
 refine h σ G H F _ I fun J G1 H1 N ds w Z g1 it ⟨Jv,j0,jc,js,jd⟩ c l=>?_
 have fa:∀ j,¬ N j c:=Z.no_f l
 have hb:B.H c=none:=Z.no_b l
 -- between two turns
 let Wv:(List PyData->En->Prop)->List V->St->Hp->Prop:=fun J ys σI H=>∃ f e D,VI B f H σ w N/\Same G1 f/\H c=some (.lst ys)/\Rps f ys D/\f c=none/\J D e/\σI.length=e.length/\Sls B.K f σI e
 -- out of a frame within
 have leave:∀ {n H3:Hp} {σI:St} {ys:List V},VI B n H3 σ w N->n c=none->H3 c=some (.lst ys)->∀ {P Y:Hp} {C:St} {F4:Nat->Addr->Prop} {e4:En},VI (bsC B.K n H3 σI) P Y C e4 F4->VI B P Y σ w N/\P c=none/\Y c=some (.lst ys):=by
  intro n H3 σI ys T U ac P Y C F4 e4 E
  refine ⟨T.grow E.g0 E.gh E.rs E.gn E.ft,?_,E.rs _ _ ac⟩
  cases e':P c with
  | none=>rfl
  | some u =>
   rcases E.gn c u e' with q | q
   ·change n c=_ at q;rw [U] at q;cases q
   ·change H3 c=_ at q;rw [ac] at q;cases q
 have step:∀ {f H2:Hp} {ys:List V} {x:V} {n H3:Hp} {d:PyData},VI B f H2 σ w N->f c=none->H2 c=some (.lst ys)->Out f H2 x n H3 (.st d) (fun _=>False)->VI B n H3 σ w N/\n c=none/\H3 c=some (.lst ys):=by
  intro f H2 ys x n H3 d M U ac o
  refine ⟨(M.out o).1,?_,o.hh _ _ ac⟩
  cases e':n c with
  | none=>rfl
  | some u =>
   rcases o.gn c u e' with q | q
   ·rw [U] at q;cases q
   ·rw [ac] at q;cases q
 refine ⟨fun i m ys σI H=>m=ds.length - i/\i<=ds.length/\Wv (Jv i) ys σI H,⟨ds.length,by simp,aG1 _,?_⟩,?_⟩
 ·refine ⟨G1,aal src w,[],Z.aside (fun _ z=>nomatch z) (Z.no_g l) fa hb,Same.refl _,aaj,.nil,Z.no_g l,j0,by simp [pick,aal],fun j s e=>?_⟩
  obtain ⟨i,t,hs,ht,hp⟩:=agv e
  obtain ⟨v,hv,q⟩:=Z.sl i t ht
  refine ⟨v,ani hs hv,?_⟩
  cases t with
  | st d=>cases hp;exact .inl ⟨d,rfl,q.1⟩
  | scr ns =>
   cases hp
   obtain ⟨⟨a,ea,sq⟩,_⟩:=q
   exact .inr ⟨ns,a,rfl,ea,sq⟩
  | own A=>cases hp;rcases jc _ _ _ j0 j _ e with ⟨d,z⟩ | ⟨ns,z⟩ <;> cases z
  | io A=>cases hp;rcases jc _ _ _ j0 j _ e with ⟨d,z⟩ | ⟨ns,z⟩ <;> cases z
 ·rintro i m ys σI H2 ⟨rfl,hi,f,e,D,M,r,O,ry,U,jv,ln,sl⟩
  by_cases hlt:i < ds.length
  ·refine .inr ⟨it.go i f H2 r M.gh hlt,Wv (Jv (i+1)),fun b7 c0 H' hw=>⟨ds.length - (i+1),by omega,rfl,hlt,hw⟩,fun x H3 y=>?_⟩
   obtain ⟨n,o⟩:=it.yld i f H2 x H3 _ r M.gh M.ft (aA0 hlt) y
   obtain ⟨T,a0,a8⟩:=step M U O o
   have E3:=akz (K:=B.K) T.gh T.ft ln (sl.same o.gg)
   refine js i _ D e (aA0 hlt) jv (bsC B.K n H3 σI) rfl σI n H3 _ x _ _ E3 (adx o.ok.1) fun C P Y F4 e4 E g4 q4=>?_
   refine q4 C P Y F4 _ E fun b G5 H5 F5 e5 I5 g5 q5=>?_
   have a3:=ry.same (o.gg.trans (g4.trans g5))
   have s5:=r.trans (o.gg.trans (g4.trans g5))
   cases b with
   | false =>
    rw [aF7 aB0] at q5 ⊢
    obtain ⟨K5,c1,b9⟩:=leave T a0 a8 I5
    exact ⟨G5,e5,D,K5,s5,b9,a3,c1,q5,I5.ln,ai7 I5 (jc _ _ _ q5)⟩
   | true =>
    rw [aF6 rfl] at q5 ⊢
    refine q5 C G5 H5 F5 _ I5 fun J2 G6 H6 F6 p e6 I6 g6 S ⟨Jw,w0,wc,ws,wd⟩=>?_
    obtain ⟨K6,b4,b8⟩:=leave T a0 a8 I6
    have s6:=s5.trans g6
    let Wi:Nat->List V->St->Hp->Prop:=fun j ys σI H=>∃ f e D,VI B f H σ w N/\Same G6 f/\H c=some (.lst ys)/\Rps f ys D/\f c=none/\Jw j D e/\σI.length=e.length/\Sls B.K f σI e
    refine ⟨fun j m ys σI H=>m=p.length - j/\j<=p.length/\Wi j ys σI H,⟨p.length,by simp,aG1 _,G6,e6,D,K6,Same.refl _,b8,a3.same g6,b4,w0,I6.ln,ai7 I6 (wc _ _ _ w0)⟩,?_⟩
    rintro j m zs a4 H7 ⟨rfl,hj,G7,e7,zd,X,W,R,rz,a1,jw,a7,b0⟩
    refine ⟨R,?_⟩
    by_cases hlt2:j < p.length
    ·refine .inr ⟨S.go j G7 H7 W X.gh hlt2,Wi (j+1),fun b7 c0 H' hw=>⟨p.length - (j+1),by omega,rfl,hlt2,hw⟩,fun x2 H8 y2=>?_⟩
     obtain ⟨G8,o2⟩:=S.yld j G7 H7 x2 H8 _ W X.gh X.ft (aA0 hlt2) y2
     obtain ⟨I8,b2,a9⟩:=step X a1 R o2
     have E8:=akz (K:=B.K) I8.gh I8.ft a7 (b0.same o2.gg)
     refine ws j _ zd e7 (aA0 hlt2) jw (bsC B.K G8 H8 a4) rfl a4 G8 H8 _ x2 _ _ E8 (adx o2.ok.1) fun a6 G9 H9 F9 e9 I9 g9 q9=>?_
     refine q9 a6 G9 H9 F9 _ I9 fun b GA HA FA eA IA gA qA=>?_
     cases b with
     | false =>
      rw [aF7 aB0] at qA ⊢
      obtain ⟨KA,b5,b6⟩:=leave I8 b2 a9 IA
      have sA:=o2.gg.trans (g9.trans gA)
      exact ⟨GA,eA,zd,KA,W.trans sA,b6,rz.same sA,b5,qA,IA.ln,ai7 IA (wc _ _ _ qA)⟩
     | true =>
      rw [aF6 rfl] at qA ⊢
      refine qA a6 GA HA FA _ IA fun yv GB HB FB dB eB IB gB rB ⟨lB,qB⟩=>?_
      obtain ⟨KB,a5,c2⟩:=leave I8 b2 a9 IB
      have sB:=o2.gg.trans (g9.trans (gA.trans gB))
      have b1:=rz.same sB
      refine ⟨c2,by rw [b1.length];exact aE2 lB (by decide),GB,eB,zd ++ [dB],KB.aside (fun _ z=>nomatch z) a5 fa hb,W.trans sB,aaj,b1.append (.cons rB .nil),a5,qB,IB.ln,ai7 IB (wc _ _ _ qB)⟩
    ·have ej:j=p.length:=by omega
     subst ej
     refine .inl ⟨S.stop _ G7 H7 W X.gh rfl,G7,e7,zd,X,s6.trans W,R,rz,a1,wd _ _ jw,a7,b0⟩
  ·have ei:i=ds.length:=by omega
   subst ei
   refine .inl ⟨it.stop _ f H2 r M.gh rfl,?_⟩
   refine k (.ref c) f H2 N (· = c) (.own (OL D)) w M (g1.trans r) ⟨⟨c,ys,rfl,O,ry,fun b=>Iff.rfl⟩,fun a z=>by rw [z];exact hb,fun a z=>by rw [z];exact U,fun a z=>by rw [z];exact ⟨_,O⟩,fun j a z=>by rw [z];exact fa j⟩ (jd _ _ jv)
end
theorem aef {o:Option PyData} {e:En} (h:ae4 e):ae4 (stO o :: e):=fun j s es=>by
 cases j with
 | zero =>
  cases o with
  | none=>simp [stO] at es
  | some d =>
   have:s=.st d:=by simpa [stO] using es.symm
   exact .inl ⟨d,this⟩
 | succ j=>exact h j s (by simpa using es)
theorem anu {α β:Type} {K:Frag} {src:List (Option Nat)} {c:En} {r:TI} {h:TT} {te:TE} {R:List PyData->Prop} {xs:List α} {fx : α->PyData} (a : α->List β) (n : β->PyData) (f : α->β->PyData) (q : α->β->Bool) (T:ae4 (aal src c))
  (Y:(xs.flatMap fun x=>((a x).filter (q x)).map (f x)).length<=999999)
  (h1:∀ x∈xs,∀ m:Bs,m.K=K->∀ o,EvI m r (some (.st (fx x)) :: stO o :: aal src c) fun p A=>p=(a x).map n/\A=some (.st (fx x)) :: stO o :: aal src c)
  (h2:∀ x∈xs,∀ y∈a x,∀ m:Bs,m.K=K->EvT m h (some (.st (fx x)) :: some (.st (n y)) :: aal src c) fun b e6=>b=q x y/\e6=some (.st (fx x)) :: some (.st (n y)) :: aal src c/\(b=true->Ev m te (some (.st (fx x)) :: some (.st (n y)) :: aal src c) fun z e7=>z=f x y/\e7=some (.st (fx x)) :: some (.st (n y)) :: aal src c))
  (Z:R (xs.flatMap fun x=>((a x).filter (q x)).map (f x))):LcV2 K (none :: none :: src) (aa1 0) tYes r (aa1 1) h te (xs.map fx) c R:=by
 refine ⟨fun i ys e=>ys=(xs.take i).flatMap (fun x=>((a x).filter (q x)).map (f x))/\∃ o o',e=stO o :: stO o' :: aal src c,⟨by simp,none,none,rfl⟩,?_,?_,?_⟩
 ·rintro i ys e ⟨_,o,o',rfl⟩
  exact aef (aef T)
 ·rintro i d ys e hd ⟨rfl,o,o',rfl⟩ m hB
  rw [aA5] at hd
  cases hx:xs[i]? with
  | none=>rw [hx] at hd;cases hd
  | some x =>
   rw [hx] at hd
   cases hd
   have C:=aA2 hx
   have U:xs.take (i+1)=xs.take i ++ [x]:=by rw [aH5,hx];rfl
   have L:((xs.take (i+1)).flatMap (fun x=>((a x).filter (q x)).map (f x))).length<=999999:=by
    refine aD0 ?_ Y
    conv=>rhs;rw [← aC1 (i+1) xs,List.flatMap_append,aB1]
    exact Nat.le_add_right _ _
   refine aaz (ad7 ?_)
   rw [aF6 rfl]
   show EvI m r (some (.st (fx x)) :: stO o' :: aal src c) _
   intro σ G H F Q I k
   refine h1 x C m hB o' σ G H F Q I fun J G' H' F' p A w g' P ⟨D,s⟩=>k J G' H' F' p A w g' P ?_
   subst D s
   refine ⟨fun j l e=>l=(xs.take i).flatMap (fun x=>((a x).filter (q x)).map (f x)) ++ (((a x).take j).filter (q x)).map (f x)/\∃ o',e=some (.st (fx x)) :: stO o' :: aal src c,⟨by simp,o',rfl⟩,?_,?_,?_⟩
   ·rintro j l e ⟨_,u,rfl⟩
    exact aef (o:=some (fx x)) (aef T)
   ·rintro j d2 l e g ⟨rfl,u,rfl⟩ S O
    rw [aA5] at g
    cases hy:(a x)[j]? with
    | none=>rw [hy] at g;cases g
    | some y =>
     rw [hy] at g
     cases g
     have B:(a x).take (j+1)=(a x).take j ++ [y]:=by rw [aH5,hy];rfl
     refine aaz ?_
     show EvT S h (some (.st (fx x)) :: some (.st (n y)) :: aal src c) _
     intro σ G H F Q I k
     refine h2 x C y (aA2 hy) S O σ G H F Q I fun b G' H' F' e3 w g' ⟨hb,he,X⟩=>k b G' H' F' e3 w g' ?_
     subst he
     by_cases hp:b=true
     ·rw [aF6 hp]
      intro σ G H F Q I k
      refine X hp σ G H F Q I fun v G' H' F' d' A w g' W ⟨N,s⟩=>k v G' H' F' d' A w g' W ?_
      subst N s
      have M:q x y=true:=by rw [← hb];exact hp
      refine ⟨?_,?_,some (n y),rfl⟩
      ·refine aD0 ?_ L
       rw [U,List.flatMap_append,aB1,aB1]
       refine Nat.add_le_add_left ?_ _
       simp only [List.flatMap_cons,List.flatMap_nil,aF0,aA3]
       exact (List.Sublist.filter (q x) (List.take_sublist j (a x))).length_le
      ·rw [B,List.filter_append,aE3,← aB4]
       simp [M]
     ·rw [aF7 hp]
      have E:q x y=false:=by rw [← hb];simpa using hp
      refine ⟨?_,some (n y),rfl⟩
      rw [B,List.filter_append,aE3]
      simp [E]
   ·rintro l e ⟨rfl,u,rfl⟩
    refine ⟨?_,some (fx x),u,rfl⟩
    rw [U,List.flatMap_append]
    simp
 ·rintro ys e ⟨rfl,o,o',rfl⟩
  rw [aA3,aG9]
  exact Z
section
variable {B:Bs} {env:En} {Q':PyData->En->Prop} {QO:Sl->En->Prop} {c:TT} {ta tb:TE}
theorem a0x {src:List (Option Nat)} {m:TI} {g:TG} {i:TT} {j:TI} {n:TG} {f:TT} {te:TE} (h:EvI B m env fun ds l=>LcV2 B.K src g i j n f te ds l fun ys=>Q' (.list ys) l):Ev B (tLC2 src m g i j n f te) env Q':=abt (ap1 fun σ G H F R I k=>h σ G H F R I fun J p o u ds l v s it ⟨r,a,b,c,d⟩=>k J p o u ds l v s it ⟨r,a,b,c,fun ys e q=>adw (d ys e q)⟩)
end
def a0y (e:En):Bool:=e.all fun o=>match o with | some (.own _)=>false | some (.io _)=>false | _=>true
theorem ak0 {e:En} (h:a0y e=true):ae4 e:=fun j s es=>by
 have:=aF5.mp h (some s) (aA2 es)
 cases s with
 | st d=>exact .inl ⟨d,rfl⟩
 | scr ns=>exact .inr ⟨ns,rfl⟩
 | own A=>simp at this
 | io A=>simp at this
end VL
namespace VL
open PySem PySem.Spec L2 PyProof.Rows
end VL
namespace VL
open PySem PySem.Spec L2
section
variable {B:Bs} {env:En} {QO:Sl->En->Prop} {i:Nat}
end
section
variable {X:Cx}
end
section
variable {R:Sl->Prop}
end
end VL
namespace L2
open PySem PySem.Spec PyProof.Rows
def isV (k:Int):Value->Bool
 | .int a _=>decide (a=k)
 | _=>false
theorem anv {ns:List Int} {us:List Value} (r:Vals (ns.map V.int) us) (k:Int):∀ i (h:i < us.length) (h':i < ns.length),isV k us[i]=decide (ns[i]=k):=by
 induction ns generalizing us with
 | nil=>intro i h h';simp at h'
 | cons n ns ih =>
  rw [aD1] at r
  cases r with
  | cons r1 r2 =>
   obtain ⟨t,e⟩:=r1
   subst e
   intro i h h'
   cases i with
   | zero=>rfl
   | succ i=>exact ih r2 i (by simpa using h) (by simpa using h')
theorem aq6 {ns:List Int} {us:List Value} (r:Vals (ns.map V.int) us) (k:Int) (t:Tok):∀ y∈us,MeetsSeq.EqGives y (.int k t) (isV k y):=by
 induction ns generalizing us with
 | nil=>rw [List.map_nil] at r;cases r;intro y a;simp at a
 | cons n ns ih =>
  rw [aD1] at r
  cases r with
  | cons r1 r2 =>
   obtain ⟨u,e⟩:=r1
   subst e
   intro y a
   rcases aA9.mp a with rfl | a
   ·exact MeetsSeq.EqGives.int n k u t
   ·exact ih r2 y a
section
variable {X:Cx}
def as8:V->List V->Hp->VK->Prop:=fun x vs H Q=>∃ (l:Addr) (ns:List Int) (k:Int) (j:Nat),x=.ref l/\vs=[.int k]/\H l=some (.lst (ns.map V.int))/\ns[j]?=some k/\(∀ m,m < j->ns[m]? ≠ some k)/\Q (.int j) H
theorem aie:MtM X "list.index" as8:=by
 intro pins s σ H x vs v us Q I B p h
 obtain ⟨l,ns,k,j,rfl,rfl,g,i,b,q⟩:=h
 cases B
 obtain ⟨u,rfl,o⟩:=p.one
 obtain ⟨t,rfl⟩:=o
 obtain ⟨z,its,n,r,w,e⟩:=I.lstM g
 rw [aA3] at w z
 obtain ⟨c,f⟩:=aA1.mp i
 have C:sizeLine < 2 ^ 62:=by decide
 refine call_meets F.slot_list_index ⟨_,e,rfl⟩ F.entry_list_index (F.args_list_index_2 _ _)
  (MeetsSeq.list_index l its.toArray n (.int k t) (isV k) (fun y A=>aq6 r k t y (by simpa using A)) j (by rw [aB2];omega) (by omega) ?_ (fun m hm d=>?_)) ⟨e,?_⟩
 ·rw [List.getElem_toArray,anv r k j (by omega) c,aD7 f]
 ·have a:m < ns.length:=by omega
  rw [List.getElem_toArray,anv r k m (by omega) a]
  exact aD6 fun e=>b m d (by rw [aA0 a,e])
 ·exact ⟨.int j,H,I.tok _,⟨_,rfl⟩,q⟩
variable {e est:Expr} {te:TE} {ts:TO} {pos p2:Pos}
end
end L2
namespace VL
open PySem PySem.Spec L2
section
variable {B:Bs} {env:En} {QO:Sl->En->Prop} {Q':PyData->En->Prop} {te tl:TE} {ts:TO} {K:Frag} {i:Nat}
theorem avh (h:Ev B tl env fun x i=>∃ ns:List Int,x=.list (ns.map .int)/\Ev B te i fun y b=>∃ (k:Int) (j:Nat),y=.int k/\ns[j]?=some k/\(∀ m,m < j->ns[m]? ≠ some k)/\Q' (.int j) b):Ev B (tBM K "list" as8 tl (aa6 te tNil)) env Q':=fun σ G H F Q I k =>
 h σ G H F _ I fun v w n D d i l z C L=>by
  obtain ⟨ns,E,o⟩:=L
  subst E
  cases C with
  | @lst a vs _ ha rs =>
   have J:vs=ns.map V.int:=rs.ints_inv
   subst J
   refine ⟨.inl ⟨rfl,_,SqL.of (l.gh _ _ ha)⟩,o σ w n D _ l fun u M H2 F2 y b f g A ⟨c,j,s,p,r,q⟩=>?_⟩
   subst s
   cases A
   exact ⟨a,ns,c,j,rfl,rfl,f.gh _ _ (g _ _ ha),p,r,k _ M H2 F2 _ b f (z.trans g) (.int _) q⟩
end
structure But (n:Int) (es rem:List (Int × Int)):Prop where
 rise:Rise es
 inn:∀ p∈es,0<=p.1/\p.1 < p.2/\p.2 < n
 all:∀ p:Int × Int,0<=p.1->p.1 < p.2->p.2 < n->p∈es\/p∈rem
end VL
namespace PopT
open PySem PyProof.Rows
section
variable {prog:Program} {w:World} {K:Type} [DecidableEq K] {knd:HeapKind prog w K} {A:Around} {E:Value->Shared->Prop} {s:Shared}
end
end PopT
namespace L2
open PySem PySem.Spec PySem.W PyProof.Rows
section
variable {X:Cx} {pins:List (Addr × Obj)} {σ:St} {H:Hp} {s:Shared} {a b:Addr} {A:Around} {E:Value->Shared->Prop}
end
section
variable {X:Cx} {o e f:Expr} {apos cpos:Pos} {td ty tx:TE}
end
end L2
namespace DNe
open PySem PyProof.Rows
end DNe
namespace L2
open PySem PySem.Spec PySem.W PyProof.Rows
end L2
namespace DNe
open PySem PyProof.Rows
section
variable {prog:Program} {w:World} {A:Around} {E:Value->Shared->Prop} {s:Shared}
end
end DNe
namespace L2
open PySem PySem.Spec PySem.W PyProof.Rows
end L2
namespace VL
open PySem PySem.Spec L2
section
variable {B:Bs} {env:En} {Q':PyData->En->Prop} {QO:Sl->En->Prop} {i:Nat} {ty:TE}
end
section
variable {B:Bs} {env:En} {QO:Sl->En->Prop} {Q':PyData->En->Prop} {K:Frag} {i:Nat}
end
theorem agx {α:Type} {K:Frag} {src:List (Option Nat)} {a:En} {te:TE} {c:TT} {R:List PyData->En->Prop} {xs:List α} {f : α->PyData} (g : α->PyData) (p : α->Bool) (m:noIo (aal src a)=true) (L:xs.length<=999999)
  (h:∀ x∈xs,∀ j:Bs,j.K=K->EvT j c (some (.st (f x)) :: aal src a) fun b u=>b=p x/\u=some (.st (f x)) :: aal src a/\(b=true->Ev j te (some (.st (f x)) :: aal src a) fun y q=>y=g x/\q=some (.st (f x)) :: aal src a))
  (B:R ((xs.filter p).map g) a):LcV K (none :: src) (aa1 0) c te (xs.map f) a R:=by
 have l:noIo (aal (none :: src) a)=true:=by
  show ((none :: aal src a).all fun s => !isIo s)=true
  rw [List.all_cons]
  exact (aH2 _ _).mpr ⟨rfl,m⟩
 refine ⟨fun i ys e=>ys=((xs.take i).filter p).map g/\∃ o,e=stO o :: aal src a,⟨by simp,none,rfl⟩,?_,?_,?_⟩
 ·rintro i ys e ⟨_,o,rfl⟩
  exact ⟨⟨isIo_stO.symm,ac0⟩,adn adh⟩
 ·rintro i d ys e hd ⟨rfl,o,rfl⟩ j D
  rw [aA5] at hd
  cases hx:xs[i]? with
  | none=>rw [hx] at hd;cases hd
  | some x =>
  rw [hx] at hd
  cases hd
  have hi:i < xs.length:=(aA1.mp hx).1
  have w:xs.take (i+1)=xs.take i ++ [x]:=by rw [aH5,hx];rfl
  refine aaz ?_
  show EvT j c (some (.st (f x)) :: aal src a) _
  intro σ G H F Q I k
  refine h x (aA2 hx) j D σ G H F Q I fun b G' H' F' u n g' ⟨hb,E,A⟩=>k b G' H' F' u n g' ?_
  subst E
  by_cases hp:b=true
  ·rw [aF6 hp]
   intro σ G H F Q I k
   refine A hp σ G H F Q I fun v G' H' F' d' q n g' z ⟨C,r⟩=>k v G' H' F' d' q n g' z ?_
   subst C r
   refine ⟨?_,?_,some _,rfl⟩
   ·have:=aF3 p (xs.take i)
    simp only [aA3]
    have J:(xs.take i).length<=i:=by simp;omega
    omega
   ·rw [w,List.filter_append,aE3]
    have:p x=true:=by rw [← hb];exact hp
    simp [this]
  ·rw [aF7 hp]
   refine ⟨?_,some _,rfl⟩
   rw [w,List.filter_append,aE3]
   have:p x=false:=by rw [← hb];simpa using hp
   simp [this]
 ·rintro ys e ⟨rfl,o,rfl⟩
  rw [ahf l,aA3,aG9]
  exact B
section
variable {B:Bs} {env:En} {QO:Sl->En->Prop} {Q':PyData->En->Prop} {K:Frag} {i:Nat}
theorem avi {j r:TE} (h:Ev B j env fun d u=>EvO B r u fun s i=>∃ ds,s=.own (OL ds)/\QO (.own (OW d ds)) i):EvO B (tTup (aa6 j (aa6 r tNil))) env QO:=fun σ G H F Q I k =>
 h σ G H F _ I fun v D A L d u N E K C=>C σ D A L _ N fun w y H2 F2 Fv s i c n x M=>by
  obtain ⟨ds,es,q⟩:=M
  subst es
  obtain ⟨l,vs,rfl,g,rs,hf⟩:=x.ok
  refine ⟨show (2:Nat)<=sizeLine by rw [sizeLine_eq];decide,fun p f=>?_⟩
  have pl:p ≠ l:=(aaq g f).symm
  have J:VI B y (upd H2 p (.tup [v,.ref l])) σ i F2:=c.grow (Same.refl _) (c.gh.trans (abm f)) (abm f) (fun a o e => .inl e) fun a ks e=>by
   by_cases z:a=p
   ·subst z;rw [aaj] at e;exact absurd (aC6 e) ans
   ·rw [aag z] at e;exact c.ft a ks e
  refine k _ y _ _ (fun a=>a=p\/a=l) (.own (OW d ds)) _ J (E.trans n) ⟨⟨p,l,v,vs,rfl,aaj,K.same n,by rw [aag pl.symm];exact g,rs,fun b=>Iff.rfl⟩,fun a z=>?_,fun a z=>?_,fun a z=>?_,fun m a z=>?_⟩ q
  ·rcases z with rfl | rfl
   ·exact c.no_b f
   ·exact x.fb a ((hf a).mpr rfl)
  ·rcases z with rfl | rfl
   ·exact c.no_g f
   ·exact x.fg a ((hf a).mpr rfl)
  ·rcases z with rfl | rfl
   ·exact ⟨_,aaj⟩
   ·exact ⟨_,by rw [aag pl.symm];exact g⟩
  ·rcases z with rfl | rfl
   ·exact c.no_f f m
   ·exact x.fd m a ((hf a).mpr rfl)
end
end VL
namespace L2
open PySem PySem.W PyProof.Rows
def rIsB:R2:=fun x y H Q=>∃ b c,x=.bl b/\y=.bl c/\Q (.bl (decide (b=c))) H
section
variable {X:Cx}
theorem a0z:OpR X (compareOp .Is) rIsB:=by
 intro pins s σ H x y v u Q I a d h
 obtain ⟨b,c,rfl,rfl,q⟩:=h
 cases a
 cases d
 refine wpAny_is_plain rfl (aax I q ?_)
 cases b <;> cases c <;> rfl
end
end L2
namespace VL
open PySem PySem.Spec L2
section
variable {B:Bs} {env:En} {Q':PyData->En->Prop} {R:Sl->Prop} {td:TE}
theorem aye {b c:Bool} (h:R (.st (.bool (decide (b=c))))):Op2 rIsB (.bool b) (.bool c) R:=fun G H f g Q gh a d k=>by
 cases a
 cases d
 exact ⟨b,c,rfl,rfl,k _ _ _ _ _ (Out.refl gh (.bl _)) h⟩
end
section
variable {B:Bs} {env:En} {QO:Sl->En->Prop} {Q':PyData->En->Prop} {K:Frag} {E:XK} {i:Nat}
end
end VL
namespace HT
open PySem PySem.Spec PySem.Calls PyProof.Rows PySem.W
section
variable {prog:Program} {w:World} {A:Around} {E:Value->Shared->Prop} {s:Shared}
theorem unpack_star {l:Addr} {items:Array Value} {i:Nat} {Q:List Value->Shared->Prop} (r:s.heap.IsList l items) (hh:A.handled=none) (hi:i<=items.size) (D:items.size<=sizeLine)
  (h:∀ h' x,Heap.ExtBut s.heap.objs.size s.heap h'->Q (items.toList.take i ++ [.ref h'.objs.size]) { s with heap:=h'.push { cls:=.type "list",data:=.seq (items.toList.drop i).toArray },toks:=x }):wpAny (model prog w) A (unpackItems (.ref l) (i+1) (some i)) Q E s:=by
 have q:l ≠ s.heap.objs.size:=by obtain ⟨o,F,_⟩:=r;exact aB6 (aJ5 F)
 unfold unpackItems
 refine aJ2 ?_
 unfold notIterableAtAll
 refine aJ2 (wpAny_specialOf r.typeIs slot_list_iter.lookup ?_)
 refine aJ3 ?_
 simp only [Bool.false_eq_true,if_false]
 refine aJ2 (aJ8 (aK6 r ?_))
 refine aJ2 (aJ8 (kun_draw q i 0 _ _ ⟨_,aJ6 _ rfl,rfl,rfl⟩ (r.push _) (by omega) fun p a g=>?_))
 have f:p.IsList l items:=(r.push _).extBut g.extBut q
 rw [Nat.zero_add] at a
 have c:=a
 obtain ⟨J,B,_⟩:=c
 have m:=f
 obtain ⟨I,C,_⟩:=m
 rw [List.drop_zero]
 have z:(items.toList.take i).length=i:=by rw [aH1,aA8];omega
 rw [aF7 (show ¬ ((items.toList.take i).length < i) by rw [z];omega)]
 refine aJ2 (aJ8 (kun_collect (s:={ s with heap:=p }) (T:="list_iterator") (.inr (.inr (.inl rfl))) (Walks.list (A:=A.in1) hh s.heap.objs.size l q items) (fun j u st=>st.1.typeIs) (k:=i) (by omega) ⟨a,f⟩ (aJ5 B) (aJ5 C) (fun n x G=>?_) D))
 have y:(items.toList.drop i).length=items.size - i:=by rw [aJ0,aA8]
 have v:(items.toList.drop i).length - (i+1 - 1 - i)=(items.toList.drop i).length:=by omega
 show wpAny _ _ (if (items.toList.drop i).length < i+1 - 1 - i then _ else _) _ _ _
 rw [aF7 (by omega)]
 show wpAny _ _ (newList ((items.toList.drop i).take ((items.toList.drop i).length - (i+1 - 1 - i))) >>= fun d=>pure (items.toList.take i ++ [d] ++ (items.toList.drop i).drop ((items.toList.drop i).length - (i+1 - 1 - i)))) _ _ _
 rw [v,aG9,List.drop_length]
 have H:Heap.ExtBut s.heap.objs.size s.heap n:=fun b o hb e=>G b o hb (g.extBut b o hb (aJ4 _ e))
 refine aJ2 (wpAny_newList ?_ (by rw [y];omega))
 refine aJ3 ?_
 rw [aF0]
 exact h n x H
end
end HT
namespace L2
open PySem PySem.Spec PyProof.Rows
section
variable {X:Cx}
def awm (K:Frag) (g1 g2:TG):TG:=fun v σ H Q=>∃ a x xs,v=.ref a/\SqL K H a (x :: xs)/\∀ p,H p=none->g1 x σ (upd H p (.lst xs)) fun σ1 H1=>g2 (.ref p) σ1 H1 Q
theorem ayf {c d:Expr} {k:Nat} {n m:TG} {pos sp:Pos} (M:X.calm=true) (A:PG X c n) (B:PG X d m)
  (hn:(assignEach [c,.Starred d sp] X.env).length=1+1:=by rfl) (l:(assignEach [c,.Starred d sp] X.env).findIdx? (·.1)=some 1:=by rfl) (hm:(assignEach [c,.Starred d sp] X.env).map (·.2)=[assign c X.env,assign d X.env]:=by rfl) :
  PG X (.Tuple [c,.Starred d sp] k pos) (awm X.K n m):=by
 intro pins s σ H v u Q I r g
 obtain ⟨a,x,xs,w,C,g⟩:=g
 subst w
 cases r
 obtain ⟨its,E,D,y⟩:=I.list C
 cases E with
 | @cons _ v0 _ vr r0 rr =>
  rw [assign_Tuple]
  refine aJ2 (wpAny_standAt ?_)
  unfold unpack
  rw [hn,l,hm]
  have L:=rr.length
  have f:(v0 :: vr).length<=sizeLine:=by simp at y ⊢;omega
  refine aJ2 (aJ8 (HT.unpack_star D.isList (I.ok.hd M) (by simp) (by simpa using f) fun h' j G=>?_))
  have p:Inv X pins σ H { s with heap:=h',toks:=j }:=I.kept (t':=j) fun b o e=>G b o (aB6 (aJ5 e)) e
  have hf:H h'.objs.size=none:=p.hok.fresh (aA6 _)
  have F:=p.laid (t':=j) (o:=.lst xs) (h':=h'.push { cls:=.type "list",data:=.seq vr.toArray }) (fun b u e=>aJ4 _ e) (aA6 h'.objs.size) ⟨by simp at f;omega,vr,0,rr,aJ6 _ rfl⟩
  show wpAny _ _ (assignInOrder [assign c X.env,assign d X.env] [v0,.ref h'.objs.size]) _ _ _
  refine assignInOrder_cons (thn (A pins _ σ _ _ _ _ F r0 (g _ hf)) fun _ s1 ⟨h,q,N,z⟩=>?_)
  refine assignInOrder_cons (thn (B pins s1 h q _ _ _ N (show RelV (.ref h'.objs.size) (.ref h'.objs.size) from rfl) z) fun _ s2 ⟨i,H2,J,O⟩=>?_)
  exact assignInOrder_nil ⟨i,H2,J,O⟩
end
end L2
namespace VL
open PySem PySem.Spec L2
section
variable {B:Bs} {env:En} {K:Frag} {QE:En->Prop}
theorem avj {i:Nat} {c:TG} {d:PyData} {ds:List PyData} (h:EvG B c (.own (OL ds)) (env.set i (some (.st d))) QE):EvG B (awm K (aa1 i) c) (.st (.list (d :: ds))) env QE:=fun σ G H F v Fv Q I x k=>by
 obtain ⟨r,_⟩:=x.ok
 cases r with
 | lst ha rs =>
  cases rs with
  | cons r0 rr =>
   refine ⟨_,_,_,rfl,SqL.of (I.gh _ _ ha),fun p g=>?_⟩
   have o:=Out.newL I.gh g rr
   have f:=(I.out o).1
   have b:=(I.out o).2
   have l:=f.store (adx r0) i
   refine h _ _ _ _ _ _ _ l ⟨b.ok,b.fb,b.fg,b.fo,fun j a z y=>?_⟩ k
   by_cases hj:j=i
   ·subst hj;exact (putF_same.mp y).elim
   ·rw [abb hj] at y;exact b.fd j a z y
end
end VL
namespace SS
open PySem
theorem akc {l:List Nat} (b:l.Pairwise (· < ·)) {i j:Nat} (c:i<=j) (a:j < l.length):l[i]'(by omega)<=l[j]:=by
 by_cases e:i=j
 ·subst e;exact aA6 _
 ·exact aG6 (aG8.mp b i j (by omega) a (by omega))
theorem aif (xs:Array Nat) (j:Nat) (c:xs.toList.Pairwise (· < ·)):∀ (a lo hi:Nat),hi - lo<=a->lo<=hi->hi<=xs.size->(∀ i (h:i < xs.toList.length),i < lo->xs.toList[i] < j)->(∀ i (h:i < xs.toList.length),hi<=i->j<=xs.toList[i]) ->
  SetTable.below.go xs j a lo hi<=xs.size/\(∀ i (h:i < xs.toList.length),i < SetTable.below.go xs j a lo hi->xs.toList[i] < j)/\(∀ i (h:i < xs.toList.length),SetTable.below.go xs j a lo hi<=i->j<=xs.toList[i])
 | 0,lo,hi,h1,h2,h3,h4,h5=>by
  unfold SetTable.below.go
  have:lo=hi:=by omega
  subst this
  exact ⟨h3,h4,h5⟩
 | a+1,lo,hi,h1,h2,h3,h4,h5=>by
  unfold SetTable.below.go
  by_cases hl:lo < hi
  ·rw [aF6 hl]
   have hm:(lo+hi) / 2 < xs.size:=by omega
   have d:(lo+hi) / 2 < xs.toList.length:=by simpa using hm
   have f:xs.getD ((lo+hi) / 2) j=xs.toList[(lo+hi) / 2]:=by simp [Array.getD,hm]
   dsimp only
   rw [f]
   split
   ·rename_i hlt
    refine aif xs j c a _ hi (by omega) (by omega) h3 (fun i h b=>?_) h5
    exact aE2 (akc c (by omega) d) hlt
   ·rename_i hge
    refine aif xs j c a lo _ (by omega) (by omega) (by omega) h4 (fun i h b=>?_)
    exact aD0 (by omega) (akc c b h)
  ·rw [aF7 hl]
   have:lo=hi:=by omega
   subst this
   exact ⟨h3,h4,h5⟩
theorem below_ok (xs:Array Nat) (j:Nat) (a:xs.toList.Pairwise (· < ·)) :
  SetTable.below xs j<=xs.size/\(∀ i (h:i < xs.toList.length),i < SetTable.below xs j->xs.toList[i] < j)/\(∀ i (h:i < xs.toList.length),SetTable.below xs j<=i->j<=xs.toList[i]) :=
 aif xs j a _ 0 _ (by omega) (by omega) (aA6 _) (fun i h hi=>by omega) (fun i h hi=>by simp at h;omega)
theorem put_rise {xs:Array Nat} {j:Nat} (c:xs.toList.Pairwise (· < ·)) (hn:xs[SetTable.below xs j]? ≠ some j):(SetTable.insertAt xs (SetTable.below xs j) j).toList.Pairwise (· < ·):=by
 obtain ⟨n,d,g⟩:=below_ok xs j c
 rw [SetTable.toList_insertAt]
 generalize SetTable.below xs j=p at n d g hn ⊢
 rw [← aD5] at hn
 generalize xs.toList=l at c d g hn ⊢
 have lo:∀ x∈l.take p,x < j:=fun x f=>by
  obtain ⟨i,hi,e⟩:=List.mem_take_iff_getElem.mp f
  rw [← e];exact d i (by omega) (by omega)
 have m:∀ x∈l.drop p,j < x:=fun x f=>by
  obtain ⟨i,hi,e⟩:=List.mem_drop_iff_getElem.mp f
  have h:p < l.length:=by omega
  have ne:l[p] ≠ j:=fun e=>hn (by rw [aA0 h,e])
  have a:=g p h (aA6 _)
  have b:=akc c (show p<=p+i by omega) (by omega:p+i < l.length)
  have o:l[p+i]=x:=by rw [← e]
  omega
 rw [aC9]
 refine ⟨c.sublist (List.take_sublist _ _),aI6.mpr ⟨m,c.sublist (List.drop_sublist _ _)⟩,fun a ha b hb=>?_⟩
 rcases aA9.mp hb with rfl | hb
 ·exact lo a ha
 ·exact Nat.lt_trans (lo a ha) (m b hb)
structure TbI (bt:Bool) (t:SetTable):Prop where
 led:bt=false->t.led=true
 dum:t.dummies = #[]
 ris:t.plain=true->t.place.toList.Pairwise (· < ·)
theorem TbI.fresh (bt:Bool) (f m:Nat):TbI bt (.fresh f m (!bt)):=⟨fun h=>by subst h;rfl,rfl,fun _=>List.Pairwise.nil⟩
theorem TbI.standIn {bt:Bool} {t:SetTable} (x:TbI bt t) (n:Nat):TbI bt (t.standIn n):=⟨x.led,rfl,fun h=>by cases h⟩
theorem TbI.orStandIn {bt:Bool} {t:SetTable} (x:TbI bt t) (n:Nat):TbI bt (t.orStandIn n):=by
 unfold SetTable.orStandIn;split
 ·exact x
 ·exact x.standIn n
theorem has_nil (j:Nat):SetTable.has #[] j=false:=by unfold SetTable.has;simp
theorem anw {t:SetTable} (hd:t.dummies = #[]) {ha:Nat->Int} {h:Int} {j:Nat} {d:Option Nat}:∀ (a:Nat) (p:SetTable.Probe),p.dummy=none->SetTable.probe.go t ha h a p=some (.empty j d)->d=none/\t.slot j=.empty
 | 0,p,hp,e=>by unfold SetTable.probe.go at e;cases e
 | a+1,p,hp,e=>by
  unfold SetTable.probe.go at e
  have adv:(t.advance p).dummy=none:=by unfold SetTable.advance;split <;> exact hp
  cases hs:t.slot p.j with
  | empty=>rw [hs] at e;cases e;exact ⟨hp,hs⟩
  | dummy =>
   unfold SetTable.slot at hs
   dsimp only at hs
   split at hs
   ·cases hs
   ·rw [hd,has_nil] at hs;cases hs
  | live i =>
   rw [hs] at e
   dsimp only at e
   split at e
   ·cases e
   ·exact anw hd a _ adv e
theorem TbI.put {bt:Bool} {t:SetTable} (x:TbI bt t) {j:Nat} (hs:t.slot j=.empty):TbI bt (t.put j).1:=by
 refine ⟨x.led,?_,fun h=>?_⟩
 ·show (if SetTable.has t.dummies j=true then _ else t.dummies) = #[]
  rw [x.dum,has_nil];rfl
 ·show (SetTable.insertAt t.place (SetTable.below t.place j) j).toList.Pairwise (· < ·)
  refine put_rise (x.ris h) fun e=>?_
  unfold SetTable.slot at hs
  dsimp only at hs
  rw [e] at hs
  simp at hs
theorem TbI.layNew {bt:Bool} {t:SetTable} (x:TbI bt t) (es:Array (Int × Value)) (h:Int) (v:Value):TbI bt (layNew t es h v).2.1:=by
 unfold PySem.layNew
 split
 ·rename_i slot wd e
  unfold SetTable.freeSlot at e
  split at e
  ·rename_i j d e2
   obtain ⟨rfl,hs⟩:=anw x.dum _ _ rfl e2
   cases e
   exact (x.put hs).orStandIn _
  ·cases e
 ·exact x.standIn _
theorem as9 (owner:Array (Option Nat)) (m:Nat):(((List.range m).filterMap fun j=>(owner.getD j none).map (j,·)).map (·.1)).Pairwise (· < ·):=by
 rw [aG2,List.pairwise_filterMap]
 refine List.pairwise_lt_range.imp ?_
 intro a b f p c q d
 cases h1:owner.getD a none with
 | none=>rw [h1] at c;cases c
 | some i =>
  cases h2:owner.getD b none with
  | none=>rw [h2] at d;cases d
  | some k=>rw [h1] at c;rw [h2] at d;cases c;cases d;exact f
theorem TbI.relayAll {bt:Bool} {t:SetTable} (x:TbI bt t) (es:Array (Int × Value)) (n:Nat):TbI bt (relayAll t es n).2.1:=by
 unfold PySem.relayAll
 split
 ·rename_i t' order e
  dsimp only
  split
  ·unfold SetTable.relaid SetTable.laid at e
   cases ho:SetTable.layClean (SetTable.sizeAbove n - 1) (es.map (·.1)) with
   | none=>rw [ho] at e;cases e
   | some owner =>
    rw [ho] at e
    cases e
    exact ⟨x.led,rfl,fun _=>by simpa using as9 owner _⟩
  ·exact x.standIn _
 ·exact x.standIn _
end SS
namespace SS
open PySem PySem.W PyProof.Rows
section
variable {prog:Program} {w:World} {A:Around} {E:Value->Shared->Prop} {s:Shared}
def bt (w:World):Bool:=w.params.followText "set-order"
def kE (e:Int × Value):Int:=match e.2 with | .int k _=>k | _=>0
def al9 (prog:Program) (w:World) (e:Int × Value):Prop:=e.1=(intKind prog w).hash (kE e)/\∃ t,e.2=.int (kE e) t
def SetR (prog:Program) (w:World) (a:Addr) (es:Array (Int × Value)) (ep:Nat) (t:SetTable) (h:Heap):Prop :=
 ∃ o,h.get? a=some o/\o.ExactSet/\o.data=.set es ep t/\t.fits es.size=true/\TbI (bt w) t
def SetI (prog:Program) (w:World) (a:Addr) (L:List Int) (h:Heap):Prop:=∃ es ep t,SetR prog w a es ep t h/\(∀ e∈es.toList,al9 prog w e)/\(es.toList.map kE).Perm L
theorem SetR.at {a:Addr} {es:Array (Int × Value)} {ep:Nat} {t:SetTable} {h h':Heap} (x:SetR prog w a es ep t h) (k:∀ o,h.get? a=some o->h'.get? a=some o):SetR prog w a es ep t h':=let ⟨o,e,r⟩:=x;⟨o,k o e,r⟩
theorem SetI.at {a:Addr} {L:List Int} {h h':Heap} (x:SetI prog w a L h) (k:∀ o,h.get? a=some o->h'.get? a=some o):SetI prog w a L h':=let ⟨es,ep,t,r,p⟩:=x;⟨es,ep,t,r.at k,p⟩
theorem ayg {es:Array (Int × Value)} (h:∀ e∈es.toList,al9 prog w e):ElemsOf (intKind prog w) es.toList:=fun e c=>by
 obtain ⟨b,t,a⟩:=h e c
 refine ⟨⟨kE e,?_,b⟩,?_⟩
 ·rw [a];exact intKind_is _ _ _ _
 ·rw [a];rfl
theorem a2d {e:Int × Value} {k:Int} (h:al9 prog w e) (a:(intKind prog w).is k e.2=true):kE e=k:=by
 obtain ⟨c,t,b⟩:=h
 rw [b] at a
 exact ((intKind prog w).inj _ _ _ a (intKind_is _ _ _ _)).symm
theorem SetR.put {a:Addr} {es es':Array (Int × Value)} {ep:Nat} {t t':SetTable} {h:Heap} (x:SetR prog w a es ep t h) (hf:t'.fits es'.size=true) (c:TbI (bt w) t'):SetR prog w a es' (ep+1) t' (h.update a (Obj.putSet es' t')):=by
 obtain ⟨o,f,d,hd,_⟩:=x
 have b:(h.update a (Obj.putSet es' t')).get? a=some { o with data:=.set es' (ep+1) t' }:=by
  have:=Heap.get?_update_self (Obj.putSet es' t') f (by rw [putSet_of es' t' hd];rfl)
  rw [putSet_of es' t' hd] at this;exact this
 exact ⟨_,b,d,rfl,hf,c⟩
theorem store_ok {a:Addr} {es es':Array (Int × Value)} {ep:Nat} {t t':SetTable} {Q:Unit->Shared->Prop} (x:SetR prog w a es ep t s.heap) (b:es'.size < scanBound) (h:Q () { s with heap:=s.heap.update a (Obj.putSet es' t') }):wpAny (model prog w) A (storeSet a es' t') Q E s:=by
 obtain ⟨o,c,d,hd,_⟩:=x
 exact wpAny_storeSet_of c hd h (fits_of_scanBound b)
theorem anx {g:Bool->Sem Unit} (v:∀ (b:Bool) (f:Shared) (o:Unit->Shared->Prop),o () f->wpAny (model prog w) A (g b) o E f) {a:Addr} {es c:Array (Int × Value)} {ep:Nat} {t d:SetTable} (x:SetR prog w a es ep t s.heap)
  (n:c.size < scanBound) (hf:d.fits c.size=true) (p:TbI (bt w) d) {r:Bool} {R:Option Bool->Shared->Prop}
  (h:∀ h' i l u,Heap.SameBut a s.heap h'->SetR prog w a i l u h'->i.toList.Perm c.toList->R (some true) { s with heap:=h' }) :
  wpAny (model prog w) A (do
    storeSet a c d
    if (!r && d.tooFull)=true then do
      g (relayAll d c (SetTable.grown c.size)).2.2
      storeSet a (relayAll d c (SetTable.grown c.size)).1 (relayAll d c (SetTable.grown c.size)).2.1
      pure (some true)
     else pure (some true)) R E s:=by
 refine aJ2 (store_ok x n ?_)
 have m:=x.put (es':=c) (t':=d) hf p
 have j:=Heap.SameBut.update s.heap a (Obj.putSet c d)
 split
 ·have q:=relayAll_perm d c (SetTable.grown c.size)
  have hsz:(relayAll d c (SetTable.grown c.size)).1.size=c.size:=by rw [← aA8,q.length_eq,aA8]
  refine aJ2 (v _ _ _ ?_)
  refine aJ2 (store_ok (s:={ s with heap:=s.heap.update a (Obj.putSet c d) }) m (by rw [hsz];exact n) ?_)
  refine aJ3 (h _ _ _ _ (j.trans (Heap.SameBut.update _ a _)) (m.put (relayAll_fits _ _ _) (p.relayAll _ _)) q)
 ·exact aJ3 (h _ _ _ _ j m (List.Perm.refl _))
theorem a00 {a:Addr} {L:List Int} {k:Int} {tok:Tok} {Q:Bool->Shared->Prop} (x:SetI prog w a L s.heap) (hb:L.length+1 < scanBound)
  (h:∀ b h',Heap.SameBut a s.heap h'->SetI prog w a (if k∈L then L else L ++ [k]) h'->Q b { s with heap:=h' }):wpAny (model prog w) A (setAddHashed a (.int k tok) ((intKind prog w).hash k)) Q E s:=by
 obtain ⟨es,ep,t,x,r,y⟩:=x
 obtain ⟨o,M,T,hd,hf,P⟩:=id x
 have z:=ayg r
 have hsz:es.size=L.length:=by rw [← y.length_eq,aA3,aA8]
 have v:(intKind prog w).is k (.int k tok)=true:=intKind_is _ _ _ _
 unfold setAddHashed setAddHashedIn
 refine aJ8 (aJ2 (wpAny_setState_of M hd hf ?_))
 dsimp only
 rw [byScan_of (knd:=intKind prog w) (x:=.int k tok) rfl (by omega) z]
 simp only [↓reduceIte]
 unfold setAddByScan
 refine aJ2 ?_
 refine aJ2 (wpAny_rule ?_)
 refine aJ2 (wpAny_setScan_of v M hd hf z ?_)
 cases hr:List.findIdx? (fun e=>(intKind prog w).is k e.2) es.toList with
 | some j =>
  dsimp only
  obtain ⟨J,G,_⟩:=List.findIdx?_eq_some_iff_getElem.mp hr
  have hm:k∈L:=y.mem_iff.mp (by rw [← a2d (r _ (aF2 J)) G];exact List.mem_map_of_mem (aF2 J))
  refine aJ3 (aJ3 ?_)
  have e:s={ s with heap:=s.heap }:=by cases s;rfl
  have:=h false s.heap (Heap.SameBut.refl a s.heap) (by rw [aF6 hm];exact ⟨es,ep,t,x,r,y⟩)
  rw [e];exact this
 | none =>
  dsimp only
  have hm:k ∉ L:=fun R=>by
   obtain ⟨e,l,I⟩:=aB7.mp (y.mem_iff.mpr R)
   have:=List.findIdx?_eq_none_iff.mp hr e l
   obtain ⟨_,t',N⟩:=r e l
   rw [N,I] at this
   have O:(intKind prog w).is k (.int k t')=true:=intKind_is _ _ _ _
   rw [O] at this;cases this
  have D:∀ (b:Bool) {g:Shared} {u:Unit->Shared->Prop},u () g->wpAny (model prog w) A (match b with | true=>rule "set.scan.the-table-gave-way" | false=>pure ()) u E g :=
   fun b g u p=>by cases b <;> first | exact aJ3 p | exact wpAny_rule p
  have c:=layNew_perm t es ((intKind prog w).hash k) (.int k tok)
  have d:=layNew_fits t es ((intKind prog w).hash k) (.int k tok)
  have m:=P.layNew es ((intKind prog w).hash k) (.int k tok)
  generalize hL:layNew t es ((intKind prog w).hash k) (.int k tok)=Ly at c d m ⊢
  obtain ⟨n,t1,S,K⟩:=Ly
  dsimp only at c d m ⊢
  rw [Array.toList_push] at c
  have H:∀ e∈n.toList,al9 prog w e:=fun e l=>by
   rcases aA7.mp (c.mem_iff.mp l) with l | l
   ·exact r e l
   ·rw [aC2] at l;subst l;exact ⟨rfl,tok,rfl⟩
  have C:n.size < scanBound:=by rw [← aA8,c.length_eq,aB1,aA8];simp;omega
  have F:(n.toList.map kE).Perm (L ++ [k]):=by
   refine (c.map kE).trans ?_
   rw [aE3]
   exact y.append_right _
  have fin:∀ h' f i q,Heap.SameBut a s.heap h'->SetR prog w a f i q h'->f.toList.Perm n.toList->Q true { s with heap:=h' }:=fun h' f i q sb B p2 =>
   h true h' sb (by rw [aF7 hm];exact ⟨f,i,q,B,fun e l=>H e (p2.mem_iff.mp l),(p2.map kE).trans F⟩)
  refine aJ2 (D _ ?_)
  split
  ·refine aJ2 ?_
   rw [hashByValue_scannable 8 rfl]
   refine aJ3 ?_
   refine anx ?_ x C (by exact d) (by exact m) ?_
   ·intro b g u p;cases b <;> first | exact aJ3 p | exact wpAny_rule p
   ·intro h' f i q sb B p2;dsimp only;exact wpAny_pure (fin h' f i q sb B p2)
  ·refine aJ2 (aJ3 ?_)
   simp only [↓reduceIte]
   refine anx ?_ x C d m ?_
   ·intro b g u p;cases b <;> first | exact aJ3 p | exact wpAny_rule p
   ·intro h' f i q sb B p2;dsimp only;exact wpAny_pure (fin h' f i q sb B p2)
end
end SS
namespace SH
open PySem PySem.SetTable
def it:Nat->Nat->Nat
 | 0,x=>x
 | n+1,x=>it n (5 * x+1)
def adv (mask:Nat) (p:Probe):Probe:=if p.more > 0 then { p with j:=p.j+1,more:=p.more - 1 } else { p with j:=(leap mask p.i p.perturb).1,more:=runEnd mask (leap mask p.i p.perturb).1 - (leap mask p.i p.perturb).1,i:=(leap mask p.i p.perturb).1,perturb:=(leap mask p.i p.perturb).2 }
def pr0 (mask:Nat) (h:Int):Probe:={ j:=bits h % (mask+1),more:=runEnd mask (bits h % (mask+1)) - bits h % (mask+1),i:=bits h % (mask+1),perturb:=bits h,dummy:=none }
def pr (mask:Nat) (h:Int):Nat->Probe
 | 0=>pr0 mask h
 | k+1=>adv mask (pr mask h k)
def lp (mask:Nat) (h:Int):Nat->Nat × Nat
 | 0=>(bits h % (mask+1),bits h)
 | n+1=>leap mask (lp mask h n).1 (lp mask h n).2
def pAt (mask:Nat) (q:Nat × Nat) (a:Nat):Probe:={ j:=q.1+a,more:=runEnd mask q.1 - q.1 - a,i:=q.1,perturb:=q.2,dummy:=none }
def sp (mask:Nat) (h:Int):Nat->Nat
 | 0=>0
 | n+1=>sp mask h n+(runEnd mask (lp mask h n).1 - (lp mask h n).1)+1
structure TOk (t:SetTable):Prop where
 ris:t.place.toList.Pairwise (· < ·)
 dum:t.dummies = #[]
 le:∀ j∈t.place.toList,j<=t.mask
 two:∃ m,t.mask+1=2 ^ m
 room:t.place.size<=t.mask
def HI (t:SetTable) (es:List (Int × Value)):Prop:=es.length=t.place.size/\∀ (i:Nat) (e:Int × Value) (j:Nat),es[i]?=some e->t.place.toList[i]?=some j->∃ k,(pr t.mask e.1 k).j=j/\∀ k',k' < k->t.slot (pr t.mask e.1 k').j ≠ .empty
def ow (owner:Array (Option Nat)) (j:Nat):Option Nat:=owner.getD j none
structure Lay (mask:Nat) (hs:List Int) (owner:Array (Option Nat)):Prop where
 sz:owner.size=mask+1
 at':∀ k h,hs[k]?=some h->∃ s,(pr mask h s).j<=mask/\ow owner (pr mask h s).j=some k/\∀ s',s' < s->ow owner (pr mask h s').j ≠ none
 un:∀ j k,ow owner j=some k->k < hs.length
 inj:∀ j j' k,ow owner j=some k->ow owner j'=some k->j=j'
def live (owner:Array (Option Nat)) (mask:Nat):List (Nat × Nat):=(List.range (mask+1)).filterMap fun j=>(owner.getD j none).map (j,·)
end SH
namespace SH
open PySem PySem.W PyProof.Rows
section
variable {prog:Program} {w:World} {A:Around} {E:Value->Shared->Prop} {s:Shared} {U:Addr->Prop}
abbrev TK (prog:Program) (w:World):=tupleKind (intKind prog w)
structure ST (prog:Program) (w:World) (U:Addr->Prop) (a:Addr) (es:Array (Int × Value)) (ep:Nat) (t:SetTable) (ks:List (List Int)) (h:Heap):Prop where
 r:SS.SetR prog w a es ep t h
 ok:TOk t
 hi:HI t es.toList
 pl:t.plain=true
 msk:7<=t.mask/\t.mask<=8191
 len:ks.length=es.size
 gd:∀ (i:Nat) e k,es.toList[i]?=some e->ks[i]?=some k->∃ b,e=((TK prog w).hash k,.ref b)/\(TK prog w).is h k b/\U b
 nd:ks.Nodup
end
end SH
namespace SS
open PySem PySem.W PyProof.Rows
section
variable {prog:Program} {w:World} {A:Around} {E:Value->Shared->Prop} {s:Shared}
def ab6 (w:World):Obj:={ cls:=.type "set",dict:=none,data:=.set #[] 0 (.fresh 0 0 (!bt w)) }
theorem a04 (h:Heap):SetI prog w h.objs.size [] (h.push (ab6 w)):=⟨#[],0,_,⟨_,aJ6 _ rfl,⟨rfl,rfl,rfl⟩,rfl,rfl,TbI.fresh _ _ _⟩,fun e a=>by simp at a,by simp⟩
theorem avl (a:Value) {Q₁:Value->Shared->Prop} (h:Q₁ (.ref s.heap.objs.size) { s with heap:=s.heap.push (ab6 w) }) :
  codeAny (model prog w) A (.call (.builtin "set.__new__") ⟨[.type "set",a],[]⟩) (wants Q₁ E) s:=by
 refine codeAny_of_tree ?_
 show wpAny _ A.in1 (do checkBuiltinCall "set.__new__" ⟨[.type "set",a],[]⟩;again (.builtin "set.__new__" ⟨[.type "set",a],[]⟩)) _ _ s
 refine aJ2 (wpAny_of_eq (PySem.F.newCall_set_1 a) (aJ3 ⟨plainId_quiet PySem.F.plain_set_new _,aK7 PySem.F.entry_set_new ?_⟩))
 rw [aK2 PySem.F.plain_set_new _]
 unfold Builtin.«set.__new__» Builtin.Frozenset.newClass
 have b:=sub_set_self
 obtain ⟨f,g,d,c,os⟩:=s
 dsimp only
 wp_walk
 refine wpAny_askSetting (aJ3 ?_)
 dsimp only
 simp only [newObj]
 refine aJ2 (wpAny_alloc (aJ3 ?_))
 exact aJ3 h
section
variable {R:Result->Shared->Prop} {I:Addr} {fp wr:List Addr} {n:Nat} {P:Nat->Value->Prop} {St:Nat->Heap->Prop}
theorem ayl (W:Walks prog w A.in1 I fp wr n P St) (S:Addr) (C:S ∉ fp) (val:Nat->Int) (u:∀ i v,P i v->∃ t,v=.int (val i) t) (hb:n+1 < scanBound) :
  ∀ (k i:Nat) (s:Shared) (L:List Int),n - i=k->i<=n->St i s.heap->SetI prog w S L s.heap->L.Nodup->L.length<=i->(∀ x,x∈L ↔ ∃ j,j < i/\val j=x) ->
   (∀ h' q l,(∀ b o,b ∉ S :: wr->s.heap.get? b=some o->h'.get? b=some o)->SetI prog w S l h'->l.Nodup->l.length<=n->(∀ x,x∈l ↔ ∃ j,j < n/\val j=x)->R (.ok (.ret .none)) { s with heap:=h',toks:=q }) ->
   codeAny (model prog w) A (.builtin "set.update.loop" ⟨[.ref S,.ref I],[]⟩) R s:=by
 have G:S ∉ wr:=fun h=>C (W.sub _ h)
 intro k
 induction k with
 | zero =>
  intro i s L H hi g N d f c O
  have J:i=n:=by omega
  subst J
  refine aK7 PyProof.Rows.F.entry_set_update_loop ?_
  rw [aK2 PyProof.Rows.F.plain_set_update_loop _]
  show wpAny _ A.in1 (pyNext (.ref I) >>= _) _ _ s
  refine aJ2 (W.done s _ _ g fun h' q H=>?_)
  show wpAny _ A.in1 (ret Value.none) _ _ _
  exact aJ3 (O h' q L (fun b o hb e=>H b o (fun z=>hb (aB5 _ z)) e) (N.at fun o e=>H S o G e) d f c)
 | succ k ih =>
  intro i s L H hi g N d f c O
  have B:i < n:=by omega
  refine aK7 PyProof.Rows.F.entry_set_update_loop ?_
  rw [aK2 PyProof.Rows.F.plain_set_update_loop _]
  show wpAny _ A.in1 (pyNext (.ref I) >>= _) _ _ s
  refine aJ2 (W.item i s _ _ B g fun v M q Z D m=>?_)
  obtain ⟨t,rfl⟩:=u i v Z
  have T:SetI prog w S L M:=N.at fun o e=>m S o G e
  show wpAny _ A.in1 (holding [Value.int (val i) t] (setAdd S (.int (val i) t)) >>= _) _ _ _
  refine aJ2 (aJ8 ?_)
  unfold setAdd
  refine aJ8 ?_
  refine aJ2 ((intKind prog w).pyHash (k:=val i) (intKind_is _ _ _ _) ?_)
  refine a00 (s:={ s with heap:=M,toks:=q+1 }) T (by omega) fun b h' y K=>?_
  refine aJ3 ⟨plainId_quiet PyProof.Rows.F.plain_set_update_loop _,ih (i+1) _ _ (by omega) B (W.frame _ M _ D fun b hb o e=>?_) K ?_ ?_ ?_ fun Q r l E p n1 Y X=>?_⟩
  ·rw [y.2 b (fun h:b=S=>C (by rw [← h];exact hb))];exact e
  ·split
   ·exact d
   ·rename_i hm
    rw [aE7]
    refine ⟨d,by simp,fun a ha b hb=>?_⟩
    rw [aC2] at hb;subst hb
    exact fun z=>hm (z ▸ ha)
  ·split
   ·omega
   ·rw [aB1,List.length_singleton];omega
  ·intro x
   have U:x∈(if val i∈L then L else L ++ [val i]) ↔ x∈L\/x=val i:=by
    split
    ·rename_i hm;exact ⟨.inl,fun h=>h.elim id fun e=>e ▸ hm⟩
    ·simp
   rw [U,c x]
   constructor
   ·rintro (⟨j,a,b⟩ | rfl)
    ·exact ⟨j,by omega,b⟩
    ·exact ⟨i,by omega,rfl⟩
   ·rintro ⟨j,a,b⟩
    by_cases e:j=i
    ·subst e;exact .inr b.symm
    ·exact .inl ⟨j,by omega,b⟩
  ·refine O Q r l (fun b o hb e=>E b o hb ?_) p n1 Y X
   have:b ≠ S:=fun z=>hb (by rw [z];exact aB8)
   show h'.get? b=some o
   rw [y.2 b this]
   exact m b o (fun z=>hb (aB5 _ z)) e
end
theorem call_set {l:Addr} {items:Array Value} {ns:List Int} {Q:Value->Shared->Prop}
  (hh:A.handled=none) (hl:s.heap.IsList l items) (hi:IntsAre items.toList ns) (hb:items.size+1 < scanBound)
  (h:∀ (h':Heap) (q:Nat) (L:List Int),SetI prog w s.heap.objs.size L h'->L.Nodup->(∀ x,x∈L ↔ x∈ns) ->
   (∀ b o,s.heap.get? b=some o->h'.get? b=some o)->Q (.ref s.heap.objs.size) { s with heap:=h',toks:=q }) :
  wpAny (model prog w) A (call (.type "set") [.ref l]) Q E s:=by
 obtain ⟨c,tl,Y⟩:=PySem.F.called_set.mro
 have K:=PySem.F.called_set.made
 have a0:=PySem.F.called_set.sub
 refine wpAny_call (codeAny_of_tree ?_)
 show wpAny _ _ (callAny (.type "set") _) _ _ _
 refine aJ3 ⟨Code.quiet_builtin _ (by decide +kernel),aK7 PySem.F.entry_type_call ?_⟩
 rw [Around.under_plain (weight_type_call_type "set" [.ref l] []) rfl]
 have h1:=PySem.F.called_set.notType
 have h2:=PySem.F.called_set.canCreate
 have a5:=PySem.F.typeCall_set_1 (.ref l)
 repeat (any_goals (first | assumption | wp_step))
 refine aJ7 (avl (.ref l) (E:=E) (Q₁:=fun obj m=>obj=.ref s.heap.objs.size/\m={ s with heap:=s.heap.push (ab6 w) }) ⟨rfl,rfl⟩) fun r m U=>?_
 cases r with
 | error e=>exact U
 | ok fl =>
  cases fl with
  | ret obj =>
   obtain ⟨rfl,rfl⟩:=U
   have hS:(s.heap.push (ab6 w)).get? s.heap.objs.size=some (ab6 w):=aJ6 _ rfl
   have hT:Shared.TypeIs { s with heap:=s.heap.push (ab6 w) } (.ref s.heap.objs.size) "set":=⟨_,hS,rfl⟩
   have a6:=PySem.F.called_set.init.lookup
   have a7:=PySem.F.called_set.init.bind (.ref s.heap.objs.size)
   repeat (any_goals (first | assumption | wp_step))
   refine aJ7 (codeAny_call_builtin (R:=wants (fun r g=>r=.none/\∃ h' q L,g={ s with heap:=h',toks:=q }/\SetI prog w s.heap.objs.size L h'/\L.Nodup/\(∀ x,x∈L ↔ x∈ns) /\
     (∀ b o,s.heap.get? b=some o->h'.get? b=some o)) E) PySem.F.called_set.init.plain PySem.F.entry_set_init (check_set_init_1 hT ?_)) fun D g d=>?_
   ·obtain ⟨ol,J,C,nl,y⟩:=hl
    obtain ⟨a2,n,W,f⟩:=ol
    simp only at C y
    subst C;subst y
    have G:(s.heap.push (ab6 w)).get? l=some { cls:=.type "list",dict:=n,data:=.seq items nl,slots:=f }:=aJ4 _ J
    have a3:=PySem.F.sub_list_set
    have a1:=PySem.F.sub_list_frozenset
    have a4:(Value.type "list" == Value.type "dict")=false:=by decide
    have I:(s.heap.push (ab6 w)).IsList l items:=⟨_,G,rfl,nl,rfl⟩
    unfold Builtin.«set.__init__» noKeywords Builtin.Frozenset.updateFrom
    generalize hPI:pyIter=PI
    unfold ab6 at *
    wp_walk
    subst hPI
    refine aK6 I ?_
    refine aJ2 (wpAny_runValue ?_)
    have H:l < s.heap.objs.size:=aJ5 J
    have M:A.in1.in1.in1.handled=none:=by simp [hh]
    have u:l ≠ (s.heap.push (ab6 w)).objs.size:=by
     rw [aK3];exact aB6 (aF9 H)
    have N:s.heap.objs.size ∉ [(s.heap.push (ab6 w)).objs.size,l]:=by
     rw [aK3];simp only [aA9,aC2,aI4,or_false,not_or]
     exact ⟨aB6 (aI9 _),Nat.ne_of_gt H⟩
    have z:∀ (i:Nat) (v:Value),items[i]?=some v->∃ t,v=.int ((fun i=>ns.getD i 0) i) t:=fun i v hv =>
     IntsAre.int_at hi i v (by rw [aD5];exact hv)
    refine ayl (Walks.list M _ l u items) s.heap.objs.size N (fun i=>ns.getD i 0) z hb (items.size - 0) 0 _ [] (by omega) (aG1 _)
     ⟨⟨_,aJ6 _ rfl,rfl,rfl⟩,(I.push _)⟩ ((a04 s.heap).at fun o e=>aJ4 _ e) List.nodup_nil (aA6 _) (fun x=>by simp) fun h' q L hk p P Z n3=>?_
    show wpAny _ _ _ _ _ _
    refine aJ3 ?_
    show wpAny _ _ (ret Value.none) _ _ _
    refine aJ3 ⟨rfl,h',q,L,rfl,p,P,fun x=>?_,fun b o e=>?_⟩
    ·have S:items.size=ns.length:=by have:=hi.length;simpa using this
     rw [n3 x,S]
     constructor
     ·rintro ⟨j,a,b⟩
      rw [← b,aD3,aA0 a];exact aF2 a
     ·intro hx
      obtain ⟨j,a,b⟩:=aH7.mp hx
      exact ⟨j,a,by rw [aD3,aA0 a];exact b⟩
    ·have B:=aJ5 e
     have X:b ≠ s.heap.objs.size:=aB6 B
     have T:b ≠ (s.heap.push (ab6 w)).objs.size:=by
      rw [aK3];exact aB6 (aF9 B)
     exact hk b o (by simp only [aA9,aC2,aI4,or_false,not_or];exact ⟨X,T⟩) (aJ4 _ (aJ4 _ e))
   ·cases D with
    | error e=>exact d
    | ok fl₂ =>
     cases fl₂ with
     | ret r =>
      obtain ⟨rfl,h',q,L,rfl,p,P,Z,O⟩:=d
      repeat (any_goals (first | assumption | wp_step))
      exact h _ _ _ p P Z O
     | _=>exact d.elim
  | _=>exact U.elim
end
end SS
namespace SH
open PySem PySem.W PyProof.Rows SS
section
variable {prog:Program} {w:World} {A:Around} {E:Value->Shared->Prop} {s:Shared} {U:Addr->Prop}
section
variable {R:Result->Shared->Prop} {I:Addr} {fp wr:List Addr} {n:Nat} {P:Nat->Value->Prop} {St:Nat->Heap->Prop}
end
end
end SH
namespace SS
open PySem PySem.W PyProof.Rows
section
variable {prog:Program} {w:World} {A:Around} {E:Value->Shared->Prop} {s:Shared} {a I:Addr} {es:Array (Int × Value)} {ep:Nat} {t:SetTable}
def IsIt (h:Heap) (I:Addr) (vs:Array Value):Prop:=∃ o,h.get? I=some o/\o.cls=.type "set_iterator"/\o.data=.fields vs
def dr (w:World) (es:Array (Int × Value)) (t:SetTable):Bool:=!bt w && (!t.plain && decide (es.size > 1))
end
section
variable {prog:Program} {w:World} {A:Around} {E:Value->Shared->Prop} {s:Shared} {a I:Addr} {es:Array (Int × Value)} {ep:Nat} {t:SetTable}
def ord (w:World) (a:Addr) (es:Array (Int × Value)) (ep:Nat):List (Int × Value):=if bt w=true then (pickOrder (w.params.setOrder a ep) es).toList else es.toList
def sl (t:SetTable):Nat->Nat
 | 0=>0
 | i+1=>t.place.getD i 0+1
end
section
variable {prog:Program} {w:World} {A:Around} {E:Value->Shared->Prop} {s:Shared} {a:Addr} {es:Array (Int × Value)} {ep:Nat} {t:SetTable}
end
end SS
namespace SH
open PySem PySem.W PyProof.Rows SS
section
variable {prog:Program} {w:World} {A:Around} {E:Value->Shared->Prop} {s:Shared} {a:Addr}
end
end SH
namespace SS
open PySem PySem.W PyProof.Rows
section
variable {prog:Program} {w:World} {A:Around} {E:Value->Shared->Prop} {s:Shared} {a:Addr}
end
end SS
namespace L2
open PySem PySem.W PyProof.Rows
def ata (P:Program) (w:World) (K:Frag):List V->Hp->VK->Prop:=fun xs H Q=>∃ (a:Addr) (ns:List Int),xs=[.ref a]/\SqL K H a (ns.map V.int)/\ns.length < 4000/\∀ (L:List Int) (p:Addr),L.Nodup->(∀ x,x∈L ↔ x∈ns)->H p=none->Q (.ref p) (upd H p (.ext (SS.SetI P w p L)))
section
variable {X:Cx}
theorem atb (i:X.calm=true):aa5 X (.type "set") (ata X.prog X.w X.K):=by
 intro pins s σ H xs us Q I r h
 obtain ⟨a,ns,rfl,ha,p,q⟩:=h
 obtain ⟨u,rfl,d⟩:=ab8 r
 cases d
 obtain ⟨its,j,g,l⟩:=I.list ha
 have i1:IntsAre its.toArray.toList ns:=abx j
 have b:its.toArray.size=ns.length:=by have:=i1.length;simpa using this
 refine SS.call_set (items:=its.toArray) (I.ok.hd i) g.isList i1 (by rw [b];unfold scanBound;omega) fun h' f L c nd hm kp=>?_
 refine ⟨.ref s.heap.objs.size,_,I.laid (t':=f) (o:=.ext (SS.SetI X.prog X.w s.heap.objs.size L)) kp (aA6 _) ⟨c,?_,fun m n x k=>x.at k⟩,rfl,q L _ nd hm (I.hok.fresh (aA6 _))⟩
 obtain ⟨es,ep,t,⟨o,e,_⟩,_⟩:=c
 exact ⟨o,e⟩
end
end L2
namespace VL
open PySem PySem.Spec L2
section
variable {B:Bs} {env:En} {QO:Sl->En->Prop} {K:Frag} {ta:TA} {P:Program} {w:World}
end
end VL
namespace L2
open PySem PySem.W PyProof.Rows
section
variable {X:Cx}
end
end L2
namespace VL
open PySem PySem.Spec L2
section
variable {B:Bs} {env:En} {QO:Sl->En->Prop} {K:Frag} {ta:TA} {P:Program} {w:World}
end
end VL
namespace DictL
open PySem PyProof.Rows
theorem ai9:entryFor table "dict.update.loop" = some Builtin.«dict.update.loop»:=entryFor_of_tree (by kernel_rfl)
theorem aev:plainId "dict.update.loop" = true:=by decide +kernel
section
variable {prog:Program} {w:World} {A:Around} {R:Result->Shared->Prop} {I:Addr} {fp wr:List Addr} {n:Nat} {P:Nat->Value->Prop} {St:Nat->Heap->Prop} {K:Type} [DecidableEq K] {knd:KeyKind prog w K}
theorem aym {M:Model} {E:Value->Shared->Prop} {s:Shared} {t:Addr} {k v:Value} {Q:List Value->Shared->Prop} {c:Value->Sem (List Value)} (b:s.heap.IsTuple t #[k,v]) (h:Q [k,v] s):wpAny M A ((Builtin.Dict.pairItems (.ref t)).tryCatch c) Q E s:=by
 obtain ⟨⟨cls,l,data,sl⟩,f,a,m,hd⟩:=b
 simp only at a hd
 subst a hd
 refine wpAny_tryCatch ?_
 unfold Builtin.Dict.pairItems
 obtain ⟨j,g,d,i,os⟩:=s
 wp_walk
 exact h
end
section
variable {prog:Program} {w:World} {A:Around} {E:Value->Shared->Prop} {s:Shared}
theorem a05:typeLookup (.type "list") (Str.ofString "keys")=pure none:=by rw [typeLookup_type,builtinLookup_eq_fast];kernel_rfl
theorem ayn {a:Addr} {xs:Array Value} {k:Nat} {Q:Option Value->Shared->Prop} (l:s.heap.get? a=some { cls:=.type "list",data:=.seq xs k }) (m:A.handled=none)
  (h:∀ h' i,(∀ b o,s.heap.get? b=some o->h'.get? b=some o)->Q none { s with heap:=h',toks:=i }):wpAny (model prog w) A (getAttr? (.ref a) (Str.ofString "keys")) Q E s:=by
 obtain ⟨n,g,d,i,os⟩:=s
 have j:∀ f,(⟨n,g,d,f,os⟩:Shared).TypeIs (.ref a) "list":=fun _=>⟨_,l,rfl⟩
 have f1:=sub_AttributeError
 have p:=PySem.F.slot_list_getattribute.lookup
 have q:=PySem.F.slot_list_getattribute.bind (.ref a)
 have u:=am_list_getattr_none
 unfold getAttr? getAttrBy? getAttrBy
 repeat (any_goals (first | assumption | exact j _ | ((with_reducible show wpAny _ _ (call (Value.builtin "list.__getattribute__") _ _) _ _ _);refine call_meets PySem.F.slot_list_getattribute (j _) am_entry_list_getattribute (PySem.F.args_list_getattribute_2 _ _) (meets_getattribute_miss_list a xs k #[] (Str.ofString "keys") _ a05 (by decide +kernel) (by size_fits)) ⟨l,m,fun h' f e c=>?_⟩) | wp_step))
 obtain ⟨t',r,v⟩:=c.there
 show wpAny _ _ (getattributeRaised _ _ _ _ _ _ _) _ _ _
 unfold getattributeRaised
 repeat (any_goals (first | assumption | wp_step))
 exact h _ _ c.keeps
end
section
variable {prog:Program} {w:World} {A:Around} {E:Value->Shared->Prop} {s:Shared} {K:Type} [DecidableEq K] {knd:KeyKind prog w K}
end
end DictL
namespace L2
open PySem PySem.W PyProof.Rows
section
variable {K:Type} [DecidableEq K]
end
section
variable {X:Cx}
end
end L2
namespace VL
open PySem PySem.Spec L2
section
variable {B:Bs} {env:En} {QO:Sl->En->Prop} {Q':PyData->En->Prop} {D':VEnds} {K:Frag} {i:Nat}
end
end VL
namespace DictL
open PySem PyProof.Rows
section
variable {prog:Program} {w:World} {A:Around} {R:Result->Shared->Prop} {I:Addr} {fp wr:List Addr} {n:Nat} {P:Nat->Value->Prop} {St:Nat->Heap->Prop} {K:Type} [DecidableEq K] {knd:HeapKind prog w K}
theorem aq9 (W:Walks prog w A.in1 I fp wr n P St) (S:Addr) (D:S ∉ fp) (hu:knd.room A.in1) (h0:Heap) (m:Nat->K) (C:Nat->Addr) (val:Nat->Value) (tup:Nat->Addr) (f:Nat->List (K × Addr × Value)) (hk:∀ i,f (i+1)=storedH (f i) (m i) (C i) (val i)) (hz:∀ i,i<=n->(f i).length<=sizeLine)
  (hP:∀ i v,P i v->v=.ref (tup i)) (u:∀ i x,x∈f i->∃ j,j < i/\x.1=m j/\x.2.1=C j) (l:∀ i,i < n->tup i ≠ S/\tup i ∉ wr) (g:∀ h',(∀ b o,b ≠ S->b ∉ wr->h0.get? b=some o->h'.get? b=some o)->∀ i,i < n->knd.is h' (m i) (C i)) :
  ∀ (k i:Nat) (s:Shared),n - i=k->i<=n->St i s.heap->(∀ b o,b ≠ S->b ∉ wr->h0.get? b=some o->s.heap.get? b=some o)->(∀ j,i<=j->j < n->s.heap.IsTuple (tup j) #[.ref (C j),val j])->s.heap.DictOfH knd S (f i)->
   (∀ h' G,h'.DictOfH knd S (f n)->(∀ b o,b ≠ S->b ∉ wr->s.heap.get? b=some o->h'.get? b=some o)->R (.ok (.ret .none)) { s with heap:=h',toks:=G }) ->
   codeAny (model prog w) A (.builtin "dict.update.loop" ⟨[.ref S,.ref I,rawInt i,.none],[]⟩) R s:=by
 have a0:S ∉ wr:=fun h=>D (W.sub _ h)
 have E:∀ (h h':Heap) (i:Nat),i<=n->(∀ b o,b ≠ S->b ∉ wr->h0.get? b=some o->h'.get? b=some o)->h.DictOfH knd S (f i)->(∀ b o,b ∉ wr->h.get? b=some o->h'.get? b=some o)->h'.DictOfH knd S (f i):=fun h h' i hi c q hm=>by
  obtain ⟨o,es,ep,B,g1,g2,g3,_,g5⟩:=q
  refine ⟨o,es,ep,hm S o a0 B,g1,g2,g3,fun x hx=>?_,g5⟩
  obtain ⟨j,hj,e1,e2⟩:=u i x hx
  rw [e1,e2]
  exact g h' c j (by omega)
 intro k
 induction k with
 | zero =>
  intro i s Y hi p c N q O
  have J:i=n:=by omega
  subst J
  refine aK7 ai9 ?_
  rw [aK2 aev _]
  show wpAny _ A.in1 (pyNext (.ref I) >>= _) _ _ s
  refine aJ2 (W.done s _ _ p fun h' G hm=>?_)
  dsimp only
  unfold Builtin.Dict.addKeywords
  refine aJ2 (aJ2 (aJ3 (aJ3 ?_)))
  refine aJ3 ?_
  exact O h' G (E _ _ _ (aA6 _) (fun b o b1 a e=>hm b o a (c b o b1 a e)) q hm) fun b o _ hb e=>hm b o hb e
 | succ k ih =>
  intro i s Y hi p c N q O
  have d:i < n:=by omega
  refine aK7 ai9 ?_
  rw [aK2 aev _]
  show wpAny _ A.in1 (pyNext (.ref I) >>= _) _ _ s
  refine aJ2 (W.item i s _ _ d p fun v h' G T F hm=>?_)
  have ev:=hP i v T
  subst ev
  dsimp only
  have U:h'.IsTuple (tup i) #[.ref (C i),val i]:=by
   obtain ⟨o,B,r⟩:=N i (aA6 _) d
   exact ⟨o,hm _ o (l i d).2 B,r⟩
  have M:h'.DictOfH knd S (f i):=E _ _ _ hi (fun b o b1 a e=>hm b o a (c b o b1 a e)) q hm
  refine aJ2 (aJ8 ?_)
  refine aJ2 (aym U ?_)
  dsimp only
  refine aJ8 (wpAny_dictSet_heap hu (g h' (fun b o b1 a e=>hm b o a (c b o b1 a e)) i d) M (fun h2 L y=>?_) (hz i hi))
  have keep:∀ b o,b ≠ S->b ∉ wr->s.heap.get? b=some o->h2.get? b=some o:=fun b o b1 a e=>by rw [y.2 b b1];exact hm b o a e
  refine aJ3 ⟨plainId_quiet aev _,ih (i+1) _ (by omega) d ?_ ?_ ?_ (by rw [hk];exact L) ?_⟩
  ·exact W.frame _ _ _ F fun b hb o e=>by rw [y.2 b (fun z:b=S=>D (by rw [← z];exact hb))];exact e
  ·exact fun b o b1 a e=>keep b o b1 a (c b o b1 a e)
  ·intro j j1 X
   obtain ⟨o,B,r⟩:=N j (by omega) X
   exact ⟨o,keep _ o (l j X).1 (l j X).2 B,r⟩
  ·intro h3 Q Z H
   exact O h3 Q Z fun b o b1 a e=>H b o b1 a (keep b o b1 a e)
theorem call_dict_listH {E:Value->Shared->Prop} {s:Shared} {l:Addr} {items:Array Value} {nl:Nat} {Q:Value->Shared->Prop} (S:knd.room A.in1.in1) (a:Nat->K) (y:Nat->Addr) (val:Nat->Value) (tup:Nat->Addr) (n:Nat->List (K × Addr × Value)) (h0:n 0=[]) (hk:∀ i,n (i+1)=storedH (n i) (a i) (y i) (val i)) (U:∀ i,i<=items.size->(n i).length<=sizeLine) (q:∀ i x,x∈n i->∃ j,j < i/\x.1=a j/\x.2.1=y j)
  (hh:A.handled=none) (H:s.heap.get? l=some { cls:=.type "list",data:=.seq items nl }) (Y:∀ i v,items[i]?=some v->v=Value.ref (tup i)) (R:∀ j,j < items.size->s.heap.IsTuple (tup j) #[.ref (y j),val j]) (z:∀ h',(∀ b o,s.heap.get? b=some o->h'.get? b=some o)->∀ i,i < items.size->knd.is h' (a i) (y i))
  (h:∀ (h':Heap) (M:Nat),h'.DictOfH knd s.heap.objs.size (n items.size)->(∀ b o,s.heap.get? b=some o->h'.get? b=some o)->Q (.ref s.heap.objs.size) { s with heap:=h',toks:=M }) :
  wpAny (model prog w) A (call (.type "dict") [.ref l]) Q E s:=by
 refine callType_codes (Q₁:=fun obj f=>obj=.ref s.heap.objs.size/\f={ s with heap:=s.heap.push { cls:=.type "dict",data:=.dict #[] } }) F.kt_called_dict (F.kt_typeCall_dict_1 _) F.entry_dict_init (kt_code_dict_new (.ref l) ⟨rfl,rfl⟩) fun obj f D=>?_
 obtain ⟨rfl,rfl⟩:=D
 have P:(s.heap.push { cls:=.type "dict",data:=.dict #[] }).get? s.heap.objs.size=some { cls:=.type "dict",data:=.dict #[] }:=aJ6 _ rfl
 refine ⟨⟨_,P,rfl⟩,F.args_dict_init_2 _ _,?_⟩
 have c:(s.heap.push { cls:=.type "dict",data:=.dict #[] }).get? l=some { cls:=.type "list",data:=.seq items nl }:=aJ4 _ H
 have T:(Value.type "list" == Value.type "dict")=false:=by decide
 unfold Builtin.«dict.__init__» Builtin.Dict.updateCommon Builtin.Dict.updateFrom
 obtain ⟨m,g,d,M,os⟩:=s
 dsimp only at *
 generalize hPI:pyIter=PI
 generalize hGA:getAttr?=GA
 wp_walk
 subst hGA hPI
 refine ayn (s:={ heap:=m.push { cls:=.type "dict",data:=.dict #[] },gens:=g,drawn:=d,toks:=M,os:=os }) c hh fun p J I=>?_
 rw [aF6 (show (none:Option Value).isNone=true from rfl)]
 refine aJ2 (wpAny_rule ?_)
 have B:p.IsList l items:=⟨_,I _ _ c,rfl,nl,rfl⟩
 have G:l < m.objs.size:=aJ5 H
 have C:=I _ _ P
 have hsz:m.objs.size < p.objs.size:=aJ5 C
 refine aJ2 (aK6 (s:={ heap:=p,gens:=g,drawn:=d,toks:=J,os:=os }) B ?_)
 refine aJ3 ⟨plainId_quiet aev _,?_⟩
 have u:l ≠ p.objs.size:=aB6 (Nat.lt_trans G hsz)
 have N:m.objs.size ∉ [p.objs.size,l]:=by
  simp only [aA9,aI4,or_false,not_or]
  exact ⟨aB6 hsz,Nat.ne_of_gt G⟩
 have tl:∀ j,j < items.size->tup j < m.objs.size:=fun j L=>let ⟨_,e,_⟩:=R j L;aJ5 e
 refine aq9 (A:=A.in1) (knd:=knd) (Walks.list (A:=A.in1.in1) hh p.objs.size l u items) m.objs.size N S m a y val tup n hk U Y q (fun i hi=>⟨aB6 (tl i hi),by simp only [aC2];exact aB6 (Nat.lt_trans (tl i hi) hsz)⟩)
  (fun h' Z=>z h' fun b o e=>Z b o (aB6 (aJ5 e)) (by simp only [aC2];exact aB6 (Nat.lt_trans (aJ5 e) hsz)) e) (items.size - 0) 0 _ (by omega) (aG1 _)
  ⟨⟨_,aJ6 _ rfl,rfl,rfl⟩,B.push _⟩ (fun b o _ _ e=>aJ4 _ (I _ _ (aJ4 _ e))) (fun j _ L=>?_) ?_ fun h' O W kp=>?_
 ·obtain ⟨o,e,r⟩:=R j L
  exact ⟨o,aJ4 _ (I _ _ (aJ4 _ e)),r⟩
 ·rw [h0]
  exact ⟨_,#[],0,aJ4 _ C,⟨rfl,rfl,rfl⟩,rfl,rfl,fun x X=>by simp at X,List.nodup_nil⟩
 ·refine ⟨rfl,h h' O W fun b o e=>kp b o (aB6 (aJ5 e)) (by simp only [aC2];exact aB6 (Nat.lt_trans (aJ5 e) hsz)) (aJ4 _ (I _ _ (aJ4 _ e)))⟩
end
end DictL
namespace L2
open PySem PySem.W PyProof.Rows
def ad0 (kvs:List (List Key × Addr × V)):List (List Key × V):=kvs.foldl (fun acc kv=>putK acc kv.1 kv.2.2) []
def atc:List V->Hp->VK->Prop:=fun xs H Q=>∃ (a:Addr) (ts:List Addr) (kvs:List (List Key × Addr × V)),xs=[.ref a]/\H a=some (.lst (ts.map V.ref))/\ts.length=kvs.length/\kvs.length < 40000 /\
 (∀ (i:Nat) t kv,ts[i]?=some t->kvs[i]?=some kv->H t=some (.tup [.ref kv.2.1,kv.2.2])/\H kv.2.1=some (.tup (kv.1.map kV)))/\∀ p,H p=none->Q (.ref p) (upd H p (.dT (ad0 kvs)))
section
variable {K:Type} [DecidableEq K]
def kfH (key:Nat->K) (ka:Nat->Addr) (val:Nat->Value):Nat->List (K × Addr × Value)
 | 0=>[]
 | i+1=>storedH (kfH key ka val i) (key i) (ka i) (val i)
theorem ara (xs:List (K × Addr × Value)) (k:K) (a:Addr) (v:Value):(storedH xs k a v).length<=xs.length+1:=by
 unfold storedH
 split
 ·rw [aA3];omega
 ·simp
theorem akd (a:Nat->K) (b:Nat->Addr) (val:Nat->Value):∀ i,(kfH a b val i).length<=i
 | 0=>aA6 _
 | i+1=>aD0 (ara _ _ _ _) (Nat.succ_le_succ (akd a b val i))
theorem ap4 (a:Nat->K) (b:Nat->Addr) (val:Nat->Value):∀ i x,x∈kfH a b val i->∃ j,j < i/\x.1=a j/\x.2.1=b j
 | 0,x,h=>by cases h
 | i+1,x,h=>by
  have f:=ap4 a b val i
  change x∈storedH (kfH a b val i) (a i) (b i) (val i) at h
  unfold storedH at h
  split at h
  ·obtain ⟨y,l,rfl⟩:=aB7.mp h
   obtain ⟨j,g,c,d⟩:=f y l
   refine ⟨j,by omega,?_⟩
   unfold putAt
   split
   ·exact ⟨c,d⟩
   ·exact ⟨c,d⟩
  ·rcases aA7.mp h with h | h
   ·obtain ⟨j,g,e⟩:=f x h
    exact ⟨j,by omega,e⟩
   ·have:x=(a i,b i,val i):=by simpa using h
    subst this
    exact ⟨i,by omega,rfl,rfl⟩
end
theorem aoo {kvs:List (List Key × Addr × V)} {a:List Key × Addr × V}:ad0 (kvs ++ [a])=putK (ad0 kvs) a.1 a.2.2:=by unfold ad0;rw [List.foldl_append];rfl
section
variable {X:Cx}
theorem arb (T:X.calm=true) (B:X.A.units+64 < cLine):aa5 X (.type "dict") atc:=by
 intro pins s σ H xs us Q I r h
 obtain ⟨a,c,kvs,rfl,ha,L,h4,D,q⟩:=h
 obtain ⟨u,rfl,C⟩:=ab8 r
 cases C
 obtain ⟨hz,its,nl,K,e⟩:=(show ObjOk X.prog X.w H s.heap a (.lst (c.map V.ref)) from I.hok a _ ha)
 have l:its.length=c.length:=by have:=K.length;rw [aA3] at this;omega
 have x:∀ {i},i < c.length->c[i]?=some (c.getD i 0):=fun {i} hi=>by rw [aD3,aA0 hi];rfl
 have y:∀ {i},i < c.length->kvs[i]?=some (kvs.getD i ([],0,.non)):=fun {i} hi=>by rw [aD3,aA0 (show i < kvs.length by omega)];rfl
 obtain ⟨d,g⟩:∃ d:Nat->List Key × Addr × V,d=fun i=>kvs.getD i ([],0,.non):=⟨_,rfl⟩
 have G:∀ i:Nat,∃ p:Value,i < c.length->s.heap.IsTuple (c.getD i 0) #[.ref (d i).2.1,p]/\RelV (d i).2.2 p:=fun i=>by
  by_cases hi:i < c.length
  ·obtain ⟨W,N⟩:=D i _ _ (x hi) (y hi)
   obtain ⟨_,a0,m,p2⟩:=(show ObjOk X.prog X.w H s.heap _ (.tup _) from I.hok _ _ W)
   cases m with
   | cons r1 m =>
    cases m with
    | cons m r3 =>
     cases r3
     cases r1
     exact ⟨_,fun _=>⟨by rw [g];exact p2,by rw [g];exact m⟩⟩
  ·exact ⟨.none,fun h=>absurd h hi⟩
 obtain ⟨f,hf⟩:=Classical.skolem.mp G
 have F:∀ i,i<=c.length->KT H (ad0 (kvs.take i)) (kfH (fun i=>(d i).1) (fun i=>(d i).2.1) f i):=fun i=>by
  induction i with
  | zero=>intro _;exact .nil
  | succ i ih =>
   intro hi
   have Z:kvs.take (i+1)=kvs.take i ++ [d i]:=by rw [aH5,y (by omega),g];rfl
   rw [Z,aoo]
   refine (ih (by omega)).put _ ?_ (hf i (by omega)).2
   rw [g]
   exact (D i _ _ (x (by omega)) (y (by omega))).2
 refine DictL.call_dict_listH (knd:=tupleKind (abk X.prog X.w)) (items:=its.toArray) (nl:=nl) (tupleKind_room_in1 (by show X.A.units+1+1 < cLine;omega)) (fun i=>(d i).1) (fun i=>(d i).2.1) f (fun i=>c.getD i 0) (kfH (fun i=>(d i).1) (fun i=>(d i).2.1) f) rfl (fun i=>rfl) (fun i hi=>aD0 (akd _ _ _ i) (aD0 hi (by rw [sizeLine_eq];simp;omega))) (ap4 _ _ _)
  (I.ok.hd T) e (fun i v z=>?_) (fun j O=>(hf j (by simpa [l] using O)).1) (fun h' kp i hi=>?_) fun h' P J kp=>?_
 ·have z:its[i]?=some v:=by simpa using z
  have hi:=(aA1.mp z).1
  have U:(c.map V.ref)[i]?=some (.ref (c.getD i 0)):=by rw [aA5,x (by omega)];rfl
  obtain ⟨u,B,C⟩:=K.get U
  rw [z] at B
  cases B
  exact C
 ·have hi:i < c.length:=by simpa [l] using hi
  have N:=(D i _ _ (x hi) (y hi)).2
  rw [g]
  exact aio (I.hok.kept kp) N
 ·have hsz:its.toArray.size=c.length:=by simp [l]
  rw [hsz] at J
  have E:=F c.length (aA6 _)
  rw [L,aG9,← L] at E
  have n:=I.hok.fresh (a:=s.heap.objs.size) (aA6 _)
  refine ⟨.ref s.heap.objs.size,_,I.laid (t':=P) (o:=.dT (ad0 kvs)) kp (aA6 _) ?_,rfl,q _ n⟩
  obtain ⟨R,es,ep,Y,b1,b2,b3,_,S⟩:=J
  refine ⟨?_,beq_eq_false_iff_ne.mpr (Ne.symm (aB6 I.big)),_,E.keeps fun b ys M=>?_,R,es,ep,Y,b1,b2,b3,S⟩
  ·have:=E.length
   rw [this,sizeLine_eq]
   exact aD0 (akd _ _ _ _) (by omega)
  ·rw [aag (aaq M n)]
   exact M
end
end L2
namespace VL
open PySem PySem.Spec L2
theorem ap5 {G:Hp} {as:List Addr}:∀ {es:List (Int × Int)} {kvs:List (List Key × V)} {ps:List (Int × Int)},RpT G kvs (kE ps)->∀ (as:List Addr),as.length=es.length ->
  RpT G ((es.zip as).foldl (fun b x=>putK b [Sum.inl x.1.1,Sum.inl x.1.2] (.bl true)) kvs) (kE (es.foldl addP ps))
 | [],_,_,h,as,_=>by simpa using h
 | e :: es,kvs,ps,h,[],hl=>by simp at hl
 | e :: es,kvs,ps,h,a :: as,hl=>by
  rw [List.zip_cons_cons,List.foldl_cons,List.foldl_cons]
  refine ap5 (as:=as) ?_ as (by simpa using hl)
  obtain ⟨x,y⟩:=e
  rw [← anp]
  exact h.put (.bl true)
section
variable {B:Bs} {env:En} {QO:Sl->En->Prop}
theorem atd {src:List (Option Nat)} {wi:TI} (h:EvI B wi env fun ds S=>∃ es:List (Int × Int),ds=es.map prD/\es.length<=30000/\QO (.own (OT (kE (es.foldl addP [])))) S) :
  EvO B (tCB atc (aa6 (tLC (none :: src) wi (aa1 0) tYes (tTup (aa6 (tVar 0) (aa6 (tC (V.bl true)) tNil)))) tNil)) env QO:=fun σ G H F Q I k=>by
 refine h σ G H F _ I fun J G1 H1 F1 ds S I1 g1 it ⟨es,ed,a3,q⟩ f j=>?_
 subst ed
 have hL:(es.map prD).length=es.length:=aA3 ..
 let W:Nat->List V->St->Hp->Prop:=fun n ys σI H=>∃ (A as:List Addr) (s:Hp),ys=A.map V.ref/\A.length=n/\as.length=n/\0 < σI.length /\
  (∀ (i:Nat) t b p,A[i]?=some t->as[i]?=some b->es[i]?=some p->H t=some (.tup [.ref b,.bl true])/\s b=some (.tup [.int p.1,.int p.2]))/\(∀ t∈A,t ≠ f) /\
  H f=some (.lst ys)/\s f=none/\Same G1 s/\Same s H/\Same H1 H/\(∀ a o,s a=some o->G1 a=some o\/H1 a=none)/\FT s H
 refine ⟨fun n m ys σI H=>m=es.length - n/\n<=es.length/\W n ys σI H,⟨es.length,by simp,aG1 _,[],[],G1,rfl,rfl,rfl,by simp [pick],fun i t b p h=>by simp at h,fun t N=>by simp at N,aaj,I1.no_g j,Same.refl _,I1.gh.trans (abm j),abm j,fun a o e => .inl e,fun a ks e=>?_⟩,?_⟩
 ·by_cases z:a=f
  ·subst z;rw [aaj] at e;cases e
  ·rw [aag z] at e;exact I1.ft a ks e
 rintro n m ys σI H2 ⟨rfl,hn,A,as,s,rfl,hl,E,P,C,U,l,ga,O,r,L,X,K⟩
 refine ⟨l,?_⟩
 by_cases hlt:n < es.length
 ·refine .inr ⟨it.go n s H2 O r (by omega),fun R T H'=>W (n+1) R T H',fun R T H' hw=>⟨es.length - (n+1),by omega,rfl,hlt,hw⟩,fun x H3 y=>?_⟩
  obtain ⟨p,Z⟩:∃ p,es[n]?=some p:=⟨_,aA0 hlt⟩
  obtain ⟨G3,o⟩:=it.yld n s H2 x H3 (prD p) O r K (by rw [aA5,Z];rfl) y
  have rx:Rp G3 x (.tuple [.int p.1,.int p.2]):=o.ok.1
  cases rx with
  | @tup b vs ds' hb rs =>
  cases rs with
  | cons r1 rs =>
  cases rs with
  | cons r2 rs =>
  cases rs
  cases r1
  cases r2
  refine ajp (amr (acl (azq (ajq (ar5 (v:=.ref b) (by rw [aD2,aF6 rfl,aF6 P]) (ajq (go_c (air ⟨show (2:Nat)<=sizeLine by rw [sizeLine_eq];decide,fun t N=>?_⟩))))))))
  have t2:H2 t=none:=aby o.hh N
  have ta:t ≠ f:=(aaq (o.hh _ _ l) N).symm
  have old:∀ a u,H2 a=some u->a ≠ f->upd (upd H3 t (.tup [.ref b,.bl true])) f (.lst (A.map V.ref ++ [.ref t])) a=some u:=fun a u e aa=>by
   have Y:=o.hh _ _ e
   rw [aag aa,aag (aaq Y N)]
   exact Y
  refine ⟨by rw [aag ta.symm];exact o.hh _ _ l,by rw [aA3,hl];exact big (by omega),A ++ [t],as ++ [b],G3,by simp,by simp [hl],by simp [E],by rw [List.length_set];exact P,fun i c d p' g hd M=>?_,fun c g=>?_,aaj,?_,O.trans o.gg,fun a u e=>?_,fun a u e=>?_,fun a u e=>?_,fun a ks e=>?_⟩
  ·by_cases hi:i < n
   ·rw [aC3 (by omega)] at g hd
    obtain ⟨q1,q2⟩:=C i c d p' g hd M
    exact ⟨old c _ q1 (U c (aA2 g)),o.gg _ _ q2⟩
   ·have a1:i=n:=by
     have:=(aA1.mp g).1
     simp at this
     omega
    subst a1
    rw [aC8 (by omega),hl,aI7] at g
    rw [aC8 (by omega),E,aI7] at hd
    rw [Z] at M
    cases g
    cases hd
    cases M
    exact ⟨by rw [aag ta,aaj],hb⟩
  ·rcases aA7.mp g with g | g
   ·exact U c g
   ·have e:=aC2.mp g
    subst e
    exact ta
  ·cases e:G3 f with
   | none=>rfl
   | some w =>
    rcases o.gn f w e with e | e
    ·rw [ga] at e;cases e
    ·rw [l] at e;cases e
  ·have at':a ≠ t:=aaq (o.gh a u e) N
   have aa:a ≠ f:=by
    rintro rfl
    rcases o.gn _ u e with e | e
    ·rw [ga] at e;cases e
    ·rw [l] at e;cases e
   rw [aag aa,aag at'];exact o.gh a u e
  ·exact old a u (L a u e) (aaq e j)
  ·rcases o.gn a u e with e | e
   ·exact X a u e
   ·exact .inr (aby L e)
  ·by_cases z:a=f
   ·subst z;rw [aaj] at e;cases e
   ·rw [aag z] at e
    by_cases y:a=t
    ·subst y
     rw [aaj] at e
     exfalso
     have e:=HO.tup.inj (aC6 e)
     match ks,e with
     | [],e=>simp at e
     | .inl _ :: _,e=>simp [kV] at e
     | .inr _ :: _,e=>simp [kV] at e
    ·rw [aag y] at e;exact o.ft K a ks e
 ·have e:n=es.length:=by omega
  subst e
  refine .inl ⟨it.stop _ s H2 O r hL.symm,?_⟩
  have I2:=I1.grow O r L X K
  obtain ⟨kvs,hk⟩:∃ kvs:List (List Key × Addr × V),kvs=(es.zip as).map fun x=>([Sum.inl x.1.1,Sum.inl x.1.2],x.2,V.bl true):=⟨_,rfl⟩
  have a2:kvs.length=es.length:=by rw [hk,aA3,List.length_zip];omega
  have a0:ad0 kvs=(es.zip as).foldl (fun f x=>putK f [Sum.inl x.1.1,Sum.inl x.1.2] (.bl true)) []:=by
   unfold ad0
   rw [hk,List.foldl_map]
  refine air ⟨f,A,kvs,rfl,l,by omega,by omega,fun i t kv g D=>?_,fun p Z=>?_⟩
  ·rw [hk,aA5] at D
   have hi:=(aA1.mp g).1
   have S:es[i]?=some es[i]:=aA0 (by omega)
   have e2:as[i]?=some as[i]:=aA0 (by omega)
   have Y:(es.zip as)[i]?=some (es[i],as[i]):=by
    rw [aA0 (by rw [List.length_zip];omega)]
    simp
   rw [Y] at D
   cases D
   obtain ⟨q1,q2⟩:=C i t _ _ g e2 S
   exact ⟨q1,r _ _ q2⟩
  ·have o:=Out.newDT (xs:=ad0 kvs) (ds:=kE (es.foldl addP [])) I2.gh Z (by rw [a0];exact ap5 (as:=as) .nil as E)
   exact k _ _ _ F1 _ _ S (I2.out o).1 ((g1.trans O).trans o.gg) (I2.out o).2 q
end
theorem RpT.val {G:Hp} {k:List Key}:∀ {kvs:List (List Key × V)} {es:List (List Key × PyData)},RpT G kvs es->(valV kvs k).isSome=(valD es k).isSome
 | _,_,.nil=>rfl
 | (k',v) :: r,(_,d) :: s,.cons h t=>by
  have a:=RpT.val (k:=k) t
  unfold valV valD at a ⊢
  simp only [List.find?_cons]
  by_cases e:k'=k
  ·subst e;simp
  ·simpa [e] using a
section
variable {B:Bs} {env:En} {Q':PyData->En->Prop} {i:Nat} {ty:TE}
theorem aja {c:List (List Key × PyData)} (p:Has env i (OT c)) (h:Ev B ty env fun y b=>∃ es ks,Has b i (OT es)/\y=tkD ks/\Q' (.bool (!(valD es ks).isSome)) b):Ev B (ajm ty (tVar i)) env Q':=fun σ G H F Q I k =>
 h σ G H F _ I fun r o H2 F2 y b d g m n=>by
  obtain ⟨es,ks,j,f,q⟩:=n
  subst f
  obtain ⟨v,l,a,kvs,rfl,ha,rt,_⟩:=d.has j
  cases m with
  | tup hk rs =>
   have:=ano rs
   subst this
   refine ⟨_,l,a,_,rfl,DGet.t ha (d.gh _ _ hk),?_⟩
   rw [RpT.val rt]
   exact k _ o H2 F2 _ b d g (.bl _) q
end
theorem a06 (ps:List (Int × Int)) (a b:Int):(valD (kE ps) [Sum.inl a,Sum.inl b]).isSome=decide ((a,b)∈ps):=by
 induction ps with
 | nil=>rfl
 | cons p ps ih =>
  unfold valD kE at ih ⊢
  simp only [aD1,List.find?_cons]
  by_cases e:p=(a,b)
  ·subst e;simp
  ·have:¬ (([Sum.inl p.1,Sum.inl p.2]:List Key)=[Sum.inl a,Sum.inl b]):=fun z=>by
    simp at z
    exact e (Prod.ext z.1 z.2)
   have c:¬ ((a,b)=p):=fun z=>e z.symm
   rw [aD6 this]
   simp only [ih,aA9,c,false_or]
section
variable {B:Bs} {env:En} {g:TG} {tif:TT} {te:TE} {K:Frag} {src:List (Option Nat)} {ds:List PyData} {e1:En} {R:List PyData->En->Prop}
end
theorem ate {α:Type} {K:Frag} {src:List (Option Nat)} {a:En} {te:TE} {c:TT} {R:List PyData->En->Prop} {xs:List α} {f : α->PyData} (g : α->PyData) (p : α->Bool) (n:∀ o,ahd (none :: src) a (stO o :: aal src a)=a) (E:xs.length<=999999)
  (h:∀ x∈xs,∀ j:Bs,j.K=K->EvT j c (some (.st (f x)) :: aal src a) fun b r=>b=p x/\r=some (.st (f x)) :: aal src a/\(b=true->Ev j te (some (.st (f x)) :: aal src a) fun y m=>y=g x/\m=some (.st (f x)) :: aal src a))
  (z:R ((xs.filter p).map g) a):LcV K (none :: src) (aa1 0) c te (xs.map f) a R:=by
 refine ⟨fun i ys e=>ys=((xs.take i).filter p).map g/\∃ o,e=stO o :: aal src a,⟨by simp,none,rfl⟩,?_,?_,?_⟩
 ·rintro i ys e ⟨_,o,rfl⟩
  exact ⟨⟨isIo_stO.symm,ac0⟩,adn adh⟩
 ·rintro i d ys e hd ⟨rfl,o,rfl⟩ j B
  rw [aA5] at hd
  cases hx:xs[i]? with
  | none=>rw [hx] at hd;cases hd
  | some x =>
  rw [hx] at hd
  cases hd
  have hi:i < xs.length:=(aA1.mp hx).1
  have s:xs.take (i+1)=xs.take i ++ [x]:=by rw [aH5,hx];rfl
  refine aaz ?_
  show EvT j c (some (.st (f x)) :: aal src a) _
  intro σ G H F Q I k
  refine h x (aA2 hx) j B σ G H F Q I fun b G' H' F' r l g' ⟨hb,C,w⟩=>k b G' H' F' r l g' ?_
  subst C
  by_cases hp:b=true
  ·rw [aF6 hp]
   intro σ G H F Q I k
   refine w hp σ G H F Q I fun v G' H' F' d' m l g' u ⟨A,q⟩=>k v G' H' F' d' m l g' u ?_
   subst A q
   refine ⟨?_,?_,some _,rfl⟩
   ·have:=aF3 p (xs.take i)
    simp only [aA3]
    have D:(xs.take i).length<=i:=by simp;omega
    omega
   ·rw [s,List.filter_append,aE3]
    have:p x=true:=by rw [← hb];exact hp
    simp [this]
  ·rw [aF7 hp]
   refine ⟨?_,some _,rfl⟩
   rw [s,List.filter_append,aE3]
   have:p x=false:=by rw [← hb];simpa using hp
   simp [this]
 ·rintro ys e ⟨rfl,o,rfl⟩
  rw [n,aA3,aG9]
  exact z
end VL
namespace L2
open PySem PySem.Spec PyProof.Rows
section
variable {X:Cx}
def ap6 (P:Program) (w:World):List V->Hp->VK->Prop:=fun xs H Q=>∃ (a:Addr) (L:List Int),xs=[.ref a]/\H a=some (.ext (SS.SetI P w a L))/\L.length < 4000/\Q (.int (L.length:Int)) H
theorem aop:aa5 X (.builtin "len") (ap6 X.prog X.w):=by
 intro pins s σ H xs us Q I r h
 obtain ⟨a,L,rfl,ha,i,q⟩:=h
 obtain ⟨u,rfl,b⟩:=ab8 r
 cases b
 obtain ⟨d,_,_⟩:=(show ObjOk X.prog X.w H s.heap a (.ext (SS.SetI X.prog X.w a L)) from I.hok a _ ha)
 obtain ⟨es,ep,t,⟨o,c,f,hd,hf,_⟩,_,g⟩:=d
 have hn:es.size=L.length:=by have:=g.length_eq;simpa using this
 refine Calls.call_function_entry kind_len plain_len entry_len (args_len1 _) (wpAny_len_body_set c f hd hf (by omega) ?_)
 rw [hn]
 exact ⟨.int (L.length:Int),H,I.tok _,⟨_,rfl⟩,q⟩
end
end L2
namespace VL
open PySem PySem.Spec L2
section
variable {B:Bs} {env:En} {Q':PyData->En->Prop} {K:Frag} {ta:TA} {P:Program} {w:World}
theorem atf (h:EvA B ta env fun ds e=>∃ ns:List Int,ds=[.list (ns.map .int)]/\ns.length < 4000/\∀ L:List Int,L.Nodup->(∀ x,x∈L ↔ x∈ns)->Q' (.int (L.length:Int)) e):Ev B (tCB (ap6 P w) (aa6 (tCB (ata P w K) ta) tNil)) env Q':=fun σ G H F Q I k =>
 h σ G H F _ I fun vs c v l ds q b g i s=>by
  obtain ⟨ns,n,A,d⟩:=s
  subst n
  cases i with
  | cons r t =>
   cases t
   cases r with
   | @lst a us _ ha rs =>
    have:=Rps.ints_inv rs
    subst this
    refine ⟨a,ns,rfl,SqL.of (b.gh _ _ ha),by omega,fun L p nd hm hf=>?_⟩
    have m:c p=none:=by
     cases e:c p with
     | none=>rfl
     | some u=>rw [b.gh p u e] at hf;cases hf
    have J:=b.aside (p:=p) (o:=.ext (SS.SetI P w p L)) (fun _ z=>nomatch z) m (fun j z=>b.no_f hf j z) (b.no_b hf)
    have y:L.length<=ns.length:=aE8 nd fun x f=>(hm x).mp f
    exact ⟨p,L,rfl,aaj,by omega,k _ _ _ l _ q J g (.int _) (d L nd hm)⟩
end
end VL
namespace L2
open PySem PySem.Spec PyProof.Rows
section
variable {X:Cx} {N:List Str} {tg iter elt:Expr} {ifs:List Expr} {sc:Scope} {src:List (Option Nat)} {x0:Str} {wi:TI} {g:TG} {tif:TT} {te:TE} {pos spos px:Pos}
theorem atg {i:Nat} {x:Str} (hN:X.N.Nodup) (w:X.N[i]?=some x) (R:Loc X.env.scope x) (S:X.calm=true) (L:LcOkC X N sc src x0) (hi:PI X tg iter wi) (U:∀ C j c ex,PG (X.compC N sc x0 C j c ex) tg g)
  (F:∀ C j c ex,PIf (X.compC N sc x0 C j c ex) ifs tif) (he:∀ C j c ex,PE (X.compC N sc x0 C j c ex) elt te)
  (E:swapsWith (.ListComp elt [⟨tg,iter,ifs,0⟩] sc pos) (some (.Name x px)) spos.line X.env=pure true:=by rfl)
  (hf:X.fn x=true\/X.env.scope.names.lookup x=some .local:=by first | exact .inl rfl | exact .inr rfl | assumption)
  (hs:∀ x,foldedSetIterable iter X.env x=pure x:=by intro _;rfl):PS X (.Assign [.Name x px] (.ListComp elt [⟨tg,iter,ifs,0⟩] sc pos) spos) (tAsg (tLC src wi g tif te) (aa1 i)):=by
 intro pins s σ H D I h
 rw [exec_Assign_Name_used _ _ _ _ E]
 refine aJ2 (wpAny_standAt (aJ2 ?_))
 show wpAny _ X.A (do let _ ← comprehension (.ListComp elt [⟨tg,iter,ifs,0⟩] sc pos) sc X.env _ (newList []) false (eval iter X.env) (some (assign (.Name x px) X.env))) _ _ s
 refine aJ2 (aK0 (wpAny_comprehension_free rfl hs (L.clo I.ok) L.kind L.own (thn (hi pins s σ H _ I h) fun v s1 h1=>thn h1 fun a0 s2 h2=>?_)) (fun _ s' P=>aJ3 (aJ3 (show SP X pins D .next s' from P))) fun _ _ e=>e)
 obtain ⟨it,fp,tn,J,H2,e,O,T,f,M,q2⟩:=h2
 subst e
 have l:H2 s2.heap.objs.size=none:=O.hok.fresh (aA6 _)
 obtain ⟨W,⟨m0,Y⟩,n⟩:=q2 s2.heap.objs.size l
 have G:∀ b∈fp,b < s2.heap.objs.size:=fun b hb=>by
  obtain ⟨o,ho,_⟩:=T.obj _ _ f b hb
  exact aJ5 ho
 refine aK1 ?_
 refine at3 (pins:=pins) (Q:=fun x H1=>aa1 i x σ H1 D.nx) S L U F he (H3:=upd H2 s2.heap.objs.size (.lst [])) ?_ T ?_ ?_ Y n (some (assign (.Name x px) X.env)) _ (fun C H' s' m J q hn Z K y d hp=>?_)
 ·exact O.laid (t':=s2.toks) (fun b u e=>aJ4 _ e) (aA6 _) ⟨aG1 _,[],0,.nil,aJ6 _ rfl⟩
 ·exact T.keep _ _ _ f fun b _ o e=>aJ4 _ e
 ·exact fun b hb=>⟨by rw [aag (aB6 (G b hb))];exact (M b hb).1,(M b hb).2⟩
 ·show wpAny _ X.A (assign (.Name x px) X.env (.ref _)) _ _ _
  refine wpAny_assign_Name (age J hN w R (v:=.ref s2.heap.objs.size) rfl (fun B J2 ⟨a,sb,ha⟩=>?_) hf)
  have p:C ≠ a:=by
   rcases ha with z | z
   ·rw [z];exact K
   ·exact (d x a z).symm
  refine ⟨m,hn.sameBut sb p,fun h' r=>⟨_,H',?_,q⟩⟩
  exact J2.turned (t':=B.toks) (fun b o hb e=>r.extBut b o hb e) Z K y d hp
end
end L2
namespace L2
open PySem PySem.W PyProof.Rows
def awq:R2:=fun x y H Q=>∃ b c,x=.bl b/\y=.bl c/\Q (.bl (!decide (b=c))) H
section
variable {X:Cx}
theorem ayo:OpR X (compareOp .IsNot) awq:=by
 intro pins s σ H x y v u Q I a d h
 obtain ⟨b,c,rfl,rfl,q⟩:=h
 cases a
 cases d
 refine wpAny_isNot_plain rfl (aax I q ?_)
 cases b <;> cases c <;> rfl
end
end L2
namespace VL
open PySem PySem.Spec L2
theorem avm {R:Sl->Prop} {b c:Bool} (h:R (.st (.bool (!decide (b=c))))):Op2 awq (.bool b) (.bool c) R:=fun G H f g Q gh a d k=>by
 cases a
 cases d
 exact ⟨b,c,rfl,rfl,k _ _ _ _ _ (Out.refl gh (.bl _)) h⟩
end VL
namespace L2
open PySem PySem.Spec PyProof.Rows
def ama:List V->Hp->VK->Prop:=fun xs H Q=>∃ (a:Addr) (d:PyData),xs=[.ref a]/\Rep H (.ref a) d/\d.showable=true/\d.hasDict=false/\d.shown.length<=sizeLine/\d.depth<=60/\Q (.str d.shown) H
section
variable {X:Cx}
theorem ak2 {k:Nat} (f:Room k X.A):aa5 X (.builtin "repr") ama:=by
 intro pins s2 σ H2 m us Q c n h
 obtain ⟨a,d,rfl,l,hs,hd,j,i,q⟩:=h
 obtain ⟨u,rfl,b⟩:=ab8 n
 obtain ⟨as,g⟩:=l.reads c b
 cases b
 exact repr_of_reads' g hs (fun z=>by rw [hd] at z;cases z) f.gd (by have:=f.units;omega) (fun _ _ e=>e) (fun h' u o kp=>⟨.str d.shown,H2,c.kept kp,⟨u,rfl⟩,q⟩) j
end
end L2
namespace VL
open PySem PySem.Spec L2
theorem an0 {d:PyData} {R:Sl->Prop} (f:aao d=true) (g:∃ ds,d=.list ds\/d=.tuple ds) (hs:d.showable=true) (hd:d.hasDict=false) (c:d.shown.length<=sizeLine) (a:d.depth<=60) (h:R (.st (.str d.shown))):OpA ama [d] R:=fun G H vs Q gh rs k=>by
 cases rs with
 | cons r t =>
  cases t
  have b:=(r.rep f).same gh
  obtain ⟨ds,rfl | rfl⟩:=g
  ·cases r with
   | lst ha rs=>exact ⟨_,_,rfl,b,hs,hd,c,a,k _ _ _ _ _ (Out.refl gh (.str _)) h⟩
  ·cases r with
   | tup ha rs=>exact ⟨_,_,rfl,b,hs,hd,c,a,k _ _ _ _ _ (Out.refl gh (.str _)) h⟩
theorem ah0 (b:Nat):∀ (c:List Str) (k:Nat) (a:Str),(∀ t∈c,t.length<=b)->(textFrom k a c).length<=a.length+c.length * (b+2)
 | [],k,a,_=>by show a.length<=_;omega
 | t :: r,k,a,h=>by
  show (textFrom (k+1) (a ++ (if k > 0 then ", " else "" : String) ++ t) r).length<=_
  have d:=ah0 b r (k+1) (a ++ (if k > 0 then ", " else "" : String) ++ t) fun x f=>h x (aB5 _ f)
  have g:=h t (aB8 ..)
  have hs:(Str.ofString (if k > 0 then ", " else "" : String)).length<=2:=by split <;> decide
  rw [strLen_append,strLen_append] at d
  have:(Str.ofString (if k > 0 then ", " else "" : String)).length<=2:=hs
  rw [aE4,Nat.add_one_mul]
  omega
theorem aig {i:Int} (b:0<=i) (a:i < 10000000000):(PyData.int i).showable=true/\(PyData.int i).shown.length<=10:=by
 refine ⟨?_,PyProof.Rows.toString_length_le b (by decide) a⟩
 simp only [PyData.showable,decide_eq_true_eq]
 by_cases z:i.natAbs=0
 ·rw [z];decide
 ·rw [Nat.log2_lt z]
  exact aC5 (show i.natAbs < 2 ^ 34 by omega) (Nat.pow_le_pow_right (by decide) (by decide))
theorem an1 {x y:PyData} {a b:Nat} (c:x.showable=true/\x.shown.length<=a) (d:y.showable=true/\y.shown.length<=b):(PyData.tuple [x,y]).showable=true/\(PyData.tuple [x,y]).shown.length<=a+b+4:=by
 refine ⟨by simp [PyData.showable,PyData.showableAll,c.1,d.1],?_⟩
 show (tupleText [x.shown,y.shown]).length<=_
 unfold tupleText
 rw [strLen_append,strLen_append]
 show Str.length (Str.ofString "(")+(x.shown ++ Str.ofString ", " ++ y.shown).length+Str.length (Str.ofString ")")<=_
 rw [strLen_append,strLen_append]
 have f:(Str.ofString "(").length=1:=by decide
 have g:(Str.ofString ", ").length=2:=by decide
 have h:(Str.ofString ")").length=1:=by decide
 have:=c.2
 have:=d.2
 omega
theorem an2 {b:Nat}:∀ {ds:List PyData},(∀ d∈ds,d.showable=true/\d.shown.length<=b)->PyData.showableAll ds=true/\(PyData.shownAll ds).length=ds.length/\∀ t∈PyData.shownAll ds,t.length<=b
 | [],_=>⟨rfl,rfl,fun t h=>nomatch h⟩
 | d :: ds,h=>by
  obtain ⟨c,f,i⟩:=an2 (b:=b) (ds:=ds) fun x g=>h x (aB5 _ g)
  have hd:=h d (aB8 ..)
  refine ⟨by simp [PyData.showableAll,hd.1,c],by simp [PyData.shownAll,f],fun t a=>?_⟩
  rcases aA9.mp a with rfl | a
  ·exact hd.2
  ·exact i t a
theorem ath {b:Nat} {ds:List PyData} (h:∀ d∈ds,d.showable=true/\d.shown.length<=b):(PyData.list ds).showable=true/\(PyData.list ds).shown.length<=ds.length * (b+2)+2:=by
 obtain ⟨a,c,f⟩:=an2 h
 refine ⟨a,?_⟩
 show (textFrom 0 (Str.ofString "[") (PyData.shownAll ds) ++ Str.ofString "]").length<=_
 rw [strLen_append]
 have:=ah0 b (PyData.shownAll ds) 0 (Str.ofString "[") f
 rw [c] at this
 have g:(Str.ofString "[").length=1:=by decide
 have i:(Str.ofString "]").length=1:=by decide
 omega
end VL
namespace G
open PySem L2 VL
def top (i:Nat):Stmt:=PySem.Challenge.pw_fewties_k53_whole_hubs_middles_and_paper.main.body.getD i (.Pass ⟨0,0,0,0⟩)
abbrev s_is_whole:Stmt:=top 7
abbrev s_is_between:Stmt:=top 8
abbrev s_need_number:Stmt:=top 9
abbrev s_is_place:Stmt:=top 10
abbrev s_is_tie:Stmt:=top 11
abbrev s_are_ties:Stmt:=top 12
abbrev s_is_rising:Stmt:=top 13
abbrev s_tied_places:Stmt:=top 14
abbrev s_far_from:Stmt:=top 15
abbrev s_need_place:Stmt:=top 16
abbrev s_all_far:Stmt:=top 17
abbrev s_how_far:Stmt:=top 18
abbrev s_is_joined:Stmt:=top 19
abbrev s_need_joined:Stmt:=top 21
abbrev s_far_rows:Stmt:=top 22
abbrev s_most_far:Stmt:=top 23
abbrev s_farthest_two:Stmt:=top 24
abbrev s_middles:Stmt:=top 25
abbrev s_far_paper:Stmt:=top 26
abbrev s_far_shows:Stmt:=top 27
abbrev s_is_square:Stmt:=top 28
abbrev s_is_long:Stmt:=top 29
abbrev s_number_holds:Stmt:=top 30
abbrev s_with_ties:Stmt:=top 32
abbrev s_hubs_for:Stmt:=top 35
abbrev s_hub_ties:Stmt:=top 36
abbrev s_law_draws:Stmt:=top 38
abbrev s_law_take:Stmt:=top 39
abbrev s_law_web:Stmt:=top 40
abbrev s_law_free:Stmt:=top 41
abbrev s_law_hubs_right:Stmt:=top 42
abbrev s_law_first_right:Stmt:=top 43
abbrev s_law_papers_right:Stmt:=top 44
abbrev s_law:Stmt:=top 45
structure Txt (K:Frag) (mg:Str->Option Value):Prop where
 b_ValueError:mg "ValueError" = none
 b_all:mg "all" = none
 b_max:mg "max" = none
 b_min:mg "min" = none
 b_any:mg "any" = none
 b_sorted:mg "sorted" = none
 b_enumerate:mg "enumerate" = none
 b_range:mg "range" = none
 b_list:mg "list" = none
 b_dict:mg "dict" = none
 b_isinstance:mg "isinstance" = none
 b_int:mg "int" = none
 b_len:mg "len" = none
 b_abs:mg "abs" = none
 b_repr:mg "repr" = none
 b_bool:mg "bool" = none
 b_tuple:mg "tuple" = none
 b_zip:mg "zip" = none
 b_set:mg "set" = none
 v_MOST_HUB_TIES:∃ t,mg "MOST_HUB_TIES" = some (.int 20 t)
 d_is_whole:∃ f fd,DefAt K mg "is_whole" s_is_whole ["thing"] f fd
 d_is_between:∃ f fd,DefAt K mg "is_between" s_is_between ["least","most","thing"] f fd
 d_need_number:∃ f fd,DefAt K mg "need_number" s_need_number ["least","most","thing"] f fd
 d_is_place:∃ f fd,DefAt K mg "is_place" s_is_place ["n","thing"] f fd
 d_is_tie:∃ f fd,DefAt K mg "is_tie" s_is_tie ["n","thing"] f fd
 d_are_ties:∃ f fd,DefAt K mg "are_ties" s_are_ties ["n","thing"] f fd
 d_is_rising:∃ f fd,DefAt K mg "is_rising" s_is_rising ["things"] f fd
 d_tied_places:∃ f fd,DefAt K mg "tied_places" s_tied_places ["web"] f fd
 d_far_from:∃ f fd,DefAt K mg "far_from" s_far_from ["tied","start"] f fd
 d_need_place:∃ f fd,DefAt K mg "need_place" s_need_place ["web","thing"] f fd
 d_all_far:∃ f fd,DefAt K mg "all_far" s_all_far ["web","a"] f fd
 d_how_far:∃ f fd,DefAt K mg "how_far" s_how_far ["web","a","b"] f fd
 d_is_joined:∃ f fd,DefAt K mg "is_joined" s_is_joined ["web"] f fd
 d_need_joined:∃ f fd,DefAt K mg "need_joined" s_need_joined ["web"] f fd
 d_far_rows:∃ f fd,DefAt K mg "far_rows" s_far_rows ["web"] f fd
 d_most_far:∃ f fd,DefAt K mg "most_far" s_most_far ["rows"] f fd
 d_farthest_two:∃ f fd,DefAt K mg "farthest_two" s_farthest_two ["web"] f fd
 d_middles:∃ f fd,DefAt K mg "middles" s_middles ["web"] f fd
 d_far_paper:∃ f fd,DefAt K mg "far_paper" s_far_paper ["web"] f fd
 d_far_shows:∃ f fd,DefAt K mg "far_shows" s_far_shows ["web","d","paper"] f fd
 d_is_square:∃ f fd,DefAt K mg "is_square" s_is_square ["n","paper"] f fd
 d_is_long:∃ f fd,DefAt K mg "is_long" s_is_long ["n","thing"] f fd
 d_number_holds:∃ f fd,DefAt K mg "number_holds" s_number_holds ["tied","d","paper","a","b"] f fd
 d_with_ties:∃ f fd,DefAt K mg "with_ties" s_with_ties ["web","ties"] f fd
 d_hubs_for:∃ f fd,DefAt K mg "hubs_for" s_hubs_for ["web","k"] f fd
 d_hub_ties:∃ f fd,DefAt K mg "hub_ties" s_hub_ties ["web","k"] f fd
 d_law_draws:∃ f fd,DefAt K mg "_law_draws" s_law_draws ["script","many"] f fd
 d_law_take:∃ f fd,DefAt K mg "_law_take" s_law_take ["store","many"] f fd
 d_law_web:∃ f fd,DefAt K mg "_law_web" s_law_web ["store","most"] f fd
 d_law_free:∃ f fd,DefAt K mg "_law_free" s_law_free ["web"] f fd
 d_law_hubs_right:∃ f fd,DefAt K mg "_law_hubs_right" s_law_hubs_right ["web","k"] f fd
 d_law_first_right:∃ f fd,DefAt K mg "_law_first_right" s_law_first_right ["web"] f fd
 d_law_papers_right:∃ f fd,DefAt K mg "_law_papers_right" s_law_papers_right ["store","web"] f fd
 d_law:∃ f fd,DefAt K mg "law" s_law ["script"] f fd
local macro_rules | `(tactic| row_cond sc) => `(tactic| exact ⟨rfl,rfl,rfl,by decide +kernel,rfl,by decide +kernel,by decide +kernel⟩)
local macro_rules | `(tactic| row_cond gn) => `(tactic| first | (with_reducible first | refine evg_n0 ?_ | refine a0h ?_ | refine a0i ?_ | refine a0j ?_ | refine a0k ?_ | refine a0l ?_ | refine a0m ?_ | refine a0n ?_ | refine a0o ?_ | refine a0p ?_ | refine axy ?_ | refine evg_n11 ?_ | refine evg_n12 ?_ | refine evg_n13 ?_ | refine evg_n14 ?_ | refine evg_n15 ?_ | refine evg_n16 ?_ | refine evg_n17 ?_ | refine evg_n18 ?_ | refine evg_n19 ?_ | refine evg_n20 ?_ | refine evg_n21 ?_ | refine evg_n22 ?_ | refine evg_n23 ?_ | refine evg_n24 ?_ | refine evg_n25 ?_) | ((with_reducible refine aaz ?_); dsimp only [List.set_cons_zero, List.set_cons_succ]))
local macro_rules | `(tactic| row_cond dc) => `(tactic| first | assumption | omega | (with_reducible rfl))
local macro_rules | `(tactic| row_cond ar) => `(tactic| first | assumption | (refine ⟨?_, ?_, ?_⟩ <;> decide) | (constructor <;> first | assumption | omega) | (show (0 : Int) < _; first | assumption | omega) | (left; constructor <;> first | assumption | omega) | (right; constructor <;> first | assumption | omega))
local macro_rules | `(tactic| row_cond hs) => `(tactic| first | exact Or.inl rfl | exact Or.inr rfl)
local macro_rules | `(tactic| row_cond fz) => `(tactic| first | exact ab9 | exact frz_OD | exact frz_OT | exact ae3 | exact ahh | assumption)
local macro_rules | `(tactic| row_cond le) => `(tactic| first | exact Nat.le_of_ble_eq_true rfl | assumption | omega | (simp only [List.length_append, List.length_map, List.length_cons, List.length_nil, List.length_set, List.length_replicate]; omega))
local macro_rules | `(tactic| row_cond ia) => `(tactic| first | assumption | exact at0 | exact at1 | exact at2 | exact rfl)
local macro_rules | `(tactic| row_cond ty) => `(tactic| first | exact a0e | exact axw | exact au6 | exact axx | exact ty_str | exact ty_dict)
local macro_rules | `(tactic| row_cond sEvS) => `(tactic| first | (with_reducible refine aup (fun c_ hc_ => ?_)) | (with_reducible first | refine axj ?_ | refine ase ?_ | refine aul ?_) | ((with_reducible refine' au7 ?h0 ?_); (case h0 => exact rfl)) | (with_reducible first | refine apk ?_ | refine axk ?_ | refine auk ?_) | ((with_reducible refine' aq4 ?h0 ?_); (case h0 => exact rfl)) | ((with_reducible refine' apl ?h0 ?_); (case h0 => assumption)))
local macro_rules | `(tactic| row_cond sEvG) => `(tactic| first | row_cond gn | ((with_reducible refine' apj ?h0 ?_); (case h0 => exact rfl)) | ((with_reducible refine' au5 ?h0 ?_); (case h0 => row_cond hs)) | (with_reducible refine evg_st ?_))
local macro_rules | `(tactic| row_cond sEvGs) => `(tactic| first | (with_reducible first | refine agt ?_ | refine anf ?_))
local macro_rules | `(tactic| row_cond sEv) => `(tactic| first | ((with_reducible refine' az1 ?h0 ?_); (case h0 => exact rfl)) | (with_reducible refine az2 ?_) | ((with_reducible refine' a0c ?h0 ?_); (case h0 => row_cond hs)) | (with_reducible refine a1u ?_) | ((with_reducible refine' a0d ?h0 ?_); (case h0 => row_cond ty)) | ((with_reducible refine' a0b ?h0 ?h1 ?_); (case h0 => row_cond hs); (case h1 => row_cond fz)) | ((with_reducible refine' asi ?h0 ?_); (case h0 => exact rfl)) | ((with_reducible refine' asj ?h0 ?_); (case h0 => exact rfl)) | ((with_reducible refine' aur ?h0 ?h1 ?_); (case h0 => exact rfl); (case h1 => assumption)) | (with_reducible refine auq ?_) | ((with_reducible refine' axe ?h0 ?h1 ?_); (case h0 => exact rfl); (case h1 => row_cond fz); dsimp only [List.set_cons_zero, List.set_cons_succ]) | (with_reducible first | refine az4 ?_ | refine az5 ?_ | refine a1t ?_ | refine az3 ?_ | refine axh ?_ | refine axi ?_ | refine auj ?_ | refine abt (te:=tCB (aiw _) _) ?_ | refine abt (te:=tCB (amy _) _) ?_ | refine abt (te:=tCB ahj _) ?_ | refine a1v ?_) | ((with_reducible refine' aqz ?h0 ?_); (case h0 => row_cond hs)) | ((with_reducible refine' aq0 ?h0 ?_); (case h0 => row_cond hs)) | ((with_reducible refine' au4 ?h0 ?_); (case h0 => row_cond hs)) | (with_reducible refine ev_listR ?_) | ((with_reducible refine' a12 ?h0 ?_); (case h0 => decide)) | ((with_reducible refine' asz ?h0 ?h1 ?_); (case h0 => exact rfl); (case h1 => assumption)) | (with_reducible first | refine au3 ?_ | refine a0x ?_ | refine avh ?_))
local macro_rules | `(tactic| row_cond sEvO) => `(tactic| first | (with_reducible first | refine ane (r:=rCat) ?_ | refine ane (r:=rRep) ?_ | refine abj (te:=tOp _ _ _) ?_ | refine abj (te:=tVar _) ?_ | refine abj (te:=tC _) ?_ | refine apg ?_) | ((with_reducible refine' ave ?h0 ?_); (case h0 => exact rfl)) | (with_reducible refine apf ?_) | ((with_reducible refine' aiy ?h0 ?_); (case h0 => exact rfl)) | ((with_reducible refine' aiz ?h0 ?_); (case h0 => exact rfl)) | ((with_reducible refine' akt ?h0 ?h1 ?_); (case h0 => exact rfl); (case h1 => assumption)) | (with_reducible first | refine aks ?_ | refine axz ?_) | ((with_reducible refine' asg ?h0 ?_); (case h0 => decide)) | (with_reducible first | refine ap1 ?_) | ((with_reducible refine' ai3 ?h0 ?h1 ?_); (case h0 => exact rfl); (case h1 => assumption)) | (with_reducible first | refine akw ?_ | refine asw ?_ | refine asv ?_ | refine abj (te:=aqa _ _) ?_ | refine abj (te:=aqb _) ?_ | refine abj (te:=ail _ _ _ _ _) ?_ | refine abj (te:=ajm _ _) ?_ | refine abj (te:=tCB (rLen _) _) ?_ | refine abj (te:=tCB (rIsi _) _) ?_ | refine abj (te:=tCB al0 _) ?_ | refine abj (te:=tCB al1 _) ?_ | refine abj (te:=tCB al2 _) ?_ | refine abj (te:=tCB rAbs _) ?_ | refine abj (te:=tCB (aha _) _) ?_ | refine abj (te:=tCB (al4 _) _) ?_ | refine abj (te:=tCB (rAll _) _) ?_ | refine abj (te:=tCB (rAny _) _) ?_ | refine abj (te:=tBM _ _ _ _ _) ?_))
local macro_rules | `(tactic| row_cond sEvT) => `(tactic| first | (with_reducible first | refine afv ?_ | refine awh ?_ | refine axf ?_ | refine az6 ?_ | refine aph ?_ | refine ad7 ?_) | (with_reducible refine axg ?_))
local macro_rules | `(tactic| row_cond sEvA) => `(tactic| first | (with_reducible first | refine aui ?_ | refine ape ?_))
local macro_rules | `(tactic| row_cond sEvI) => `(tactic| first | (with_reducible first | refine aun ?_ | refine auo ?_ | refine evi_down ?_ | refine aum ?_ | refine avd ?_ | refine ax4 ?_) | (with_reducible refine evi_tup ?_))
local macro_rules | `(tactic| row_cond sEvOp) => `(tactic| first | (with_reducible first | refine au1 ?_ | refine au2 ?_))
local macro_rules | `(tactic| row_cond sOp2) => `(tactic| first | (with_reducible first | refine axl ?_ | refine axm ?_) | ((with_reducible refine' a0a ?h0 ?_); (case h0 => row_cond ar)) | (with_reducible first | refine axn ?_ | refine axo ?_) | ((with_reducible refine' axq ?h0 ?_); (case h0 => row_cond ia)) | ((with_reducible refine' axr ?h0 ?_); (case h0 => row_cond ia)) | (with_reducible first | refine axp ?_ | refine axt ?_) | ((with_reducible refine' axu ?h0 ?_); (case h0 => row_cond le)))
local macro_rules | `(tactic| row_cond sOp1) => `(tactic| first | (with_reducible refine op1_Ui ?_))
local macro_rules | `(tactic| row_cond sOpA) => `(tactic| first | (with_reducible first | refine auw ?_ | refine aux ?_ | refine auy ?_ | refine auz ?_ | refine au0 ?_ | refine ax6 ?_))
local macro_rules | `(tactic| row_cond sFQ) => `(tactic| first | (with_reducible first | refine a1s ?_ | refine adw ?_ | refine ahl ?_))
local macro_rules | `(tactic| row_cond sRngA1) => `(tactic| first | ((with_reducible refine' az8 ?h0 ?h1 ?_); (case h0 => omega); (case h1 => omega)))
local macro_rules | `(tactic| row_cond sRngA2) => `(tactic| first | ((with_reducible refine' az9 ?h0 ?_); (case h0 => omega)))
local macro_rules | `(tactic| row_cond sRest) => `(tactic| first | (with_reducible first | refine x_bl ?_ | refine x_st ?_ | refine az7 ?_ | refine a1w ?_) | ((with_reducible refine' a10 ?h0 ?h1 ?_); (case h0 => row_cond hs); (case h1 => row_cond ia)) | ((with_reducible refine' x_sc ?h0 ?_); (case h0 => exact rfl)) | ((with_reducible refine' a1z ?h0 ?_); (case h0 => row_cond le)) | (with_reducible first | refine acl ?_ | refine acz ?_ | refine ajz ?_ | refine aj0 ?_) | ((with_reducible refine' ajr ?h0 ?_); (case h0 => row_cond dc)) | ((with_reducible refine' ajs ?h0 ?_); (case h0 => row_cond dc)) | ((with_reducible refine' auf ?h0 ?_); (case h0 => row_cond dc)) | ((with_reducible refine' aug ?h0 ?_); (case h0 => row_cond dc)) | ((with_reducible refine' a11 ?h0 ?_); (case h0 => first | exact rfl | row_cond hs)) | ((with_reducible refine' x_rt ?h0 ?_); (case h0 => exact rfl)) | ((with_reducible refine' a0f ?h0 ?h1 ?_); (case h0 => exact rfl); (case h1 => row_cond le); dsimp only [List.set_cons_zero, List.set_cons_succ]) | ((with_reducible refine' aq1 ?h0 ?h1 ?_); (case h0 => exact rfl); (case h1 => first | exact ixN0 | exact ixN1 | exact ixN2 | assumption); dsimp only [List.set_cons_zero, List.set_cons_succ, reS]) | ((with_reducible refine' a0g ?h0 ?h1 ?_); (case h0 => exact rfl); (case h1 => first | exact ixN0 | exact ixN1 | exact ixN2 | assumption); dsimp only [List.set_cons_zero, List.set_cons_succ, reS]) | (with_reducible first | refine au8 ?_) | ((with_reducible refine' x_dT ?h0 ?h1 ?_); (case h0 => exact rfl); (case h1 => row_cond le); dsimp only [List.set_cons_zero, List.set_cons_succ]) | (with_reducible first | refine x_en ?_ | refine a14 ?_) | ((with_reducible refine' ax7 ?h0 ?h1 ?_); (case h0 => omega); (case h1 => omega)) | ((with_reducible refine' x_ow ?h0 ?_); (case h0 => exact rfl); dsimp only [List.set_cons_zero, List.set_cons_succ]))
local macro_rules | `(tactic| row_cond st) => `(tactic| first | ((with_reducible refine a15 ?_); row_cond sEvS) | ((with_reducible refine a16 ?_); row_cond sEvG) | ((with_reducible refine a0v ?_); row_cond sEvGs) | ((with_reducible refine g_Ev ?_); row_cond sEv) | ((with_reducible refine a17 ?_); row_cond sEvO) | ((with_reducible refine a18 ?_); row_cond sEvT) | ((with_reducible refine a19 ?_); row_cond sEvA) | ((with_reducible refine a2a ?_); row_cond sEvI) | ((with_reducible refine a0w ?_); row_cond sEvOp) | ((with_reducible refine a2b ?_); row_cond sOp2) | ((with_reducible refine g_Op1 ?_); row_cond sOp1) | ((with_reducible refine a2c ?_); row_cond sOpA) | ((with_reducible refine g_FQ ?_); row_cond sFQ) | ((with_reducible refine ayc ?_); row_cond sRngA1) | ((with_reducible refine ayd ?_); row_cond sRngA2) | row_cond sRest)
local macro_rules | `(tactic| row_cond go) => `(tactic| repeat row_cond st)
local macro_rules | `(tactic| row_cond hnx) => `(tactic| first | assumption | (apply Ne.symm; assumption) | exact aaq (by assumption) (by assumption) | exact (aaq (by assumption) (by assumption)).symm)
local macro_rules | `(tactic| row_cond hhp) => `(tactic| first | assumption | exact aaj | (rw [aag (by row_cond hnx)]; row_cond hhp) | ((refine' Same.at ?ss ?hh); (case ss => assumption); (case hh => row_cond hhp)))
local macro_rules | `(tactic| row_cond hix) => `(tactic| first | assumption | exact at0 | exact at1 | exact at2)
local macro_rules | `(tactic| row_cond hst) => `(tactic| first | (with_reducible first | refine go_seq ?_ | refine go_asg ?_ | refine ajp ?_ | refine go_op ?_ | refine go_c ?_ | refine go_I0 ?_ | refine go_U ?_ | refine ar6 ?_ | refine go_test ?_ | refine go_bl ?_ | refine go_ifS ?_ | refine go_and ?_ | refine go_ret ?_ | refine go_drop ?_ | refine go_next ?_ | refine go_cb ?_ | refine ajq ?_ | refine air ?_ | refine go_call ?_ | refine ao8 ?_ | refine ao9 ?_ | refine apa ?_ | refine go_gsub ?_ | refine go_lstW ?_ | refine go_bmL ?_ | refine go_for ?_ | refine go_lc ?_ | refine go_irng1 ?_ | refine amr ?_ | refine acl ?_ | refine acz ?_) | ((with_reducible refine' ar5 ?hv ?_); (case hv => exact rfl)) | ((with_reducible refine' afu ?ha ?hv ?_); (case ha => row_cond hhp); (case hv => row_cond hix)) | ((with_reducible refine go_I ?hc ?_); (case hc => row_cond ar)) | ((with_reducible refine' ao7 ?ha ?_); (case ha => row_cond hhp)) | ((with_reducible refine' ao6 ?ha ?hj ?_); (case ha => row_cond hhp); (case hj => first | exact ixN0 | exact ixN1 | exact ixN2)) | ((with_reducible refine' go_tyL ?ha ?_); (case ha => row_cond hhp)) | ((with_reducible refine' agj ?ha ?hl ?_); (case ha => row_cond hhp); (case hl => exact afb (by simp; omega))) | ((with_reducible refine' ajr ?hc ?_); (case hc => row_cond dc)) | ((with_reducible refine' ajs ?hc ?_); (case hc => row_cond dc)) | dsimp only [List.set_cons_zero, List.set_cons_succ])
local macro_rules | `(tactic| row_cond hgo) => `(tactic| repeat row_cond hst)
def isInt:PyData->Bool
 | .int _=>true
 | _=>false
def btwD (a b:Int):PyData->Bool
 | .int i=>decide (a<=i/\i<=b)
 | _=>false
def ayp:VP:=fun ss Q=>∃ d,ss=[.st d]/\Q (.st (.bool (isInt d)))
def ati:VP:=fun ss Q=>∃ (a b:Int) (d:PyData),ss=[.st (.int a),.st (.int b),.st d]/\Q (.st (.bool (btwD a b d)))
def ayq:VP:=fun ss Q=>∃ (n:Int) (d:PyData),ss=[.st (.int n),.st d]/\Q (.st (.bool (btwD 0 (n - 1) d)))
section
variable {P:Program} {w:World} {K:Frag} {mg:Str->Option Value} {base:Heap}
theorem sc_is_whole:FnScope ["thing"] ["thing"] (aai s_is_whole):=by row_cond sc
theorem agz (T:Txt K mg):Can P w K mg base "is_whole" 1 ["thing"] (spP K (ayp)):=by
 obtain ⟨f,fd,D⟩:=T.d_is_whole
 refine D.can (D.fn.ok sc_is_whole (fun vs H Q E h=>lenP h fun ss c q=>by obtain ⟨d,rfl,k⟩:=q;rfl) (fun cdv A outer s H vs Q E j h=>?_))
 have nd:=sc_is_whole.nd
 refine ⟨_,(aaf (aar (adr (aah ae2 (by rfl) T.b_isinstance acr (aaa (pv 0) (aaa (afl (v:=.ty "int") rfl T.b_int ar8 rfl) aab))) (aei (azd (aah ae2 (by rfl) T.b_isinstance acr (aaa (pv 0) (aaa (afl (v:=.ty "bool") rfl T.b_bool aw4 rfl) aab)))))))),?_⟩
 refine aa3 h fun ss c q B g=>?_
 refine exS1 ss q fun d a=>?_
 have k:=a
 clear a q
 show EvS B _ _ [some (.st d)]
 row_cond go
 cases d with
 | int i => refine acl ?_; row_cond go; exact k
 | bool b => refine acl ?_; row_cond go; exact k
 | _=>refine acz ?_;exact k
theorem sc_is_between:FnScope ["least","most","thing"] ["least","most","thing"] (aai s_is_between):=by row_cond sc
theorem afq (T:Txt K mg):Can P w K mg base "is_between" 2 ["least","most","thing"] (spP K (ati)):=by
 obtain ⟨f,fd,D⟩:=T.d_is_between
 refine D.can (D.fn.ok sc_is_between (fun vs H Q E h=>lenP h fun ss j q=>by obtain ⟨a,b,d,rfl,k⟩:=q;rfl) (fun cdv A outer s H vs Q E l h=>?_))
 have nd:=sc_is_between.nd
 refine ⟨_,(aaf (aar (adr (aae (agz T) l (aaa (pv 2) aab)) (aei (atq afr afr (pv 0) (pv 2) (pv 1)))))),?_⟩
 refine aa3 h fun ss j q B m=>?_
 refine exS3 ss q fun a b d c=>?_
 have k:=c
 clear c q
 show EvS B _ _ [some (.st (.int a)),some (.st (.int b)),some (.st d)]
 row_cond go
 refine ⟨d,rfl,?_⟩
 row_cond go
 cases d with
 | int i =>
  refine acl ?_
  row_cond go
  refine adg (fun g=>?_) (fun g=>?_)
  ·row_cond go
   have e:decide (i<=b)=btwD a b (.int i):=by
    show _=decide (a<=i/\i<=b)
    rw [aH9];simp [g]
   rw [e];exact k
  ·have e:false=btwD a b (.int i):=by
    show _=decide (a<=i/\i<=b)
    exact (aD6 (fun z=>g z.1)).symm
   rw [e];exact k
 | _=>exact acz k
theorem sc_is_place:FnScope ["n","thing"] ["n","thing"] (aai s_is_place):=by row_cond sc
theorem ae5 (T:Txt K mg):Can P w K mg base "is_place" 3 ["n","thing"] (spP K (ayq)):=by
 obtain ⟨f,fd,D⟩:=T.d_is_place
 refine D.can (D.fn.ok sc_is_place (fun vs H Q E h=>lenP h fun ss b q=>by obtain ⟨n,d,rfl,k⟩:=q;rfl) (fun cdv A outer s H vs Q E c h=>?_))
 have nd:=sc_is_place.nd
 refine ⟨_,(aaf (aar (aae (afq T) c (aaa aad (aaa (aam ads (pv 0) aad) (aaa (pv 1) aab)))))),?_⟩
 refine aa3 h fun ss b q B g=>?_
 refine exS2 ss q fun n d a=>?_
 have k:=a
 clear a q
 show EvS B _ _ [some (.st (.int n)),some (.st d)]
 row_cond go
 exact ⟨_,_,_,rfl,k⟩
def a07:VP:=fun ss Q=>∃ (n:Int) (es:List (Int × Int)),ss=[.st (webD n es)]/\0<=n/\n<=100/\InN n es/\es.length<=10000/\∀ tl,TiedL n (Tied es) tl->(∀ us∈tl,us.length<=20000)->Q (.own (OLL (tlD tl)))
theorem sc_tied_places:FnScope ["web","n","ties","tied","a","b"] ["web"] (aai s_tied_places):=by row_cond sc
theorem ad1 (T:Txt K mg):Can P w K mg base "tied_places" 1 ["web"] (spP K (a07)):=by
 obtain ⟨f,fd,D⟩:=T.d_tied_places
 refine D.can (D.fn.ok sc_tied_places (fun vs H Q E h=>lenP h fun ss L q=>by obtain ⟨n,es,rfl,M,O,r,G,k⟩:=q;rfl) (fun cdv A outer s H vs Q E S h=>?_))
 have nd:=sc_tied_places.nd
 refine ⟨_,(aac (adf (pv 0) (ade rfl (aa2 (aak (i:=1) nd rfl (Or.inl rfl)) (aa2 (aak (i:=2) nd rfl (Or.inl rfl)) acs))))
  (aac (ae0 (i:=3) nd rfl (Or.inl rfl) rfl (N:=["place"]) (src:=[none]) (by exact aa8 rfl rfl rfl rfl rfl rfl) (abi rfl T.b_range (aaa (pv 1) aab)) (fun _ _ _ _=>(aak (i:=0) (show List.Nodup (["place"]:List Str) by decide +kernel) rfl (Or.inl rfl) (hf:=Or.inr rfl))) (fun _ _ _ _=>aba) (fun _ _ _ _=>(abv aab)))
  (aac (acv aJ9 rfl (abe (pv 2)) (ade rfl (aa2 (aak (i:=4) nd rfl (Or.inl rfl)) (aa2 (aak (i:=5) nd rfl (Or.inl rfl)) acs)))
   (aac (abh (aco PySem.F.plainAttrs_list PySem.F.slot_list_append PySem.F.type_list_append abr (aas aat (pv 3) (pv 4) (fun _ _=>rfl)) (aaa (pv 5) aab)))
    (aaf (abh (aco PySem.F.plainAttrs_list PySem.F.slot_list_append PySem.F.type_list_append abr (aas aat (pv 3) (pv 5) (fun _ _=>rfl)) (aaa (pv 4) aab))))))
  (aaf (aar (pv 3)))))),?_⟩
 refine aa3 h fun ss L q B R=>?_
 refine exS2 ss q fun n es c=>?_
 have M:=c.1
 have O:=c.2.1
 have r:=c.2.2.1
 have G:=c.2.2.2.1
 have k:=c.2.2.2.2
 clear c q
 show EvS B _ _ [some (.st (webD n es)),none,none,none,none,none]
 row_cond go
 rw [act]
 refine ⟨by omega,?_⟩
 row_cond go
 refine afx (fun i e=>∃ z y tl,e=[some (.st (webD n es)),some (.st (.int n)),some (.st (.list (es.map prD))),some (.own (OLL (tlD tl))),z,y]/\TiedL n (Tied (es.take i)) tl/\∀ g∈tl,g.length<=2 * i)
  ⟨none,none,List.replicate n.toNat [],by simp [tlD],⟨by simp;omega,fun i g hi w=>?_⟩,fun g I=>?_⟩ ?_ ?_
 ·rw [aH8] at hi
  split at hi
  ·cases hi;simp [Tied]
  ·cases hi
 ·have:=List.eq_of_mem_replicate I
  subst this;simp
 ·rintro i ⟨a,b⟩ e C m
  refine exS3 e m fun z y tl c=>?_
  have o:=c.1
  have l:=c.2
  clear c m
  have hi:i < es.length:=(aA1.mp C).1
  obtain ⟨a0,a1,b0,b1⟩:=r _ (aA2 C)
  dsimp only at a0 a1 b0 b1
  row_cond go
  obtain ⟨g,d,_⟩:=o.get a0 a1
  have J:=l g (aA2 d)
  refine ai0 (n:=a.toNat) (ds:=g.map .int) rfl rfl rfl (by rw [aA3];exact ai1 a0 (by rw [o.1];exact a1)) (ahi d) (by rw [aA3];omega) ?_
  dsimp only [List.set_cons_zero,List.set_cons_succ]
  have x:=o.put (q:=b) a0 a1 d
  rw [show g.map PyData.int ++ [.int b]=(g ++ [b]).map .int by simp,apu]
  have j:∀ us∈tl.set a.toNat (g ++ [b]),us.length<=2 * i+1:=fun us p=>by
   rcases List.mem_or_eq_of_mem_set p with h | h
   ·have:=l us h;omega
   ·subst h;simp;omega
  generalize tl.set a.toNat (g ++ [b])=tl2 at x j
  row_cond go
  obtain ⟨g,d,_⟩:=x.get b0 b1
  have J:=j g (aA2 d)
  refine ai0 (n:=b.toNat) (ds:=g.map .int) rfl rfl rfl (by rw [aA3];exact ai1 b0 (by rw [x.1];exact b1)) (ahi d) (by rw [aA3];omega) ?_
  dsimp only [List.set_cons_zero,List.set_cons_succ]
  rw [show g.map PyData.int ++ [.int a]=(g ++ [a]).map .int by simp,apu]
  refine ⟨_,_,_,rfl,(x.put (q:=a) b0 b1 d).iff fun u v=>(Tied.snoc C u v).symm,fun us p=>?_⟩
  rcases List.mem_or_eq_of_mem_set p with h | h
  ·have:=j us h;omega
  ·subst h;simp;omega
 ·rintro e m
  refine exS3 e m fun z y tl c=>?_
  have o:=c.1
  have l:=c.2
  clear c m
  rw [aG9] at o
  row_cond go
  exact k tl o fun us p=>by have:=l us p;omega
end
@[reducible] def tlV (tl:List (List Int)):PyData:=.list ((tlD tl).map .list)
def a2e:VP:=fun ss Q=>∃ (n a:Int) (T:Int->Int->Prop) (tl:List (List Int)),ss=[.st (tlV tl),.st (.int a)]/\n<=100/\TiedL n T tl/\(∀ u v,T u v->0<=v/\v < n)/\0<=a/\a < n/\Q (.own (OL (lab n.toNat (Gr.farO T a))))
section
variable {P:Program} {w:World} {K:Frag} {mg:Str->Option Value} {base:Heap}
theorem sc_far_from:FnScope ["tied","start","far","edge","beyond","place","other"] ["tied","start"] (aai s_far_from):=by row_cond sc
theorem ag0 (T:Txt K mg):Can P w K mg base "far_from" 1 ["tied","start"] (spP K (a2e)):=by
 obtain ⟨f,fd,D⟩:=T.d_far_from
 refine D.can (D.fn.ok sc_far_from (fun vs H Q E h=>lenP h fun ss Q' q=>by obtain ⟨n,a,T,tl,rfl,n1,S,hT,a0,a1,k⟩:=q;rfl) (fun cdv A outer s H vs Q E hr h=>?_))
 have nd:=sc_far_from.nd
 refine ⟨_,(aac (aan (i:=2) nd rfl (Or.inl rfl) (aam azn (abv (aaa amd aab)) (aah aa9 (by rfl) T.b_len abw (aaa (pv 0) aab))))
  (aac (adf aad (amf (pv 2) (pv 1) ah3))
  (aac (aan (i:=3) nd rfl (Or.inl rfl) (abv (aaa (pv 1) aab)))
  (aac (ah2 aJ9 (az0 (pv 3))
   (aac (aan (i:=4) nd rfl (Or.inl rfl) (abv aab))
    (aac (acv aJ9 rfl (abe (pv 3)) (aak (i:=5) nd rfl (Or.inl rfl))
     (aaf (acv aJ9 rfl (abe (aas aat (pv 0) (pv 5) (fun _ _=>rfl))) (aak (i:=6) nd rfl (Or.inl rfl))
       (aaf (abc (aav axb (aas aat (pv 2) (pv 6) (fun _ _=>rfl)) amd (aau _))
         (aac (adf (aam abg (aas aat (pv 2) (pv 5) (fun _ _=>rfl)) aad) (amf (pv 2) (pv 6) ah3))
          (aaf (abh (aco PySem.F.plainAttrs_list PySem.F.slot_list_append PySem.F.type_list_append abr (pv 4) (aaa (pv 6) aab)))))
         aa0)))))
    (aaf (aan (i:=3) nd rfl (Or.inl rfl) (pv 4))))))
  (aaf (aar (pv 2))))))),?_⟩
 refine aa3 h fun ss Q' q B hK=>?_
 refine exS4 ss q fun n a T tl b=>?_
 have n1:=b.1
 have S:=b.2.1
 have hT:=b.2.2.1
 have a0:=b.2.2.2.1
 have a1:=b.2.2.2.2.1
 have k:=b.2.2.2.2.2
 clear b q
 show EvS B _ _ [some (.st (tlV tl)),some (.st (.int a)),none,none,none,none,none]
 have hl:tl.length=n.toNat:=by have:=S.1;omega
 row_cond go
 refine axv (by first | omega | (simp;done) | (simp;omega)) (by first | omega | (simp;done) | (simp;omega)) (by first | omega | (simp;done) | (simp;omega)) ?_
 simp only [aA3,hl]
 rw [show ((n.toNat:Nat):Int).toNat=n.toNat by omega,ax1]
 row_cond go
 refine aq1 (j:=a.toNat) rfl (by rw [adb];exact ai1 a0 (by omega)) ?_
 dsimp only [List.set_cons_zero,List.set_cons_succ,reS]
 rw [show (PyData.int 0)=.int ((0:Nat):Int) from rfl,apt a0 (by omega)]
 row_cond go
 refine aj9 3 rfl ab9 ?_
 dsimp only [List.set_cons_zero,List.set_cons_succ]
 refine agu (fun m e=>∃ v4 J y far edge r,e=[some (.st (tlV tl)),some (.st (.int a)),some (.own (OL (lab n.toNat far))),some (.st (.list (edge.map .int))),v4,J,y]/\Gr.Ring T a r far edge/\(∀ v∈edge,0<=v/\v < n)/\m=2 * cnt far n.toNat+(if edge=[] then 0 else 1))
  ⟨_,none,none,none,_,[a],0,rfl,Gr.Ring.start,fun v N=>by simp at N;subst N;exact ⟨a0,a1⟩,rfl⟩ ?_
 rintro m e l
 refine exS6 e l fun v4 J y far edge r b=>?_
 have R:=b.1
 have hb:=b.2.1
 have a2:=b.2.2
 clear b l
 subst a2
 row_cond go
 rw [aom]
 cases hedge:edge with
 | nil =>
  subst hedge
  refine acz ?_
  row_cond go
  rw [asl (g:=Gr.farO T a) fun v _ _=>R.fin v]
  exact k
 | cons e0 er =>
  refine acl ?_
  rw [← hedge]
  have X:edge ≠ []:=by rw [hedge];simp
  row_cond go
  refine afx (fun i e=>∃ J y c beyond,e=[some (.st (tlV tl)),some (.st (.int a)),some (.own (OL (lab n.toNat c))),some (.st (.list (edge.map .int))),some (.own (OL (beyond.map .int))),J,y]/\Gr.Mid T r far edge (fun u=>u∈edge.take i) c beyond/\cnt c n.toNat+beyond.length=cnt far n.toNat/\∀ v∈beyond,0<=v/\v < n)
   ⟨J,y,far,[],rfl,Gr.Mid.start.imp fun u I=>by simp at I,rfl,fun v N=>by simp at N⟩ ?_ ?_
  ·rintro i p e hp l
   refine exS4 e l fun J y c beyond b=>?_
   have C:=b.1
   have G:=b.2.1
   have o:=b.2.2
   clear b l
   have L:=aA2 hp
   obtain ⟨p0,p1⟩:=hb p L
   obtain ⟨ws,Z,hw⟩:=S.get p0 p1
   have a5:atI ((tlD tl).map PyData.list) p=some (.list (ws.map .int)):=ai2 (f:=PyData.list) (aff p0 (ahi Z))
   row_cond go
   have W:far p=some r:=(R.lab p r).mpr ⟨(R.edg p).mp L,aA6 _⟩
   refine afx (fun j e=>∃ y c beyond,e=[some (.st (tlV tl)),some (.st (.int a)),some (.own (OL (lab n.toNat c))),some (.st (.list (edge.map .int))),some (.own (OL (beyond.map .int))),some (.st (.int p)),y]/\Gr.Mid T r far edge (fun u=>u∈edge.take i) c beyond/\cnt c n.toNat+beyond.length=cnt far n.toNat/\(∀ v∈beyond,0<=v/\v < n)/\∀ x∈ws.take j,c x ≠ none)
    ⟨y,c,beyond,rfl,C,G,o,fun x M=>by simp at M⟩ ?_ ?_
   ·rintro j u e I l
    refine exS3 e l fun y c beyond b=>?_
    have C:=b.1
    have G:=b.2.1
    have o:=b.2.2.1
    have z:=b.2.2.2
    clear b l
    have tu:T p u:=(hw u).mp (aA2 I)
    obtain ⟨O,u1⟩:=hT _ _ tu
    have a6:atI (lab n.toNat c) u=some (oD (c u)):=anm O (by omega)
    have a4:atI (lab n.toNat c) p=some (.int (r:Int)):=by
     rw [anm p0 (by omega),C.old p r W];rfl
    row_cond go
    rw [ax0]
    cases hf:c u with
    | none =>
     refine acl ?_
     row_cond go
     refine aq1 (j:=u.toNat) rfl (by rw [adb];exact ai1 O (by omega)) ?_
     dsimp only [List.set_cons_zero,List.set_cons_succ,reS]
     rw [show (PyData.int ((r:Int)+1))=.int ((r+1:Nat):Int) by simp,apt O (by omega)]
     have a3:=akx (d:=r+1) O hf (n:=n.toNat) (by omega)
     have U:beyond.length<=cnt far n.toNat:=by omega
     have Y:∀ m,cnt far m<=m:=fun m=>by
      induction m with
      | zero=>exact aA6 _
      | succ m ih=>unfold cnt;split <;> omega
     have:=Y n.toNat
     row_cond go
     refine ⟨some (.st (.int u)),Gr.label c u (r+1),beyond ++ [u],by simp,C.add L tu hf,by simp;omega,fun v N=>?_,fun x M=>?_⟩
     ·rcases aA7.mp N with h | h
      ·exact o v h
      ·have:v=u:=by simpa using h
       subst this;exact ⟨O,u1⟩
     ·by_cases hx2:x=u
      ·subst hx2;rw [Gr.label_same];simp
      ·rw [Gr.label_ne hx2]
       rcases aeq I M with h | h
       ·exact z x h
       ·exact absurd h hx2
    | some d =>
     refine acz ?_
     row_cond go
     refine ⟨_,c,beyond,rfl,C,G,o,fun x M=>?_⟩
     rcases aeq I M with h | h
     ·exact z x h
     ·subst h;rw [hf];simp
   ·rintro e l
    refine exS3 e l fun y c beyond b=>?_
    have C:=b.1
    have G:=b.2.1
    have o:=b.2.2.1
    have z:=b.2.2.2
    clear b l
    rw [aG9] at z
    refine ⟨_,_,c,beyond,rfl,?_,G,o⟩
    refine (C.did (u:=p) fun x tx=>z x ((hw x).mpr tx)).imp fun x M=>?_
    exact aeq hp M
  ·rintro e l
   refine exS4 e l fun J y c beyond b=>?_
   have C:=b.1
   have G:=b.2.1
   have o:=b.2.2
   clear b l
   row_cond go
   refine ⟨_,?_,_,_,_,c,beyond,r+1,rfl,R.next C fun u I=>by rw [aG9];exact I,o,rfl⟩
   rw [aF7 X]
   cases beyond with
   | nil=>rw [aF6 rfl];simp at G;omega
   | cons b0 br=>rw [aF7 (by simp)];simp at G;omega
end
def aoq:VP:=fun ss Q=>∃ (n a:Int) (es:List (Int × Int)),ss=[.st (webD n es),.st (.int a)]/\0<=a/\a < n/\Q (.st .none)
def avn:VP:=fun ss Q=>∃ (n a:Int) (es:List (Int × Int)),ss=[.st (webD n es),.st (.int a)]/\n<=100/\InN n es/\es.length<=10000/\0<=a/\a < n/\Q (.own (OL (lab n.toNat (Gr.farO (Tied es) a))))
def avo:VP:=fun ss Q=>∃ (n a b:Int) (es:List (Int × Int)),ss=[.st (webD n es),.st (.int a),.st (.int b)]/\n<=100/\InN n es/\es.length<=10000/\0<=a/\a < n/\0<=b/\b < n/\Q (.st (oD (Gr.farO (Tied es) a b)))
def avp:VP:=fun ss Q=>∃ (n:Int) (es:List (Int × Int)),ss=[.st (webD n es)]/\1<=n/\n<=100/\InN n es/\es.length<=10000/\∀ b:Bool,(b=true ↔ Joined n es)->Q (.st (.bool b))
section
variable {P:Program} {w:World} {K:Frag} {mg:Str->Option Value} {base:Heap}
theorem sc_need_place:FnScope ["web","thing"] ["web","thing"] (aai s_need_place):=by row_cond sc
theorem ad9 (T:Txt K mg):Can P w K mg base "need_place" 4 ["web","thing"] (spP K (aoq)):=by
 obtain ⟨f,fd,D⟩:=T.d_need_place
 refine D.can (D.fn.ok sc_need_place (fun vs H Q E h=>lenP h fun ss c q=>by obtain ⟨n,a,es,rfl,a0,a1,k⟩:=q;rfl) (fun cdv A outer s H vs Q E d h=>?_))
 have nd:=sc_need_place.nd
 refine ⟨_,(aaf (abc (ach (acg (aae (ae5 T) d (aaa (aas aat (pv 0) aad (fun _ _=>rfl)) (aaa (pv 1) aab)))))
   (aaf aey)
   aa0)),?_⟩
 refine aa3 h fun ss c q B g=>?_
 refine exS3 ss q fun n a es b=>?_
 have a0:=b.1
 have a1:=b.2.1
 have k:=b.2.2
 clear b q
 show EvS B _ _ [some (.st (webD n es)),some (.st (.int a))]
 row_cond go
 refine ⟨_,_,rfl,?_⟩
 row_cond go
 have e:btwD 0 (n - 1) (.int a)=true:=aD7 ⟨a0,by omega⟩
 rw [e]
 row_cond go
 exact k
theorem sc_all_far:FnScope ["web","a"] ["web","a"] (aai s_all_far):=by row_cond sc
theorem aeg (T:Txt K mg):Can P w K mg base "all_far" 5 ["web","a"] (spP K (avn)):=by
 obtain ⟨f,fd,D⟩:=T.d_all_far
 refine D.can (D.fn.ok sc_all_far (fun vs H Q E h=>lenP h fun ss l q=>by obtain ⟨n,a,es,rfl,g,c,d,a0,a1,k⟩:=q;rfl) (fun cdv A outer s H vs Q E i h=>?_))
 have nd:=sc_all_far.nd
 refine ⟨_,(aac (abh (aae (ad9 T) i (aaa (pv 0) (aaa (pv 1) aab))))
  (aaf (aar (aae (ag0 T) i (aaa (aae (ad1 T) i (aaa (pv 0) aab)) (aaa (pv 1) aab)))))),?_⟩
 refine aa3 h fun ss l q B m=>?_
 refine exS3 ss q fun n a es b=>?_
 have g:=b.1
 have c:=b.2.1
 have d:=b.2.2.1
 have a0:=b.2.2.2.1
 have a1:=b.2.2.2.2.1
 have k:=b.2.2.2.2.2
 clear b q
 show EvS B _ _ [some (.st (webD n es)),some (.st (.int a))]
 row_cond go
 refine ⟨n,a,es,rfl,a0,a1,?_⟩
 row_cond go
 refine ⟨n,es,rfl,by omega,g,c,d,fun tl j _=>?_⟩
 refine a0q ?_
 row_cond go
 exact ⟨n,a,Tied es,tl,rfl,g,j,fun u v h=>(h.in c).2,a0,a1,k⟩
theorem sc_how_far:FnScope ["web","a","b"] ["web","a","b"] (aai s_how_far):=by row_cond sc
theorem aor (T:Txt K mg):Can P w K mg base "how_far" 6 ["web","a","b"] (spP K (avo)):=by
 obtain ⟨f,fd,D⟩:=T.d_how_far
 refine D.can (D.fn.ok sc_how_far (fun vs H Q E h=>lenP h fun ss l q=>by obtain ⟨n,a,b,es,rfl,j,d,g,a0,a1,b0,b1,k⟩:=q;rfl) (fun cdv A outer s H vs Q E i h=>?_))
 have nd:=sc_how_far.nd
 refine ⟨_,(aac (abh (aae (ad9 T) i (aaa (pv 0) (aaa (pv 1) aab))))
  (aac (abh (aae (ad9 T) i (aaa (pv 0) (aaa (pv 2) aab))))
  (aaf (aar (aas aat (aae (aeg T) i (aaa (pv 0) (aaa (pv 1) aab))) (pv 2) (fun _ _=>rfl)))))),?_⟩
 refine aa3 h fun ss l q B o=>?_
 refine exS4 ss q fun n a b es c=>?_
 have j:=c.1
 have d:=c.2.1
 have g:=c.2.2.1
 have a0:=c.2.2.2.1
 have a1:=c.2.2.2.2.1
 have b0:=c.2.2.2.2.2.1
 have b1:=c.2.2.2.2.2.2.1
 have k:=c.2.2.2.2.2.2.2
 clear c q
 show EvS B _ _ [some (.st (webD n es)),some (.st (.int a)),some (.st (.int b))]
 row_cond go
 refine ⟨n,a,es,rfl,a0,a1,?_⟩
 row_cond go
 refine ⟨n,b,es,rfl,b0,b1,?_⟩
 row_cond go
 refine ⟨n,a,es,rfl,j,d,g,a0,a1,?_⟩
 have m:atI (lab n.toNat (Gr.farO (Tied es) a)) b=some (oD (Gr.farO (Tied es) a b)):=anm b0 (by omega)
 row_cond go
 exact k
theorem sc_is_joined:FnScope ["web"] ["web"] (aai s_is_joined):=by row_cond sc
theorem alt (T:Txt K mg):Can P w K mg base "is_joined" 6 ["web"] (spP K (avp)):=by
 obtain ⟨f,fd,D⟩:=T.d_is_joined
 refine D.can (D.fn.ok sc_is_joined (fun vs H Q E h=>lenP h fun ss j q=>by obtain ⟨n,es,rfl,l,g,b,c,k⟩:=q;rfl) (fun cdv A outer s H vs Q E i h=>?_))
 have nd:=sc_is_joined.nd
 refine ⟨_,(aaf (aar (ab1 (agp i.units) amd (aae (aeg T) i (aaa (pv 0) (aaa aad aab))) rfl))),?_⟩
 refine aa3 h fun ss j q B o=>?_
 refine exS2 ss q fun n es a=>?_
 have l:=a.1
 have g:=a.2.1
 have b:=a.2.2.1
 have c:=a.2.2.2.1
 have k:=a.2.2.2.2
 clear a q
 show EvS B _ _ [some (.st (webD n es))]
 row_cond go
 refine ⟨n,0,es,rfl,g,b,c,by omega,by omega,?_⟩
 row_cond go
 refine apq rfl asm (by simp [PyData.depth]) ?_
 row_cond go
 refine k _ ?_
 rw [aF6 rfl,Bool.not_eq_true',← Bool.not_eq_true,ax2]
 constructor
 ·intro h v v0 m
  cases e:Gr.farO (Tied es) 0 v with
  | some d=>exact ⟨d,Gr.farO_some.mp e⟩
  | none=>exact absurd ⟨v,v0,by omega,e⟩ h
 ·rintro h ⟨v,v0,m,e⟩
  obtain ⟨d,hd⟩:=h v v0 (by omega)
  exact Gr.farO_none.mp e d hd
end
def dsF (es:List (Int × Int)) (u v:Int):Int:=(((Gr.farO (Tied es) u v).getD 0:Nat):Int)
def rowD (n:Nat) (r:Int->Int):List PyData:=(List.range n).map fun (i:Nat) => .int (r (i:Int))
def matD (n:Nat) (m:Int->Int->Int):List PyData:=(List.range n).map fun (u:Nat) => .list (rowD n (m (u:Int)))
theorem ajb {n:Nat} {r:Int->Int} {x:Int} (a:0<=x) (b:x < n):atI (rowD n r) x=some (.int (r x)):=by
 have:=ag6 (xs:=rowD n r) (j:=x.toNat) (v:=.int (r x)) (by
  unfold rowD
  rw [aA5,aA0 (by simp;omega)]
  simp [Int.max_eq_left a])
 rwa [show ((x.toNat:Nat):Int)=x by omega] at this
theorem ae6 {n:Nat} {m:Int->Int->Int} {x:Int} (a:0<=x) (b:x < n):atI (matD n m) x=some (.list (rowD n (m x))):=by
 have:=ag6 (xs:=matD n m) (j:=x.toNat) (v:=.list (rowD n (m x))) (by
  unfold matD
  rw [aA5,aA0 (by simp;omega)]
  simp [Int.max_eq_left a])
 rwa [show ((x.toNat:Nat):Int)=x by omega] at this
theorem ap7 {n:Nat} {m:Int->Int->Int}:(matD n m).length=n:=by simp [matD]
theorem ae7 {n:Nat} {r:Int->Int}:rowD n r=((List.range n).map fun (i:Nat)=>r (i:Int)).map .int:=by simp [rowD]
theorem af3 {n:Int} {es:List (Int × Int)} (b:Joined n es) {u v:Int} (c:0<=u) (g:u < n) (v0:0<=v) (f:v < n):∃ d,Gr.farO (Tied es) u v=some d:=by
 cases e:Gr.farO (Tied es) u v with
 | some d=>exact ⟨d,rfl⟩
 | none =>
  obtain ⟨k,a⟩:=b.conn u v c g v0 f
  obtain ⟨d,_,hd⟩:=Gr.Dist.of_walk a
  exact absurd hd (Gr.farO_none.mp e d)
theorem ake {n:Int} {es:List (Int × Int)} (a:Joined n es) {u:Int} (b:0<=u) (c:u < n):lab n.toNat (Gr.farO (Tied es) u)=rowD n.toNat (dsF es u):=by
 unfold lab rowD
 refine aE9 fun i hi=>?_
 obtain ⟨d,e⟩:=af3 a b c (show 0<=(i:Int) by omega) (by have:=aB9.mp hi;omega)
 simp only [dsF,e,oD,Option.getD_some]
theorem adm {α:Type} {K:Frag} {src:List (Option Nat)} {a:En} {te:TE} {R:List PyData->En->Prop} {xs:List α} {f : α->PyData} (g : α->PyData) (l:noIo (aal src a)=true) (z:xs.length<=999999)
  (h:∀ x∈xs,∀ c:Bs,c.K=K->Ev c te (some (.st (f x)) :: aal src a) fun y j=>y=g x/\j=some (.st (f x)) :: aal src a)
  (q:R (xs.map g) a):LcV K (none :: src) (aa1 0) tYes te (xs.map f) a R:=by
 have b:noIo (aal (none :: src) a)=true:=by
  show ((none :: aal src a).all fun s => !isIo s)=true
  rw [List.all_cons]
  exact (aH2 _ _).mpr ⟨rfl,l⟩
 refine ⟨fun i ys e=>ys=(xs.take i).map g/\∃ o,e=stO o :: aal src a,⟨by simp,none,rfl⟩,?_,?_,?_⟩
 ·rintro i ys e ⟨_,o,rfl⟩
  exact ⟨⟨isIo_stO.symm,ac0⟩,adn adh⟩
 ·rintro i d ys e hd ⟨rfl,o,rfl⟩ c p
  rw [aA5] at hd
  cases hx:xs[i]? with
  | none=>rw [hx] at hd;cases hd
  | some x =>
   rw [hx] at hd
   cases hd
   have hi:i < xs.length:=(aA1.mp hx).1
   have u:xs.take (i+1)=xs.take i ++ [x]:=by rw [aH5,hx];rfl
   refine aaz (ad7 ?_)
   rw [aF6 rfl]
   intro σ G H F Q I k
   refine h x (aA2 hx) c p σ G H F Q I fun v G' H' F' d' j r g' n ⟨w,m⟩=>k v G' H' F' d' j r g' n ?_
   subst w m
   refine ⟨by simp;omega,by rw [u];simp,some _,rfl⟩
 ·rintro ys e ⟨rfl,o,rfl⟩
  rw [ahf b]
  simpa using q
theorem acp {ns:List Int} {x y:Int} (h:aed ns x) (g:aed ns y):x=y:=Int.le_antisymm (g.2 x h.1) (h.2 y g.1)
theorem ahm:∀ {ns:List Int},ns ≠ []->∃ x,aed ns x
 | [a],_=>⟨a,by simp [aed]⟩
 | a :: b :: r,_=>by
  obtain ⟨x,d,hm⟩:=ahm (ns:=b :: r) (by simp)
  by_cases h:a<=x
  ·exact ⟨x,aB5 _ d,fun y c=>by
    rcases aA9.mp c with rfl | c
    ·exact h
    ·exact hm y c⟩
  ·exact ⟨a,aB8,fun y c=>by
    rcases aA9.mp c with rfl | c
    ·exact Int.le_refl _
    ·have:=hm y c;omega⟩
theorem akf {n:Nat} (b:1<=n) (m:Int->Int->Int):∃ a:Nat->Int,∀ u:Nat,aed ((List.range n).map fun (i:Nat)=>m (u:Int) (i:Int)) (a u) :=
 ⟨fun u=>Classical.choose (ahm (ns:=(List.range n).map fun (i:Nat)=>m (u:Int) (i:Int)) (by simp;omega)),fun u=>Classical.choose_spec (ahm (ns:=(List.range n).map fun (i:Nat)=>m (u:Int) (i:Int)) (by simp;omega))⟩
theorem avq {n:Nat} {r q:Int->Int}:zipD (rowD n r) (rowD n q)=(List.range n).map fun (i:Nat) => .tuple [.int (r (i:Int)),.int (q (i:Int))]:=by
 unfold zipD rowD
 rw [List.zip_map',aD9]
 rfl
def an3:VP:=fun ss Q=>∃ (n:Int) (es:List (Int × Int)),ss=[.st (webD n es)]/\1<=n/\n<=100/\InN n es/\es.length<=10000/\Joined n es/\Q (.st .none)
def ak3:VP:=fun ss Q=>∃ (n:Int) (es:List (Int × Int)),ss=[.st (webD n es)]/\1<=n/\n<=100/\InN n es/\es.length<=10000/\Joined n es/\Q (.own (OL (matD n.toNat (dsF es))))
def awr (n:Nat) (m:Int->Int->Int) (x:Int):Prop:=(∃ u v:Int,0<=u/\u < n/\0<=v/\v < n/\m u v=x)/\∀ u v:Int,0<=u->u < n->0<=v->v < n->m u v<=x
def atj:VP:=fun ss Q=>∃ (n:Nat) (m:Int->Int->Int),ss=[.st (.list (matD n m))]/\1<=n/\n<=1000/\∀ x,awr n m x->Q (.st (.int x))
structure FreeAll (n:Int) (es fs:List (Int × Int)):Prop where
 mem:∀ p:Int × Int,p∈fs ↔ (0<=p.1/\p.1 < p.2/\p.2 < n/\p ∉ es)
 rise:Rise fs
section
variable {P:Program} {w:World} {K:Frag} {mg:Str->Option Value} {base:Heap}
theorem sc_need_joined:FnScope ["web"] ["web"] (aai s_need_joined):=by row_cond sc
theorem afh (T:Txt K mg):Can P w K mg base "need_joined" 7 ["web"] (spP K (an3)):=by
 obtain ⟨f,fd,D⟩:=T.d_need_joined
 refine D.can (D.fn.ok sc_need_joined (fun vs H Q E h=>lenP h fun ss l q=>by obtain ⟨n,es,rfl,i,j,c,d,g,k⟩:=q;rfl) (fun cdv A outer s H vs Q E m h=>?_))
 have nd:=sc_need_joined.nd
 refine ⟨_,(aaf (abc (ach (acg (aae (alt T) m (aaa (pv 0) aab))))
   (aaf aey)
   aa0)),?_⟩
 refine aa3 h fun ss l q B o=>?_
 refine exS2 ss q fun n es a=>?_
 have i:=a.1
 have j:=a.2.1
 have c:=a.2.2.1
 have d:=a.2.2.2.1
 have g:=a.2.2.2.2.1
 have k:=a.2.2.2.2.2
 clear a q
 show EvS B _ _ [some (.st (webD n es))]
 row_cond go
 refine ⟨n,es,rfl,i,j,c,d,fun b hb=>?_⟩
 have:b=true:=hb.mpr g
 subst this
 row_cond go
 exact k
theorem sc_far_rows:FnScope ["web","tied"] ["web"] (aai s_far_rows):=by row_cond sc
theorem ad2 (T:Txt K mg):Can P w K mg base "far_rows" 8 ["web"] (spP K (ak3)):=by
 obtain ⟨f,fd,D⟩:=T.d_far_rows
 refine D.can (D.fn.ok sc_far_rows (fun vs H Q E h=>lenP h fun ss x q=>by obtain ⟨n,es,rfl,p,d,b,c,g,k⟩:=q;rfl) (fun cdv A outer s H vs Q E l h=>?_))
 have nd:=sc_far_rows.nd
 refine ⟨_,(aac (abh (aae (afh T) l (aaa (pv 0) aab)))
  (aac (aan (i:=1) nd rfl (Or.inr rfl) (aae (ad1 T) l (aaa (pv 0) aab)))
  (aaf (aar (ac9 rfl (N:=["place","tied"]) (src:=[none,some 1]) (by exact aa8 rfl rfl rfl rfl rfl rfl) (abi rfl T.b_range (aaa (aah aa9 (by rfl) T.b_len abw (aaa (pv 1) aab)) aab)) (fun _ _ _ _=>(aak (i:=0) (show List.Nodup (["place","tied"]:List Str) by decide +kernel) rfl (Or.inl rfl) (hf:=Or.inr rfl))) (fun _ _ _ _=>aba) (fun _ _ _ _=>(aae (ag0 T) l (aaa (pv 1) (aaa (pv 0) aab))))))))),?_⟩
 refine aa3 h fun ss x q B z=>?_
 refine exS2 ss q fun n es a=>?_
 have p:=a.1
 have d:=a.2.1
 have b:=a.2.2.1
 have c:=a.2.2.2.1
 have g:=a.2.2.2.2.1
 have k:=a.2.2.2.2.2
 clear a q
 show EvS B _ _ [some (.st (webD n es)),none]
 row_cond go
 refine ⟨n,es,rfl,p,d,b,c,g,?_⟩
 row_cond go
 refine ⟨n,es,rfl,by omega,d,b,c,fun tl o _=>?_⟩
 refine abn ahh ?_
 have y:tl.length=n.toNat:=by have:=o.1;omega
 have m:((tlD tl).map PyData.list).length=n.toNat:=by simp [tlD,y]
 row_cond go
 rw [m,show (((n.toNat:Nat):Int)).toNat=n.toNat by omega]
 unfold rngD
 refine adm (fun u:Nat => .list (rowD n.toNat (dsF es (u:Int)))) rfl (by simp;omega) (fun u r F C=>?_) ?_
 ·have j:(u:Int) < n:=by have:=aB9.mp r;omega
  row_cond go
  refine ⟨n,0+(u:Int),Tied es,tl,rfl,d,o,fun u v h=>(h.in b).2,by omega,by omega,adw ⟨?_,rfl⟩⟩
  rw [aI8,ake g (by omega) j]
 ·row_cond go
  exact k
theorem sc_most_far:FnScope ["rows"] ["rows"] (aai s_most_far):=by row_cond sc
theorem an4 (T:Txt K mg):Can P w K mg base "most_far" 1 ["rows"] (spP K (atj)):=by
 obtain ⟨f,fd,D⟩:=T.d_most_far
 refine D.can (D.fn.ok sc_most_far (fun vs H Q E h=>lenP h fun ss p q=>by obtain ⟨n,m,rfl,g,r,k⟩:=q;rfl) (fun cdv A outer s H vs Q E J h=>?_))
 have nd:=sc_most_far.nd
 refine ⟨_,(aaf (aar (aah (ab0 rfl) (by rfl) T.b_max acj (aaa (ac9 rfl (N:=["row"]) (src:=[none]) (by exact aa8 rfl rfl rfl rfl rfl rfl) (abe (pv 0)) (fun _ _ _ _=>(aak (i:=0) (show List.Nodup (["row"]:List Str) by decide +kernel) rfl (Or.inl rfl) (hf:=Or.inr rfl))) (fun _ _ _ _=>aba) (fun _ _ _ _=>(aah (show aa5 _ (.builtin "max") (aha K) from (ab0 rfl)) (by rfl) T.b_max acj (aaa (pv 0) aab)))) aab)))),?_⟩
 refine aa3 h fun ss p q B F=>?_
 refine exS2 ss q fun n m a=>?_
 have g:=a.1
 have r:=a.2.1
 have k:=a.2.2
 clear a q
 show EvS B _ _ [some (.st (.list (matD n m)))]
 obtain ⟨d,b⟩:=akf g m
 row_cond go
 unfold matD
 refine adm (fun u:Nat => .int (d u)) rfl (by simp;omega) (fun u z O I=>?_) ?_
 ·row_cond go
  rw [ae7]
  exact acd (by simp;omega) fun x c=>⟨by rw [acp c (b u)],rfl⟩
 ·row_cond go
  rw [show (List.range n).map (fun u:Nat=>PyData.int (d u))=((List.range n).map d).map .int by rw [aD9];rfl]
  refine acd (by simp;omega) fun x c=>?_
  row_cond go
  refine k x ⟨?_,fun u v L M v0 G=>?_⟩
  ·obtain ⟨i,hi,e⟩:=aB7.mp c.1
   obtain ⟨j,l,y⟩:=aB7.mp (b i).1
   exact ⟨i,j,by omega,by have:=aB9.mp hi;omega,by omega,by have:=aB9.mp l;omega,y.trans e⟩
  ·have o:=(b u.toNat).2 (m ((u.toNat:Nat):Int) ((v.toNat:Nat):Int)) (aB7.mpr ⟨v.toNat,aB9.mpr (by omega),rfl⟩)
   have C:=c.2 (d u.toNat) (aB7.mpr ⟨u.toNat,aB9.mpr (by omega),rfl⟩)
   rw [show ((u.toNat:Nat):Int)=u by omega,show ((v.toNat:Nat):Int)=v by omega] at o
   omega
end
structure MidOk (n:Int) (es:List (Int × Int)) (x:Int) (ps:List Int):Prop where
 lo:∀ u:Int,0<=u->u < n->∃ v:Int,0<=v/\v < n/\x<=dsF es u v
 rise:ps.Pairwise (· < ·)
 ne:ps ≠ []
 mem:∀ u:Int,u∈ps ↔ (0<=u/\u < n/\∀ v:Int,0<=v->v < n->dsF es u v<=x)
def a2f:VP:=fun ss Q=>∃ (n:Int) (es:List (Int × Int)),ss=[.st (webD n es)]/\1<=n/\n<=100/\InN n es/\es.length<=10000/\Joined n es/\∀ x ps,MidOk n es x ps->Q (.own (OW (.int x) (ps.map .int)))
theorem avr (n:Nat) (a:Nat->Int):enD (List.map PyData.int (List.map a (List.range n)))=(List.range n).map fun (i:Nat) => .tuple [.int (i:Int),.int (a i)]:=by
 refine aG3 fun i=>?_
 by_cases hi:i < n
 ·have b:i < (enD (List.map PyData.int (List.map a (List.range n)))).length:=by rw [adz];simpa using hi
  obtain ⟨x,c,e⟩:=akb (aA0 b)
  rw [aA0 b,e,aA5,aD8 hi]
  rw [aA5,aA5,aD8 hi] at c
  cases c
  rfl
 ·rw [List.getElem?_eq_none (by rw [adz];simp;omega),List.getElem?_eq_none (by simp;omega)]
theorem a08 {n:Int} {es:List (Int × Int)} {d:Nat->Int} {x:Int} (r:1<=n) (c:∀ u:Nat,aed ((List.range n.toNat).map fun (i:Nat)=>dsF es (u:Int) (i:Int)) (d u)) (m:aqt ((List.range n.toNat).map d) x) :
  MidOk n es x (((List.range n.toNat).filter fun i=>decide (d i=x)).map fun (i:Nat)=>(i:Int)):=by
 refine ⟨fun u p q=>?_,?_,fun e=>?_,fun u=>?_⟩
 ·have g:=m.2 (d u.toNat) (aB7.mpr ⟨u.toNat,aB9.mpr (by omega),rfl⟩)
  obtain ⟨j,f,e⟩:=aB7.mp (c u.toNat).1
  rw [show ((u.toNat:Nat):Int)=u by omega] at e
  exact ⟨j,by omega,by have:=aB9.mp f;omega,by omega⟩
 ·rw [aG2]
  exact (List.pairwise_lt_range.filter _).imp fun {a b} h=>by omega
 ·obtain ⟨j,f,o⟩:=aB7.mp m.1
  have:(j:Int)∈((List.range n.toNat).filter fun i=>decide (d i=x)).map fun (i:Nat)=>(i:Int):=aB7.mpr ⟨j,aE1.mpr ⟨f,by simpa using o⟩,rfl⟩
  rw [e] at this
  cases this
 ·rw [aB7]
  constructor
  ·rintro ⟨i,hi,rfl⟩
   obtain ⟨g,l⟩:=aE1.mp hi
   have g:=aB9.mp g
   have l:d i=x:=by simpa using l
   refine ⟨by omega,by omega,fun v v0 s=>?_⟩
   have:=(c i).2 (dsF es (i:Int) ((v.toNat:Nat):Int)) (aB7.mpr ⟨v.toNat,aB9.mpr (by omega),rfl⟩)
   rw [show ((v.toNat:Nat):Int)=v by omega,l] at this
   exact this
  ·rintro ⟨p,q,h⟩
   refine ⟨u.toNat,aE1.mpr ⟨aB9.mpr (by omega),?_⟩,by omega⟩
   have g:=m.2 (d u.toNat) (aB7.mpr ⟨u.toNat,aB9.mpr (by omega),rfl⟩)
   obtain ⟨j,f,e⟩:=aB7.mp (c u.toNat).1
   rw [show ((u.toNat:Nat):Int)=u by omega] at e
   have:=h j (by omega) (by have:=aB9.mp f;omega)
   simp
   omega
section
variable {P:Program} {w:World} {K:Frag} {mg:Str->Option Value} {base:Heap}
theorem sc_middles:FnScope ["web","wides","wide"] ["web"] (aai s_middles):=by row_cond sc
theorem afk (T:Txt K mg):Can P w K mg base "middles" 9 ["web"] (spP K (a2f)):=by
 obtain ⟨f,fd,D⟩:=T.d_middles
 refine D.can (D.fn.ok sc_middles (fun vs H Q E h=>lenP h fun ss p q=>by obtain ⟨n,es,rfl,l,o,c,g,m,k⟩:=q;rfl) (fun cdv A outer s H vs Q E v h=>?_))
 have nd:=sc_middles.nd
 refine ⟨_,(aac (ae0 (i:=1) nd rfl (Or.inl rfl) rfl (N:=["row"]) (src:=[none]) (by exact aa8 rfl rfl rfl rfl rfl rfl) (abe (aae (ad2 T) v (aaa (pv 0) aab))) (fun _ _ _ _=>(aak (i:=0) (show List.Nodup (["row"]:List Str) by decide +kernel) rfl (Or.inl rfl) (hf:=Or.inr rfl))) (fun _ _ _ _=>aba) (fun _ _ _ _=>(aah (show aa5 _ (.builtin "max") (aha K) from (ab0 rfl)) (by rfl) T.b_max acj (aaa (pv 0) aab))))
  (aac (aan (i:=2) nd rfl (Or.inr rfl) (aah (akr rfl) (by rfl) T.b_min aek (aaa (pv 1) aab)))
  (aaf (aar (ab3 (aaa (pv 2) (aaa (ac9 rfl (N:=["place","sees","wide"]) (src:=[none,none,some 2]) (by exact aa8 rfl rfl rfl rfl rfl rfl) (apv rfl T.b_enumerate (aaa (pv 1) aab)) (fun _ _ _ _=>(show PG _ _ (gTup K 2 (ae8 (aa1 0) (ae8 (aa1 1) gNil))) from (ade rfl (aa2 (aak (i:=0) (show List.Nodup (["place","sees","wide"]:List Str) by decide +kernel) rfl (Or.inl rfl) (hf:=Or.inr rfl)) (aa2 (aak (i:=1) (show List.Nodup (["place","sees","wide"]:List Str) by decide +kernel) rfl (Or.inl rfl) (hf:=Or.inr rfl)) acs))))) (fun _ _ _ _=>ag7 (aav ae9 (pv 1) (pv 2) (aau _))) (fun _ _ _ _=>(pv 0))) aab))))))),?_⟩
 refine aa3 h fun ss p q B C=>?_
 refine exS2 ss q fun n es a=>?_
 have l:=a.1
 have o:=a.2.1
 have c:=a.2.2.1
 have g:=a.2.2.2.1
 have m:=a.2.2.2.2.1
 have k:=a.2.2.2.2.2
 clear a q
 show EvS B _ _ [some (.st (webD n es)),none,none]
 have hn:1<=n.toNat:=by omega
 obtain ⟨b,d⟩:=akf hn (dsF es)
 row_cond go
 refine ⟨n,es,rfl,l,o,c,g,m,adw ?_⟩
 row_cond go
 unfold matD
 refine adm (fun u:Nat => .int (b u)) rfl (by simp;omega) (fun u z y r=>?_) ?_
 ·row_cond go
  rw [ae7]
  exact acd (by simp;omega) fun x j=>⟨by rw [acp j (d u)],rfl⟩
 ·rw [show (List.range n.toNat).map (fun u:Nat=>PyData.int (b u))=((List.range n.toNat).map b).map .int by rw [aD9];rfl]
  refine abn ab9 ?_
  row_cond go
  refine ank (by simp;omega) fun x j=>?_
  repeat (first | (refine avi ?_) | row_cond st)
  rw [avr]
  refine anj (xs:=List.range n.toNat) (fa:=fun i:Nat => .int (i:Int)) (fb:=fun i:Nat => .int (b i)) (fun i:Nat => .int (i:Int)) (fun i=>decide (b i=x)) rfl (by simp;omega) (fun i hi y r=>?_) ?_
  ·row_cond go
   intro _
   row_cond go
   exact rfl
  ·refine ⟨_,rfl,?_⟩
   rw [show ((List.range n.toNat).filter fun i=>decide (b i=x)).map (fun i:Nat=>PyData.int (i:Int))=(((List.range n.toNat).filter fun i=>decide (b i=x)).map fun (i:Nat)=>(i:Int)).map .int by rw [aD9];rfl]
   exact k x _ (a08 l d j)
end
def aeh (n:Int):PyData->Bool
 | .list ds=>decide ((ds.length:Int)=n)
 | _=>false
def amb:PyData->Bool
 | .list ds=>ds.all isInt
 | _=>false
def abu (n:Int):PyData->Bool
 | .list ds=>decide ((ds.length:Int)=n) && ds.all (aeh n) && ds.all amb
 | _=>false
def ad3:PyData->List PyData
 | .list ds=>ds
 | _=>[]
def a09:VP:=fun ss Q=>∃ (n:Int) (d:PyData),ss=[.st (.int n),.st d]/\Q (.st (.bool (aeh n d)))
def avs:VP:=fun ss Q=>∃ (n:Int) (d:PyData),ss=[.st (.int n),.st d]/\n<=100/\Q (.st (.bool (abu n d)))
def HoldsAt (T:Int->Int->Prop) (d:Int) (m:Int->Int->Int) (a b:Int):Prop:=(a=b->m a b=0)/\(a ≠ b->1<=m a b/\m a b<=d/\∃ p,T a p/\m p b=m a b - 1)
def ayr:VP:=fun ss Q=>∃ (n:Nat) (T:Int->Int->Prop) (tl:List (List Int)) (d:Int) (m:Int->Int->Int) (a b:Int),ss=[.st (tlV tl),.st (.int d),.st (.list (matD n m)),.st (.int a),.st (.int b)]/\n<=100/\TiedL n T tl/\(∀ u v,T u v->0<=v/\v < n)/\(∀ ws∈tl,ws.length<=20000)/\0<=a/\a < n/\0<=b/\b < n/\∀ bb:Bool,(bb=true ↔ HoldsAt T d m a b)->Q (.st (.bool bb))
def ahn (n:Int) (es:List (Int × Int)) (d:Int) (m:Int->Int->Int):Prop:=0<=d/\∀ a b:Int,0<=a->a < n->0<=b->b < n->HoldsAt (Tied es) d m a b
def ays:VP:=fun ss Q=>∃ (n d:Int) (es:List (Int × Int)) (p:PyData),ss=[.st (webD n es),.st (.int d),.st p]/\1<=n/\n<=100/\InN n es/\es.length<=10000/\Joined n es/\(abu n p=false->Q (.st (.bool false)))/\∀ m,p=.list (matD n.toNat m)->∀ bb:Bool,(bb=true ↔ ahn n es d m)->Q (.st (.bool bb))
def a2g:PyData->Int
 | .int i=>i
 | _=>0
theorem ak5 {n:Int} {p:PyData} (h:abu n p=true):∃ m,p=.list (matD n.toNat m):=by
 cases p with
 | list ds =>
  simp only [abu,aH2,decide_eq_true_eq,aF5] at h
  obtain ⟨⟨w,q⟩,s⟩:=h
  refine ⟨fun a b=>a2g ((ad3 (ds.getD a.toNat .none)).getD b.toNat .none),congrArg PyData.list ?_⟩
  refine List.ext_getElem (by rw [ap7];omega) fun i hi v=>?_
  have g:=q ds[i] (aF2 hi)
  have c:=s ds[i] (aF2 hi)
  have o:ds.getD i .none=ds[i]:=by rw [aD3,aA0 hi];rfl
  generalize ds[i]=r at g c o
  cases r with
  | list xs =>
   have y:(xs.length:Int)=n:=of_decide_eq_true g
   simp only [matD,List.getElem_map,List.getElem_range]
   refine congrArg PyData.list (List.ext_getElem (by simp [rowD];omega) fun j l u=>?_)
   have d:=aF5.mp c xs[j] (aF2 l)
   have f:xs.getD j .none=xs[j]:=by rw [aD3,aA0 l];rfl
   simp only [rowD,List.getElem_map,List.getElem_range,Int.toNat_natCast,o,ad3,f]
   generalize xs[j]=x at d
   cases x with
   | int i=>rfl
   | _=>cases d
  | _=>cases g
 | _=>cases h
theorem ayt {n:Nat} (r:Int->Int):amb (.list (rowD n r))=true:=by
 unfold amb rowD
 simp only [List.all_map,aF5]
 intro x _;rfl
theorem af4 {n:Int} (h:0<=n) (m:Int->Int->Int):abu n (.list (matD n.toNat m))=true:=by
 unfold abu
 simp only [ap7,aH2,decide_eq_true_eq,aF5]
 refine ⟨⟨by omega,fun r a=>?_⟩,fun r a=>?_⟩
 ·unfold matD at a
  obtain ⟨u,_,rfl⟩:=aB7.mp a
  exact aD7 (by simp only [rowD,aA3,aE0];omega)
 ·unfold matD at a
  obtain ⟨u,_,rfl⟩:=aB7.mp a
  exact ayt _
theorem ak6 {n:Int} {d:PyData} (h:aeh n d=true):∃ ds,d=.list ds/\(ds.length:Int)=n:=by
 cases d with
 | list ds=>exact ⟨ds,rfl,of_decide_eq_true h⟩
 | _=>cases h
theorem ap8 {α:Type} {k:Nat} {f:PyData->List α}:∀ (l:List PyData),(∀ u∈l,(f u).length<=k)->(l.flatMap f).length<=l.length * k
 | [],_=>by simp
 | u :: l,h=>by
  have b:=h u aB8
  have c:=ap8 l fun v a=>h v (aB5 _ a)
  rw [List.flatMap_cons,aB1,aE4,Nat.add_mul]
  omega
theorem an5 {n:Nat} {c:Int->Int->Bool}:((List.range n).flatMap fun (u:Nat)=>((List.range n).filter fun _=>true).map fun (v:Nat)=>PyData.bool (c (u:Int) (v:Int)))=((List.range n).flatMap fun (u:Nat)=>(List.range n).map fun (v:Nat)=>c (u:Int) (v:Int)).map .bool:=by
 rw [List.map_flatMap]
 congr 1
 funext u
 rw [aD9,List.filter_eq_self.mpr fun _ _=>rfl]
 rfl
section
variable {P:Program} {w:World} {K:Frag} {mg:Str->Option Value} {base:Heap}
theorem sc_is_long:FnScope ["n","thing"] ["n","thing"] (aai s_is_long):=by row_cond sc
theorem ah1 (T:Txt K mg):Can P w K mg base "is_long" 1 ["n","thing"] (spP K (a09)):=by
 obtain ⟨f,fd,D⟩:=T.d_is_long
 refine D.can (D.fn.ok sc_is_long (fun vs H Q E h=>lenP h fun ss b q=>by obtain ⟨n,d,rfl,k⟩:=q;rfl) (fun cdv A outer s H vs Q E g h=>?_))
 have nd:=sc_is_long.nd
 refine ⟨_,(aaf (aar (adr (aah ae2 (by rfl) T.b_isinstance acr (aaa (pv 1) (aaa (afl (v:=.ty "list") rfl T.b_list ajt rfl) aab))) (aei (ab1 ae9 (aah aa9 (by rfl) T.b_len abw (aaa (pv 1) aab)) (pv 0) (aau _)))))),?_⟩
 refine aa3 h fun ss b q B c=>?_
 refine exS2 ss q fun n d a=>?_
 have k:=a
 clear a q
 show EvS B _ _ [some (.st (.int n)),some (.st d)]
 row_cond go
 cases d with
 | list ds =>
  refine acl ?_
  row_cond go
  exact k
 | _ =>
  refine acz ?_
  exact k
theorem sc_is_square:FnScope ["n","paper"] ["n","paper"] (aai s_is_square):=by row_cond sc
theorem alu (T:Txt K mg):Can P w K mg base "is_square" 2 ["n","paper"] (spP K (avs)):=by
 obtain ⟨f,fd,D⟩:=T.d_is_square
 refine D.can (D.fn.ok sc_is_square (fun vs H Q E h=>lenP h fun ss v q=>by obtain ⟨n,d,rfl,F,k⟩:=q;rfl) (fun cdv A outer s H vs Q E b h=>?_))
 have nd:=sc_is_square.nd
 refine ⟨_,(aac (abc (PW.pt (adi (ach (acg (aae (ah1 T) b (aaa (pv 0) (aaa (pv 1) aab))))) (adq (ach (acg (aah (aen rfl) (by rfl) T.b_all agl (aaa (ac9 rfl (N:=["row","n"]) (src:=[none,some 0]) (by exact aa8 rfl rfl rfl rfl rfl rfl) (abe (pv 1)) (fun _ _ _ _=>(aak (i:=0) (show List.Nodup (["row","n"]:List Str) by decide +kernel) rfl (Or.inl rfl) (hf:=Or.inr rfl))) (fun _ _ _ _=>aba) (fun _ _ _ _=>(aae (ah1 T) b (aaa (pv 1) (aaa (pv 0) aab))))) aab)))))))
   (aaf (aar abp))
   aa0)
  (aaf (aar (aah (aen rfl) (by rfl) T.b_all agl (aaa (ar3 rfl (N:=["row","number"]) (src:=[none,none]) (by exact aa8 rfl rfl rfl rfl rfl rfl) (abe (pv 1)) (fun _ _ _ _=>(aak (i:=0) (show List.Nodup (["row","number"]:List Str) by decide +kernel) rfl (Or.inl rfl) (hf:=Or.inr rfl))) (fun _ _ _ _=>aba) (fun _ _ _ _=>(show PI _ _ _ (aly K _) from abe (pv 0))) (fun _ _ _ _=>(aak (i:=1) (show List.Nodup (["row","number"]:List Str) by decide +kernel) rfl (Or.inl rfl) (hf:=Or.inr rfl))) (fun _ _ _ _=>aba) (fun _ _ _ _=>(aae (agz T) b (aaa (pv 1) aab)))) aab))))),?_⟩
 refine aa3 h fun ss v q B G=>?_
 refine exS2 ss q fun n d c=>?_
 have F:=c.1
 have k:=c.2
 clear c q
 show EvS B _ _ [some (.st (.int n)),some (.st d)]
 row_cond go
 refine ⟨_,_,rfl,?_⟩
 cases e:aeh n d with
 | false =>
  row_cond go
  rw [show abu n d=false by
   cases d with
   | list ds=>simp only [abu,show decide ((ds.length:Int)=n)=false from e,Bool.false_and]
   | _=>rfl] at k
  exact k
 | true =>
  obtain ⟨ds,rfl,C⟩:=ak6 e
  row_cond go
  refine aj7 (fun r => .bool (aeh n r)) rfl (by omega) (fun r _ j p=>?_) ?_
  ·row_cond go
   exact ⟨n,r,rfl,rfl,rfl⟩
  ·row_cond go
   rw [show (ds.map fun r=>PyData.bool (aeh n r))=(ds.map (aeh n)).map .bool by rw [aD9];rfl]
   refine afp ?_
   rw [show (ds.map (aeh n)).all id=ds.all (aeh n) by simp [List.all_map]]
   row_cond go
   cases e2:ds.all (aeh n) with
   | false =>
    row_cond go
    rw [show abu n (.list ds)=false by simp only [abu,e2,Bool.and_false,Bool.false_and]] at k
    exact k
   | true =>
    have b:∀ r∈ds,∃ xs,r=.list xs/\(xs.length:Int)=n:=fun r b=>ak6 (aF5.mp e2 r b)
    row_cond go
    have m:(ds.flatMap fun r=>((ad3 r).filter fun _=>true).map fun x=>PyData.bool (isInt x)).length<=999999:=by
     have:=ap8 (k:=100) (f:=fun r=>((ad3 r).filter fun _=>true).map fun x=>PyData.bool (isInt x)) ds fun r a=>by
      obtain ⟨xs,rfl,g⟩:=b r a
      rw [aA3]
      refine aD0 (aF3 _ _) ?_
      show xs.length<=100
      omega
     have I:ds.length * 100<=100 * 100:=Nat.mul_le_mul_right _ (by omega)
     omega
    have l:ds.map id=ds:=List.map_id ds
    rw [← l]
    refine anu (xs:=ds) (fx:=id) ad3 id (fun _ x => .bool (isInt x)) (fun _ _=>true) (ak0 rfl) m ?_ ?_ ?_
    ·intro r a j p o
     obtain ⟨xs,rfl,g⟩:=b r a
     show EvI j _ (some (.st (.list xs)) :: _) _
     row_cond go
     exact ⟨(List.map_id xs).symm,rfl⟩
    ·intro r a x g j p
     show EvT j _ (some (.st r) :: some (.st x) :: _) _
     row_cond go
     intro _
     row_cond go
     exact ⟨x,rfl,rfl,rfl⟩
    ·rw [show (ds.flatMap fun r=>((ad3 r).filter fun _=>true).map fun x=>PyData.bool (isInt x))=(ds.flatMap fun r=>(ad3 r).map isInt).map .bool by
      rw [List.map_flatMap]
      congr 1
      funext r
      rw [aD9,List.filter_eq_self.mpr fun _ _=>rfl]
      rfl]
     row_cond go
     refine afp ?_
     rw [show (ds.flatMap fun r=>(ad3 r).map isInt).all id=abu n (.list ds) by
      have u:(ds.flatMap fun r=>(ad3 r).map isInt).all id=ds.all amb:=by
       rw [aH9]
       simp only [aF5,List.mem_flatMap,aB7,id]
       constructor
       ·intro z r a
        obtain ⟨xs,rfl,_⟩:=b r a
        exact aF5.mpr fun x g=>z _ ⟨_,a,x,g,rfl⟩
       ·rintro z y ⟨r,a,x,g,rfl⟩
        obtain ⟨xs,rfl,_⟩:=b r a
        exact aF5.mp (z _ a) x g
      rw [u]
      simp only [abu,e2,show decide ((ds.length:Int)=n)=true from aD7 C,Bool.and_self,Bool.true_and]]
     row_cond go
     exact k
theorem sc_number_holds:FnScope ["tied","d","paper","a","b","number"] ["tied","d","paper","a","b"] (aai s_number_holds):=by row_cond sc
theorem aih (T:Txt K mg):Can P w K mg base "number_holds" 1 ["tied","d","paper","a","b"] (spP K (ayr)):=by
 obtain ⟨f,fd,D⟩:=T.d_number_holds
 refine D.can (D.fn.ok sc_number_holds (fun vs H Q E h=>lenP h fun ss G q=>by obtain ⟨n,I,tl,d,m,a,b,rfl,M,C,g,y,a0,a1,b0,b1,k⟩:=q;rfl) (fun cdv A outer s H vs Q E U h=>?_))
 have nd:=sc_number_holds.nd
 refine ⟨_,(aac (aan (i:=5) nd rfl (Or.inr rfl) (aas aat (aas aat (pv 2) (pv 3) (fun _ _=>rfl)) (pv 4) (fun _ _=>rfl)))
  (aac (abc (aav ae9 (pv 3) (pv 4) (aau _))
   (aaf (aar (ab1 ae9 (pv 5) aad (aau _))))
   aa0)
  (aac (abc (ach (atr afr afr aad (pv 5) (pv 1)))
   (aaf (aar abp))
   aa0)
  (aaf (aar (aah (asq rfl) (by rfl) T.b_any azw (aaa (ac9 rfl (N:=["place","b","number","paper"]) (src:=[none,some 4,some 5,some 2]) (by exact aa8 rfl rfl rfl rfl rfl rfl) (abe (aas aat (pv 0) (pv 3) (fun _ _=>rfl))) (fun _ _ _ _=>(aak (i:=0) (show List.Nodup (["place","b","number","paper"]:List Str) by decide +kernel) rfl (Or.inl rfl) (hf:=Or.inr rfl))) (fun _ _ _ _=>aba) (fun _ _ _ _=>(ab1 ae9 (aas (show IxR _ (adj K) from aat) (aas (show IxR _ (adj K) from aat) (pv 3) (pv 0) (fun _ _=>rfl)) (pv 1) (fun _ _=>rfl)) (aam ads (pv 2) aad) (aau _)))) aab))))))),?_⟩
 refine aa3 h fun ss G q B R=>?_
 refine exS7 ss q fun n I tl d m a b c=>?_
 have M:=c.1
 have C:=c.2.1
 have g:=c.2.2.1
 have y:=c.2.2.2.1
 have a0:=c.2.2.2.2.1
 have a1:=c.2.2.2.2.2.1
 have b0:=c.2.2.2.2.2.2.1
 have b1:=c.2.2.2.2.2.2.2.1
 have k:=c.2.2.2.2.2.2.2.2
 clear c q
 show EvS B _ _ [some (.st (tlV tl)),some (.st (.int d)),some (.st (.list (matD n m))),some (.st (.int a)),some (.st (.int b)),none]
 have ha:=ae6 (n:=n) (m:=m) a0 a1
 have hb:=ajb (n:=n) (r:=m a) b0 b1
 row_cond go
 refine adg (fun h=>?_) (fun h=>?_)
 ·row_cond go
  refine k _ ?_
  rw [decide_eq_true_iff]
  exact ⟨fun e=>⟨fun _=>e,fun z=>absurd h z⟩,fun z=>z.1 h⟩
 ·row_cond go
  obtain ⟨u,o,x⟩:=C.get (v:=a) a0 (by omega)
  have L:atI ((tlD tl).map PyData.list) a=some (.list (u.map .int)):=ai2 (f:=PyData.list) (aff a0 (ahi o))
  have O:=y u (aA2 o)
  by_cases q1:1<=m a b
  ·by_cases q2:m a b<=d
   ·row_cond go
    refine adm (xs:=u) (f:=PyData.int) (fun p => .bool (decide (m p b=m a b - 1))) rfl (by omega) (fun p l W S=>?_) ?_
    ·have j:=g _ _ ((x p).mp l)
     have F:=ae6 (n:=n) (m:=m) j.1 j.2
     have J:=ajb (n:=n) (r:=m p) b0 b1
     row_cond go
     exact rfl
    ·row_cond go
     rw [show (u.map fun p=>PyData.bool (decide (m p b=m a b - 1)))=(u.map fun p=>decide (m p b=m a b - 1)).map .bool by rw [aD9];rfl]
     refine ax5 ?_
     row_cond go
     refine k _ ?_
     simp only [List.any_map,aF4,Function.comp,id,decide_eq_true_eq]
     constructor
     ·rintro ⟨p,l,e⟩
      exact ⟨fun z=>absurd z h,fun _=>⟨q1,q2,p,(x p).mp l,e⟩⟩
     ·rintro ⟨_,z⟩
      obtain ⟨_,_,p,l,e⟩:=z h
      exact ⟨p,(x p).mpr l,e⟩
   ·row_cond go
    refine k _ ⟨fun z=>(by cases z),fun z=>absurd (z.2 h).2.1 q2⟩
  ·row_cond go
   refine k _ ⟨fun z=>(by cases z),fun z=>absurd (z.2 h).1 q1⟩
theorem sc_far_shows:FnScope ["web","d","paper","n","tied"] ["web","d","paper"] (aai s_far_shows):=by row_cond sc
theorem aer (T:Txt K mg):Can P w K mg base "far_shows" 8 ["web","d","paper"] (spP K (ays)):=by
 obtain ⟨f,fd,D⟩:=T.d_far_shows
 refine D.can (D.fn.ok sc_far_shows (fun vs H Q E h=>lenP h fun ss W q=>by obtain ⟨n,d,es,p,rfl,X,G,j,l,U,S,O⟩:=q;rfl) (fun cdv A outer s H vs Q E I h=>?_))
 have nd:=sc_far_shows.nd
 refine ⟨_,(aac (abh (aae (afh T) I (aaa (pv 0) aab)))
  (aac (aan (i:=3) nd rfl (Or.inr rfl) (aas aat (pv 0) aad (fun _ _=>rfl)))
  (aac (abc (PW.pt (adi (aav aqd (pv 1) aad (aau _)) (adq (ach (acg (aae (alu T) I (aaa (pv 3) (aaa (pv 2) aab))))))))
   (aaf (aar abp))
   aa0)
  (aac (aan (i:=4) nd rfl (Or.inr rfl) (aae (ad1 T) I (aaa (pv 0) aab)))
  (aaf (aar (aah (aen rfl) (by rfl) T.b_all agl (aaa (ar3 rfl (N:=["a","b","tied","d","paper","n"]) (src:=[none,none,some 4,some 1,some 2,some 3]) (by exact aa8 rfl rfl rfl rfl rfl rfl) (abi rfl T.b_range (aaa (pv 3) aab)) (fun _ _ _ _=>(aak (i:=0) (show List.Nodup (["a","b","tied","d","paper","n"]:List Str) by decide +kernel) rfl (Or.inl rfl) (hf:=Or.inr rfl))) (fun _ _ _ _=>aba) (fun _ _ _ _=>(abi rfl T.b_range (aaa (pv 5) aab))) (fun _ _ _ _=>(aak (i:=1) (show List.Nodup (["a","b","tied","d","paper","n"]:List Str) by decide +kernel) rfl (Or.inl rfl) (hf:=Or.inr rfl))) (fun _ _ _ _=>aba) (fun _ _ _ _=>(aae (aih T) I (aaa (pv 2) (aaa (pv 3) (aaa (pv 4) (aaa (pv 0) (aaa (pv 1) aab)))))))) aab)))))))),?_⟩
 refine aa3 h fun ss W q B hK=>?_
 refine exS4 ss q fun n d es p g=>?_
 have X:=g.1
 have G:=g.2.1
 have j:=g.2.2.1
 have l:=g.2.2.2.1
 have U:=g.2.2.2.2.1
 have S:=g.2.2.2.2.2.1
 have O:=g.2.2.2.2.2.2
 clear g q
 show EvS B _ _ [some (.st (webD n es)),some (.st (.int d)),some (.st p),none,none]
 row_cond go
 refine ⟨n,es,rfl,X,G,j,l,U,?_⟩
 row_cond go
 have C:d < 0->W (.st (.bool false)):=fun hd=>by
  cases e:abu n p with
  | false=>exact S e
  | true =>
   obtain ⟨m,rfl⟩:=ak5 e
   exact O m rfl _ ⟨fun z=>(by cases z),fun z=>absurd z.1 (by omega)⟩
 by_cases hd:d < 0
 ·row_cond go
  exact C hd
 ·row_cond go
  refine ⟨n,_,rfl,G,?_⟩
  cases esq:abu n p with
  | false =>
   row_cond go
   exact S esq
  | true =>
  obtain ⟨m,rfl⟩:=ak5 esq
  have k:=O m rfl
  row_cond go
  refine ⟨n,es,rfl,by omega,G,j,l,fun tl ht Y=>abn ahh ?_⟩
  row_cond go
  have x:∃ c:Int->Int->Bool,∀ a b,c a b=true ↔ HoldsAt (Tied es) d m a b:=⟨fun a b=>@decide (HoldsAt (Tied es) d m a b) (Classical.propDecidable _),fun a b=>@decide_eq_true_iff _ (Classical.propDecidable _)⟩
  obtain ⟨c,x⟩:=x
  have L:∀ {a b:Int} {F:Bool},(F=true ↔ HoldsAt (Tied es) d m a b)->F=c a b:=fun {a b F} h=>by rw [aH9,h,x]
  unfold rngD
  refine anu (xs:=List.range n.toNat) (fun _=>List.range n.toNat) (fun v:Nat => .int (0+(v:Int))) (fun u v => .bool (c (u:Int) (v:Int))) (fun _ _=>true) (ak0 rfl) ?_ ?_ ?_ ?_
  ·rw [an5,aA3,List.length_flatMap]
   have Z:(List.range n.toNat).map (fun u:Nat=>((List.range n.toNat).map fun v:Nat=>c (u:Int) (v:Int)).length)=(List.range n.toNat).map fun _=>n.toNat:=aE9 fun u _=>by simp
   rw [Z,List.map_const',List.sum_replicate_nat,aE0]
   have h2:n.toNat * n.toNat<=100 * 100:=Nat.mul_le_mul (by omega) (by omega)
   omega
  ·intro u r B' hB o
   row_cond go
   exact rfl
  ·intro u r v R B' hB
   have M:(u:Int) < n:=by have:=aB9.mp r;omega
   have J:(v:Int) < n:=by have:=aB9.mp R;omega
   row_cond go
   intro _
   row_cond go
   refine ⟨n.toNat,Tied es,tl,d,m,0+(u:Int),0+(v:Int),rfl,by omega,by rw [show ((n.toNat:Nat):Int)=n by omega];exact ht,fun u v h=>by have:=(h.in j).2;omega,Y,by omega,by omega,by omega,by omega,fun F hb=>⟨?_,rfl⟩⟩
   rw [aI8,aI8] at hb
   rw [L hb]
  ·rw [an5]
   row_cond go
   refine afp ?_
   row_cond go
   refine k _ ?_
   simp only [aF5,List.mem_flatMap,aB7,aB9,id]
   constructor
   ·intro z
    refine ⟨by omega,fun a b a0 a1 b0 b1=>(x a b).mp (z _ ⟨a.toNat,by omega,b.toNat,by omega,?_⟩)⟩
    rw [show ((a.toNat:Nat):Int)=a by omega,show ((b.toNat:Nat):Int)=b by omega]
   ·rintro z y ⟨u,M,v,J,rfl⟩
    exact (x _ _).mpr (z.2 _ _ (by omega) (by omega) (by omega) (by omega))
end
section
variable {P:Program} {w:World} {K:Frag} {mg:Str->Option Value} {base:Heap}
theorem sc_far_paper:FnScope ["web"] ["web"] (aai s_far_paper):=by row_cond sc
theorem agc (T:Txt K mg):Can P w K mg base "far_paper" 9 ["web"] (spP K (ak3)):=by
 obtain ⟨f,fd,D⟩:=T.d_far_paper
 refine D.can (D.fn.ok sc_far_paper (fun vs H Q E h=>lenP h fun ss j q=>by obtain ⟨n,es,rfl,g,i,b,c,d,k⟩:=q;rfl) (fun cdv A outer s H vs Q E l h=>?_))
 have nd:=sc_far_paper.nd
 refine ⟨_,(aaf (aar (aae (ad2 T) l (aaa (pv 0) aab)))),?_⟩
 refine aa3 h fun ss j q B m=>?_
 refine exS2 ss q fun n es a=>?_
 have g:=a.1
 have i:=a.2.1
 have b:=a.2.2.1
 have c:=a.2.2.2.1
 have d:=a.2.2.2.2.1
 have k:=a.2.2.2.2.2
 clear a q
 show EvS B _ _ [some (.st (webD n es))]
 row_cond go
 exact ⟨n,es,rfl,g,i,b,c,d,k⟩
end
def acm (n:Int):PyData->Bool
 | .tuple [.int a,.int b]=>decide (0<=a/\a<=n - 1) && decide (0<=b/\b<=n - 1) && decide (a < b)
 | _=>false
def af5 (n:Int):PyData->Bool
 | .list ds=>ds.all (acm n)
 | _=>false
def a2h:VP:=fun ss Q=>∃ (n:Int) (d:PyData),ss=[.st (.int n),.st d]/\Q (.st (.bool (acm n d)))
def a1a:VP:=fun ss Q=>∃ (n:Int) (d:PyData),ss=[.st (.int n),.st d]/\(∀ ds,d=.list ds->ds.length<=100000)/\Q (.st (.bool (af5 n d)))
def avt:VP:=fun ss Q=>∃ (ps:List (Int × Int)),ss=[.st (.list (ps.map prD))]/\ps.length<=100000/\∀ b:Bool,(b=true ↔ Rise ps)->Q (.st (.bool b))
structure PutOk (n:Int) (es fs:List (Int × Int)):Prop where
 inn:∀ p∈fs,0<=p.1/\p.1 < p.2/\p.2 < n
 nd:(es ++ fs).Nodup
def a1b:VP:=fun ss Q=>∃ (n:Int) (es fs:List (Int × Int)),ss=[.st (webD n es),.st (.list (fs.map prD))]/\es.length<=10000/\fs.length<=10000/\PutOk n es fs/\∀ qs,Rise qs->qs.Perm (es ++ fs)->Q (.own (OW (.int n) (qs.map prD)))
section
variable {P:Program} {w:World} {K:Frag} {mg:Str->Option Value} {base:Heap}
theorem sc_is_tie:FnScope ["n","thing","a","b"] ["n","thing"] (aai s_is_tie):=by row_cond sc
theorem arc (T:Txt K mg):Can P w K mg base "is_tie" 4 ["n","thing"] (spP K (a2h)):=by
 obtain ⟨f,fd,D⟩:=T.d_is_tie
 refine D.can (D.fn.ok sc_is_tie (fun vs H Q E h=>lenP h fun ss m q=>by obtain ⟨n,d,rfl,k⟩:=q;rfl) (fun cdv A outer s H vs Q E l h=>?_))
 have nd:=sc_is_tie.nd
 refine ⟨_,(aac (abc (PW.pt (adi (ach (acg (aah ae2 (by rfl) T.b_isinstance acr (aaa (pv 1) (aaa (afl (v:=.ty "tuple") rfl T.b_tuple at6 rfl) aab))))) (adq (aav aet (aah aa9 (by rfl) T.b_len abw (aaa (pv 1) aab)) aad (aau _)))))
   (aaf (aar abp))
   aa0)
  (aac (adf (pv 1) (ade rfl (aa2 (aak (i:=2) nd rfl (Or.inl rfl)) (aa2 (aak (i:=3) nd rfl (Or.inl rfl)) acs))))
  (aaf (aar (adr (aae (ae5 T) l (aaa (pv 0) (aaa (pv 2) aab))) (adr (aae (ae5 T) l (aaa (pv 0) (aaa (pv 3) aab))) (aei (ab1 aqd (pv 2) (pv 3) (aau _))))))))),?_⟩
 refine aa3 h fun ss m q B o=>?_
 refine exS2 ss q fun n d g=>?_
 have k:=g
 clear g q
 show EvS B _ _ [some (.st (.int n)),some (.st d),none,none]
 row_cond go
 cases d with
 | tuple xs =>
  refine ajz ?_
  row_cond go
  rcases (show xs.length=2\/xs.length ≠ 2 by omega) with j | j
  ·match xs,j with
   | [x,y],_ =>
    row_cond go
    refine ⟨n,x,rfl,?_⟩
    row_cond go
    have c:acm n (.tuple [x,y])=(btwD 0 (n - 1) x && (btwD 0 (n - 1) y && match x,y with | .int a,.int b=>decide (a < b) | _,_=>false)):=by
     cases x <;> cases y <;> simp [acm,btwD,Bool.and_assoc]
    cases hx:btwD 0 (n - 1) x with
    | false =>
     rw [hx,Bool.false_and] at c
     refine acz ?_
     rw [← c];exact k
    | true =>
     refine acl ?_
     row_cond go
     refine ⟨n,y,rfl,?_⟩
     row_cond go
     cases hy:btwD 0 (n - 1) y with
     | false =>
      rw [hx,hy] at c
      refine acz ?_
      rw [show false=acm n (.tuple [x,y]) by rw [c];rfl];exact k
     | true =>
      refine acl ?_
      cases x with
      | int a =>
       cases y with
       | int b =>
        row_cond go
        rw [hx,hy] at c
        rw [show decide (a < b)=acm n (.tuple [.int a,.int b]) by rw [c];rfl];exact k
       | _=>simp [btwD] at hy
      | _=>simp [btwD] at hx
  ·row_cond go
   have:acm n (.tuple xs)=false:=by
    match xs,j with
    | [],_=>rfl
    | [x],_=>cases x <;> rfl
    | [_,_],h=>exact absurd rfl h
    | x :: y :: _ :: _,_=>cases x <;> cases y <;> rfl
   rw [← this];exact k
 | _ =>
  refine aj0 ?_
  row_cond go
  exact k
theorem sc_are_ties:FnScope ["n","thing"] ["n","thing"] (aai s_are_ties):=by row_cond sc
theorem an6 (T:Txt K mg):Can P w K mg base "are_ties" 5 ["n","thing"] (spP K (a1a)):=by
 obtain ⟨f,fd,D⟩:=T.d_are_ties
 refine D.can (D.fn.ok sc_are_ties (fun vs H Q E h=>lenP h fun ss c q=>by obtain ⟨n,d,rfl,b,k⟩:=q;rfl) (fun cdv A outer s H vs Q E g h=>?_))
 have nd:=sc_are_ties.nd
 refine ⟨_,(aaf (aar (adr (aah ae2 (by rfl) T.b_isinstance acr (aaa (pv 1) (aaa (afl (v:=.ty "list") rfl T.b_list ajt rfl) aab))) (aei (aah (aen rfl) (by rfl) T.b_all agl (aaa (ac9 rfl (N:=["tie","n"]) (src:=[none,some 0]) (by exact aa8 rfl rfl rfl rfl rfl rfl) (abe (pv 1)) (fun _ _ _ _=>(aak (i:=0) (show List.Nodup (["tie","n"]:List Str) by decide +kernel) rfl (Or.inl rfl) (hf:=Or.inr rfl))) (fun _ _ _ _=>aba) (fun _ _ _ _=>(aae (arc T) g (aaa (pv 1) (aaa (pv 0) aab))))) aab)))))),?_⟩
 refine aa3 h fun ss c q B j=>?_
 refine exS2 ss q fun n d a=>?_
 have b:=a.1
 have k:=a.2
 clear a q
 show EvS B _ _ [some (.st (.int n)),some (.st d)]
 row_cond go
 cases d with
 | list ds =>
  have b:=b ds rfl
  refine acl ?_
  row_cond go
  refine aj7 (fun t => .bool (acm n t)) rfl (by omega) (fun t _ m l=>?_) ?_
  ·row_cond go
   exact ⟨n,t,rfl,rfl,rfl⟩
  ·row_cond go
   rw [show (ds.map fun t=>PyData.bool (acm n t))=(ds.map (acm n)).map .bool by rw [aD9];rfl]
   refine afp ?_
   row_cond go
   rw [show (ds.map (acm n)).all id=af5 n (.list ds) by simp [af5,List.all_map]]
   exact k
 | _ =>
  refine acz ?_
  exact k
theorem sc_is_rising:FnScope ["things"] ["things"] (aai s_is_rising):=by row_cond sc
theorem alv (T:Txt K mg):Can P w K mg base "is_rising" 1 ["things"] (spP K (avt)):=by
 obtain ⟨f,fd,D⟩:=T.d_is_rising
 refine D.can (D.fn.ok sc_is_rising (fun vs H Q E h=>lenP h fun ss l q=>by obtain ⟨ps,rfl,m,k⟩:=q;rfl) (fun cdv A outer s H vs Q E n h=>?_))
 have nd:=sc_is_rising.nd
 refine ⟨_,(aaf (aar (aah (aen rfl) (by rfl) T.b_all agl (aaa (ac9 rfl (N:=["at","things"]) (src:=[none,some 0]) (by exact aa8 rfl rfl rfl rfl rfl rfl) (abi rfl T.b_range (aaa (aam ads (aah aa9 (by rfl) T.b_len abw (aaa (pv 0) aab)) aad) aab)) (fun _ _ _ _=>(aak (i:=0) (show List.Nodup (["at","things"]:List Str) by decide +kernel) rfl (Or.inl rfl) (hf:=Or.inr rfl))) (fun _ _ _ _=>aba) (fun _ _ _ _=>(ab1 (show OpR _ (compareOp .Lt) (rLtT K) from azj n.units0) (aas (show IxR _ (adj K) from aat) (pv 1) (pv 0) (fun _ _=>rfl)) (aas (show IxR _ (adj K) from aat) (pv 1) (aam abg (pv 0) aad) (fun _ _=>rfl)) (aau _)))) aab)))),?_⟩
 refine aa3 h fun ss l q B o=>?_
 refine exS1 ss q fun ps a=>?_
 have m:=a.1
 have k:=a.2
 clear a q
 show EvS B _ _ [some (.st (.list (ps.map prD)))]
 row_cond go
 rw [aA3]
 row_cond go
 refine aj7 (fun d=>match d with | .int i => .bool (match ps[i.toNat]?,ps[i.toNat+1]? with | some p,some q=>HT.lexLt (p2 p) (p2 q) | _,_=>false) | _ => .none) rfl (by rw [act];omega) (fun d hd v r=>?_) ?_
 ·obtain ⟨i,hi⟩:=List.mem_iff_getElem?.mp hd
  obtain ⟨hi,rfl⟩:=afw hi
  have c:i < ps.length:=by omega
  have j:i+1 < ps.length:=by omega
  have a1:atI (ps.map prD) (0+(i:Int))=some (prD ps[i]):=ai2 (f:=prD) (aff (by omega) (by rw [show (0+(i:Int)).toNat=i by omega];exact aA0 c))
  have u:atI (ps.map prD) (0+(i:Int)+1)=some (prD ps[i+1]):=ai2 (f:=prD) (aff (by omega) (by rw [show (0+(i:Int)+1).toNat=i+1 by omega];exact aA0 j))
  row_cond go
  refine aya ?_
  row_cond go
  refine ⟨?_,rfl⟩
  simp [c,j]
 ·row_cond go
  have e:(rngD 0 ((ps.length:Int) - 1).toNat).map (fun d=>match d with | .int i=>PyData.bool (match ps[i.toNat]?,ps[i.toNat+1]? with | some p,some q=>HT.lexLt (p2 p) (p2 q) | _,_=>false) | _ => .none)=((List.range (ps.length - 1)).map fun i=>match ps[i]?,ps[i+1]? with | some p,some q=>HT.lexLt (p2 p) (p2 q) | _,_=>false).map .bool:=by
   unfold rngD
   rw [aD9,aD9,show ((ps.length:Int) - 1).toNat=ps.length - 1 by omega]
   apply aE9
   intro i _
   simp
  rw [e]
  refine afp ?_
  row_cond go
  refine k _ ?_
  rw [List.all_map,aF5]
  unfold Rise
  rw [ant ltP (fun h g=>as4 h g)]
  constructor
  ·intro h i hi
   have:=h i (aB9.mpr (by omega))
   simp [show i < ps.length by omega,hi] at this
   exact (lex2 _ _).mp this
  ·intro h i hi
   have b:i+1 < ps.length:=by have:=aB9.mp hi;omega
   have:=(lex2 _ _).mpr (h i b)
   simp [show i < ps.length by omega,b,this]
theorem sc_with_ties:FnScope ["web","ties","n","there","every"] ["web","ties"] (aai s_with_ties):=by row_cond sc
theorem aes (T:Txt K mg):Can P w K mg base "with_ties" 6 ["web","ties"] (spP K (a1b)):=by
 obtain ⟨f,fd,D⟩:=T.d_with_ties
 refine D.can (D.fn.ok sc_with_ties (fun vs H Q E h=>lenP h fun ss o q=>by obtain ⟨n,es,fs,rfl,l,r,g,k⟩:=q;rfl) (fun cdv A outer s H vs Q E d h=>?_))
 have nd:=sc_with_ties.nd
 refine ⟨_,(aac (adf (pv 0) (ade rfl (aa2 (aak (i:=2) nd rfl (Or.inl rfl)) (aa2 (aak (i:=3) nd rfl (Or.inl rfl)) acs))))
  (aac (abc (ach (acg (aae (an6 T) d (aaa (pv 2) (aaa (pv 1) aab)))))
   (aaf aey)
   aa0)
  (aac (aan (i:=4) nd rfl (Or.inl rfl) (aah aqv (by rfl) T.b_sorted agk (aaa (aam azm (pv 3) (pv 1)) aab)))
  (aac (abc (ach (acg (aae (alv T) d (aaa (pv 4) aab))))
   (aaf aey)
   aa0)
  (aaf (aar (ab3 (aaa (pv 2) (aaa (pv 4) aab))))))))),?_⟩
 refine aa3 h fun ss o q B u=>?_
 refine exS3 ss q fun n es fs a=>?_
 have l:=a.1
 have r:=a.2.1
 have g:=a.2.2.1
 have k:=a.2.2.2
 clear a q
 show EvS B _ _ [some (.st (webD n es)),some (.st (.list (fs.map prD))),none,none,none]
 row_cond go
 refine ⟨n,_,rfl,fun ds e=>by cases e;rw [aA3];omega,?_⟩
 row_cond go
 have m:af5 n (.list (fs.map prD))=true:=by
  show ((fs.map prD).all (acm n))=true
  rw [List.all_map,aF5]
  intro p c
  have:=g.inn p c
  simp [acm,prD];omega
 rw [m]
 row_cond go
 refine as6 (ps:=es ++ fs) ?_
 row_cond go
 rw [← aE3]
 refine ⟨rfl,fun j c hs=>?_⟩
 have d:Rise j:=apy c g.nd hs
 refine aaz ?_
 dsimp only [List.set_cons_zero,List.set_cons_succ]
 try refine' apl (by assumption) ?_
 refine api (ase (aph (afv (avf (.inl rfl) (ape ⟨_,_,.inl rfl,ab9,j,rfl,by rw [c.length_eq,aB1];omega,fun b hb=>?_⟩)))))
 row_cond go
 rw [hb.mpr d]
 row_cond go
 exact k j d c
end
def atk:VP:=fun ss Q=>∃ (a b c:Int),ss=[.st (.int a),.st (.int b),.st (.int c)]/\a<=c/\c<=b/\Q (.st .none)
section
variable {P:Program} {w:World} {K:Frag} {mg:Str->Option Value} {base:Heap}
theorem sc_need_number:FnScope ["least","most","thing"] ["least","most","thing"] (aai s_need_number):=by row_cond sc
theorem ajc (T:Txt K mg):Can P w K mg base "need_number" 3 ["least","most","thing"] (spP K (atk)):=by
 obtain ⟨f,fd,D⟩:=T.d_need_number
 refine D.can (D.fn.ok sc_need_number (fun vs H Q E h=>lenP h fun ss j q=>by obtain ⟨a,b,c,rfl,g,i,k⟩:=q;rfl) (fun cdv A outer s H vs Q E l h=>?_))
 have nd:=sc_need_number.nd
 refine ⟨_,(aaf (abc (ach (acg (aae (afq T) l (aaa (pv 0) (aaa (pv 1) (aaa (pv 2) aab))))))
   (aaf aey)
   aa0)),?_⟩
 refine aa3 h fun ss j q B m=>?_
 refine exS3 ss q fun a b c d=>?_
 have g:=d.1
 have i:=d.2.1
 have k:=d.2.2
 clear d q
 show EvS B _ _ [some (.st (.int a)),some (.st (.int b)),some (.st (.int c))]
 row_cond go
 refine ⟨a,b,.int c,rfl,?_⟩
 have:btwD a b (.int c)=true:=by simp [btwD];omega
 rw [this]
 row_cond go
 exact k
end
def abd (n:Nat) (r:Int->Int):List Int:=(List.range n).map fun (i:Nat)=>r (i:Int)
theorem af6 {n:Nat} {r:Int->Int}:rowD n r=(abd n r).map .int:=ae7
theorem an7 (n:Nat) (r:Int->Int):(abd n r).length=n:=by simp [abd]
theorem aea {n:Nat} (hn:1<=n) (r:Int->Int):abd n r ≠ []:=fun e=>by have:=an7 n r;rw [e] at this;simp at this;omega
def mxF (n:Nat) (r:Int->Int):Int:=open Classical in if h:∃ x,aed (abd n r) x then Classical.choose h else 0
theorem ad4 {n:Nat} (hn:1<=n) (r:Int->Int):aed (abd n r) (mxF n r):=by
 unfold mxF
 have h:=ahm (aea hn r)
 rw [dif_pos h]
 exact Classical.choose_spec h
theorem an8:∀ {l:List Int} {x:Int},x∈l->∃ j:Nat,l[j]?=some x/\∀ m,m < j->l[m]? ≠ some x
 | a :: l,x,h=>by
  by_cases e:a=x
  ·subst e;exact ⟨0,rfl,fun m hm=>by omega⟩
  ·obtain ⟨j,b,c⟩:=an8 (l:=l) (x:=x) (by rcases aA9.mp h with q | q;exact absurd q.symm e;exact q)
   refine ⟨j+1,by simpa using b,fun m hm=>?_⟩
   cases m with
   | zero=>simpa using e
   | succ m=>simpa using c m (by omega)
def ixF (n:Nat) (r:Int->Int):Nat:=open Classical in if h:∃ j:Nat,(abd n r)[j]?=some (mxF n r)/\∀ m,m < j->(abd n r)[m]? ≠ some (mxF n r) then Classical.choose h else 0
theorem ajd {n:Nat} (hn:1<=n) (r:Int->Int):(abd n r)[ixF n r]?=some (mxF n r)/\∀ m,m < ixF n r->(abd n r)[m]? ≠ some (mxF n r):=by
 unfold ixF
 have h:=an8 (ad4 hn r).1
 rw [dif_pos h]
 exact Classical.choose_spec h
theorem an9 {n:Nat} (hn:1<=n) (r:Int->Int):ixF n r < n:=by
 have:=(aA1.mp (ajd hn r).1).1
 rwa [an7] at this
def nxF (m:Int->Int->Int) (r:Int->Int) (h:Int):Int->Int:=fun y=>if m h y < r y then m h y else r y
def hubN (n:Nat) (m:Int->Int->Int):Nat->List Int × (Int->Int)
 | 0=>([0],m 0)
 | j+1=>open Classical in if 0 < mxF n (hubN n m j).2 then ((hubN n m j).1 ++ [(ixF n (hubN n m j).2:Int)],nxF m (hubN n m j).2 (ixF n (hubN n m j).2:Int)) else hubN n m j
theorem aje {n:Nat} {m:Int->Int->Int} {j:Nat} {hs:List Int} {r:Int->Int} (e:hubN n m j=(hs,r)) (h:0 < mxF n r):hubN n m (j+1)=(hs ++ [(ixF n r:Int)],nxF m r (ixF n r:Int)):=by
 show (if 0 < mxF n (hubN n m j).2 then _ else _)=_
 rw [e,aF6 h]
theorem ajf {n:Nat} {m:Int->Int->Int} {j:Nat} {hs:List Int} {r:Int->Int} (e:hubN n m j=(hs,r)) (h:¬ 0 < mxF n r):hubN n m (j+1)=(hs,r):=by
 show (if 0 < mxF n (hubN n m j).2 then _ else _)=_
 rw [e,aF7 h]
theorem aii {n:Nat} {m:Int->Int->Int} {j:Nat} {hs:List Int} {r:Int->Int} (e:hubN n m j=(hs,r)) (h:¬ 0 < mxF n r):∀ i,hubN n m (j+i)=(hs,r)
 | 0=>e
 | i+1=>ajf (aii e h i) h
def hubO (n:Int) (es:List (Int × Int)) (k:Int):Own:=OW (.int (mxF n.toNat (hubN n.toNat (dsF es) k.toNat).2)) ((hubN n.toNat (dsF es) k.toNat).1.map .int)
theorem aeb {n:Int} {es:List (Int × Int)} {k:Int} {hs:List Int} {r:Int->Int} (e:hubN n.toNat (dsF es) k.toNat=(hs,r)):hubO n es k=OW (.int (mxF n.toNat r)) (hs.map .int):=by unfold hubO;rw [e]
def a1c:VP:=fun ss Q=>∃ (n:Int) (es:List (Int × Int)) (k:Int),ss=[.st (webD n es),.st (.int k)]/\1<=n/\n<=100/\InN n es/\es.length<=10000/\Joined n es/\0<=k/\k<=20/\Q (.own (hubO n es k))
theorem avu {n:Nat} {r q:Int->Int}:zipD ((abd n r).map .int) (rowD n q)=(List.range n).map fun (i:Nat) => .tuple [.int (r (i:Int)),.int (q (i:Int))]:=by rw [← af6,avq]
theorem avv (n:Nat) (r:Int->Int):(List.range n).map (fun i:Nat=>PyData.int (r (i:Int)))=(abd n r).map .int:=by unfold abd;rw [aD9];rfl
section
variable {P:Program} {w:World} {K:Frag} {mg:Str->Option Value} {base:Heap}
theorem sc_hubs_for:FnScope ["web","k","rows","hubs","near","hub"] ["web","k"] (aai s_hubs_for):=by row_cond sc
theorem acn (T:Txt K mg):Can P w K mg base "hubs_for" 9 ["web","k"] (spP K (a1c)):=by
 obtain ⟨f,fd,D⟩:=T.d_hubs_for
 obtain ⟨c,b⟩:=T.v_MOST_HUB_TIES
 refine D.can (D.fn.ok sc_hubs_for (fun vs H Q E h=>lenP h fun ss Y q=>by obtain ⟨n,es,k,rfl,M,S,g,u,L,U,X,G⟩:=q;rfl) (fun cdv A outer s H vs Q E W h=>?_))
 have nd:=sc_hubs_for.nd
 refine ⟨_,(aac (aan (i:=2) nd rfl (Or.inl rfl) (aae (ad2 T) W (aaa (pv 0) aab)))
  (aac (abh (aae (ajc T) W (aaa aad (aaa (aww (v:=.int 20) rfl b ⟨_,rfl⟩) (aaa (pv 1) aab)))))
  (aac (aan (i:=3) nd rfl (Or.inl rfl) (abv (aaa aad aab)))
  (aac (aan (i:=4) nd rfl (Or.inl rfl) (aas aat (pv 2) aad (fun _ _=>rfl)))
  (aac (ah2 aJ9 (PW.pt (ame (aav afr (aah aa9 (by rfl) T.b_len abw (aaa (pv 3) aab)) (pv 1) (aau _)) (aji (aav afa (aah (ab0 rfl) (by rfl) T.b_max acj (aaa (pv 4) aab)) aad (aau _)))))
   (aac (aan (i:=5) nd rfl (Or.inl rfl) (aco PySem.F.plainAttrs_list PySem.F.slot_list_index PySem.F.type_list_index aie (pv 4) (aaa (aah (ab0 rfl) (by rfl) T.b_max acj (aaa (pv 4) aab)) aab)))
    (aac (abh (aco PySem.F.plainAttrs_list PySem.F.slot_list_append PySem.F.type_list_append abr (pv 3) (aaa (pv 5) aab)))
    (aaf (ae0 (i:=4) nd rfl (Or.inl rfl) rfl (N:=["far","other"]) (src:=[none,none]) (by exact aa8 rfl rfl rfl rfl rfl rfl) (a0s rfl T.b_zip (aaa (pv 4) (aaa (aas aat (pv 2) (pv 5) (fun _ _=>rfl)) aab))) (fun _ _ _ _=>(show PG _ _ (gTup K 2 (ae8 (aa1 0) (ae8 (aa1 1) gNil))) from (ade rfl (aa2 (aak (i:=0) (show List.Nodup (["far","other"]:List Str) by decide +kernel) rfl (Or.inl rfl) (hf:=Or.inr rfl)) (aa2 (aak (i:=1) (show List.Nodup (["far","other"]:List Str) by decide +kernel) rfl (Or.inl rfl) (hf:=Or.inr rfl)) acs))))) (fun _ _ _ _=>aba) (fun _ _ _ _=>(aah (ada rfl) (by rfl) T.b_min aek (aaa (pv 0) (aaa (pv 1) aab)))))))))
  (aaf (aar (ab3 (aaa (aah (ab0 rfl) (by rfl) T.b_max acj (aaa (pv 4) aab)) (aaa (pv 3) aab)))))))))),?_⟩
 refine aa3 h fun ss Y q B hK=>?_
 refine exS3 ss q fun n es k a=>?_
 have M:=a.1
 have S:=a.2.1
 have g:=a.2.2.1
 have u:=a.2.2.2.1
 have L:=a.2.2.2.2.1
 have U:=a.2.2.2.2.2.1
 have X:=a.2.2.2.2.2.2.1
 have G:=a.2.2.2.2.2.2.2
 clear a q
 show EvS B _ _ [some (.st (webD n es)),some (.st (.int k)),none,none,none,none]
 have hn:1<=n.toNat:=by omega
 have O:=ae6 (n:=n.toNat) (m:=dsF es) (x:=0) (by omega) (by omega)
 row_cond go
 refine ⟨n,es,rfl,M,S,g,u,L,abn ab9 ?_⟩
 row_cond go
 refine ⟨0,20,k,rfl,U,X,?_⟩
 row_cond go
 rw [af6]
 refine agu (fun J e=>∃ C j hs r,e=[some (.st (webD n es)),some (.st (.int k)),some (.st (.list (matD n.toNat (dsF es)))),some (.own (OL (List.map PyData.int hs))),some (.st (.list ((abd n.toNat r).map .int))),C]/\hubN n.toNat (dsF es) j=(hs,r)/\hs.length=j+1/\(j:Int)<=k/\J=k.toNat - j) ⟨_,_,0,[0],dsF es 0,rfl,rfl,rfl,by omega,rfl⟩ ?_
 rintro J e p
 refine exS4 e p fun C j hs r a=>?_
 have y:=a.1
 have Z:=a.2.1
 have hj:=a.2.2.1
 have I:=a.2.2.2
 clear a p
 subst I
 have d:=ad4 hn r
 have l:=ajd hn r
 have a0:=an9 hn r
 have a1:=ae6 (n:=n.toNat) (m:=dsF es) (x:=(ixF n.toNat r:Int)) (by omega) (by omega)
 row_cond go
 rw [aA3]
 refine' cutR (R:=hubN n.toNat (dsF es) k.toNat=(hs,r)->EvS B ?c1 ?d1 [some (.st (webD n es)),some (.st (.int k)),some (.st (.list (matD n.toNat (dsF es)))),some (.own (OL (List.map PyData.int hs))),some (.st (.list ((abd n.toNat r).map .int))),C]) (fun R=>?K1) ?K2
 case K1 =>
  refine adg (fun h=>?_) (fun h=>?_)
  ·row_cond go
   refine acd (aea hn r) fun x o=>?_
   obtain rfl:=acp o d
   row_cond go
   refine adg (fun h=>?_) (fun h=>?_)
   ·row_cond go
    refine ⟨abd n.toNat r,rfl,?_⟩
    row_cond go
    refine acd (aea hn r) fun x o=>?_
    obtain rfl:=acp o d
    refine ⟨mxF n.toNat r,ixF n.toNat r,rfl,l.1,l.2,?_⟩
    row_cond go
    rw [avu]
    refine anj (xs:=List.range n.toNat) (fa:=fun i:Nat => .int (r (i:Int))) (fb:=fun i:Nat => .int (dsF es (ixF n.toNat r:Int) (i:Int))) (fun i:Nat => .int (nxF (dsF es) r (ixF n.toNat r:Int) (i:Int))) (fun _=>true) rfl (by simp;omega) (fun i hi B' hB=>?_) ?_
    ·refine ad7 ⟨rfl,rfl,fun _=>?_⟩
     row_cond go
     exact rfl
    ·rw [af0,avv]
     refine abn ab9 ?_
     row_cond go
     exact ⟨k.toNat - (j+1),by omega,_,j+1,hs ++ [(ixF n.toNat r:Int)],nxF (dsF es) r (ixF n.toNat r:Int),by rw [aE3];rfl,aje y h,by simp [Z],by omega,rfl⟩
   ·exact R (by have:=aii y h (k.toNat - j);rwa [show j+(k.toNat - j)=k.toNat by omega] at this)
  ·refine acz ?_
   exact R (by rw [show k.toNat=j by omega];exact y)
 case K2 =>
  intro z
  row_cond go
  refine acd (aea hn r) fun x o=>?_
  obtain rfl:=acp o d
  refine ⟨_,rfl,?_⟩
  rw [aeb z] at G
  exact G
end
structure FarOk (n:Int) (es:List (Int × Int)) (x a b:Int):Prop where
 top:awr n.toNat (dsF es) x
 a0:0<=a
 a1:a < n
 b0:0<=b
 b1:b < n
 eq:dsF es a b=x
 fst:∀ u v:Int,0<=u->u < n->0<=v->v < n->dsF es u v=x->a < u\/(a=u/\b<=v)
def ard:VP:=fun ss Q=>∃ (n:Int) (es:List (Int × Int)),ss=[.st (webD n es)]/\1<=n/\n<=100/\InN n es/\es.length<=10000/\Joined n es/\∀ x a b,FarOk n es x a b->Q (.st (.tuple [.int x,.int a,.int b]))
theorem aoa {ns:List Int} {k:Int} (h:k∈ns):∃ j:Nat,ns[j]?=some k/\∀ m:Nat,m < j->ns[m]? ≠ some k:=by
 induction ns with
 | nil=>simp at h
 | cons n ns ih =>
  by_cases e:n=k
  ·exact ⟨0,by rw [e];rfl,fun m hm=>by omega⟩
  ·obtain ⟨j,a,b⟩:=ih ((aA9.mp h).resolve_left fun z=>e z.symm)
   refine ⟨j+1,a,fun m hm=>?_⟩
   cases m with
   | zero=>simpa using e
   | succ m=>exact b m (by omega)
section
variable {P:Program} {w:World} {K:Frag} {mg:Str->Option Value} {base:Heap}
theorem sc_farthest_two:FnScope ["web","rows","far","a"] ["web"] (aai s_farthest_two):=by row_cond sc
theorem ab4 (T:Txt K mg):Can P w K mg base "farthest_two" 9 ["web"] (spP K (ard)):=by
 obtain ⟨f,fd,D⟩:=T.d_farthest_two
 refine D.can (D.fn.ok sc_farthest_two (fun vs H Q E h=>lenP h fun ss Q' q=>by obtain ⟨n,es,rfl,X,Y,l,r,W,k⟩:=q;rfl) (fun cdv A outer s H vs Q E hr h=>?_))
 have nd:=sc_farthest_two.nd
 refine ⟨_,(aac (aan (i:=1) nd rfl (Or.inl rfl) (aae (ad2 T) hr (aaa (pv 0) aab)))
  (aac (aan (i:=2) nd rfl (Or.inl rfl) (aae (an4 T) hr (aaa (pv 1) aab)))
  (aac (aan (i:=3) nd rfl (Or.inl rfl) (aco PySem.F.plainAttrs_list PySem.F.slot_list_index PySem.F.type_list_index aie (ac9 rfl (N:=["row"]) (src:=[none]) (by exact aa8 rfl rfl rfl rfl rfl rfl) (abe (pv 1)) (fun _ _ _ _=>(aak (i:=0) (show List.Nodup (["row"]:List Str) by decide +kernel) rfl (Or.inl rfl) (hf:=Or.inr rfl))) (fun _ _ _ _=>aba) (fun _ _ _ _=>(aah (show aa5 _ (.builtin "max") (aha K) from (ab0 rfl)) (by rfl) T.b_max acj (aaa (pv 0) aab)))) (aaa (pv 2) aab)))
  (aaf (aar (ab3 (aaa (pv 2) (aaa (pv 3) (aaa (aco PySem.F.plainAttrs_list PySem.F.slot_list_index PySem.F.type_list_index aie (aas aat (pv 1) (pv 3) (fun _ _=>rfl)) (aaa (pv 2) aab)) aab))))))))),?_⟩
 refine aa3 h fun ss Q' q B hK=>?_
 refine exS2 ss q fun n es c=>?_
 have X:=c.1
 have Y:=c.2.1
 have l:=c.2.2.1
 have r:=c.2.2.2.1
 have W:=c.2.2.2.2.1
 have k:=c.2.2.2.2.2
 clear c q
 show EvS B _ _ [some (.st (webD n es)),none,none,none]
 have hn:1<=n.toNat:=by omega
 obtain ⟨y,d⟩:=akf hn (dsF es)
 row_cond go
 refine ⟨n,es,rfl,X,Y,l,r,W,abn ab9 ?_⟩
 row_cond go
 refine ⟨n.toNat,dsF es,rfl,hn,by omega,fun x p=>?_⟩
 have R:x∈(List.range n.toNat).map y:=by
  obtain ⟨⟨u,v,S,u1,v0,v1,e⟩,g⟩:=p
  refine aB7.mpr ⟨u.toNat,aB9.mpr (by omega),?_⟩
  have C:=(d u.toNat).2 (dsF es ((u.toNat:Nat):Int) ((v.toNat:Nat):Int)) (aB7.mpr ⟨v.toNat,aB9.mpr (by omega),rfl⟩)
  rw [show ((u.toNat:Nat):Int)=u by omega,show ((v.toNat:Nat):Int)=v by omega,e] at C
  obtain ⟨j,z,M⟩:=aB7.mp (d u.toNat).1
  have:=g u j S u1 (by omega) (by have:=aB9.mp z;omega)
  rw [show ((u.toNat:Nat):Int)=u by omega] at M
  omega
 obtain ⟨a,ha,m⟩:=aoa R
 have G:a < n.toNat:=by have:=(aA1.mp ha).1;simpa using this
 have L:y a=x:=by
  rw [aA5,aD8 G] at ha
  simpa using ha
 have J:x∈(List.range n.toNat).map fun (i:Nat)=>dsF es (a:Int) (i:Int):=by rw [← L];exact (d a).1
 obtain ⟨b,hb,o⟩:=aoa J
 have O:b < n.toNat:=by have:=(aA1.mp hb).1;simpa using this
 have U:dsF es (a:Int) (b:Int)=x:=by
  rw [aA5,aD8 O] at hb
  simpa using hb
 have Z:atI (matD n.toNat (dsF es)) (a:Int)=some (.list (rowD n.toNat (dsF es (a:Int)))):=ae6 (by omega) (by omega)
 row_cond go
 unfold matD
 refine adm (fun u:Nat => .int (y u)) rfl (by simp;omega) (fun u hu B' hB=>?_) ?_
 ·row_cond go
  rw [ae7]
  exact acd (by simp;omega) fun x p=>⟨by rw [acp p (d u)],rfl⟩
 ·refine ⟨(List.range n.toNat).map y,by rw [aD9];rfl,?_⟩
  row_cond go
  refine ⟨x,a,rfl,ha,m,?_⟩
  row_cond go
  refine ⟨(List.range n.toNat).map fun (i:Nat)=>dsF es (a:Int) (i:Int),by rw [ae7],?_⟩
  row_cond go
  refine ⟨x,b,rfl,hb,o,?_⟩
  row_cond go
  refine k x a b ⟨p,by omega,by omega,by omega,by omega,U,fun u v S u1 v0 v1 e=>?_⟩
  have hu:(a:Int)<=u:=by
   apply aD4
   intro I
   refine m u.toNat (by omega) ?_
   rw [aA5,aD8 (by omega)]
   have C:=(d u.toNat).2 (dsF es ((u.toNat:Nat):Int) ((v.toNat:Nat):Int)) (aB7.mpr ⟨v.toNat,aB9.mpr (by omega),rfl⟩)
   rw [show ((u.toNat:Nat):Int)=u by omega,show ((v.toNat:Nat):Int)=v by omega,e] at C
   obtain ⟨j,z,M⟩:=aB7.mp (d u.toNat).1
   have:=p.2 u j S (by omega) (by omega) (by have:=aB9.mp z;omega)
   rw [show ((u.toNat:Nat):Int)=u by omega] at M
   simp only [aI2,Option.some.injEq]
   omega
  by_cases hau:(a:Int) < u
  ·exact .inl hau
  ·refine .inr ⟨by omega,?_⟩
   apply aD4
   intro I
   refine o v.toNat (by omega) ?_
   rw [aA5,aD8 (by omega)]
   simp only [aI2,Option.some.injEq]
   rw [show ((v.toNat:Nat):Int)=v by omega,show (a:Int)=u by omega]
   exact e
end
structure HubI (n:Nat) (j:Nat) (hs:List Int) (r:Int->Int):Prop where
 nd:hs.Nodup
 mem:∀ y∈hs,0<=y/\y < n/\r y=0
 hd:∃ rest,hs=0 :: rest
 len:hs.length<=j+1
theorem adc {n:Nat} {m:Int->Int->Int} (hn:1<=n) (l:∀ u v,0<=m u v) (f:∀ u,m u u=0):∀ (j:Nat) {hs:List Int} {r:Int->Int},hubN n m j=(hs,r)->HubI n j hs r
 | 0,hs,r,e=>by
  cases e
  exact ⟨by simp,fun y c=>by cases aC2.mp c;exact ⟨by omega,by omega,f 0⟩,⟨[],rfl⟩,by simp⟩
 | j+1,hs,r,e=>by
  obtain ⟨b,a,d⟩:∃ b a,hubN n m j=(b,a):=⟨_,_,rfl⟩
  have h:=adc hn l f j d
  by_cases hp:0 < mxF n a
  ·rw [aje d hp] at e
   cases e
   have hi:=an9 hn a
   have s:a (ixF n a:Int)=mxF n a:=by
    have:=(ajd hn a).1
    unfold abd at this
    rw [aA5,aD8 hi] at this
    exact aC6 this
   have g:(ixF n a:Int) ∉ b:=fun z=>by have:=(h.mem _ z).2.2;omega
   obtain ⟨rest,p⟩:=h.hd
   refine ⟨aE7.mpr ⟨h.nd,by simp,fun x o y c e=>?_⟩,fun y c=>?_,⟨rest ++ [(ixF n a:Int)],by rw [p];rfl⟩,by have:=h.len;simp;omega⟩
   ·rw [aC2.mp c] at e;exact g (e ▸ o)
   ·rcases aA7.mp c with q | q
    ·have:=h.mem y q
     refine ⟨this.1,this.2.1,?_⟩
     have i:=l (ixF n a:Int) y
     unfold nxF
     rw [aF7 (by omega)]
     exact this.2.2
    ·cases aC2.mp q
     refine ⟨by omega,by omega,?_⟩
     unfold nxF
     have i:=f (ixF n a:Int)
     rw [aF6 (by omega)]
     exact i
  ·rw [ajf d hp] at e
   cases e
   exact ⟨h.nd,h.mem,h.hd,by have:=h.len;omega⟩
theorem afi (es:List (Int × Int)) (u v:Int):0<=dsF es u v:=by unfold dsF;omega
theorem ado (es:List (Int × Int)) (u:Int):dsF es u u=0:=by unfold dsF;rw [Gr.farO_self];rfl
def ajg (n:Int) (es:List (Int × Int)) (k:Int) (ts:List (Int × Int)):Prop:=∃ rest qs:List Int,(hubN n.toNat (dsF es) k.toNat).1=0 :: rest/\qs.Perm rest/\qs.Pairwise (·<=·)/\ts=(qs.filter fun h => !decide ((0,h)∈es)).map fun h=>(0,h)
def atl:VP:=fun ss Q=>∃ (n:Int) (es:List (Int × Int)) (k:Int),ss=[.st (webD n es),.st (.int k)]/\1<=n/\n<=100/\InN n es/\es.length<=5000/\es.Nodup/\Joined n es/\0<=k/\k<=20/\∀ ts qs x a b,ajg n es k ts->PutOk n es ts->Rise qs->qs.Perm (es ++ ts)->FarOk n qs x a b->Q (.st (.tuple [.list (ts.map prD),.int x]))
theorem aep {n:Int} {es d b:List (Int × Int)} (c:Joined n es) (f:0 < n) (a:b.Perm (es ++ d)):Joined n b:=Conn.joined (c.conn.mono fun u v t=>t.imp (fun z=>a.mem_iff.mpr (aA7.mpr (.inl z))) (fun z=>a.mem_iff.mpr (aA7.mpr (.inl z)))) f
theorem aob {n:Int} {es i:List (Int × Int)} {k:Int} (hn:1<=n) (nd:es.Nodup) (h:ajg n es k i):PutOk n es i/\i.length<=k.toNat:=by
 obtain ⟨rest,m,e,j,_,rfl⟩:=h
 obtain ⟨hs,r,l⟩:∃ hs r,hubN n.toNat (dsF es) k.toNat=(hs,r):=⟨_,_,rfl⟩
 have c:=adc (n:=n.toNat) (by omega) (afi es) (ado es) k.toNat l
 rw [l] at e
 simp only at e
 subst e
 have d:rest.Nodup:=(aI5.mp c.nd).2
 have A:(0:Int) ∉ rest:=(aI5.mp c.nd).1
 have s:m.Nodup:=j.nodup_iff.mpr d
 refine ⟨⟨fun p f=>?_,aE7.mpr ⟨nd,?_,fun x u y v e=>?_⟩⟩,?_⟩
 ·obtain ⟨h,hh,rfl⟩:=aB7.mp f
  have o:h∈rest:=j.mem_iff.mp (aE1.mp hh).1
  have:=c.mem h (aB5 _ o)
  have q:h ≠ 0:=fun z=>A (z ▸ o)
  exact ⟨by simp,by simp only;omega,by simp only;omega⟩
 ·refine (List.Pairwise.filter _ s).map _ fun a b g e=>g (by simpa using e)
 ·subst e
  obtain ⟨h,hh,rfl⟩:=aB7.mp v
  have:=(aE1.mp hh).2
  simp only [Bool.not_eq_true',decide_eq_false_iff_not] at this
  exact this u
 ·rw [aA3]
  have B:=aF3 (fun h => !decide ((0,h)∈es)) m
  have C:=j.length_eq
  have w:=c.len
  simp at w
  omega
section
variable {P:Program} {w:World} {K:Frag} {mg:Str->Option Value} {base:Heap}
theorem sc_hub_ties:FnScope ["web","k","first","others","ties"] ["web","k"] (aai s_hub_ties):=by row_cond sc
theorem ag1 (T:Txt K mg):Can P w K mg base "hub_ties" 10 ["web","k"] (spP K (atl)):=by
 obtain ⟨f,fd,D⟩:=T.d_hub_ties
 refine D.can (D.fn.ok sc_hub_ties (fun vs H Q E h=>lenP h fun ss X q=>by obtain ⟨n,es,k,rfl,u,G,g,F,m,v,O,S,L⟩:=q;rfl) (fun cdv A outer s H vs Q E l h=>?_))
 have nd:=sc_hub_ties.nd
 refine ⟨_,(aac (adf (aas aat (aae (acn T) l (aaa (pv 0) (aaa (pv 1) aab))) aad (fun _ _=>rfl)) (ayf rfl (aak (i:=2) nd rfl (Or.inr rfl)) (aak (i:=3) nd rfl (Or.inl rfl))))
  (aac (ae0 (i:=4) nd rfl (Or.inl rfl) rfl (N:=["hub","first","web"]) (src:=[none,some 2,some 0]) (by exact aa8 rfl rfl rfl rfl rfl rfl) (abe (aah aqs (by rfl) T.b_sorted agk (aaa (pv 3) aab))) (fun _ _ _ _=>(aak (i:=0) (show List.Nodup (["hub","first","web"]:List Str) by decide +kernel) rfl (Or.inl rfl) (hf:=Or.inr rfl))) (fun _ _ _ _=>ag7 (aav (agp l.units) (ab3 (aaa (pv 1) (aaa (pv 0) aab))) (aas (show IxR _ (adj K) from aat) (pv 2) aad (fun _ _=>rfl)) rfl)) (fun _ _ _ _=>(ab3 (aaa (pv 1) (aaa (pv 0) aab)))))
  (aaf (aar (ab3 (aaa (pv 4) (aaa (aas aat (aae (ab4 T) l (aaa (aae (aes T) l (aaa (pv 0) (aaa (pv 4) aab))) aab)) aad (fun _ _=>rfl)) aab))))))),?_⟩
 refine aa3 h fun ss X q B Z=>?_
 refine exS3 ss q fun n es k c=>?_
 have u:=c.1
 have G:=c.2.1
 have g:=c.2.2.1
 have F:=c.2.2.2.1
 have m:=c.2.2.2.2.1
 have v:=c.2.2.2.2.2.1
 have O:=c.2.2.2.2.2.2.1
 have S:=c.2.2.2.2.2.2.2.1
 have L:=c.2.2.2.2.2.2.2.2
 clear c q
 show EvS B _ _ [some (.st (webD n es)),some (.st (.int k)),none,none,none]
 obtain ⟨hs,r,I⟩:∃ hs r,hubN n.toNat (dsF es) k.toNat=(hs,r):=⟨_,_,rfl⟩
 have R:=adc (n:=n.toNat) (by omega) (afi es) (ado es) k.toNat I
 obtain ⟨rest,rfl⟩:=R.hd
 have Y:rest.length<=20:=by have:=R.len;simp at this;omega
 row_cond go
 refine ⟨n,es,k,rfl,u,G,g,by omega,v,O,S,?_⟩
 rw [aeb I]
 repeat (first | (refine avj ?_) | (refine abt (as0 ?_)) | row_cond st)
 refine ⟨rest,rfl,by omega,fun j M hs=>adw ?_⟩
 have C:ajg n es k ((j.filter fun h => !decide ((0,h)∈es)).map fun h=>(0,h)):=⟨rest,j,by rw [I],M,hs,rfl⟩
 obtain ⟨d,J⟩:=aob u m C
 row_cond go
 refine agx (xs:=j) (f:=PyData.int) (fun h=>prD (0,h)) (fun h => !decide ((0,h)∈es)) rfl (by rw [M.length_eq];omega) (fun h hh B' hB=>?_) ?_
 ·row_cond go
  refine apq (as7 (_,_)) (af1 es) (aD0 (agw (_,_)) (by decide)) ?_
  rw [aF6 rfl,show PyData.tuple [PyData.int 0,PyData.int h]=prD (0,h) from rfl,ayb]
  row_cond go
  intro _
  row_cond go
  exact rfl
 ·rw [show (j.filter fun h => !decide ((0,h)∈es)).map (fun h=>prD (0,h))=((j.filter fun h => !decide ((0,h)∈es)).map fun h=>((0:Int),h)).map prD by rw [aD9];rfl]
  generalize (j.filter fun h => !decide ((0,h)∈es)).map (fun h=>((0:Int),h))=ts at C d J
  refine abn ab9 ?_
  row_cond go
  refine ⟨n,es,ts,rfl,by omega,by omega,d,fun U l o=>?_⟩
  row_cond go
  refine ⟨n,U,rfl,u,G,fun p y=>?_,by rw [o.length_eq];simp;omega,aep v (by omega) o,fun x a b W=>?_⟩
  ·rcases aA7.mp (o.mem_iff.mp y) with z | z
   ·exact g p z
   ·have:=d.inn p z
    exact ⟨by omega,by omega,by omega,by omega⟩
  ·row_cond go
   exact L ts U x a b C d l o W
end
theorem acq {n:Int} {es:List (Int × Int)} (a:Joined n es) {u v:Int} (b:0<=u) (f:u < n) (v0:0<=v) (c:v < n):0<=dsF es u v/\Gr.Dist (Tied es) u v (dsF es u v).toNat:=by
 obtain ⟨d,e⟩:=af3 a b f v0 c
 simp only [dsF,e,Option.getD_some]
 exact ⟨by omega,by rw [show ((d:Nat):Int).toNat=d by omega];exact Gr.farO_some.mp e⟩
theorem aoc {es:List (Int × Int)} {u v:Int} {d:Nat} (h:Gr.Dist (Tied es) u v d):dsF es u v=d:=by
 simp only [dsF,Gr.farO_some.mpr h,Option.getD_some]
theorem avw {es a:List (Int × Int)} (h:∀ u v,Tied es u v ↔ Tied a u v):dsF es=dsF a:=by
 have:Tied es=Tied a:=funext fun u=>funext fun v=>propext (h u v)
 unfold dsF
 rw [this]
theorem af7 {n:Int} {es:List (Int × Int)} (c:Joined n es) (b:InN n es) {u v w:Int} (d:0<=u) (f:u < n) (t:Tied es v w):dsF es u w<=dsF es u v+1:=by
 have a:=t.in b
 have g:=acq c d f a.1.1 a.1.2
 have h:=acq c d f a.2.1 a.2.2
 have:=h.2.2 _ (.step g.2.1 t)
 omega
theorem ac1 (es:List (Int × Int)) (u:Int):dsF es u u=0:=by rw [aoc (Gr.Dist.self _ u)];rfl
theorem ace (es:List (Int × Int)) (u v:Int):dsF es u v=dsF es v u:=by unfold dsF;rw [Gr.farO_comm fun _ _ t=>t.symm]
theorem aij {n:Int} {es:List (Int × Int)} (a:Joined n es) {u c x:Int} (g:0<=u) (h:u < n) (f:0<=c) (b:c < n) (x0:0<=x) (d:x < n):dsF es u x<=dsF es u c+dsF es c x:=by
 have i:=acq a g h x0 d
 have j:=acq a g h f b
 have l:=acq a f b x0 d
 have:=i.2.2 _ (j.2.1.app l.2.1)
 omega
structure HubG (n:Nat) (m:Int->Int->Int) (j:Nat) (hs:List Int) (r:Int->Int):Prop where
 att:∀ y:Int,∃ h∈hs,r y=m h y
 le:∀ y:Int,∀ h∈hs,r y<=m h y
 apart:∀ a∈hs,∀ b∈hs,a ≠ b->mxF n r<=m a b
 full:hs.length=j+1\/mxF n r<=0
theorem aws {n:Nat} (hn:1<=n) {r q:Int->Int} (h:∀ y,r y<=q y):mxF n r<=mxF n q:=by
 have a:=(ad4 hn r).1
 unfold abd at a
 obtain ⟨i,hi,e⟩:=aB7.mp a
 have b:=(ad4 hn q).2 (q (i:Int)) (by unfold abd;exact aB7.mpr ⟨i,hi,rfl⟩)
 have:=h (i:Int)
 omega
theorem amc {n:Nat} (hn:1<=n) (r:Int->Int) {y:Int} (b:0<=y) (a:y < n):r y<=mxF n r:=by
 refine (ad4 hn r).2 _ ?_
 unfold abd
 exact aB7.mpr ⟨y.toNat,aB9.mpr (by omega),by rw [show ((y.toNat:Nat):Int)=y by omega]⟩
theorem aho {n:Nat} {m:Int->Int->Int} (hn:1<=n) (x:∀ u v,m u v=m v u):∀ (j:Nat) {hs:List Int} {r:Int->Int},hubN n m j=(hs,r)->HubG n m j hs r
 | 0,hs,r,e=>by
  cases e
  exact ⟨fun y=>⟨0,by simp,rfl⟩,fun y h hh=>by cases aC2.mp hh;exact Int.le_refl _,fun a ha b hb d=>by cases aC2.mp ha;cases aC2.mp hb;exact absurd rfl d,.inl rfl⟩
 | j+1,hs,r,e=>by
  obtain ⟨i,c,p⟩:∃ i c,hubN n m j=(i,c):=⟨_,_,rfl⟩
  have h:=aho hn x j p
  by_cases hp:0 < mxF n c
  ·rw [aje p hp] at e
   cases e
   have hi:=an9 hn c
   have z:c (ixF n c:Int)=mxF n c:=by
    have:=(ajd hn c).1
    unfold abd at this
    rw [aA5,aD8 hi] at this
    exact aC6 this
   have o:∀ y,nxF m c (ixF n c:Int) y<=c y:=fun y=>by unfold nxF;split <;> omega
   have s:=aws hn o
   refine ⟨fun y=>?_,fun y g w=>?_,fun a ha b hb d=>?_,?_⟩
   ·unfold nxF
    split
    ·exact ⟨_,aA7.mpr (.inr (by simp)),rfl⟩
    ·obtain ⟨g,w,e⟩:=h.att y
     exact ⟨g,aA7.mpr (.inl w),e⟩
   ·rcases aA7.mp w with q | q
    ·exact Int.le_trans (o y) (h.le y g q)
    ·cases aC2.mp q
     unfold nxF
     split <;> omega
   ·rcases aA7.mp ha with l | l <;> rcases aA7.mp hb with f | f
    ·exact Int.le_trans s (h.apart a l b f d)
    ·cases aC2.mp f
     have:=h.le (ixF n c:Int) a l
     omega
    ·cases aC2.mp l
     have:=h.le (ixF n c:Int) b f
     rw [x]
     omega
    ·cases aC2.mp l;cases aC2.mp f;exact absurd rfl d
   ·rcases h.full with q | q
    ·exact .inl (by simp [q])
    ·omega
  ·rw [ajf p hp] at e
   cases e
   exact ⟨h.att,h.le,h.apart,.inr (by omega)⟩
theorem ahp {n:Int} {es a:List (Int × Int)} (g:Joined n es) (hs:∀ p∈es,p∈a) {u v:Int} (l:0<=u) (m:u < n) (v0:0<=v) (h:v < n):dsF a u v<=dsF es u v:=by
 obtain ⟨o,hd⟩:=acq g l m v0 h
 have b:Gr.Walk (Tied a) u (dsF es u v).toNat v:=by
  have f:∀ {j:Nat} {y:Int},Gr.Walk (Tied es) u j y->Gr.Walk (Tied a) u j y:=by
   intro j y b
   induction b with
   | refl=>exact .refl
   | step _ t ih=>exact .step ih (t.imp (hs _) (hs _))
  exact f hd.1
 obtain ⟨d,i,c⟩:=Gr.Dist.of_walk b
 rw [aoc c]
 omega
theorem avx {n:Int} {es w a:List (Int × Int)} {k:Int} {hs:List Int} {r:Int->Int} (O:1<=n) (j:InN n a) (e:hubN n.toNat (dsF es) k.toNat=(hs,r)) (s:Joined n es) (L:ajg n es k w) (o:a.Perm (es ++ w)) {u v:Int} (C:0<=u) (E:u < n) (v0:0<=v) (B:v < n) :
  dsF a u v<=2 * mxF n.toNat r+2:=by
 have hn:1<=n.toNat:=by omega
 have M:=adc hn (afi es) (ado es) k.toNat e
 have I:=aho hn (ace es) k.toNat e
 have b:Joined n a:=aep s (by omega) o
 have i:∀ p∈es,p∈a:=fun p h=>o.mem_iff.mpr (aA7.mpr (.inl h))
 obtain ⟨rest,F,q,J,_,rfl⟩:=L
 rw [e] at q
 simp only at q
 have one:∀ g∈hs,dsF a 0 g<=1:=fun g f=>by
  by_cases hz:g=0
  ·rw [hz,ac1];omega
  ·have m:g∈rest:=by
    rw [q] at f
    rcases aA9.mp f with z | z
    ·exact absurd z hz
    ·exact z
   have K:Tied a 0 g:=.inl (by
    refine o.mem_iff.mpr (aA7.mpr ?_)
    by_cases hin2:((0:Int),g)∈es
    ·exact .inl hin2
    ·refine .inr (aB7.mpr ⟨g,aE1.mpr ⟨J.mem_iff.mpr m,by simpa using hin2⟩,rfl⟩))
   have:=af7 b j (u:=0) (by omega) (by omega) K
   rw [ac1] at this
   omega
 have near:∀ y:Int,0<=y->y < n->dsF a 0 y<=mxF n.toNat r+1:=fun y l A=>by
  obtain ⟨g,f,N⟩:=I.att y
  have d:=M.mem g f
  have G:=amc hn r l (by omega)
  have H:=ahp s i (u:=g) (v:=y) d.1 (by omega) l A
  have D:=one g f
  have P:=aij b (u:=0) (c:=g) (x:=y) (by omega) (by omega) d.1 (by omega) l A
  omega
 have G:=near u C E
 have H:=near v v0 B
 have D:=aij b (u:=u) (c:=0) (x:=v) C E (by omega) (by omega) v0 B
 rw [ace a u 0] at D
 omega
theorem ahq {n:Int} {es:List (Int × Int)} (a:Joined n es) {u v:Int} (b:0<=u) (d:u < n) (v0:0<=v) (c:v < n) (h:dsF es u v<=0):u=v:=by
 obtain ⟨f,hd⟩:=acq a b d v0 c
 rw [show (dsF es u v).toNat=0 by omega] at hd
 cases hd.1
 rfl
theorem ayu {n:Int} {es:List (Int × Int)} (c:Joined n es) (a:InN n es) {u v:Int} (i:0<=u) (j:u < n) (v0:0<=v) (g:v < n) (h:u ≠ v):∃ p,0<=p/\p < n/\Tied es u p/\dsF es p v=dsF es u v - 1:=by
 obtain ⟨x,hd⟩:=acq c v0 g i j
 obtain ⟨k,m⟩:∃ k,(dsF es v u).toNat=k+1:=by
  cases e:(dsF es v u).toNat with
  | zero=>exact absurd (ahq c v0 g i j (by omega)).symm h
  | succ k=>exact ⟨k,rfl⟩
 rw [m] at hd
 have b:=hd.1
 cases b with
 | @step _ p _ b t =>
  have r:=t.in a
  obtain ⟨d,l,f⟩:=Gr.Dist.of_walk b
  have o:=aoc f
  have q:=af7 c a v0 g t
  have w:=ace es v p
  have s:=ace es v u
  exact ⟨p,by omega,by omega,t.symm,by omega⟩
theorem a1d {n:Int} {es:List (Int × Int)} {x a b c d f:Int} (h:FarOk n es x a b) (g:FarOk n es c d f):c=x:=by
 have l:=h.top.2 d f g.a0 (by have:=g.a1;omega) g.b0 (by have:=g.b1;omega)
 have m:=g.eq
 have j:=g.top.2 a b h.a0 (by have:=h.a1;omega) h.b0 (by have:=h.b1;omega)
 have i:=h.eq
 omega
theorem FarOk.le {n:Int} {es f:List (Int × Int)} {x a b d c i:Int} (h:FarOk n es x a b) (g:FarOk n f d c i) (j:Joined n es) (hs:∀ p∈es,p∈f):d<=x:=by
 have l:=ahp j hs g.a0 g.a1 g.b0 g.b1
 have m:=h.top.2 c i g.a0 (by have:=g.a1;omega) g.b0 (by have:=g.b1;omega)
 have o:=g.eq
 omega
theorem ayv {n:Nat} {m a:Int->Int->Int} (h:matD n m=matD n a) {u v:Int} (c:0<=u) (g:u < n) (v0:0<=v) (d:v < n):m u v=a u v:=by
 have b:=ae6 (m:=m) c g
 rw [h,ae6 c g] at b
 have i:rowD n (a u)=rowD n (m u):=PyData.list.inj (aC6 b)
 have f:=ajb (r:=m u) v0 d
 rw [← i,ajb v0 d] at f
 exact (PyData.int.inj (aC6 f)).symm
theorem ak7 {n d:Int} {es:List (Int × Int)} {m:Int->Int->Int} (g:Joined n es) (f:InN n es) (hm:matD n.toNat (dsF es)=matD n.toNat m) (s:1<=n):ahn n es d m ↔ ∀ u v:Int,0<=u->u < n->0<=v->v < n->dsF es u v<=d:=by
 have e:∀ u v:Int,0<=u->u < n->0<=v->v < n->dsF es u v=m u v:=fun u v c j v0 i=>ayv hm c (by omega) v0 (by omega)
 constructor
 ·intro h u v c j v0 i
  have l:=h.2 u v c j v0 i
  have r:=e u v c j v0 i
  by_cases z:u=v
  ·have:=l.1 z
   have:=h.1
   omega
  ·have:=(l.2 z).2.1
   omega
 ·intro h
  refine ⟨?_,fun a b a0 a1 b0 b1=>⟨fun z=>?_,fun z=>?_⟩⟩
  ·have:=h 0 0 (by omega) (by omega) (by omega) (by omega)
   rw [ac1] at this
   exact this
  ·rw [← e a b a0 a1 b0 b1,z,ac1]
  ·obtain ⟨p,p0,o,t,ep⟩:=ayu g f a0 a1 b0 b1 z
   rw [← e a b a0 a1 b0 b1]
   refine ⟨?_,h a b a0 a1 b0 b1,p,t,by rw [← e p b p0 o b0 b1];exact ep⟩
   have w:=(acq g a0 a1 b0 b1).1
   by_cases q:1<=dsF es a b
   ·exact q
   ·exact absurd (ahq g a0 a1 b0 b1 (by omega)) z
theorem MidOk.less {n:Int} {es f:List (Int × Int)} {w y:Int} {ps rs:List Int} (h:MidOk n es w ps) (g:MidOk n f y rs) (i:Joined n es) (hs:∀ p∈es,p∈f):y<=w:=by
 obtain ⟨c,l⟩:=List.exists_mem_of_ne_nil _ h.ne
 obtain ⟨a,d,j⟩:=(h.mem c).mp l
 obtain ⟨v,v0,b,o⟩:=g.lo c a d
 have m:=j v v0 b
 have q:=ahp i hs a d v0 b
 omega
theorem atm {n:Nat} {m:Int->Int->Int} {j:Nat} {hs:List Int} {r:Int->Int} (hn:1<=n) (e:hubN n m j=(hs,r)):∃ t a,hubN n m (j+1)=(hs ++ t,a)/\mxF n a<=mxF n r:=by
 by_cases hp:0 < mxF n r
 ·exact ⟨_,_,aje e hp,aws hn fun y=>by unfold nxF;split <;> omega⟩
 ·exact ⟨[],r,by rw [ajf e hp,aF0],Int.le_refl _⟩
theorem ayw (hs t:List Int):cutD ((hs ++ t).map PyData.int) none (some (hs.length:Int))=hs.map PyData.int:=by
 unfold cutD
 rw [HT.sIx_none,HT.sIx_nat,List.drop_zero,aE3,Nat.sub_zero]
 rw [show min hs.length (hs.map PyData.int ++ t.map PyData.int).length=(hs.map PyData.int).length by simp,List.take_left]
theorem ayx {n:Int} {es:List (Int × Int)} (A:1<=n) (u:Joined n es) {j:Nat} {hs:List Int} {r:Int->Int} (e:hubN n.toNat (dsF es) j=(hs,r)) (w:n<=(j:Int)+1):mxF n.toNat r=0/\hs.Perm ((List.range n.toNat).map fun (i:Nat)=>(i:Int)):=by
 have hn:1<=n.toNat:=by omega
 have b:=adc hn (afi es) (ado es) j e
 have o:=aho hn (ace es) j e
 have c:=Order.id n
 have a:∀ y:Int,0<=y->y < n->y∈hs:=fun y f p=>by
  rcases o.full with z | z
  ·refine aD4 fun v=>?_
   have:=aE8 (l₁:=y :: hs) (l₂:=(List.range n.toNat).map fun (i:Nat)=>(i:Int)) (aI5.mpr ⟨v,b.nd⟩) fun q l=>by
    refine c.mem.mpr ?_
    rcases aA9.mp l with rfl | l
    ·exact ⟨f,p⟩
    ·have:=b.mem q l
     exact ⟨this.1,by omega⟩
   simp at this
   omega
  ·obtain ⟨g,s,x⟩:=o.att y
   have d:=amc hn r f (by omega)
   have m:=b.mem g s
   have:=ahq u m.1 (by omega) f p (by omega)
   exact this ▸ s
 refine ⟨?_,(List.perm_ext_iff_of_nodup b.nd c.nodup).mpr fun q=>⟨fun h=>?_,fun h=>?_⟩⟩
 ·obtain ⟨d,m⟩:=ad4 hn r
  unfold abd at d
  obtain ⟨i,hi,B⟩:=aB7.mp d
  have:=(b.mem (i:Int) (a i (by omega) (by have:=aB9.mp hi;omega))).2.2
  omega
 ·have:=b.mem q h
  exact c.mem.mpr ⟨this.1,by omega⟩
 ·have:=c.mem.mp h
  exact a q this.1 this.2
theorem ayy {n:Int} {es:List (Int × Int)} (c:1<=n) {j:Nat} {hs:List Int} {r:Int->Int} (e:hubN n.toNat (dsF es) j=(hs,r)):(hs.length:Int)<=n:=by
 have a:=adc (n:=n.toNat) (by omega) (afi es) (ado es) j e
 have:=aE8 (l₂:=(List.range n.toNat).map fun (i:Nat)=>(i:Int)) a.nd fun q b=>by
  have:=a.mem q b
  exact (Order.id n).mem.mpr ⟨this.1,by omega⟩
 simp at this
 omega
theorem atn (ns:List Int):plainDs (ns.map .int)=true:=(afj _).mpr fun d hd=>by
 obtain ⟨x,_,rfl⟩:=aB7.mp hd
 rfl
theorem arf (ns:List Int):aao (.list (ns.map .int))=true:=atn ns
theorem ayz (ns:List Int):(PyData.list (ns.map PyData.int)).depth<=60:=by
 have h:PyData.depthAll (ns.map PyData.int)<=1:=aee fun d hd=>by
  obtain ⟨x,_,rfl⟩:=aB7.mp hd
  simp [PyData.depth]
 simp only [PyData.depth]
 omega
def DrawsOk (ds:List Int):Prop:=∀ x∈ds,0<=x/\x < 10007
theorem DrawsOk.snoc {ds:List Int} {x:Int} (h:DrawsOk ds) (c:0<=x) (b:x < 10007):DrawsOk (ds ++ [x]):=fun y a=>by
 rcases aA7.mp a with a | a
 ·exact h y a
 ·have:y=x:=by simpa using a
  subst this;exact ⟨c,b⟩
theorem avy {xs:List PyData} {lo hi:Option Int} {d:PyData} (h:d∈cutD xs lo hi):d∈xs:=aC4 (aC0 h)
theorem avz {xs:List PyData} {lo hi:Option Int}:(cutD xs lo hi).length<=xs.length:=by unfold cutD;simp;omega
theorem aik (ds:List Int) (x:Int):ds.map PyData.int ++ [.int x]=(ds ++ [x]).map .int:=by simp
def ay0:VP:=fun ss Q=>∃ (ns:List Int) (many:Int),ss=[.scr ns,.st (.int many)]/\ns.length<=63/\0<=many/\many<=1000/\∀ ds:List Int,many<=ds.length->ds.length<=3000->DrawsOk ds->Q (.own (OL (ds.map .int)))
section
variable {P:Program} {w:World} {K:Frag} {mg:Str->Option Value} {base:Heap}
theorem sc_law_draws:FnScope ["script","many","drawn","base","k","cell","number","one"] ["script","many"] (aai s_law_draws):=by row_cond sc
theorem alw (T:Txt K mg):Can P w K mg base "_law_draws" 1 ["script","many"] (spP K (ay0)):=by
 obtain ⟨f,fd,D⟩:=T.d_law_draws
 refine D.can (D.fn.ok sc_law_draws (fun vs H Q E h=>lenP h fun ss O q=>by obtain ⟨ns,many,rfl,v,R,S,k⟩:=q;rfl) (fun cdv A outer s H vs Q E hr h=>?_))
 have nd:=sc_law_draws.nd
 refine ⟨_,(aac (aan (i:=2) nd rfl (Or.inl rfl) (abv aab))
  (aac (aan (i:=3) nd rfl (Or.inl rfl) aad)
  (aac (acv aJ9 rfl (apv rfl T.b_enumerate (aaa (amj ao1 (pv 0) aox (aoy aad)) aab)) (ade rfl (aa2 (aak (i:=4) nd rfl (Or.inl rfl)) (aa2 (aak (i:=5) nd rfl (Or.inl rfl)) acs)))
   (aac (aan (i:=6) nd rfl (Or.inl rfl) (aah asr (by rfl) T.b_abs a0t (aaa (pv 5) aab)))
    (aac (aan (i:=3) nd rfl (Or.inl rfl) (aam abf (aam abg (aam acw (pv 3) aad) (pv 6)) aad))
    (aaf (abc (aav a1m (pv 6) (axa (n:=1000000000000000000) (by decide) (by refine ⟨by decide,by decide,by decide⟩)) (aau _))
     (aaf (ah2 aJ9 (PW.pt (ame (aav afa (pv 6) aad (aau _)) (aji (aav aqd (aah aa9 (by rfl) T.b_len abw (aaa (pv 2) aab)) (pv 1) (aau _)))))
       (aac (abh (aco PySem.F.plainAttrs_list PySem.F.slot_list_append PySem.F.type_list_append abr (pv 2) (aaa (aam abf (pv 6) aad) aab)))
        (aaf (aan (i:=6) nd rfl (Or.inl rfl) (aam ad5 (pv 6) aad))))))
     (aac (aan (i:=7) nd rfl (Or.inl rfl) (aam abf (aam acw (aam abg (aam abg (aam abf (pv 6) aad) (pv 4)) aad) aad) aad))
      (aac (aan (i:=7) nd rfl (Or.inl rfl) (aam abf (aam acw (pv 7) (pv 7)) aad))
      (aac (abh (aco PySem.F.plainAttrs_list PySem.F.slot_list_append PySem.F.type_list_append abr (pv 2) (aaa (aam abf (aam ad5 (pv 7) aad) aad) aab)))
      (aac (aan (i:=7) nd rfl (Or.inl rfl) (aam abf (aam abg (aam abg (aam acw (pv 7) aad) (aam acw aad (pv 4))) aad) aad))
      (aac (aan (i:=7) nd rfl (Or.inl rfl) (aam abf (aam acw (pv 7) (pv 7)) aad))
      (aaf (abh (aco PySem.F.plainAttrs_list PySem.F.slot_list_append PySem.F.type_list_append abr (pv 2) (aaa (aam abf (aam ad5 (pv 7) aad) aad) aab))))))))))))))
  (aac (acv aJ9 rfl (abi rfl T.b_range (aaa (aam ads (pv 1) (aah aa9 (by rfl) T.b_len abw (aaa (pv 2) aab))) aab)) (aak (i:=4) nd rfl (Or.inl rfl))
   (aac (aan (i:=7) nd rfl (Or.inl rfl) (aam abf (aam abg (aam abg (pv 3) (aam acw aad (pv 4))) aad) aad))
    (aac (aan (i:=7) nd rfl (Or.inl rfl) (aam abf (aam acw (pv 7) (pv 7)) aad))
    (aac (aan (i:=7) nd rfl (Or.inl rfl) (aam abf (aam abg (aam acw (pv 7) aad) (pv 4)) aad))
    (aaf (abh (aco PySem.F.plainAttrs_list PySem.F.slot_list_append PySem.F.type_list_append abr (pv 2) (aaa (aam abf (aam ad5 (aam abf (aam acw (pv 7) (pv 7)) aad) aad) aad) aab))))))))
  (aaf (aar (pv 2))))))),?_⟩
 refine aa3 h fun ss O q B Y=>?_
 refine exS2 ss q fun ns many a=>?_
 have v:=a.1
 have R:=a.2.1
 have S:=a.2.2.1
 have k:=a.2.2.2
 clear a q
 show EvS B _ _ [some (.scr ns),some (.st (.int many)),none,none,none,none,none,none]
 row_cond go
 have C:(cutD (ns.map PyData.int) none (some 63)).length<=63:=aD0 avz (by simpa using v)
 refine ⟨fun i e=>∃ r p u o ds bs,e=[some (.scr ns),some (.st (.int many)),some (.own (OL (ds.map .int))),some (.st (.int bs)),r,p,u,o]/\0<=bs/\bs < 2147483629/\DrawsOk ds/\(ds.length:Int)<=2 * i+many,
  ⟨none,none,none,none,[],7,rfl,by omega,by omega,fun x z=>by simp at z,by simp;omega⟩,?_,?_⟩
 ·rintro i d e hd b
  refine exS6 e b fun r p u o ds bs a=>?_
  have b0:=a.1
  have b1:=a.2.1
  have l:=a.2.2.1
  have j:=a.2.2.2
  clear a b
  obtain ⟨x,z,rfl⟩:=akb hd
  have hi:i < 63:=aC5 (aA1.mp z).1 C
  obtain ⟨c,_,rfl⟩:=aB7.mp (avy (aA2 z))
  row_cond go
  have y:0<=(if c < 0 then -c else c):=by split <;> omega
  generalize (if c < 0 then -c else c)=num0 at y
  refine adg (fun L=>?_) (fun W=>?_)
  ·row_cond go
   refine agu (fun m e=>∃ g ds,e=[some (.scr ns),some (.st (.int many)),some (.own (OL (ds.map .int))),some (.st (.int ((bs * 31+num0) % 2147483629))),some (.st (.int (i:Int))),some (.st (.int c)),some (.st (.int g)),o]/\0<=g/\DrawsOk ds/\(ds.length:Int)<=2 * i+many/\m=g.toNat) ⟨_,num0,ds,rfl,y,l,j,rfl⟩ ?_
   rintro m e b
   refine exS2 e b fun g ds a=>?_
   have Z:=a.1
   have l:=a.2.1
   have j:=a.2.2.1
   have G:=a.2.2.2
   clear a b
   subst G
   row_cond go
   refine adg (fun U=>?_) (fun U=>?_)
   ·row_cond go
    rw [aA3]
    refine adg (fun M=>?_) (fun M=>?_)
    ·row_cond go
     refine ⟨(g / 10007).toNat,by omega,g / 10007,ds ++ [g % 10007],by simp,by omega,l.snoc (by omega) (by omega),by simp;omega,rfl⟩
    ·row_cond go
     exact ⟨_,_,_,_,ds,_,rfl,by omega,by omega,l,by push_cast;omega⟩
   ·row_cond go
    exact ⟨_,_,_,_,ds,_,rfl,by omega,by omega,l,by push_cast;omega⟩
  ·row_cond go
   rw [aik,aik]
   refine ⟨_,_,_,_,_,_,rfl,by omega,by omega,(l.snoc (by omega) (by omega)).snoc (by omega) (by omega),by simp;omega⟩
 ·rintro e b
  refine exS6 e b fun r p u o ds bs a=>?_
  have b0:=a.1
  have b1:=a.2.1
  have l:=a.2.2.1
  have j:=a.2.2.2
  clear a b
  rw [adz] at j
  row_cond go
  rw [aA3]
  have N:(ds.length:Int)<=1126:=by omega
  row_cond go
  refine ad8 (fun i e=>∃ r p u o es,e=[some (.scr ns),some (.st (.int many)),some (.own (OL (es.map .int))),some (.st (.int bs)),r,p,u,o]/\DrawsOk es/\es.length=ds.length+i) ⟨_,_,_,_,ds,rfl,l,rfl⟩ ?_ ?_
  ·rintro i e hi b
   refine exS5 e b fun r p u o es a=>?_
   have I:=a.1
   have J:=a.2
   clear a b
   have X:(i:Int) < 1000:=by omega
   row_cond go
   rw [aik]
   exact ⟨_,_,_,_,_,rfl,I.snoc (by omega) (by omega),by simp;omega⟩
  ·rintro e b
   refine exS5 e b fun r p u o es a=>?_
   have I:=a.1
   have J:=a.2
   clear a b
   row_cond go
   exact k es (by omega) (by omega) I
end
def StQ:Type:={ q:List Int × Int // 1<=q.1.length/\q.1.length<=3000 }
def stD (q:StQ):List PyData:=[.list (q.1.1.map .int),.int q.1.2]
def a1e:VIo:=fun A ss Q=>∃ (q:StQ) (many:Int),A=OL (stD q)/\ss=[.st (.int many)]/\0 < many/\many < 1073741824/\∀ (r:Int) (q':StQ),0<=r->r < many->Q (OL (stD q')) (.st (.int r))
section
variable {P:Program} {w:World} {K:Frag} {mg:Str->Option Value} {base:Heap}
theorem sc_law_take:FnScope ["store","many"] ["store","many"] (aai s_law_take):=by row_cond sc
theorem alx (T:Txt K mg):Can P w K mg base "_law_take" 1 ["store","many"] (spI K (a1e)):=by
 obtain ⟨f,fd,D⟩:=T.d_law_take
 refine D.can (D.fn.ok sc_law_take (fun vs H Q E h=>lenI h fun A ss i q=>by obtain ⟨q,many,rfl,rfl,a,g,k⟩:=q;rfl) (fun cdv A outer s H vs Q E r h=>?_))
 have nd:=sc_law_take.nd
 refine ⟨_,(aac (adf (aam abg (aas aat (pv 0) aad (fun _ _=>rfl)) aad) (amf (pv 0) aad ah3))
  (aaf (aar (aam abf (aas aat (aas aat (pv 0) aad (fun _ _=>rfl)) (aam abf (aam ads (aas aat (pv 0) aad (fun _ _=>rfl)) aad) (aah aa9 (by rfl) T.b_len abw (aaa (aas aat (pv 0) aad (fun _ _=>rfl)) aab))) (fun _ _=>rfl)) (pv 1))))),?_⟩
 refine aqy h fun p ss i q B n=>?_
 obtain ⟨⟨⟨ds,t⟩,c,b⟩,many,rfl,rfl,a,g,k⟩:=q
 show EvS B _ _ [some (.io (OL [.list (ds.map .int),.int t])),some (.st (.int many))]
 simp only at c b
 obtain ⟨x,o⟩:∃ x,atI (ds.map PyData.int) ((t+1 - 1) % (((ds.map PyData.int).length:Nat):Int))=some (.int x):=by
  have d:=aE5 (t+1 - 1) (show ((((ds.map PyData.int).length:Nat):Int)) ≠ 0 by rw [aA3];omega)
  have l:=aE6 (t+1 - 1) (show 0 < ((((ds.map PyData.int).length:Nat):Int)) by rw [aA3];omega)
  obtain ⟨y,j⟩:∃ y,ds[((t+1 - 1) % (((ds.map PyData.int).length:Nat):Int)).toNat]?=some y:=⟨_,aA0 (by rw [aA3] at d l ⊢;omega)⟩
  exact ⟨y,aff d (by rw [aA5,j];rfl)⟩
 have m:0 < (((ds.map PyData.int).length:Nat):Int):=by rw [aA3];omega
 row_cond go
 exact k _ ⟨(ds,t+1),c,b⟩ (aE5 _ (by omega)) (aE6 _ a)
end
def OSt:Own:=exO fun q:StQ=>OL (stD q)
theorem ay1 {K:Frag} {f:VIo} {vs:List V} {H:Hp} {Q:VK} {E:XK} (h:spI K (fun A ss Q=>A=OSt/\∀ q,f (OL (stD q)) ss fun A' s=>(∃ q,A'=OL (stD q))/\Q OSt s) vs H Q E):spI K f vs H Q E:=by
 obtain ⟨v0,a,G,R,A,ss,F0,j,rfl,gh,ft,d,ap,fg,fr,g,⟨rfl,hf⟩,c⟩:=h
 obtain ⟨q,ap⟩:=ap
 refine ⟨v0,a,G,R,OL (stD q),ss,F0,_,rfl,gh,ft,d,ap,fg,fr,g,hf q,fun A' s b v G' H' F' Fv o=>?_⟩
 obtain ⟨⟨i,rfl⟩,z⟩:=b
 exact c OSt s z v G' H' F' Fv { o with ap:=⟨i,o.ap⟩ }
theorem av0 {P:Program} {w:World} {K:Frag} {mg:Str->Option Value} {base:Heap} {x:Str} {k:Nat} {ps:List Str} {sp a:Sp} (c:Can P w K mg base x k ps sp) (h:∀ vs H Q E,a vs H Q E->sp vs H Q E):Can P w K mg base x k ps a:=by
 obtain ⟨f,fd,ok,m,kp,b⟩:=c
 exact ⟨f,fd,ok.imp h,m,kp,b⟩
def ay2:VIo:=fun A ss Q=>∃ many:Int,A=OSt/\ss=[.st (.int many)]/\0 < many/\many < 1073741824/\∀ r:Int,0<=r->r < many->Q OSt (.st (.int r))
theorem ay3 {K:Frag} {f b:VIo} {vs:List V} {H:Hp} {Q:VK} {E:XK} (hf:∀ A ss a,f A ss a->b A ss a) (h:spI K f vs H Q E):spI K b vs H Q E:=by
 obtain ⟨v0,c,G,R,A,ss,F0,a,rfl,gh,ft,g,ap,fg,fr,i,q,d⟩:=h
 exact ⟨v0,c,G,R,A,ss,F0,a,rfl,gh,ft,g,ap,fg,fr,i,hf _ _ _ q,d⟩
theorem av1 {B:Bs} {t:TS} {D':VEnds} {env:En} {ds:List Int} {u:Int} (i:Nat) (b:1<=ds.length) (a:ds.length<=3000) (e:env[i]?=some (some (.own (OL [.list (ds.map .int),.int u])))) (q:EvS B t D' (env.set i (some (.own OSt)))):EvS B t D' env:=fun σ G H F D I r=>q σ G H F D (I.weakO e fun _ _ _ _ h=>⟨⟨(ds,u),b,a⟩,h⟩) r
section
variable {P:Program} {w:World} {K:Frag} {mg:Str->Option Value} {base:Heap}
theorem aa4 (T:Txt K mg):Can P w K mg base "_law_take" 1 ["store","many"] (spI K (ay2)) :=
 av0 (alx T) fun vs H Q E h=>ay1 (ay3 (fun A ss g q=>by
  obtain ⟨many,rfl,rfl,a,b,k⟩:=q
  exact ⟨rfl,fun q=>⟨q,many,rfl,rfl,a,b,fun r f d c=>⟨⟨f,rfl⟩,k r d c⟩⟩⟩) h)
end
structure TreeT (n:Int) (ps:List (Int × Int)):Prop where
 len:(ps.length:Int)=n - 1
 at':∀ (i:Nat) p,ps[i]?=some p->0<=p.1/\p.1 < p.2/\p.2=(i:Int)+1
theorem ag2 {α β:Type} (f : α->β):∀ (l:List α) (k:Nat),(l.map f).eraseIdx k=(l.eraseIdx k).map f
 | [],_=>rfl
 | _ :: _,0=>rfl
 | a :: l,k+1=>by simp [ag2 f l k]
theorem ato {j:Int} {n:Nat} (b:0<=j) (a:j < n):seqIndex? j n=some j.toNat:=by unfold seqIndex?;simp;omega
theorem a1f {left:List Int} {k:Nat} {y:Int} (a:left[k]?=some y):(left.map PyData.int)[k]?=some (.int y):=by rw [aA5,a];rfl
structure TreeW (n:Int) (es:List (Int × Int)):Prop where
 web:WebOk n es
 len:(es.length:Int)=n - 1
 conn:Conn n (Tied es)
theorem TreeT.conn {n:Int} {ps:List (Int × Int)} (h:TreeT n ps):Conn n (Tied ps):=Tr.conn fun k c d=>by
 have a:(k - 1).toNat < ps.length:=by have:=h.len;omega
 have b:=h.at' (k - 1).toNat _ (aA0 a)
 refine ⟨ps[(k - 1).toNat].1,b.1,by omega,?_⟩
 have:(ps[(k - 1).toNat].1,k)=ps[(k - 1).toNat]:=Prod.ext rfl (by simp only;omega)
 rw [this]
 exact aF2 a
structure JWeb (n:Int) (es:List (Int × Int)):Prop where
 lo:1<=n
 hi:n<=60
 ps:PsOk n es
 conn:Conn n (Tied es)
theorem JWeb.inn {n:Int} {es:List (Int × Int)} (h:JWeb n es):InN n es:=fun p a=>by
 have:=h.ps.inn p a
 omega
theorem JWeb.len {n:Int} {es:List (Int × Int)} (h:JWeb n es):es.length<=3600:=by
 have c:=h.lo
 have:=afg (n:=n.toNat) h.ps.nd fun p b=>by have:=h.ps.inn p b;omega
 have a:n.toNat<=60:=by have:=h.hi;omega
 exact aD0 this (Nat.mul_le_mul a a)
theorem ap9 {n:Int} {p:Int × Int} {ps:List (Int × Int)} (h:PsOk n ps) (a:0<=p.1/\p.1 < p.2/\p.2 < n):PsOk n (addP ps p):=⟨ai5 h.nd,fun x b=>by
 rcases addP_mem.mp b with z | rfl
 ·exact h.inn x z
 ·exact a⟩
theorem a2i {n:Int} {a:List Int} {p:Int × Int} (c:Order n a) (b:0<=p.1/\p.1 < p.2/\p.2 < n):0<=(reP a p).1/\(reP a p).1 < (reP a p).2/\(reP a p).2 < n:=by
 have:PsOk n [p]:=⟨by simp,fun r d=>by rw [aC2.mp d];exact b⟩
 exact (this.re c).inn (reP a p) (by simp)
theorem a1g {n:Int} {c:List Int} (d:Order n c) {a b:Int} (a0:0<=a) (a1:a < b) (b1:b < n):((if aa7 c a < aa7 c b then aa7 c a else aa7 c b),(if aa7 c a > aa7 c b then aa7 c a else aa7 c b))=reP c (a,b):=by
 have:=d.ne a0 (by omega) (by omega) b1 (show a ≠ b by omega)
 unfold reP
 simp only
 split <;> split <;> first | rfl | omega
def a1h:VIo:=fun A ss Q=>∃ most:Int,A=OSt/\ss=[.st (.int most)]/\1<=most/\most<=60/\∀ (n:Int) (es:List (Int × Int)),JWeb n es->n<=most->Q OSt (.st (webD n es))
section
variable {P:Program} {w:World} {K:Frag} {mg:Str->Option Value} {base:Heap}
theorem sc_law_web:FnScope ["store","most","x","n","way","row","left","ties","k","y","head","a","b"] ["store","most"] (aai s_law_web):=by row_cond sc
theorem aos (T:Txt K mg):Can P w K mg base "_law_web" 2 ["store","most"] (spI K (a1h)):=by
 obtain ⟨f,fd,D⟩:=T.d_law_web
 refine D.can (D.fn.ok sc_law_web (fun vs H Q E h=>lenI h fun A ss Q' q=>by obtain ⟨most,rfl,rfl,m0,m1,k⟩:=q;rfl) (fun cdv A outer s H vs Q E U h=>?_))
 have nd:=sc_law_web.nd
 refine ⟨_,(aac (aan (i:=2) nd rfl (Or.inl rfl) (aae (aa4 T) U (aaa (pv 0) (aaa aad aab))))
  (aac (aan (i:=3) nd rfl (Or.inl rfl) (aam abg aad (aam abf (pv 2) (pv 1))))
  (aac (aan (i:=4) nd rfl (Or.inl rfl) (aam abf (aam ad5 (pv 2) (pv 1)) aad))
  (aac (aan (i:=5) nd rfl (Or.inl rfl) (ann rfl T.b_list rfl T.b_range rfl (aaa (pv 3) aab)))
  (aac (abc (aav ae9 (aae (aa4 T) U (aaa (pv 0) (aaa aad aab))) aad (aau _))
   (aac (aan (i:=6) nd rfl (Or.inr rfl) (ann rfl T.b_list rfl T.b_range rfl (aaa (pv 3) aab)))
    (aaf (ae0 (i:=5) nd rfl (Or.inl rfl) rfl (N:=["k","left","store"]) (src:=[none,some 6,some 0]) (by exact aa8 rfl rfl rfl rfl rfl rfl) (abi rfl T.b_range (aaa (pv 3) aab)) (fun _ _ _ _=>(aak (i:=0) (show List.Nodup (["k","left","store"]:List Str) by decide +kernel) rfl (Or.inl rfl) (hf:=Or.inr rfl))) (fun _ _ _ _=>aba) (fun _ _ _ _=>(show PE _ _ (tBM K "list" ain _ _) from (aco PySem.F.plainAttrs_list PySem.F.slot_list_pop PySem.F.type_list_pop amn (pv 1) (aaa (aae (aa4 T) U (aaa (pv 2) (aaa (aah (show aa5 _ (.builtin "len") (rLen K) from aa9) (by rfl) T.b_len abw (aaa (pv 1) aab)) aab))) aab)))))))
   aa0)
  (aac (aan (i:=7) nd rfl (Or.inl rfl) atx)
  (aac (acv aJ9 rfl (akg rfl T.b_range (aaa aad (aaa (pv 3) aab))) (aak (i:=8) nd rfl (Or.inl rfl))
   (aac (aan (i:=9) nd rfl (Or.inl rfl) (aae (aa4 T) U (aaa (pv 0) (aaa aad aab))))
    (aac (aan (i:=10) nd rfl (Or.inl rfl) (aas aat (abv (aaa (aam ads (pv 8) aad) (aaa aad (aaa (aam abf (pv 9) (pv 8)) (aaa (aah (afs rfl) (by rfl) T.b_max acj (aaa aad (aaa (aam ads (aam ads (pv 8) aad) (aam abf (pv 9) aad)) aab))) (aaa (aam ad5 (pv 8) aad) aab)))))) (pv 4) (fun _ _=>rfl)))
    (aaf (ao4 (aqk U) (pv 7) (ab3 (aaa (aah (ada rfl) (by rfl) T.b_min aek (aaa (aas aat (pv 5) (pv 8) (fun _ _=>rfl)) (aaa (aas aat (pv 5) (pv 10) (fun _ _=>rfl)) aab))) (aaa (aah (afs rfl) (by rfl) T.b_max acj (aaa (aas aat (pv 5) (pv 8) (fun _ _=>rfl)) (aaa (aas aat (pv 5) (pv 10) (fun _ _=>rfl)) aab))) aab))) abp rfl)))))
  (aac (acv aJ9 rfl (abi rfl T.b_range (aaa (aas aat (abv (aaa aad (aaa aad (aaa aad (aaa (aam ad5 (pv 3) aad) (aaa (pv 3) aab)))))) (aae (aa4 T) U (aaa (pv 0) (aaa aad aab))) (fun _ _=>rfl)) aab)) (aak (i:=8) nd rfl (Or.inl rfl))
   (aac (aan (i:=11) nd rfl (Or.inl rfl) (aae (aa4 T) U (aaa (pv 0) (aaa (pv 3) aab))))
    (aac (aan (i:=12) nd rfl (Or.inl rfl) (aae (aa4 T) U (aaa (pv 0) (aaa (pv 3) aab))))
    (aaf (abc (aav aet (pv 11) (pv 12) (aau _))
     (aaf (ao4 (aqk U) (pv 7) (ab3 (aaa (aah (ada rfl) (by rfl) T.b_min aek (aaa (pv 11) (aaa (pv 12) aab))) (aaa (aah (afs rfl) (by rfl) T.b_max acj (aaa (pv 11) (aaa (pv 12) aab))) aab))) abp rfl))
     aa0)))))
  (aaf (aar (ab3 (aaa (pv 3) (aaa (aah (aon rfl) (by rfl) T.b_sorted agk (aaa (pv 7) aab)) aab))))))))))))),?_⟩
 refine aqy h fun A0 ss Q' q B hK=>?_
 obtain ⟨most,rfl,rfl,m0,m1,k⟩:=q
 show EvS B _ _ [some (.io OSt),some (.st (.int most)),none,none,none,none,none,none,none,none,none,none,none]
 row_cond go
 refine ⟨10007,rfl,rfl,by omega,by omega,fun x x0 x1=>?_⟩
 have v0:=aE5 x (show most ≠ 0 by omega)
 have v1:=aE6 x (show 0 < most by omega)
 row_cond go
 obtain ⟨n,hn,n0,n1,n2⟩:∃ n,1+x % most=n/\1<=n/\n<=most/\n<=60:=⟨_,rfl,by omega,by omega,by omega⟩
 rw [hn]
 row_cond go
 refine ⟨2,rfl,rfl,by omega,by omega,fun r2 b3 b7=>?_⟩
 rename_i c_ hc_
 refine' cutR (R:=∀ (c:List Int) v6,Order n c->EvS B c_ { nx:=fun e=>∃ A',e[0]?=some (some (Sl.io A'))/\Q' A' (Sl.st PyData.none),rt:=fun s e=>∃ A',e[0]?=some (some (Sl.io A'))/\Q' A' s } [some (.io OSt),some (.st (.int most)),some (.st (.int x)),some (.st (.int n)),some (.st (.int (x / most % 5))),some (.st (.list (c.map .int))),v6,none,none,none,none,none,none]) (fun R=>?K1) ?K2
 case K1 =>
  row_cond go
  refine adg (fun h=>?_) (fun h=>?_)
  ·row_cond go
   refine ⟨fun j ys e=>∃ (o:Option PyData) (c left:List Int),e=[stO o,some (.io (OL (left.map .int))),some (.io OSt)]/\ys=c.map .int/\c.length=j/\Order n (c ++ left),⟨none,[],(List.range n.toNat).map fun (i:Nat)=>(i:Int),by rw [← ap0];rfl,rfl,rfl,Order.id n⟩,?_,?_,?_⟩
   ·rintro i ys e g
    refine exS3 e g fun o c left a=>?_
    have b9:=a.1
    have O:=a.2.1
    have M:=a.2.2
    clear a g
    exact ⟨⟨isIo_stO.symm,ac0⟩,⟨rfl,rfl⟩,⟨rfl,rfl⟩,True.intro⟩
   ·rintro i d ys e hd ⟨o,c,left,rfl,rfl,O,M⟩ B' hB
    obtain ⟨hi,rfl⟩:=afw hd
    have a2:left.length=n.toNat - i:=by have:=M.len;simp at this;omega
    refine aaz (ad7 ?_)
    rw [aF6 rfl]
    show Ev B' _ [some (.st (.int (0+(i:Int)))),some (.io (OL (left.map .int))),some (.io OSt)] _
    row_cond go
    rw [aA3]
    refine ⟨(left.length:Int),rfl,rfl,by omega,by omega,fun r r0 r1=>?_⟩
    obtain ⟨y,hy⟩:∃ y,left[r.toNat]?=some y:=⟨_,aA0 (show r.toNat < left.length by omega)⟩
    refine ⟨_,left.map .int,r,r.toNat,.int y,rfl,rfl,.inr rfl,by omega,by omega,ato r0 (by rw [aA3];exact r1),a1f hy,by rw [aA3];omega,some (.int (0+(i:Int))),c ++ [y],left.eraseIdx r.toNat,?_,by rw [aE3];rfl,by rw [aB1,O];rfl,aq5 M hy⟩
    rw [ag2]
    rfl
   ·rintro ys e g
    refine exS3 e g fun o c left a=>?_
    have a5:=a.1
    have O:=a.2.1
    have M:=a.2.2
    clear a g
    subst a5
    have a2:left=[]:=by rw [act] at O;have:=M.len;simp at this;exact List.length_eq_zero_iff.mp (by omega)
    subst a2
    rw [aF0] at M
    refine abn ab9 ?_
    repeat (first | exact R _ _ M | row_cond st)
  ·rw [ap0]
   refine aj9 5 rfl ab9 ?_
   dsimp only [List.set_cons_zero,List.set_cons_succ]
   repeat (first | exact R _ _ (Order.id n) | row_cond st)
 case K2 =>
  intro c v6 M
  have a3:∀ j:Int,0<=j->j < n->atI (c.map PyData.int) j=some (.int (aa7 c j)):=fun j j0 j1=>aff j0 (by rw [aA5,(M.at j0 j1).1];rfl)
  have w0:=aE5 (x / most) (show (5:Int) ≠ 0 by omega)
  have w1:=aE6 (x / most) (show 0 < (5:Int) by omega)
  generalize x / most % 5=way at w0 w1
  row_cond go
  rw [a0u]
  refine ad8 (fun i e=>∃ v8 Y L I J l ps,e=[some (.io OSt),some (.st (.int most)),some (.st (.int x)),some (.st (.int n)),some (.st (.int way)),some (.st (.list (c.map .int))),v6,some (.own (OT (kE ps))),v8,Y,L,I,J]/\PsOk n ps/\ps.length<=i/\l.length=i/\(∀ (j:Nat) p,l[j]?=some p->0<=p.1/\p.1 < p.2/\p.2=(j:Int)+1)/\∀ p∈l,reP c p∈ps) ⟨_,_,_,_,_,[],[],rfl,⟨List.nodup_nil,fun p G=>by cases G⟩,aA6 _,rfl,fun j p h=>by simp at h,fun p G=>by cases G⟩ ?_ ?_
  ·rintro i e hi g
   refine exS7 e g fun v8 Y L I J l ps a=>?_
   have W:=a.1
   have hL:=a.2.1
   have a1:=a.2.2.1
   have Z:=a.2.2.2.1
   have C:=a.2.2.2.2
   clear a g
   have a0:1+(i:Int) < n:=by omega
   have ek:=a3 (1+(i:Int)) (by omega) a0
   have a8:(kE ps).length<=999999:=by rw [aky];omega
   row_cond go
   refine ⟨10007,rfl,rfl,by omega,by omega,fun y y0 y1=>?_⟩
   have z0:=aE5 y (show 1+(i:Int) ≠ 0 by omega)
   have z1:=aE6 y (show 0 < 1+(i:Int) by omega)
   obtain ⟨hd,a9,S,X⟩:∃ hd:Int,atI [PyData.int (1+(i:Int) - 1),PyData.int 0,PyData.int (y % (1+(i:Int))),PyData.int (if 1+(i:Int) - 1 - y % 3 > 0 then 1+(i:Int) - 1 - y % 3 else 0),PyData.int ((1+(i:Int)) / 2)] way=some (.int hd)/\0<=hd/\hd < 1+(i:Int):=by
    rcases (show way=0\/way=1\/way=2\/way=3\/way=4 by omega) with rfl | rfl | rfl | rfl | rfl
    ·exact ⟨_,rfl,by omega,by omega⟩
    ·exact ⟨_,rfl,by omega,by omega⟩
    ·exact ⟨_,rfl,by omega,by omega⟩
    ·exact ⟨_,rfl,by split <;> omega,by split <;> omega⟩
    ·exact ⟨_,rfl,by omega,by omega⟩
   have eh:=a3 hd S (by omega)
   row_cond go
   rw [anp,a1g M S X a0]
   refine ⟨_,_,_,_,_,l ++ [(hd,1+(i:Int))],_,rfl,ap9 W (a2i M ⟨S,X,a0⟩),aD0 anq (by omega),by rw [aB1,a1];rfl,fun j p G=>?_,fun p G=>?_⟩
   ·by_cases hj:j < l.length
    ·rw [aC3 hj] at G
     exact Z j p G
    ·have a4:=(aA1.mp G).1
     simp at a4
     have:j=l.length:=by omega
     subst this
     rw [aC8 (aA6 _),aI7] at G
     cases G
     exact ⟨S,X,by simp only;omega⟩
   ·rcases aA7.mp G with z | z
    ·exact addP_mem.mpr (.inl (C p z))
    ·rw [aC2.mp z]
     exact addP_mem.mpr (.inr rfl)
  ·rintro e g
   refine exS7 e g fun v8 Y L I J l ps a=>?_
   have W:=a.1
   have hL:=a.2.1
   have a1:=a.2.2.1
   have Z:=a.2.2.2.1
   have C:=a.2.2.2.2
   clear a g
   have a7:TreeT n l:=⟨by omega,Z⟩
   have hC:=a7.conn.re M
   row_cond go
   refine ⟨5,rfl,rfl,by omega,by omega,fun b b0 b1=>?_⟩
   obtain ⟨m',c1,b5,b2⟩:∃ m:Int,atI [PyData.int 0,PyData.int 1,PyData.int 2,PyData.int (n / 2),PyData.int n] b=some (.int m)/\0<=m/\m<=61:=by
    rcases (show b=0\/b=1\/b=2\/b=3\/b=4 by omega) with rfl | rfl | rfl | rfl | rfl <;> exact ⟨_,rfl,by omega,by omega⟩
   row_cond go
   refine ad8 (fun i e=>∃ v8 Y L I J ps,e=[some (.io OSt),some (.st (.int most)),some (.st (.int x)),some (.st (.int n)),some (.st (.int way)),some (.st (.list (c.map .int))),v6,some (.own (OT (kE ps))),v8,Y,L,I,J]/\PsOk n ps/\ps.length<=60+i/\∀ p∈l,reP c p∈ps) ⟨_,_,_,_,_,ps,rfl,W,by omega,C⟩ ?_ ?_
   ·rintro i e hi g
    refine exS6 e g fun v8 Y L I J ps a=>?_
    have W:=a.1
    have hL:=a.2.1
    have C:=a.2.2
    clear a g
    have a8:(kE ps).length<=999999:=by rw [aky];omega
    row_cond go
    refine ⟨n,rfl,rfl,by omega,by omega,fun ba b6 c0=>?_⟩
    row_cond go
    refine ⟨n,rfl,rfl,by omega,by omega,fun bb b4 b8=>?_⟩
    row_cond go
    refine aw2 (fun h=>?_) (fun h=>?_)
    ·row_cond go
     rw [anp]
     exact ⟨_,_,_,_,_,_,rfl,ap9 W (by simp only;split <;> split <;> omega),aD0 anq (by omega),fun p G=>addP_mem.mpr (.inl (C p G))⟩
    ·row_cond go
     exact ⟨_,_,_,_,_,ps,rfl,W,by omega,C⟩
   ·rintro e g
    refine exS6 e g fun v8 Y L I J ps a=>?_
    have W:=a.1
    have hL:=a.2.1
    have C:=a.2.2
    clear a g
    iterate 6 row_cond st
    refine abt (aq3 (.inl rfl) fun qs G hs=>adw ?_)
    row_cond go
    refine k n qs ⟨n0,n2,⟨G.nodup_iff.mpr W.nd,fun p a6=>W.inn p (G.mem_iff.mp a6)⟩,hC.mono fun u v t=>?_⟩ n1
    refine t.imp (fun z=>G.mem_iff.mpr ?_) (fun z=>G.mem_iff.mpr ?_)
    ·obtain ⟨q,hq,e⟩:=aB7.mp z
     rw [← e];exact C q hq
    ·obtain ⟨q,hq,e⟩:=aB7.mp z
     rw [← e];exact C q hq
end
theorem ajh {p:Int × Int}:∀ {es ps:List (Int × Int)},p∈es.foldl addP ps ↔ p∈ps\/p∈es
 | [],ps=>by simp
 | e :: es,ps=>by
  rw [List.foldl_cons,ajh,addP_mem,aA9,or_assoc]
theorem ay4 {n:Int} {es:List (Int × Int)} (p:1<=n) (l:Joined n es) {j:Nat} {hs:List Int} {r:Int->Int} (e:hubN n.toNat (dsF es) j=(hs,r)):(hs.length:Int)=if n < (j:Int)+1 then n else (j:Int)+1:=by
 have hn:1<=n.toNat:=by omega
 have h:=adc hn (afi es) (ado es) j e
 have d:=aho hn (ace es) j e
 have m:=ayy p e
 have b:=h.len
 rcases d.full with z | z
 ·split <;> omega
 ·have a:∀ y:Int,0<=y->y < n->y∈hs:=fun y c s=>by
   obtain ⟨g,f,u⟩:=d.att y
   have m:=amc hn r c (by omega)
   have b:=h.mem g f
   have:=ahq l b.1 (by omega) c s (by omega)
   exact this ▸ f
  have:=aE8 (l₁:=(List.range n.toNat).map fun (i:Nat)=>(i:Int)) (l₂:=hs) (Order.id n).nodup fun q o=>by
   have:=(Order.id n).mem.mp o
   exact a q this.1 this.2
  simp at this
  split <;> omega
theorem ak8 {n:Int} {es w a:List (Int × Int)} {k:Int} {hs:List Int} {r:Int->Int} (K:1<=n) (j:InN n a) (e:hubN n.toNat (dsF es) k.toNat=(hs,r)) (s:Joined n es) (F:ajg n es k w) (o:a.Perm (es ++ w)) {y:Int} (l:0<=y) (A:y < n) :
  dsF a 0 y<=mxF n.toNat r+1:=by
 have hn:1<=n.toNat:=by omega
 have G:=adc hn (afi es) (ado es) k.toNat e
 have C:=aho hn (ace es) k.toNat e
 have f:Joined n a:=aep s (by omega) o
 have i:∀ p∈es,p∈a:=fun p h=>o.mem_iff.mpr (aA7.mpr (.inl h))
 obtain ⟨rest,B,q,D,_,rfl⟩:=F
 rw [e] at q
 simp only at q
 have one:∀ g∈hs,dsF a 0 g<=1:=fun g d=>by
  by_cases hz:g=0
  ·rw [hz,ac1];omega
  ·have m:g∈rest:=by
    rw [q] at d
    rcases aA9.mp d with z | z
    ·exact absurd z hz
    ·exact z
   have E:Tied a 0 g:=.inl (by
    refine o.mem_iff.mpr (aA7.mpr ?_)
    by_cases hin2:((0:Int),g)∈es
    ·exact .inl hin2
    ·refine .inr (aB7.mpr ⟨g,aE1.mpr ⟨D.mem_iff.mpr m,by simpa using hin2⟩,rfl⟩))
   have:=af7 f j (u:=0) (by omega) (by omega) E
   rw [ac1] at this
   omega
 obtain ⟨g,d,J⟩:=C.att y
 have b:=G.mem g d
 have H:=amc hn r l (by omega)
 have I:=ahp s i (u:=g) (v:=y) b.1 (by omega) l A
 have M:=one g d
 have L:=aij f (u:=0) (c:=g) (x:=y) (by omega) (by omega) b.1 (by omega) l A
 omega
theorem HoldsAt.mono {T U:Int->Int->Prop} {d:Int} {m:Int->Int->Int} {a b:Int} (h:HoldsAt T d m a b) (g:∀ u v,T u v->U u v):HoldsAt U d m a b :=
 ⟨h.1,fun ne=>by obtain ⟨f,c,p,t,e⟩:=h.2 ne;exact ⟨f,c,p,g _ _ t,e⟩⟩
theorem ak9 {n d:Int} {es:List (Int × Int)} {m:Int->Int->Int} (f:Joined n es) (c:InN n es) (h:ahn n es d m):∀ (j:Nat) (a b:Int),0<=a->a < n->0<=b->b < n->m a b=(j:Int)->dsF es a b<=(j:Int)
 | j,a,b,a0,a1,b0,b1,e=>by
  by_cases hab:a=b
  ·subst hab;rw [ac1];omega
  ·obtain ⟨i,l,p,t,ep⟩:=(h.2 a b a0 a1 b0 b1).2 hab
   have q:=t.in c
   match j,e with
   | 0,e=>omega
   | j+1,e =>
    have o:=ak9 f c h j p b (by omega) (by omega) b0 b1 (by push_cast at e;omega)
    have g:=af7 f c b0 b1 t.symm
    rw [ace es b a,ace es b p] at g
    push_cast
    omega
theorem av2 {n d:Int} {es:List (Int × Int)} {m:Int->Int->Int} (f:Joined n es) (c:InN n es) (h:ahn n es d m) {a b:Int} (a0:0<=a) (a1:a < n) (b0:0<=b) (b1:b < n):dsF es a b<=d:=by
 by_cases hab:a=b
 ·subst hab;rw [ac1];exact h.1
 ·obtain ⟨g,i,_⟩:=(h.2 a b a0 a1 b0 b1).2 hab
  have:=ak9 f c h (m a b).toNat a b a0 a1 b0 b1 (by omega)
  omega
structure FreeL (n:Int) (es fs:List (Int × Int)):Prop where
 nd:fs.Nodup
 inn:∀ p∈fs,0<=p.1/\p.1 < p.2/\p.2 < n/\p ∉ es
def ay5:VP:=fun ss Q=>∃ (n:Int) (es:List (Int × Int)),ss=[.st (webD n es)]/\1<=n/\n<=60/\es.length<=5000/\∀ fs,FreeL n es fs->fs.length<=3600->Q (.own (OL (fs.map prD)))
theorem FreeL.len {n:Int} {es fs:List (Int × Int)} (h:FreeL n es fs) (c:1<=n) (d:n<=60):fs.length<=3600:=by
 have:=afg (n:=n.toNat) h.nd fun p b=>by have:=h.inn p b;omega
 have a:n.toNat<=60:=by omega
 exact aD0 this (Nat.mul_le_mul a a)
section
variable {P:Program} {w:World} {K:Frag} {mg:Str->Option Value} {base:Heap}
theorem sc_law_free:FnScope ["web","found","there","a"] ["web"] (aai s_law_free):=by row_cond sc
theorem aod (T:Txt K mg):Can P w K mg base "_law_free" 1 ["web"] (spP K (ay5)):=by
 obtain ⟨f,fd,D⟩:=T.d_law_free
 refine D.can (D.fn.ok sc_law_free (fun vs H Q E h=>lenP h fun ss M q=>by obtain ⟨n,es,rfl,u,C,y,k⟩:=q;rfl) (fun cdv A outer s H vs Q E I h=>?_))
 have nd:=sc_law_free.nd
 refine ⟨_,(aac (aan (i:=1) nd rfl (Or.inl rfl) (abv aab))
  (aac (aan (i:=2) nd rfl (Or.inr rfl) (agg (arb rfl I.units) (by rfl) T.b_dict aw3 (aaa (ac9 rfl (N:=["tie"]) (src:=[none]) (by exact aa8 rfl rfl rfl rfl rfl rfl) (abe (aas aat (pv 0) aad (fun _ _=>rfl))) (fun _ _ _ _=>(aak (i:=0) (show List.Nodup (["tie"]:List Str) by decide +kernel) rfl (Or.inl rfl) (hf:=Or.inr rfl))) (fun _ _ _ _=>aba) (fun _ _ _ _=>(ab3 (aaa (pv 0) (aaa abp aab))))) aab)))
  (aac (acv aJ9 rfl (abi rfl T.b_range (aaa (aas aat (pv 0) aad (fun _ _=>rfl)) aab)) (aak (i:=3) nd rfl (Or.inr rfl))
   (aaf (abh (aco PySem.F.plainAttrs_list PySem.F.slot_list_extend PySem.F.type_list_extend arw (pv 1) (aaa (ac9 rfl (N:=["b","a","there"]) (src:=[none,some 3,some 2]) (by exact aa8 rfl rfl rfl rfl rfl rfl) (akg rfl T.b_range (aaa (aam abg (pv 3) aad) (aaa (aas aat (pv 0) aad (fun _ _=>rfl)) aab))) (fun _ _ _ _=>(aak (i:=0) (show List.Nodup (["b","a","there"]:List Str) by decide +kernel) rfl (Or.inl rfl) (hf:=Or.inr rfl))) (fun _ _ _ _=>ag7 (azc (ary (aqk I) (ab3 (aaa (pv 1) (aaa (pv 0) aab))) (pv 2)))) (fun _ _ _ _=>(ab3 (aaa (pv 1) (aaa (pv 0) aab))))) aab)))))
  (aaf (aar (pv 1)))))),?_⟩
 refine aa3 h fun ss M q B S=>?_
 refine exS2 ss q fun n es c=>?_
 have u:=c.1
 have C:=c.2.1
 have y:=c.2.2.1
 have k:=c.2.2.2
 clear c q
 show EvS B _ _ [some (.st (webD n es)),none,none,none]
 row_cond go
 refine atd ?_
 row_cond go
 refine ⟨es,rfl,by omega,?_⟩
 row_cond go
 refine ad8 (fun i e=>∃ v fs,e=[some (.st (webD n es)),some (.own (OL (fs.map prD))),some (.own (OT (kE (es.foldl addP [])))),v]/\FreeL n es fs/\∀ p∈fs,p.1 < (i:Int)) ⟨_,[],rfl,⟨List.nodup_nil,fun p g=>by cases g⟩,fun p g=>by cases g⟩ ?_ ?_
 ·rintro i e hi d
  refine exS2 e d fun v fs c=>?_
  have l:=c.1
  have x:=c.2
  clear c d
  have O:=l.len u C
  row_cond go
  unfold rngD
  refine ate (xs:=List.range (n - (0+(i:Int)+1)).toNat) (f:=fun j:Nat => .int (0+(i:Int)+1+(j:Int))) (fun j:Nat=>prD ((i:Int),(i:Int)+1+(j:Int))) (fun j => !decide (((i:Int),(i:Int)+1+(j:Int))∈es)) (fun o=>rfl) (by simp;omega) (fun j m U R=>?_) ?_
  ·repeat (first | (refine afv (aja (.inr rfl) ?_)) | (refine awh (aja (.inr rfl) ?_)) | row_cond st)
   refine ⟨_,[Sum.inl (0+(i:Int)),Sum.inl (0+(i:Int)+1+(j:Int))],.inr rfl,rfl,_,rfl,?_,rfl,fun _=>?_⟩
   ·rw [a06,aI8]
    congr 2
    rw [eq_iff_iff,ajh]
    simp
   ·row_cond go
    rw [aI8]
    exact ⟨rfl,rfl⟩
  ·row_cond go
   refine ⟨_,_,rfl,rfl,?_,?_⟩
   ·have:=aF3 (fun j:Nat => !decide (((i:Int),(i:Int)+1+(j:Int))∈es)) (List.range (n - (0+(i:Int)+1)).toNat)
    rw [aE0] at this
    rw [aA3,aA3]
    omega
   ·refine ⟨_,fs ++ ((List.range (n - (0+(i:Int)+1)).toNat).filter fun j:Nat => !decide (((i:Int),(i:Int)+1+(j:Int))∈es)).map fun j:Nat=>((i:Int),(i:Int)+1+(j:Int)),by rw [aE3,aD9];rfl,⟨?_,fun p g=>?_⟩,fun p g=>?_⟩
    ·rw [aE7]
     refine ⟨l.nd,List.Pairwise.map _ (fun a b (r:a ≠ b) z=>r ?_) (List.Pairwise.filter _ List.nodup_range),fun p g q L z=>?_⟩
     ·have:=congrArg Prod.snd z
      simp only at this
      omega
     ·obtain ⟨j,_,rfl⟩:=aB7.mp L
      have:=x p g
      rw [z] at this
      simp only at this
      omega
    ·rcases aA7.mp g with z | z
     ·exact l.inn p z
     ·obtain ⟨j,m,rfl⟩:=aB7.mp z
      obtain ⟨G,J⟩:=aE1.mp m
      have G:=aB9.mp G
      exact ⟨by simp only;omega,by simp only;omega,by simp only;omega,by simpa using J⟩
    ·rcases aA7.mp g with z | z
     ·have:=x p z
      push_cast
      omega
     ·obtain ⟨j,m,rfl⟩:=aB7.mp z
      show (i:Int) < _
      push_cast
      omega
 ·rintro e d
  refine exS2 e d fun v fs c=>?_
  have l:=c.1
  have x:=c.2
  clear c d
  row_cond go
  exact k fs l (l.len u C)
end
theorem ahr (a:List (Int × Int)) (x:Int):aao (.tuple [.list (a.map prD),.int x])=true/\(PyData.tuple [.list (a.map prD),.int x]).depth<=60:=by
 constructor
 ·have:=af1 a
  simp only [aao,plainDs,this,Bool.and_self]
 ·have h:PyData.depthAll (a.map prD)<=1:=aee fun d hd=>by
   obtain ⟨p,_,rfl⟩:=aB7.mp hd
   exact agw p
  simp only [PyData.depth,PyData.depthAll]
  omega
theorem ahs (x:Int) (hs:List Int):aao (.tuple [.int x,.list (hs.map .int)])=true/\(PyData.tuple [.int x,.list (hs.map .int)]).depth<=60:=by
 constructor
 ·have:=atn hs
  simp only [aao,plainDs,this,Bool.and_self]
 ·have h:PyData.depthAll (hs.map PyData.int)<=1:=aee fun d hd=>by
   obtain ⟨p,_,rfl⟩:=aB7.mp hd
   simp [PyData.depth]
  simp only [PyData.depth,PyData.depthAll]
  omega
def a1i:VP:=fun ss Q=>∃ (n k:Int) (es:List (Int × Int)),ss=[.st (webD n es),.st (.int k)]/\JWeb n es/\0<=k/\k<=20/\Q (.st (.bool true))
def av3:VP:=fun ss Q=>∃ (n:Int) (es:List (Int × Int)),ss=[.st (webD n es)]/\JWeb n es/\Q (.st (.bool true))
section
variable {P:Program} {w:World} {K:Frag} {mg:Str->Option Value} {base:Heap}
theorem sc_law_hubs_right:FnScope ["web","k","wide","places","ties","far","later","nearest","ahead","more"] ["web","k"] (aai s_law_hubs_right):=by row_cond sc
theorem ag3 (T:Txt K mg):Can P w K mg base "_law_hubs_right" 11 ["web","k"] (spP K (a1i)):=by
 obtain ⟨f,fd,D⟩:=T.d_law_hubs_right
 refine D.can (D.fn.ok sc_law_hubs_right (fun vs H Q E h=>lenP h fun ss Q' q=>by obtain ⟨n,k,es,rfl,G,k0,k1,kk⟩:=q;rfl) (fun cdv A outer s H vs Q E m h=>?_))
 have nd:=sc_law_hubs_right.nd
 refine ⟨_,(aac (adf (aae (acn T) m (aaa (pv 0) (aaa (pv 1) aab))) (ade rfl (aa2 (aak (i:=2) nd rfl (Or.inl rfl)) (aa2 (aak (i:=3) nd rfl (Or.inr rfl)) acs))))
  (aac (adf (aae (ag1 T) m (aaa (pv 0) (aaa (pv 1) aab))) (ade rfl (aa2 (aak (i:=4) nd rfl (Or.inl rfl)) (aa2 (aak (i:=5) nd rfl (Or.inl rfl)) acs))))
  (aac (aan (i:=6) nd rfl (Or.inl rfl) (aae (aes T) m (aaa (pv 0) (aaa (ac9 rfl (N:=["tie"]) (src:=[none]) (by exact aa8 rfl rfl rfl rfl rfl rfl) (abe (pv 4)) (fun _ _ _ _=>(aak (i:=0) (show List.Nodup (["tie"]:List Str) by decide +kernel) rfl (Or.inl rfl) (hf:=Or.inr rfl))) (fun _ _ _ _=>aba) (fun _ _ _ _=>(pv 0))) aab))))
  (aac (abc (PW.pt (adi (aav aet (aas aat (aae (ab4 T) m (aaa (pv 6) aab)) aad (fun _ _=>rfl)) (pv 5) (aau _)) (adq (aav (amx m.units) (ac9 rfl (N:=["tie"]) (src:=[none]) (by exact aa8 rfl rfl rfl rfl rfl rfl) (abe (pv 4)) (fun _ _ _ _=>(aak (i:=0) (show List.Nodup (["tie"]:List Str) by decide +kernel) rfl (Or.inl rfl) (hf:=Or.inr rfl))) (fun _ _ _ _=>ag7 (aav (agp m.units) aad (pv 0) rfl)) (fun _ _ _ _=>(pv 0))) (abv aab) (aau _)))))
   (aaf (aar abp))
   aa0)
  (aac (abc (PW.pt (adi (aav aet (aah aa9 (by rfl) T.b_len abw (aaa (pv 3) aab)) (aah (ada rfl) (by rfl) T.b_min aek (aaa (aam abg (pv 1) aad) (aaa (aas aat (pv 0) aad (fun _ _=>rfl)) aab))) (aau _)) (adi (aav aet (aas aat (pv 3) aad (fun _ _=>rfl)) aad (aau _)) (adq (aav aet (aah aop (by rfl) T.b_len abw (aaa (agg (atb rfl) (by rfl) T.b_set azx (aaa (pv 3) aab)) aab)) (aah aa9 (by rfl) T.b_len abw (aaa (pv 3) aab)) (aau _))))))
   (aaf (aar abp))
   aa0)
  (aac (atg (i:=7) nd rfl (Or.inl rfl) rfl (x0:="b") (N:=["b","web","places"]) (src:=[none,some 0,some 3]) (by exact at4 rfl (fun _ _=>rfl) (fun _=>rfl) rfl rfl rfl rfl rfl rfl) (abi rfl T.b_range (aaa (aas aat (pv 0) aad (fun _ _=>rfl)) aab)) (fun _ _ _ _=>(aak (i:=0) (show List.Nodup (["b","web","places"]:List Str) by decide +kernel) rfl (Or.inr rfl) (hf:=Or.inl rfl))) (fun _ _ _ _=>aba) (fun _ _ _ _=>(aah (show aa5 _ (.builtin "min") (al4 K) from (akr rfl)) (by rfl) T.b_min aek (aaa (ac9 rfl (N:=["a","web","b"]) (src:=[none,some 1,some 0]) (by exact aa8 rfl rfl rfl rfl rfl rfl) (show PI _ _ _ (aly K _) from abe (pv 2)) (fun _ _ _ _=>(aak (i:=0) (show List.Nodup (["a","web","b"]:List Str) by decide +kernel) rfl (Or.inl rfl) (hf:=Or.inr rfl))) (fun _ _ _ _=>aba) (fun _ _ _ _=>(aae (aor T) m (aaa (pv 1) (aaa (pv 0) (aaa (pv 2) aab)))))) aab))))
  (aac (abc (aav aet (aah (ab0 rfl) (by rfl) T.b_max acj (aaa (pv 7) aab)) (pv 2) (aau _))
   (aaf (aar abp))
   aa0)
  (aac (aan (i:=8) nd rfl (Or.inl rfl) (aah (ab0 rfl) (by rfl) T.b_max acj (aaa (aae (aeg T) m (aaa (pv 6) (aaa aad aab))) aab)))
  (aac (abc (PW.pt (adi (aav afa (pv 8) (aam abg (pv 2) aad) (aau _)) (adi (aav afa (aas aat (aae (afk T) m (aaa (pv 6) aab)) aad (fun _ _=>rfl)) (aam abg (pv 2) aad) (aau _)) (adq (aav afa (pv 5) (aam abg (aam acw aad (pv 2)) aad) (aau _))))))
   (aaf (aar abp))
   aa0)
  (aac (aan (i:=9) nd rfl (Or.inl rfl) (aae (acn T) m (aaa (pv 0) (aaa (aah (ada rfl) (by rfl) T.b_min aek (aaa aad (aaa (aam abg (pv 1) aad) aab))) aab))))
  (aaf (aar (adr (ab1 afr (aas aat (pv 9) aad (fun _ _=>rfl)) (pv 2) (aau _)) (aei (ab1 (asb m.units) (amj ao1 (aas aat (pv 9) aad (fun _ _=>rfl)) aox (aoy (aah aa9 (by rfl) T.b_len abw (aaa (pv 3) aab)))) (pv 3) (aau _)))))))))))))))),?_⟩
 refine aa3 h fun ss Q' q B hK=>?_
 refine exS3 ss q fun n k es u=>?_
 have G:=u.1
 have k0:=u.2.1
 have k1:=u.2.2.1
 have kk:=u.2.2.2
 clear u q
 show EvS B _ _ [some (.st (webD n es)),some (.st (.int k)),none,none,none,none,none,none,none,none]
 have hn:=G.lo
 have c2:=G.hi
 have o:=G.inn
 have F:Joined n es:=G.conn.joined (by omega)
 have b6:=G.len
 have j:1<=n.toNat:=by omega
 obtain ⟨hs,r,C⟩:∃ hs r,hubN n.toNat (dsF es) k.toNat=(hs,r):=⟨_,_,rfl⟩
 have hI:=adc j (afi es) (ado es) k.toNat C
 have hG:=aho j (ace es) k.toNat C
 obtain ⟨rest,m⟩:=hI.hd
 have d1:(0:Int)∈hs:=by rw [m];simp
 have d0:hs.length<=21:=by have:=hI.len;omega
 have Y:=ay4 hn F C
 rw [show ((k.toNat:Nat):Int)=k by omega] at Y
 row_cond go
 refine ⟨n,es,k,rfl,hn,by omega,o,by omega,F,k0,k1,?_⟩
 rw [aeb C]
 refine abn ae3 ?_
 row_cond go
 refine ⟨n,es,k,rfl,hn,by omega,o,by omega,G.ps.nd,F,k0,k1,fun Z qs x a b X J hR l S=>?_⟩
 obtain ⟨_,c3⟩:=aob hn G.ps.nd X
 have b7:qs.length<=4000:=by rw [l.length_eq,aB1];omega
 have c:InN n qs:=fun p a7=>by
  rcases aA7.mp (l.mem_iff.mp a7) with z | z
  ·exact o p z
  ·have:=J.inn p z
   exact ⟨by omega,by omega,by omega,by omega⟩
 have M:Joined n qs:=aep F (by omega) l
 have c8:x<=2 * mxF n.toNat r+2:=by
  have:=avx hn c C F X l S.a0 S.a1 S.b0 S.b1
  rw [S.eq] at this
  exact this
 row_cond go
 refine agx (xs:=Z) (f:=prD) prD (fun _=>true) rfl (by omega) (fun p hp B' hB=>?_) ?_
 ·refine ad7 ⟨rfl,rfl,fun _=>?_⟩
  row_cond go
  exact rfl
 rw [af0]
 row_cond go
 refine ⟨n,es,Z,rfl,by omega,by omega,J,fun R a9 b2=>abn ae3 ?_⟩
 obtain rfl:R=qs:=a9.eq hR fun p=>by rw [b2.mem_iff,l.mem_iff]
 row_cond go
 refine ⟨n,R,rfl,hn,by omega,c,by omega,M,fun x3 a3 b3 a4=>?_⟩
 obtain rfl:=a1d S a4
 row_cond go
 refine agx (xs:=Z) (f:=prD) prD (fun _=>false) rfl (by omega) (fun p hp B' hB=>?_) ?_
 ·obtain ⟨g,O,rfl⟩:∃ g,g∈hs/\p=(0,g):=by
   obtain ⟨a6,c5,e1,hq,_,a2⟩:=X
   rw [a2] at hp
   obtain ⟨g,O,e⟩:=aB7.mp hp
   rw [C] at e1
   simp only at e1
   exact ⟨g,by rw [e1];exact aB5 _ (hq.mem_iff.mp (aE1.mp O).1),e.symm⟩
  show EvT B' _ (some (.st (.tuple [.int 0,.int g])) :: _) _
  row_cond go
  refine auv rfl rfl (by simp [PyData.depth]) ?_
  rw [aF6 rfl,show ([PyData.int 0,PyData.int g].any fun z=>PyData.eqv z (.int 0))=true from rfl]
  row_cond go
  intro z;cases z
 rw [show (Z.filter fun _=>false).map prD=[] by simp]
 row_cond go
 refine aj8 rfl rfl (by decide) ?_
 row_cond go
 rw [aF7 (show ¬ ((!(PyData.list []).eqv (PyData.list []))=true) from aB0)]
 have c9:(hs.map PyData.int).length=hs.length:=aA3 ..
 have b8:atI (hs.map PyData.int) 0=some (.int 0):=aff (by omega) (by rw [m];rfl)
 have a8:=ad4 j r
 repeat (first | (refine atf ?_) | row_cond st)
 refine ⟨hs,rfl,by omega,fun L a5 hm=>?_⟩
 have c4:L.length=hs.length:=((List.perm_ext_iff_of_nodup a5 hI.nd).mpr hm).length_eq
 row_cond go
 unfold rngD
 refine adm (xs:=List.range n.toNat) (f:=fun i:Nat => .int (0+(i:Int))) (fun i:Nat => .int (r (i:Int))) rfl (by simp;omega) (fun i hi B' hB=>?_) ?_
 ·have b9:=aB9.mp hi
  row_cond go
  refine adm (xs:=hs) (f:=PyData.int) (fun g:Int => .int (dsF es g (i:Int))) rfl (by omega) (fun g O B2 c7=>?_) ?_
  ·have W:=hI.mem g O
   obtain ⟨d,hd,ed⟩:∃ d:Nat,Gr.farO (Tied es) g (i:Int)=some d/\dsF es g (i:Int)=(d:Int):=by
    obtain ⟨d,e⟩:=af3 F W.1 (by omega) (show 0<=(i:Int) by omega) (by omega)
    exact ⟨d,e,by simp only [dsF,e,Option.getD_some]⟩
   row_cond go
   refine ⟨n,g,0+(i:Int),es,rfl,by omega,o,by omega,W.1,by omega,by omega,by omega,?_⟩
   rw [aI8,hd,ed]
   exact ⟨rfl,rfl⟩
  ·rw [show hs.map (fun g=>PyData.int (dsF es g (i:Int)))=(hs.map fun g=>dsF es g (i:Int)).map .int by rw [aD9];rfl]
   row_cond go
   refine ank (by rw [m];simp) fun x U=>?_
   have:x=r (i:Int):=by
    obtain ⟨g,O,eg⟩:=hG.att (i:Int)
    have h1:=U.2 _ (aB7.mpr ⟨g,O,rfl⟩)
    obtain ⟨g2,b4,c6⟩:=aB7.mp U.1
    have h2:=hG.le (i:Int) g2 b4
    omega
   rw [this]
   exact ⟨rfl,rfl⟩
 rw [show (List.range n.toNat).map (fun i:Nat=>PyData.int (r (i:Int)))=(abd n.toNat r).map .int by unfold abd;rw [aD9];rfl]
 row_cond go
 refine acd (aea j _) fun x U=>?_
 obtain rfl:=acp U a8
 row_cond go
 refine ⟨n,0,R,rfl,by omega,c,by omega,by omega,by omega,?_⟩
 rw [ake M (by omega) (by omega),af6]
 row_cond go
 have I:=ad4 j (dsF R 0)
 refine acd (aea j _) fun x U=>?_
 obtain rfl:=acp U I
 have c1:mxF n.toNat (dsF R 0)<=mxF n.toNat r+1:=by
  have h1:=I.1
  unfold abd at h1
  obtain ⟨i,hi,ei⟩:=aB7.mp h1
  have:=ak8 hn c C F X l (y:=(i:Int)) (by omega) (by have:=aB9.mp hi;omega)
  omega
 row_cond go
 refine ⟨n,R,rfl,hn,by omega,c,by omega,M,fun y ps hM=>ahl ?_⟩
 have b5:y<=mxF n.toNat r+1:=by
  obtain ⟨v,v0,v1,hv⟩:=hM.lo 0 (by omega) (by omega)
  have:=ak8 hn c C F X l (y:=v) v0 v1
  omega
 row_cond go
 obtain ⟨t,r',e3,c0⟩:∃ t r',hubN n.toNat (dsF es) (if k+1 < 20 then k+1 else 20).toNat=(hs ++ t,r')/\mxF n.toNat r'<=mxF n.toNat r:=by
  by_cases hk:k+1 < 20
  ·rw [aF6 hk,show (k+1).toNat=k.toNat+1 by omega]
   exact atm j C
  ·rw [aF7 hk]
   by_cases hk2:k=20
   ·subst hk2
    exact ⟨[],r,by rw [aF0];exact C,Int.le_refl _⟩
   ·rw [show (20:Int).toNat=k.toNat+1 by omega]
    exact atm j C
 refine ⟨n,es,_,rfl,hn,by omega,o,by omega,F,by split <;> omega,by split <;> omega,?_⟩
 rw [aeb e3]
 refine abn ae3 ?_
 row_cond go
 rw [aA3,ayw]
 refine apo (arf _) (arf _) (ayz _) ?_
 rw [aid (arf hs)]
 row_cond go
 exact kk
theorem sc_law_first_right:FnScope ["web","wide","places"] ["web"] (aai s_law_first_right):=by row_cond sc
theorem agd (T:Txt K mg):Can P w K mg base "_law_first_right" 11 ["web"] (spP K (av3)):=by
 obtain ⟨f,fd,D⟩:=T.d_law_first_right
 refine D.can (D.fn.ok sc_law_first_right (fun vs H Q E h=>lenP h fun ss X q=>by obtain ⟨n,es,rfl,m,G⟩:=q;rfl) (fun cdv A outer s H vs Q E g h=>?_))
 have nd:=sc_law_first_right.nd
 refine ⟨_,(aac (adf (aae (acn T) g (aaa (pv 0) (aaa aad aab))) (ade rfl (aa2 (aak (i:=1) nd rfl (Or.inl rfl)) (aa2 (aak (i:=2) nd rfl (Or.inl rfl)) acs))))
  (aac (abc (PW.pt (adi (aav (amx g.units) (pv 2) (abv (aaa aad aab)) (aau _)) (adq (aav aet (pv 1) (aah (ab0 rfl) (by rfl) T.b_max acj (aaa (aae (aeg T) g (aaa (pv 0) (aaa aad aab))) aab)) (aau _)))))
   (aaf (aar abp))
   aa0)
  (aac (abc (aav (amx g.units) (aae (ag1 T) g (aaa (pv 0) (aaa aad aab))) (ab3 (aaa (abv aab) (aaa (aas aat (aae (ab4 T) g (aaa (pv 0) aab)) aad (fun _ _=>rfl)) aab))) (aau _))
   (aaf (aar abp))
   aa0)
  (aac (abc (aav afa (aas aat (pv 0) aad (fun _ _=>rfl)) aad (aau _))
   (aaf (aar abp))
   aa0)
  (aaf (aar (ab1 (asb g.units) (aae (acn T) g (aaa (pv 0) (aaa aad aab))) (ab3 (aaa aad (aaa (aas aat (aae (acn T) g (aaa (pv 0) (aaa (aam ads (aas aat (pv 0) aad (fun _ _=>rfl)) aad) aab))) aad (fun _ _=>rfl)) aab))) (aau _)))))))),?_⟩
 refine aa3 h fun ss X q B hK=>?_
 refine exS2 ss q fun n es j=>?_
 have m:=j.1
 have G:=j.2
 clear j q
 show EvS B _ _ [some (.st (webD n es)),none,none]
 have hn:=m.lo
 have a2:=m.hi
 have c:=m.inn
 have l:Joined n es:=m.conn.joined (by omega)
 have O:=m.len
 have z:1<=n.toNat:=by omega
 have F:=ad4 z (dsF es 0)
 row_cond go
 refine ⟨n,es,0,rfl,hn,by omega,c,by omega,l,by omega,by omega,?_⟩
 rw [aeb (show hubN n.toNat (dsF es) (0:Int).toNat=([0],dsF es 0) from rfl)]
 refine abn ae3 ?_
 row_cond go
 refine aj8 rfl rfl (by decide) ?_
 rw [show PyData.eqv (.list ([0].map PyData.int)) (.list [.int 0])=true from rfl]
 row_cond go
 refine ⟨n,0,es,rfl,by omega,c,by omega,by omega,by omega,?_⟩
 rw [ake l (by omega) (by omega),af6]
 row_cond go
 refine acd (aea z _) fun x hx=>?_
 obtain rfl:=acp hx F
 row_cond go
 refine ⟨n,es,0,rfl,hn,by omega,c,by omega,m.ps.nd,l,by omega,by omega,fun ts qs x a b Z M hR y p=>?_⟩
 have I:ts=[]:=by
  obtain ⟨o,S,N,W,_,C⟩:=Z
  have:o=[]:=by
   rw [show hubN n.toNat (dsF es) (0:Int).toNat=([0],dsF es 0) from rfl] at N
   simpa using N.symm
  subst this
  rw [C,W.eq_nil]
  rfl
 subst I
 rw [aF0] at y
 row_cond go
 refine ⟨n,es,rfl,hn,by omega,c,by omega,l,fun Y a' b' d=>?_⟩
 have L:x=Y:=by
  have hd:dsF qs=dsF es:=avw fun u v=>Tied.perm y
  have h1:=d.top.2 a b p.a0 (by have:=p.a1;omega) p.b0 (by have:=p.b1;omega)
  have U:=p.top.2 a' b' d.a0 (by have:=d.a1;omega) d.b0 (by have:=d.b1;omega)
  have h3:=p.eq
  have h4:=d.eq
  rw [hd] at U h3
  omega
 subst L
 row_cond go
 refine aj8 (ahr [] x).1 (ahr [] x).1 (ahr [] x).2 ?_
 rw [show (PyData.tuple [PyData.list (List.map prD []),PyData.int x]).eqv (PyData.tuple [PyData.list [],PyData.int x])=true from aid (ahr [] x).1]
 row_cond go
 refine adg (fun h=>?_) (fun h=>?_)
 ·row_cond go
  exact G
 ·obtain ⟨hs,r,J⟩:∃ hs r,hubN n.toNat (dsF es) (n - 1).toNat=(hs,r):=⟨_,_,rfl⟩
  obtain ⟨R,_⟩:=ayx hn l J (by omega)
  have e3:hubN n.toNat (dsF es) (20:Int).toNat=(hs,r):=by
   have:=aii J (by omega) ((20:Int).toNat - (n - 1).toNat)
   rw [show (n - 1).toNat+((20:Int).toNat - (n - 1).toNat)=(20:Int).toNat by omega] at this
   exact this
  row_cond go
  refine ⟨n,es,20,rfl,hn,by omega,c,by omega,l,by omega,by omega,?_⟩
  rw [aeb e3]
  refine ahl ?_
  row_cond go
  refine ⟨n,es,n - 1,rfl,hn,by omega,c,by omega,l,by omega,by omega,?_⟩
  rw [aeb J]
  refine ahl ?_
  row_cond go
  rw [R]
  refine apo (ahs _ _).1 (ahs _ _).1 (ahs _ _).2 ?_
  rw [aid (ahs _ _).1]
  row_cond go
  exact G
end
def arh (K:Frag):Sp:=fun vs H Q _=>∃ (a:Addr) (ns:List Int),vs=[.ref a]/\SqL K H a (ns.map V.int)/\ns.length<=63/\∀ H',Q (.bl true) H'
def awt:VP:=fun ss Q=>∃ ns:List Int,ss=[.scr ns]/\ns.length<=63/\Q (.st (.bool true))
theorem av4 {K:Frag} {vs:List V} {H:Hp} {Q:VK} {E:XK} (h:arh K vs H Q E):spP K awt vs H Q E:=by
 obtain ⟨a,ns,rfl,b,c,k⟩:=h
 refine ⟨H,[.scr ns],fun s=>s=.st (.bool true),Same.refl _,fun a ks h=>h,.cons ⟨a,rfl,b⟩ .nil,⟨ns,rfl,c,rfl⟩,fun s e v G' H' Fv o=>?_⟩
 subst e
 have r:=o.ok.1
 cases r
 exact k _
def av5:VIo:=fun A ss Q=>∃ (n:Int) (es:List (Int × Int)),A=OSt/\ss=[.st (webD n es)]/\JWeb n es/\Q OSt (.st (.bool true))
theorem a1j (es:List (Int × Int)):PyData.hasDictAll (es.map prD)=false:=by
 induction es with
 | nil=>rfl
 | cons p es ih=>show (PyData.hasDict (prD p) || PyData.hasDictAll (es.map prD))=false;rw [ih];rfl
theorem av6 {n:Int} {es:List (Int × Int)} (h:JWeb n es):(webD n es).showable=true/\(webD n es).shown.length<=sizeLine/\(webD n es).hasDict=false/\aao (webD n es)=true/\(webD n es).depth<=60:=by
 have hn:=h.lo
 have g:=h.hi
 have j:=h.len
 have f:=ath (b:=24) (ds:=es.map prD) fun d hd=>by
  obtain ⟨p,a,rfl⟩:=aB7.mp hd
  have:=h.ps.inn p a
  exact an1 (aig (i:=p.1) (by omega) (by omega)) (aig (i:=p.2) (by omega) (by omega))
 have c:=an1 (aig (i:=n) (by omega) (by omega)) f
 have a:aao (webD n es)=true:=by
  have:=af1 es
  simp only [webD,aao,plainDs,this,Bool.and_self]
 refine ⟨c.1,aD0 c.2 ?_,?_,a,?_⟩
 ·rw [aA3,sizeLine_eq]
  omega
 ·show (false || (PyData.hasDictAll (es.map prD) || false))=false
  rw [a1j];rfl
 ·have h:PyData.depthAll (es.map prD)<=1:=aee fun d hd=>by
   obtain ⟨p,_,rfl⟩:=aB7.mp hd
   exact agw p
  simp only [webD,PyData.depth,PyData.depthAll]
  omega
theorem FreeL.take {n:Int} {es fs b:List (Int × Int)} {k:Nat} {p:Int × Int} (h:FreeL n es (fs ++ b)) (c:fs[k]?=some p):FreeL n es (fs.eraseIdx k ++ (b ++ [p])):=by
 have a:=(aA1.mp c).1
 have d:(fs.eraseIdx k ++ (b ++ [p])).Perm (fs ++ b):=by
  have g:fs.Perm (p :: fs.eraseIdx k):=by
   have e:fs[k]'a=p:=(aA1.mp c).2
   have f:fs=fs.take k ++ p :: fs.drop (k+1):=by
    conv=>lhs;rw [← aC1 k fs,List.drop_eq_getElem_cons a,e]
   rw [List.eraseIdx_eq_take_drop_succ]
   conv=>lhs;rw [f]
   exact List.perm_middle
  refine List.Perm.trans ?_ (g.symm.append_right b)
  rw [List.cons_append,← aB4]
  exact List.perm_append_singleton _ _
 exact ⟨d.nodup_iff.mpr h.nd,fun q i=>h.inn q (d.mem_iff.mp i)⟩
theorem FreeL.right {n:Int} {es fs a:List (Int × Int)} (h:FreeL n es (fs ++ a)):FreeL n es a:=⟨(aE7.mp h.nd).2.1,fun p b=>h.inn p (aA7.mpr (.inr b))⟩
theorem FreeL.put {n:Int} {es c:List (Int × Int)} (h:FreeL n es c) (hd:es.Nodup):PutOk n es c:=⟨fun p d=>by have:=h.inn p d;exact ⟨this.1,this.2.1,this.2.2.1⟩,aE7.mpr ⟨hd,h.nd,fun a ha b hb e=>(h.inn b hb).2.2.2 (e ▸ ha)⟩⟩
section
variable {P:Program} {w:World} {K:Frag} {mg:Str->Option Value} {base:Heap}
theorem sc_law_papers_right:FnScope ["store","web","free","some","k","later","far","nearer","paper","other"] ["store","web"] (aai s_law_papers_right):=by row_cond sc
theorem af8 (T:Txt K mg):Can P w K mg base "_law_papers_right" 11 ["store","web"] (spI K (av5)):=by
 obtain ⟨f,fd,D⟩:=T.d_law_papers_right
 refine D.can (D.fn.ok sc_law_papers_right (fun vs H Q E h=>lenI h fun A ss Q' q=>by obtain ⟨n,es,rfl,rfl,O,kk⟩:=q;rfl) (fun cdv A outer s H vs Q E y h=>?_))
 have nd:=sc_law_papers_right.nd
 refine ⟨_,(aac (aan (i:=2) nd rfl (Or.inl rfl) (aae (aod T) y (aaa (pv 1) aab)))
  (aac (aan (i:=3) nd rfl (Or.inl rfl) (abv aab))
  (aac (acv aJ9 rfl (abi rfl T.b_range (aaa (aah (ada rfl) (by rfl) T.b_min aek (aaa (aah aa9 (by rfl) T.b_len abw (aaa (pv 2) aab)) (aaa (aam abg aad (aae (aa4 T) y (aaa (pv 0) (aaa aad aab)))) aab))) aab)) (aak (i:=4) nd rfl (Or.inl rfl))
   (aaf (abh (aco PySem.F.plainAttrs_list PySem.F.slot_list_append PySem.F.type_list_append abr (pv 3) (aaa (aco PySem.F.plainAttrs_list PySem.F.slot_list_pop PySem.F.type_list_pop amn (pv 2) (aaa (aae (aa4 T) y (aaa (pv 0) (aaa (aah aa9 (by rfl) T.b_len abw (aaa (pv 2) aab)) aab))) aab)) aab)))))
  (aac (aan (i:=5) nd rfl (Or.inl rfl) (aae (aes T) y (aaa (pv 1) (aaa (pv 3) aab))))
  (aac (aan (i:=6) nd rfl (Or.inl rfl) (aas aat (aae (ab4 T) y (aaa (pv 1) aab)) aad (fun _ _=>rfl)))
  (aac (aan (i:=7) nd rfl (Or.inl rfl) (aas aat (aae (ab4 T) y (aaa (pv 5) aab)) aad (fun _ _=>rfl)))
  (aac (aan (i:=8) nd rfl (Or.inl rfl) (aae (agc T) y (aaa (pv 1) aab)))
  (aac (abc (PW.pt (adi (aav afa (pv 7) (pv 6) (aau _)) (adq (aav ayo (aae (aer T) y (aaa (pv 5) (aaa (pv 6) (aaa (pv 8) aab)))) abp (aau _)))))
   (aaf (aar abp))
   aa0)
  (aac (aan (i:=9) nd rfl (Or.inl rfl) (aae (agc T) y (aaa (pv 5) aab)))
  (aac (abc (PW.pt (ame (acg (aae (aer T) y (aaa (pv 1) (aaa (pv 7) (aaa (pv 9) aab))))) (aji (aav afa (pv 6) (pv 7) (aau _)))))
   (aaf (aar abp))
   aa0)
  (aaf (aar (adr (ab1 a0z (aae (aer T) y (aaa (pv 5) (aaa (pv 7) (aaa (pv 9) aab)))) abp (aau _)) (aei (ab1 afr (aas aat (aae (afk T) y (aaa (pv 5) aab)) aad (fun _ _=>rfl)) (aas aat (aae (afk T) y (aaa (pv 1) aab)) aad (fun _ _=>rfl)) (aau _)))))))))))))))),?_⟩
 refine aqy h fun A0 ss Q' q B hK=>?_
 obtain ⟨n,es,rfl,rfl,O,kk⟩:=q
 show EvS B _ _ [some (.io OSt),some (.st (webD n es)),none,none,none,none,none,none,none,none]
 have hn:=O.lo
 have a8:=O.hi
 have j:=O.inn
 have J:Joined n es:=O.conn.joined (by omega)
 have b7:=O.len
 have c4:1<=n.toNat:=by omega
 row_cond go
 refine ⟨n,es,rfl,hn,a8,by omega,fun fs hF c5=>?_⟩
 row_cond go
 refine ⟨4,rfl,rfl,by omega,by omega,fun m m0 m1=>?_⟩
 row_cond go
 rw [aA3]
 row_cond go
 refine ad8 (fun i e=>∃ v4 I L,e=[some (.io OSt),some (.st (webD n es)),some (.own (OL (I.map prD))),some (.own (OL (L.map prD))),v4,none,none,none,none,none]/\FreeL n es (I ++ L)/\L.length=i/\I.length+i=fs.length) ⟨_,fs,[],rfl,by rw [aF0];exact hF,rfl,rfl⟩ ?_ ?_
 ·rintro i e hi G
  refine exS3 e G fun v4 I L c=>?_
  have hG:=c.1
  have S:=c.2.1
  have b3:=c.2.2
  clear c G
  have c2:(i:Int) < fs.length:=by
   revert hi
   split <;> omega
  row_cond go
  rw [aA3]
  refine ⟨_,rfl,rfl,by omega,by omega,fun r ra rb=>?_⟩
  obtain ⟨p,hp⟩:∃ p,I[r.toNat]?=some p:=⟨_,aA0 (show r.toNat < I.length by omega)⟩
  row_cond go
  refine ⟨_,I.map prD,r,r.toNat,prD p,rfl,rfl,.inl rfl,by omega,by omega,ato ra (by rw [aA3];exact rb),by rw [aA5,hp];rfl,?_⟩
  dsimp only [List.set_cons_zero,List.set_cons_succ,reS]
  refine ⟨_,rfl,by rw [aA3];omega,?_⟩
  refine ⟨some (.st (.int (0+(i:Int)))),I.eraseIdx r.toNat,L ++ [p],?_,hG.take hp,by rw [aB1,S];rfl,by rw [List.length_eraseIdx_of_lt (by omega)];omega⟩
  rw [ag2,aE3]
  rfl
 ·rintro e G
  refine exS3 e G fun v4 I L c=>?_
  have hG:=c.1
  have S:=c.2.1
  have b3:=c.2.2
  clear c G
  have hT:=hG.right
  have N:=hT.put O.ps.nd
  have b8:L.length<=4:=by
   rw [S]
   split <;> omega
  refine aj9 3 rfl ab9 ?_
  dsimp only [List.set_cons_zero,List.set_cons_succ]
  row_cond go
  refine ⟨n,es,L,rfl,by omega,by omega,N,fun g c6 M=>abn ae3 ?_⟩
  have C:InN n g:=fun p a9=>by
   rcases aA7.mp (M.mem_iff.mp a9) with z | z
   ·exact j p z
   ·have:=N.inn p z
    exact ⟨by omega,by omega,by omega,by omega⟩
  have c0:g.length<=4000:=by rw [M.length_eq,aB1];omega
  have x:Joined n g:=aep J (by omega) M
  have o:∀ p∈es,p∈g:=fun p h=>M.mem_iff.mpr (aA7.mpr (.inl h))
  have a3:∀ u v,Tied es u v->Tied g u v:=fun u v t=>t.imp (o _) (o _)
  row_cond go
  refine ⟨n,es,rfl,hn,by omega,j,by omega,J,fun far a b l=>?_⟩
  row_cond go
  refine ⟨n,g,rfl,hn,by omega,C,by omega,x,fun near a' b' Y=>?_⟩
  have b9:=l.le Y J o
  row_cond go
  refine ⟨n,es,rfl,hn,by omega,j,by omega,J,abn ab9 ?_⟩
  row_cond go
  refine ⟨n,far,g,.list (matD n.toNat (dsF es)),rfl,hn,by omega,C,by omega,x,(fun z=>by rw [af4 (by omega)] at z;cases z),fun mm em bb a6=>?_⟩
  have a4:bb=true:=by
   refine a6.mpr ?_
   have a2:matD n.toNat (dsF es)=matD n.toNat mm:=by injection em
   have:=(ak7 (d:=far) J j a2 hn).mpr fun u v u0 u1 v0 v1=>l.top.2 u v u0 (by omega) v0 (by omega)
   exact ⟨this.1,fun a b a0 a1 b0 b1=>(this.2 a b a0 a1 b0 b1).mono a3⟩
  subst a4
  row_cond go
  refine avm ?_
  row_cond go
  refine ⟨n,g,rfl,hn,by omega,C,by omega,x,abn ab9 ?_⟩
  row_cond go
  refine ⟨n,near,es,.list (matD n.toNat (dsF g)),rfl,hn,by omega,j,by omega,J,(fun z=>by rw [af4 (by omega)] at z;cases z),fun m2 a7 bb X=>?_⟩
  have b6:matD n.toNat (dsF g)=matD n.toNat m2:=by injection a7
  rename_i c_ hc_
  refine' cutR (R:=EvS B c_ { nx:=fun e=>∃ A',e[0]?=some (some (Sl.io A'))/\Q' A' (Sl.st PyData.none),rt:=fun s e=>∃ A',e[0]?=some (some (Sl.io A'))/\Q' A' s } [some (.io OSt),some (.st (webD n es)),some (.own (OL (I.map prD))),some (.st (.list (L.map prD))),v4,some (.st (webD n g)),some (.st (.int far)),some (.st (.int near)),some (.st (.list (matD n.toNat (dsF es)))),some (.st (.list (matD n.toNat (dsF g))))]) (fun R=>?K1) ?K2
  case K1 =>
   cases bb with
   | false => repeat (first | exact R | row_cond st)
   | true =>
    have hP:=X.mp rfl
    have:far<=near:=by
     have:=av2 J j hP l.a0 l.a1 l.b0 l.b1
     rw [l.eq] at this
     exact this
    repeat (first | exact R | row_cond st)
  case K2 =>
   row_cond go
   refine ⟨n,near,g,.list (matD n.toNat (dsF g)),rfl,hn,by omega,C,by omega,x,(fun z=>by rw [af4 (by omega)] at z;cases z),fun m3 b4 b2 W=>?_⟩
   have Z:matD n.toNat (dsF g)=matD n.toNat m3:=by injection b4
   have U:b2=true:=W.mpr ((ak7 (d:=near) x C Z hn).mpr fun u v u0 u1 v0 v1=>Y.top.2 u v u0 (by omega) v0 (by omega))
   subst U
   row_cond go
   refine aye ?_
   row_cond go
   refine ⟨n,g,rfl,hn,by omega,C,by omega,x,fun y1 c3 a5=>ahl ?_⟩
   row_cond go
   refine ⟨n,es,rfl,hn,by omega,j,by omega,J,fun y2 c1 b5=>ahl ?_⟩
   have hy:=b5.less a5 J o
   row_cond go
   rw [aD7 hy]
   exact kk
theorem sc_law:FnScope ["script","store","turn","wide","web","copy","k"] ["script"] (aai s_law):=by row_cond sc
theorem ay6 (T:Txt K mg) {f:Addr} {fd:FuncData} (D:DefAt K mg "law" s_law ["script"] f fd):FnOk P w K mg base CX0 12 f fd ["script"] (spP K (awt)):=by
 refine D.fn.ok sc_law (fun vs H Q E h=>lenP h fun ss U q=>by obtain ⟨ns,rfl,l,I⟩:=q;rfl) (fun cdv A outer s H vs Q E c h=>?_)
 have nd:=sc_law.nd
 refine ⟨_,(aac (aan (i:=1) nd rfl (Or.inl rfl) (abv (aaa (aae (alw T) c (aaa (pv 0) (aaa aad aab))) (aaa aad aab))))
  (aac (acv aJ9 rfl (abi rfl T.b_range (aaa aad aab)) (aak (i:=2) nd rfl (Or.inl rfl))
   (aac (aan (i:=3) nd rfl (Or.inl rfl) (adr (ab1 ae9 (pv 2) aad (aau _)) (aei (ab1 ae9 (aae (aa4 T) c (aaa (pv 1) (aaa aad aab))) aad (aau _)))))
    (aac (aan (i:=4) nd rfl (Or.inl rfl) (aae (aos T) c (aaa (pv 1) (aaa (aas aat (abv (aaa aad (aaa aad aab))) (agg aqn (by rfl) T.b_int ar8 (aaa (pv 3) aab)) (fun _ _=>rfl)) aab))))
    (aac (aan (i:=5) nd rfl (Or.inl rfl) (aah (show aa5 _ (.builtin "repr") ama from ak2 c) (by rfl) T.b_repr apw (aaa (pv 4) aab)))
    (aac (acv aJ9 rfl (abe (abv (aaa (aae (aa4 T) c (aaa (pv 1) (aaa aad aab))) (aaa (aae (aa4 T) c (aaa (pv 1) (aaa aad aab))) aab)))) (aak (i:=6) nd rfl (Or.inl rfl))
     (aaf (abc (ach (acg (aae (ag3 T) c (aaa (pv 4) (aaa (pv 6) aab)))))
       (aaf (aar abp))
       aa0)))
    (aaf (abc (PW.pt (adi (ach (acg (aae (agd T) c (aaa (pv 4) aab)))) (adi (ach (acg (aae (af8 T) c (aaa (pv 1) (aaa (pv 4) aab))))) (adq (aav aet (aah (show aa5 _ (.builtin "repr") ama from ak2 c) (by rfl) T.b_repr apw (aaa (pv 4) aab)) (pv 5) (aau _))))))
     (aaf (aar abp))
     aa0)))))))
  (aaf (aar abp)))),?_⟩
 refine aa3 h fun ss U q B hK=>?_
 refine exS1 ss q fun ns g=>?_
 have l:=g.1
 have I:=g.2
 clear g q
 show EvS B _ _ [some (.scr ns),none,none,none,none,none,none]
 row_cond go
 refine ⟨ns,600,rfl,l,by decide,by decide,fun ds L hl hD=>adw ?_⟩
 repeat (first | (refine av1 1 (by omega) (by omega) rfl ?_) | row_cond st)
 dsimp only [List.set_cons_zero,List.set_cons_succ]
 refine ad8 (fun i e=>∃ v y p o d,e=[some (.scr ns),some (.own OSt),v,y,p,o,d]) ⟨_,_,_,_,_,rfl⟩ ?_ ?_
 ·rintro i e hi a
  refine exE5 e a fun v y p o d=>?_
  clear a
  row_cond go
  rename_i c_ hc_
  refine' cutR (R:=∀ b:Bool,EvS B c_ ?d1 [some (.scr ns),some (.own OSt),some (.st (.int (0+(i:Int)))),some (.st (.bool b)),p,o,d]) (fun R=>?K1) ?K2
  case K1 =>
   refine adg (fun h=>?_) (fun h=>?_)
   ·row_cond go
    refine ⟨8,rfl,rfl,by omega,by omega,fun r ra rb=>?_⟩
    repeat (first | exact R _ | row_cond st)
   ·repeat (first | exact R _ | row_cond st)
  case K2 =>
   intro b
   obtain ⟨m,W,x,z⟩:∃ m:Int,atI [PyData.int 20,PyData.int 60] (if b=true then 1 else 0)=some (.int m)/\1<=m/\m<=60:=by
    cases b
    ·exact ⟨20,rfl,by omega,by omega⟩
    ·exact ⟨60,rfl,by omega,by omega⟩
   row_cond go
   refine ⟨m,rfl,rfl,x,z,fun n es u Z=>?_⟩
   obtain ⟨s1,s2,J,F,G⟩:=av6 u
   row_cond go
   refine asd ?_
   row_cond go
   refine an0 F ⟨_,.inr rfl⟩ s1 J s2 G ?_
   row_cond go
   refine ⟨4,rfl,rfl,by omega,by omega,fun C X O=>?_⟩
   row_cond go
   refine ⟨21,rfl,rfl,by omega,by omega,fun Y S M=>?_⟩
   row_cond go
   refine afx (xs:=[C,Y]) (f:=PyData.int) (fun j e=>∃ d,e=[some (.scr ns),some (.own OSt),some (.st (.int (0+(i:Int)))),some (.st (.bool b)),some (.st (webD n es)),some (.st (.str (webD n es).shown)),d]) ⟨_,rfl⟩ ?_ ?_
   ·rintro j k e N a
    refine exE1 e a fun d=>?_
    clear a
    obtain ⟨k0,C⟩:0<=k/\k<=20:=by
     have:=aA2 N
     simp only [aA9,aI4,or_false] at this
     rcases this with rfl | rfl <;> omega
    row_cond go
    refine ⟨n,k,es,rfl,u,k0,C,?_⟩
    row_cond go
    exact ⟨_,rfl⟩
   ·rintro e a
    refine exE1 e a fun d=>?_
    clear a
    row_cond go
    refine ⟨n,es,rfl,u,?_⟩
    row_cond go
    refine ⟨n,es,rfl,rfl,u,?_⟩
    row_cond go
    refine an0 F ⟨_,.inr rfl⟩ s1 J s2 G ?_
    row_cond go
    exact ⟨_,_,_,_,_,rfl⟩
 ·rintro e a
  refine exE5 e a fun v y p o d=>?_
  clear a
  row_cond go
  exact I
theorem a1k (T:Txt K mg) {f:Addr} {fd:FuncData} (D:DefAt K mg "law" s_law ["script"] f fd):FnOk P w K mg base CX0 12 f fd ["script"] (arh K):=(ay6 T D).imp fun _ _ _ _ h=>av4 h
end
theorem len0 {α:Type} {us:List α} (h:us.length=0):us=[]:=aH3 h
theorem len1 {α:Type} {us:List α} (h:us.length=1):∃ a0,us=[a0]:=by
 cases us with
 | nil=>cases h
 | cons a us=>exact ⟨a,by rw [len0 (Nat.succ.inj h)]⟩
theorem len2 {α:Type} {us:List α} (h:us.length=2):∃ a0 a1,us=[a0,a1]:=by
 cases us with
 | nil=>cases h
 | cons a us=>obtain ⟨a1,e⟩:=len1 (Nat.succ.inj h);exact ⟨a,a1,by rw [e]⟩
theorem len3 {α:Type} {us:List α} (h:us.length=3):∃ a0 a1 b,us=[a0,a1,b]:=by
 cases us with
 | nil=>cases h
 | cons a us=>obtain ⟨a1,b,e⟩:=len2 (Nat.succ.inj h);exact ⟨a,a1,b,by rw [e]⟩
theorem len4 {α:Type} {us:List α} (h:us.length=4):∃ a0 a1 c b,us=[a0,a1,c,b]:=by
 cases us with
 | nil=>cases h
 | cons a us=>obtain ⟨a1,c,b,e⟩:=len3 (Nat.succ.inj h);exact ⟨a,a1,c,b,by rw [e]⟩
theorem len5 {α:Type} {us:List α} (h:us.length=5):∃ a0 a1 c b d,us=[a0,a1,c,b,d]:=by
 cases us with
 | nil=>cases h
 | cons a us=>obtain ⟨a1,c,b,d,e⟩:=len4 (Nat.succ.inj h);exact ⟨a,a1,c,b,d,by rw [e]⟩
def Bnd (x:Str) (st:Stmt) (ps:List Str):Prop:=∀ (kV doc pm:Value) (an:Option Addr) (cdv ct:Value) (us:List Value),us.length=ps.length->bindArgs (fnOf x x (aci st) (ab5 st) (aai st) .none kV doc pm an cdv ct) ⟨us,[]⟩=pure (ps.zip us)
def FnIn (K:Frag) (x:Str) (st:Stmt):Prop:=∃ f oc od kV dc pm an cd ct sl,nsIn K mainGlobals x=some (some (.ref f))/\K.lookup f=some ⟨oc,od,.func (fnOf x x (aci st) (ab5 st) (aai st) .none kV dc pm an cd ct),sl⟩/\codeIn K cd x=true/\keepIn K (.ref f)=true
theorem fn_in {K:Frag} {x:Str} {st:Stmt} {f:Addr} {od an:Option Addr} {sl:Array (Option Value)} {oc kV d pm b ct:Value} (a:nsIn K mainGlobals x=some (some (.ref f))) (l:K.lookup f=some ⟨oc,od,.func (fnOf x x (aci st) (ab5 st) (aai st) .none kV d pm an b ct),sl⟩) (c:codeIn K b x=true) (k:keepIn K (.ref f)=true):FnIn K x st:=⟨f,oc,od,kV,d,pm,an,b,ct,sl,a,l,c,k⟩
theorem bnd1 {st:Stmt} {x:Str} {ps:List Str} (c:ps.length=1) (h:∀ (kV doc pm:Value) (an:Option Addr) (cdv ct:Value) (a:Value),bindArgs (fnOf x x (aci st) (ab5 st) (aai st) .none kV doc pm an cdv ct) ⟨[a],[]⟩=pure (ps.zip [a])):Bnd x st ps:=by
 intro kV doc pm an cdv ct us b
 rw [c] at b
 obtain ⟨_,rfl⟩:=len1 b
 exact h _ _ _ _ _ _ _
theorem bnd2 {st:Stmt} {x:Str} {ps:List Str} (d:ps.length=2) (h:∀ (kV doc pm:Value) (an:Option Addr) (cdv ct:Value) (b c:Value),bindArgs (fnOf x x (aci st) (ab5 st) (aai st) .none kV doc pm an cdv ct) ⟨[b,c],[]⟩=pure (ps.zip [b,c])):Bnd x st ps:=by
 intro kV doc pm an cdv ct us a
 rw [d] at a
 obtain ⟨_,_,rfl⟩:=len2 a
 exact h _ _ _ _ _ _ _ _
theorem bnd3 {st:Stmt} {x:Str} {ps:List Str} (f:ps.length=3) (h:∀ (kV doc pm:Value) (an:Option Addr) (cdv ct:Value) (c d a:Value),bindArgs (fnOf x x (aci st) (ab5 st) (aai st) .none kV doc pm an cdv ct) ⟨[c,d,a],[]⟩=pure (ps.zip [c,d,a])):Bnd x st ps:=by
 intro kV doc pm an cdv ct us b
 rw [f] at b
 obtain ⟨_,_,_,rfl⟩:=len3 b
 exact h _ _ _ _ _ _ _ _ _
theorem bnd5 {st:Stmt} {x:Str} {ps:List Str} (i:ps.length=5) (h:∀ (kV doc pm:Value) (an:Option Addr) (cdv ct:Value) (f g c d a:Value),bindArgs (fnOf x x (aci st) (ab5 st) (aai st) .none kV doc pm an cdv ct) ⟨[f,g,c,d,a],[]⟩=pure (ps.zip [f,g,c,d,a])):Bnd x st ps:=by
 intro kV doc pm an cdv ct us b
 rw [i] at b
 obtain ⟨_,_,_,_,_,rfl⟩:=len5 b
 exact h _ _ _ _ _ _ _ _ _ _ _
theorem aaw {K:Frag} {h:Heap} {mg:Str->Option Value} {x:Str} {st:Stmt} {ps:List Str} (X:K.In h) (G:h.Ns mainGlobals mg) (q:FnIn K x st)
  (hb:Bnd x st ps):∃ f fd,DefAt K mg x st ps f fd:=by
 obtain ⟨f,oc,od,kV,b,pm,an,d,ct,sl,a,l,c,k⟩:=q
 exact ⟨_,_,have F:=azp (st:=st) l c k;⟨F,mg_of X G a,F.binds hb⟩⟩
theorem txt_mk {K:Frag} {h:Heap} {mg:Str->Option Value} (X:K.In h) (G:h.Ns mainGlobals mg)
  {a:Tok} 
  (h0:FnIn K "is_whole" s_is_whole)
  (h1:FnIn K "is_between" s_is_between)
  (h2:FnIn K "need_number" s_need_number)
  (h3:FnIn K "is_place" s_is_place)
  (h4:FnIn K "is_tie" s_is_tie)
  (h5:FnIn K "are_ties" s_are_ties)
  (h6:FnIn K "is_rising" s_is_rising)
  (h7:FnIn K "tied_places" s_tied_places)
  (h8:FnIn K "far_from" s_far_from)
  (h9:FnIn K "need_place" s_need_place)
  (Z:FnIn K "all_far" s_all_far)
  (T:FnIn K "how_far" s_how_far)
  (J:FnIn K "is_joined" s_is_joined)
  (W:FnIn K "need_joined" s_need_joined)
  (B:FnIn K "far_rows" s_far_rows)
  (P:FnIn K "most_far" s_most_far)
  (M:FnIn K "farthest_two" s_farthest_two)
  (U:FnIn K "middles" s_middles)
  (a0:FnIn K "far_paper" s_far_paper)
  (O:FnIn K "far_shows" s_far_shows)
  (S:FnIn K "is_square" s_is_square)
  (Q:FnIn K "is_long" s_is_long)
  (I:FnIn K "number_holds" s_number_holds)
  (N:FnIn K "with_ties" s_with_ties)
  (Y:FnIn K "hubs_for" s_hubs_for)
  (D:FnIn K "hub_ties" s_hub_ties)
  (A:FnIn K "_law_draws" s_law_draws)
  (R:FnIn K "_law_take" s_law_take)
  (E:FnIn K "_law_web" s_law_web)
  (z:FnIn K "_law_free" s_law_free)
  (H:FnIn K "_law_hubs_right" s_law_hubs_right)
  (L:FnIn K "_law_first_right" s_law_first_right)
  (C:FnIn K "_law_papers_right" s_law_papers_right)
  (F:FnIn K "law" s_law)
  (c:nsIn K mainGlobals "ValueError" = some none)
  (v:nsIn K mainGlobals "all" = some none)
  (x:nsIn K mainGlobals "max" = some none)
  (p:nsIn K mainGlobals "min" = some none)
  (q:nsIn K mainGlobals "any" = some none)
  (g:nsIn K mainGlobals "sorted" = some none)
  (f:nsIn K mainGlobals "enumerate" = some none)
  (j:nsIn K mainGlobals "range" = some none)
  (n:nsIn K mainGlobals "list" = some none)
  (m:nsIn K mainGlobals "dict" = some none)
  (d:nsIn K mainGlobals "isinstance" = some none)
  (y:nsIn K mainGlobals "int" = some none)
  (s:nsIn K mainGlobals "len" = some none)
  (r:nsIn K mainGlobals "abs" = some none)
  (l:nsIn K mainGlobals "repr" = some none)
  (o:nsIn K mainGlobals "bool" = some none)
  (i:nsIn K mainGlobals "tuple" = some none)
  (w:nsIn K mainGlobals "zip" = some none)
  (u:nsIn K mainGlobals "set" = some none)
  (b:nsIn K mainGlobals "MOST_HUB_TIES" = some (some (.int 20 a)))
  : Txt K mg where
  b_ValueError:=mg_none_of X G c
  b_all:=mg_none_of X G v
  b_max:=mg_none_of X G x
  b_min:=mg_none_of X G p
  b_any:=mg_none_of X G q
  b_sorted:=mg_none_of X G g
  b_enumerate:=mg_none_of X G f
  b_range:=mg_none_of X G j
  b_list:=mg_none_of X G n
  b_dict:=mg_none_of X G m
  b_isinstance:=mg_none_of X G d
  b_int:=mg_none_of X G y
  b_len:=mg_none_of X G s
  b_abs:=mg_none_of X G r
  b_repr:=mg_none_of X G l
  b_bool:=mg_none_of X G o
  b_tuple:=mg_none_of X G i
  b_zip:=mg_none_of X G w
  b_set:=mg_none_of X G u
  v_MOST_HUB_TIES:=⟨_,mg_of X G b⟩
  d_is_whole:=aaw X G h0 (bnd1 rfl fun _ _ _ _ _ _ _=>rfl)
  d_is_between:=aaw X G h1 (bnd3 rfl fun _ _ _ _ _ _ _ _ _=>rfl)
  d_need_number:=aaw X G h2 (bnd3 rfl fun _ _ _ _ _ _ _ _ _=>rfl)
  d_is_place:=aaw X G h3 (bnd2 rfl fun _ _ _ _ _ _ _ _=>rfl)
  d_is_tie:=aaw X G h4 (bnd2 rfl fun _ _ _ _ _ _ _ _=>rfl)
  d_are_ties:=aaw X G h5 (bnd2 rfl fun _ _ _ _ _ _ _ _=>rfl)
  d_is_rising:=aaw X G h6 (bnd1 rfl fun _ _ _ _ _ _ _=>rfl)
  d_tied_places:=aaw X G h7 (bnd1 rfl fun _ _ _ _ _ _ _=>rfl)
  d_far_from:=aaw X G h8 (bnd2 rfl fun _ _ _ _ _ _ _ _=>rfl)
  d_need_place:=aaw X G h9 (bnd2 rfl fun _ _ _ _ _ _ _ _=>rfl)
  d_all_far:=aaw X G Z (bnd2 rfl fun _ _ _ _ _ _ _ _=>rfl)
  d_how_far:=aaw X G T (bnd3 rfl fun _ _ _ _ _ _ _ _ _=>rfl)
  d_is_joined:=aaw X G J (bnd1 rfl fun _ _ _ _ _ _ _=>rfl)
  d_need_joined:=aaw X G W (bnd1 rfl fun _ _ _ _ _ _ _=>rfl)
  d_far_rows:=aaw X G B (bnd1 rfl fun _ _ _ _ _ _ _=>rfl)
  d_most_far:=aaw X G P (bnd1 rfl fun _ _ _ _ _ _ _=>rfl)
  d_farthest_two:=aaw X G M (bnd1 rfl fun _ _ _ _ _ _ _=>rfl)
  d_middles:=aaw X G U (bnd1 rfl fun _ _ _ _ _ _ _=>rfl)
  d_far_paper:=aaw X G a0 (bnd1 rfl fun _ _ _ _ _ _ _=>rfl)
  d_far_shows:=aaw X G O (bnd3 rfl fun _ _ _ _ _ _ _ _ _=>rfl)
  d_is_square:=aaw X G S (bnd2 rfl fun _ _ _ _ _ _ _ _=>rfl)
  d_is_long:=aaw X G Q (bnd2 rfl fun _ _ _ _ _ _ _ _=>rfl)
  d_number_holds:=aaw X G I (bnd5 rfl fun _ _ _ _ _ _ _ _ _ _ _=>rfl)
  d_with_ties:=aaw X G N (bnd2 rfl fun _ _ _ _ _ _ _ _=>rfl)
  d_hubs_for:=aaw X G Y (bnd2 rfl fun _ _ _ _ _ _ _ _=>rfl)
  d_hub_ties:=aaw X G D (bnd2 rfl fun _ _ _ _ _ _ _ _=>rfl)
  d_law_draws:=aaw X G A (bnd2 rfl fun _ _ _ _ _ _ _ _=>rfl)
  d_law_take:=aaw X G R (bnd2 rfl fun _ _ _ _ _ _ _ _=>rfl)
  d_law_web:=aaw X G E (bnd2 rfl fun _ _ _ _ _ _ _ _=>rfl)
  d_law_free:=aaw X G z (bnd1 rfl fun _ _ _ _ _ _ _=>rfl)
  d_law_hubs_right:=aaw X G H (bnd2 rfl fun _ _ _ _ _ _ _ _=>rfl)
  d_law_first_right:=aaw X G L (bnd1 rfl fun _ _ _ _ _ _ _=>rfl)
  d_law_papers_right:=aaw X G C (bnd2 rfl fun _ _ _ _ _ _ _ _=>rfl)
  d_law:=aaw X G F (bnd1 rfl fun _ _ _ _ _ _ _=>rfl)
theorem walk {l:PySem.W.OpenLaw} {q:Program} {b:List Str} {y:(Str->Option Value)->Heap->Prop} {j:World->Heap->Prop} {d:DefRec} {K:Params->Frag} (hn:l.most=some 63) (g:d.params.defaults=[]) (c:d.name = "law")
  (m:∀ (w:World) (h:Heap),j w h->(K w.params).In h)
  (F:∀ (w:World) (mg:Str->Option Value) (h:Heap),(K w.params).In h->h.Ns mainGlobals mg->Txt (K w.params) mg) :
  PySem.W.WalkO q b y j l.row.toRowW d [] (fun f vs=>PySem.call f vs):=by
 refine L2.walk_of (n:=63) (k:=12) (x:="script") (CX:=fun _=>CX0) (sp:=fun w=>arh (K w.params)) hn (by decide) g ⟨rfl,by decide,by decide,rfl⟩ m (fun w mg fa h X G e=>?_) (fun _ _ a ns r _ o=>⟨a,ns,rfl,o,r,fun _=>rfl⟩) fun _ _ _ _ _ z=>z
 have T:=F w mg h X G
 rw [c] at e
 obtain ⟨f1,i,D⟩:=T.d_law
 have p:=e.symm.trans D.mgx
 cases p
 refine ⟨i,fun s u=>?_,fun base _ _=>?_⟩
 ·obtain ⟨oc,od,kV,doc,pm,an,cdv,ct,osl,rfl,A,v⟩:=D.fn.ex
  exact .of_eq rfl
 ·exact a1k T D
end G
end
theorem PySem.W.Fast.tw15423571126052821761 : True := trivial
theorem PySem.W.Fast.tw8523251202983609660 : True := trivial
theorem PySem.W.Fast.tw10664074668792740767 : True := trivial
theorem PySem.W.Fast.tw9341712662883789816 : True := trivial
theorem PySem.W.Fast.tw7660443969851227134 : True := trivial
theorem PySem.W.Fast.tw10066189597037810345 : True := trivial
theorem PySem.W.Fast.tw16645238064374920521 : True := trivial
theorem PySem.W.Fast.tw7861338985286927471 : True := trivial
theorem PySem.W.Fast.tw9986771968785952140 : True := trivial
theorem PySem.W.Fast.tw3494385991517076465 : True := trivial
theorem PySem.W.Fast.tw11109245791322750197 : True := trivial
theorem PySem.W.Fast.tw7035635070660250994 : True := trivial
theorem PySem.W.Fast.tw11822002276626564360 : True := trivial
theorem PySem.W.Fast.tw8658700601623736952 : True := trivial
theorem PySem.W.Fast.tw1404468289426828471 : True := trivial
theorem PySem.W.Fast.tw10189386653629272619 : True := trivial
theorem PySem.W.Fast.tw7878114842888466215 : True := trivial
theorem PySem.W.Fast.tw7345178458040583693 : True := trivial
theorem PySem.W.Fast.tw10487473837202035849 : True := trivial
theorem PySem.W.Fast.tw8445070858106901693 : True := trivial
theorem PySem.W.Fast.tw1166980811763426497 : True := trivial
theorem PySem.W.Fast.tw12087479699966259696 : True := trivial
theorem PySem.W.Fast.tw11407561844525903272 : True := trivial
theorem PySem.W.Fast.tw809451278893501307 : True := trivial
theorem PySem.W.Fast.tw14557455431991871347 : True := trivial
theorem PySem.W.Fast.tw3689837060150293251 : True := trivial
theorem PySem.W.Fast.tw145877856811620459 : True := trivial
theorem PySem.W.Fast.tw2555490979165114926 : True := trivial
theorem PySem.W.Fast.tw5326269851429065340 : True := trivial
theorem PySem.W.Fast.tw4846433070712855634 : True := trivial
theorem PySem.W.Fast.tw16985090283677915107 : True := trivial
theorem PySem.W.Fast.tw13092374425556627736 : True := trivial
theorem PySem.W.Fast.tw14706327129808713872 : True := trivial
theorem PySem.W.Fast.tw8718434136547527833 : True := trivial
theorem PySem.W.Fast.tw9045524496975711808 : True := trivial
theorem PySem.W.Fast.tw8185458559909630349 : True := trivial
theorem PySem.W.Fast.tw2552679759642066506 : True := trivial
theorem PySem.W.Fast.tw337629571386241454 : True := trivial
theorem PySem.W.Fast.tw7837099191826479175 : True := trivial
theorem PySem.W.Fast.tw18291087033850320999 : True := trivial
theorem PySem.W.Fast.tw5369276436856958357 : True := trivial
theorem PySem.W.Fast.tw14872484904826921849 : True := trivial
theorem PySem.W.Fast.tw8831361988277059462 : True := trivial
theorem PySem.W.Fast.tw10521715993194007992 : True := trivial
theorem PySem.W.Fast.tw13677842878610114901 : True := trivial
theorem PySem.W.Fast.tw8976184232554207396 : True := trivial
theorem PySem.W.Fast.tw15979518218708345736 : True := trivial
theorem PySem.W.Fast.tw2670003422242644179 : True := trivial
theorem PySem.W.Fast.tw10223051463160660848 : True := trivial
theorem PySem.W.Fast.tw13848807203667484761 : True := trivial
theorem PySem.W.Fast.tw7099916007962806494 : True := trivial
theorem PySem.W.Fast.tw4677602174656224196 : True := trivial
theorem PySem.W.Fast.tw10415315665201641923 : True := trivial
theorem PySem.W.Fast.tw15252497686200485207 : True := trivial
theorem PySem.W.Fast.tw18120184460575878535 : True := trivial
theorem PySem.W.Fast.tw16934226200239198538 : True := trivial
theorem PySem.W.Fast.tw158878809363683201 : True := trivial
theorem PySem.W.Fast.tw11479044964341917365 : True := trivial
theorem PySem.W.Fast.tw17696473980167607457 : True := trivial
theorem PySem.W.Fast.tw17596699788922585508 : True := trivial
theorem PySem.W.Fast.tw12815388185989457424 : True := trivial
theorem PySem.W.Fast.tw6279244560622366110 : True := trivial
theorem PySem.W.Fast.tw208644450056346895 : True := trivial
theorem PySem.W.Fast.tw14233691255353875021 : True := trivial
theorem PySem.W.Fast.tw14141455198729172969 : True := trivial
theorem PySem.W.Fast.tw295484664420797441 : True := trivial
theorem PySem.W.Fast.tw7003306915206283921 : True := trivial
theorem PySem.W.Fast.tw17647991337026139616 : True := trivial
theorem PySem.W.Fast.tw6345589101717415588 : True := trivial
theorem PySem.W.Fast.tw2268889119683117773 : True := trivial
theorem PySem.W.Fast.tw15768878027558245502 : True := trivial
theorem PySem.W.Fast.tw8079653763516563174 : True := trivial
theorem PySem.W.Fast.tw10115592005336996337 : True := trivial
theorem PySem.W.Fast.tw16602672207955304741 : True := trivial
theorem PySem.W.Fast.tw1608156633285054258 : True := trivial
theorem PySem.W.Fast.tw7149195018749317442 : True := trivial
theorem PySem.W.Fast.tw17698453252816057243 : True := trivial
theorem PySem.W.Fast.tw1513526338699222802 : True := trivial
theorem PySem.W.Fast.tw14186887061805252242 : True := trivial
theorem PySem.W.Fast.tw5210809158538874014 : True := trivial
theorem PySem.W.Fast.tw6598632473721329065 : True := trivial
theorem PySem.W.Fast.tw14102976660689557859 : True := trivial
theorem PySem.W.Fast.tw171085170345963911 : True := trivial
theorem PySem.W.Fast.tw1409180608640709540 : True := trivial
theorem PySem.W.Fast.tw2571047674730265776 : True := trivial
theorem PySem.W.Fast.tw10001355405863623447 : True := trivial
theorem PySem.W.Fast.tw2090100439854363104 : True := trivial
theorem PySem.W.Fast.tw18256731434619327536 : True := trivial
theorem PySem.W.Fast.tw10372146608260375263 : True := trivial
theorem PySem.W.Fast.tw971137311014660848 : True := trivial
theorem PySem.W.Fast.tw3765851867084050888 : True := trivial
theorem PySem.W.Fast.tw3248482959927135395 : True := trivial
theorem PySem.W.Fast.tw6123997468531511167 : True := trivial
theorem PySem.W.Fast.tw15349476665872129974 : True := trivial
theorem PySem.W.Fast.tw9584498971645542398 : True := trivial
theorem PySem.W.Fast.tw8942544350542513519 : True := trivial
theorem PySem.W.Fast.tw6485948821551734492 : True := trivial
theorem PySem.W.Fast.tw14330123750581106037 : True := trivial
theorem PySem.W.Fast.tw13835094065700290334 : True := trivial
theorem PySem.W.Fast.tw16909809782221666698 : True := trivial
theorem PySem.W.Fast.tw5849905535647046253 : True := trivial
theorem PySem.W.Fast.tw2719486341980365738 : True := trivial
theorem PySem.W.Fast.tw16523890929810323709 : True := trivial
theorem PySem.W.Fast.tw1958717613766011540 : True := trivial
theorem PySem.W.Fast.tw1845443453902909394 : True := trivial
theorem PySem.W.Fast.tw15825533912499693836 : True := trivial
theorem PySem.W.Fast.tw11649881117393758742 : True := trivial
theorem PySem.W.Fast.tw17868594001531440334 : True := trivial
theorem PySem.W.Fast.tw8118455800590390676 : True := trivial
theorem PySem.W.Fast.tw17809332816978619852 : True := trivial
theorem PySem.W.Fast.tw4256316326375859091 : True := trivial
theorem PySem.W.Fast.tw14092137526804427824 : True := trivial
theorem PySem.W.Fast.tw17455600476073534856 : True := trivial
theorem PySem.W.Fast.tw17949676230461342608 : True := trivial
theorem PySem.W.Fast.tw15505732155016087322 : True := trivial
theorem PySem.W.Fast.tw14126889395061677249 : True := trivial
theorem PySem.W.Fast.tw2075517862377191806 : True := trivial
theorem PySem.W.Fast.tw14078271589488655154 : True := trivial
theorem PySem.W.Fast.tw16567928789361147070 : True := trivial
theorem PySem.W.Fast.tw4112738996106355482 : True := trivial
theorem PySem.W.Fast.tw3500115322249445628 : True := trivial
theorem PySem.W.Fast.tw2055152893288758089 : True := trivial
theorem PySem.W.Fast.tw10573983654366722150 : True := trivial
theorem PySem.W.Fast.tw843964950854594280 : True := trivial
theorem PySem.W.Fast.tw6263678400590516421 : True := trivial
theorem PySem.W.Fast.tw12738615399452272197 : True := trivial
theorem PySem.W.Fast.tw15684584041741817743 : True := trivial
theorem PySem.W.Fast.tw11337976775878243644 : True := trivial
theorem PySem.W.Fast.tw3392321572800337218 : True := trivial
theorem PySem.W.Fast.tw10571433916967437665 : True := trivial
theorem PySem.W.Fast.tw136015473786981113 : True := trivial
theorem PySem.W.Fast.tw9057076324854319157 : True := trivial
theorem PySem.W.Fast.tw8603297276379338154 : True := trivial
theorem PySem.W.Fast.tw14080380970767432510 : True := trivial
theorem PySem.W.Fast.tw18423088956137385978 : True := trivial
theorem PySem.W.Fast.tw3262641758787605771 : True := trivial
theorem PySem.W.Fast.tw4476168633317314249 : True := trivial
theorem PySem.W.Fast.tw471149219349770324 : True := trivial
theorem PySem.W.Fast.tw14195201581459199376 : True := trivial
theorem PySem.W.Fast.tw10830211643640136830 : True := trivial
theorem PySem.W.Fast.tw17768066056855661049 : True := trivial
theorem PySem.W.Fast.tw7625965978800253590 : True := trivial
theorem PySem.W.Fast.tw5330374981809053601 : True := trivial
theorem PySem.W.Fast.tw6305419760280630692 : True := trivial
theorem PySem.W.Fast.tw1584456687873094747 : True := trivial
theorem PySem.W.Fast.tw28524836568846267 : True := trivial
theorem PySem.W.Fast.tw585207973199445929 : True := trivial
theorem PySem.W.Fast.tw1059037788061490404 : True := trivial
theorem PySem.W.Fast.tw17549220559540736321 : True := trivial
theorem PySem.W.Fast.tw17391370996195968267 : True := trivial
theorem PySem.W.Fast.tw8021601728585767199 : True := trivial
theorem PySem.W.Fast.tw11213592051253171952 : True := trivial
theorem PySem.W.Fast.tw17529892198045288513 : True := trivial
theorem PySem.W.Fast.tw12841300001922666014 : True := trivial
theorem PySem.W.Fast.tw11581640413218194540 : True := trivial
theorem PySem.W.Fast.tw13097998160399944545 : True := trivial
theorem PySem.W.Fast.tw3289110825711863192 : True := trivial
theorem PySem.W.Fast.tw8503288140056259442 : True := trivial
open PySem PySem.W PyProof.Rows
set_option maxRecDepth 100000 in
set_option maxHeartbeats 0 in
theorem PySem.Challenge.cw_fewties_k53_whole_hubs_middles_and_paper_holds : PySem.Challenge.rw_fewties_k53_whole_hubs_middles_and_paper.Holds := by
 w_on;o_law;k_head;(case hw=>w_witness2)
 k_fill
 refine G.walk (l:=PySem.Challenge.rw_fewties_k53_whole_hubs_middles_and_paper) rfl rfl rfl (fun w h Y=>PySem.W.kIn_of Y) ?F
 case F =>
  intro w mg h KX GG
  refine' G.txt_mk KX GG ..
  all_goals try (refine' G.fn_in ?a_ ?l_ ?c_ ?k_;(case a_=>k_is);(case l_=>k_is);(case c_=>k_is);(case k_=>k_is))
  all_goals try k_is
#print axioms PySem.Challenge.cw_fewties_k53_whole_hubs_middles_and_paper_holds
