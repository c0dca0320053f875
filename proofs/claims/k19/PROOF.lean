import PyProof.Rows.All
import Wide.All
import OpenK.AllK
import Wide.FinOn
import PyProof.EqAt
import PyProof.EqKinds
import PyProof.TupleCall
import PyProof.NeData
import PyProof.P3In
import PyProof.WalkInts
import PyProof.Rows.SortWalk
import PyProof.SumWalkG
import PyProof.Rows.CallKwBuiltin
import KE.KDictList
import PyProof.WalksEnum
import PyProof.ZipIter
import PyProof.ConsumeWalk
import PyProof.ListRange
import PyProof.TupleOfSeq
import PyProof.Rows.RuleN_abs
import KE.KRevIter
import PyProof.Rows.SetFrom
import PySem.Challenge.RW_fewties_k19_papers_that_stay
open PySem.W (Frag kitOne mg_of nsIn mg_none_of excIn fnOf mroIn keepIn codeIn)
set_option Elab.async false
set_option linter.all false
set_option compiler.extract_closed false
set_option maxRecDepth 100000
set_option maxHeartbeats 4000000
noncomputable section
abbrev az0:=@List.getElem?_eq_getElem
abbrev az1:=@List.getElem?_eq_some_iff
abbrev az2:=@List.mem_of_getElem?
abbrev az3:=@List.length_map
abbrev az4:=@Array.getElem?_eq_getElem
abbrev az5:=@List.getElem?_map
abbrev az6:=@Nat.le_refl
abbrev az7:=@List.mem_append
abbrev az8:=@Array.length_toList
abbrev az9:=@List.mem_cons
abbrev aA0:=@Bool.false_ne_true
abbrev aA1:=@List.length_append
abbrev aA2:=@List.size_toArray
abbrev aA3:=@List.mem_append_right
abbrev aA4:=@List.append_assoc
abbrev aA5:=@List.mem_cons_of_mem
abbrev aA6:=@Nat.ne_of_lt
abbrev aA7:=@List.mem_map
abbrev aA8:=@List.mem_cons_self
abbrev aA9:=@List.mem_range
abbrev aB0:=@List.mem_of_mem_take
abbrev aB1:=@List.take_append_drop
abbrev aB2:=@List.mem_singleton
abbrev aB3:=@List.getElem?_append_left
abbrev aB4:=@List.mem_of_mem_drop
abbrev aB5:=@Nat.lt_of_lt_of_le
abbrev aB6:=@Option.some.inj
abbrev aB7:=@List.mem_append_left
abbrev aB8:=@List.getElem?_append_right
abbrev aB9:=@List.pairwise_append
abbrev aC0:=@Nat.le_trans
abbrev aC1:=@List.map_cons
abbrev aC2:=@List.getElem?_set
abbrev aC3:=@List.getD_eq_getElem?_getD
abbrev aC4:=@Array.getElem?_toList
abbrev aC5:=@decide_eq_false
abbrev aC6:=@decide_eq_true
abbrev aC7:=@List.map_map
abbrev aC8:=@Nat.lt_of_le_of_lt
abbrev aC9:=@List.map_append
abbrev aD0:=@List.length_cons
abbrev aD1:=@Int.emod_nonneg
abbrev aD2:=@Int.emod_lt_of_pos
abbrev aD3:=@List.map_congr_left
abbrev aD4:=@List.append_nil
abbrev aD5:=@List.take_of_length_le
abbrev aD6:=@List.getElem_mem
abbrev aD7:=@List.length_filter_le
abbrev aD8:=@List.all_eq_true
abbrev aD9:=@if_pos
abbrev aE0:=@if_neg
abbrev aE1:=@List.getElem?_eq_none_iff
abbrev aE2:=@Nat.lt_succ_of_lt
abbrev aE3:=@List.length_pos_iff
abbrev aE4:=@Nat.zero_le
abbrev aE5:=@List.pairwise_map
abbrev aE6:=@List.ext_getElem?
abbrev aE7:=@beq_iff_eq
abbrev aE8:=@Nat.lt_irrefl
abbrev aE9:=@Nat.le_of_lt
abbrev aF0:=@Array.toList_append
abbrev aF1:=@List.pairwise_iff_getElem
abbrev aF2:=@List.take_length
abbrev aF3:=@List.lookup_cons
abbrev aF4:=@List.length_take
abbrev aF5:=@Bool.and_eq_true
abbrev aF6:=@List.eq_nil_of_length_eq_zero
abbrev aF7:=@List.replicate_succ
abbrev aF8:=@List.take_add_one
abbrev aF9:=@List.getElem?_take_of_lt
abbrev aG0:=@List.mem_iff_getElem
abbrev aG1:=@List.getElem?_replicate
abbrev aG2:=@Bool.eq_iff_iff
abbrev aG3:=@Array.size_push
abbrev aG4:=@List.Pairwise.imp_of_mem
abbrev aG5:=@Option.map_some
abbrev aG6:=@List.getElem?_drop
abbrev aG7:=@List.not_mem_nil
abbrev aG8:=@List.nodup_cons
abbrev aG9:=@List.pairwise_cons
abbrev aH0:=@List.length_nil
open PySem PySem.Spec in
abbrev aH1:=@wpAny_bind
open PySem PySem.Spec in
abbrev aH2:=@wpAny_pure
open PySem PySem.Spec in
abbrev aH3:=@Heap.get?_push_of_some
open PySem PySem.Spec in
abbrev aH4:=@Heap.lt_size
open PySem PySem.Spec in
abbrev aH5:=@Heap.get?_push_size
open PySem PySem.Spec in
abbrev aH6:=@codeAny_mono
open PySem PySem.Spec in
abbrev aH7:=@wpAny_holding
open PySem PySem.Spec in
abbrev aH8:=@PassesOwn.never
open PySem PySem.Spec in
abbrev aH9:=@Heap.get?_update_other
open PySem PySem.Spec in
abbrev aI0:=@wpAny_mono
open PySem PySem.Spec in
abbrev aI1:=@wpAny_newObj_type
open PySem PySem.Spec in
abbrev aI2:=@Around.under_plainId
open PySem PySem.Spec in
abbrev aI3:=@Heap.size_push
open PySem PySem.Spec in
abbrev aI4:=@wpAny_call_entry
open PySem PySem.Spec in
abbrev aI5:=@wpAny_truthy_bool
open PySem PySem.Spec in
abbrev aI6:=@wpAny_pyIter_list
open PySem PySem.Spec in
abbrev aI7:=@Heap.get?_update_self
open PySem PySem.Spec in
abbrev aI8:=@codeAny_builtin
namespace L2
open PySem PySem.Spec PyProof.Rows
abbrev Key:=Sum Int Str
def afy:Key->Value->Bool
 | .inl k,v=>Value.isInt k v
 | .inr x,v=>Value.isStrOf x v
def keyH (w:World):Key->Int
 | .inl k=>hashInt k
 | .inr x=>hashStr w x
theorem abn:∀ {k:Key} {v:Value},afy k v=true->(∃ i t,k=Sum.inl i/\v=Value.int i t)\/(∃ x t,k=Sum.inr x/\v=Value.str x t)
 | .inl i,v,h=>by
  obtain ⟨t,e⟩:=Value.isInt_shape (k:=i) (v:=v) h
  exact .inl ⟨i,t,rfl,e⟩
 | .inr x,v,h=>by
  obtain ⟨t,e⟩:=Value.isStrOf_shape (x:=x) (v:=v) h
  exact .inr ⟨x,t,rfl,e⟩
theorem aox (i:Int) (t:Tok):afy (.inl i) (.int i t)=true:=by simp [afy,Value.isInt]
theorem aoy (x:Str) (t:Tok):afy (.inr x) (.str x t)=true:=by simp [afy,Value.isStrOf]
theorem awe (a b:Int):decide ((Sum.inl a:Key)=Sum.inl b)=(a == b):=by
 by_cases e:a=b
 ·subst e;simp
 ·have h:¬ (Sum.inl a:Key)=Sum.inl b:=fun q=>e (Sum.inl.inj q)
  rw [aC5 h]
  exact (beq_eq_false_iff_ne.mpr e).symm
theorem awf (a b:Str):decide ((Sum.inr a:Key)=Sum.inr b)=decide (a=b):=by
 by_cases e:a=b
 ·subst e;simp
 ·have h:¬ (Sum.inr a:Key)=Sum.inr b:=fun q=>e (Sum.inr.inj q)
  rw [aC5 h,aC5 e]
theorem awg (a:Int) (b:Str):decide ((Sum.inl a:Key)=Sum.inr b)=false:=aC5 (fun q=>nomatch q)
theorem awh (a:Str) (b:Int):decide ((Sum.inr a:Key)=Sum.inl b)=false:=aC5 (fun q=>nomatch q)
def abc (prog:Program) (w:World):PySem.KeyKind prog w Key where
 is:=afy
 hash:=keyH w
 inj:=fun v a b ha hb=>by
  rcases abn ha with ⟨i,t,rfl,rfl⟩ | ⟨x,t,rfl,rfl⟩
  ·rcases abn hb with ⟨j,u,rfl,e⟩ | ⟨y,u,rfl,e⟩
   ·injection e with e1 _;rw [e1]
   ·exact nomatch e
  ·rcases abn hb with ⟨j,u,rfl,e⟩ | ⟨y,u,rfl,e⟩
   ·exact nomatch e
   ·injection e with e1 _;rw [e1]
 byValue:=fun k v h=>by
  rcases abn h with ⟨i,t,rfl,rfl⟩ | ⟨x,t,rfl,rfl⟩ <;> rfl
 pyHash:=fun hv h=>by
  rcases abn hv with ⟨i,t,rfl,rfl⟩ | ⟨x,t,rfl,rfl⟩
  ·exact wpAny_pyHash_int h
  ·exact wpAny_pyHash_str h
 eqBool:=fun hu hv h=>by
  rcases abn hu with ⟨i,t,rfl,rfl⟩ | ⟨x,t,rfl,rfl⟩
  ·rcases abn hv with ⟨j,u,rfl,rfl⟩ | ⟨y,u,rfl,rfl⟩
   ·rw [awe] at h;exact wpAny_eqBool_int h
   ·rw [awg] at h;exact SeqAt.EqAt.int_str i t y u _ _ _ _ h
  ·rcases abn hv with ⟨j,u,rfl,rfl⟩ | ⟨y,u,rfl,rfl⟩
   ·rw [awh] at h;exact SeqAt.EqAt.str_int x t j u _ _ _ _ h
   ·rw [awf] at h;exact wpAny_eqBool_str h
 «strs»:=fun k x t v h=>by
  rcases abn h with ⟨i,u,rfl,e⟩ | ⟨y,u,rfl,e⟩
  ·exact nomatch e
  ·injection e with e1 _
   subst e1
   cases v <;> rfl
theorem al8 (prog:Program) (w:World) (i:Int) (t:Tok):(abc prog w).is (.inl i) (.int i t)=true:=aox i t
theorem al9 (prog:Program) (w:World) (x:Str) (t:Tok):(abc prog w).is (.inr x) (.str x t)=true:=aoy x t
inductive V where
 | non | bl (b:Bool) | int (i:Int) | str (x:Str) | byt (b:Array UInt8) | flt (b:UInt64) | ref (a:Addr) | ty (n:String)
 deriving DecidableEq
def RelV:V->Value->Prop
 | .non,u=>u=Value.none
 | .bl b,u=>u=Value.bool b
 | .int i,u=>∃ t,u=Value.int i t
 | .str x,u=>∃ t,u=Value.str x t
 | .byt b,u=>∃ t,u=Value.bytes b t
 | .flt b,u=>∃ t,u=Value.float b t
 | .ref a,u=>u=Value.ref a
 | .ty n,u=>u=Value.type n
abbrev Vals:List V->List Value->Prop:=Paired RelV
theorem Vals.length {xs:List V} {us:List Value} (r:Vals xs us):xs.length=us.length:=Paired.length r
theorem Vals.get:∀ {xs:List V} {us:List Value} {i:Nat} {x:V},Vals xs us->xs[i]?=some x->∃ u,us[i]?=some u/\RelV x u
 | _,_,_,_,.nil,e=>by simp at e
 | _,_,0,_,.cons r _,e=>by simp at e;subst e;exact ⟨_,rfl,r⟩
 | _,_,i+1,x,.cons _ t,e=>by
  obtain ⟨u,a,b⟩:=Vals.get (i:=i) (x:=x) t (by simpa using e)
  exact ⟨u,by simpa using a,b⟩
theorem Vals.set {x:V} {u:Value} (r:RelV x u):∀ {xs:List V} {us:List Value} (i:Nat),Vals xs us->Vals (xs.set i x) (us.set i u)
 | _,_,_,.nil => .nil
 | _,_,0,.cons _ t => .cons r t
 | _,_,i+1,.cons q t => .cons q (Vals.set r i t)
theorem Vals.append:∀ {xs ys:List V} {us a:List Value},Vals xs us->Vals ys a->Vals (xs ++ ys) (us ++ a)
 | _,_,_,_,.nil,s=>s
 | _,_,_,_,.cons r t,s => .cons r (Vals.append t s)
theorem Vals.take:∀ {xs:List V} {us:List Value} (n:Nat),Vals xs us->Vals (xs.take n) (us.take n)
 | _,_,0,_ => .nil
 | _,_,_+1,.nil => .nil
 | _,_,n+1,.cons r t => .cons r (Vals.take n t)
theorem Vals.drop:∀ {xs:List V} {us:List Value} (n:Nat),Vals xs us->Vals (xs.drop n) (us.drop n)
 | _,_,0,r=>r
 | _,_,_+1,.nil => .nil
 | _,_,n+1,.cons _ t=>Vals.drop n t
def RelO:Option V->Option Value->Prop
 | some v,some u=>RelV v u
 | none,none=>True
 | _,_=>False
def KV {κ:Type}:List (κ × V)->List (κ × Value)->Prop:=Paired fun (p : κ × V) (q : κ × Value)=>p.1=q.1/\RelV p.2 q.2
def kV:Key->V
 | .inl i => .int i
 | .inr x => .str x
inductive HO where
 /-- a list -/
 | lst (xs:List V)
 /-- a tuple (never changes) -/
 | tup (xs:List V)
 /-- a dict whose keys are ints and texts; one whose keys are tuples of ints and texts (the empty one is both) -/
 | dK (kvs:List (Key × V)) | dT (kvs:List (List Key × V))
 /-- a set of ints: its members, its size -/
 | set (S:Int->Bool) (n:Nat)
 /-- an instance of the class at C, its dict at dx, its attributes -/
 | ins (C dx:Addr) (fs:List (Str × V))
 /-- the dict of the instance at x -/
 | own (x:Addr)
 /-- the dict of an exception -/
 | xd (fs:List (Str × V))
 /-- a bound method, f of x -/
 | met (f x:Addr)
 /-- a range object lo, lo + 1, .. below hi -/
 | rng (lo hi:Int)
 /-- a thing that is known to the object (the script; a dict while a loop walks it): read, never written while it is so -/
 | frz (o:Obj) (u:HO)
 /-- a code object's table -/
 | tbl (ps:Array Value)
 /-- any other thing, by what is true of its one object (a def of one's own: SetO a S n:=HO.ext fun h => ..) -/
 | ext (φ:Heap->Prop)
abbrev Hp:=Addr->Option HO
def upd (H:Hp) (a:Addr) (o:HO):Hp:=fun b=>if b=a then some o else H b
theorem aak {H:Hp} {a:Addr} {o:HO}:upd H a o a=some o:=by unfold upd;rw [aD9 rfl]
theorem aag {H:Hp} {a b:Addr} {o:HO} (h:b ≠ a):upd H a o b=H b:=by unfold upd;rw [aE0 h]
theorem ayl {H:Hp} {a b:Addr} {o u:HO} (h:H a=some o) (h':H b=some u) (d:o ≠ u):a ≠ b:=by
 intro e;subst e;rw [h] at h';exact d (aB6 h')
theorem aat {H:Hp} {a b:Addr} {o:HO} (h:H a=some o) (h':H b=none):a ≠ b:=by
 intro e;subst e;rw [h] at h';cases h'
section
variable (P:Program) (w:World)
def ObjOk (H:Hp) (h:Heap) (a:Addr):HO->Prop
 | .lst xs=>xs.length<=sizeLine/\∃ (its:List Value) (n:Nat),Vals xs its/\h.get? a=some { cls:=.type "list",data:=.seq its.toArray n }
 | .tup xs=>xs.length<=sizeLine/\∃ its:List Value,Vals xs its/\IsTup h a its.toArray
 | .dK kvs=>kvs.length<=sizeLine/\(a == sysModules)=false/\∃ vs,KV kvs vs/\h.DictOf (abc P w) a vs
 | .dT kvs=>kvs.length<=sizeLine/\(a == sysModules)=false/\∃ xs:List (List Key × Addr × Value),
   Paired (fun (p:List Key × V) (q:List Key × Addr × Value)=>p.1=q.1/\H q.2.1=some (.tup (p.1.map kV))/\RelV p.2 q.2.2) kvs xs /\
   ∃ o es ep,h.get? a=some o/\o.ExactDict/\o.data=.dict es ep/\es.toList=xs.map (entryOfKey (tupleKind (abc P w)))/\(xs.map (·.1)).Nodup
 | .set S n=>h.SetOf (intKind P w) a S n
 | .ins C dx fs=>H dx=some (.own a)/\fs.length<=1000/\dx ≠ a/\h.get? a=some (PySem.W.instObj C dx) /\
   ∃ mA,h.Ns1 dx mA/\(∀ f,RelO (fs.lookup f) (mA f))/\PySem.Within mA (fs.map (·.1))
 | .own _=>∃ o,h.get? a=some o
 | .xd fs=>∃ mA,h.Ns1 a mA/\∀ f,RelO (fs.lookup f) (mA f)
 | .rng lo hi=>∃ t u v,h.get? a=some { cls:=.type "range",data:=.fields #[.int lo t,.int hi u,.int 1 v] }
 | .frz o u=>h.get? a=some o/\ObjOk H h a u
 | .tbl ps=>h.get? a=some { cls:=.none,data:=.fields ps }
 | .met f x=>h.get? a=some (PySem.W.methodObj (.ref f) (.ref x))
 | .ext φ => φ h/\(∃ o,h.get? a=some o)/\∀ h1 h2:Heap,φ h1->(∀ o,h1.get? a=some o->h2.get? a=some o)->φ h2
def HOk (H:Hp) (h:Heap):Prop:=∀ a o,H a=some o->ObjOk P w H h a o
end
section
variable {P:Program} {w:World} {H H':Hp} {h h':Heap} {a:Addr} {o:HO}
theorem ObjOk.lt (x:ObjOk P w H h a o):a < h.objs.size:=by
 cases o with
 | lst xs=>obtain ⟨_,_,_,_,e⟩:=x;exact aH4 e
 | tup xs=>obtain ⟨_,_,_,p⟩:=x;exact p.lt
 | dK kvs=>obtain ⟨_,_,_,_,o,_,_,e,_⟩:=x;exact aH4 e
 | dT kvs=>obtain ⟨_,_,_,_,o,_,_,e,_⟩:=x;exact aH4 e
 | set S n=>obtain ⟨o,_,_,_,e,_⟩:=x;exact aH4 e
 | ins C dx fs=>obtain ⟨_,_,_,e,_⟩:=x;exact aH4 e
 | own y=>obtain ⟨_,e⟩:=x;exact aH4 e
 | xd fs=>obtain ⟨_,⟨_,_,_,e,_⟩,_⟩:=x;exact aH4 e
 | rng lo hi=>obtain ⟨_,_,_,e⟩:=x;exact aH4 e
 | frz ob u=>obtain ⟨e,_⟩:=x;exact aH4 e
 | tbl ps=>exact aH4 (show h.get? a=some _ from x)
 | met f y=>exact aH4 (show h.get? a=some _ from x)
 | ext φ=>obtain ⟨_,⟨_,e⟩,_⟩:=x;exact aH4 e
theorem Paired.mapP {α β:Type} {F G : α->β->Prop}:∀ {d:List α} {c:List β},Paired F d c->(∀ a b,F a b->G a b)->Paired G d c
 | _,_,.nil,_ => .nil
 | _,_,.cons r t,f => .cons (f _ _ r) (Paired.mapP t f)
theorem ObjOk.stay (x:ObjOk P w H h a o) (k:∀ b u,(b=a\/H b=some (.own a))->h.get? b=some u->h'.get? b=some u)
  (l:∀ b,H b=some (.own a)->H' b=some (.own a)) (i:∀ b xs,H b=some (.tup xs)->H' b=some (.tup xs)):ObjOk P w H' h' a o:=by
 induction o with
 | lst xs=>obtain ⟨z,its,n,r,e⟩:=x;exact ⟨z,its,n,r,k _ _ (.inl rfl) e⟩
 | tup xs=>obtain ⟨z,its,r,g,e,c⟩:=x;exact ⟨z,its,r,g,k _ _ (.inl rfl) e,c⟩
 | dK kvs=>obtain ⟨z,y,vs,r,g,es,ep,e,c⟩:=x;exact ⟨z,y,vs,r,g,es,ep,k _ _ (.inl rfl) e,c⟩
 | dT kvs =>
  obtain ⟨z,y,xs,r,g,es,ep,e,c⟩:=x
  exact ⟨z,y,xs,Paired.mapP r fun p q z=>⟨z.1,i _ _ z.2.1,z.2.2⟩,g,es,ep,k _ _ (.inl rfl) e,c⟩
 | set S n=>obtain ⟨g,es,ep,t,e,c⟩:=x;exact ⟨g,es,ep,t,k _ _ (.inl rfl) e,c⟩
 | ins C dx fs =>
  obtain ⟨d,z,ne,e,mA,⟨od,es,ep,j,c⟩,r⟩:=x
  exact ⟨l _ d,z,ne,k _ _ (.inl rfl) e,mA,⟨od,es,ep,k _ _ (.inr d) j,c⟩,r⟩
 | own y=>obtain ⟨g,e⟩:=x;exact ⟨g,k _ _ (.inl rfl) e⟩
 | xd fs=>obtain ⟨mA,⟨od,es,ep,e,c⟩,r⟩:=x;exact ⟨mA,⟨od,es,ep,k _ _ (.inl rfl) e,c⟩,r⟩
 | rng lo hi=>obtain ⟨t,u,v,e⟩:=x;exact ⟨t,u,v,k _ _ (.inl rfl) e⟩
 | frz g u ih=>obtain ⟨e,q⟩:=x;exact ⟨k _ _ (.inl rfl) e,ih q⟩
 | tbl ps =>
  have e:h.get? a=some { cls:=.none,data:=.fields ps }:=x
  show h'.get? a=some { cls:=.none,data:=.fields ps }
  exact k a _ (.inl rfl) e
 | met f y =>
  have e:h.get? a=some (PySem.W.methodObj (.ref f) (.ref y)):=x
  show h'.get? a=some (PySem.W.methodObj (.ref f) (.ref y))
  exact k a _ (.inl rfl) e
 | ext φ=>obtain ⟨p,⟨o,e⟩,st⟩:=x;exact ⟨st _ _ p fun o q=>k _ _ (.inl rfl) q,⟨o,k _ _ (.inl rfl) e⟩,st⟩
theorem HOk.lt (x:HOk P w H h) (e:H a=some o):a < h.objs.size:=(x a o e).lt
theorem HOk.fresh (x:HOk P w H h) (e:h.objs.size<=a):H a=none:=by
 cases q:H a with
 | none=>rfl
 | some u=>exact absurd (aB5 (x.lt q) e) (aE8 _)
theorem HOk.kept (x:HOk P w H h) (k:∀ b u,h.get? b=some u->h'.get? b=some u):HOk P w H h':=fun a o e =>
 (x a o e).stay (fun b u _ q=>k b u q) (fun _ q=>q) fun _ _ q=>q
theorem HOk.laid (x:HOk P w H h) (k:∀ b u,h.get? b=some u->h'.get? b=some u) (d:h.objs.size<=a) (new:ObjOk P w (upd H a o) h' a o):HOk P w (upd H a o) h':=fun b u e=>by
 have hn:=x.fresh d
 by_cases hb:b=a
 ·subst hb;rw [aak] at e;cases e;exact new
 ·rw [aag hb] at e
  exact (x b u e).stay (fun c v _ q=>k c v q) (fun c q=>by rw [aag (aat q hn)];exact q) fun c xs q=>by rw [aag (aat q hn)];exact q
end
def Rd (H:Hp) (a:Addr) (u:HO):Prop:=H a=some u\/∃ o,H a=some (.frz o u)
theorem Rd.of {H:Hp} {a:Addr} {u:HO} (h:H a=some u):Rd H a u:=.inl h
theorem Rd.ok {P:Program} {w:World} {H:Hp} {h:Heap} {a:Addr} {u:HO} (r:Rd H a u) (x:HOk P w H h):ObjOk P w H h a u:=by
 rcases r with r | ⟨o,r⟩
 ·exact x a u r
 ·obtain ⟨_,q⟩:=x a _ r
  exact q
def Mut:Option HO->Prop
 | some (.lst _)=>True
 | some (.dK _)=>True
 | some (.dT _)=>True
 | some (.set _ _)=>True
 | some (.ins _ _ _)=>True
 | some (.ext _)=>True
 | _=>False
section
variable {P:Program} {w:World} {H:Hp} {h h':Heap} {x e:Addr} {o':HO}
theorem HOk.write (ok:HOk P w H h) (f:Mut (H x)) (j:e=x\/H e=some (.own x)) (k:∀ b u,b ≠ e->h.get? b=some u->h'.get? b=some u) (i:∃ u,h'.get? e=some u)
  (new:ObjOk P w (upd H x o') h' x o'):HOk P w (upd H x o') h':=fun b u q=>by
 have a:∀ c y,H c=some (.own y)->c ≠ x:=fun c y r z=>by subst z;rw [r] at f;exact f
 have d:∀ c xs,H c=some (.tup xs)->c ≠ x:=fun c xs r z=>by subst z;rw [r] at f;exact f
 by_cases hb:b=x
 ·subst hb;rw [aak] at q;cases q;exact new
 ·rw [aag hb] at q
  by_cases hbe:b=e
  ·have l:H b=some (.own x):=by
    rcases j with z | z
    ·exact absurd (hbe.trans z) hb
    ·rw [hbe];exact z
   rw [q] at l;cases l
   obtain ⟨v,m⟩:=i
   exact ⟨v,by rw [hbe];exact m⟩
  ·refine (ok b u q).stay (fun c v g r=>k c v ?_ r) (fun c r=>by rw [aag (a c b r)];exact r) fun c xs r=>by rw [aag (d c xs r)];exact r
   rcases g with rfl | g
   ·exact hbe
   ·rintro rfl
    rcases j with z | z
    ·exact a c b g z
    ·rw [g] at z;cases z;exact hb rfl
end
structure Un (fs ex:List Addr) (H H':Hp) (h h':Heap):Prop where
 keep:∀ b o,h.get? b=some o->H b=none->b ∉ fs->b ∉ ex->h'.get? b=some o
 slot:∀ b o,h.get? b=some o->H b=none->b∈fs->b ∉ ex->∃ sl,h'.get? b=some { o with slots:=sl }
 free:∀ b o,h.get? b=some o->H b=none->b ∉ ex->H' b=none
 there:∀ b o,h.get? b=some o->b ∉ ex->∃ o',h'.get? b=some o'
 tups:∀ b xs,H b=some (.tup xs)->H' b=some (.tup xs)
 frzs:∀ b o u,H b=some (.frz o u)->H' b=some (.frz o u)
 tbls:∀ b ps,H b=some (.tbl ps)->∃ more,H' b=some (.tbl (ps ++ more))
section
variable {fs fs' ex ex':List Addr} {H H1 H2:Hp} {h h1 h2 h':Heap} {a x e:Addr} {o:HO}
theorem Un.any (u:Un fs ex H H1 h h1) {b:Addr} {a:Obj} (q:h.get? b=some a) (n:H b=none) (c:b ∉ ex):∃ sl,h1.get? b=some { a with slots:=sl }:=by
 by_cases hb:b∈fs
 ·exact u.slot b a q n hb c
 ·exact ⟨a.slots,u.keep b a q n hb c⟩
theorem Un.trans (a:Un fs ex H H1 h h1) (b:Un fs ex H1 H2 h1 h2):Un fs ex H H2 h h2 where
 keep:=fun c f q n i d=>b.keep c f (a.keep c f q n i d) (a.free c f q n d) i d
 slot:=fun c f q n i d=>by
  obtain ⟨sl,g⟩:=a.slot c f q n i d
  obtain ⟨j,l⟩:=b.slot c _ g (a.free c f q n d) i d
  exact ⟨j,l⟩
 free:=fun c f q n d=>by
  obtain ⟨o',g⟩:=a.there c f q d
  exact b.free c o' g (a.free c f q n d) d
 there:=fun c f q d=>by
  obtain ⟨o',g⟩:=a.there c f q d
  exact b.there c o' g d
 tups:=fun c xs q=>b.tups c xs (a.tups c xs q)
 frzs:=fun c f xs q=>b.frzs c f xs (a.frzs c f xs q)
 tbls:=fun c ps q=>by
  obtain ⟨m,g⟩:=a.tbls c ps q
  obtain ⟨o,l⟩:=b.tbls c _ g
  exact ⟨m ++ o,by rw [l,Array.append_assoc]⟩
theorem Un.kept (k:∀ b u,h.get? b=some u->h'.get? b=some u):Un fs ex H H h h' :=
 ⟨fun b a q _ _ _=>k b a q,fun b a q _ _ _=>⟨a.slots,k b a q⟩,fun _ _ _ n _=>n,fun b a q _=>⟨a,k b a q⟩,fun _ _ q=>q,fun _ _ _ q=>q,fun _ ps q=>⟨#[],by rw [q];simp⟩⟩
theorem Un.refl:Un fs ex H H h h:=Un.kept fun _ _ q=>q
theorem Un.laid (k:∀ b u,h.get? b=some u->h'.get? b=some u) (c:h.objs.size<=a) (hn:H a=none):Un fs ex H (upd H a o) h h' where
 keep:=fun b u q _ _ _=>k b u q
 slot:=fun b u q _ _ _=>⟨u.slots,k b u q⟩
 free:=fun b u q n _=>by rw [aag (aA6 (aB5 (aH4 q) c))];exact n
 there:=fun b u q _=>⟨u,k b u q⟩
 tups:=fun b xs q=>by rw [aag (aat q hn)];exact q
 frzs:=fun b u xs q=>by rw [aag (aat q hn)];exact q
 tbls:=fun b ps q=>⟨#[],by rw [aag (aat q hn),q];simp⟩
theorem Un.write (a:Mut (H x)) (g:e=x\/H e=some (.own x)) (k:∀ b u,b ≠ e->h.get? b=some u->h'.get? b=some u) (c:∃ u,h'.get? e=some u):Un fs ex H (upd H x o) h h':=by
 have d:∀ b,H b=none->b ≠ x:=fun b n z=>by subst z;rw [n] at a;exact a
 have hb:∀ b,H b=none->b ≠ e:=fun b n z=>by
  subst z
  rcases g with r | r
  ·exact d b n r
  ·rw [n] at r;cases r
 have hm:∀ b u,H b=some u->¬ Mut (some u)->b ≠ x:=fun b u q f z=>by subst z;rw [q] at a;exact f a
 refine ⟨fun b u q n _ _=>k b u (hb b n) q,fun b u q n _ _=>⟨u.slots,k b u (hb b n) q⟩,fun b u q n _=>by rw [aag (d b n)];exact n,fun b u q _=>?_,
  fun b xs q=>by rw [aag (hm b _ q fun z=>z)];exact q,fun b u xs q=>by rw [aag (hm b _ q fun z=>z)];exact q,fun b ps q=>⟨#[],by rw [aag (hm b _ q fun z=>z),q];simp⟩⟩
 by_cases hbe:b=e
 ·subst hbe;exact c
 ·exact ⟨u,k b u hbe q⟩
theorem Un.mono (u:Un fs ex H H1 h h1) (hs:∀ b∈fs,b∈fs') (d:∀ b∈ex,b∈ex'):Un fs' ex' H H1 h h1 :=
 ⟨fun b c q n hb a=>u.keep b c q n (fun z=>hb (hs b z)) fun z=>a (d b z),fun _ _ q n _ a=>u.any q n fun z=>a (d _ z),fun b c q n a=>u.free b c q n fun z=>a (d b z),fun b c q a=>u.there b c q fun z=>a (d b z),u.tups,u.frzs,u.tbls⟩
end
def trk (h:Heap) (H:Hp):List Addr:=(List.range h.objs.size).filter fun a=>(H a).isSome
def hidT (h:Heap) (H:Hp):Heap:=PySem.W.hideAll h (trk h H)
theorem aoz (h:Heap) (H:Hp):(hidT h H).objs.size=h.objs.size:=PySem.W.hideAll_size _ _
theorem aq3 {h:Heap} {H:Hp} {b:Addr} {o:Obj} (e:h.get? b=some o) (n:H b=none):(hidT h H).get? b=some o :=
 PySem.W.hideAll_get _ e fun hm=>by
  have q:(H b).isSome=true:=(List.mem_filter.mp hm).2
  rw [n] at q;simp at q
theorem atv {h:Heap} {H:Hp} {b:Addr} {o:Obj} (e:(hidT h H).get? b=some o):h.get? b=some o/\H b=none:=by
 have a:h.get? b=some o:=PySem.W.of_hideAll (trk h H) e
 refine ⟨a,?_⟩
 cases q:H b with
 | none=>rfl
 | some x =>
  have hm:b∈trk h H:=List.mem_filter.mpr ⟨aA9.mpr (aH4 a),by simp [q]⟩
  have z:(hidT h H).get? b=none:=PySem.W.hideAll_none (trk h H) hm
  rw [z] at e;cases e
def atw (g h:Heap) (L:Addr):List (Addr × Obj):=(List.range h.objs.size).filterMap fun a=>if a=L\/(g.get? a).isSome=true then none else (h.get? a).map fun o=>(a,o)
def rest (g h:Heap) (L d:Addr):List (Addr × Obj):=(atw g h L).filter fun p=>decide (p.1 ≠ d)
structure Mod (K:Frag) (mg:Str->Option Value) (base:Heap):Prop where
 kin:K.In base
 glob:base.Ns mainGlobals mg
 blt:∃ mb,base.Ns builtinsNs mb/\∀ x:Str,x ≠ "__name__"->mb x=bootBuiltins x
 nolimit:base.NoLimit
/-- the context: a def's body (or a comprehension's block) running. base: fixed through the whole law; s₀, H₀: the entry; outer: the frames whose slots others may change (a def's callers); stack: all frames that run;
  ex: iterators that were made ahead of the entry and are walked here (a comprehension's);fn: the names whose cells were made at the entry (a def: all;a comprehension's block: its own);calm: not within an except suite;pn: pins that every state bears;xe: what is wanted of an exception that leaves the code -/
structure Cx where
 prog:Program
 w:World
 K:Frag
 mg:Str->Option Value
 base:Heap
 A:Around
 N:List Str
 s₀:Shared
 H₀:Hp
 env:Env
 outer:List Env
 stack:List Env
 ex:List Addr
 fn:Str->Bool
 calm:Bool
 pn:List (Addr × Obj)
 xe:Value->Shared->Prop
def frs (l:List Env):List Addr:=l.filterMap (·.frame)
abbrev Cx.fs (X:Cx):List Addr:=frs X.outer
def Vis (sc:Scope) (x:Str):Prop:=sc.names.lookup x=some .local\/sc.names.lookup x=some .cell\/sc.names.lookup x=some .free
def Loc (sc:Scope) (x:Str):Prop:=sc.names.lookup x=some .local\/sc.names.lookup x=some .cell
def Look (env:Env) (h:Heap) (m:Str->Option Value) (x:Str) (u:Value):Prop :=
 (env.kindOf x=some .local/\m x=some u)\/((env.kindOf x=some .cell\/env.kindOf x=some .free)/\∃ c,env.cells.lookup x=some c/\h.IsCell c (some u))
structure Cx.Ok (X:Cx):Prop where
 mod:Mod X.K X.mg X.base
 kind:X.env.scope.kind=.function
 glob:X.env.globals=mainGlobals
 blt:X.env.builtins=builtinsNs
 above:X.s₀.heap.objs.size<=X.env.locals
 inj:∀ x y c,X.env.cells.lookup x=some c->X.env.cells.lookup y=some c->x=y
 has:∀ x,(X.env.kindOf x=some .cell\/X.env.kindOf x=some .free)->∃ c,X.env.cells.lookup x=some c
 cab:∀ x c,X.fn x=true->X.env.cells.lookup x=some c->X.s₀.heap.objs.size<=c
 hd:X.calm=true->X.A.handled=none
 frames:X.A.frames=some X.stack
 stk:X.stack=X.outer\/(X.stack=X.env :: X.outer/\X.env.frame=some X.env.locals)
 exf:∀ b∈X.ex,b ≠ X.env.locals/\∀ x c,X.env.cells.lookup x=some c->c ≠ b
 bs:∀ b o,X.base.get? b=some o->X.s₀.heap.get? b=some o/\X.H₀ b=none
 bsz:X.base.objs.size<=X.s₀.heap.objs.size
 noex:∀ b o,X.base.get? b=some o->b ∉ X.ex
 exfs:∀ b∈X.ex,b ∉ X.fs
 funs:X.s₀.heap.FunFrames X.base X.outer
 frf:∀ b∈X.fs,X.H₀ b=none
structure Inv (X:Cx) (pins:List (Addr × Obj)) (σ:List (Option V)) (H:Hp) (s:Shared):Prop where
 ok:X.Ok
 os:s.os=X.s₀.os
 bare:AllBare s.gens
 base:Un X.fs X.ex X.H₀ H X.s₀.heap s.heap
 loc:∃ m,s.heap.Ns X.env.locals m/\∀ (i:Nat) (x:Str) (v:V),X.N[i]?=some x->σ[i]?=some (some v)->Vis X.env.scope x->∃ u,RelV v u/\Look X.env s.heap m x u
 cell:∀ x c,X.env.cells.lookup x=some c->∃ v,s.heap.IsCell c v
 free:H X.env.locals=none
 freeC:∀ x c,X.env.cells.lookup x=some c->H c=none
 pin:∀ p∈X.pn ++ pins,s.heap.get? p.1=some p.2/\H p.1=none/\p.1 ≠ X.env.locals/\p.1 ∉ X.fs/\∀ v,p.2.data ≠ .cell v
 hok:HOk X.prog X.w H s.heap
 len : σ.length=X.N.length
section
variable {X:Cx} {pins:List (Addr × Obj)} {σ:List (Option V)} {H H':Hp} {s:Shared} {h':Heap}
theorem Cx.Ok.nofr (ok:X.Ok) {b:Addr} {o:Obj} (e:X.base.get? b=some o):b ∉ X.fs:=fun hb=>by
 have:=(ok.funs.mem hb).1
 rw [e] at this;cases this
theorem Inv.bs (I:Inv X pins σ H s):∀ b o,X.base.get? b=some o->s.heap.get? b=some o/\H b=none:=fun b o e =>
 ⟨I.base.keep b o (I.ok.bs b o e).1 (I.ok.bs b o e).2 (I.ok.nofr e) (I.ok.noex b o e),I.base.free b o (I.ok.bs b o e).1 (I.ok.bs b o e).2 (I.ok.noex b o e)⟩
theorem Inv.bk (I:Inv X pins σ H s):∀ b o,X.base.get? b=some o->s.heap.get? b=some o:=fun b o e=>(I.bs b o e).1
theorem Inv.mod (I:Inv X pins σ H s):Mod X.K X.mg X.base:=I.ok.mod
theorem Inv.kIn (I:Inv X pins σ H s):X.K.In s.heap:=I.ok.mod.kin.keeps I.bk
theorem Inv.fr (I:Inv X pins σ H s):∃ m,Fr X.base X.env.locals s.heap m :=
 let ⟨m,hn,_⟩:=I.loc
 ⟨m,hn,I.bk,aC0 I.ok.bsz I.ok.above⟩
theorem Inv.lt (I:Inv X pins σ H s):X.env.locals < s.heap.objs.size:=let ⟨_,hn,_⟩:=I.loc;hn.lt
theorem Inv.sz (I:Inv X pins σ H s):X.s₀.heap.objs.size<=s.heap.objs.size:=aC0 I.ok.above (aE9 I.lt)
theorem Inv.nofs (I:Inv X pins σ H s) {a:Addr} (h:s.heap.objs.size<=a):a ∉ X.fs:=fun hb=>by
 obtain ⟨_,o,b,_⟩:=I.ok.funs.mem hb
 exact absurd (aB5 (aH4 b) (aC0 I.sz h)) (aE8 _)
theorem Inv.cne (I:Inv X pins σ H s):∀ x c,X.env.cells.lookup x=some c->c ≠ X.env.locals:=fun x c e z=>by
 obtain ⟨v,o,d,hd⟩:=I.cell x c e
 obtain ⟨m,⟨o',es,ep,b,a,_⟩,_⟩:=I.loc
 rw [z,b] at d;cases d;rw [a] at hd;cases hd
theorem Inv.funs (I:Inv X pins σ H s):s.heap.FunFrames X.base X.outer:=by
 have all:∀ (l:List Env),(∀ b∈frs l,b∈X.fs)->X.s₀.heap.FunFrames X.base l->s.heap.FunFrames X.base l:=by
  intro l
  induction l with
  | nil=>intro _ _;trivial
  | cons env r ih =>
   intro hs g
   obtain ⟨c,⟨L,o,hf,hn,f,hd⟩,d⟩:=g
   have a:L∈X.fs:=hs L (by unfold frs;rw [List.filterMap_cons,hf];exact aA8)
   obtain ⟨sl,e⟩:=I.base.slot L o f (I.ok.frf L a) a fun z=>I.ok.exfs L z a
   exact ⟨c,⟨L,_,hf,hn,e,hd⟩,ih (fun b hb=>hs b (by unfold frs;rw [List.filterMap_cons,hf];exact aA5 _ hb)) d⟩
 exact all X.outer (fun _ hb=>hb) I.ok.funs
theorem Inv.stack (I:Inv X pins σ H s):s.heap.FunFrames X.base X.stack:=by
 rcases I.ok.stk with e | ⟨e,hf⟩
 ·rw [e];exact I.funs
 ·rw [e]
  obtain ⟨m,hn,_⟩:=I.loc
  refine .cons (by rw [I.ok.kind];decide) hf hn ?_ I.funs
  exact Heap.get?_none_of_le (aC0 I.ok.bsz I.ok.above)
theorem Inv.stkSub (I:Inv X pins σ H s):∀ b∈frs X.stack,b∈X.env.locals :: X.fs:=fun b hb=>by
 rcases I.ok.stk with e | ⟨e,hf⟩
 ·rw [e] at hb;exact aA5 _ hb
 ·rw [e] at hb
  unfold frs at hb
  rw [List.filterMap_cons,hf] at hb
  exact hb
theorem Inv.stkFree (I:Inv X pins σ H s):∀ b∈frs X.stack,H b=none:=fun b hb=>by
 rcases az9.mp (I.stkSub b hb) with e | hb
 ·rw [e];exact I.free
 ·obtain ⟨_,o,a,_⟩:=I.ok.funs.mem hb
  exact I.base.free b o a (I.ok.frf b hb) fun z=>I.ok.exfs b z hb
theorem Inv.step {g':Array GenState} {t':Nat} {d':Drawn} {ch:List Addr} (I:Inv X pins σ H s)
  (f:∀ b∈ch,(b∈X.ex\/X.s₀.heap.objs.size<=b)/\b ≠ X.env.locals/\(∀ x c,X.env.cells.lookup x=some c->c ≠ b)/\∀ p∈X.pn ++ pins,p.1 ≠ b)
  (keep:∀ b o,b ≠ X.env.locals->b ∉ X.fs->b ∉ ch->s.heap.get? b=some o->H b=none->h'.get? b=some o)
  (slot:∀ b o,b ≠ X.env.locals->b∈X.fs->b ∉ ch->s.heap.get? b=some o->H b=none->∃ sl,h'.get? b=some { o with slots:=sl }) (free:∀ b o,b ∉ ch->s.heap.get? b=some o->H b=none->H' b=none)
  (there:∀ b o,b ∉ ch->s.heap.get? b=some o->∃ o',h'.get? b=some o')
  (tups:∀ b xs,H b=some (.tup xs)->H' b=some (.tup xs)) (frzs:∀ b o u,H b=some (.frz o u)->H' b=some (.frz o u)) (tbls:∀ b ps,H b=some (.tbl ps)->∃ more,H' b=some (.tbl (ps ++ more)))
  (ns:∀ m,s.heap.Ns X.env.locals m->h'.Ns X.env.locals m) (hok:HOk X.prog X.w H' h') (M:AllBare g') :
  Inv X pins σ H' { s with heap:=h',gens:=g',drawn:=d',toks:=t' }:=by
 have B:∀ b o,X.s₀.heap.get? b=some o->b ≠ X.env.locals:=fun b o e=>aA6 (aB5 (aH4 e) I.ok.above)
 have j:∀ b o,X.s₀.heap.get? b=some o->b ∉ X.ex->b ∉ ch:=fun b o e a hb=>by
  rcases (f b hb).1 with z | z
  ·exact a z
  ·exact absurd (aB5 (aH4 e) z) (aE8 _)
 have g:∀ x c,X.env.cells.lookup x=some c->∀ v,s.heap.IsCell c v->h'.IsCell c v:=fun x c e v K=>by
  obtain ⟨o,A,hd⟩:=K
  have h:c ∉ ch:=fun z=>(f c z).2.2.1 x c e rfl
  by_cases hc:c∈X.fs
  ·obtain ⟨sl,q⟩:=slot c o (I.cne x c e) hc h A (I.freeC x c e)
   exact ⟨_,q,hd⟩
  ·exact ⟨o,keep c o (I.cne x c e) hc h A (I.freeC x c e),hd⟩
 refine ⟨I.ok,I.os,M,⟨fun b o e n hb a=>?_,fun b o e n hb a=>?_,fun b o e n a=>?_,fun b o e a=>?_,fun b xs e=>tups b xs (I.base.tups b xs e),fun b o xs e=>frzs b o xs (I.base.frzs b o xs e),fun b ps e=>?_⟩,?_,fun x c e=>?_,?_,fun x c e=>?_,fun p F=>?_,hok,I.len⟩
 ·exact keep b o (B b o e) hb (j b o e a) (I.base.keep b o e n hb a) (I.base.free b o e n a)
 ·obtain ⟨sl,y⟩:=I.base.slot b o e n hb a
  obtain ⟨D,C⟩:=slot b _ (B b o e) hb (j b o e a) y (I.base.free b o e n a)
  exact ⟨D,C⟩
 ·obtain ⟨o',y⟩:=I.base.there b o e a
  exact free b o' (j b o e a) y (I.base.free b o e n a)
 ·obtain ⟨o',y⟩:=I.base.there b o e a
  exact there b o' (j b o e a) y
 ·obtain ⟨J,y⟩:=I.base.tbls b ps e
  obtain ⟨L,C⟩:=tbls b _ y
  exact ⟨J ++ L,by rw [C,Array.append_assoc]⟩
 ·obtain ⟨m,hn,N⟩:=I.loc
  refine ⟨m,ns m hn,fun i x v y C G=>?_⟩
  obtain ⟨u,r,l⟩:=N i x v y C G
  refine ⟨u,r,?_⟩
  rcases l with l | ⟨k,c,e,z⟩
  ·exact .inl l
  ·exact .inr ⟨k,c,e,g x c e _ z⟩
 ·obtain ⟨v,z⟩:=I.cell x c e
  exact ⟨v,g x c e v z⟩
 ·obtain ⟨m,⟨o,_,_,A,_⟩,_⟩:=I.loc
  exact free _ o (fun z=>(f _ z).2.1 rfl) A I.free
 ·obtain ⟨v,o,A,hd⟩:=I.cell x c e
  exact free c o (fun z=>(f c z).2.2.1 x c e rfl) A (I.freeC x c e)
 ·obtain ⟨e,n,ne,E,d⟩:=I.pin p F
  have h:p.1 ∉ ch:=fun z=>(f p.1 z).2.2.2 p F rfl
  exact ⟨keep p.1 p.2 ne E h e n,free p.1 p.2 h e n,ne,E,d⟩
theorem Inv.un {t':Nat} (I:Inv X pins σ H s) (u:Un X.fs [] H H' s.heap h') (hok:HOk X.prog X.w H' h'):Inv X pins σ H' { s with heap:=h',toks:=t' }:=by
 obtain ⟨m,⟨o,es,ep,d,r⟩,_⟩:=id I.loc
 obtain ⟨sl,g⟩:=u.any d I.free (by simp)
 exact I.step (g':=s.gens) (d':=s.drawn) (ch:=[]) (fun _ z=>nomatch z) (fun b o _ hb _ e n=>u.keep b o e n hb (by simp)) (fun b o _ hb _ e n=>u.slot b o e n hb (by simp)) (fun b o _ e n=>u.free b o e n (by simp)) (fun b o _ e=>u.there b o e (by simp)) u.tups u.frzs u.tbls (fun h hm=>by
  obtain ⟨o',es',c,a,f⟩:=hm
  rw [d] at a;cases a
  exact ⟨_,es',c,g,f⟩) hok I.bare
theorem Inv.call {g':Array GenState} {t':Nat} {d':Drawn} {ch:List Addr} (I:Inv X pins σ H s) (u:Un (frs X.stack) ch H H' s.heap h') (hok:HOk X.prog X.w H' h') (j:AllBare g')
  (d:∀ b∈ch,(b∈X.ex\/X.s₀.heap.objs.size<=b)/\b ≠ X.env.locals/\(∀ x c,X.env.cells.lookup x=some c->c ≠ b)/\∀ p∈X.pn ++ pins,p.1 ≠ b) :
  Inv X pins σ H' { s with heap:=h',gens:=g',drawn:=d',toks:=t' }:=by
 obtain ⟨m,⟨o,es,ep,i,r⟩,_⟩:=id I.loc
 obtain ⟨sl,h⟩:=u.any i I.free fun z=>(d _ z).2.1 rfl
 exact I.step (ch:=ch) d (fun b o h hb a e n=>u.keep b o e n (fun z=>(az9.mp (I.stkSub b z)).elim h hb) a) (fun b o _ _ a e n=>u.any e n a) (fun b o a e n=>u.free b o e n a) (fun b o a e=>u.there b o e a) u.tups u.frzs u.tbls (fun q hm=>by
  obtain ⟨o',es',g,f,l⟩:=hm
  rw [i] at f;cases f
  exact ⟨_,es',g,h,l⟩) hok j
theorem Inv.turned {t':Nat} {it:Addr} (I:Inv X pins σ H s) (k:∀ b o,b ≠ it->s.heap.get? b=some o->h'.get? b=some o) (hn:H it=none) (f:it ≠ X.env.locals)
  (i:it∈X.ex\/X.s₀.heap.objs.size<=it) (g:∀ x c,X.env.cells.lookup x=some c->c ≠ it) (j:∀ p∈X.pn ++ pins,p.1 ≠ it):Inv X pins σ H { s with heap:=h',toks:=t' }:=by
 have d:∀ b u,H b=some u->b ≠ it:=fun b u e z=>by rw [z,hn] at e;cases e
 refine I.step (g':=s.gens) (d':=s.drawn) (ch:=[it]) (fun b hb=>?_) (fun b o _ _ a e _=>k b o (fun z=>a (by simp [z])) e) (fun b o _ _ a e _=>⟨o.slots,k b o (fun z=>a (by simp [z])) e⟩) (fun _ _ _ _ n=>n)
  (fun b o a e=>⟨o,k b o (fun z=>a (by simp [z])) e⟩) (fun _ _ e=>e) (fun _ _ _ e=>e) (fun b ps e=>⟨#[],by rw [e];simp⟩) (fun m hm=>?_) (fun b u e=>?_) I.bare
 ·have e:b=it:=by simpa using hb
  subst e
  exact ⟨i,f,g,j⟩
 ·obtain ⟨o,es,ep,h,r⟩:=hm
  exact ⟨o,es,ep,k _ o (Ne.symm f) h,r⟩
 ·refine (I.hok b u e).stay (fun c v a q=>k c v ?_ q) (fun _ q=>q) fun _ _ q=>q
  rcases a with z | z
  ·rw [z];exact d b u e
  ·exact d c _ z
theorem Inv.tok (I:Inv X pins σ H s) (t:Nat):Inv X pins σ H { s with toks:=t }:=I.un (h':=s.heap) (t':=t) Un.refl I.hok
theorem Inv.kept {t':Nat} (I:Inv X pins σ H s) (k:∀ b u,s.heap.get? b=some u->h'.get? b=some u):Inv X pins σ H { s with heap:=h',toks:=t' }:=I.un (Un.kept k) (I.hok.kept k)
theorem Inv.laid {a:Addr} {o:HO} {t':Nat} (I:Inv X pins σ H s) (k:∀ b u,s.heap.get? b=some u->h'.get? b=some u) (c:s.heap.objs.size<=a) (new:ObjOk X.prog X.w (upd H a o) h' a o) :
  Inv X pins σ (upd H a o) { s with heap:=h',toks:=t' }:=I.un (Un.laid k c (I.hok.fresh c)) (I.hok.laid k c new)
theorem Inv.write {x e:Addr} {o:HO} {t':Nat} (I:Inv X pins σ H s) (c:Mut (H x)) (d:e=x\/H e=some (.own x)) (k:∀ b u,b ≠ e->s.heap.get? b=some u->h'.get? b=some u) (a:∃ u,h'.get? e=some u)
  (new:ObjOk X.prog X.w (upd H x o) h' x o):Inv X pins σ (upd H x o) { s with heap:=h',toks:=t' }:=I.un (Un.write c d k a) (I.hok.write c d k a new)
theorem Inv.pins_of {a:List (Addr × Obj)} (I:Inv X pins σ H s) (h:∀ p∈a,s.heap.get? p.1=some p.2/\H p.1=none/\p.1 ≠ X.env.locals/\p.1 ∉ X.fs/\∀ v,p.2.data ≠ .cell v):Inv X a σ H s :=
 ⟨I.ok,I.os,I.bare,I.base,I.loc,I.cell,I.free,I.freeC,fun p b=>(az7.mp b).elim (fun z=>I.pin p (aB7 _ z)) (h p),I.hok,I.len⟩
theorem nodup_ix {N:List Str} (c:N.Nodup) {i j:Nat} {x:Str} (a:N[i]?=some x) (b:N[j]?=some x):i=j:=by
 obtain ⟨g,f⟩:=az1.mp a
 obtain ⟨h,d⟩:=az1.mp b
 exact (List.getElem_inj c).mp (f.trans d.symm)
theorem ail {M:Model} {A:Around} {E:Value->Shared->Prop} {i:Nat} {x:Str} {v:V} {u:Value} {Q:Unit->Shared->Prop} (I:Inv X pins σ H s) (hN:X.N.Nodup) (hi:X.N[i]?=some x) (B:Loc X.env.scope x) (r:RelV v u)
  (h:∀ Y,Inv X pins (σ.set i (some v)) H Y->(∃ a,Heap.SameBut a s.heap Y.heap/\(a=X.env.locals\/X.env.cells.lookup x=some a))->Q () Y) (hf:X.fn x=true\/X.env.scope.names.lookup x=some .local:=by first | exact .inl rfl | exact .inr rfl | assumption):wpAny M A (storeName X.env x u) Q E s:=by
 obtain ⟨m,hn,hl⟩:=id I.loc
 have L:(X.env.scope.kind == .class || (X.env.scope.kind == .module && X.env.locals != X.env.globals))=false:=by rw [I.ok.kind];rfl
 have G:i < σ.length:=by rw [I.len];exact (az1.mp hi).1
 have cne:=I.cne
 have f:∀ {a:Addr} {h':Heap},(∃ o,s.heap.get? a=some o/\H a=none)->Heap.SameBut a s.heap h'->HOk X.prog X.w H h':=fun {a h'} ha hs b ob e=>by
  obtain ⟨_,_,C⟩:=ha
  refine (I.hok b ob e).stay (fun c S l q=>(hs.2 c ?_).trans q) (fun _ q=>q) fun _ _ q=>q
  rintro rfl
  rcases l with rfl | l
  ·rw [C] at e;cases e
  ·rw [C] at l;cases l
 rcases B with F | F
 ·refine wpAny_storeName_local F hn (fun h' a0 hs=>?_) L
  obtain ⟨oL,_,_,Z,_⟩:=id hn
  refine h _ ⟨I.ok,I.os,I.bare,⟨fun b o e n hb B=>?_,fun b o e n hb B=>?_,I.base.free,fun b o e B=>?_,I.base.tups,I.base.frzs,I.base.tbls⟩,⟨_,a0,fun j y T g D e3=>?_⟩,fun y c e=>?_,I.free,I.freeC,fun p hp=>?_,f ⟨oL,Z,I.free⟩ hs,by simpa using I.len⟩ ⟨_,hs,.inl rfl⟩
  ·exact (hs.2 b (aA6 (aB5 (aH4 e) I.ok.above))).trans (I.base.keep b o e n hb B)
  ·obtain ⟨sl,g⟩:=I.base.slot b o e n hb B
   exact ⟨sl,(hs.2 b (aA6 (aB5 (aH4 e) I.ok.above))).trans g⟩
  ·obtain ⟨o',g⟩:=I.base.there b o e B
   exact ⟨o',(hs.2 b (aA6 (aB5 (aH4 e) I.ok.above))).trans g⟩
  ·by_cases hj:j=i
   ·subst hj
    rw [hi] at g;cases g
    rw [List.getElem?_set_self G] at D
    cases D
    exact ⟨u,r,.inl ⟨F,by simp⟩⟩
   ·rw [List.getElem?_set_ne (Ne.symm hj)] at D
    obtain ⟨W,r',q⟩:=hl j y T g D e3
    refine ⟨W,r',?_⟩
    rcases q with ⟨k,e⟩ | ⟨k,c,e,z⟩
    ·refine .inl ⟨k,?_⟩
     have:y ≠ x:=fun e=>hj (nodup_ix hN g (e ▸ hi))
     simp [this,e]
    ·exact .inr ⟨k,c,e,z.sameBut hs (cne y c e)⟩
  ·obtain ⟨S,z⟩:=I.cell y c e
   exact ⟨S,z.sameBut hs (cne y c e)⟩
  ·obtain ⟨e,n,ne,U,d⟩:=I.pin p hp
   exact ⟨(hs.2 p.1 ne).trans e,n,ne,U,d⟩
 ·have J:X.fn x=true:=by
   rcases hf with z | z
   ·exact z
   ·rw [z] at F;cases F
  obtain ⟨c,l⟩:=I.ok.has x (.inl F)
  obtain ⟨S,z⟩:=I.cell x c l
  refine wpAny_storeName_cell I.ok.kind F l z (fun h' K hs=>?_)
  obtain ⟨oc,O,P⟩:=id z
  refine h { s with heap:=h' } ⟨I.ok,I.os,I.bare,⟨fun b o e n hb B=>?_,fun b o e n hb B=>?_,I.base.free,fun b o e B=>?_,I.base.tups,I.base.frzs,I.base.tbls⟩,⟨m,hn.sameBut hs (Ne.symm (cne x c l)),fun j y T g D e3=>?_⟩,fun y R e=>?_,I.free,I.freeC,fun p hp=>?_,f ⟨oc,O,I.freeC x c l⟩ hs,by simpa using I.len⟩ ⟨c,hs,.inr l⟩
  ·exact (hs.2 b (aA6 (aB5 (aH4 e) (I.ok.cab x c J l)))).trans (I.base.keep b o e n hb B)
  ·obtain ⟨sl,g⟩:=I.base.slot b o e n hb B
   exact ⟨sl,(hs.2 b (aA6 (aB5 (aH4 e) (I.ok.cab x c J l)))).trans g⟩
  ·obtain ⟨o',g⟩:=I.base.there b o e B
   exact ⟨o',(hs.2 b (aA6 (aB5 (aH4 e) (I.ok.cab x c J l)))).trans g⟩
  ·by_cases hj:j=i
   ·subst hj
    rw [hi] at g;cases g
    rw [List.getElem?_set_self G] at D
    cases D
    exact ⟨u,r,.inr ⟨.inl F,c,l,K⟩⟩
   ·rw [List.getElem?_set_ne (Ne.symm hj)] at D
    obtain ⟨W,r',q⟩:=hl j y T g D e3
    refine ⟨W,r',?_⟩
    rcases q with q | ⟨k,R,e,z'⟩
    ·exact .inl q
    ·refine .inr ⟨k,R,e,z'.sameBut hs ?_⟩
     rintro rfl
     exact hj (nodup_ix hN g (I.ok.inj _ _ _ e l ▸ hi))
  ·by_cases hcc:R=c
   ·subst hcc;exact ⟨_,K⟩
   ·obtain ⟨w2,z2⟩:=I.cell y R e
    exact ⟨w2,z2.sameBut hs hcc⟩
  ·obtain ⟨e,n,ne,U,d⟩:=I.pin p hp
   refine ⟨(hs.2 p.1 ?_).trans e,n,ne,U,d⟩
   intro q
   rw [q,O] at e
   have q':oc=p.2:=aB6 e
   exact d S (by rw [← q'];exact P)
theorem store_ok {M:Model} {A:Around} {E:Value->Shared->Prop} {i:Nat} {x:Str} {v:V} {u:Value} {Q:Unit->Shared->Prop} (I:Inv X pins σ H s) (b:X.N.Nodup) (hi:X.N[i]?=some x) (d:Loc X.env.scope x) (r:RelV v u)
  (h:∀ a,Inv X pins (σ.set i (some v)) H a->Q () a) (hf:X.fn x=true\/X.env.scope.names.lookup x=some .local:=by first | exact .inl rfl | exact .inr rfl | assumption):wpAny M A (storeName X.env x u) Q E s :=
 ail I b hi d r (fun a c _=>h a c) hf
theorem Inv.call' {a:Shared} {ch:List Addr} (I:Inv X pins σ H s) (g:a.os=s.os) (u:Un (frs X.stack) ch H H' s.heap a.heap) (hok:HOk X.prog X.w H' a.heap) (f:AllBare a.gens)
  (d:∀ b∈ch,(b∈X.ex\/X.s₀.heap.objs.size<=b)/\b ≠ X.env.locals/\(∀ x c,X.env.cells.lookup x=some c->c ≠ b)/\∀ p∈X.pn ++ pins,p.1 ≠ b):Inv X pins σ H' a:=by
 obtain ⟨h',g',d',t',o'⟩:=a
 have e:o'=s.os:=g
 subst e
 exact I.call (g':=g') (t':=t') (d':=d') u hok f d
end
abbrev XK:=Value->Option Addr->Hp->Prop
abbrev St:=List (Option V)
abbrev VK:=V->Hp->Prop
abbrev TE:=St->Hp->VK->Prop
abbrev TT:=St->Hp->(Bool->Hp->Prop)->Prop
abbrev TA:=St->Hp->(List V->Hp->Prop)->Prop
structure Ends where
 nx:St->Hp->Prop
 rt:VK
 bk:St->Hp->Prop:=fun _ _=>False
 ct:St->Hp->Prop:=fun _ _=>False
abbrev TS:=Ends->St->Hp->Prop
def EP (X:Cx) (pins:List (Addr × Obj)) (σ:St) (Q:VK) (u:Value) (s':Shared):Prop:=∃ v H',Inv X pins σ H' s'/\RelV v u/\Q v H'
def TP (X:Cx) (pins:List (Addr × Obj)) (σ:St) (Q:Bool->Hp->Prop) (b:Bool) (s':Shared):Prop:=∃ H',Inv X pins σ H' s'/\Q b H'
def AP (X:Cx) (pins:List (Addr × Obj)) (σ:St) (Q:List V->Hp->Prop) (us:List Value) (s':Shared):Prop:=∃ vs H',Inv X pins σ H' s'/\Vals vs us/\Q vs H'
def SP (X:Cx) (pins:List (Addr × Obj)) (D:Ends) (f:Flow) (s':Shared):Prop :=
 match f with
 | .next=>∃ σ' H',Inv X pins σ' H' s'/\D.nx σ' H'
 | .brk=>∃ σ' H',Inv X pins σ' H' s'/\D.bk σ' H'
 | .cont=>∃ σ' H',Inv X pins σ' H' s'/\D.ct σ' H'
 | .ret u=>∃ v σ' H',Inv X pins σ' H' s'/\RelV v u/\D.rt v H'
def PE (X:Cx) (e:Expr) (t:TE):Prop :=
 ∀ (pins:List (Addr × Obj)) (s:Shared) (σ:St) (H:Hp) (Q:VK),Inv X pins σ H s->t σ H Q->wpAny (model X.prog X.w) X.A (eval e X.env) (EP X pins σ Q) X.xe s
def PT (X:Cx) (e:Expr) (t:TT):Prop :=
 ∀ (pins:List (Addr × Obj)) (s:Shared) (σ:St) (H:Hp) (Q:Bool->Hp->Prop),Inv X pins σ H s->t σ H Q->wpAny (model X.prog X.w) X.A (isTrue e X.env (eval e X.env)) (TP X pins σ Q) X.xe s
def PW (X:Cx) (e:Expr) (t:TT):Prop :=
 ∀ (whole:Sem Value) (pins:List (Addr × Obj)) (s:Shared) (σ:St) (H:Hp) (Q:Bool->Hp->Prop),Inv X pins σ H s->t σ H Q->wpAny (model X.prog X.w) X.A (isTrue e X.env whole) (TP X pins σ Q) X.xe s
theorem PW.pt {X:Cx} {e:Expr} {t:TT} (h:PW X e t):PT X e t:=h _
def PA (X:Cx) (es:List Expr) (t:TA):Prop :=
 ∀ (pos:Pos) (pins:List (Addr × Obj)) (s:Shared) (σ:St) (H:Hp) (Q:List V->Hp->Prop),Inv X pins σ H s->t σ H Q->wpAny (model X.prog X.w) X.A (spliced (backTo pos (starEach es X.env))) (AP X pins σ Q) X.xe s
def PS (X:Cx) (st:Stmt) (t:TS):Prop :=
 ∀ (pins:List (Addr × Obj)) (s:Shared) (σ:St) (H:Hp) (D:Ends),Inv X pins σ H s->t D σ H->wpAny (model X.prog X.w) X.A (exec st X.env) (SP X pins D) X.xe s
def PSs (X:Cx) (st:List Stmt) (t:TS):Prop :=
 ∀ (pins:List (Addr × Obj)) (s:Shared) (σ:St) (H:Hp) (D:Ends),Inv X pins σ H s->t D σ H->wpAny (model X.prog X.w) X.A (execs st X.env) (SP X pins D) X.xe s
theorem thn {α:Type} {t:Sem α} {Q b : α->Shared->Prop} {M:Model} {A:Around} {E:Value->Shared->Prop} {s:Shared} (h:wpAny M A t Q E s) (c:∀ a s,Q a s->b a s):wpAny M A t b E s:=aI0 h c fun _ _ x=>x
section
variable {X:Cx}
def tVar (i:Nat):TE:=fun σ H Q=>∃ v,σ[i]?=some (some v)/\Q v H
def tC (v:V):TE:=fun _ H Q=>Q v H
theorem awi {i:Nat} {x:Str} {pos:Pos} (j:X.N[i]?=some x) (g:Vis X.env.scope x) (hd:(x == ("__debug__" : Str))=false:=by decide) (d:(x == ("__classdict__" : Str))=false:=by decide):PE X (.Name x pos) (tVar i):=by
 intro pins s σ H Q I h
 obtain ⟨v,e,h⟩:=h
 obtain ⟨m,hn,n⟩:=I.loc
 obtain ⟨u,r,l⟩:=n i x v j e g
 have fin:EP X pins σ Q u s:=⟨v,H,I,r,h⟩
 rcases l with ⟨b,hm⟩ | ⟨b,c,f,a⟩
 ·exact wpAny_Name (wpAny_loadName_local I.ok.kind b hn hm fin) hd
 ·rcases b with b | b
  ·exact wpAny_Name (wpAny_loadName_cell I.ok.kind b f a fin) hd
  ·exact wpAny_Name (wpAny_loadName_free I.ok.kind b f a fin d) hd
theorem aab {i j pos}:PE X (.Constant (.int i) j pos) (tC (.int i)):=fun _ _ _ H _ I h=>wpAny_Constant_int ⟨.int i,H,I.tok _,⟨_,rfl⟩,h⟩
theorem ab6 {b j pos}:PE X (.Constant (.bool b) j pos) (tC (.bl b)):=fun _ _ _ H _ I h=>Constant_bool ⟨.bl b,H,I,rfl,h⟩
theorem afd {j pos}:PE X (.Constant .none j pos) (tC .non):=fun _ _ _ H _ I h=>Constant_none ⟨.non,H,I,rfl,h⟩
def Gl (X:Cx) (x:Str):Prop:=X.env.kindOf x=some .globalImplicit
theorem atx {E:Value->Shared->Prop} {pins:List (Addr × Obj)} {s:Shared} {σ:St} {H:Hp} {x:Str} {u:Value} {pos:Pos} {Q:Value->Shared->Prop} (I:Inv X pins σ H s) (a:Gl X x) (hm:X.mg x=some u) (h:Q u s)
  (hd:(x == ("__debug__" : Str))=false:=by decide):wpAny (model X.prog X.w) X.A (eval (.Name x pos) X.env) Q E s :=
 Calls.Name_function_global I.ok.kind a (Calls.loadGlobal_global (by rw [I.ok.glob];exact I.mod.glob.keeps I.bk) hm h) hd
theorem adc {E:Value->Shared->Prop} {pins:List (Addr × Obj)} {s:Shared} {σ:St} {H:Hp} {x:Str} {u:Value} {pos:Pos} {Q:Value->Shared->Prop} (I:Inv X pins σ H s) (c:Gl X x) (hm:X.mg x=none) (a:bootBuiltins x=some u) (h:Q u s)
  (hn:x ≠ "__name__":=by decide) (hd:(x == ("__debug__" : Str))=false:=by decide):wpAny (model X.prog X.w) X.A (eval (.Name x pos) X.env) Q E s:=by
 obtain ⟨mb,d,b⟩:=I.mod.blt
 exact Calls.Name_function_global I.ok.kind c (Calls.loadGlobal_builtin (by rw [I.ok.glob];exact I.mod.glob.keeps I.bk) hm (by rw [I.ok.blt];exact d.keeps I.bk) ((b x hn).trans a) h) hd
theorem aei {x:Str} {v:V} {u:Value} {pos:Pos} (b:Gl X x) (hm:X.mg x=none) (a:bootBuiltins x=some u) (r:RelV v u) (hn:x ≠ "__name__":=by decide) (hd:(x == ("__debug__" : Str))=false:=by decide):PE X (.Name x pos) (tC v) :=
 fun _ _ _ H _ I h=>adc I b hm a ⟨v,H,I,r,h⟩ hn hd
variable {a b:Expr} {ta tb:TE} {pos:Pos}
def PC (X:Cx) (op:CmpOp) (a b:Expr) (t:TE):Prop :=
 ∀ (pins:List (Addr × Obj)) (s:Shared) (σ:St) (H:Hp) (Q:VK),Inv X pins σ H s->t σ H Q ->
  wpAny (model X.prog X.w) X.A (eval a X.env) (fun v s₁=>wpAny (model X.prog X.w) X.A (eval b X.env) (fun u s₂=>wpAny (model X.prog X.w) X.A (compareOp op v u) (EP X pins σ Q) X.xe s₂) X.xe s₁) X.xe s
def tB (t:TE):TT:=fun σ H Q=>t σ H fun x H1=>∃ c,x=.bl c/\Q c H1
theorem awj {op:CmpOp} {t:TE} (h:PC X op a b t) (f:behindInMarks op b=false:=by first | exact nobehind _ (by decide) (by decide) | rfl):PT X (.Compare a [op] [b] pos) (tB t):=by
 intro pins s σ H Q I i
 refine wpAny_isTrue_Compare1 (thn (h pins s σ H _ I i) fun v s1 f=>thn f fun u s2 j=>thn j fun c o ⟨x,l,m,n,g⟩=>?_) f
 obtain ⟨d,rfl,q⟩:=g
 cases n
 exact aI5 ⟨l,m,q⟩
theorem aej {e:Expr} {t:TE} (h:PE X e t) (c:∀ whole,isTrue e X.env whole=(do let v ← whole;standAt e.pos;holding [v] (truthy v)):=by intro _;rfl):PT X e (tB t):=by
 intro pins s σ H Q I b
 refine isTrue_plain (thn (h pins s σ H _ I b) fun v s1 ⟨x,f,g,i,a⟩=>?_) (c _)
 obtain ⟨d,rfl,q⟩:=a
 cases i
 exact aI5 ⟨f,g,q⟩
variable {tA tB':TT} {rest:List Expr}
def tAnd (t u:TT):TT:=fun σ H Q=>t σ H fun c H1=>if c=true then u σ H1 Q else Q false H1
def tOr (t u:TT):TT:=fun σ H Q=>t σ H fun c H1=>if c=true then Q true H1 else u σ H1 Q
def tNot (t:TT):TT:=fun σ H Q=>t σ H fun c H1=>Q (!c) H1
theorem afz (ha:PT X a tA):PW X (.BoolOp .And [a] pos) tA:=by
 intro b pins s σ H Q I h
 refine isTrue_and (thn (ha pins s σ H Q I h) fun c s1 e=>?_)
 cases c with
 | true=>exact isTrue_and_nil e
 | false=>exact e
theorem ade (ha:PT X a tA):PW X (.BoolOp .Or [a] pos) tA:=by
 intro b pins s σ H Q I h
 refine isTrue_or (thn (ha pins s σ H Q I h) fun c s1 e=>?_)
 cases c with
 | false=>exact isTrue_or_nil e
 | true=>exact e
theorem ag4 (ha:PT X a tA) (hb:PW X (.BoolOp .And (b :: rest) pos) tB'):PW X (.BoolOp .And (a :: b :: rest) pos) (tAnd tA tB'):=by
 intro i pins s σ H Q I h
 refine isTrue_and (thn (ha pins s σ H _ I h) fun c s1 ⟨d,g,f⟩=>?_)
 cases c with
 | true=>exact hb i pins s1 σ d Q g f
 | false=>exact ⟨d,g,f⟩
theorem adm (ha:PT X a tA) (hb:PW X (.BoolOp .Or (b :: rest) pos) tB'):PW X (.BoolOp .Or (a :: b :: rest) pos) (tOr tA tB'):=by
 intro i pins s σ H Q I h
 refine isTrue_or (thn (ha pins s σ H _ I h) fun c s1 ⟨d,g,f⟩=>?_)
 cases c with
 | true=>exact ⟨d,g,f⟩
 | false=>exact hb i pins s1 σ d Q g f
theorem aek (ha:PT X a tA):PT X (.UnaryOp .Not a pos) (tNot tA):=by
 intro pins s σ H Q I h
 exact isTrue_not (ha pins s σ H (fun c b=>Q (!c) b) I h)
def ant (ta tb:TE):TE:=fun σ H Q=>ta σ H fun x H1=>∃ c,x=.bl c/\if c=true then tb σ H1 Q else Q (.bl false) H1
def anu (ta:TE):TE:=fun σ H Q=>ta σ H fun x H1=>∃ c,x=.bl c/\Q (.bl (!c)) H1
theorem afe {op} {t:TE} (h:PE X a t):PE X (.BoolOp op [a] pos) t:=fun pins s σ H Q I b=>BoolOp_one (h pins s σ H Q I b)
theorem ael (ha:PE X a ta) (hb:PE X (.BoolOp .And (b :: rest) pos) tb):PE X (.BoolOp .And (a :: b :: rest) pos) (ant ta tb):=by
 intro pins s σ H Q I h
 refine BoolOp_and (thn (ha pins s σ H _ I h) fun v s1 ⟨x,f,g,i,d⟩=>?_)
 obtain ⟨c,rfl,d⟩:=d
 cases i
 refine aI5 ?_
 cases c with
 | true=>exact hb pins s1 σ f Q g d
 | false=>exact ⟨.bl false,f,g,rfl,d⟩
theorem awk (ha:PE X a ta):PE X (.UnaryOp .Not a pos) (anu ta):=by
 intro pins s σ H Q I h
 refine UnaryOp_ (thn (ha pins s σ H _ I h) fun v s1 ⟨x,d,f,g,b⟩=>?_)
 obtain ⟨c,rfl,b⟩:=b
 cases g
 exact not_of (aI5 ⟨.bl (!c),d,f,rfl,b⟩)
end
def SqL (K:Frag) (H:Hp) (a:Addr) (xs:List V):Prop :=
 Rd H a (.lst xs) ∨
  ∃ (o:Obj) (its:Array Value) (n:Nat),K.lookup a=some o/\o.cls=.type "list"/\o.dict=none/\o.data=.seq its n/\its.size<=sizeLine/\Vals xs its.toList
def SqT (K:Frag) (H:Hp) (a:Addr) (xs:List V):Prop :=
 Rd H a (.tup xs) ∨
  ∃ (o:Obj) (its:Array Value) (n:Nat),K.lookup a=some o/\o.cls=.type "tuple"/\o.data=.seq its n/\its.size<=sizeLine/\Vals xs its.toList
def absV:Value->Option V
 | .none=>some .non
 | .bool b=>some (.bl b)
 | .int i _=>some (.int i)
 | .str x _=>some (.str x)
 | .bytes b _=>some (.byt b)
 | .float b _=>some (.flt b)
 | .ref a=>some (.ref a)
 | .type n=>some (.ty n)
 | _=>none
theorem RelV.abs {x:V} {u:Value} (r:RelV x u):absV u=some x:=by
 cases x with
 | non=>cases r;rfl
 | bl _=>cases r;rfl
 | int _=>obtain ⟨t,rfl⟩:=r;rfl
 | str _=>obtain ⟨t,rfl⟩:=r;rfl
 | byt _=>obtain ⟨t,rfl⟩:=r;rfl
 | flt _=>obtain ⟨t,rfl⟩:=r;rfl
 | ref _=>cases r;rfl
 | ty _=>cases r;rfl
theorem RelV.inj {x y:V} {u:Value} (r:RelV x u) (q:RelV y u):x=y:=aB6 (r.abs.symm.trans q.abs)
theorem Vals.inj:∀ {xs ys:List V} {us:List Value},Vals xs us->Vals ys us->xs=ys
 | _,_,_,.nil,.nil=>rfl
 | _,_,_,.cons r t,.cons r' t'=>by rw [r.inj r',Vals.inj t t']
section
variable {X:Cx} {pins:List (Addr × Obj)} {σ:St} {H:Hp} {s:Shared} {a:Addr} {xs ys:List V}
theorem SqL.of {K:Frag} (h:H a=some (.lst xs)):SqL K H a xs:=.inl (.inl h)
theorem SqT.of {K:Frag} (h:H a=some (.tup xs)):SqT K H a xs:=.inl (.inl h)
theorem Inv.list (I:Inv X pins σ H s) (h:SqL X.K H a xs):∃ its:List Value,Vals xs its/\PlainL s.heap a its.toArray/\xs.length<=sizeLine:=by
 rcases h with h | ⟨o,its,n,b,c,hd,hs,hz,r⟩
 ·obtain ⟨z,its,n,r,e⟩:=h.ok I.hok
  exact ⟨its,r,⟨_,n,e,rfl,rfl,rfl⟩,z⟩
 ·refine ⟨its.toList,r,⟨o,n,I.kIn a o b,c,hd,by simpa using hs⟩,?_⟩
  have e:=r.length
  simp only [az8] at e
  omega
theorem Inv.tuple (I:Inv X pins σ H s) (h:SqT X.K H a xs):∃ its:List Value,Vals xs its/\IsTup s.heap a its.toArray/\xs.length<=sizeLine:=by
 rcases h with h | ⟨o,its,n,b,c,hs,hz,r⟩
 ·obtain ⟨z,its,r,p⟩:=h.ok I.hok
  exact ⟨its,r,p,z⟩
 ·refine ⟨its.toList,r,⟨o,I.kIn a o b,c,n,by simpa using hs⟩,?_⟩
  have e:=r.length
  simp only [az8] at e
  omega
theorem Inv.list_inj (I:Inv X pins σ H s) (h:SqL X.K H a xs) (h':SqL X.K H a ys):xs=ys:=by
 obtain ⟨its,r,⟨o,n,e,_,_,d⟩,_⟩:=I.list h
 obtain ⟨its',c,⟨o',g,b,_,_,d'⟩,_⟩:=I.list h'
 rw [e] at b;cases b
 rw [d] at d'
 injection d' with f _
 have:its=its':=by simpa using congrArg Array.toList f
 subst this
 exact r.inj c
end
abbrev Cx.wish (X:Cx) (E:Value->Shared->Prop):Cx:={ X with xe:=E }
abbrev Cx.nox (X:Cx):Cx:=X.wish fun _ _=>False
theorem Cx.Ok.wish {X:Cx} (ok:X.Ok) (E:Value->Shared->Prop):(X.wish E).Ok :=
 ⟨ok.mod,ok.kind,ok.glob,ok.blt,ok.above,ok.inj,ok.has,ok.cab,ok.hd,ok.frames,ok.stk,ok.exf,ok.bs,ok.bsz,ok.noex,ok.exfs,ok.funs,ok.frf⟩
theorem Cx.Ok.unwish {X:Cx} {E:Value->Shared->Prop} (ok:(X.wish E).Ok):X.Ok :=
 ⟨ok.mod,ok.kind,ok.glob,ok.blt,ok.above,ok.inj,ok.has,ok.cab,ok.hd,ok.frames,ok.stk,ok.exf,ok.bs,ok.bsz,ok.noex,ok.exfs,ok.funs,ok.frf⟩
section
variable {X:Cx} {pins:List (Addr × Obj)} {σ:St} {H:Hp} {s:Shared} {E:Value->Shared->Prop}
theorem Inv.wish (I:Inv X pins σ H s) (E:Value->Shared->Prop):Inv (X.wish E) pins σ H s:=⟨I.ok.wish E,I.os,I.bare,I.base,I.loc,I.cell,I.free,I.freeC,I.pin,I.hok,I.len⟩
theorem Inv.unwish (I:Inv (X.wish E) pins σ H s):Inv X pins σ H s:=⟨I.ok.unwish,I.os,I.bare,I.base,I.loc,I.cell,I.free,I.freeC,I.pin,I.hok,I.len⟩
theorem SP.unwish {D:Ends} {f:Flow} {b:Shared} (h:SP (X.wish E) pins D f b):SP X pins D f b:=by
 cases f with
 | next=>obtain ⟨a,H',I,q⟩:=h;exact ⟨a,H',I.unwish,q⟩
 | brk=>obtain ⟨a,H',I,q⟩:=h;exact ⟨a,H',I.unwish,q⟩
 | cont=>obtain ⟨a,H',I,q⟩:=h;exact ⟨a,H',I.unwish,q⟩
 | ret u=>obtain ⟨v,a,H',I,r,q⟩:=h;exact ⟨v,a,H',I.unwish,r,q⟩
theorem PSs.nox {st:List Stmt} {t:TS} (h:PSs X.nox st t):PSs X st t:=fun pins s σ H D I a =>
 aI0 (h pins s σ H D (I.wish _) a) (fun _ _ q=>q.unwish) fun _ _ z=>False.elim z
end
section
variable {X:Cx} {st:Stmt} {rest:List Stmt} {t u:TS} {e:Expr} {te:TE} {pos:Pos}
def atc:TS:=fun D σ H=>D.nx σ H
def tSeq (t u:TS):TS:=fun D σ H=>t { D with nx:=u D } σ H
theorem aa5:PSs X [] atc:=fun _ _ σ H _ I h=>wpAny_execs_nil ⟨σ,H,I,h⟩
theorem aad (b:PS X st t) (c:PSs X rest u):PSs X (st :: rest) (tSeq t u):=by
 intro pins s σ H D I h
 refine wpAny_execs_cons (thn (b pins s σ H { D with nx:=u D } I h) fun f s1 q=>?_)
 cases f with
 | next =>
  obtain ⟨a,H',d,q⟩:=q
  exact c pins s1 a H' D d q
 | ret v=>exact q
 | brk=>exact q
 | cont=>exact q
theorem aaf (a:PS X st t):PSs X [st] t:=by
 intro pins s σ H D I h
 refine wpAny_execs_cons (thn (a pins s σ H D I h) fun f s1 q=>?_)
 cases f with
 | next=>exact wpAny_execs_nil q
 | ret v=>exact q
 | brk=>exact q
 | cont=>exact q
theorem Inv.quiet {pins:List (Addr × Obj)} {σ:St} {H:Hp} {s:Shared} (I:Inv X pins σ H s):interactive X.env=false:=by simp [interactive,I.ok.kind]
def atd (te:TE):TS:=fun D σ H=>te σ H fun _ H1=>D.nx σ H1
theorem abj (d:PE X e te) (hs:swapsWith e none pos.line X.env=pure false:=by rfl):PS X (.Expr e pos) (atd te):=by
 intro pins s σ H D I h
 exact wpAny_Expr_any (thn (d pins s σ H _ I h) fun v s1 ⟨x,a,c,f,b⟩=>⟨σ,a,c,b⟩) I.quiet hs
def tRet (te:TE):TS:=fun D σ H=>te σ H D.rt
theorem aa0 (d:PE X e te):PS X (.Return (some e) pos) (tRet te):=by
 intro pins s σ H D I h
 exact wpAny_Return_some (thn (d pins s σ H _ I h) fun v s1 ⟨x,a,c,f,b⟩=>⟨x,σ,a,c,f,b⟩)
def tIfS (c:TT) (t u:TS):TS:=fun D σ H=>c σ H fun b H1=>if b=true then t D σ H1 else u D σ H1
theorem abo {c:Expr} {a b:List Stmt} {j:TT} (l:PT X c j) (ha:PSs X a t) (hb:PSs X b u):PS X (.If c a b pos) (tIfS j t u):=by
 intro pins s σ H D I h
 refine wpAny_If (thn (l pins s σ H _ I h) fun d s1 ⟨g,i,f⟩=>?_)
 cases d with
 | true=>exact ha pins s1 σ g D i f
 | false=>exact hb pins s1 σ g D i f
def awl:TS:=fun _ _ _=>False
theorem aka:PS X st awl:=fun _ _ _ _ _ _ h=>h.elim
end
abbrev TG:=V->St->Hp->(St->Hp->Prop)->Prop
abbrev TGs:=List V->St->Hp->(St->Hp->Prop)->Prop
def PG (X:Cx) (target:Expr) (t:TG):Prop :=
 ∀ (pins:List (Addr × Obj)) (s:Shared) (σ:St) (H:Hp) (v:V) (u:Value) (Q:St->Hp->Prop),Inv X pins σ H s->RelV v u->t v σ H Q ->
  wpAny (model X.prog X.w) X.A (assign target X.env u) (fun _ s'=>∃ σ' H',Inv X pins σ' H' s'/\Q σ' H') X.xe s
def PGs (X:Cx) (ts:List Expr) (t:TGs):Prop :=
 ∀ (pins:List (Addr × Obj)) (s:Shared) (σ:St) (H:Hp) (vs:List V) (us:List Value) (Q:St->Hp->Prop),Inv X pins σ H s->Vals vs us->t vs σ H Q ->
  wpAny (model X.prog X.w) X.A (assignInOrder ((assignEach ts X.env).map (·.2)) us) (fun _ s'=>∃ σ' H',Inv X pins σ' H' s'/\Q σ' H') X.xe s
abbrev TSet:=V->V->V->Hp->(Hp->Prop)->Prop
def PSet (X:Cx) (t:TSet):Prop :=
 ∀ (pins:List (Addr × Obj)) (s:Shared) (σ:St) (H:Hp) (o i v:V) (ov iv u:Value) (Q:Hp->Prop),Inv X pins σ H s->RelV o ov->RelV i iv->RelV v u->t o i v H Q ->
  wpAny (model X.prog X.w) X.A (setItem ov iv u) (fun _ s'=>∃ H',Inv X pins σ H' s'/\Q H') X.xe s
section
variable {X:Cx} {pos:Pos}
def aa1 (i:Nat):TG:=fun v σ H Q=>Q (σ.set i (some v)) H
theorem aaj {i:Nat} {x:Str} (a:X.N.Nodup) (hi:X.N[i]?=some x) (c:Loc X.env.scope x) (hf:X.fn x=true\/X.env.scope.names.lookup x=some .local:=by first | exact .inl rfl | exact .inr rfl | assumption):PG X (.Name x pos) (aa1 i):=by
 intro pins s σ H v u Q I r h
 exact wpAny_assign_Name (store_ok I a hi c r (fun d b=>⟨_,H,b,h⟩) hf)
def gNil:TGs:=fun vs σ H Q=>vs=[]/\Q σ H
def ac1 (t:TG) (u:TGs):TGs:=fun vs σ H Q=>∃ v r,vs=v :: r/\t v σ H fun σ' H'=>u r σ' H' Q
theorem acb:PGs X [] gNil:=by
 intro pins s σ H vs us Q I r h
 obtain ⟨e,h⟩:=h
 subst e
 cases r
 exact assignInOrder_nil ⟨σ,H,I,h⟩
theorem aa2 {e:Expr} {es:List Expr} {t:TG} {u:TGs} (i:PG X e t) (c:PGs X es u)
  (hs:(assignEach (e :: es) X.env).map (·.2)=assign e X.env :: (assignEach es X.env).map (·.2):=by rfl):PGs X (e :: es) (ac1 t u):=by
 intro pins s σ H vs us Q I r h
 obtain ⟨v,j,g,h⟩:=h
 subst g
 cases r with
 | cons r rr =>
  rw [hs]
  refine assignInOrder_cons (thn (i pins s σ H _ _ _ I r h) fun _ s1 ⟨a,d,f,b⟩=>?_)
  exact c pins s1 a d _ _ Q f rr b
def gTup (K:Frag) (n:Nat) (t:TGs):TG:=fun v σ H Q=>∃ a xs,v=.ref a/\SqT K H a xs/\xs.length=n/\t xs σ H Q
theorem acs {es:List Expr} {k:Nat} {t:TGs} {n:Nat} (m:X.calm=true) (h:PGs X es t)
  (hn:(assignEach es X.env).length=n:=by rfl) (d:(assignEach es X.env).findIdx? (·.1)=none:=by rfl):PG X (.Tuple es k pos) (gTup X.K n t):=by
 intro pins s σ H v u Q I r c
 obtain ⟨a,xs,l,j,p,c⟩:=c
 subst l
 cases r
 obtain ⟨its,f,g,hz⟩:=I.tuple j
 refine assign_Tuple_tuple (I.ok.hd m) g (by simp [hn,← p,f.length]) d fun h' q=>?_
 have i:Inv X pins σ H { s with heap:=h' }:=I.kept (t':=s.toks) fun b o e=>q b o (aA6 (aH4 e)) e
 exact h pins _ σ H xs _ Q i (by simpa using f) c
def gSub (to ti:TE) (t:TSet):TG:=fun v σ H Q=>to σ H fun o H1=>ti σ H1 fun i H2=>t o i v H2 fun H3=>Q σ H3
theorem ao0 {o i:Expr} {to c:TE} {t:TSet} (n:PE X o to) (hi:PE X i c) (hs:PSet X t)
  (ha:∀ v,assign (.Subscript o i pos) X.env v=(do
   let a ← holding [v] (eval o X.env)
   let b ← holding [v,a] (eval i X.env)
   standAt pos
   holding [v,a,b] (setItem a b v)
   release [v,a,b] []):=by intro _;rfl):PG X (.Subscript o i pos) (gSub to c t):=by
 intro pins s σ H v u Q I r h
 rw [ha]
 refine aH1 (aH7 (thn (n pins s σ H _ I h) fun a s1 ⟨x,j,l,p,d⟩=>?_))
 refine aH1 (aH7 (thn (hi pins s1 σ j _ l d) fun b s2 ⟨y,H2,q,f,m⟩=>?_))
 refine aH1 (wpAny_standAt (aH1 (aH7 (thn (hs pins s2 σ H2 x y v a b u _ q p f r m) fun _ z ⟨H3,w,g⟩=>?_))))
 exact wpAny_release ⟨σ,H3,w,g⟩
def tAsg (te:TE) (g:TG):TS:=fun D σ H=>te σ H fun x H1=>g x σ H1 D.nx
theorem adx {tg e:Expr} {te:TE} {g:TG} (c:PE X e te) (d:PG X tg g) (hs:swapsWithSole [tg] e pos.line X.env=pure false:=by rfl) (b:swappedStores [tg] e X.env=pure none:=by rfl)
  (l:(assignEach [tg] X.env).map (·.2)=[assign tg X.env]:=by rfl):PS X (.Assign [tg] e pos) (tAsg te g):=by
 intro pins s σ H D I h
 refine wpAny_Assign_stores (thn (c pins s σ H _ I h) fun v s1 ⟨x,f,i,j,a⟩=>?_) hs b
 rw [l]
 exact thn (d pins s1 σ f x v _ i j a) fun _ s2 q=>q
theorem aai {i:Nat} {x:Str} {e:Expr} {te:TE} {a:Pos} (d:X.N.Nodup) (hi:X.N[i]?=some x) (m:Loc X.env.scope x) (c:PE X e te) (hs:swapsWith e (some (.Name x a)) pos.line X.env=pure false:=by rfl) (hf:X.fn x=true\/X.env.scope.names.lookup x=some .local:=by first | exact .inl rfl | exact .inr rfl | assumption) :
  PS X (.Assign [.Name x a] e pos) (tAsg te (aa1 i)):=by
 intro pins s σ H D I h
 refine wpAny_Assign_Name (thn (c pins s σ H _ I h) fun v s1 ⟨y,f,g,j,b⟩=>?_) hs
 exact store_ok g d hi m j (fun s2 l=>⟨_,f,l,b⟩) hf
end
section
variable {X:Cx} {pos:Pos}
def ao1 (c:TT) (tb:TS):TS:=fun D σ H=>∃ W:Nat->St->Hp->Prop,(∃ m,W m σ H)/\∀ m σ H,W m σ H ->
 c σ H fun b H1=>if b=true then ∃ N:St->Hp->Prop,(∀ σ' H',N σ' H'->∃ m',m' < m/\W m' σ' H')/\tb { D with nx:=N,ct:=N,bk:=D.nx } σ H1 else D.nx σ H1
theorem ago {c:Expr} {body:List Stmt} {B:TT} {y:TS} (x:PassesOwn (model X.prog X.w) X.A X.env X.xe) (G:PT X c B) (hb:PSs X body y):PS X (.While c body [] pos) (ao1 B y):=by
 intro pins s σ H D I h
 obtain ⟨W,⟨K,F⟩,i⟩:=h
 refine wpAny_While (codeAny_whileLoop (fun n J=>∃ g H',Inv X pins g H' J/\W n g H') ?_ K ⟨σ,H,I,F⟩)
 rintro n s1 ⟨d,u,E,C⟩
 refine wpAny_passesOwn x (thn (G pins s1 d u _ E (i n d u C)) fun b s2 ⟨H2,z,l⟩=>?_)
 cases b with
 | true =>
  obtain ⟨N,r,l⟩:=l
  rw [aD9 rfl]
  refine wpAny_passesOwn x (thn (hb pins s2 d H2 _ z l) fun f L j=>?_)
  cases f with
  | next =>
   obtain ⟨a,H3,p,m⟩:=j
   obtain ⟨o,hm,q⟩:=r a H3 m
   exact ⟨o,hm,a,H3,p,q⟩
  | cont =>
   obtain ⟨a,H3,p,m⟩:=j
   obtain ⟨o,hm,q⟩:=r a H3 m
   exact ⟨o,hm,a,H3,p,q⟩
  | brk=>exact j
  | ret v=>exact j
 | false =>
  rw [aE0 aA0]
  exact wpAny_execs_nil ⟨d,H2,z,l⟩
end
structure It where
 go:Nat->Hp->Prop
 yld:Nat->Hp->V->Hp->Prop
 stop:Nat->Hp->Prop
def FpOk (X:Cx) (pins:List (Addr × Obj)) (H:Hp) (b:Addr):Prop :=
 H b=none/\b ≠ X.env.locals/\b ∉ X.fs/\(b∈X.ex\/X.s₀.heap.objs.size<=b)/\(∀ x c,X.env.cells.lookup x=some c->c ≠ b)/\∀ p∈X.pn ++ pins,p.1 ≠ b
theorem Inv.fpOk {X:Cx} {pins:List (Addr × Obj)} {σ:St} {H H':Hp} {s:Shared} {b:Addr} (I:Inv X pins σ H s) (hb:s.heap.objs.size<=b) (hn:H' b=none):FpOk X pins H' b:=by
 refine ⟨hn,Nat.ne_of_gt (aB5 I.lt hb),I.nofs hb,.inr (aC0 I.sz hb),fun x c e z=>?_,fun p a z=>?_⟩
 ·obtain ⟨v,q⟩:=I.cell x c e
  exact absurd (aB5 q.lt (by rw [z];exact hb)) (aE8 _)
 ·exact absurd (aB5 (aH4 (I.pin p a).1) (by rw [z];exact hb)) (aE8 _)
structure Turn (P:Program) (w:World) (K:Frag) (tg:Expr) (J:It) (fp:List Addr) (it:Addr) (tn:Nat->Heap->Prop):Prop where
 mem:it∈fp
 obj:∀ i h,tn i h->∀ b∈fp,∃ o,h.get? b=some o/\∀ v,o.data ≠ .cell v
 keep:∀ i h h',tn i h->(∀ b∈fp,∀ o,h.get? b=some o->h'.get? b=some o)->tn i h'
 item:∀ (X:Cx),X.prog=P->X.w=w->X.K=K->X.calm=true->∀ (i:Nat) (pins:List (Addr × Obj)) (s:Shared) (σ:St) (H:Hp) (E:Value->Shared->Prop),Inv X pins σ H s->(∀ b∈fp,FpOk X pins H b)->tn i s.heap->J.go i H ->
  wpAny (model P w) X.A (pyNext (.ref it)) (fun r s1=>∃ u,r=some u /\
   wpAny (model P w) X.A (letOwnedTupleGo tg (.ref it) u) (fun _ s2=>∃ x H',Inv X pins σ H' s2/\RelV x u/\J.yld i H x H'/\tn (i+1) s2.heap/\∀ b∈fp,H' b=none) E s1) E s
 done:∀ (X:Cx),X.prog=P->X.w=w->X.K=K->X.calm=true->∀ (i:Nat) (pins:List (Addr × Obj)) (s:Shared) (σ:St) (H:Hp) (E:Value->Shared->Prop),Inv X pins σ H s->(∀ b∈fp,FpOk X pins H b)->tn i s.heap->J.stop i H ->
  wpAny (model P w) X.A (pyNext (.ref it)) (fun r s1=>r=none/\Inv X pins σ H s1) E s
 self:∀ (A:Around) (i:Nat) (s:Shared) (Q:Value->Shared->Prop) (E:Value->Shared->Prop),tn i s.heap->Q (.ref it) s->wpAny (model P w) A (pyIter (.ref it)) Q E s
abbrev TI:=St->Hp->(It->Hp->Prop)->Prop
def PIE (X:Cx) (pins:List (Addr × Obj)) (σ:St) (tg:Expr) (R:It->Hp->Prop) (itv:Value) (s2:Shared):Prop :=
 ∃ (it:Addr) (fp:List Addr) (tn:Nat->Heap->Prop) (J:It) (H':Hp),itv=.ref it/\Inv X pins σ H' s2/\Turn X.prog X.w X.K tg J fp it tn/\tn 0 s2.heap/\(∀ b∈fp,FpOk X pins H' b)/\R J H'
def PI (X:Cx) (tg iter:Expr) (wi:TI):Prop :=
 ∀ (pins:List (Addr × Obj)) (s:Shared) (σ:St) (H:Hp) (R:It->Hp->Prop),Inv X pins σ H s->wi σ H R ->
  wpAny (model X.prog X.w) X.A (eval iter X.env) (fun v s1=>wpAny (model X.prog X.w) X.A (pyIter v) (PIE X pins σ tg R) X.xe s1) X.xe s
theorem anv {M:Model} {A:Around} {E:Value->Shared->Prop} {s:Shared} {tg:Expr} {it:Addr} {u:Value} {o:Obj} {n:String} {vs:Array Value} {Q:Unit->Shared->Prop} (b:s.heap.get? it=some o) (c:o.cls=.type n) (hd:o.data=.fields vs)
  (hn:["enumerate","zip","dict_itemiterator","dict_reverseitemiterator","odict_iterator","itertools.zip_longest","itertools.pairwise"].contains n=false) (a:Q () s):wpAny M A (letOwnedTupleGo tg (.ref it) u) Q E s:=by
 unfold letOwnedTupleGo
 cases tg <;> first
  | exact aH2 a
  | (cases u <;> first
    | exact aH2 a
    | (refine aH1 (wpAny_load b ?_)
       rw [c,hd]
       show wpAny M A (if (["enumerate","zip","dict_itemiterator","dict_reverseitemiterator","odict_iterator","itertools.zip_longest","itertools.pairwise"].contains n && vs[0]? == some (rawInt _))=true then _ else _) Q E s
       rw [aE0 (by intro h;rw [hn,Bool.false_and] at h;cases h)]
       exact aH2 a))
def Itl (K:Frag) (a:Addr):It :=
 ⟨fun i H=>∃ xs x,SqL K H a xs/\xs[i]?=some x,fun i H x H'=>H'=H/\∀ xs,SqL K H a xs->xs[i]?=some x,fun i H=>∃ xs,SqL K H a xs/\xs.length<=i⟩
def Itr (lo:Int) (n:Nat):It:=⟨fun i _=>i < n,fun i H x H'=>H'=H/\x=.int (lo+i),fun i _=>n<=i⟩
theorem ao2 {P:Program} {w:World} {K:Frag} {tg:Expr} (a it:Addr):Turn P w K tg (Itl K a) [it] it (fun i h=>h.IsListIter it a i) where
 mem:=by simp
 obj:=fun i h st b hb=>by
  have e:b=it:=by simpa using hb
  subst e
  obtain ⟨o,e,c,d⟩:=st
  exact ⟨o,e,fun v z=>by rw [d] at z;cases z⟩
 keep:=fun i h h' st k=>st.at fun o e=>k it (by simp) o e
 item:=by
  intro X B j l C i pins s σ H E I hf st m
  subst B j l
  obtain ⟨xs,x,f,A⟩:=m
  obtain ⟨its,r,p,hz⟩:=I.list f
  obtain ⟨u,M,L⟩:=r.get A
  obtain ⟨q,f1,F,y,n,g⟩:=hf it (by simp)
  refine wpAny_pyNext_list_item st p.isList (x:=u) (by simpa using M) fun h' st' sb=>?_
  have J:Inv X pins σ H { s with heap:=h' }:=I.turned (t':=s.toks) (fun b o hb e=>(sb.2 b hb).trans e) q f1 y n g
  obtain ⟨o,e,c,d⟩:=id st'
  exact ⟨u,rfl,anv (s:={ s with heap:=h' }) e c d (by decide) ⟨x,H,J,L,⟨rfl,fun ys G=>by rw [I.list_inj G f];exact A⟩,st',fun b hb=>(hf b hb).1⟩⟩
 done:=by
  intro X B j l C i pins s σ H E I hf st m
  subst B j l
  obtain ⟨xs,f,A⟩:=m
  obtain ⟨its,r,p,hz⟩:=I.list f
  obtain ⟨q,f1,F,y,n,g⟩:=hf it (by simp)
  have N:=r.length
  exact wpAny_pyNext_list_end (I.ok.hd C) st p.isList (by simp;omega) fun h' D=>⟨rfl,I.turned (t':=s.toks) (fun b o hb e=>D b o hb e) q f1 y n g⟩
 self:=fun _ _ _ _ _ st h=>wpAny_pyIter_listiter st h
theorem anw {P:Program} {w:World} {K:Frag} {tg:Expr} (it:Addr) (lo:Int) (n:Nat):Turn P w K tg (Itr lo n) [it] it (fun i h=>IsRangeIter h it (lo+(i:Nat) * 1) ((n:Int) - (i:Nat)) 1) where
 mem:=by simp
 obj:=fun i h st b hb=>by
  have e:b=it:=by simpa using hb
  subst e
  exact ⟨_,st,fun v z=>by
   have B:Data.fields _=Data.cell v:=z
   cases B⟩
 keep:=fun i h h' st k=>k it (by simp) _ st
 item:=by
  intro X p c d l i pins s σ H E I hf st f
  subst p c d
  obtain ⟨j,f1,x,m,g,a⟩:=hf it (by simp)
  have W:=Walks.range (prog:=X.prog) (w:=X.w) (I.ok.hd l) it lo 1 n
  refine W.item i s _ _ f st fun v h' q u st' y=>?_
  obtain ⟨t,rfl⟩:=u
  have A:Inv X pins σ H { s with heap:=h',toks:=q }:=I.turned (fun b o hb e=>y b o (by simpa using hb) e) j f1 m g a
  refine ⟨_,rfl,anv (s:={ s with heap:=h',toks:=q }) (n:="range_iterator") st' rfl rfl (by decide) ⟨.int (lo+i),H,A,⟨t,?_⟩,⟨rfl,rfl⟩,st',fun b hb=>(hf b hb).1⟩⟩
  rw [Int.mul_one]
 done:=by
  intro X p c d l i pins s σ H E I hf st f
  subst p c d
  obtain ⟨j,f1,x,m,g,a⟩:=hf it (by simp)
  exact wpAny_pyNext_range_end (I.ok.hd l) st (by have:n<=i:=f;omega) fun h' r=>⟨rfl,I.turned (t':=s.toks) (fun b o hb e=>r b o hb e) j f1 m g a⟩
 self:=fun _ _ _ _ _ st h=>wpAny_pyIter_rangeiter st h
section
variable {X:Cx} {tg:Expr}
def anx (K:Frag) (tl:TE):TI:=fun σ H R=>tl σ H fun x H1=>∃ a,x=.ref a/\(∃ xs,SqL K H1 a xs)/\R (Itl K a) H1
theorem abk {l:Expr} {tl:TE} (j:PE X l tl):PI X tg l (anx X.K tl):=by
 intro pins s σ H R I h
 refine thn (j pins s σ H _ I h) fun v s1 ⟨x,f,c,i,d⟩=>?_
 obtain ⟨a,e,⟨xs,g⟩,q⟩:=d
 subst e
 cases i
 obtain ⟨its,m,p,hz⟩:=c.list g
 refine aI6 p.isList ?_
 refine ⟨s1.heap.objs.size,[s1.heap.objs.size],_,_,f,rfl,c.kept (t':=s1.toks) fun b o e=>aH3 _ e,ao2 a _,⟨_,aH5 _ rfl,rfl,rfl⟩,fun b hb=>?_,q⟩
 have e:b=s1.heap.objs.size:=by simpa using hb
 subst e
 exact c.fpOk (az6 _) (c.hok.fresh (az6 _))
theorem akb {pins:List (Addr × Obj)} {σ:St} {H:Hp} {s:Shared} {R:It->Hp->Prop} {E:Value->Shared->Prop} {lo hi:Int} {t u v:Tok} {a:Nat} (I:Inv X pins σ H s) (i : -(2 ^ 62)<=lo) (d:lo < 2 ^ 62) (j : -(2 ^ 62)<=hi) (g:hi < 2 ^ 62)
  (q:R (Itr lo (hi - lo).toNat) H):wpAny (model X.prog X.w) X.A (pyIter (.ref s.heap.objs.size)) (PIE X pins σ tg R) E { s with heap:=s.heap.push { cls:=.type "range",data:=.fields #[.int lo t,.int hi u,.int 1 v] },toks:=a }:=by
 refine wpAny_pyIter_range (IsRange.new ..) (small_one i d j g) ?_
 have c:Inv X pins σ H { s with heap:=s.heap.push { cls:=.type "range",data:=.fields #[.int lo t,.int hi u,.int 1 v] },toks:=a }:=I.kept fun b o e=>aH3 _ e
 refine ⟨(s.heap.push { cls:=.type "range",data:=.fields #[.int lo t,.int hi u,.int 1 v] }).objs.size,[(s.heap.push { cls:=.type "range",data:=.fields #[.int lo t,.int hi u,.int 1 v] }).objs.size],_,_,H,rfl,
  c.kept (t':=a) fun b o e=>aH3 _ e,anw _ lo (hi - lo).toNat,?_,fun b hb=>?_,q⟩
 ·have h:lo+((0:Nat):Int) * 1=lo:=by simp
  have f:(((hi - lo).toNat:Nat):Int) - ((0:Nat):Int)=Builtin.Range.rangeSize lo hi 1:=by rw [rangeSize_one];split <;> omega
  show IsRangeIter _ _ (lo+((0:Nat):Int) * 1) ((((hi - lo).toNat:Nat):Int) - ((0:Nat):Int)) 1
  rw [h,f]
  exact aH5 _ rfl
 ·have e:b=(s.heap.push { cls:=.type "range",data:=.fields #[.int lo t,.int hi u,.int 1 v] }).objs.size:=by simpa using hb
  subst e
  exact c.fpOk (az6 _) (c.hok.fresh (az6 _))
def ate (ta:TA):TI:=fun σ H R=>ta σ H fun vs H1=>∃ j:Int,vs=[.int j]/\-(2 ^ 62)<=j/\j < 2 ^ 62/\R (Itr 0 j.toNat) H1
def atf (ta:TA):TI:=fun σ H R=>ta σ H fun vs H1=>∃ i j:Int,vs=[.int i,.int j]/\(-(2 ^ 62)<=i/\i < 2 ^ 62/\-(2 ^ 62)<=j/\j < 2 ^ 62)/\R (Itr i (j - i).toNat) H1
theorem abb {a:Expr} {c:TA} {p pos:Pos} (d:Gl X "range") (hm:X.mg "range" = none) (ha:PA X [a] c) (hs:starEach [a] X.env=[(false,eval a X.env)]:=by rfl):PI X tg (.Call (.Name "range" p) [a] [] pos) (ate c):=by
 intro pins s σ H R I h
 refine Call_ (adc I d hm boot_range (PyProof.Rows.callWith_type1 (thn (ha pos pins s σ H _ I h) fun us s1 ⟨vs,l,f,i,b⟩=>?_) hs rfl))
 obtain ⟨j,e,b,g,q⟩:=b
 subst e
 cases i with
 | cons r rr =>
  cases rr
  obtain ⟨t,rfl⟩:=r
  exact call_range_1 (akb f (by omega) (by omega) b g (by simpa using q))
theorem ao3 {a b:Expr} {f:TA} {p pos:Pos} (l:Gl X "range") (hm:X.mg "range" = none) (ha:PA X [a,b] f) (hs:starEach [a,b] X.env=[(false,eval a X.env),(false,eval b X.env)]:=by rfl) (c:starEach [b] X.env=[(false,eval b X.env)]:=by rfl) :
  PI X tg (.Call (.Name "range" p) [a,b] [] pos) (atf f):=by
 intro pins s σ H R I h
 refine Call_ (adc I l hm boot_range (PyProof.Rows.callWith_type1 (thn (ha pos pins s σ H _ I h) fun us s1 ⟨vs,v,m,o,d⟩=>?_) (by rw [hs,c]) (by rw [c];rfl)))
 obtain ⟨i,j,e,⟨d,n,g,u⟩,q⟩:=d
 subst e
 cases o with
 | cons r rr =>
  cases rr with
  | cons r' rr =>
   cases rr
   obtain ⟨t,rfl⟩:=r
   obtain ⟨t',rfl⟩:=r'
   exact call_range_2 (akb m d n g u q)
def tFor (wi:TI) (g:TG) (tb:TS):TS:=fun D σ H=>wi σ H fun J H1=>∃ W:Nat->Nat->St->Hp->Prop,(∃ m,W 0 m σ H1)/\∀ i m σ H,W i m σ H ->
 (J.stop i H/\D.nx σ H)\/(J.go i H/\∃ N:St->Hp->Prop,(∀ σ' H',N σ' H'->∃ m',m' < m/\W (i+1) m' σ' H')/\∀ x H',J.yld i H x H'->g x σ H' fun σ2 H2=>tb { D with nx:=N,ct:=N,bk:=D.nx } σ2 H2)
def ady (fp:List Addr) (h:Heap):List (Addr × Obj):=fp.filterMap fun b=>(h.get? b).map fun o=>(b,o)
theorem aby {fp:List Addr} {h:Heap} {b:Addr} {o:Obj} (hb:b∈fp) (e:h.get? b=some o):(b,o)∈ady fp h:=List.mem_filterMap.mpr ⟨b,hb,by rw [e];rfl⟩
theorem ao4 {fp:List Addr} {h:Heap} {p:Addr × Obj} (a:p∈ady fp h):p.1∈fp/\h.get? p.1=some p.2:=by
 obtain ⟨b,hb,e⟩:=List.mem_filterMap.mp a
 cases q:h.get? b with
 | none=>rw [q] at e;cases e
 | some o =>
  rw [q] at e
  have c:(b,o)=p:=aB6 e
  subst c
  exact ⟨hb,q⟩
theorem Inv.pinned {pins:List (Addr × Obj)} {σ:St} {H:Hp} {s:Shared} {fp:List Addr} (I:Inv X pins σ H s) (hf:∀ b∈fp,FpOk X pins H b) (h:∀ b∈fp,∃ o,s.heap.get? b=some o/\∀ v,o.data ≠ .cell v):Inv X (pins ++ ady fp s.heap) σ H s :=
 I.pins_of fun p g=>(az7.mp g).elim (fun z=>I.pin p (aA3 _ z)) fun z=>by
  obtain ⟨hb,e⟩:=ao4 z
  obtain ⟨f,f1,c,_⟩:=hf p.1 hb
  obtain ⟨o,a,d⟩:=h p.1 hb
  rw [e] at a;cases a
  exact ⟨e,f,f1,c,d⟩
theorem Inv.unpinned {pins a:List (Addr × Obj)} {σ:St} {H:Hp} {s:Shared} (I:Inv X (pins ++ a) σ H s):Inv X pins σ H s:=I.pins_of fun p b=>I.pin p (aA3 _ (aB7 _ b))
theorem abf {iter:Expr} {body:List Stmt} {wi:TI} {g:TG} {tb:TS} {pos:Pos} (K:PassesOwn (model X.prog X.w) X.A X.env X.xe) (Z:X.calm=true) (hi:PI X tg iter wi) (hg:PG X tg g) (hb:PSs X body tb)
  (hs:∀ x,foldedSetIterable iter X.env x=pure x:=by intro _;rfl):PS X (.For tg iter body [] pos) (tFor wi g tb):=by
 intro pins s σ H D I h
 refine wpAny_For (thn (hi pins s σ H _ I h) fun v s1 h1=>thn h1 fun a0 s2 h2=>?_) hs
 obtain ⟨it,fp,tn,J,H2,e,I2,T,P,f2,W,⟨m0,w0⟩,E⟩:=h2
 subst e
 -- what stays true of the iterator's objects through the loop
 have j:∀ {H':Hp},(∀ b∈fp,H' b=none)->∀ b∈fp,FpOk X pins H' b:=fun hn b hb=>⟨hn b hb,(f2 b hb).2⟩
 refine codeAny_forLoop_any (fun n U=>∃ i p H',Inv X pins p H' U/\tn i U.heap/\(∀ b∈fp,H' b=none)/\W i n p H') ?_ m0 ⟨0,σ,H2,I2,P,fun b hb=>(f2 b hb).1,w0⟩
 rintro n Y ⟨i,c,H3,I3,F,C,w3⟩
 rcases E i n c H3 w3 with ⟨stop,qn⟩ | ⟨go,N,hN,step⟩
 ·refine wpAny_passesOwn K (thn (T.done X rfl rfl rfl Z i pins Y c H3 X.xe I3 (j C) F stop) fun r s4 ⟨O,I4⟩=>?_)
  subst O
  exact wpAny_execs_nil ⟨c,H3,I4,qn⟩
 ·refine wpAny_passesOwn K (thn (T.item X rfl rfl rfl Z i pins Y c H3 X.xe I3 (j C) F go) fun r s4 ⟨u,O,h4⟩=>?_)
  subst O
  refine wpAny_passesOwn K (thn h4 fun _ S ⟨x,H5,I5,r5,y5,B,L⟩=>?_)
  have Q:=I5.pinned (j L) (T.obj _ _ B)
  refine wpAny_passesOwn K (thn (hg _ S c H5 x u _ Q r5 (step x H5 y5)) fun _ s6 ⟨R,H6,I6,q6⟩=>?_)
  refine wpAny_passesOwn K (thn (hb _ s6 R H6 _ I6 q6) fun f M z=>?_)
  have q:∀ {a:St} {l:Hp},Inv X (pins ++ ady fp S.heap) a l M->N a l->∃ m,m < n/\∃ i p H',Inv X pins p H' M/\tn i M.heap/\(∀ b∈fp,H' b=none)/\W i m p H':=fun {a l} y G=>by
   obtain ⟨m',hm,w7⟩:=hN a l G
   refine ⟨m',hm,i+1,a,l,y.unpinned,T.keep _ _ _ B fun b hb o e=>(y.pin (b,o) (aA3 _ (aA3 _ (aby hb e)))).1,fun b hb=>?_,w7⟩
   obtain ⟨o,e,d⟩:=T.obj _ _ B b hb
   exact (y.pin (b,o) (aA3 _ (aA3 _ (aby hb e)))).2.1
  cases f with
  | next=>obtain ⟨a,l,y,G⟩:=z;exact q y G
  | cont=>obtain ⟨a,l,y,G⟩:=z;exact q y G
  | brk=>obtain ⟨a,l,y,z⟩:=z;exact ⟨a,l,y.unpinned,z⟩
  | ret v=>obtain ⟨x7,a,l,y,r7,z⟩:=z;exact ⟨x7,a,l,y.unpinned,r7,z⟩
end
abbrev R2:=V->V->Hp->VK->Prop
def OpR (X:Cx) (f:Value->Value->Sem Value) (r:R2):Prop :=
 ∀ (pins:List (Addr × Obj)) (s:Shared) (σ:St) (H:Hp) (x y:V) (v u:Value) (Q:VK),Inv X pins σ H s->RelV x v->RelV y u->r x y H Q ->
  wpAny (model X.prog X.w) X.A (f v u) (EP X pins σ Q) X.xe s
def UnR (X:Cx) (f:Value->Sem Value) (r:V->Hp->VK->Prop):Prop :=
 ∀ (pins:List (Addr × Obj)) (s:Shared) (σ:St) (H:Hp) (x:V) (v:Value) (Q:VK),Inv X pins σ H s->RelV x v->r x H Q ->
  wpAny (model X.prog X.w) X.A (f v) (EP X pins σ Q) X.xe s
def abh (X:Cx) (f:Value) (r:List V->Hp->VK->Prop):Prop :=
 ∀ (pins:List (Addr × Obj)) (s:Shared) (σ:St) (H:Hp) (xs:List V) (us:List Value) (Q:VK),Inv X pins σ H s->Vals xs us->r xs H Q ->
  wpAny (model X.prog X.w) X.A (call f us) (EP X pins σ Q) X.xe s
def TruR (X:Cx) (r:V->Hp->(Bool->Hp->Prop)->Prop):Prop :=
 ∀ (pins:List (Addr × Obj)) (s:Shared) (σ:St) (H:Hp) (x:V) (v:Value) (Q:Bool->Hp->Prop),Inv X pins σ H s->RelV x v->r x H Q ->
  wpAny (model X.prog X.w) X.A (truthy v) (TP X pins σ Q) X.xe s
def tOp (r:R2) (ta tb:TE):TE:=fun σ H Q=>ta σ H fun x H1=>tb σ H1 fun y H2=>r x y H2 Q
def tUn (r:V->Hp->VK->Prop) (ta:TE):TE:=fun σ H Q=>ta σ H fun x H1=>r x H1 Q
def rI (C:Int->Int->Prop) (g:Int->Int->V):R2:=fun x y H Q=>∃ i j,x=.int i/\y=.int j/\C i j/\Q (g i j) H
def rI0 (g:Int->Int->V):R2:=fun x y H Q=>∃ i j,x=.int i/\y=.int j/\Q (g i j) H
def rU (g:Int->V):V->Hp->VK->Prop:=fun x H Q=>∃ i,x=.int i/\Q (g i) H
section
variable {X:Cx} {a b c:Expr} {ta tb tc:TE} {pos:Pos}
theorem binT (ha:PE X a ta) (hb:PE X b tb) {pins:List (Addr × Obj)} {s:Shared} {σ:St} {H:Hp} {R:V->V->Hp->Prop} (I:Inv X pins σ H s)
  (h:ta σ H fun x g=>tb σ g fun y H2=>R x y H2) {Q:Value->Shared->Prop} {f:Value->Value->Sem Value}
  (hf:∀ v u s2 x y H2,Inv X pins σ H2 s2->RelV x v->RelV y u->R x y H2->wpAny (model X.prog X.w) X.A (f v u) Q X.xe s2) :
  wpAny (model X.prog X.w) X.A (eval a X.env) (fun v c=>wpAny (model X.prog X.w) X.A (eval b X.env) (fun u d=>wpAny (model X.prog X.w) X.A (f v u) Q X.xe d) X.xe c) X.xe s:=by
 refine thn (ha pins s σ H _ I h) fun v s1 ⟨x,g,l,n,i⟩=>?_
 refine thn (hb pins s1 σ g _ l i) fun u s2 ⟨y,H2,o,j,m⟩=>?_
 exact hf v u s2 x y H2 o n j m
theorem aae {op:Operator} {r:R2} (d:OpR X (binaryOp op) r) (ha:PE X a ta) (hb:PE X b tb):PE X (.BinOp a op b pos) (tOp r ta tb):=by
 intro pins s σ H Q I h
 exact wpAny_BinOp (binT ha hb I h fun v u s2 x y H2 f g c q=>d pins s2 σ H2 x y v u Q f g c q)
theorem ag5 {op:UnaryOp} {r:V->Hp->VK->Prop} (f:UnR X (unaryOp op) r) (ha:PE X a ta):PE X (.UnaryOp op a pos) (tUn r ta):=by
 intro pins s σ H Q I h
 exact UnaryOp_ (thn (ha pins s σ H _ I h) fun v s1 ⟨x,b,d,g,c⟩=>f pins s1 σ b x v Q d g c)
theorem opI {f:Value->Value->Sem Value} {C:Int->Int->Prop} {g:Int->Int->Int}
  (a:∀ (i j:Int) (t u:Tok) (s:Shared) (Q:Value->Shared->Prop) (E:Value->Shared->Prop),C i j->Q (.int (g i j) s.toks) { s with toks:=s.toks+1 }->wpAny (model X.prog X.w) X.A (f (.int i t) (.int j u)) Q E s) :
  OpR X f (rI C fun i j => .int (g i j)):=by
 intro pins s σ H x y v u Q I d b h
 obtain ⟨i,j,rfl,rfl,c,q⟩:=h
 obtain ⟨t,rfl⟩:=d
 obtain ⟨t',rfl⟩:=b
 exact a i j t t' s _ _ c ⟨.int (g i j),H,I.tok _,⟨_,rfl⟩,q⟩
theorem opI0 {f:Value->Value->Sem Value} {g:Int->Int->Int}
  (a:∀ (i j:Int) (t u:Tok) (s:Shared) (Q:Value->Shared->Prop) (E:Value->Shared->Prop),Q (.int (g i j) s.toks) { s with toks:=s.toks+1 }->wpAny (model X.prog X.w) X.A (f (.int i t) (.int j u)) Q E s) :
  OpR X f (rI0 fun i j => .int (g i j)):=by
 intro pins s σ H x y v u Q I c b h
 obtain ⟨i,j,rfl,rfl,q⟩:=h
 obtain ⟨t,rfl⟩:=c
 obtain ⟨t',rfl⟩:=b
 exact a i j t t' s _ _ ⟨.int (g i j),H,I.tok _,⟨_,rfl⟩,q⟩
theorem opB0 {f:Value->Value->Sem Value} {g:Int->Int->Bool}
  (a:∀ (i j:Int) (t u:Tok) (s:Shared) (Q:Value->Shared->Prop) (E:Value->Shared->Prop),Q (.bool (g i j)) s->wpAny (model X.prog X.w) X.A (f (.int i t) (.int j u)) Q E s) :
  OpR X f (rI0 fun i j => .bl (g i j)):=by
 intro pins s σ H x y v u Q I c b h
 obtain ⟨i,j,rfl,rfl,q⟩:=h
 obtain ⟨t,rfl⟩:=c
 obtain ⟨t',rfl⟩:=b
 exact a i j t t' s _ _ ⟨.bl (g i j),H,I,rfl,q⟩
def CDiv (i j:Int):Prop:=0 < j/\j < 1073741824
def CPow (i j:Int):Prop:=0<=j/\j<=1000000/\i.natAbs < 2 ^ 64
def CMul (i j:Int):Prop:=(-(2 ^ 64) < i/\i < 2 ^ 64)\/(-(2 ^ 64) < j/\j < 2 ^ 64)
theorem CMul.ok {i j:Int} (h:CMul i j):IntMulOk i j:=by
 rcases h with ⟨a,b⟩ | ⟨a,b⟩
 ·exact .of_left (intBits_le_64 a b)
 ·exact .of_right (intBits_le_64 a b)
theorem aaq:OpR X (binaryOp .Add) (rI0 fun i j => .int (i+j)):=opI0 fun _ _ _ _ _ _ _ q=>add_int q
theorem abi:OpR X (binaryOp .Sub) (rI0 fun i j => .int (i - j)):=opI0 fun _ _ _ _ _ _ _ q=>sub_int q
theorem abq:OpR X (binaryOp .Mult) (rI CMul fun i j => .int (i * j)):=opI fun _ _ _ _ _ _ _ a q=>mul_int q a.ok
theorem aa8:OpR X (binaryOp .FloorDiv) (rI CDiv fun i j => .int (i / j)):=opI fun i j _ _ _ _ _ a q=>by
 have b:(0:Int) < j:=a.1
 have c:j < 1073741824:=a.2
 exact floordiv_int (by omega) (by rw [Int.fdiv_eq_ediv_of_nonneg i (by omega)];exact q) (.inl (PyProof.noPylong_small (by omega)))
theorem aas:OpR X (binaryOp .Mod) (rI (fun _ j=>0 < j) fun i j => .int (i % j)):=opI fun i j _ _ _ _ _ a q=>by
 have b:(0:Int) < j:=a
 exact mod_int' (by omega) (by rw [Int.fmod_eq_emod_of_nonneg i (by omega)];exact q)
theorem awm:OpR X (binaryOp .Pow) (rI CPow fun i j => .int (i ^ j.toNat)):=opI fun _ _ _ _ _ _ _ a q=>pow_int_small a.1 a.2.1 a.2.2 q
theorem unI {f:Value->Sem Value} {g:Int->Int}
  (a:∀ (i:Int) (t:Tok) (s:Shared) (Q:Value->Shared->Prop) (E:Value->Shared->Prop),Q (.int (g i) s.toks) { s with toks:=s.toks+1 }->wpAny (model X.prog X.w) X.A (f (.int i t)) Q E s) :
  UnR X f (rU fun i => .int (g i)):=by
 intro pins s σ H x v Q I b h
 obtain ⟨i,rfl,q⟩:=h
 obtain ⟨t,rfl⟩:=b
 exact a i t s _ _ ⟨.int (g i),H,I.tok _,⟨_,rfl⟩,q⟩
theorem aff:UnR X (unaryOp .USub) (rU fun i => .int (-i)):=unI fun _ _ _ _ _ q=>neg_int q
end
def scal:V->V->Bool
 | .non,.non=>true | .non,.int _=>true | .int _,.non=>true | .non,.bl _=>true | .bl _,.non=>true | .non,.str _=>true | .str _,.non=>true
 | .int _,.int _=>true | .bl _,.bl _=>true | .str _,.str _=>true | .byt _,.byt _=>true
 | .int _,.str _=>true | .str _,.int _=>true | .bl _,.str _=>true | .str _,.bl _=>true
 | _,_=>false
def rEq:R2:=fun x y H Q=>scal x y=true/\Q (.bl (decide (x=y))) H
def rNe:R2:=fun x y H Q=>scal x y=true/\Q (.bl (!decide (x=y))) H
theorem af0 {i j:Int}:decide (V.int i=V.int j)=(i == j):=by
 rw [aG2]
 simp
theorem ao5 {i j:Bool}:decide (V.bl i=V.bl j)=(i == j):=by
 rw [aG2]
 simp
theorem amp {i j:Str}:decide (V.str i=V.str j)=(i == j):=by
 rw [aG2]
 simp
theorem amq {i j:Array UInt8}:decide (V.byt i=V.byt j)=(i.toList == j.toList):=by
 rw [aG2]
 cases i
 cases j
 simp
section
variable {X:Cx} {a b c:Expr} {ta tb tc:TE} {pos:Pos}
theorem aaz {pins:List (Addr × Obj)} {σ:St} {H:Hp} {s:Shared} {Q:VK} {k a:Bool} (I:Inv X pins σ H s) (q:Q (.bl k) H) (e:k=a):EP X pins σ Q (.bool a) s:=by
 subst e
 exact ⟨.bl k,H,I,rfl,q⟩
theorem ajy:OpR X (compareOp .Eq) rEq:=by
 intro pins s σ H x y v u Q I b a h
 obtain ⟨hs,q⟩:=h
 cases x with
 | non =>
  cases b
  cases y with
  | non=>cases a;exact PySem.EqNone.eq_none_none (aaz I q (by simp))
  | bl j=>cases a;exact PySem.EqNone.eq_none_bool (aaz I q (by simp))
  | int j=>obtain ⟨t',rfl⟩:=a;exact PySem.EqNone.eq_none_int (aaz I q (by simp))
  | str j=>obtain ⟨t',rfl⟩:=a;exact PySem.EqNone.eq_none_str (aaz I q (by simp))
  | _=>exact absurd (show false=true from hs) aA0
 | bl i =>
  cases b
  cases y with
  | non=>cases a;exact PySem.EqNone.eq_bool_none (aaz I q (by simp))
  | bl j=>cases a;exact eq_bool (aaz I q ao5)
  | str j=>obtain ⟨t',rfl⟩:=a;exact PySem.EqMixed.eq_bool_str (aaz I q (by simp))
  | _=>exact absurd (show false=true from hs) aA0
 | int i =>
  obtain ⟨t,rfl⟩:=b
  cases y with
  | non=>cases a;exact PySem.EqNone.eq_int_none (aaz I q (by simp))
  | int j=>obtain ⟨t',rfl⟩:=a;exact eq_int (aaz I q af0)
  | str j=>obtain ⟨t',rfl⟩:=a;exact PySem.EqMixed.eq_int_str (aaz I q (by simp))
  | _=>exact absurd (show false=true from hs) aA0
 | str i =>
  obtain ⟨t,rfl⟩:=b
  cases y with
  | non=>cases a;exact PySem.EqNone.eq_str_none (aaz I q (by simp))
  | bl j=>cases a;exact PySem.EqMixed.eq_str_bool (aaz I q (by simp))
  | int j=>obtain ⟨t',rfl⟩:=a;exact PySem.EqMixed.eq_str_int (aaz I q (by simp))
  | str j=>obtain ⟨t',rfl⟩:=a;exact eq_str (aaz I q amp)
  | _=>exact absurd (show false=true from hs) aA0
 | byt i =>
  obtain ⟨t,rfl⟩:=b
  cases y with
  | byt j=>obtain ⟨t',rfl⟩:=a;exact PySem.W.eq_bytes (aaz I q amq)
  | _=>exact absurd (show false=true from hs) aA0
 | _=>cases y <;> exact absurd (show false=true from hs) aA0
theorem atg:OpR X (compareOp .NotEq) rNe:=by
 intro pins s σ H x y v u Q I b a h
 obtain ⟨hs,q⟩:=h
 cases x with
 | non =>
  cases b
  cases y with
  | non=>cases a;exact PySem.EqNone.ne_none_none (aaz I q (by simp))
  | bl j=>cases a;exact PySem.EqNone.ne_none_bool (aaz I q (by simp))
  | int j=>obtain ⟨t',rfl⟩:=a;exact PySem.EqNone.ne_none_int (aaz I q (by simp))
  | str j=>obtain ⟨t',rfl⟩:=a;exact PySem.EqNone.ne_none_str (aaz I q (by simp))
  | _=>exact absurd (show false=true from hs) aA0
 | bl i =>
  cases b
  cases y with
  | non=>cases a;exact PySem.EqNone.ne_bool_none (aaz I q (by simp))
  | bl j=>cases a;exact ne_bool (aaz I q (congrArg not ao5))
  | str j=>obtain ⟨t',rfl⟩:=a;exact PySem.EqMixed.ne_bool_str (aaz I q (by simp))
  | _=>exact absurd (show false=true from hs) aA0
 | int i =>
  obtain ⟨t,rfl⟩:=b
  cases y with
  | non=>cases a;exact PySem.EqNone.ne_int_none (aaz I q (by simp))
  | int j=>obtain ⟨t',rfl⟩:=a;exact ne_int (aaz I q (congrArg not af0))
  | str j=>obtain ⟨t',rfl⟩:=a;exact PySem.EqMixed.ne_int_str (aaz I q (by simp))
  | _=>exact absurd (show false=true from hs) aA0
 | str i =>
  obtain ⟨t,rfl⟩:=b
  cases y with
  | non=>cases a;exact PySem.EqNone.ne_str_none (aaz I q (by simp))
  | bl j=>cases a;exact PySem.EqMixed.ne_str_bool (aaz I q (by simp))
  | int j=>obtain ⟨t',rfl⟩:=a;exact PySem.EqMixed.ne_str_int (aaz I q (by simp))
  | str j=>obtain ⟨t',rfl⟩:=a;exact ne_str (aaz I q (congrArg not amp))
  | _=>exact absurd (show false=true from hs) aA0
 | byt i =>
  obtain ⟨t,rfl⟩:=b
  cases y with
  | byt j=>obtain ⟨t',rfl⟩:=a;exact PySem.W.ne_bytes (aaz I q (congrArg not amq))
  | _=>exact absurd (show false=true from hs) aA0
 | _=>cases y <;> exact absurd (show false=true from hs) aA0
theorem ab7:OpR X (compareOp .Lt) (rI0 fun i j => .bl (decide (i < j))):=opB0 fun _ _ _ _ _ _ _ q=>lt_int q
theorem ath:OpR X (compareOp .LtE) (rI0 fun i j => .bl (decide (i<=j))):=opB0 fun _ _ _ _ _ _ _ q=>le_int q
theorem ajz:OpR X (compareOp .Gt) (rI0 fun i j => .bl (decide (j < i))):=opB0 fun _ _ _ _ _ _ _ q=>gt_int q
theorem aj0:OpR X (compareOp .GtE) (rI0 fun i j => .bl (decide (j<=i))):=opB0 fun _ _ _ _ _ _ _ q=>ge_int q
theorem awn:OpR X (compareOp .Is) (fun x y H Q=>y=.non/\Q (.bl (decide (x=.non))) H):=by
 intro pins s σ H x y v u Q I a b h
 obtain ⟨rfl,q⟩:=h
 cases b
 refine is_none_gen (aaz I q ?_)
 cases x <;> first
  | (cases a;rfl)
  | (obtain ⟨t,rfl⟩:=a;rfl)
theorem aty:OpR X (compareOp .IsNot) (fun x y H Q=>y=.non/\Q (.bl (!decide (x=.non))) H):=by
 intro pins s σ H x y v u Q I a b h
 obtain ⟨rfl,q⟩:=h
 cases b
 refine isnot_none_gen (aaz I q ?_)
 cases x <;> first
  | (cases a;rfl)
  | (obtain ⟨t,rfl⟩:=a;rfl)
theorem aaw (b:Expr) {op:CmpOp} (h:op ≠ .In:=by decide) (a:op ≠ .NotIn:=by decide):behindInMarks op b=false:=by
 have d:(op == CmpOp.In)=false:=by cases op <;> first | rfl | exact absurd rfl h
 have c:(op == CmpOp.NotIn)=false:=by cases op <;> first | rfl | exact absurd rfl a
 cases b <;> simp [behindInMarks,d,c]
theorem acu {op:CmpOp} {r:R2} (d:OpR X (compareOp op) r) (ha:PE X a ta) (hb:PE X b tb) (hm:behindInMarks op b=false):PE X (.Compare a [op] [b] pos) (tOp r ta tb):=by
 intro pins s σ H Q I h
 exact wpAny_Compare1 (binT ha hb I h fun v u s2 x y H2 f g c q=>d pins s2 σ H2 x y v u Q f g c q) hm
def ati (t:TE):TT:=fun σ H Q=>t σ H fun x H'=>∃ k,x=.bl k/\Q k H'
theorem aax {op:CmpOp} {r:R2} (n:OpR X (compareOp op) r) (ha:PE X a ta) (hb:PE X b tb) (hm:behindInMarks op b=false):PT X (.Compare a [op] [b] pos) (ati (tOp r ta tb)):=by
 intro pins s σ H Q I h
 refine wpAny_isTrue_Compare1 (thn (ha pins s σ H _ I h) fun v s1 ⟨x,j,l,o,d⟩=>thn (hb pins s1 σ j _ l d) fun u s2 ⟨y,H2,p,g,m⟩ =>
  thn (n pins s2 σ H2 x y v u _ p o g m) fun c w ⟨z,H3,q,f,k,e,i⟩=>?_) hm
 subst e
 cases f
 exact aI5 ⟨H3,q,i⟩
def akc (r r':R2) (ta tb tc:TE):TE:=fun σ H Q=>ta σ H fun x H1=>tb σ H1 fun y H2=>r x y H2 fun z H3=>∃ k,z=.bl k /\
 (if k=true then tc σ H3 fun w' H4=>r' y w' H4 Q else Q (.bl false) H3)
theorem aq4 {op f:CmpOp} {r l:R2} (G:OpR X (compareOp op) r) (g:OpR X (compareOp f) l) (ha:PE X a ta) (hb:PE X b tb) (N:PE X c tc)
  (hm:lastMarks [op,f] [b,c]=false:=by with_unfolding_all rfl):PE X (.Compare a [op,f] [b,c] pos) (akc r l ta tb tc):=by
 intro pins s σ H Q I h
 refine Compare_chain (thn (ha pins s σ H _ I h) fun v s1 ⟨x,B,C,J,o⟩=>chain_link (thn (hb pins s1 σ B _ C o) fun u s2 ⟨y,H2,L,i,D⟩ =>
  thn (G pins s2 σ H2 x y v u _ L J i D) fun d n ⟨z,H3,m,p,k,e,j⟩=>?_)) hm
 subst e
 cases p
 refine aI5 ?_
 cases k with
 | false=>exact ite_ff ⟨.bl false,H3,m,rfl,j⟩
 | true=>exact ite_tt (chain_last (thn (N pins n σ H3 _ m j) fun w q ⟨M,F,A,E,K⟩=>g pins q σ F y M u w Q A i E K))
def TruV (K:Frag) (x:V) (H:Hp) (k:Bool):Prop :=
 match x with
 | .non=>k=false
 | .bl b=>k=b
 | .int i=>k=(i != 0)
 | .str y=>y.length<=sizeLine/\k=((y.length:Int) != 0)
 | .byt y=>y.size<=sizeLine/\k=((y.size:Int) != 0)
 | .ref p=>(∃ xs,SqL K H p xs/\k = !xs.isEmpty)\/(∃ xs,SqT K H p xs/\k = !xs.isEmpty)\/∃ kvs,H p=some (.dK kvs)/\k = !kvs.isEmpty
 | _=>False
theorem anz {κ:Type} {kvs:List (κ × V)} {vs:List (κ × Value)} (r:KV kvs vs):(!vs.isEmpty) = !kvs.isEmpty:=by
 cases r <;> rfl
theorem ag6 {xs:List V} {its:List Value} (r:Vals xs its):(!its.toArray.isEmpty) = !xs.isEmpty:=by
 cases r <;> simp
theorem afg:(sizeLine:Nat) < 2 ^ 63:=by rw [sizeLine_eq];decide
theorem awo:TruR X (fun x H Q=>∃ k,TruV X.K x H k/\Q k H):=by
 intro pins s σ H x v Q I d h
 obtain ⟨k,e,q⟩:=h
 have n:=afg
 have hs:sizeLine=16777216:=sizeLine_eq
 cases x with
 | non =>
  cases d
  have a:k=false:=e
  subst a
  exact truthy_none ⟨H,I,q⟩
 | bl b =>
  cases d
  have a:k=b:=e
  subst a
  exact aI5 ⟨H,I,q⟩
 | int i =>
  obtain ⟨t,rfl⟩:=d
  have a:k=(i != 0):=e
  subst a
  exact PySem.P.truthy_int ⟨H,I,q⟩
 | str y =>
  obtain ⟨t,rfl⟩:=d
  obtain ⟨l,a⟩:y.length<=sizeLine/\k=((y.length:Int) != 0):=e
  subst a
  exact PySem.P.truthy_str (by omega) ⟨H,I.tok _,q⟩
 | byt y =>
  obtain ⟨t,rfl⟩:=d
  obtain ⟨l,a⟩:y.size<=sizeLine/\k=((y.size:Int) != 0):=e
  subst a
  exact PySem.W.truthy_bytes (by omega) ⟨H,I.tok _,q⟩
 | ref p =>
  cases d
  have a:(∃ xs,SqL X.K H p xs/\k = !xs.isEmpty)\/(∃ xs,SqT X.K H p xs/\k = !xs.isEmpty)\/∃ kvs,H p=some (.dK kvs)/\k = !kvs.isEmpty:=e
  rcases a with ⟨xs,f,a⟩ | ⟨xs,f,a⟩ | ⟨kvs,f,a⟩
  ·subst a
   obtain ⟨its,r,g,hz⟩:=I.list f
   have c:=r.length
   exact wpAny_truthy_list g.isList (by simp only [aA2];omega) ⟨H,I.tok _,by rw [ag6 r];exact q⟩
  ·subst a
   obtain ⟨its,r,g,hz⟩:=I.tuple f
   have c:=r.length
   exact truthy_tuple g (by simp only [aA2];omega) ⟨H,I.tok _,by rw [ag6 r];exact q⟩
  ·subst a
   obtain ⟨hz,j,vs,r,m⟩:kvs.length<=sizeLine/\(p == sysModules)=false/\∃ vs,KV kvs vs/\s.heap.DictOf (abc X.prog X.w) p vs:=I.hok p _ f
   have c:kvs.length=vs.length:=Paired.length r
   exact wpAny_truthy_dict j m (by omega) ⟨H,I.tok _,by rw [anz r];exact q⟩
 | _=>exact (show False from e).elim
theorem aq5 (ha:PE X a ta) (c:∀ whole,isTrue a X.env whole=(do let v ← whole;standAt a.pos;holding [v] (truthy v))) :
  PT X a (fun σ H Q=>ta σ H fun x H'=>∃ k,TruV X.K x H' k/\Q k H'):=by
 intro pins s σ H Q I h
 exact isTrue_plain (thn (ha pins s σ H _ I h) fun v s1 ⟨x,d,f,g,b⟩=>awo pins s1 σ d x v Q f g b) (c _)
theorem acj {x:V} {us:List Value} (r:Vals [x] us):∃ u,us=[u]/\RelV x u:=by
 cases r with
 | cons r1 r2=>cases r2;exact ⟨_,rfl,r1⟩
theorem an0 {x y:V} {us:List Value} (r:Vals [x,y] us):∃ u a,us=[u,a]/\RelV x u/\RelV y a:=by
 cases r with
 | cons r1 r2 =>
  cases r2 with
  | cons r3 r4=>cases r4;exact ⟨_,_,rfl,r1,r3⟩
theorem ao6 (a:X.calm=true):abh X (.builtin "max") (fun xs H Q=>∃ i j,xs=[.int i,.int j]/\Q (.int (if j > i then j else i)) H):=by
 intro pins s σ H xs us Q I r h
 obtain ⟨i,j,rfl,q⟩:=h
 obtain ⟨u,c,rfl,⟨t,rfl⟩,⟨t',rfl⟩⟩:=an0 r
 refine max_two_ints (I.ok.hd a) fun h' b k=>⟨_,H,I.kept k,?_,q⟩
 by_cases hj:j > i
 ·rw [aD9 hj,aD9 hj];exact ⟨_,rfl⟩
 ·rw [aE0 hj,aE0 hj];exact ⟨_,rfl⟩
theorem ao7 (a:X.calm=true):abh X (.builtin "min") (fun xs H Q=>∃ i j,xs=[.int i,.int j]/\Q (.int (if j < i then j else i)) H):=by
 intro pins s σ H xs us Q I r h
 obtain ⟨i,j,rfl,q⟩:=h
 obtain ⟨u,c,rfl,⟨t,rfl⟩,⟨t',rfl⟩⟩:=an0 r
 refine min_two_ints (I.ok.hd a) fun h' b k=>⟨_,H,I.kept k,?_,q⟩
 by_cases hj:j < i
 ·rw [aD9 hj,aD9 hj];exact ⟨_,rfl⟩
 ·rw [aE0 hj,aE0 hj];exact ⟨_,rfl⟩
theorem ao8:abh X (.type "int") (fun xs H Q=>(∃ i,xs=[.int i]/\Q (.int i) H)\/∃ k,xs=[.bl k]/\Q (.int (if k then 1 else 0)) H):=by
 intro pins s σ H xs us Q I r h
 rcases h with ⟨i,rfl,q⟩ | ⟨k,rfl,q⟩
 ·obtain ⟨u,rfl,t,rfl⟩:=acj r
  exact call_int_int ⟨.int i,H,I,⟨_,rfl⟩,q⟩
 ·obtain ⟨u,rfl,a⟩:=acj r
  cases a
  exact call_int_bool ⟨.int (if k then 1 else 0),H,I.tok _,⟨_,rfl⟩,q⟩
end
structure ObjM (h:Heap) (x dx C:Addr) (mA:Str->Option Value):Prop where
 obj:h.get? x=some (PySem.W.instObj C dx)
 ns:h.Ns1 dx mA
 ne:dx ≠ x
theorem ao9 {h:Heap} {dx:Addr} {mA:Str->Option Value} (n:h.Ns1 dx mA):∃ od,h.get? dx=some od/\∀ name,PySem.W.lookIn name od=some (mA name):=by
 obtain ⟨o,es,ep,g,hd,c,_,hm⟩:=n
 refine ⟨o,g,fun name=>?_⟩
 have e:=hm name
 unfold nsFind findBy at e
 rw [← Array.find?_toList] at e
 unfold PySem.W.lookIn
 rw [hd]
 dsimp only
 split
 ·rename_i y q
  rw [q] at e
  exact congrArg some e
 ·rename_i q
  rw [q] at e
  have a:es.toList.any (·.refKey)=false:=by
   rw [List.any_eq_false]
   intro y d
   obtain ⟨z,t,b⟩:=c y (Array.mem_toList_iff.mp d)
   simp [DictEntry.refKey,b]
  have f:¬ es.toList.any (·.refKey)=true:=by rw [a];exact aA0
  rw [aE0 f]
  exact congrArg some e
theorem ObjM.look {h:Heap} {x dx C:Addr} {mA:Str->Option Value} (I:ObjM h x dx C mA):∃ od,PySem.W.InstAt h x (PySem.W.instObj C dx) C (some od)/\∀ name,PySem.W.lookIn name od=some (mA name) :=
 let ⟨od,a,b⟩:=ao9 I.ns
 ⟨od,⟨I.obj,rfl,rfl,a⟩,b⟩
section
variable {prog:Program} {w:World} {A:Around} {E:Value->Shared->Prop} {s:Shared} {K:Frag} {x dx C f:Addr} {mA:Str->Option Value} {name:Str} {v:Value}
end
def putF (f:Str) (v:V):List (Str × V)->List (Str × V)
 | []=>[(f,v)]
 | (g,x) :: r=>if g=f then (g,v) :: r else (g,x) :: putF f v r
theorem RelO.some_of {v:V} {o:Option Value} (r:RelO (some v) o):∃ u,o=some u/\RelV v u:=by
 cases o with
 | none=>exact (show False from r).elim
 | some u=>exact ⟨u,rfl,r⟩
section
variable {P:Program} {w:World} {H H':Hp} {h h':Heap} {a C dx:Addr} {fs fs':List (Str × V)}
theorem atz (hok:HOk P w H h) (e:H a=some (.ins C dx fs)):∃ mA,ObjM h a dx C mA/\(∀ f,RelO (fs.lookup f) (mA f))/\PySem.Within mA (fs.map (·.1))/\fs.length<=1000/\H dx=some (.own a):=by
 obtain ⟨d,z,ne,b,mA,n,r,q⟩:=(show ObjOk P w H h a (.ins C dx fs) from hok a _ e)
 exact ⟨mA,⟨b,n,ne⟩,r,q,z,d⟩
end
structure Cls (K:Frag) (C:Addr):Prop where
 pg:PySem.W.plainGet K C Str.empty=true
 hd:PySem.W.hasDictIn K C=true
 po:PySem.W.plainOver K C=true
 sa:PySem.W.findIn K (.ref C) "__setattr__" = some (some (.builtin "object.__setattr__"))
theorem Cls.get {K:Frag} {C:Addr} (c:Cls K C) (f:Str):PySem.W.plainGet K C f=true:=c.pg
section
variable {X:Cx} {pins:List (Addr × Obj)} {σ:St} {H:Hp} {s:Shared} {a C dx:Addr} {fs:List (Str × V)} {f:Str} {v:V} {A:Around} {E:Value->Shared->Prop}
end
section
variable {X:Cx} {o e value:Expr} {f:Str} {pos pos' tpos:Pos} {ta tv:TE}
end
section
variable {X:Cx} {pins:List (Addr × Obj)} {σ:St} {H:Hp} {s:Shared} {A:Around} {E:Value->Shared->Prop} {Q:Value->Shared->Prop} {c:Value} {b:Bool}
inductive TyOf (K:Frag) (H:Hp):V->Value->Prop where
 | non:TyOf K H .non (.type "NoneType")
 | bl (x:Bool):TyOf K H (.bl x) (.type "bool")
 | int (i:Int):TyOf K H (.int i) (.type "int")
 | str (x:Str):TyOf K H (.str x) (.type "str")
 | flt (x:UInt64):TyOf K H (.flt x) (.type "float")
 | lst {a:Addr} {xs:List V} (e:H a=some (.lst xs)):TyOf K H (.ref a) (.type "list")
 | frz {a:Addr} {o:Obj} {xs:List V} (e:H a=some (.frz o (.lst xs))):TyOf K H (.ref a) (.type "list")
 | tup {a:Addr} {xs:List V} (e:H a=some (.tup xs)):TyOf K H (.ref a) (.type "tuple")
 | dK {a:Addr} {kvs:List (Key × V)} (e:H a=some (.dK kvs)):TyOf K H (.ref a) (.type "dict")
 | dT {a:Addr} {kvs:List (List Key × V)} (e:H a=some (.dT kvs)):TyOf K H (.ref a) (.type "dict")
 | ins {a C dx:Addr} {fs:List (Str × V)} (e:H a=some (.ins C dx fs)) (cl:Cls K C) (ha:PySem.W.findIn K (.ref C) "__class__" = some (some (.builtin "object.__class__")))
   (hn:PySem.W.specialIn K (.builtin "object.__class__") "__get__" = some (some (.builtin "getset_descriptor.__get__"))) (htk:PySem.W.takesIn K (.builtin "object.__class__")=some true)
   (hm:mroIn K C (.type "object")=some true):TyOf K H (.ref a) (.ref C)
theorem apa {x:V} {u t:Value} (I:Inv X pins σ H s) (d:RelV x u) (ty:TyOf X.K H x t) (e:kitOne X.K t c=some b) (h:∀ j,Q (.bool b) { s with toks:=j }) :
  wpAny (model X.prog X.w) A (call (.builtin "isinstance") [u,c]) Q E s:=by
 cases ty with
 | non=>cases (show u=Value.none from d);exact PySem.W.kia_one PySem.W.kitx_none I.kIn True.intro e (fun z=>nomatch z) h
 | bl y=>cases (show u=Value.bool y from d);exact PySem.W.kia_one PySem.W.kitx_bool I.kIn True.intro e (fun z=>nomatch z) h
 | int i=>obtain ⟨t,q⟩:=(show ∃ t,u=Value.int i t from d);cases q;exact PySem.W.kia_one PySem.W.kitx_int I.kIn True.intro e (fun z=>nomatch z) h
 | str y=>obtain ⟨t,q⟩:=(show ∃ t,u=Value.str y t from d);cases q;exact PySem.W.kia_one PySem.W.kitx_str I.kIn True.intro e (fun z=>nomatch z) h
 | flt y=>obtain ⟨t,q⟩:=(show ∃ t,u=Value.float y t from d);cases q;exact PySem.W.kia_one PySem.W.kitx_float I.kIn True.intro e (fun z=>nomatch z) h
 | @lst a xs ea =>
  cases (show u=Value.ref a from d)
  obtain ⟨_,_,n,_,f⟩:=(show ObjOk X.prog X.w H s.heap a (.lst xs) from I.hok a _ ea)
  exact PySem.W.kia_one PySem.W.kitx_list I.kIn ⟨_,f,rfl⟩ e (fun z=>nomatch z) h
 | @frz a ob xs ea =>
  cases (show u=Value.ref a from d)
  obtain ⟨_,_,_,n,_,f⟩:=(show ObjOk X.prog X.w H s.heap a (.frz ob (.lst xs)) from I.hok a _ ea)
  exact PySem.W.kia_one PySem.W.kitx_list I.kIn ⟨_,f,rfl⟩ e (fun z=>nomatch z) h
 | @tup a xs ea =>
  cases (show u=Value.ref a from d)
  obtain ⟨_,_,_,p⟩:=(show ObjOk X.prog X.w H s.heap a (.tup xs) from I.hok a _ ea)
  obtain ⟨o,f,g,_⟩:=p
  exact PySem.W.kia_one PySem.W.kitx_tuple I.kIn ⟨o,f,g⟩ e (fun z=>nomatch z) h
 | @dK a kvs ea =>
  cases (show u=Value.ref a from d)
  obtain ⟨_,_,vs,_,p⟩:=(show ObjOk X.prog X.w H s.heap a (.dK kvs) from I.hok a _ ea)
  obtain ⟨o,es,ep,f,g,_⟩:=p
  exact PySem.W.kia_one PySem.W.kitx_dict I.kIn ⟨o,f,g.1⟩ e (fun z=>nomatch z) h
 | @dT a kvs ea =>
  cases (show u=Value.ref a from d)
  obtain ⟨_,_,xs,_,o,es,ep,f,g,_⟩:=(show ObjOk X.prog X.w H s.heap a (.dT kvs) from I.hok a _ ea)
  exact PySem.W.kia_one PySem.W.kitx_dict I.kIn ⟨o,f,g.1⟩ e (fun z=>nomatch z) h
 | @ins a C dx fs ea cl ha hn htk hm =>
  cases (show u=Value.ref a from d)
  obtain ⟨mA,O,_⟩:=atz I.hok ea
  obtain ⟨od,J,_⟩:=O.look
  exact PySem.W.kia_one (PySem.W.kitx_own (cl.get _) cl.hd ha hn htk hm) I.kIn J e (fun z=>nomatch z) h
end
structure Room (k:Nat) (A:Around):Prop where
 hd:A.handled=none
 dp:A.depth+3 * k+5 < recursionLimit
 un:A.units+16 * k+200 < cLine
theorem Room.mono {j k:Nat} {A:Around} (r:Room k A) (h:j<=k):Room j A:=⟨r.hd,by have:=r.dp;omega,by have:=r.un;omega⟩
theorem Room.deeper {k:Nat} {A:Around} (r:Room (k+1) A) (env:Env):Room k (A.deeper env) :=
 ⟨r.hd,by have:=r.dp;show A.depth+1+3 * k+5 < _;omega,by have:=r.un;show A.units+3+16 * k+200 < _;omega⟩
theorem Room.in1 {k:Nat} {A:Around} (r:Room (k+1) A):Room k A.in1 :=
 ⟨r.hd,by have:=r.dp;show A.depth+3 * k+5 < _;omega,by have:=r.un;show A.units+1+16 * k+200 < _;omega⟩
theorem Room.depth {k:Nat} {A:Around} (r:Room k A):A.depth < recursionLimit:=by have:=r.dp;omega
theorem Room.units {k:Nat} {A:Around} (r:Room k A):A.units+64 < cLine:=by have:=r.un;omega
def tNil:TA:=fun _ H Q=>Q [] H
def acn (ta:TE) (tr:TA):TA:=fun σ H Q=>ta σ H fun x H1=>tr σ H1 fun xs H2=>Q (x :: xs) H2
section
variable {X:Cx} {e:Expr} {es:List Expr} {te:TE} {t:TA} {pos:Pos}
theorem aac:PA X [] tNil:=fun _ _ _ _ H Q I h=>Calls.spliced_nil ⟨[],H,I,.nil,h⟩
theorem aaa (ha:PE X e te) (g:PA X es t) (hs:starEach (e :: es) X.env=(false,eval e X.env) :: starEach es X.env:=by rfl):PA X (e :: es) (acn te t):=by
 intro pos pins s σ H Q I h
 rw [hs]
 show wpAny _ _ (spliced ((false,eval e X.env) :: backTo pos (starEach es X.env))) _ _ s
 refine Calls.spliced_cons (thn (ha pins s σ H _ I h) fun u s1 ⟨x,c,d,i,a⟩=>?_)
 exact thn (g pos pins s1 σ c _ d a) fun us s2 ⟨xs,H2,j,b,f⟩=>⟨x :: xs,H2,j,.cons i b,f⟩
def tTup (t:TA):TE:=fun σ H Q=>t σ H fun xs H1=>xs.length<=sizeLine/\∀ p,H1 p=none->Q (.ref p) (upd H1 p (.tup xs))
def tLst (t:TA):TE:=fun σ H Q=>t σ H fun xs H1=>xs.length<=sizeLine/\∀ p,H1 p=none->Q (.ref p) (upd H1 p (.lst xs))
theorem ace {x1} (h:PA X es t):PE X (.Tuple es x1 pos) (tTup t):=by
 intro pins s σ H Q I d
 refine wpAny_Tuple_spliced (thn (h pos pins s σ H _ I d) fun us s1 ⟨xs,a,c,r,z,q⟩=>⟨by rw [← r.length];exact z,?_⟩)
 have hf:a s1.heap.objs.size=none:=c.hok.fresh (az6 _)
 refine ⟨.ref s1.heap.objs.size,upd a s1.heap.objs.size (.tup xs),c.laid (t':=s1.toks) (fun b u e=>aH3 _ e) (az6 _) ?_,rfl,q _ hf⟩
 exact ⟨z,us,r,⟨_,aH5 _ rfl,rfl,_,rfl⟩⟩
theorem aa3 (h:PA X es t):PE X (.List es pos) (tLst t):=by
 intro pins s σ H Q I d
 refine wpAny_List_spliced (thn (h pos pins s σ H _ I d) fun us s1 ⟨xs,a,c,r,z,q⟩=>⟨by rw [← r.length];exact z,?_⟩)
 have hf:a s1.heap.objs.size=none:=c.hok.fresh (az6 _)
 refine ⟨.ref s1.heap.objs.size,upd a s1.heap.objs.size (.lst xs),c.laid (t':=s1.toks) (fun b u e=>aH3 _ e) (az6 _) ?_,rfl,q _ hf⟩
 exact ⟨z,us,0,r,aH5 _ rfl⟩
end
abbrev Sp:=List V->Hp->VK->XK->Prop
abbrev CXT:=List Env->Hp->Shared->XK->Value->Shared->Prop
structure Env0 (P:Program) (w:World) (K:Frag) (mg:Str->Option Value) (base:Heap) (A:Around) (outer:List Env) (s:Shared) (H:Hp):Prop where
 frames:A.frames=some outer
 mod:Mod K mg base
 bs:∀ b o,base.get? b=some o->s.heap.get? b=some o/\H b=none
 bsz:base.objs.size<=s.heap.objs.size
 funs:s.heap.FunFrames base outer
 frf:∀ b∈frs outer,H b=none
 hok:HOk P w H s.heap
 bare:AllBare s.gens
def CE (outer:List Env) (P:Program) (w:World) (H:Hp) (s:Shared) (Q:VK) (u:Value) (s':Shared):Prop :=
 ∃ v H',s'.os=s.os/\AllBare s'.gens/\Un (frs outer) [] H H' s.heap s'.heap/\HOk P w H' s'.heap/\RelV v u/\Q v H'
def CR (CX:CXT) (outer:List Env) (P:Program) (w:World) (H:Hp) (s:Shared) (Q:VK) (E:XK) (r:Result) (s':Shared):Prop :=
 match r with
 | .ok (.ret u)=>CE outer P w H s Q u s'
 | .ok _=>False
 | .error e=>CX outer H s E e s'
structure FnOk (P:Program) (w:World) (K:Frag) (mg:Str->Option Value) (base:Heap) (CX:CXT) (k:Nat) (f:Addr) (fd:FuncData) (ps:List Str) (sp:Sp):Prop where
 len:∀ vs H Q E,sp vs H Q E->vs.length=ps.length
 run:∀ (A:Around) (outer:List Env) (s:Shared) (H:Hp) (args:Args) (us:List Value) (vs:List V) (Q:VK) (E:XK),Room k A->Env0 P w K mg base A outer s H->BindsTo s fd args (ps.zip us)->Vals vs us->sp vs H Q E ->
  codeAny (model P w) A (.call (.ref f) args) (CR CX outer P w H s Q E) s
theorem FnOk.mono {P:Program} {w:World} {K:Frag} {mg:Str->Option Value} {base:Heap} {CX:CXT} {j k:Nat} {f:Addr} {fd:FuncData} {ps:List Str} {sp:Sp} (F:FnOk P w K mg base CX j f fd ps sp) (h:j<=k) :
  FnOk P w K mg base CX k f fd ps sp:=⟨F.len,fun A outer s H args us vs Q E a=>F.run A outer s H args us vs Q E (a.mono h)⟩
theorem FnOk.imp {P:Program} {w:World} {K:Frag} {mg:Str->Option Value} {base:Heap} {CX:CXT} {k:Nat} {f:Addr} {fd:FuncData} {ps:List Str} {sp a:Sp} (F:FnOk P w K mg base CX k f fd ps sp)
  (h:∀ vs H Q E,a vs H Q E->sp vs H Q E):FnOk P w K mg base CX k f fd ps a :=
 ⟨fun vs H Q E q=>F.len vs H Q E (h _ _ _ _ q),fun A outer s H args us vs Q E d c hb b hs=>F.run A outer s H args us vs Q E d c hb b (h _ _ _ _ hs)⟩
theorem Env0.in1 {P:Program} {w:World} {K:Frag} {mg:Str->Option Value} {base:Heap} {A:Around} {outer:List Env} {s:Shared} {H:Hp} (e:Env0 P w K mg base A outer s H) :
  Env0 P w K mg base A.in1 outer s H:=⟨e.frames,e.mod,e.bs,e.bsz,e.funs,e.frf,e.hok,e.bare⟩
section
variable {X:Cx} {pins:List (Addr × Obj)} {σ:St} {H:Hp} {s s':Shared}
theorem Inv.env0 (I:Inv X pins σ H s):Env0 X.prog X.w X.K X.mg X.base X.A X.stack s H :=
 ⟨I.ok.frames,I.ok.mod,I.bs,aC0 I.ok.bsz I.sz,I.stack,I.stkFree,I.hok,I.bare⟩
theorem Inv.after {Q:VK} {u:Value} (I:Inv X pins σ H s) (h:CE X.stack X.prog X.w H s Q u s'):EP X pins σ Q u s':=by
 obtain ⟨v,H',os,bare,un,hok,r,q⟩:=h
 obtain ⟨hh,g,d,t,os'⟩:=s'
 obtain rfl:os'=s.os:=os
 exact ⟨v,H',I.call (h':=hh) (g':=g) (d':=d) (t':=t) (ch:=[]) un hok bare (fun b z=>absurd z (by simp)),r,q⟩
end
def aey (sp:Sp) (dvs:List V) (E:XK) (t:TA):TE:=fun σ H Q=>t σ H fun vs H1=>sp (vs ++ dvs) H1 Q E
def Binds (K:Frag) (fd:FuncData) (ps:List Str) (ds:List Value):Prop :=
 ∀ (s:Shared) (us:List Value),K.In s.heap->(us ++ ds).length=ps.length->BindsTo s fd ⟨us,[]⟩ (ps.zip (us ++ ds))
theorem Binds.all {K:Frag} {fd:FuncData} {ps:List Str} (h:∀ us:List Value,us.length=ps.length->bindArgs fd ⟨us,[]⟩=pure (ps.zip us)):Binds K fd ps []:=fun s us _ a=>by
 rw [aD4] at a ⊢
 exact .of_eq (h us a)
def akd (CX:CXT) (X:Cx) (E:XK):Prop:=∀ (pins:List (Addr × Obj)) (σ:St) (H:Hp) (s:Shared) (e:Value) (s':Shared),Inv X pins σ H s->CX X.stack H s E e s'->X.xe e s'
section
variable {X:Cx} {CX:CXT} {k:Nat} {f C:Addr} {fd:FuncData} {ps:List Str} {sp:Sp} {dvs:List V} {ds:List Value} {E:XK} {x m:Str} {p pos apos:Pos} {e o:Expr} {es:List Expr} {ta:TE} {t:TA}
theorem awp {pins:List (Addr × Obj)} {σ:St} {H:Hp} {s:Shared} {Q:VK} {us:List Value} {vs:List V} (F:FnOk X.prog X.w X.K X.mg X.base CX k f fd ps sp) (c:Room k X.A) (hb:Binds X.K fd ps ds) (hd:Vals dvs ds) (d:akd CX X E)
  (I:Inv X pins σ H s) (r:Vals vs us) (h:sp (vs ++ dvs) H Q E):wpAny (model X.prog X.w) X.A (call (.ref f) us) (EP X pins σ Q) X.xe s:=by
 have b:Vals (vs ++ dvs) (us ++ ds):=r.append hd
 have i:(us ++ ds).length=ps.length:=by rw [← b.length];exact F.len _ _ _ _ h
 refine wpAny_call (aH6 (F.run X.A X.stack s H ⟨us,[]⟩ (us ++ ds) (vs ++ dvs) Q E c I.env0 (hb s us I.kIn i) b h) fun r g a=>?_)
 cases r with
 | error e=>exact d pins σ H s e g I a
 | ok fl =>
  cases fl with
  | ret u=>exact I.after a
  | next=>exact False.elim a
  | brk=>exact False.elim a
  | cont=>exact False.elim a
theorem at3 (F:FnOk X.prog X.w X.K X.mg X.base CX k f fd ps sp) (j:Room k X.A) (i:Gl X x) (hm:X.mg x=some (.ref f)) (g:keepIn X.K (.ref f)=true) (hb:Binds X.K fd ps ds) (hd:Vals dvs ds) (l:akd CX X E)
  (ha:PA X (e :: es) t) (b:(x == ("__debug__" : Str))=false:=by decide) (d:starEach (e :: es) X.env=(false,eval e X.env) :: starEach es X.env:=by rfl) (a:(backTo pos (starEach es X.env)).any (·.1)=false:=by rfl) :
  PE X (.Call (.Name x p) (e :: es) [] pos) (aey sp dvs E t):=by
 intro pins s σ H Q I h
 refine wpAny_Call_Name_kw (atx I i hm ?_ b)
 refine PySem.W.callWith_K (h₀:=X.base) I.ok.mod.kin g (thn (ha pos pins s σ H _ I h) fun us s1 ⟨vs,m,c,r,q⟩=>⟨c.kIn,?_⟩) d a
 exact awp F j hb hd l c r q
end
section
variable {X:Cx} {CX:CXT} {k:Nat} {f C:Addr} {fd:FuncData} {ps ks:List Str} {sp:Sp} {E:XK} {x m:Str} {p pos apos kpos:Pos} {e o:Expr} {es:List Expr} {kws:List Keyword} {te ta:TE} {t tk:TA} {nm:Option Str}
variable {g:List Value->List Value->List Value} {gV:List V->List V->List V}
end
structure FnScope (N P:List Str) (sc:Scope):Prop where
 kind:sc.kind=.function
 co:sc.isCoroutine=false
 gen:sc.isGenerator=false
 nd:N.Nodup
 pre:N.take P.length=P
 par:∀ x∈P,sc.names.lookup x=some .local\/sc.names.lookup x=some .cell
 nofree:∀ y∈sc.names,y.2 ≠ .free
theorem aim {kindOf:Str->Option NameKind} {x:Str}:∀ {binds:List (Str × Value)} {m:Str->Option Value},(∀ v,(x,v) ∉ binds)->bindL kindOf binds m x=m x
 | [],_,_=>rfl
 | (n,v) :: r,m,h=>by
  unfold bindL
  rw [aim fun w a=>h w (aA5 _ a)]
  split
  ·have:x ≠ n:=by rintro rfl;exact h v aA8
   simp [this]
  ·rfl
theorem ain {kindOf:Str->Option NameKind} {x:Str}:∀ {binds:List (Str × Value)} {m:Str->Option Value},(∀ v,(x,v) ∉ binds)->bindC kindOf binds m x=m x
 | [],_,_=>rfl
 | (n,v) :: r,m,h=>by
  unfold bindC
  rw [ain fun w a=>h w (aA5 _ a)]
  split
  ·rfl
  ·have:x ≠ n:=by rintro rfl;exact h v aA8
   simp [this]
theorem aio {kindOf:Str->Option NameKind} {x:Str} {v:Value}:∀ {P:List Str} {vs:List Value} {i:Nat} {m:Str->Option Value},P.Nodup->P[i]?=some x->vs[i]?=some v->kindOf x=some .local ->
  bindL kindOf (P.zip vs) m x=some v
 | [],_,_,_,_,h,_,_=>by simp at h
 | _ :: _,[],_,_,_,_,h,_=>by simp at h
 | p :: P,w :: vs,0,m,nd,h1,h2,hk=>by
  simp at h1 h2;subst h1;subst h2
  show bindL kindOf ((p,w) :: P.zip vs) m p=_
  unfold bindL
  rw [aim fun v a=>(aG8.mp nd).1 (List.of_mem_zip a).1,aD9 hk]
  simp
 | p :: P,w :: vs,i+1,m,nd,h1,h2,hk=>by
  show bindL kindOf ((p,w) :: P.zip vs) m x=_
  unfold bindL
  exact aio (i:=i) (aG8.mp nd).2 (by simpa using h1) (by simpa using h2) hk
theorem aip {kindOf:Str->Option NameKind} {x:Str} {v:Value}:∀ {P:List Str} {vs:List Value} {i:Nat} {m:Str->Option Value},P.Nodup->P[i]?=some x->vs[i]?=some v->kindOf x ≠ some .local ->
  bindC kindOf (P.zip vs) m x=some v
 | [],_,_,_,_,h,_,_=>by simp at h
 | _ :: _,[],_,_,_,_,h,_=>by simp at h
 | p :: P,w :: vs,0,m,nd,h1,h2,hk=>by
  simp at h1 h2;subst h1;subst h2
  show bindC kindOf ((p,w) :: P.zip vs) m p=_
  unfold bindC
  rw [ain fun v a=>(aG8.mp nd).1 (List.of_mem_zip a).1,aE0 hk]
  simp
 | p :: P,w :: vs,i+1,m,nd,h1,h2,hk=>by
  show bindC kindOf ((p,w) :: P.zip vs) m x=_
  unfold bindC
  exact aip (i:=i) (aG8.mp nd).2 (by simpa using h1) (by simpa using h2) hk
def start (N:List Str) (vs:List V):St:=vs.map some ++ List.replicate (N.length - vs.length) none
def cxOf (CX:CXT) (P:Program) (w:World) (K:Frag) (mg:Str->Option Value) (base:Heap) (N:List Str) (qual:Str) (scope:Scope) (f:Addr) (cd:Value) (A:Around) (outer:List Env) (s:Shared) (H:Hp) (E:XK):Cx where
 prog:=P
 w:=w
 K:=K
 mg:=mg
 base:=base
 A:=A.deeper (envOfC qual scope s.heap.objs.size f cd)
 N:=N
 s₀:=s
 H₀:=H
 env:=envOfC qual scope s.heap.objs.size f cd
 outer:=outer
 stack:=envOfC qual scope s.heap.objs.size f cd :: outer
 ex:=[]
 calm:=true
 fn:=fun _=>true
 pn:=[]
 xe:=fun e s'=>wpAny (model P w) (A.deeper (envOfC qual scope s.heap.objs.size f cd)) (leaving (envOfC qual scope s.heap.objs.size f cd) e) (fun _ s''=>CX outer H s E e s'') (fun e' s''=>CX outer H s E e' s'') s'
theorem ake {sc:Scope} {n:Nat} {x:Str} (h:sc.names.lookup x=some .cell):∃ c,(cellsFrom n sc.names []).lookup x=some c:=by
 have q:=PySem.W.cellsFrom_some sc.names n [] (.inl h)
 exact Option.isSome_iff_exists.mp q
theorem apb {CX:CXT} {P:Program} {w:World} {K:Frag} {mg:Str->Option Value} {base:Heap} {N ps:List Str} {qual:Str} {scope:Scope} {f:Addr} {B:Value} {A:Around} {outer:List Env} {s s1:Shared} {H:Hp} {E:XK} {us:List Value} {vs:List V}
  (S:FnScope N ps scope) (hd:A.handled=none) (g:Env0 P w K mg base A outer s H) (M:vs.length=ps.length) (r:Vals vs us)
  (x:InCallC s s.heap.objs.size (bindL (envOfC qual scope s.heap.objs.size f B).kindOf (ps.zip us) fun _=>none) (cellsFrom (s.heap.objs.size+1) scope.names []) (bindC (envOfC qual scope s.heap.objs.size f B).kindOf (ps.zip us) fun _=>none) s1) :
  Inv (cxOf CX P w K mg base N qual scope f B A outer s H E) [] (start N vs) H s1:=by
 have G:ps.length<=N.length:=by have:=congrArg List.length S.pre;rw [aF4] at this;omega
 obtain ⟨C,J,rfl,D⟩:=x.done
 have l:∀ b:Addr,b ∉ (cxOf CX P w K mg base N qual scope f B A outer s H E).ex:=fun b z=>absurd (show b∈([]:List Addr) from z) (by simp)
 refine ⟨⟨g.mod,S.kind,rfl,rfl,az6 _,fun y z c C d=>?_,fun y j=>?_,fun y c _ h=>?_,fun _=>hd,Around.frames_deeper g.frames,.inr ⟨rfl,rfl⟩,fun b z=>absurd z (l b),g.bs,g.bsz,fun b _ _=>l b,fun b z=>absurd z (l b),g.funs,g.frf⟩,
  rfl,g.bare,Un.kept D,⟨_,x.toInCall.ns,fun i y v C d L=>?_⟩,fun y c h=>⟨_,x.cell y c h⟩,g.hok.fresh (az6 _),fun y c h=>?_,fun p o=>absurd (show p∈([]:List (Addr × Obj)) from o) (by simp),g.hok.kept D,?_⟩
 ·exact name_of_addr x.apart (PySem.mem_of_lookup C) (PySem.mem_of_lookup d)
 ·have j:scope.names.lookup y=some .cell\/scope.names.lookup y=some .free:=j
  rcases j with j | j
  ·exact ake j
  ·exact absurd rfl (S.nofree _ (PySem.mem_of_lookup j))
 ·exact aE9 (x.above y c (PySem.mem_of_lookup h))
 ·have hi:i < vs.length:=by
   unfold start at d
   by_cases hi:i < vs.length
   ·exact hi
   ·rw [aB8 (by simpa using hi)] at d
    rw [aG1] at d
    split at d <;> cases d
  have ha:vs[i]?=some v:=by
   unfold start at d
   rw [aB3 (by simpa using hi),az5] at d
   cases e:vs[i]? with
   | none=>rw [e] at d;cases d
   | some a=>rw [e] at d;cases d;rfl
  obtain ⟨u,F,I⟩:=r.get ha
  have o:ps[i]?=some y:=by
   rw [← S.pre,aF9 (by omega)];exact C
  have m:ps.Nodup:=by rw [← S.pre];exact S.nd.sublist (List.take_sublist _ _)
  refine ⟨u,I,?_⟩
  rcases S.par y (az2 o) with k | k
  ·exact .inl ⟨k,aio m o F k⟩
  ·obtain ⟨c,e⟩:=ake (n:=s.heap.objs.size+1) k
   refine .inr ⟨.inl k,c,e,?_⟩
   have q:=x.cell y c e
   rw [aip m o F (by show scope.names.lookup y ≠ _;rw [k];decide)] at q
   exact q
 ·exact g.hok.fresh (aE9 (x.above y c (PySem.mem_of_lookup h)))
 ·unfold start
  show _=N.length
  rw [aA1,az3,List.length_replicate]
  omega
theorem aym {CX:CXT} {P:Program} {w:World} {K:Frag} {mg:Str->Option Value} {base:Heap} {k:Nat} {f:Addr} {name qual:Str} {a:Arguments} {body:List Stmt} {scope:Scope} {C kV doc pm cdv ct oc:Value} {an od:Option Addr}
  {osl:Array (Option Value)} {N ps:List Str} {sp:Sp} (L:K.lookup f=some ⟨oc,od,.func (fnOf name qual a body scope C kV doc pm an cdv ct),osl⟩) (j:codeIn K cdv qual=true) (S:FnScope N ps scope)
  (len:∀ vs H Q E,sp vs H Q E->vs.length=ps.length)
  (g:∀ (A:Around) (outer:List Env) (s:Shared) (H:Hp) (vs:List V) (Q:VK) (E:XK),Room k (A.deeper (envOfC qual scope s.heap.objs.size f cdv))->sp vs H Q E ->
   ∃ t,PSs (cxOf CX P w K mg base N qual scope f cdv A outer s H E) body t/\t { nx:=fun _ H'=>Q .non H',rt:=Q } (start N vs) H) :
  FnOk P w K mg base CX (k+1) f (fnOf name qual a body scope C kV doc pm an cdv ct) ps sp:=by
 refine ⟨len,fun A outer s H args us vs Q E m i hb r h=>?_⟩
 have R:=len _ _ _ _ h
 have B:K.In s.heap:=i.mod.kin.keeps fun b o e=>(i.bs b o e).1
 have l:s.heap.NoLimit:=i.mod.nolimit.keeps fun b o e=>(i.bs b o e).1
 have d:∀ y∈ps.zip us,scope.names.lookup y.1=some .local\/(scope.names.lookup y.1=some .cell/\((cellsFrom (s.heap.objs.size+1) scope.names []).lookup y.1).isSome=true):=fun ⟨n,v⟩ G=>by
  rcases S.par n (List.of_mem_zip G).1 with q | q
  ·exact .inl q
  ·exact .inr ⟨q,PySem.W.cellsFrom_some _ _ _ (.inl q)⟩
 refine codeAny_call_function m.depth (B _ _ L) rfl S.co S.gen rfl (PySem.W.codeRec_of B j) (hb _ _ _ _ ?_)
 refine wpAny_newFunctionEnv_cells S.kind d fun env D s1 x=>?_
 subst D
 refine ⟨l.keeps x.toInCall.keep,codeAny_func ?_⟩
 obtain ⟨t,F,M⟩:=g A outer s H vs Q E (m.deeper _) h
 have I:Inv (cxOf CX P w K mg base N qual scope f cdv A outer s H E) [] (start N vs) H s1:=apb S m.hd i R r x
 refine aI0 (F [] s1 (start N vs) H _ I M) (fun O z hs=>?_) fun e z hs=>hs
 have fin:∀ {c:St} {H':Hp} {v:V} {u:Value},Inv (cxOf CX P w K mg base N qual scope f cdv A outer s H E) [] c H' z->RelV v u->Q v H'->CE outer P w H s Q u z :=
  fun {c H' v u} J p q=>⟨v,H',J.os,J.bare,J.base,J.hok,p,q⟩
 cases O with
 | ret u =>
  obtain ⟨v,c,H',J,p,q⟩:=hs
  exact fin J p q
 | next =>
  obtain ⟨c,H',J,q⟩:=hs
  exact fin (v:=V.non) (u:=Value.none) J rfl q
 | brk =>
  obtain ⟨_,_,_,q⟩:=hs
  exact False.elim q
 | cont =>
  obtain ⟨_,_,_,q⟩:=hs
  exact False.elim q
section
variable {X:Cx} {x:Str} {p pos:Pos} {e:Expr} {es:List Expr} {t:TA} {id T:String} {r:List V->Hp->VK->Prop}
def tCB (r:List V->Hp->VK->Prop) (t:TA):TE:=fun σ H Q=>t σ H fun vs H1=>r vs H1 Q
theorem aam (m:abh X (.builtin id) r) (g:Gl X x) (hm:X.mg x=none) (d:bootBuiltins x=some (.builtin id)) (ha:PA X (e :: es) t) (hn:x ≠ "__name__":=by decide) (b:(x == ("__debug__" : Str))=false:=by decide)
  (f:starEach (e :: es) X.env=(false,eval e X.env) :: starEach es X.env:=by rfl) (a:(backTo pos (starEach es X.env)).any (·.1)=false:=by rfl):PE X (.Call (.Name x p) (e :: es) [] pos) (tCB r t):=by
 intro pins s σ H Q I h
 refine wpAny_Call_Name_kw (adc I g hm d ?_ hn b)
 exact PyProof.Rows.callWith_builtin1 (thn (ha pos pins s σ H _ I h) fun us s1 ⟨vs,i,j,l,c⟩=>m pins s1 σ i vs us Q j l c) f a
theorem adf (m:abh X (.type T) r) (g:Gl X x) (hm:X.mg x=none) (d:bootBuiltins x=some (.type T)) (ha:PA X (e :: es) t) (hn:x ≠ "__name__":=by decide) (b:(x == ("__debug__" : Str))=false:=by decide)
  (f:starEach (e :: es) X.env=(false,eval e X.env) :: starEach es X.env:=by rfl) (a:(backTo pos (starEach es X.env)).any (·.1)=false:=by rfl):PE X (.Call (.Name x p) (e :: es) [] pos) (tCB r t):=by
 intro pins s σ H Q I h
 refine wpAny_Call_Name_kw (adc I g hm d ?_ hn b)
 exact PyProof.Rows.callWith_type1 (thn (ha pos pins s σ H _ I h) fun us s1 ⟨vs,i,j,l,c⟩=>m pins s1 σ i vs us Q j l c) f a
end
end L2
namespace HT
open PySem PyProof.Rows
def lexLt:List Int->List Int->Bool
 | [],[]=>false
 | [],_ :: _=>true
 | _ :: _,[]=>false
 | x :: xs,y :: ys=>if x=y then lexLt xs ys else decide (x < y)
theorem aez (x y:Int) (xs ys:List Int):lexLt (x :: xs) (y :: ys)=if x=y then lexLt xs ys else decide (x < y):=rfl
section
open PySem.SeqAt
open PySem.AutoSeq1 (wpAny_loadPart')
open PySem.MeetsSeq PySem.MeetsSeq2 PySem.MeetsSeq3
end
section
variable {prog:Program} {w:World} {A:Around} {E:Value->Shared->Prop} {s:Shared}
def sIx (n d:Nat):Option Int->Nat
 | none=>d
 | some v=>if v < 0 then (v+(n:Int)).toNat else min v.toNat n
theorem sIx_none (n d:Nat):sIx n d none=d:=rfl
theorem sIx_nat (n d k:Nat):sIx n d (some (k:Int))=min k n:=by
 show (if (k:Int) < 0 then ((k:Int)+(n:Int)).toNat else min (k:Int).toNat n)=min k n
 rw [aE0 (by omega),Int.toNat_natCast]
theorem clip_eq (v:Int) (n d:Nat):(if v < 0 then max (v+(n:Int)) 0 else min v (n:Int))=((sIx n d (some v):Nat):Int):=by
 show (if v < 0 then max (v+(n:Int)) 0 else min v (n:Int))=(((if v < 0 then (v+(n:Int)).toNat else min v.toNat n):Nat):Int)
 by_cases hv:v < 0
 ·simp only [aD9 hv];omega
 ·simp only [aE0 hv];omega
end
end HT
namespace L2
open PySem PySem.Spec PyProof.Rows
abbrev TO:=St->Hp->(Option Int->Hp->Prop)->Prop
def PO (X:Cx) (e:Option Expr) (t:TO):Prop :=
 ∀ (pins:List (Addr × Obj)) (s:Shared) (σ:St) (H:Hp) (Q:Option Int->Hp->Prop),Inv X pins σ H s->t σ H Q ->
  wpAny (model X.prog X.w) X.A (evalPart e X.env) (fun u s'=>∃ o H',Inv X pins σ H' s'/\IsPart u o/\Q o H') X.xe s
def amr:TO:=fun _ H Q=>Q none H
def atj (t:TE):TO:=fun σ H Q=>t σ H fun x H1=>∃ i,x=.int i/\Q (some i) H1
theorem act {ns:List Int}:∀ {us:List Value},Vals (ns.map V.int) us->IntsAre us ns:=by
 induction ns with
 | nil=>intro us r;rw [List.map_nil] at r;cases r;exact .nil
 | cons n ns ih =>
  intro us r
  rw [aC1] at r
  cases r with
  | cons r1 r2 =>
   obtain ⟨t,e⟩:=r1
   subst e
   exact .cons n t (ih r2)
section
variable {X:Cx} {e:Expr} {te:TE} {lo hi:Option Expr} {tl th:TO} {pos p2:Pos}
theorem adq:PO X none amr:=by
 intro pins s σ H Q I h
 rw [evalPart_none]
 exact aH2 ⟨none,H,I,.none,h⟩
theorem acv (h:PE X e te):PO X (some e) (atj te):=by
 intro pins s σ H Q I b
 rw [evalPart_some]
 refine thn (h pins s σ H _ I b) fun u s1 ⟨x,c,d,f,a⟩=>?_
 obtain ⟨i,rfl,q⟩:=a
 obtain ⟨t,rfl⟩:=f
 exact ⟨some i,c,d,.int i t,q⟩
def SlR (X:Cx) (r:V->Option Int->Option Int->Hp->VK->Prop):Prop :=
 ∀ (pins:List (Addr × Obj)) (s:Shared) (σ:St) (H:Hp) (x:V) (v vl vu:Value) (lo hi:Option Int) (sl:Addr) (Q:VK),Inv X pins σ H s->RelV x v->s.heap.IsSliceOf sl vl vu .none->IsPart vl lo->IsPart vu hi->r x lo hi H Q ->
  ∃ T id,typeLookup (.type T) "__getitem__" = pure (some (.builtin id))/\s.TypeIs v T/\wpAny (model X.prog X.w) X.A (getItem v (.ref sl)) (EP X pins σ Q) X.xe s
def tSl (r:V->Option Int->Option Int->Hp->VK->Prop) (te:TE) (tl th:TO):TE:=fun σ H Q=>te σ H fun x H1=>tl σ H1 fun l H2=>th σ H2 fun u H3=>r x l u H3 Q
theorem acw {r:V->Option Int->Option Int->Hp->VK->Prop} (C:SlR X r) (g:PE X e te) (G:PO X lo tl) (K:PO X hi th):PE X (.Subscript e (.Slice lo hi none p2) pos) (tSl r te tl th):=by
 intro pins s σ H Q I h
 refine Subscript_ (thn (g pins s σ H _ I h) fun v s1 ⟨x,p,y,D,f⟩=>?_)
 refine wpAny_Slice (thn (G pins s1 σ p _ y f) fun d s2 ⟨l,H2,E,i,z⟩=>thn (K pins s2 σ H2 _ E z) fun c a ⟨u,H3,J,B,j⟩=>?_)
 rw [evalPart_none]
 refine aH2 ?_
 have n:Inv X pins σ H3 { a with heap:=a.heap.push { cls:=.type "slice",data:=.fields #[d,c,.none] } }:=J.kept (t':=a.toks) fun b L q=>aH3 _ q
 obtain ⟨T,id,F,m,o⟩:=C pins { a with heap:=a.heap.push { cls:=.type "slice",data:=.fields #[d,c,.none] } } σ H3 x v d c l u a.heap.objs.size Q n D (Heap.IsSliceOf.new ..) i B j
 show wpAny (model X.prog X.w) X.A (subscriptTail e (.Slice lo hi none p2) v (.ref a.heap.objs.size)) (EP X pins σ Q) X.xe { a with heap:=a.heap.push { cls:=.type "slice",data:=.fields #[d,c,.none] } }
 exact tail_any (ops:=[.ref a.heap.objs.size,v]) m F o (by with_unfolding_all rfl)
def cutV (xs:List V) (lo hi:Option Int):List V:=(xs.drop (HT.sIx xs.length 0 lo)).take (HT.sIx xs.length xs.length hi - HT.sIx xs.length 0 lo)
theorem ama (xs:List V) (lo hi:Option Int):(cutV xs lo hi).length<=xs.length:=by
 unfold cutV
 rw [aF4,List.length_drop]
 omega
end
def ixN (n:Nat) (i:Int):Option Nat:=if 0<=i then (if i < n then some i.toNat else none) else if -(n:Int)<=i then some (i+n).toNat else none
def atI {α:Type} (xs:List α) (i:Int):Option α:=(ixN xs.length i).bind fun j=>xs[j]?
theorem ams {n:Nat} {i:Int} {j:Nat} (h:ixN n i=some j):seqIndex? i n=some j/\j < n/\-(n:Int)<=i/\i < n:=by
 unfold ixN at h
 by_cases h0:0<=i
 ·rw [aD9 h0] at h
  by_cases h1:i < n
  ·rw [aD9 h1] at h
   have e:i.toNat=j:=aB6 h
   exact ⟨by rw [seqIndex_of h0 h1,e],by omega,by omega,h1⟩
  ·rw [aE0 h1] at h;cases h
 ·rw [aE0 h0] at h
  by_cases h1 : -(n:Int)<=i
  ·rw [aD9 h1] at h
   have e:(i+n).toNat=j:=aB6 h
   exact ⟨by rw [seqIndex_neg (by omega) h1,e],by omega,h1,by omega⟩
  ·rw [aE0 h1] at h;cases h
theorem amt {α:Type} {xs:List α} {i:Int} {v : α} (h:atI xs i=some v):∃ j,seqIndex? i xs.length=some j/\xs[j]?=some v/\j < xs.length/\-(xs.length:Int)<=i/\i < xs.length:=by
 unfold atI at h
 cases e:ixN xs.length i with
 | none=>rw [e] at h;cases h
 | some j =>
  rw [e] at h
  obtain ⟨a,c,d,b⟩:=ams e
  exact ⟨j,a,h,c,d,b⟩
theorem af1 {α:Type} {xs:List α} {j:Nat} {v : α} (h:xs[j]?=some v):atI xs (j:Int)=some v:=by
 have a:j < xs.length:=(az1.mp h).1
 have e:ixN xs.length (j:Int)=some j:=by
  unfold ixN
  rw [aD9 (by omega),aD9 (by omega)];simp
 unfold atI;rw [e];exact h
def at4 (b:Expr):Prop:=∀ o i,subscripted b false o i=operate [o,i] (getItem o i)
def IxR (X:Cx) (r:R2):Prop :=
 ∀ (value slice:Expr) (pins:List (Addr × Obj)) (s:Shared) (σ:St) (H:Hp) (x y:V) (v u:Value) (Q:VK),Inv X pins σ H s->RelV x v->RelV y u->r x y H Q ->
  subscripted slice false v u=operate [v,u] (getItem v u)->wpAny (model X.prog X.w) X.A (subscriptTail value slice v u) (EP X pins σ Q) X.xe s
def MtR (X:Cx) (id:String) (r:V->List V->Hp->VK->Prop):Prop :=
 ∀ (pins:List (Addr × Obj)) (s:Shared) (σ:St) (H:Hp) (x:V) (xs:List V) (v:Value) (us:List Value) (Q:VK),Inv X pins σ H s->RelV x v->Vals xs us->r x xs H Q ->
  wpAny (model X.prog X.w) X.A (call (.builtin id) (v :: us)) (EP X pins σ Q) X.xe s
section
variable {X:Cx} {a b:Expr} {ta tb:TE} {pos:Pos}
theorem IxR.or {r d:R2} (h:IxR X r) (h':IxR X d):IxR X (fun x y H Q=>r x y H Q\/d x y H Q):=by
 intro b a pins s σ H x y v u Q I f c q hs
 rcases q with q | q
 ·exact h b a pins s σ H x y v u Q I f c q hs
 ·exact h' b a pins s σ H x y v u Q I f c q hs
theorem aao {r:R2} (d:IxR X r) (ha:PE X a ta) (hb:PE X b tb) (hs:at4 b):PE X (.Subscript a b pos) (tOp r ta tb):=by
 intro pins s σ H Q I h
 exact Subscript_ (binT ha hb I h fun v u s2 x y H2 f g c q=>d a b pins s2 σ H2 x y v u Q f g c q (hs _ _))
def rIxL (K:Frag):R2:=fun x y H Q=>∃ p xs i v,x=.ref p/\y=.int i/\SqL K H p xs/\atI xs i=some v/\Q v H
def rIxT (K:Frag):R2:=fun x y H Q=>∃ p xs i v,x=.ref p/\y=.int i/\SqT K H p xs/\atI xs i=some v/\Q v H
theorem ix_list:IxR X (rIxL X.K):=by
 intro f d pins s σ H x y v u Q I E o h hs
 obtain ⟨p,xs,i,z,rfl,rfl,B,m,q⟩:=h
 cases E
 obtain ⟨t,rfl⟩:=o
 obtain ⟨its,r,c,hz⟩:=I.list B
 obtain ⟨j,a,n,G,A,C⟩:=amt m
 obtain ⟨w,l,g⟩:=r.get n
 have F:=r.length
 have hn:=afg
 have fin:EP X pins σ Q w s:=⟨z,H,I,g,q⟩
 by_cases h0:0<=i
 ·have b:i.toNat=j:=by
   rw [seqIndex_of h0 C] at a
   exact aB6 a
  exact item_listR c.isList h0 (by omega) (by rw [b];simpa using l) fin hs
 ·have b:(i+(its.toArray.size:Int)).toNat=j:=by
   rw [seqIndex_neg (by omega) A] at a
   rw [aA2,← F]
   exact aB6 a
  exact subscriptTail_builtinR (x:=w) c.isList.typeIs slot_list_getitem.lookup
   (wpAny_getItem_list_neg (Q:=fun r D=>r=w/\EP X pins σ Q r D) c.isList (by omega) (by rw [aA2] <;> omega) (by omega) (by rw [b];simpa using l) ⟨rfl,fin⟩) hs
theorem awq:IxR X (rIxT X.K):=by
 intro b a pins s σ H x y v u Q I B m h hs
 obtain ⟨p,xs,i,z,rfl,rfl,n,f,q⟩:=h
 cases B
 obtain ⟨t,rfl⟩:=m
 obtain ⟨its,r,d,hz⟩:=I.tuple n
 obtain ⟨j,o,l,F,D,E⟩:=amt f
 obtain ⟨w,g,c⟩:=r.get l
 have C:=r.length
 have hn:=afg
 have fin:EP X pins σ Q w s:=⟨z,H,I,c,q⟩
 exact subscriptTail_builtinR (x:=w) d.typeIs slot_tuple_getitem.lookup
  (getItem_tuple (j:=j) (Q:=fun r A=>r=w/\EP X pins σ Q r A) d (by omega) (by omega) (by rw [aA2,← C];exact o) (by simpa using g) ⟨rfl,fin⟩) hs
theorem an1 (its:List Value) (n j:Nat) (u:Value):Obj.mapSeq (·.setIfInBounds j u) { cls:=.type "list",data:=.seq its.toArray n }={ cls:=.type "list",data:=.seq (its.set j u).toArray n }:=by
 simp [Obj.mapSeq]
theorem Inv.lst {pins:List (Addr × Obj)} {σ:St} {H:Hp} {s:Shared} {p:Addr} {xs:List V} (I:Inv X pins σ H s) (h:H p=some (.lst xs)) :
  ∃ (its:List Value) (n:Nat),Vals xs its/\s.heap.get? p=some { cls:=.type "list",data:=.seq its.toArray n }/\xs.length<=sizeLine:=by
 obtain ⟨z,its,n,r,e⟩:=I.hok p _ h
 exact ⟨its,n,r,e,z⟩
theorem Inv.lstUpd {pins:List (Addr × Obj)} {σ:St} {H:Hp} {s:Shared} {p:Addr} {xs ys:List V} {its its':List Value} {n a:Nat} {f:Obj->Obj} (I:Inv X pins σ H s) (h:H p=some (.lst xs))
  (c:s.heap.get? p=some { cls:=.type "list",data:=.seq its.toArray n }) (hf:f { cls:=.type "list",data:=.seq its.toArray n }={ cls:=.type "list",data:=.seq its'.toArray a }) (r:Vals ys its') (hz:ys.length<=sizeLine) (t:Nat) :
  Inv X pins σ (upd H p (.lst ys)) { s with heap:=s.heap.update p f,toks:=t }:=by
 have e:(s.heap.update p f).get? p=some { cls:=.type "list",data:=.seq its'.toArray a }:=by
  rw [aI7 f c (by rw [hf] <;> rfl),hf]
 refine I.write (x:=p) (e:=p) (by rw [h];trivial) (.inl rfl) (fun b u hb q=>(aH9 _ _ (Ne.symm hb)).trans q) ⟨_,e⟩ ?_
 exact ⟨hz,its',a,r,e⟩
def an2:V->V->V->Hp->(Hp->Prop)->Prop:=fun o i v H Q=>∃ p xs k j,o=.ref p/\i=.int k/\H p=some (.lst xs)/\ixN xs.length k=some j/\Q (upd H p (.lst (xs.set j v)))
theorem akf:PSet X an2:=by
 intro pins s σ H o i v B C u Q I x y z h
 obtain ⟨p,xs,k,j,rfl,rfl,l,w,q⟩:=h
 cases x
 obtain ⟨t,rfl⟩:=y
 obtain ⟨its,n,r,c,hz⟩:=I.lst l
 obtain ⟨a,A,m,g⟩:=ams w
 have d:=r.length
 have hn:=afg
 have f:Inv X pins σ (upd H p (.lst (xs.set j v))) { s with heap:=s.heap.update p (Obj.mapSeq (·.setIfInBounds j u)) } :=
  I.lstUpd l c (an1 its n j u) (r.set z j) (by rw [List.length_set];exact hz) s.toks
 by_cases h0:0<=k
 ·have b:k.toNat=j:=by
   rw [seqIndex_of h0 g] at a
   exact aB6 a
  exact PySem.W.ki_setAt c h0 (by omega) (by rw [aA2,← d];exact g) (by rw [b];exact ⟨_,f,q⟩)
 ·have b:(k+(its.toArray.size:Int)).toNat=j:=by
   rw [seqIndex_neg (by omega) m] at a
   rw [aA2,← d]
   exact aB6 a
  exact PySem.W.ki_setBack c (by omega) (by rw [aA2,← d];exact m) (by omega) (by rw [b];exact ⟨_,f,q⟩)
theorem akg (lo hi:Option Int) (n:Nat):(sliceBounds lo hi none n).1=((HT.sIx n 0 lo:Nat):Int)/\(sliceBounds lo hi none n).2.1=((HT.sIx n n hi:Nat):Int)/\(sliceBounds lo hi none n).2.2=1:=by
 refine ⟨?_,?_,rfl⟩
 ·cases lo with
  | none=>simp [sliceBounds,HT.sIx]
  | some i =>
   simp only [sliceBounds,HT.sIx,Option.getD_none,show (1:Int) > 0 by decide,if_true]
   by_cases h:i < 0
   ·simp only [h,if_true] <;> omega
   ·simp only [h,if_false] <;> omega
 ·cases hi with
  | none=>simp [sliceBounds,HT.sIx]
  | some i =>
   simp only [sliceBounds,HT.sIx,Option.getD_none,show (1:Int) > 0 by decide,if_true]
   by_cases h:i < 0
   ·simp only [h,if_true] <;> omega
   ·simp only [h,if_false] <;> omega
theorem ai9 (its:List Value) (lo hi:Option Int):slicePick its.toArray lo hi none=((its.drop (HT.sIx its.length 0 lo)).take (HT.sIx its.length its.length hi - HT.sIx its.length 0 lo)).toArray:=by
 obtain ⟨a,b,c⟩:=akg lo hi its.toArray.size
 unfold slicePick
 rw [a,b,c]
 simp only [sliceRange_one,pick_run,aA2] <;> rfl
def rSlL (K:Frag):V->Option Int->Option Int->Hp->VK->Prop:=fun x lo hi H Q=>∃ a xs,x=.ref a/\SqL K H a xs/\∀ p,H p=none->Q (.ref p) (upd H p (.lst (cutV xs lo hi)))
theorem adr:SlR X (rSlL X.K):=by
 intro pins s σ H x v m l lo hi sl Q I j hs f g h
 obtain ⟨a,xs,rfl,i,q⟩:=h
 cases j
 obtain ⟨its,r,d,hz⟩:=I.list i
 have c:=r.length
 refine ⟨"list",_,slot_list_getitem.lookup,d.isList.typeIs,?_⟩
 refine wpAny_getItem_list_slice d.isList hs f g .none (by simp) ?_ (by rw [aA2] <;> omega)
 rw [ai9,← c]
 refine ⟨.ref s.heap.objs.size,_,I.laid (t':=s.toks) (o:=.lst (cutV xs lo hi)) (fun b n q=>aH3 _ q) (az6 _) ?_,rfl,q _ (I.hok.fresh (az6 _))⟩
 exact ⟨aC0 (ama xs lo hi) hz,_,0,(r.drop (HT.sIx xs.length 0 lo)).take (HT.sIx xs.length xs.length hi - HT.sIx xs.length 0 lo),aH5 _ rfl⟩
theorem akh:abh X (.builtin "len") (fun xs H Q=>∃ p ys,xs=[.ref p]/\(SqL X.K H p ys\/SqT X.K H p ys)/\Q (.int ys.length) H):=by
 intro pins s σ H xs us Q I r h
 obtain ⟨p,ys,rfl,b,q⟩:=h
 obtain ⟨u,rfl,f⟩:=acj r
 cases f
 have hn:=afg
 rcases b with b | b
 ·obtain ⟨its,d,c,hz⟩:=I.list b
  have a:=d.length
  exact Calls.call_len_list c.isList (by simp only [aA2] <;> omega) ⟨.int ys.length,H,I.tok _,⟨s.toks+1,by rw [aA2,a]⟩,q⟩
 ·obtain ⟨its,d,c,hz⟩:=I.tuple b
  have a:=d.length
  exact len_tuple c (by simp only [aA2] <;> omega) ⟨.int ys.length,H,I.tok _,⟨s.toks+1,by rw [aA2,a]⟩,q⟩
theorem aki:abh X (.type "list") (fun xs H Q=>∃ p ys,xs=[.ref p]/\(SqL X.K H p ys\/SqT X.K H p ys)/\∀ l,H l=none->Q (.ref l) (upd H l (.lst ys))):=by
 intro pins s σ H xs us Q I r h
 obtain ⟨p,ys,rfl,f,q⟩:=h
 obtain ⟨u,rfl,m⟩:=acj r
 cases m
 have fin:∀ (its:List Value),Vals ys its->ys.length<=sizeLine->∀ (h':Heap) (a:Nat),(∀ b o',s.heap.get? b=some o'->h'.get? b=some o') ->
   h'.get? s.heap.objs.size=some { cls:=.type "list",dict:=none,data:=.seq its.toArray a,slots:=#[] }->EP X pins σ Q (.ref s.heap.objs.size) { s with heap:=h' }:=fun its c hz h' a kp e =>
  ⟨.ref s.heap.objs.size,_,I.laid (t':=s.toks) kp (az6 _) (show ObjOk X.prog X.w _ h' _ (.lst ys) from ⟨hz,its,a,c,e⟩),rfl,q _ (I.hok.fresh (az6 _))⟩
 rcases f with f | f
 ·obtain ⟨its,c,g,hz⟩:=I.list f
  have d:=c.length
  obtain ⟨o,i,j,n,hd⟩:=g.isList
  exact call_list_seq p (.inl rfl) i j hd (fun h' a kp e=>fin its c hz h' a kp e) (by simp only [aA2] <;> omega)
 ·obtain ⟨its,c,g,hz⟩:=I.tuple f
  have d:=c.length
  obtain ⟨o,i,j,n,hd⟩:=g
  exact call_list_seq p (.inr rfl) i j hd (fun h' a kp e=>fin its c hz h' a kp e) (by simp only [aA2] <;> omega)
def tyV (K:Frag) (T:String) (x:V) (H:Hp):Prop:=match x with
 | .str _=>T = "str"
 | .int _=>T = "int"
 | .ref p=>(T = "list"/\∃ xs,SqL K H p xs)\/(T = "tuple"/\∃ o,K.lookup p=some o/\o.cls=.type "tuple"/\o.dict=none) ∨
   (T = "dict"/\((∃ kvs,H p=some (.dK kvs))\/∃ kvs,H p=some (.dT kvs)))\/(T = "set"/\∃ S n,H p=some (.set S n))
 | _=>False
theorem awr {pins:List (Addr × Obj)} {σ:St} {H:Hp} {s:Shared} {T:String} {x:V} {v:Value} (I:Inv X pins σ H s) (r:RelV x v) (ty:tyV X.K T x H) :
  s.TypeIs v T/\∀ a,v=.ref a->∃ g,s.heap.get? a=some g/\g.dict=none:=by
 cases x with
 | str z =>
  obtain ⟨t,rfl⟩:=r
  cases (show T = "str" from ty)
  exact ⟨typeIs_str s z t,fun _ e=>nomatch e⟩
 | int i =>
  obtain ⟨t,rfl⟩:=r
  cases (show T = "int" from ty)
  exact ⟨typeIs_int s i t,fun _ e=>nomatch e⟩
 | ref p =>
  cases r
  rcases ty with ⟨rfl,xs,h⟩ | ⟨rfl,o,b,j,hd⟩ | ⟨rfl,b⟩ | ⟨rfl,S,n,b⟩
  ·obtain ⟨its,_,f,_⟩:=I.list h
   refine ⟨f.isList.typeIs,fun a e=>?_⟩
   cases e
   obtain ⟨o,n,e,c,hd,_⟩:=f
   exact ⟨o,e,hd⟩
  ·refine ⟨⟨o,I.kIn p o b,j⟩,fun a e=>?_⟩
   cases e
   exact ⟨o,I.kIn _ o b,hd⟩
  ·have z:∃ o,s.heap.get? p=some o/\o.ExactDict:=by
    rcases b with ⟨kvs,b⟩ | ⟨kvs,b⟩
    ·obtain ⟨_,_,_,_,o,_,_,e,ex,_⟩:=I.hok p _ b
     exact ⟨o,e,ex⟩
    ·obtain ⟨_,_,_,_,o,_,_,e,ex,_⟩:=I.hok p _ b
     exact ⟨o,e,ex⟩
   obtain ⟨o,e,ex⟩:=z
   refine ⟨⟨o,e,ex.1⟩,fun a d=>?_⟩
   cases d
   exact ⟨o,e,ex.2.1⟩
  ·obtain ⟨o,_,_,_,e,ex,_⟩:=I.hok p _ b
   refine ⟨⟨o,e,ex.1⟩,fun a d=>?_⟩
   cases d
   exact ⟨o,e,ex.2.1⟩
 | _=>exact False.elim ty
def tBM (K:Frag) (T:String) (r:V->List V->Hp->VK->Prop) (to:TE) (t:TA):TE:=fun σ H Q=>to σ H fun x H1=>tyV K T x H1/\t σ H1 fun xs H2=>r x xs H2 Q
variable {o e:Expr} {es:List Expr} {to:TE} {t:TA} {name:Str} {apos cpos:Pos} {T id:String} {r:V->List V->Hp->VK->Prop}
theorem ab2 (q:PlainAttrs T) (slot:Slot T name id) (g:typeOf (.builtin id)=pure (.type "method_descriptor")) (hm:MtR X id r) (y:PE X o to) (ha:PA X (e :: es) t)
  (c:attributeBase o name X.env (eval o X.env)=eval o X.env:=by rfl)
  (f:((backTo cpos (starEach (e :: es) X.env)).all (fun x => !x.1) && (backToKw cpos (keywordEach [] X.env)).all (fun x=>x.1.isSome)
   && decide ((e :: es).length+([]:List Keyword).length+(if ([]:List Keyword).isEmpty then 0 else 1) < 30))=true:=by rfl)
  (d:(apos.endLine == cpos.line)=true:=by rfl) (hs:starEach (e :: es) X.env=(false,eval e X.env) :: starEach es X.env:=by rfl) (b:(backTo cpos (starEach es X.env)).any (·.1)=false:=by rfl) :
  PE X (.Call (.Attribute o name apos) (e :: es) [] cpos) (tBM X.K T r to t):=by
 intro pins s σ H Q I h
 refine wpAny_Call_method_late c f d rfl (thn (y pins s σ H _ I h) fun v s1 ⟨x,u,i,j,ty,m⟩=>?_)
 obtain ⟨z,p⟩:=awr i j ty
 refine ⟨T,id,q,slot,g,z,p,?_⟩
 have l:=ha cpos pins s1 σ u _ i m
 rw [hs] at l ⊢
 refine Calls.callWith_builtin (by show (false || (backTo cpos (starEach es X.env)).any (·.1))=false;rw [b] <;> rfl) (Calls.evalArgs_plain ?_)
 exact thn l fun us s2 ⟨vs,H2,A,n,w⟩=>hm pins s2 σ H2 x vs v us Q A j n w
/- xs.append(e), list.index on a module's tuple .. are MtR facts of 06m -/
end
def MtM (X:Cx) (id:String) (r:V->List V->Hp->VK->Prop):Prop :=
 ∀ (pins:List (Addr × Obj)) (s:Shared) (σ:St) (H:Hp) (x:V) (xs:List V) (v:Value) (us:List Value) (Q:VK),Inv X pins σ H s->RelV x v->Vals xs us->r x xs H Q ->
  wpAny (model X.prog X.w) X.A (call (.builtin id) (v :: us)) (EP X pins σ Q) X.xe s
theorem Vals.one:∀ {x:V} {us:List Value},Vals [x] us->∃ u,us=[u]/\RelV x u
 | _,_,.cons r .nil=>⟨_,rfl,r⟩
theorem Vals.eraseIdx:∀ {xs:List V} {us:List Value} (i:Nat),Vals xs us->Vals (xs.eraseIdx i) (us.eraseIdx i)
 | _,_,_,.nil => .nil
 | _,_,0,.cons _ t=>t
 | _,_,i+1,.cons r t => .cons r (Vals.eraseIdx i t)
theorem Vals.reverse {xs:List V} {us:List Value} (h:Vals xs us):Vals xs.reverse us.reverse:=by
 induction h with
 | nil=>exact .nil
 | cons r t ih=>rw [List.reverse_cons,List.reverse_cons];exact Vals.append ih (.cons r .nil)
theorem Vals.rep {xs:List V} {us:List Value} (h:Vals xs us):∀ k:Nat,Vals (List.replicate k xs).flatten (List.replicate k us).flatten
 | 0 => .nil
 | k+1=>by
  rw [aF7,aF7,List.flatten_cons,List.flatten_cons]
  exact Vals.append h (Vals.rep h k)
theorem aiq {α:Type}:∀ (l:List α) (i:Nat),(l.eraseIdx i).length<=l.length
 | [],_=>az6 _
 | _ :: _,0=>Nat.le_succ _
 | _ :: r,i+1=>Nat.succ_le_succ (aiq r i)
theorem air (its:List Value):∀ (k:Nat) (a:List Value),
  List.foldl (fun d b=>d ++ b) a.toArray (List.replicate k its.toArray)=(a ++ (List.replicate k its).flatten).toArray
 | 0,a=>by simp
 | k+1,a=>by
  have e:a.toArray ++ its.toArray=(a ++ its).toArray:=by simp
  have c:(a ++ its) ++ (List.replicate k its).flatten=a ++ (List.replicate (k+1) its).flatten:=by
   rw [aF7,List.flatten_cons,aA4]
  rw [← c,← air its k (a ++ its),← e,aF7,List.foldl_cons]
section
variable {X:Cx} {pins:List (Addr × Obj)} {σ:St} {H:Hp} {s:Shared} {l b:Addr} {xs ys zs:List V}
theorem Inv.lset {its its':List Value} {n:Nat} {f:Array Value->Array Value} {t':Nat} (I:Inv X pins σ H s) (c:H l=some (.lst xs))
  (e:s.heap.get? l=some { cls:=.type "list",data:=.seq its.toArray n }) (hf:f its.toArray=its'.toArray) (a:Vals ys its') (hz:ys.length<=sizeLine) :
  Inv X pins σ (upd H l (.lst ys)) { s with heap:=s.heap.update l (Obj.mapSeq f),toks:=t' }:=by
 have q:=PySem.IsL.update e f
 rw [hf] at q
 refine I.write (x:=l) (e:=l) (by rw [c];exact trivial) (.inl rfl) (fun d u hb b=>(aH9 s.heap (Obj.mapSeq f) (Ne.symm hb)).trans b) ⟨_,q⟩ ?_
 exact ⟨hz,its',_,a,q⟩
theorem Inv.lnew {its:List Value} {t':Nat} (I:Inv X pins σ H s) (a:Vals ys its) (hz:ys.length<=sizeLine) :
  Inv X pins σ (upd H s.heap.objs.size (.lst ys)) { s with heap:=s.heap.push { cls:=.type "list",data:=.seq its.toArray },toks:=t' } :=
 I.laid (fun _ _ q=>aH3 _ q) (az6 _) ⟨hz,its,0,a,aH5 _ rfl⟩
theorem Inv.fresh (I:Inv X pins σ H s):H s.heap.objs.size=none:=I.hok.fresh (az6 _)
theorem Inv.lstM (I:Inv X pins σ H s) (a:H l=some (.lst xs)):xs.length<=sizeLine/\∃ (its:List Value) (n:Nat),Vals xs its/\xs.length=its.length/\s.heap.get? l=some { cls:=.type "list",data:=.seq its.toArray n }:=by
 obtain ⟨z,its,n,r,e⟩:=I.hok l _ a
 exact ⟨z,its,n,r,r.length,e⟩
theorem aq6 {n:Nat} (h:n<=sizeLine):Builtin.List.listTooLong n=false:=by
 unfold Builtin.List.listTooLong
 exact aC5 (by omega)
end
section
variable {X:Cx}
def aem:V->List V->Hp->VK->Prop:=fun x vs H Q=>∃ l xs y,x=.ref l/\vs=[y]/\H l=some (.lst xs)/\xs.length < sizeLine/\Q .non (upd H l (.lst (xs ++ [y])))
theorem aa6:MtM X "list.append" aem:=by
 intro pins s σ H x vs v us Q I d c h
 obtain ⟨l,xs,y,rfl,rfl,a,hz,q⟩:=h
 cases d
 obtain ⟨u,rfl,b⟩:=c.one
 obtain ⟨z,its,n,r,f,e⟩:=I.lstM a
 refine call_meets F.slot_list_append ⟨_,e,rfl⟩ F.entry_list_append (F.args_list_append_2 _ _) (PySem.list_append l its.toArray n u (by rw [aA2];omega)) ⟨e,?_⟩
 refine ⟨.non,_,I.lset (its':=its ++ [u]) a e (by simp) (r.append (.cons b .nil)) ?_,rfl,q⟩
 rw [aA1,List.length_singleton]
 omega
def akj:V->List V->Hp->VK->Prop:=fun x vs H Q=>∃ l xs i k y,x=.ref l/\vs=[.int i]/\H l=some (.lst xs)/\-(2 ^ 63)<=i/\i < 2 ^ 63/\seqIndex? i xs.length=some k/\xs[k]?=some y/\Q y (upd H l (.lst (xs.eraseIdx k)))
theorem akk:MtM X "list.pop" akj:=by
 intro pins s σ H x vs v us Q I p m h
 obtain ⟨l,xs,i,k,y,rfl,rfl,b,o,f,d,g,q⟩:=h
 cases p
 obtain ⟨u,rfl,j⟩:=m.one
 obtain ⟨t,rfl⟩:=j
 obtain ⟨z,its,n,r,A,e⟩:=I.lstM b
 obtain ⟨w,c,a⟩:=r.get g
 refine call_meets F.slot_list_pop ⟨_,e,rfl⟩ F.entry_list_pop (F.args_list_pop_2 _ _)
  (MeetsSeq.list_pop_at l its.toArray n i t k w (fitsIndex_both o f) (by rw [aA2,← A];exact d) (by rw [← aC4];exact c) (by rw [aA2];omega)) ⟨e,?_⟩
 refine ⟨y,_,I.lset (its':=its.eraseIdx k) b e ?_ (r.eraseIdx k) ?_,a,q⟩
 ·show its.toArray.eraseIdxIfInBounds k=(its.eraseIdx k).toArray
  rw [List.eraseIdxIfInBounds_toArray]
 ·have:=aiq xs k
  omega
def rCat:R2:=fun x y H Q=>∃ l b xs zs,x=.ref l/\y=.ref b/\H l=some (.lst xs)/\H b=some (.lst zs)/\xs.length+zs.length<=sizeLine/\∀ p,H p=none->Q (.ref p) (upd H p (.lst (xs ++ zs)))
theorem adz:OpR X (binaryOp .Add) rCat:=by
 intro pins s σ H x y v u Q I o j h
 obtain ⟨l,b,xs,A,rfl,rfl,m,g,hz,q⟩:=h
 cases o
 cases j
 obtain ⟨z,its,n,r,B,e⟩:=I.lstM m
 obtain ⟨p,a,w,d,f,i⟩:=I.lstM g
 refine PySem.P.add_list e i ?_ (by rw [aA2,aA2];omega)
 have c:its.toArray ++ a.toArray=(its ++ a).toArray:=by simp
 rw [c]
 exact ⟨.ref _,_,I.lnew (t':=s.toks) (r.append d) (by rw [aA1];omega),rfl,q _ I.fresh⟩
def rRep:R2:=fun x y H Q=>∃ l k xs,x=.ref l/\y=.int k/\H l=some (.lst xs)/\-(2 ^ 63)<=k/\k < 2 ^ 63/\xs.length * k.toNat<=sizeLine /\
 ∀ p,H p=none->Q (.ref p) (upd H p (.lst (List.replicate k.toNat xs).flatten))
theorem amu {α:Type} (xs:List α) (k:Nat):(List.replicate k xs).flatten.length=k * xs.length:=by
 induction k with
 | zero=>simp
 | succ k ih=>rw [aF7,List.flatten_cons,aA1,ih,Nat.succ_mul,Nat.add_comm]
theorem aws:OpR X (binaryOp .Mult) rRep:=by
 intro pins s σ H x y v u Q I E p h
 obtain ⟨l,k,xs,rfl,rfl,D,A,o,hz,q⟩:=h
 cases E
 obtain ⟨t,rfl⟩:=p
 obtain ⟨z,its,n,r,B,e⟩:=I.lstM D
 have f:its.toArray.size * k.toNat<=sizeLine:=by rw [aA2,← B];exact hz
 have c:¬ its.toArray.size * k.toNat > (2 ^ 63 - 1) / 8:=by
  have:(sizeLine:Nat)<=(2 ^ 63 - 1) / 8:=by decide
  omega
 have d:¬ (!Builtin.List.listFitsIndex k)=true:=by
  rw [fitsIndex_both A o]
  exact aA0
 have b:¬ Builtin.List.listTooLong (its.toArray.size * k.toNat)=true:=by
  rw [aq6 f]
  exact aA0
 have g:List.foldl (fun j i=>j ++ i) #[] (List.replicate (if its.toArray.isEmpty=true then 0 else k.toNat) its.toArray)=(List.replicate k.toNat its).flatten.toArray:=by
  have w:∀ m:Nat,List.foldl (fun j i=>j ++ i) #[] (List.replicate m its.toArray)=(List.replicate m its).flatten.toArray:=fun m=>by
   have:=air its m []
   rw [List.nil_append] at this
   exact this
  rw [w]
  cases its with
  | nil=>simp
  | cons a r'=>rw [aE0 (by simp)]
 refine wpAny_binaryOp_repeat_ref (T:="list") (U:="int") (by decide) ⟨_,e,rfl⟩ (fun C=>typeIs_int C k t) noFill_list_mul F.fills_int_mul F.slot_int_rmul repeat_list F.slot_int_index.lookup
  (call_meets F.slot_int_rmul (typeIs_int s k t) F.entry_int_rmul (F.args_int_rmul_2 _ _) (int___rmul___int_list k t l its.toArray n)
   ⟨e,rfl,⟨_,e,rfl⟩,call_meets F.slot_list_mul ⟨_,e,rfl⟩ F.entry_list_mul (F.args_list_mul_2 _ _) (AutoListH.list___mul___list_int_3 l its.toArray n k t d c b) ⟨e,?_⟩⟩)
 rw [g]
 exact ⟨.ref _,_,I.lnew (t':=s.toks) (r.rep k.toNat) (by rw [amu,Nat.mul_comm];exact hz),rfl,q _ I.fresh⟩
end
section
variable {prog:Program} {w:World} {A:Around} {E:Value->Shared->Prop} {s:Shared}
end
section
variable {X:Cx}
end
section
variable {κ:Type} [DecidableEq κ]
def valV (kvs:List (κ × V)) (k : κ):Option V:=(kvs.find? fun kv=>decide (kv.1=k)).map (·.2)
def putK (kvs:List (κ × V)) (k : κ) (v:V):List (κ × V) :=
 if (kvs.any fun kv=>decide (kv.1=k))=true then kvs.map (fun kv=>if kv.1=k then (kv.1,v) else kv) else kvs ++ [(k,v)]
def atk (kvs:List (κ × V)) (k : κ):List (κ × V):=kvs.filter fun kv=>decide (kv.1 ≠ k)
theorem agp {p : κ × V} {r:List (κ × V)} {k : κ} (e:p.1=k):valV (p :: r) k=some p.2:=by simp [valV,List.find?_cons,e]
theorem agq {p : κ × V} {r:List (κ × V)} {k : κ} (e:¬ p.1=k):valV (p :: r) k=valV r k:=by simp [valV,List.find?_cons,e]
theorem akl (k : κ):∀ kvs:List (κ × V),(kvs.any fun a=>decide (a.1=k))=(valV kvs k).isSome
 | []=>rfl
 | p :: r=>by
  rw [List.any_cons]
  by_cases e:p.1=k
  ·simp only [agp e,aC6 e,Bool.true_or,Option.isSome_some]
  ·rw [agq e,aC5 e,Bool.false_or];exact akl k r
theorem aeg (kvs:List (κ × V)) (k : κ) (v:V):(putK kvs k v).length<=kvs.length+1:=by
 unfold putK
 split
 ·rw [az3];omega
 ·rw [aA1,aD0,aH0];omega
theorem RelO.isSome_eq {o:Option V} {u:Option Value} (r:RelO o u):o.isSome=u.isSome:=by
 cases o with
 | none=>cases u with
  | none=>rfl
  | some _=>exact (show False from r).elim
 | some _=>cases u with
  | none=>exact (show False from r).elim
  | some _=>rfl
theorem RelO.getD {o:Option V} {u:Option Value} {d:V} {d':Value} (r:RelO o u) (a:RelV d d'):RelV (o.getD d) (u.getD d'):=by
 cases o with
 | none=>cases u with
  | none=>exact a
  | some _=>exact (show False from r).elim
 | some _=>cases u with
  | none=>exact (show False from r).elim
  | some _=>exact r
theorem KV.val {kvs:List (κ × V)} {vs:List (κ × Value)} (r:KV kvs vs) (k : κ):RelO (valV kvs k) (valueAt vs k):=by
 unfold KV at r
 induction r with
 | nil=>exact True.intro
 | @cons p q ps qs h t ih =>
  obtain ⟨c,d⟩:=h
  by_cases e:p.1=k
  ·have a:q.1=k:=c.symm.trans e
   have b:valueAt (q :: qs) k=some q.2:=by simp [valueAt,List.find?_cons,a]
   rw [agp e,b];exact d
  ·have a:¬ q.1=k:=fun z=>e (c.trans z)
   have b:valueAt (q :: qs) k=valueAt qs k:=by simp [valueAt,List.find?_cons,a]
   rw [agq e,b];exact ih
theorem KV.any {kvs:List (κ × V)} {vs:List (κ × Value)} (r:KV kvs vs) (k : κ):(kvs.any fun a=>decide (a.1=k))=vs.any fun a=>decide (a.1=k):=by
 unfold KV at r
 induction r with
 | nil=>rfl
 | cons h t ih=>rw [List.any_cons,List.any_cons,ih,h.1]
theorem KV.repl {kvs:List (κ × V)} {vs:List (κ × Value)} (r:KV kvs vs) (k : κ) {y:V} {u:Value} (d:RelV y u) :
  KV (kvs.map fun a=>if a.1=k then (a.1,y) else a) (vs.map fun a=>if a.1=k then (a.1,u) else a):=by
 unfold KV at r ⊢
 induction r with
 | nil=>exact .nil
 | @cons p q ps qs h t ih =>
  rw [aC1,aC1]
  refine .cons ?_ ih
  obtain ⟨b,c⟩:=h
  by_cases e:p.1=k
  ·rw [aD9 e,aD9 (b.symm.trans e)];exact ⟨b,d⟩
  ·rw [aE0 e,aE0 (fun z=>e (b.trans z))];exact ⟨b,c⟩
theorem KV.put {kvs:List (κ × V)} {vs:List (κ × Value)} (r:KV kvs vs) (k : κ) {y:V} {u:Value} (a:RelV y u):KV (putK kvs k y) (stored vs k u):=by
 unfold putK stored
 rw [r.any k]
 by_cases e:(vs.any fun b=>decide (b.1=k))=true
 ·rw [aD9 e,aD9 e];exact r.repl k a
 ·rw [aE0 e,aE0 e];exact Paired.snoc r ⟨rfl,a⟩
theorem KV.drop {kvs:List (κ × V)} {vs:List (κ × Value)} (r:KV kvs vs) (k : κ):KV (atk kvs k) (without vs k):=by
 unfold KV at r ⊢
 unfold atk without
 induction r with
 | nil=>exact .nil
 | @cons p q ps qs h t ih =>
  obtain ⟨c,d⟩:=h
  rw [List.filter_cons,List.filter_cons]
  by_cases e:p.1=k
  ·have a:¬ decide (p.1 ≠ k)=true:=by simp [e]
   have b:¬ decide (q.1 ≠ k)=true:=by simp [c.symm.trans e]
   rw [aE0 a,aE0 b];exact ih
  ·have f:¬ q.1=k:=fun z=>e (c.trans z)
   have a:decide (p.1 ≠ k)=true:=by simp [e]
   have b:decide (q.1 ≠ k)=true:=by simp [f]
   rw [aD9 a,aD9 b];exact .cons ⟨c,d⟩ ih
theorem KV.length {kvs:List (κ × V)} {vs:List (κ × Value)} (r:KV kvs vs):kvs.length=vs.length:=Paired.length r
end
theorem af2 {P:Program} {w:World} {k:Key} {u:Value} (r:RelV (kV k) u):(abc P w).is k u=true:=by
 cases k with
 | inl i=>obtain ⟨t,e⟩:=(show ∃ t,u=Value.int i t from r);subst e;exact al8 P w i t
 | inr x=>obtain ⟨t,e⟩:=(show ∃ t,u=Value.str x t from r);subst e;exact al9 P w x t
theorem ais {P:Program} {w:World}:∀ {a:List Key} {us:List Value},Vals (a.map kV) us->ItemsAre (abc P w) a us
 | [],_,r=>by rw [List.map_nil] at r;cases r;exact .nil
 | k :: a,_,r=>by
  rw [aC1] at r
  cases r with
  | cons h t=>exact .cons (af2 h) (ais t)
abbrev KT (H:Hp):List (List Key × V)->List (List Key × Addr × Value)->Prop:=Paired fun p q=>p.1=q.1/\H q.2.1=some (.tup (p.1.map kV))/\RelV p.2 q.2.2
theorem KT.val {H:Hp} {kvs:List (List Key × V)} {xs:List (List Key × Addr × Value)} (r:KT H kvs xs) (k:List Key):RelO (valV kvs k) ((atKey xs k).map (·.2)):=by
 induction r with
 | nil=>exact True.intro
 | @cons p q ps qs h t ih =>
  obtain ⟨c,_,d⟩:=h
  by_cases e:p.1=k
  ·have a:q.1=k:=c.symm.trans e
   have b:atKey (q :: qs) k=some q.2:=by simp [atKey,List.find?_cons,a]
   rw [agp e,b];exact d
  ·have a:¬ q.1=k:=fun z=>e (c.trans z)
   have b:atKey (q :: qs) k=atKey qs k:=by simp [atKey,List.find?_cons,a]
   rw [agq e,b];exact ih
theorem KT.repl {H:Hp} {kvs:List (List Key × V)} {xs:List (List Key × Addr × Value)} (r:KT H kvs xs) (k:List Key) {y:V} {u:Value} (f:RelV y u) :
  KT H (kvs.map fun b=>if b.1=k then (b.1,y) else b) (xs.map (putAt k u)):=by
 induction r with
 | nil=>exact .nil
 | @cons p q ps qs h t ih =>
  rw [aC1,aC1]
  refine .cons ?_ ih
  obtain ⟨a,c,d⟩:=h
  unfold putAt
  by_cases e:p.1=k
  ·rw [aD9 e,aD9 (a.symm.trans e)];exact ⟨a,c,f⟩
  ·rw [aE0 e,aE0 (fun z=>e (a.trans z))];exact ⟨a,c,d⟩
theorem KT.put {H:Hp} {kvs:List (List Key × V)} {xs:List (List Key × Addr × Value)} (r:KT H kvs xs) (k:List Key) {b:Addr} {y:V} {u:Value} (hb:H b=some (.tup (k.map kV))) (a:RelV y u) :
  KT H (putK kvs k y) (storedH xs k b u):=by
 have e:(kvs.any fun c=>decide (c.1=k))=(atKey xs k).isSome:=by
  rw [akl,(r.val k).isSome_eq,Option.isSome_map]
 unfold putK storedH
 rw [e]
 by_cases q:(atKey xs k).isSome=true
 ·rw [aD9 q,aD9 q];exact r.repl k a
 ·rw [aE0 q,aE0 q];exact Paired.snoc r ⟨rfl,hb,a⟩
theorem KT.keeps {H H':Hp} {kvs:List (List Key × V)} {xs:List (List Key × Addr × Value)} (r:KT H kvs xs) (a:∀ b ys,H b=some (.tup ys)->H' b=some (.tup ys)):KT H' kvs xs :=
 Paired.mapP r fun _ _ z=>⟨z.1,a _ _ z.2.1,z.2.2⟩
section
variable {P:Program} {w:World} {H:Hp} {h:Heap} {a:Addr}
theorem atl {u:HO} (ok:HOk P w H h) (e:Rd H a u):ObjOk P w H h a u:=e.ok ok
theorem af3 {kvs:List (Key × V)} (ok:HOk P w H h) (e:Rd H a (.dK kvs)):kvs.length<=sizeLine/\(a == sysModules)=false/\∃ vs,KV kvs vs/\h.DictOf (abc P w) a vs :=
 show ObjOk P w H h a (.dK kvs) from atl ok e
theorem atm {kvs:List (Key × V)} (ok:HOk P w H h) (e:H a=some (.dK kvs)):kvs.length<=sizeLine/\(a == sysModules)=false/\∃ vs,KV kvs vs/\h.DictOf (abc P w) a vs:=af3 ok (.inl e)
theorem afh {b:List Key} (ok:HOk P w H h) (e:H a=some (.tup (b.map kV))):(tupleKind (abc P w)).is h b a:=by
 obtain ⟨_,its,r,o,c,d,n,f⟩:=(show ObjOk P w H h a (.tup (b.map kV)) from ok a _ e)
 exact ⟨o,its.toArray,n,c,d,f,by simpa using ais r⟩
theorem af4 {kvs:List (List Key × V)} (ok:HOk P w H h) (e:Rd H a (.dT kvs)):kvs.length<=sizeLine/\(a == sysModules)=false /\
  ∃ xs,KT H kvs xs/\h.DictOfH (tupleKind (abc P w)) a xs:=by
 obtain ⟨z,y,xs,r,o,es,ep,g,c,i,d,f⟩:=(show ObjOk P w H h a (.dT kvs) from atl ok e)
 refine ⟨z,y,xs,r,o,es,ep,g,c,i,d,fun x b=>?_,f⟩
 have all:∀ {l:List (List Key × V)} {m:List (List Key × Addr × Value)},KT H l m->∀ x∈m,(tupleKind (abc P w)).is h x.1 x.2.1:=by
  intro l m q
  induction q with
  | nil=>intro x b;exact nomatch b
  | @cons p q ps qs hq t ih =>
   intro x b
   rcases az9.mp b with e | b
   ·subst e
    exact afh ok (by rw [← hq.1];exact hq.2.1)
   ·exact ih x b
 exact all r x b
theorem ayn {kvs:List (List Key × V)} (ok:HOk P w H h) (e:H a=some (.dT kvs)):kvs.length<=sizeLine/\(a == sysModules)=false /\
  ∃ xs,KT H kvs xs/\h.DictOfH (tupleKind (abc P w)) a xs:=af4 ok (.inl e)
end
def DGet (H:Hp) (a:Addr) (y:V) (r:Option V):Prop :=
 (∃ kvs k,Rd H a (.dK kvs)/\y=kV k/\r=valV kvs k)\/∃ kvs k b,Rd H a (.dT kvs)/\y=.ref b/\H b=some (.tup (k.map kV))/\r=valV kvs k
def DPut (H:Hp) (a:Addr) (y v:V) (H':Hp):Prop :=
 (∃ kvs k,H a=some (.dK kvs)/\y=kV k/\kvs.length < sizeLine/\H'=upd H a (.dK (putK kvs k v))) ∨
 ∃ kvs k b,H a=some (.dT kvs)/\y=.ref b/\H b=some (.tup (k.map kV))/\kvs.length < sizeLine/\H'=upd H a (.dT (putK kvs k v))
theorem DGet.k {H:Hp} {a:Addr} {kvs:List (Key × V)} {k:Key} (e:H a=some (.dK kvs)):DGet H a (kV k) (valV kvs k):=.inl ⟨kvs,k,.inl e,rfl,rfl⟩
theorem DGet.t {H:Hp} {a b:Addr} {kvs:List (List Key × V)} {k:List Key} (e:H a=some (.dT kvs)) (c:H b=some (.tup (k.map kV))):DGet H a (.ref b) (valV kvs k):=.inr ⟨kvs,k,b,.inl e,rfl,c,rfl⟩
theorem DPut.k {H:Hp} {a:Addr} {kvs:List (Key × V)} {k:Key} {v:V} (e:H a=some (.dK kvs)) (b:kvs.length < sizeLine):DPut H a (kV k) v (upd H a (.dK (putK kvs k v))):=.inl ⟨kvs,k,e,rfl,b,rfl⟩
theorem DPut.t {H:Hp} {a b:Addr} {kvs:List (List Key × V)} {k:List Key} {v:V} (e:H a=some (.dT kvs)) (c:H b=some (.tup (k.map kV))) (d:kvs.length < sizeLine) :
  DPut H a (.ref b) v (upd H a (.dT (putK kvs k v))):=.inr ⟨kvs,k,b,e,rfl,c,d,rfl⟩
section
variable {X:Cx} {pins:List (Addr × Obj)} {σ:St} {H:Hp} {s:Shared} {a:Addr} {y v:V} {u r:Value} {o:Option V} {A:Around} {E:Value->Shared->Prop}
theorem Inv.big (I:Inv X pins σ H s):sysModules < s.heap.objs.size:=by
 have h:mainGlobals < s.heap.objs.size:=(I.mod.glob.keeps I.bk).lt
 exact Nat.lt_trans (by decide) h
theorem apc {Q:Value->Shared->Prop} (C:A.units+1 < cLine) (I:Inv X pins σ H s) (g:DGet H a y (some v)) (q:RelV y u) (h:∀ f r,Inv X pins σ H r->RelV v f->Q f r) :
  wpAny (model X.prog X.w) A (getItem (.ref a) u) Q E s:=by
 rcases g with ⟨kvs,k,e,j,l⟩ | ⟨kvs,k,b,e,j,x,l⟩
 ·subst j
  obtain ⟨z,hd,vs,c,n⟩:=af3 I.hok e
  obtain ⟨f,i,d⟩:=RelO.some_of (v:=v) (o:=valueAt vs k) (by rw [l];exact c.val k)
  exact wpAny_getItem_of (af2 q) n.mapOf i (h f _ (I.tok _) d)
 ·subst j
  cases (show u=Value.ref b from q)
  obtain ⟨z,hd,xs,c,n⟩:=af4 I.hok e
  obtain ⟨f,i,d⟩:=RelO.some_of (v:=v) (o:=(atKey xs k).map (·.2)) (by rw [l];exact c.val k)
  obtain ⟨p,B,m⟩:=Option.map_eq_some_iff.mp i
  refine wpAny_getItem_heap (tupleKind_room_in1 C) (afh I.hok x) n B ?_
  rw [m]
  exact h f _ (I.tok _) d
theorem at6 {Q:Value->Shared->Prop} (n:A.units+1 < cLine) (I:Inv X pins σ H s) (g:DGet H a y o) (i:RelV y u) (h:∀ j,Inv X pins σ H j->Q (.bool (!o.isSome)) j) :
  wpAny (model X.prog X.w) A (compareOp .NotIn u (.ref a)) Q E s:=by
 rcases g with ⟨kvs,k,e,d,l⟩ | ⟨kvs,k,b,e,d,m,l⟩
 ·subst d
  obtain ⟨z,hd,vs,c,f⟩:=af3 I.hok e
  refine wpAny_notIn_of (af2 i) hd f.mapOf ?_
  rw [← (c.val k).isSome_eq,← l]
  exact h _ (I.tok _)
 ·subst d
  cases (show u=Value.ref b from i)
  obtain ⟨z,hd,xs,c,f⟩:=af4 I.hok e
  refine wpAny_notIn_heap (tupleKind_room_in1 n) (afh I.hok m) hd f ?_
  have q:=(c.val k).isSome_eq
  rw [Option.isSome_map] at q
  rw [← q,← l]
  exact h _ (I.tok _)
theorem ahx {h':Heap} {t':Nat} {c:HO} (I:Inv X pins σ H s) (d:Mut (H a)) (hs:Heap.SameBut a s.heap h') (f:∃ q,h'.get? a=some q) (new:ObjOk X.prog X.w (upd H a c) h' a c) :
  Inv X pins σ (upd H a c) { s with heap:=h',toks:=t' } :=
 I.write (x:=a) (e:=a) d (.inl rfl) (fun b q hb z=>(hs.2 b hb).trans z) f new
theorem apd {P:Program} {w:World} {H':Hp} {h':Heap} {kvs:List (Key × V)} {vs:List (Key × Value)} (z:kvs.length<=sizeLine) (hd:(a == sysModules)=false) (b:KV kvs vs) (c:h'.DictOf (abc P w) a vs) :
  ObjOk P w H' h' a (.dK kvs):=⟨z,hd,vs,b,c⟩
theorem ape {H':Hp} {Q:Unit->Shared->Prop} (M:A.units+1 < cLine) (I:Inv X pins σ H s) (g:DPut H a y v H') (x:RelV y u) (C:RelV v r) (h:∀ D,Inv X pins σ H' D->Q () D) :
  wpAny (model X.prog X.w) A (setItem (.ref a) u r) Q E s:=by
 rcases g with ⟨kvs,k,e,j,l,m⟩ | ⟨kvs,k,b,e,j,p,l,m⟩
 ·subst j m
  obtain ⟨z,hd,vs,d,n⟩:=atm I.hok e
  have hz:vs.length<=sizeLine:=by rw [← d.length];exact z
  have o:(putK kvs k v).length<=sizeLine:=by have:=aeg kvs k v;omega
  refine wpAny_setItem_pairs (hsz:=hz) (af2 x) n fun h' f hs=>h _ ?_
  have F:∃ q,h'.get? a=some q:=let ⟨q,_,_,i,_⟩:=f;⟨q,i⟩
  exact ahx I (by rw [e];exact True.intro) hs F (apd o hd (d.put k C) f)
 ·subst j m
  cases (show u=Value.ref b from x)
  obtain ⟨z,hd,xs,d,n⟩:=ayn I.hok e
  have hz:xs.length<=sizeLine:=by rw [← Paired.length d];exact z
  have o:(putK kvs k v).length<=sizeLine:=by have:=aeg kvs k v;omega
  refine wpAny_setItem_heap (hsz:=hz) (tupleKind_room_in1 M) (afh I.hok p) n fun h' f hs=>h _ ?_
  obtain ⟨q,es,ep,i,G,L,J,_,K⟩:=f
  refine ahx I (by rw [e];exact True.intro) hs ⟨q,i⟩ ⟨o,hd,_,(d.put k p C).keeps fun c ys B=>?_,q,es,ep,i,G,L,J,K⟩
  rw [aag (ayl B e (fun z=>nomatch z))]
  exact B
end
section
variable {X:Cx} {pins:List (Addr × Obj)} {σ:St} {H:Hp} {s:Shared} {a:Addr} {kvs:List (Key × V)} {k:Key} {u:Value} {A:Around} {E:Value->Shared->Prop}
end
def NoSl (i:Expr):Prop:=∀ ov iv,subscripted i false ov iv=operate [ov,iv] (getItem ov iv)
theorem at7 {prog:Program} {w:World} {A:Around} {E:Value->Shared->Prop} {s:Shared} {env:Env} {b a:Expr} {pos:Pos} {T id:String} {Q:Value->Shared->Prop}
  (n:typeLookup (.type T) "__getitem__" = pure (some (.builtin id))) (hs:NoSl a)
  (h:wpAny (model prog w) A (eval b env) (fun o g=>wpAny (model prog w) A (eval a env) (fun i c=>c.TypeIs o T/\wpAny (model prog w) A (getItem o i) Q E c) E g) E s) :
  wpAny (model prog w) A (eval (.Subscript b a pos) env) Q E s:=by
 refine Subscript_ (aI0 h (fun o g l=>aI0 l (fun i c d=>?_) fun _ _ x=>x) fun _ _ x=>x)
 obtain ⟨m,d⟩:=d
 unfold subscriptTail
 refine aH1 ?_
 rw [getitemInPython_of_ne m.not_modules]
 refine aH1 (wpAny_specialOf m n ?_)
 have fin:wpAny (model prog w) A (subscripted a false o i) (fun r f=>wpAny (model prog w) A (letTemporaryGo b o r >>= fun _=>pure r) Q E f) E c:=by
  rw [hs o i]
  exact wpAny_operating (aI0 d (fun r f j=>aH1 (wpAny_letTemporaryGo (aH2 j))) fun _ _ x=>x)
 first
  | exact aH2 (aH1 fin)
  | exact aH1 (aH2 (aH1 fin))
  | exact aH1 fin
theorem amb {X:Cx} {pins:List (Addr × Obj)} {σ:St} {H:Hp} {s:Shared} {a:Addr} {y:V} {o:Option V} (I:Inv X pins σ H s) (g:DGet H a y o):s.TypeIs (.ref a) "dict":=by
 rcases g with ⟨kvs,k,e,_,_⟩ | ⟨kvs,k,b,e,_,_,_⟩
 ·obtain ⟨_,_,vs,_,c⟩:=af3 I.hok e
  exact c.typeIs
 ·obtain ⟨_,_,xs,_,c⟩:=af4 I.hok e
  exact c.typeIs
def an3 (td ty:TE):TE:=fun σ H Q=>td σ H fun x H1=>ty σ H1 fun y H2=>∃ a v,x=.ref a/\DGet H2 a y (some v)/\Q v H2
def af5 (ty td:TE):TE:=fun σ H Q=>ty σ H fun y H1=>td σ H1 fun x H2=>∃ a o,x=.ref a/\DGet H2 a y o/\Q (.bl (!o.isSome)) H2
def ag7 (td ty tv:TE):TS:=fun D σ H=>tv σ H fun v H1=>td σ H1 fun x H2=>ty σ H2 fun y H3=>∃ a H4,x=.ref a/\DPut H3 a y v H4/\D.nx σ H4
section
variable {X:Cx} {o i e value:Expr} {pos pos' tpos:Pos} {td ty tv:TE}
theorem at8 (q:X.A.units+1 < cLine) (n:PE X o td) (hi:PE X i ty) (hs:NoSl i):PE X (.Subscript o i pos) (an3 td ty):=by
 intro pins s σ H Q I h
 refine at7 PySem.F.slot_dict_getitem.lookup hs (thn (n pins s σ H _ I h) fun u s1 ⟨x,j,l,r,d⟩=>thn (hi pins s1 σ j _ l d) fun B s2 ⟨y,H2,c,f,a,v,ex,g,m⟩=>?_)
 subst ex
 obtain rfl:u=Value.ref a:=r
 exact ⟨amb c g,apc q c g f fun z w p b=>⟨v,H2,p,b,m⟩⟩
theorem apf (q:X.A.units+1 < cLine) (hi:PE X i ty) (l:PE X o td):PC X .NotIn i o (af5 ty td):=by
 intro pins s σ H Q I h
 refine thn (hi pins s σ H _ I h) fun w s1 ⟨y,d,f,c,b⟩=>thn (l pins s1 σ d _ f b) fun u s2 ⟨x,H2,n,r,a,m,ex,g,j⟩=>?_
 subst ex
 obtain rfl:u=Value.ref a:=r
 exact at6 q n g c fun v p=>⟨.bl (!m.isSome),H2,p,rfl,j⟩
theorem aen (C:X.A.units+1 < cLine) (q:PE X o td) (hi:PE X i ty) (c:PE X value tv) (hs:swapsWith value (some (.Subscript o i pos')) pos.line X.env=pure false) :
  PS X (.Assign [.Subscript o i pos'] value pos) (ag7 td ty tv):=by
 intro pins s σ H D I h
 refine wpAny_Assign_Subscript (thn (c pins s σ H _ I h) fun r s1 ⟨v,l,m,w,b⟩=>thn (q pins s1 σ l _ m b) fun u s2 ⟨x,H2,z,E,n⟩=>thn (hi pins s2 σ H2 _ z n) fun J F ⟨y,H3,B,j,a,p,ex,g,d⟩=>?_) hs
 subst ex
 obtain rfl:u=Value.ref a:=E
 exact ape C B g j w fun G f=>⟨σ,p,f,d⟩
end
theorem aq7 {P:Program} {w:World} {H:Hp} (h:Heap) (hb:sysModules < h.objs.size):ObjOk P w H (h.push { cls:=.type "dict",data:=.dict #[] }) h.objs.size (.dK []) :=
 ⟨aE4 _,beq_eq_false_iff_ne.mpr (Ne.symm (aA6 hb)),[],.nil,Heap.DictOf.new h⟩
theorem aq8 {P:Program} {w:World} {H:Hp} (h:Heap) (hb:sysModules < h.objs.size):ObjOk P w H (h.push { cls:=.type "dict",data:=.dict #[] }) h.objs.size (.dT []) :=
 ⟨aE4 _,beq_eq_false_iff_ne.mpr (Ne.symm (aA6 hb)),[],.nil,_,#[],0,aH5 _ rfl,⟨rfl,rfl,rfl⟩,rfl,rfl,List.nodup_nil⟩
def apg:TE:=fun _ H Q=>∀ p,H p=none->Q (.ref p) (upd H p (.dT []))
section
variable {X:Cx} {pos:Pos}
theorem aq9:PE X (.Dict [] [] pos) apg:=fun pins s σ H Q I h =>
 wpAny_Dict_empty ⟨.ref s.heap.objs.size,_,I.laid (a:=s.heap.objs.size) (o:=.dT []) (t':=s.toks) (fun _ _ q=>aH3 _ q) (az6 _) (aq8 s.heap I.big),rfl,h _ (I.hok.fresh (az6 _))⟩
end
def akm:List (TE × TE)->St->Hp->(List (V × V)->Hp->Prop)->Prop
 | [],_,H,Q=>Q [] H
 | (tk,tv) :: r,σ,H,Q=>tk σ H fun x H1=>tv σ H1 fun y H2=>akm r σ H2 fun ps H3=>Q ((x,y) :: ps) H3
abbrev VV:List (V × V)->List (Value × Value)->Prop:=Paired fun p q=>RelV p.1 q.1/\RelV p.2 q.2
def PPs (X:Cx) (pos:Pos) (keys:List (Option Expr)) (values:List Expr) (trs:List (TE × TE)):Prop :=
 ∀ (pins:List (Addr × Obj)) (s:Shared) (σ:St) (H:Hp) (Q:List (V × V)->Hp->Prop),Inv X pins σ H s->akm trs σ H Q ->
  wpAny (model X.prog X.w) X.A (evalPairs (pairTrees keys values X.env pos)) (fun vs s'=>∃ ps H',Inv X pins σ H' s'/\VV ps vs/\Q ps H') X.xe s
theorem at9 {X:Cx} {pos:Pos}:PPs X pos [] [] []:=fun pins s σ H Q I h=>pairTrees_nil_walk ⟨[],H,I,.nil,h⟩
theorem ara {X:Cx} {pos:Pos} {k v:Expr} {c:List (Option Expr)} {vs:List Expr} {d f:TE} {a:List (TE × TE)} (j:PE X k d) (i:PE X v f) (q:PPs X pos c vs a) :
  PPs X pos (some k :: c) (v :: vs) ((d,f) :: a):=fun pins s σ H Q I h =>
 pairTrees_cons_walk (thn (j pins s σ H _ I h) fun u s1 ⟨x,n,o,z,g⟩=>thn (i pins s1 σ n _ o g) fun B s2 ⟨y,H2,r,m,p⟩ =>
  thn (q pins s2 σ H2 _ r p) fun C A ⟨ps,H3,w,b,l⟩=>⟨(x,y) :: ps,H3,w,.cons ⟨z,m⟩ b,l⟩)
def aeo (kvs more:List (Key × V)):List (Key × V):=more.foldl (fun acc kv=>putK acc kv.1 kv.2) kvs
theorem KV.merge:∀ {more:List (Key × V)} {rs:List (Key × Value)} {kvs:List (Key × V)} {vs:List (Key × Value)},KV more rs->KV kvs vs->KV (aeo kvs more) (merged vs rs):=by
 intro more rs kvs vs r
 unfold KV at r
 induction r generalizing kvs vs with
 | nil=>intro q;exact q
 | @cons p q ps qs h t ih =>
  intro r0
  have e:KV (putK kvs p.1 p.2) (stored vs q.1 q.2):=by
   have:=r0.put p.1 h.2
   rw [← h.1];exact this
  exact ih e
theorem afb:∀ (more kvs:List (Key × V)),(aeo kvs more).length<=kvs.length+more.length
 | [],kvs=>by show kvs.length<=kvs.length+0;omega
 | p :: r,kvs=>by
  have a:=afb r (putK kvs p.1 p.2)
  have b:=aeg kvs p.1 p.2
  show (aeo (putK kvs p.1 p.2) r).length<=_
  rw [aD0];omega
theorem ag8 {P:Program} {w:World}:∀ {kvs:List (Key × V)} {f:List (Value × Value)},VV (kvs.map fun d=>(kV d.1,d.2)) f->∃ rs,Carries (abc P w) f rs/\KV kvs rs
 | [],_,r=>by rw [List.map_nil] at r;cases r;exact ⟨[],True.intro,.nil⟩
 | p :: kvs,_,r=>by
  rw [aC1] at r
  cases r with
  | @cons a b as bs h t =>
   obtain ⟨rs,c,q⟩:=ag8 (P:=P) (w:=w) t
   obtain ⟨i,g⟩:=b
   exact ⟨(p.1,g) :: rs,⟨af2 h.1,rfl,c⟩,.cons ⟨rfl,h.2⟩ q⟩
def atn (trs:List (TE × TE)):TE:=fun σ H Q=>∀ p,H p=none->akm trs σ (upd H p (.dK [])) fun ps H2=>H2 p=some (.dK [])/\∃ kvs:List (Key × V),ps=kvs.map (fun kv=>(kV kv.1,kv.2))/\kvs.length<=15/\Q (.ref p) (upd H2 p (.dK (aeo [] kvs)))
theorem aua {X:Cx} {pos:Pos} {keys:List (Option Expr)} {b:List Expr} {f:List (TE × TE)} (h:PPs X pos keys b f) (g:keys.all (·.isSome)=true) (B:keys.length=b.length) (n:keys ≠ [])
  (j:keys.length<=15):PE X (.Dict keys b pos) (atn f):=by
 intro pins s σ H Q I q
 have hn:=I.hok.fresh (az6 s.heap.objs.size)
 have r:=I.laid (a:=s.heap.objs.size) (o:=.dK []) (h':=s.heap.push { cls:=.type "dict",data:=.dict #[] }) (t':=s.toks) (fun _ _ q=>aH3 _ q) (az6 _) (aq7 s.heap I.big)
 refine wpAny_Dict_walk (knd:=abc X.prog X.w) g B n j (thn (h pins _ σ _ _ r (q _ hn)) fun D s2 ⟨ps,H2,l,i,e,kvs,ep,C,u⟩=>?_)
 subst ep
 obtain ⟨rs,c,p⟩:=ag8 (P:=X.prog) (w:=X.w) i
 obtain ⟨z,hd,A,r0,y⟩:=atm l.hok e
 cases r0
 refine ⟨rs,c,y,fun h' d hs=>⟨.ref s.heap.objs.size,_,?_,rfl,u⟩⟩
 have hz:(aeo [] kvs).length<=sizeLine:=by
  have x:=afb kvs []
  rw [aH0] at x
  rw [sizeLine_eq];omega
 have m:∃ q,h'.get? s.heap.objs.size=some q:=let ⟨q,_,_,v,_⟩:=d;⟨q,v⟩
 exact ahx l (by rw [e];exact True.intro) hs m (apd hz hd (p.merge .nil) d)
structure M1 (X:Cx) (o:Expr) (m:Str) (apos:Pos) (e:Expr) (cpos:Pos):Prop where
 base:attributeBase o m X.env (eval o X.env)=eval o X.env
 few:((backTo cpos (starEach [e] X.env)).all (fun x => !x.1) && (backToKw cpos (keywordEach [] X.env)).all (fun x=>x.1.isSome)
  && decide (([e]:List Expr).length+([]:List Keyword).length+(if ([]:List Keyword).isEmpty then 0 else 1) < 30))=true
 line:(apos.endLine == cpos.line)=true
 trees:backTo cpos (starEach [e] X.env)=[(false,eval e X.env)]
def IsD (H:Hp) (a:Addr):Prop:=(∃ kvs,Rd H a (.dK kvs))\/∃ kvs,Rd H a (.dT kvs)
theorem awt {X:Cx} {pins:List (Addr × Obj)} {σ:St} {H:Hp} {s:Shared} {a:Addr} (I:Inv X pins σ H s) (d:IsD H a) :
  s.TypeIs (.ref a) "dict"/\(∀ b,Value.ref a=.ref b->∃ c,s.heap.get? b=some c/\c.dict=none)/\(a == sysModules)=false:=by
 rcases d with ⟨kvs,e⟩ | ⟨kvs,e⟩
 ·obtain ⟨_,hd,vs,_,f⟩:=af3 I.hok e
  refine ⟨f.typeIs,fun b q=>?_,hd⟩
  cases q
  obtain ⟨c,_,_,h,g,_⟩:=f
  exact ⟨c,h,g.2.1⟩
 ·obtain ⟨_,hd,xs,_,f⟩:=af4 I.hok e
  refine ⟨f.typeIs,fun b q=>?_,hd⟩
  cases q
  obtain ⟨c,_,_,h,g,_⟩:=f
  exact ⟨c,h,g.2.1⟩
section
variable {X:Cx} {pins:List (Addr × Obj)} {σ:St} {H:Hp} {s:Shared} {a:Addr} {y d:V} {u r:Value} {o:Option V} {A:Around} {E:Value->Shared->Prop}
theorem awu {Q:Value->Shared->Prop} (p:A.units+1 < cLine) (I:Inv X pins σ H s) (g:DGet H a y o) (j:RelV y u) (h:∀ i m,Inv X pins σ H m->RelV (o.getD .non) i->Q i m) :
  wpAny (model X.prog X.w) A (call (.builtin "dict.get") [.ref a,u]) Q E s:=by
 rcases g with ⟨kvs,k,e,f,l⟩ | ⟨kvs,k,b,e,f,n,l⟩
 ·subst f
  obtain ⟨z,hd,vs,c,d⟩:=af3 I.hok e
  refine call_meetsIn PySem.F.slot_dict_get d.typeIs PySem.F.entry_dict_get (PySem.F.args_dict_get_2 _ _) (meets_dict_get (abc X.prog X.w) a (af2 j) hd) ⟨_,d.mapOf,h _ _ (I.tok _) ?_⟩
  rw [l]
  exact (c.val k).getD rfl
 ·subst f
  cases (show u=Value.ref b from j)
  obtain ⟨z,hd,xs,c,d⟩:=af4 I.hok e
  refine call_meetsIn PySem.F.slot_dict_get d.typeIs PySem.F.entry_dict_get (PySem.F.args_dict_get_2 _ _) (meetsH_dict_get (tupleKind (abc X.prog X.w)) a b hd) ⟨tupleKind_room_in1 p,k,xs,afh I.hok n,d,h _ _ (I.tok _) ?_⟩
  rw [l]
  exact (c.val k).getD rfl
end
def akn (td ty:TE):TE:=fun σ H Q=>td σ H fun x H1=>∃ a,x=.ref a/\IsD H1 a/\ty σ H1 fun y H2=>∃ o,DGet H2 a y o/\Q (o.getD .non) H2
section
variable {X:Cx} {o e f:Expr} {apos cpos:Pos} {td ty tx:TE}
theorem arb (w:X.A.units+1 < cLine) (q:PE X o td) (i:PE X e ty) (m:M1 X o "get" apos e cpos):PE X (.Call (.Attribute o "get" apos) [e] [] cpos) (akn td ty):=by
 intro pins s σ H Q I h
 refine wpAny_Call_method m.base m.few m.line PySem.F.plainAttrs_dict PySem.F.slot_dict_get PySem.F.type_dict_get (thn (q pins s σ H _ I h) fun u s1 ⟨x,n,c,z,a,ex,d,f⟩=>?_)
 subst ex
 obtain rfl:u=Value.ref a:=z
 obtain ⟨t1,j,_⟩:=awt c d
 refine ⟨t1,j,?_⟩
 rw [m.trees]
 refine Calls.callWith_builtin rfl (Calls.evalArgs_plain (Calls.spliced_cons (thn (i pins s1 σ n _ c f) fun E s2 ⟨y,H2,r,l,D,g,p⟩=>Calls.spliced_nil ?_)))
 exact awu w r g l fun C B v b=>⟨_,H2,v,b,p⟩
end
section
variable {X:Cx} {pins:List (Addr × Obj)} {σ:St} {H:Hp} {s:Shared} {a:Addr} {kvs:List (Key × V)} {A:Around} {E:Value->Shared->Prop}
end
section
variable {X:Cx} {pins:List (Addr × Obj)} {σ:St} {H:Hp} {s:Shared} {a:Addr} {y:V} {u:Value} {A:Around} {E:Value->Shared->Prop}
end
end L2
namespace Att
open PySem PySem.W PySem.Calls PyProof.Rows
theorem ag9 {P:Params} {h:Heap}:∀ (ns:List Int) (vs:List Value),WellAll P h vs (ns.map WData.int)->IntsAre vs ns:=by
 intro ns
 induction ns with
 | nil =>
  intro vs w
  rw [List.map_nil] at w
  cases w
  exact .nil
 | cons n ns ih =>
  intro vs w
  rw [aC1] at w
  cases w with
  | cons a b =>
   cases a
   exact .cons _ _ (ih _ b)
theorem aph {l:OpenLaw} {n:Nat} (hn:l.most=some n) {P:Params} {h:Heap} {args:List WData} {b:List Value}
  (c:l.row.toRowW.claim.pre args=true) (j:WellAll P h b args) :
  ∃ a vs ns,b=[Value.ref a]/\args=[WData.list (ns.map WData.int)]/\h.get? a=some { cls:=.type "list",data:=.seq vs.toArray }/\IntsAre vs ns/\ns.length<=n:=by
 have m:WShape.hasAll [] args [.list .int]=true:=(pre_splitW c).1
 have o:l.pre.holds [] { args:=args }=true:=(pre_splitW c).2
 obtain ⟨d,r,rfl,s,p⟩:=hasAllW_cons m
 obtain rfl:=hasAllW_nil p
 obtain ⟨xs,rfl,v⟩:=hasW_list s
 obtain ⟨ns,rfl⟩:=items_int v
 have f:ns.length<=n:=by
  unfold OpenLaw.pre at o
  have g:(WTm.not (.lt (.lit (.int (n:Int))) (.len (.arg 0)))).holds [] { args:=[.list (ns.map .int)] }=true:=by
   have g:=(holds_andW o).1
   rw [hn] at g
   exact g
  have i:=condW_of g (w_not (w_lt w_lit (w_len_list (w_arg rfl))))
  rw [az3] at i
  refine Nat.le_of_not_lt fun q=>?_
  have u:(n:Int) < ((ns.length:Nat):Int):=by omega
  first
   | (rw [aC6 u] at i;exact absurd i (by decide))
   | (simp at i;omega)
 cases j with
 | cons w1 w2 =>
  cases w2
  cases w1 with
  | list ho hall=>exact ⟨_,_,ns,rfl,rfl,ho,ag9 ns _ hall,f⟩
theorem api (l:OpenLaw) (args:List WData):l.row.toRowW.claim.post args (.bool true) args=true :=
 postW_of (r:=l.row.toRowW) (X:=(true == true))
  (show WShape.has [] (.bool true) .bool=true by first | rfl | decide | simp [WShape.has,WShape.arms,WShape.armsAll])
  (show (WTm.eq .res (.lit (.bool true))).value [] { args:=args,res:=some (.bool true),after:=args }=some (.bool (true == true)) from w_eq_bool (w_res rfl) w_lit) rfl
theorem attach_call {l:OpenLaw} {n:Nat} {q:Program} {c:List Str} {C:(Str->Option Value)->Heap->Prop} {z:World->Heap->Prop} {d:DefRec}
  (hn:l.most=some n) (x:d.params.defaults=[])
  (call:∀ (w:World) (s₀ b:Shared) (mg mb:Str->Option Value) (fa:Addr) (o:Obj) (pm m doc:Value) (a:Addr) (vs:List Value) (ns:List Int),
   Ground q c [] C w s₀ mg mb b.heap->z w b.heap ->
   b.heap.get? fa=some o->o.data=.func (docDef d.name d.params d.body d.scope pm m doc)->b.heap.CodeRec m d.name->mg d.name=some (.ref fa) ->
   b.heap.get? a=some { cls:=.type "list",data:=.seq vs.toArray }->IntsAre vs ns->ns.length<=n->b.gens = #[] ->
   codeAny (model l.prog w) callerA (.call (.ref fa) ⟨[.ref a],[]⟩) (fun r p=>r=.ok (.ret (.bool true))/\OldK b.heap p.heap/\p.os=b.os/\AllBare p.gens) b) :
  WalkO q c C z l.row.toRowW d [] (fun f vs=>PySem.call f vs):=by
 intro w s₀ b mg mb G Y fa o pm m doc M kV K hd v B u F args A as j y D s H
 obtain rfl:M=.none:=Dflts.none B x
 obtain rfl:kV=.none:=Dflts.noKw B
 obtain ⟨a,vs,ns,rfl,rfl,i,g,h⟩:=aph hn j s
 refine enter_call (aH6 (call w s₀ b mg mb fa o pm m doc a vs ns G Y K (fd_plain hd) v u i g h F) fun r p J=>?_)
 obtain ⟨rfl,E,L,I⟩:=J
 exact ⟨.inl ⟨.bool true,.bool true,[],rfl,fun _=>rfl,.bool true,api l _,fun _=>⟨List.Pairwise.nil,fun _ hm=>(nomatch hm)⟩⟩,E,L,I⟩
section
variable {prog:Program} {w:World} {A:Around} {E:Value->Shared->Prop} {s:Shared} {K:Frag}
end
end Att
namespace L2
open PySem PySem.Spec PyProof.Rows
theorem ad6:∀ {vs:List Value} {ns:List Int},IntsAre vs ns->Vals (ns.map V.int) vs
 | _,_,.nil => .nil
 | _,_,.cons n t h => .cons ⟨t,rfl⟩ (ad6 h)
def Only (H:Hp):Prop:=∀ b,H b=none\/∃ o xs,H b=some (.frz o (.lst xs))
theorem arc {P:Program} {w:World} {K:Frag} {mg mb:Str->Option Value} {CX:CXT} {k:Nat} {fa a:Addr} {fd:FuncData} {x:Str} {sp:Sp} {c:Shared} {vs:List Value} {ns:List Int}
  (Q:K.In c.heap) (C:c.heap.Ns mainGlobals mg) (hb:c.heap.Ns builtinsNs mb) (L:∀ x:Str,x ≠ "__name__"->mb x=bootBuiltins x) (B:c.heap.NoLimit) (hg:c.gens = #[])
  (ha:c.heap.get? a=some { cls:=.type "list",data:=.seq vs.toArray }) (hi:IntsAre vs ns) (N:ns.length<=sizeLine) (Z:Room k callerA)
  (F:∀ base:Heap,K.In base->base.Ns mainGlobals mg->FnOk P w K mg base CX k fa fd [x] sp) (l:∀ (s:Shared) (u:Value),BindsTo s fd ⟨[u],[]⟩ [(x,u)])
  (G:∀ H:Hp,Only H->SqL K H a (ns.map V.int)->sp [.ref a] H (fun v _=>v=.bl true) fun _ _ _=>False)
  (I:∀ H e g,CX [] H c (fun _ _ _=>False) e g->False) :
  codeAny (model P w) callerA (.call (.ref fa) ⟨[.ref a],[]⟩) (fun r g=>r=.ok (.ret (.bool true))/\OldK c.heap g.heap/\g.os=c.os/\AllBare g.gens) c:=by
 have R:=ad6 hi
 have p:=hi.length
 -- from an abstract heap in which nothing but the script may be tracked
 have j:∀ H:Hp,Only H->SqL K H a (ns.map V.int)->HOk P w H c.heap->(∀ b,H b ≠ none->b=a)->(H a ≠ none->K.lookup a=none) ->
   codeAny (model P w) callerA (.call (.ref fa) ⟨[.ref a],[]⟩) (fun r g=>r=.ok (.ret (.bool true))/\OldK c.heap g.heap/\g.os=c.os/\AllBare g.gens) c:=by
  intro H S U hok M T
  have f:∀ {b:Addr} {o:Obj},c.heap.get? b=some o->H b=none->(hidT c.heap H).get? b=some o:=fun e n=>aq3 e n
  have J:∀ {b:Addr} {o:Obj} {es:Array DictEntry} {ep:Nat},c.heap.get? b=some o->o.data=.dict es ep->H b=none:=fun {b o es ep} e d=>by
   cases q:H b with
   | none=>rfl
   | some u =>
    have E:b=a:=M b (by rw [q];simp)
    subst E
    rw [ha] at e;cases e
    have d':Data.seq vs.toArray _=Data.dict es ep:=d
    cases d'
  have i:∀ {b:Addr} {m:Str->Option Value},c.heap.Ns b m->(hidT c.heap H).Ns b m:=fun {b m} ⟨o,es,ep,e,d,r⟩=>⟨o,es,ep,f e (J e d),d,r⟩
  have y:K.In (hidT c.heap H):=fun b o e=>f (Q b o e) (by
   cases q:H b with
   | none=>rfl
   | some u =>
    have E:b=a:=M b (by rw [q];simp)
    subst E
    rw [T (by rw [q];simp)] at e;cases e)
  have hM:Mod K mg (hidT c.heap H):=⟨y,i C,⟨mb,i hb,L⟩,let ⟨W,h1,h2⟩:=B;⟨W,i h1,h2⟩⟩
  have e0:Env0 P w K mg (hidT c.heap H) callerA [] c H:=⟨rfl,hM,fun b o e=>atv e,Nat.le_of_eq (aoz _ _),trivial,fun b hb=>absurd (show b∈([]:List Addr) from hb) (by simp),hok,.of_eq hg⟩
  refine aH6 ((F _ y (i C)).run callerA [] c H ⟨[.ref a],[]⟩ [.ref a] [.ref a] _ _ Z e0 (l c (.ref a)) (.cons rfl .nil) (G H S U)) fun r g h=>?_
  cases r with
  | error e=>exact (I H e g h).elim
  | ok fl =>
   cases fl with
   | next=>exact False.elim h
   | brk=>exact False.elim h
   | cont=>exact False.elim h
   | ret u =>
    obtain ⟨v,H',os,bare,un,D,r',q⟩:=h
    have q':v=.bl true:=q
    subst q'
    obtain rfl:u=Value.bool true:=r'
    refine ⟨rfl,OldK.of_keep fun b o e=>?_,os,bare⟩
    cases q:H b with
    | none=>exact un.keep b o e q (by intro z;exact absurd (show b∈([]:List Addr) from z) (by simp)) (by simp)
    | some u =>
     rcases S b with z | ⟨X,xs,z⟩
     ·rw [q] at z;cases z
     ·have Y:=un.frzs b X _ z
      obtain ⟨O,_⟩:=hok b _ z
      obtain ⟨e2,_⟩:=D b _ Y
      rw [e] at O;cases O
      exact e2
 cases hk:K.lookup a with
 | some o =>
  -- the script is one of the module's own objects
  have e:=Q a o hk
  rw [ha] at e
  cases e
  refine j (fun _=>none) (fun _ => .inl rfl) (.inr ⟨_,vs.toArray,_,hk,rfl,rfl,rfl,by rw [aA2,p];exact N,by simpa using R⟩) (fun b u z=>by have A:(none:Option HO)=some u:=z;cases A) (fun b z=>absurd rfl z) fun z=>absurd rfl z
 | none =>
  refine j (fun b=>if b=a then some (.frz { cls:=.type "list",data:=.seq vs.toArray } (.lst (ns.map V.int))) else none) (fun b=>?_) (.inl (.inr ⟨{ cls:=.type "list",data:=.seq vs.toArray },aD9 rfl⟩)) (fun b u z=>?_) (fun b z=>?_) fun _=>hk
  ·by_cases hb:b=a
   ·exact .inr ⟨_,_,aD9 hb⟩
   ·exact .inl (aE0 hb)
  ·by_cases hb:b=a
   ·have A:=(aD9 hb).symm.trans z
    cases A
    subst hb
    exact ⟨ha,by rw [az3];exact N,vs,_,R,ha⟩
   ·have A:=(aE0 hb).symm.trans z
    cases A
  ·by_cases hb:b=a
   ·exact hb
   ·exact absurd (aE0 hb) z
abbrev KOf {K:Frag} {h:Heap} (_:K.In h):Frag:=K
theorem walk_of {l:PySem.W.OpenLaw} {n k:Nat} {q:Program} {i:List Str} {O:(Str->Option Value)->Heap->Prop} {E:World->Heap->Prop} {d:DefRec} {K:Params->Frag} {CX:World->CXT} {sp:World->Sp} {x:Str}
  (hn:l.most=some n) (A:n<=sizeLine) (z:d.params.defaults=[]) (N:Room k callerA)
  (P:∀ (w:World) (h:Heap),E w h->(K w.params).In h)
  (F:∀ (w:World) (mg:Str->Option Value) (fa:Addr) (h:Heap),(K w.params).In h->h.Ns mainGlobals mg->mg d.name=some (.ref fa) ->
   ∃ fd:FuncData,(∀ (s:Shared) (u:Value),BindsTo s fd ⟨[u],[]⟩ [(x,u)]) /\
    ∀ base:Heap,(K w.params).In base->base.Ns mainGlobals mg->FnOk l.prog w (K w.params) mg base (CX w) k fa fd [x] (sp w))
  (r:∀ (w:World) (H:Hp) (a:Addr) (ns:List Int),ns.length<=n->Only H->SqL (K w.params) H a (ns.map V.int)->sp w [.ref a] H (fun v _=>v=.bl true) fun _ _ _=>False)
  (C:∀ (w:World) (H:Hp) (s:Shared) (e:Value) (B:Shared),CX w [] H s (fun _ _ _=>False) e B->False) :
  PySem.W.WalkO q i O E l.row.toRowW d [] (fun f vs=>PySem.call f vs):=by
 refine Att.attach_call hn z fun w s₀ m mg mb fa o pm R doc a vs ns G Y S hd I y p j c L=>?_
 have D:=P w _ Y
 obtain ⟨fd,hb,J⟩:=F w mg fa _ D G.T.g y
 exact arc D G.T.g G.T.b G.T.builtins G.T.nolimit L p j (aC0 c A) N J hb (fun H Q M=>r w H a ns c Q M) fun H e B=>C w H m e B
end L2
/- THE LAST THEOREM (shape; LID, My.* are yours):
  My.Adr: a structure of the addresses that your layer names (classes,functions);My.Txt K t: a structure (Prop) of the equations over K;
  My.txt_mk:{K} {implicit addresses ..} (e1:nsIn K mainGlobals "law" = some (some (.ref f))) (e2:K.lookup f=some ⟨oc,od,.func (fnOf "law" "law" params body scope dV kV doc pm an cdv ct),sl⟩) (e3:codeIn K cdv "law" = true) .. : ∃ t,My.Txt K t
set_option maxRecDepth 100000 in
set_option maxHeartbeats 0 in
theorem PySem.Challenge.cw_LID_holds : PySem.Challenge.rw_LID.Holds := by
 w_on;o_law;k_head;(case hw=>w_witness2)
 k_fill
 refine L2.walk_of (l:=PySem.Challenge.rw_LID) (n:=63) (k:=40) (x:="script") (CX:=fun w => ..) (sp:=fun _=>My.sp_law) rfl (by decide) rfl ⟨rfl,by decide,by decide⟩ (fun w h Y=>PySem.W.kIn_of Y) ?F ?S ?C
 case F =>
  intro w mg fa h KX G hmg
  have T:∃ t,My.Txt (L2.KOf KX) t:=by
   dsimp only [L2.KOf]                          -- K must stand as «<heap const> w.params» for k_is
   refine' My.txt_mk ?e1 ?e2 ?e3 ..
   (case e1=>PySem.W.k_is)                    -- in the order: a name -> its address -> its object -> its parts
   (case e2=>PySem.W.k_is)
   ..
  obtain ⟨t,T⟩:=T
  have e0:=hmg.symm.trans (mg_of KX G T.law)
  cases e0                                       -- fa is the law's own address
  exact ⟨_,fun s u => .of_eq rfl,fun base kb nb=>My.law_fn T kb nb⟩     -- if «.of_eq rfl» comes too early: refine' ⟨_,?b,fun base kb nb=>My.law_fn T kb nb⟩;exact fun s u => .of_eq rfl
 case S=>exact fun w H a ns hl hO hS => ..
 case C=>exact ..
(the tactic k_is has no namespace: write k_is) -/
namespace L2
open PySem PySem.Spec PyProof.Rows
def ab3 (s:Stmt):Arguments:=match s with
 | .FunctionDef _ a _ _ _ _ _ _ _ _=>a
 | _=>{ posonlyargs:=[],args:=[],vararg:=none,kwonlyargs:=[],kw_defaults:=[],kwarg:=none,defaults:=[] }
def abv (s:Stmt):List Stmt:=match s with
 | .FunctionDef _ _ b _ _ _ _ _ _ _=>b
 | _=>[]
def aan (s:Stmt):Scope:=match s with
 | .FunctionDef _ _ _ _ _ _ sc _ _ _=>sc
 | _=>{ kind:=.function,names:=[],isGenerator:=false,isCoroutine:=false }
abbrev CX0:CXT:=fun _ _ _ _ _ _=>False
abbrev E0:XK:=fun _ _ _=>False
theorem ayo {X:Cx}:akd CX0 X E0:=fun _ _ _ _ _ _ _ h=>h.elim
structure Fun (K:Frag) (x qual:Str) (st:Stmt) (f:Addr) (fd:FuncData):Prop where
 ex:∃ (oc:Value) (od:Option Addr) (kV doc pm:Value) (an:Option Addr) (cdv ct:Value) (osl:Array (Option Value)),
  fd=fnOf x qual (ab3 st) (abv st) (aan st) .none kV doc pm an cdv ct/\K.lookup f=some ⟨oc,od,.func fd,osl⟩/\codeIn K cdv qual=true
 kp:keepIn K (.ref f)=true
section
variable {P:Program} {w:World} {K:Frag} {mg:Str->Option Value} {base:Heap}
theorem Fun.ok {x qual:Str} {st:Stmt} {f:Addr} {fd:FuncData} {N ps:List Str} {k:Nat} {sp:Sp} (F:Fun K x qual st f fd) (S:FnScope N ps (aan st)) (len:∀ vs H Q E,sp vs H Q E->vs.length=ps.length)
  (a:∀ (cdv:Value) (A:Around) (outer:List Env) (s:Shared) (H:Hp) (vs:List V) (Q:VK) (E:XK),Room k (A.deeper (envOfC qual (aan st) s.heap.objs.size f cdv))->sp vs H Q E ->
   ∃ t,PSs (cxOf CX0 P w K mg base N qual (aan st) f cdv A outer s H E).nox (abv st) t/\t { nx:=fun _ H'=>Q .non H',rt:=Q } (start N vs) H):FnOk P w K mg base CX0 (k+1) f fd ps sp:=by
 obtain ⟨oc,od,kV,doc,pm,an,cdv,ct,osl,rfl,d,c⟩:=F.ex
 refine aym d c S len fun A outer s H vs Q E g b=>?_
 obtain ⟨t,h,q⟩:=a cdv A outer s H vs Q E g b
 exact ⟨t,h.nox,q⟩
theorem Fun.binds {x qual:Str} {st:Stmt} {f:Addr} {fd:FuncData} {ps:List Str} (F:Fun K x qual st f fd)
  (h:∀ (kV doc pm:Value) (an:Option Addr) (cdv ct:Value) (us:List Value),us.length=ps.length->bindArgs (fnOf x qual (ab3 st) (abv st) (aan st) .none kV doc pm an cdv ct) ⟨us,[]⟩=pure (ps.zip us)):Binds K fd ps []:=by
 obtain ⟨oc,od,kV,doc,pm,an,cdv,ct,osl,rfl,b,a⟩:=F.ex
 exact .all (h kV doc pm an cdv ct)
theorem awv {x qual:Str} {st:Stmt} {f:Addr} {oc:Value} {od an:Option Addr} {osl:Array (Option Value)} {kV doc pm cdv ct:Value} (l:K.lookup f=some ⟨oc,od,.func (fnOf x qual (ab3 st) (abv st) (aan st) .none kV doc pm an cdv ct),osl⟩)
  (c:codeIn K cdv qual=true) (k:keepIn K (.ref f)=true):Fun K x qual st f (fnOf x qual (ab3 st) (abv st) (aan st) .none kV doc pm an cdv ct):=⟨⟨oc,od,kV,doc,pm,an,cdv,ct,osl,rfl,l,c⟩,k⟩
end
theorem ad7 {A:Around} {k:Nat} (a:Room k A):A.units+1 < cLine:=aC8 (Nat.add_le_add_left (by decide:1<=64) _) a.units
theorem ad8 {n:Nat} (h:n<=1000):n < sizeLine:=aC8 h (by decide)
section
variable {X:Cx}
theorem pv (i:Nat) {x:Str} {pos:Pos} (b:X.N[i]?=some x:=by rfl) (c:Vis X.env.scope x:=by first | exact Or.inl rfl | exact Or.inr (Or.inl rfl) | exact Or.inr (Or.inr rfl)) (hd:(x == ("__debug__" : Str))=false:=by decide)
  (a:(x == ("__classdict__" : Str))=false:=by decide):PE X (.Name x pos) (tVar i):=awi b c hd a
end
theorem iteF {A B:Prop} (h:B):if false=true then A else B:=by
 rw [aE0 aA0]
 exact h
theorem iteT {A B:Prop} (h:A):if true=true then A else B:=by
 rw [aD9 rfl]
 exact h
def Same (H H':Hp):Prop:=∀ b o,H b=some o->H' b=some o
theorem Same.refl (H:Hp):Same H H:=fun _ _ h=>h
theorem Same.trans {H d H2:Hp} (a:Same H d) (b:Same d H2):Same H H2:=fun c o h=>b c o (a c o h)
theorem Same.free {H H':Hp} (e:Same H H') {l:Addr} (h:H' l=Option.none):H l=Option.none:=by
 cases q:H l with
 | none=>rfl
 | some o =>
  rw [e l o q] at h
  cases h
theorem Same.seq {K:Frag} {H H':Hp} {a:Addr} {xs:List V} (e:Same H H') (h:SqL K H a xs):SqL K H' a xs:=by
 rcases h with (h | ⟨o,h⟩) | h
 ·exact .inl (.inl (e _ _ h))
 ·exact .inl (.inr ⟨o,e _ _ h⟩)
 ·exact .inr h
section
variable {X:Cx}
end
section
variable {κ:Type} [DecidableEq κ]
end
def clos (env:Env):List (Str × NameKind)->List (Str × Addr)->List (Str × Addr)
 | [],cs=>cs
 | (n,k) :: r,cs=>if k == NameKind.free then (match env.cells.lookup n with | some a=>clos env r ((n,a) :: cs) | none=>clos env r cs) else clos env r cs
theorem aha {env:Env} {sc:Scope} (h:∀ n,(n,NameKind.free)∈sc.names->∃ a,env.cells.lookup n=some a):closureFor sc env=pure (clos env sc.names []):=by
 have all:∀ (l:List (Str × NameKind)) (cs:List (Str × Addr)),(∀ n,(n,NameKind.free)∈l->∃ a,env.cells.lookup n=some a) ->
   (forIn l cs fun (x:Str × NameKind) (cs:List (Str × Addr))=>match x with | (name,kind)=>if kind == NameKind.free then (do let a ← cellOf env name;pure (ForInStep.yield ((name,a) :: cs))) else pure (ForInStep.yield cs))=(pure (clos env l cs):Sem _):=by
  intro l
  induction l with
  | nil=>intro cs _;rfl
  | cons p r ih =>
   intro cs c
   obtain ⟨n,k⟩:=p
   rw [List.forIn_cons]
   unfold clos
   dsimp only
   cases hk:(k == NameKind.free) with
   | false =>
    simp only [Bool.false_eq_true,if_false,pure_bind]
    exact ih cs fun m hm=>c m (aA5 _ hm)
   | true =>
    have d:k=NameKind.free:=by simpa using hk
    subst d
    obtain ⟨a,ha⟩:=c n aA8
    have f:cellOf env n=pure a:=by unfold cellOf;rw [ha]
    simp only [if_true,f,pure_bind,ha]
    exact ih _ fun m hm=>c m (aA5 _ hm)
 have e:=all sc.names [] h
 unfold closureFor
 refine Eq.trans (b:=(pure (clos env sc.names []):Sem _) >>= fun cs=>pure cs) ?_ (pure_bind _ _)
 exact congrArg (fun z:Sem (List (Str × Addr))=>z >>= fun cs=>pure cs) e
theorem ad9 {env:Env} {x:Str} {c:Addr}:∀ {l:List (Str × NameKind)} {cs:List (Str × Addr)},(clos env l cs).lookup x=some c->env.cells.lookup x=some c\/cs.lookup x=some c
 | [],cs,h => .inr h
 | (n,k) :: r,cs,h=>by
  unfold clos at h
  by_cases hk:(k == NameKind.free)=true
  ·rw [aD9 hk] at h
   cases ha:env.cells.lookup n with
   | none=>rw [ha] at h;exact ad9 h
   | some a =>
    rw [ha] at h
    rcases ad9 h with e | e
    ·exact .inl e
    ·rw [aF3] at e
     cases hx:(x == n) with
     | true =>
      rw [hx] at e
      have:x=n:=by simpa using hx
      subst this
      cases e
      exact .inl ha
     | false=>rw [hx] at e;exact .inr e
  ·rw [aE0 hk] at h
   exact ad9 h
theorem aea {env:Env} {x:Str}:∀ {l:List (Str × NameKind)} {cs:List (Str × Addr)},(∃ c,cs.lookup x=some c)->∃ c,(clos env l cs).lookup x=some c
 | [],cs,h=>h
 | (n,k) :: r,cs,h=>by
  unfold clos
  by_cases hk:(k == NameKind.free)=true
  ·rw [aD9 hk]
   cases ha:env.cells.lookup n with
   | none=>exact aea h
   | some a =>
    refine aea ?_
    rw [aF3]
    cases hx:(x == n) with
    | true=>exact ⟨_,rfl⟩
    | false=>exact h
  ·rw [aE0 hk]
   exact aea h
theorem ad0 {env:Env} {x:Str} (h:∃ a,env.cells.lookup x=some a):∀ {l:List (Str × NameKind)} {cs:List (Str × Addr)},(x,NameKind.free)∈l->∃ c,(clos env l cs).lookup x=some c
 | [],_,hm=>absurd hm (by simp)
 | (n,k) :: r,cs,hm=>by
  rcases az9.mp hm with e | hm
  ·cases e
   obtain ⟨a,ha⟩:=h
   unfold clos
   rw [aD9 (by rfl),ha]
   refine aea ⟨a,?_⟩
   rw [aF3]
   simp
  ·unfold clos
   by_cases hk:(k == NameKind.free)=true
   ·rw [aD9 hk]
    cases ha:env.cells.lookup n with
    | none=>exact ad0 h hm
    | some a=>exact ad0 h hm
   ·rw [aE0 hk]
    exact ad0 h hm
theorem afi {env:Env} {x:Str}:∀ {names:List (Str × NameKind)},(∀ y∈names,y.2 ≠ .cell) ->
  ((names.map fun (n,k)=>if (k == NameKind.free && env.scope.kind == .function && env.kindOf n == some .cell) then (n,NameKind.cell) else (n,k)).lookup x=some .cell ∨
   (names.map fun (n,k)=>if (k == NameKind.free && env.scope.kind == .function && env.kindOf n == some .cell) then (n,NameKind.cell) else (n,k)).lookup x=some .free)->names.lookup x=some .free
 | [],_,h=>by rcases h with h | h <;> simp at h
 | (n,k) :: r,hc,h=>by
  have a:=@afi env x r fun y c=>hc y (aA5 _ c)
  rw [aF3]
  simp only [aC1] at h
  by_cases hq:(k == NameKind.free && env.scope.kind == .function && env.kindOf n == some .cell)=true
  ·rw [aD9 hq] at h
   have b:k=NameKind.free:=by
    have:=hq;simp only [aF5] at this;simpa using this.1.1
   subst b
   cases hx:(x == n) with
   | true=>rfl
   | false=>simp only [aF3,hx] at h;exact a h
  ·rw [aE0 hq] at h
   cases hx:(x == n) with
   | true =>
    simp only [aF3,hx] at h
    rcases h with h | h
    ·cases h;exact absurd rfl (hc (n,NameKind.cell) aA8)
    ·exact h
   | false=>simp only [aF3,hx] at h;exact a h
theorem aeb {env:Env} {x:Str}:∀ {names:List (Str × NameKind)},names.lookup x=some .free ->
  ((names.map fun (n,k)=>if (k == NameKind.free && env.scope.kind == .function && env.kindOf n == some .cell) then (n,NameKind.cell) else (n,k)).lookup x=some .cell ∨
   (names.map fun (n,k)=>if (k == NameKind.free && env.scope.kind == .function && env.kindOf n == some .cell) then (n,NameKind.cell) else (n,k)).lookup x=some .free)
 | [],h=>by simp at h
 | (n,k) :: r,h=>by
  have a:=@aeb env x r
  rw [aF3] at h
  simp only [aC1]
  by_cases hq:(k == NameKind.free && env.scope.kind == .function && env.kindOf n == some .cell)=true
  ·rw [aD9 hq]
   cases hx:(x == n) with
   | true=>left;simp [aF3,hx]
   | false=>rw [hx] at h;simp only [aF3,hx];exact a h
  ·rw [aE0 hq]
   cases hx:(x == n) with
   | true=>rw [hx] at h;right;simp only [aF3,hx];exact h
   | false=>rw [hx] at h;simp only [aF3,hx];exact a h
def Cx.comp (X:Cx) (N:List Str) (sc:Scope) (C:Addr) (s0:Shared) (H0:Hp) (ex:List Addr):Cx where
 prog:=X.prog
 w:=X.w
 K:=X.K
 mg:=X.mg
 base:=X.base
 A:=X.A
 N:=N
 s₀:=s0
 H₀:=H0
 env:=compEnvC sc (clos X.env sc.names []) C X.env
 outer:=X.stack
 stack:=X.stack
 ex:=ex
 fn:=fun _=>false
 calm:=X.calm
 pn:=[]
 xe:=fun _ _=>False
def pick (src:List (Option Nat)) (σ:St):St:=src.map fun o=>match o with | some j=>(σ[j]?).getD none | none=>none
structure LcOk (X:Cx) (N:List Str) (sc:Scope) (src:List (Option Nat)):Prop where
 kind:sc.kind=.function
 nocell:∀ y∈sc.names,y.2 ≠ .cell
 own:∀ y∈sc.names,y.2=.local->sc.names.lookup y.1=some .local
 outs:∀ y∈sc.names,y.2=.free->X.env.kindOf y.1=some .cell\/X.env.kindOf y.1=some .free
 len:src.length=N.length
 from':∀ (i j:Nat),src[i]?=some (some j)->∃ x,N[i]?=some x/\X.N[j]?=some x/\sc.names.lookup x=some .free
theorem LcOk.clo {X:Cx} {N:List Str} {sc:Scope} {src:List (Option Nat)} (L:LcOk X N sc src) (ok:X.Ok):closureFor sc X.env=pure (clos X.env sc.names []) :=
 aha fun n hn=>ok.has n (L.outs (n,.free) hn rfl)
theorem ako {X:Cx} {pins:List (Addr × Obj)} {σ:St} {H:Hp} {s:Shared} {N:List Str} {sc:Scope} {src:List (Option Nat)} {fp:List Addr} {A:Heap} {t':Nat}
  (L:LcOk X N sc src) (I:Inv X pins σ H s) (hf:∀ b∈fp,FpOk X pins H b) (g:∀ b∈fp,b < s.heap.objs.size)
  (hn:A.Ns s.heap.objs.size fun _=>none) (f:∀ b o,s.heap.get? b=some o->A.get? b=some o) :
  Inv (X.comp N sc s.heap.objs.size s H fp) [] (pick src σ) H { s with heap:=A,toks:=t' }:=by
 have look:∀ {x c},(clos X.env sc.names []).lookup x=some c->X.env.cells.lookup x=some c:=fun {x c} e=>by
  rcases ad9 e with z | z
  ·exact z
  ·simp at z
 refine ⟨⟨I.ok.mod,L.kind,I.ok.glob,I.ok.blt,az6 _,fun x y c w a=>?_,fun x M=>?_,fun x c z _=>?_,I.ok.hd,I.ok.frames,.inl rfl,fun b hb=>⟨?_,fun x c e=>?_⟩,I.bs,aC0 I.ok.bsz I.sz,fun b o e hb=>?_,fun b hb z=>?_,I.stack,I.stkFree⟩,
  rfl,I.bare,Un.kept f,⟨_,hn,fun i x v w a P=>?_⟩,fun x c e=>?_,I.hok.fresh (az6 _),fun x c e=>I.freeC x c (look e),fun p K=>?_,I.hok.kept f,?_⟩
 ·exact I.ok.inj x y c (look w) (look a)
 ·have q:=afi (env:=X.env) (x:=x) L.nocell M
  exact ad0 (I.ok.has x (L.outs (x,.free) (PySem.mem_of_lookup q) rfl)) (PySem.mem_of_lookup q)
 ·exact Bool.noConfusion z
 ·exact aA6 (g b hb)
 ·exact (hf b hb).2.2.2.2.1 x c (look e)
 ·rcases (hf b hb).2.2.2.1 with z | z
  ·exact I.ok.noex b o e z
  ·exact absurd (aB5 (aH4 e) (aC0 I.ok.bsz z)) (aE8 _)
 ·rcases az9.mp (I.stkSub b z) with q | q
  ·exact (hf b hb).2.1 q
  ·exact (hf b hb).2.2.1 q
 ·unfold pick at a
  rw [az5] at a
  cases q:src[i]? with
  | none=>rw [q] at a;cases a
  | some o =>
   rw [q] at a
   cases o with
   | none=>cases a
   | some j =>
    obtain ⟨y,D,J,h⟩:=L.from' i j q
    have B:N[i]?=some x:=w
    rw [B] at D
    cases D
    have G : σ[j]?=some (some v):=by
     cases q2 : σ[j]? with
     | none=>simp [q2] at a
     | some z=>simp [q2] at a;rw [a]
    have g:=L.outs (x,.free) (PySem.mem_of_lookup h) rfl
    have n:Vis X.env.scope x:=by
     rcases g with z | z
     ·exact .inr (.inl z)
     ·exact .inr (.inr z)
    obtain ⟨m,_,O⟩:=I.loc
    obtain ⟨u,r,l⟩:=O j x v J G n
    refine ⟨u,r,.inr ⟨?_,?_⟩⟩
    ·exact aeb (env:=X.env) h
    ·rcases l with ⟨z,_⟩ | ⟨_,c,F,oc,d,hd⟩
     ·rcases g with E | E <;> (rw [E] at z;cases z)
     ·obtain ⟨Q,C⟩:=ad0 (env:=X.env) ⟨c,F⟩ (PySem.mem_of_lookup h) (cs:=[])
      have:=look C
      rw [F] at this;cases this
      exact ⟨c,C,oc,f c oc d,hd⟩
 ·obtain ⟨v,oc,d,hd⟩:=I.cell x c (look e)
  exact ⟨v,oc,f c oc d,hd⟩
 ·exact absurd (show p∈([]:List (Addr × Obj)) from K) (by simp)
 ·show (pick src σ).length=N.length
  unfold pick
  rw [az3]
  exact L.len
def PIf (X:Cx) (ifs:List Expr) (t:TT):Prop :=
 ∀ (pins:List (Addr × Obj)) (s:Shared) (σ:St) (H:Hp) (Q:Bool->Hp->Prop),Inv X pins σ H s->t σ H Q ->
  wpAny (model X.prog X.w) X.A (forIn ifs true fun c r=>if r=true then do let ok ← isTrue c X.env (eval c X.env);pure (ForInStep.yield ok) else pure (ForInStep.yield r)) (TP X pins σ Q) X.xe s
def tYes:TT:=fun _ H Q=>Q true H
theorem ab4 {X:Cx}:PIf X [] tYes:=fun _ _ _ H _ I h=>wpAny_tests_nil ⟨H,I,h⟩
theorem amv {X:Cx} {c:Expr} {t:TT} (h:PT X c t):PIf X [c] t:=fun pins s σ H Q I q=>wpAny_tests_one (h pins s σ H Q I q)
abbrev LW:=Nat->Nat->List V->St->Hp->Prop
def akp (J:It) (g:TG) (tif:TT) (te:TE) (acc:Addr) (Qd:List V->Hp->Prop) (W:LW):Prop:=∀ (i m:Nat) (ys:List V) (σ:St) (H:Hp),W i m ys σ H->H acc=some (.lst ys)/\((J.stop i H/\Qd ys H)\/(J.go i H /\
 ∃ Nx:List V->St->Hp->Prop,(∀ ys' σ' H',Nx ys' σ' H'->∃ m',m' < m/\W (i+1) m' ys' σ' H')/\∀ x H2,J.yld i H x H2 ->
 g x σ H2 fun σ3 H3=>tif σ3 H3 fun b H4=>if b=true then te σ3 H4 fun y H5=>H5 acc=some (.lst ys)/\ys.length < sizeLine/\Nx (ys ++ [y]) σ3 (upd H5 acc (.lst (ys ++ [y]))) else Nx ys σ3 H4))
theorem apj {X:Cx} {tg iter C:Expr} {B:List Expr} {sc:Scope} {pos:Pos} {J:It} {fp:List Addr} {it:Addr} {tn:Nat->Heap->Prop} {g:TG} {F:TT} {te:TE} {a:Addr} {Qd:List V->Hp->Prop} {W:LW} {R:Result->Shared->Prop}
  (T:Turn X.prog X.w X.K tg J fp it tn) (hc:X.calm=true) (p:∀ e s,¬ X.xe e s) (hg:PG X tg g) (a1:PIf X B F) (he:PE X C te)
  (G:akp J g F te a Qd W) (hR:∀ ys σ H s,Inv X [] σ H s->Qd ys H->R (.ok .next) s)
  {i m:Nat} {ys:List V} {σ:St} {H:Hp} {s:Shared} (I:Inv X [] σ H s) (st:tn i s.heap) (hf:∀ b∈fp,FpOk X [] H b) (w:W i m ys σ H) :
  codeAny (model X.prog X.w) X.A (.compLoop (.ListComp C [⟨tg,iter,B,0⟩] sc pos) 0 (.ref it) (.ref a) X.env) R s:=by
 have c:∀ {H':Hp},(∀ b∈fp,H' b=none)->∀ b∈fp,FpOk X [] H' b:=fun hn b hb=>⟨hn b hb,(hf b hb).2⟩
 refine codeAny_loop rfl (fun n j=>∃ i ys h H',Inv X [] h H' j/\tn i j.heap/\(∀ b∈fp,H' b=none)/\W i n ys h H') ?_ m ⟨i,ys,σ,H,I,st,fun b hb=>(hf b hb).1,w⟩
 rintro n s1 ⟨i,ys,f,S,I1,N,O,w1⟩
 show wpAny _ X.A ((compTurn (.ListComp C [⟨tg,iter,B,0⟩] sc pos) 0 (.ref it) (.ref a) X.env).onRaise (fun x=>do noteFrame x X.env;theTreesLotGoes x)) _ _ s1
 refine wpAny_noted ?_
 rw [compTurn_list]
 refine aH1 (wpAny_standAt (aH1 ?_))
 obtain ⟨a2,⟨stop,qd⟩ | ⟨go,Nx,L,step⟩⟩:=G i n ys f S w1
 ·refine thn (T.done X rfl rfl rfl hc i [] s1 f S _ I1 (c O) N stop) fun r s2 ⟨hr,I2⟩=>?_
  subst hr
  exact aH2 (hR ys f S s2 I2 qd)
 ·refine thn (T.item X rfl rfl rfl hc i [] s1 f S _ I1 (c O) N go) fun r s2 ⟨u,hr,h2⟩=>?_
  subst hr
  refine aH1 (thn h2 fun _ s3 ⟨x,H3,I3,r3,y3,D,Z⟩=>?_)
  have a0:=I3.pinned (c Z) (T.obj _ _ D)
  refine aH1 (aI0 (hg _ s3 f H3 x u _ a0 r3 (step x H3 y3)) (fun _ s4 ⟨v,H4,I4,q4⟩=>?_) fun e j z=>(p e j z).elim)
  have q:∀ {l:St} {M:Hp} {E:Shared} {zs:List V},Inv X ([] ++ ady fp s3.heap) l M E->(∃ Q,Q < n/\W (i+1) Q zs l M)->∃ m,m < n/\∃ i ys h H',Inv X [] h H' E/\tn i E.heap/\(∀ b∈fp,H' b=none)/\W i m ys h H':=fun {l M E zs} P Y=>by
   obtain ⟨Q,hm,Y⟩:=Y
   refine ⟨Q,hm,i+1,zs,l,M,P.unpinned,T.keep _ _ _ D fun b hb o e=>(P.pin (b,o) (aA3 _ (aA3 _ (aby hb e)))).1,fun b hb=>?_,Y⟩
   obtain ⟨o,e,d⟩:=T.obj _ _ D b hb
   exact (P.pin (b,o) (aA3 _ (aA3 _ (aby hb e)))).2.1
  refine aH1 (aI0 (a1 _ s4 v H4 _ I4 q4) (fun b s5 ⟨H5,I5,U⟩=>?_) fun e j z=>(p e j z).elim)
  cases b with
  | false =>
   rw [aE0 aA0] at U
   exact aH2 ⟨rfl,q I5 (L _ _ _ U)⟩
  | true =>
   rw [aD9 rfl] at U
   refine aH1 (aH1 (aI0 (he _ s5 v H5 _ I5 U) (fun yv s6 ⟨y,H6,I6,r6,a6,l6,w6⟩=>?_) fun e j z=>(p e j z).elim))
   have ap:=aa6 (X:=X) _ s6 v H6 (.ref a) [y] (.ref a) [yv] (fun _ H'=>H'=upd H6 a (.lst (ys ++ [y]))) I6 rfl (.cons r6 .nil) ⟨a,ys,y,rfl,rfl,a6,l6,rfl⟩
   refine aH1 (aI0 ap (fun _ E ⟨v7,M,P,_,e7⟩=>?_) fun e j z=>(p e j z).elim)
   subst e7
   exact aH2 (aH2 ⟨rfl,q P (L _ _ _ w6)⟩)
def tLC (src:List (Option Nat)) (wi:TI) (g:TG) (tif:TT) (te:TE):TE:=fun σ H Q=>wi σ H fun J H1=>∀ acc,H1 acc=none->∃ W:LW,(∃ m,W 0 m [] (pick src σ) (upd H1 acc (.lst [])))/\akp J g tif te acc (fun _ H'=>Q (.ref acc) H') W
section
variable {X:Cx} {N:List Str} {tg iter elt:Expr} {ifs:List Expr} {sc:Scope} {src:List (Option Nat)} {wi:TI} {g:TG} {tif:TT} {te:TE} {pos:Pos}
theorem aub (hc:X.calm=true) (L:LcOk X N sc src) (U:∀ C u r ex,PG (X.comp N sc C u r ex) tg g) (S:∀ C u r ex,PIf (X.comp N sc C u r ex) ifs tif) (he:∀ C u r ex,PE (X.comp N sc C u r ex) elt te)
  {pins:List (Addr × Obj)} {d:Shared} {σ:St} {H3:Hp} {Q:VK} (l:Inv X pins σ H3 d) {it a:Addr} {fp:List Addr} {J:It} {tn:Nat->Heap->Prop} (T:Turn X.prog X.w X.K tg J fp it tn) (n:tn 0 d.heap) (j:∀ b∈fp,FpOk X pins H3 b)
  {W:LW} {m0:Nat} (w0:W 0 m0 [] (pick src σ) H3) (F:akp J g tif te a (fun _ H'=>Q (.ref a) H') W) (use:Option (Value->Sem Unit)) (P:Value->Shared->Prop)
  (hP:∀ C H' f m,Inv X pins σ H' f->Q (.ref a) H'->f.heap.Ns C m->H' C=none->C ≠ X.env.locals->(C∈X.ex\/X.s₀.heap.objs.size<=C)->(∀ x c,X.env.cells.lookup x=some c->c ≠ C)->(∀ p∈X.pn ++ pins,p.1 ≠ C) ->
   compPost (model X.prog X.w) X.A X.xe use P (.ref a) C (.ok .next) f) :
  wpAny (model X.prog X.w) X.A (newFunctionEnv sc X.env.globals (clos X.env sc.names []) [] X.env.qual none .none (some X.env)) (fun h q =>
    codeAny (model X.prog X.w) X.A (.compStart (.ListComp elt [⟨tg,iter,ifs,0⟩] sc pos) 0 (.ref it) (.ref a) { h with scope:=relabel sc X.env }) (compPost (model X.prog X.w) X.A X.xe use P (.ref a) h.locals) q) X.xe d:=by
 refine wpAny_newFunctionEnv L.nocell (by intro y Z;simp at Z) (fun I G E=>?_) L.kind
 have M:∀ b∈fp,b < d.heap.objs.size:=fun b hb=>by
  obtain ⟨o,R,_⟩:=T.obj _ _ n b hb
  exact aH4 R
 have D:∀ b o,d.heap.get? b=some o->I.get? b=some o:=fun b o e=>E.extBut b o (aA6 (aH4 e)) (aH3 _ e)
 have H:=ako (t':=d.toks+([]:List (Str × Value)).length) L l j M (by simpa using G) D
 have s:tn 0 I:=T.keep _ _ _ n fun b _ o e=>D b o e
 have f4:∀ b∈fp,FpOk (X.comp N sc d.heap.objs.size d H3 fp) [] H3 b:=fun b hb =>
  ⟨(j b hb).1,(H.ok.exf b hb).1,H.ok.exfs b hb,.inl hb,(H.ok.exf b hb).2,fun p O=>absurd (show p∈([]:List (Addr × Obj)) from O) (by simp)⟩
 have fin:∀ (ys:List V) B H' f,Inv (X.comp N sc d.heap.objs.size d H3 fp) [] B H' f->Q (.ref a) H'->compPost (model X.prog X.w) X.A X.xe use P (.ref a) d.heap.objs.size (.ok .next) f:=fun ys B H' f i q'=>by
  have Y:Inv X pins σ H' f:=l.call' (ch:=fp) i.os i.base i.hok i.bare fun b hb=>⟨(j b hb).2.2.2.1,(j b hb).2.1,(j b hb).2.2.2.2.1,(j b hb).2.2.2.2.2⟩
  obtain ⟨m,hn,_⟩:=i.loc
  refine hP _ H' f m Y q' hn i.free (Nat.ne_of_gt l.lt) (.inr l.sz) (fun x c e z=>?_) fun p O z=>?_
  ·obtain ⟨v,o,R,_⟩:=l.cell x c e
   exact absurd (aH4 R) (by rw [z];exact aE8 _)
  ·exact absurd (aH4 (l.pin p O).1) (by rw [z];exact aE8 _)
 have loop:codeAny (model X.prog X.w) X.A (.compLoop (.ListComp elt [⟨tg,iter,ifs,0⟩] sc pos) 0 (.ref it) (.ref a) (X.comp N sc d.heap.objs.size d H3 fp).env)
   (compPost (model X.prog X.w) X.A X.xe use P (.ref a) d.heap.objs.size) { d with heap:=I,toks:=d.toks+([]:List (Str × Value)).length } :=
  apj (X:=X.comp N sc d.heap.objs.size d H3 fp) T hc (fun _ _ z=>z) (U _ _ _ _) (S _ _ _ _) (he _ _ _ _) F fin H s f4 w0
 exact codeAny_compStart_list loop (T.self _ 0 _ _ _ s loop)
theorem akq (R:X.calm=true) (L:LcOk X N sc src) (hi:PI X tg iter wi) (F:∀ C l f ex,PG (X.comp N sc C l f ex) tg g) (q:∀ C l f ex,PIf (X.comp N sc C l f ex) ifs tif) (D:∀ C l f ex,PE (X.comp N sc C l f ex) elt te)
  {pins:List (Addr × Obj)} {s:Shared} {σ:St} {H:Hp} {Q:VK} (I:Inv X pins σ H s) (h:tLC src wi g tif te σ H Q) (use:Option (Value->Sem Unit)) (P:Value->Shared->Prop)
  (S:∀ d C H' r m,Inv X pins σ H' r->Q (.ref d) H'->r.heap.Ns C m->H' C=none->C ≠ X.env.locals->(C∈X.ex\/X.s₀.heap.objs.size<=C)->(∀ x c,X.env.cells.lookup x=some c->c ≠ C)->(∀ p∈X.pn ++ pins,p.1 ≠ C) ->
   compPost (model X.prog X.w) X.A X.xe use P (.ref d) C (.ok .next) r)
  (hs:∀ x,foldedSetIterable iter X.env x=pure x) :
  wpAny (model X.prog X.w) X.A (comprehension (.ListComp elt [⟨tg,iter,ifs,0⟩] sc pos) sc X.env (firstIterPos [⟨tg,iter,ifs,0⟩] pos) (newList []) false (eval iter X.env) use) P X.xe s:=by
 refine wpAny_comprehension_free rfl hs (L.clo I.ok) L.kind L.own (thn (hi pins s σ H _ I h) fun v s1 M=>thn M fun B s2 E=>?_)
 obtain ⟨it,fp,tn,J,H2,e,z,T,j,y,G⟩:=E
 subst e
 have a:H2 s2.heap.objs.size=none:=z.hok.fresh (az6 _)
 obtain ⟨W,⟨U,O⟩,i⟩:=G s2.heap.objs.size a
 have n:∀ b∈fp,b < s2.heap.objs.size:=fun b hb=>by
  obtain ⟨o,K,_⟩:=T.obj _ _ j b hb
  exact aH4 K
 refine aI1 ?_
 refine aub R L F q D (H3:=upd H2 s2.heap.objs.size (.lst [])) ?_ T ?_ ?_ O i use P (S _)
 ·exact z.laid (t':=s2.toks) (fun b u e=>aH3 _ e) (az6 _) ⟨aE4 _,[],0,.nil,aH5 _ rfl⟩
 ·exact T.keep _ _ _ j fun b _ o e=>aH3 _ e
 ·exact fun b hb=>⟨by rw [aag (aA6 (n b hb))];exact (y b hb).1,(y b hb).2⟩
theorem ae0 (u:X.calm=true) (L:LcOk X N sc src) (hi:PI X tg iter wi) (n:∀ C c a ex,PG (X.comp N sc C c a ex) tg g) (i:∀ C c a ex,PIf (X.comp N sc C c a ex) ifs tif) (j:∀ C c a ex,PE (X.comp N sc C c a ex) elt te)
  (hs:∀ x,foldedSetIterable iter X.env x=pure x:=by intro _;rfl):PE X (.ListComp elt [⟨tg,iter,ifs,0⟩] sc pos) (tLC src wi g tif te):=by
 intro pins s σ H Q I h
 rw [eval_ListComp]
 refine akq u L hi n i j I h none _ (fun f C H' v m J q hn l r w d p=>?_) hs
 refine ⟨m,hn,fun h' sb=>⟨.ref f,H',?_,rfl,q⟩⟩
 exact J.turned (t':=v.toks) (fun b o hb e=>sb.extBut b o hb e) l r w d p
end
section
variable {X:Cx} {N:List Str} {tg iter elt:Expr} {ifs:List Expr} {sc:Scope} {src:List (Option Nat)} {wi:TI} {g:TG} {tif:TT} {te:TE} {pos spos px:Pos}
theorem ae1 {i:Nat} {x:Str} (K:X.N.Nodup) (r:X.N[i]?=some x) (R:Loc X.env.scope x) (Q:X.calm=true) (L:LcOk X N sc src) (hi:PI X tg iter wi) (M:∀ C j f ex,PG (X.comp N sc C j f ex) tg g)
  (u:∀ C j f ex,PIf (X.comp N sc C j f ex) ifs tif) (F:∀ C j f ex,PE (X.comp N sc C j f ex) elt te)
  (y:swapsWith (.ListComp elt [⟨tg,iter,ifs,0⟩] sc pos) (some (.Name x px)) spos.line X.env=pure true:=by rfl)
  (hf:X.fn x=true\/X.env.scope.names.lookup x=some .local:=by first | exact .inl rfl | exact .inr rfl | assumption)
  (hs:∀ x,foldedSetIterable iter X.env x=pure x:=by intro _;rfl):PS X (.Assign [.Name x px] (.ListComp elt [⟨tg,iter,ifs,0⟩] sc pos) spos) (tAsg (tLC src wi g tif te) (aa1 i)):=by
 intro pins s σ H D I h
 rw [exec_Assign_Name_used _ _ _ _ y]
 refine aH1 (wpAny_standAt (aH1 ?_))
 show wpAny _ X.A (do let _ ← comprehension (.ListComp elt [⟨tg,iter,ifs,0⟩] sc pos) sc X.env _ (newList []) false (eval iter X.env) (some (assign (.Name x px) X.env))) _ _ s
 refine aH1 (aI0 (akq Q L hi M u F I h (some (assign (.Name x px) X.env)) (fun _ w=>SP X pins D .next w) (fun d C H' w m J q hn G B n c P=>?_) hs) (fun _ w O=>aH2 (aH2 O)) fun _ _ e=>e)
 show wpAny _ X.A (assign (.Name x px) X.env (.ref d)) _ _ _
 refine wpAny_assign_Name (ail J K r R (v:=.ref d) rfl (fun s2 E ⟨a,sb,ha⟩=>?_) hf)
 have l:C ≠ a:=by
  rcases ha with z | z
  ·rw [z];exact B
  ·exact (c x a z).symm
 refine ⟨m,hn.sameBut sb l,fun h' p=>⟨_,H',?_,q⟩⟩
 exact E.turned (t':=s2.toks) (fun b o hb e=>p.extBut b o hb e) G B n c P
end
section
variable {g:TG} {tif:TT} {te:TE} {acc:Addr} {Qd:List V->Hp->Prop} {σ0:St} {H0:Hp}
end
def amw (J:It) (g:TG) (tif:TT) (te:TE) (acc:Addr) (Qd:List V->St->Hp->Prop) (W:LW):Prop:=∀ (i m:Nat) (ys:List V) (σ:St) (H:Hp),W i m ys σ H->H acc=some (.lst ys)/\((J.stop i H/\Qd ys σ H)\/(J.go i H /\
 ∃ Nx:List V->St->Hp->Prop,(∀ ys' σ' H',Nx ys' σ' H'->∃ m',m' < m/\W (i+1) m' ys' σ' H')/\∀ x H2,J.yld i H x H2 ->
 g x σ H2 fun σ3 H3=>tif σ3 H3 fun b H4=>if b=true then te σ3 H4 fun y H5=>H5 acc=some (.lst ys)/\ys.length < sizeLine/\Nx (ys ++ [y]) σ3 (upd H5 acc (.lst (ys ++ [y]))) else Nx ys σ3 H4))
def ahy (J:It) (g:TG) (tif:TT) (wi2:TI) (g2:TG) (tif2:TT) (te:TE) (acc:Addr) (Qd:List V->Hp->Prop) (W:LW):Prop:=∀ (i m:Nat) (ys:List V) (σ:St) (H:Hp),W i m ys σ H->((J.stop i H/\Qd ys H)\/(J.go i H /\
 ∃ Nx:List V->St->Hp->Prop,(∀ ys' σ' H',Nx ys' σ' H'->∃ m',m' < m/\W (i+1) m' ys' σ' H')/\∀ x H2,J.yld i H x H2 ->
 g x σ H2 fun σ3 H3=>tif σ3 H3 fun b H4=>if b=true then wi2 σ3 H4 fun J2 H5=>∃ W2:LW,(∃ m2,W2 0 m2 ys σ3 H5)/\amw J2 g2 tif2 te acc Nx W2 else Nx ys σ3 H4))
theorem aja (a t1 i1 g d:Expr) (f1 f:List Expr) (sc:Scope) (pos:Pos) (it b:Value) (env:Env) :
  compTurn (.ListComp a [⟨t1,i1,f1,0⟩,⟨g,d,f,0⟩] sc pos) 0 it b env=(do
   standAt i1.pos
   match ← pyNext it with
   | none=>pure (.done .next)
   | some v =>
    letOwnedTupleGo t1 it v
    assign t1 env v
    let mut ok:=true
    for c in f1 do
     if ok then ok ← isTrue c env (eval c env)
    if ok then
     let x ← eval d env
     standAt d.pos
     let x ← foldedSetIterable d env x
     let _ ← runOwn (.compStart (.ListComp a [⟨t1,i1,f1,0⟩,⟨g,d,f,0⟩] sc pos) 1 (← holding [x] (pyIter x)) b env) env
    again (.compLoop (.ListComp a [⟨t1,i1,f1,0⟩,⟨g,d,f,0⟩] sc pos) 0 it b env)):=by rfl
theorem ajb (a t1 i1 d f:Expr) (f1 g:List Expr) (sc:Scope) (pos:Pos) (it b:Value) (env:Env) :
  compTurn (.ListComp a [⟨t1,i1,f1,0⟩,⟨d,f,g,0⟩] sc pos) 1 it b env=(do
   standAt f.pos
   match ← pyNext it with
   | none=>pure (.done .next)
   | some v =>
    letOwnedTupleGo d it v
    assign d env v
    let mut ok:=true
    for c in g do
     if ok then ok ← isTrue c env (eval c env)
    if ok then
     (do let _ ← call (.builtin "list.append") [b,← eval a env])
    again (.compLoop (.ListComp a [⟨t1,i1,f1,0⟩,⟨d,f,g,0⟩] sc pos) 1 it b env)):=by rfl
theorem apk {prog:Program} {w:World} {A:Around} {R:Result->Shared->Prop} {s:Shared} {c t1 i1 i g:Expr} {f1 j:List Expr} {sc:Scope} {pos:Pos} {it b:Value} {env:Env}
  (l:codeAny (model prog w) A (.compLoop (.ListComp c [⟨t1,i1,f1,0⟩,⟨i,g,j,0⟩] sc pos) 1 it b env) R s)
  (h:wpAny (model prog w) A (pyIter it) (fun a d=>codeAny (model prog w) A (.compLoop (.ListComp c [⟨t1,i1,f1,0⟩,⟨i,g,j,0⟩] sc pos) 1 a b env) R d) (notedBy (model prog w) A env fun x d=>R (.error x) d) s) :
  codeAny (model prog w) A (.compStart (.ListComp c [⟨t1,i1,f1,0⟩,⟨i,g,j,0⟩] sc pos) 1 it b env) R s:=by
 refine codeAny_of_tree ?_
 show wpAny _ _ ((compStart (.ListComp c [⟨t1,i1,f1,0⟩,⟨i,g,j,0⟩] sc pos) 1 it b env).onRaise (fun x=>do noteFrame x env;standAt theWindowsPlace)) _ _ s
 refine wpAny_notedAt ?_
 unfold compStart
 show wpAny _ _ (ask >>= _) _ _ s
 apply aH1;apply wpAny_askSetting;apply wpAny_ite;split
 ·first | exact aH1 (aH2 (aH2 ⟨rfl,l⟩)) | exact aH2 ⟨rfl,l⟩
 ·have q:wpAny (model prog w) A (pyIter it >>= fun a=>again (.compLoop (.ListComp c [⟨t1,i1,f1,0⟩,⟨i,g,j,0⟩] sc pos) 1 a b env)) (fun fin d=>match fin with | .done f=>R (.ok f) d | .again c'=>c'.quiet=true/\codeAny (model prog w) A c' R d) (notedBy (model prog w) A env fun x d=>R (.error x) d) s :=
   aH1 (aI0 h (fun a d h'=>aH2 ⟨rfl,h'⟩) fun _ _ x=>x)
  first
   | exact aH1 (wpAny_rule (aH1 (wpAny_standAt (aH1 (aI0 h (fun a d h'=>aH2 ⟨rfl,h'⟩) fun _ _ x=>x)))))
   | (apply aH1;apply wpAny_rule;show wpAny _ _ (standAt g.pos >>= _) _ _ s;exact aH1 (wpAny_standAt (aH1 (aI0 h (fun a d h'=>aH2 ⟨rfl,h'⟩) fun _ _ x=>x))))
theorem an4 {X:Cx} {C t1 i1 tg iter:Expr} {f1 B:List Expr} {sc:Scope} {pos:Pos} {J:It} {fp:List Addr} {it:Addr} {tn:Nat->Heap->Prop} {g:TG} {F:TT} {te:TE} {a:Addr} {Qd:List V->St->Hp->Prop} {W:LW} {R:Result->Shared->Prop} {pins:List (Addr × Obj)}
  (T:Turn X.prog X.w X.K tg J fp it tn) (hc:X.calm=true) (p:∀ e s,¬ X.xe e s) (hg:PG X tg g) (a1:PIf X B F) (he:PE X C te)
  (G:amw J g F te a Qd W) (hR:∀ ys σ H s,Inv X pins σ H s->Qd ys σ H->R (.ok .next) s)
  {i m:Nat} {ys:List V} {σ:St} {H:Hp} {s:Shared} (I:Inv X pins σ H s) (st:tn i s.heap) (hf:∀ b∈fp,FpOk X pins H b) (w:W i m ys σ H) :
  codeAny (model X.prog X.w) X.A (.compLoop (.ListComp C [⟨t1,i1,f1,0⟩,⟨tg,iter,B,0⟩] sc pos) 1 (.ref it) (.ref a) X.env) R s:=by
 have c:∀ {H':Hp},(∀ b∈fp,H' b=none)->∀ b∈fp,FpOk X pins H' b:=fun hn b hb=>⟨hn b hb,(hf b hb).2⟩
 refine codeAny_loop rfl (fun n j=>∃ i ys h H',Inv X pins h H' j/\tn i j.heap/\(∀ b∈fp,H' b=none)/\W i n ys h H') ?_ m ⟨i,ys,σ,H,I,st,fun b hb=>(hf b hb).1,w⟩
 rintro n s1 ⟨i,ys,f,S,I1,N,O,w1⟩
 show wpAny _ X.A ((compTurn (.ListComp C [⟨t1,i1,f1,0⟩,⟨tg,iter,B,0⟩] sc pos) 1 (.ref it) (.ref a) X.env).onRaise (fun x=>do noteFrame x X.env;theTreesLotGoes x)) _ _ s1
 refine wpAny_noted ?_
 rw [ajb]
 refine aH1 (wpAny_standAt (aH1 ?_))
 obtain ⟨a2,⟨stop,qd⟩ | ⟨go,Nx,L,step⟩⟩:=G i n ys f S w1
 ·refine thn (T.done X rfl rfl rfl hc i pins s1 f S _ I1 (c O) N stop) fun r s2 ⟨hr,I2⟩=>?_
  subst hr
  exact aH2 (hR ys f S s2 I2 qd)
 ·refine thn (T.item X rfl rfl rfl hc i pins s1 f S _ I1 (c O) N go) fun r s2 ⟨u,hr,h2⟩=>?_
  subst hr
  refine aH1 (thn h2 fun _ s3 ⟨x,H3,I3,r3,y3,D,Z⟩=>?_)
  have a0:=I3.pinned (c Z) (T.obj _ _ D)
  refine aH1 (aI0 (hg _ s3 f H3 x u _ a0 r3 (step x H3 y3)) (fun _ s4 ⟨v,H4,I4,q4⟩=>?_) fun e j z=>(p e j z).elim)
  have q:∀ {l:St} {M:Hp} {E:Shared} {zs:List V},Inv X (pins ++ ady fp s3.heap) l M E->(∃ Q,Q < n/\W (i+1) Q zs l M)->∃ m,m < n/\∃ i ys h H',Inv X pins h H' E/\tn i E.heap/\(∀ b∈fp,H' b=none)/\W i m ys h H':=fun {l M E zs} P Y=>by
   obtain ⟨Q,hm,Y⟩:=Y
   refine ⟨Q,hm,i+1,zs,l,M,P.unpinned,T.keep _ _ _ D fun b hb o e=>(P.pin (b,o) (aA3 _ (aA3 _ (aby hb e)))).1,fun b hb=>?_,Y⟩
   obtain ⟨o,e,d⟩:=T.obj _ _ D b hb
   exact (P.pin (b,o) (aA3 _ (aA3 _ (aby hb e)))).2.1
  refine aH1 (aI0 (a1 _ s4 v H4 _ I4 q4) (fun b s5 ⟨H5,I5,U⟩=>?_) fun e j z=>(p e j z).elim)
  cases b with
  | false =>
   rw [aE0 aA0] at U
   exact aH2 ⟨rfl,q I5 (L _ _ _ U)⟩
  | true =>
   rw [aD9 rfl] at U
   refine aH1 (aH1 (aI0 (he _ s5 v H5 _ I5 U) (fun yv s6 ⟨y,H6,I6,r6,a6,l6,w6⟩=>?_) fun e j z=>(p e j z).elim))
   have ap:=aa6 (X:=X) _ s6 v H6 (.ref a) [y] (.ref a) [yv] (fun _ H'=>H'=upd H6 a (.lst (ys ++ [y]))) I6 rfl (.cons r6 .nil) ⟨a,ys,y,rfl,rfl,a6,l6,rfl⟩
   refine aH1 (aI0 ap (fun _ E ⟨v7,M,P,_,e7⟩=>?_) fun e j z=>(p e j z).elim)
   subst e7
   exact aH2 (aH2 ⟨rfl,q P (L _ _ _ w6)⟩)
theorem an5 {X:Cx} {B t1 i1 t2 L:Expr} {f1 f2:List Expr} {sc:Scope} {pos:Pos} {J:It} {fp:List Addr} {it:Addr} {tn:Nat->Heap->Prop} {g:TG} {M:TT} {Q:TI} {g2:TG} {v:TT} {te:TE} {D:Addr} {Qd:List V->Hp->Prop} {W:LW} {R:Result->Shared->Prop}
  (T:Turn X.prog X.w X.K t1 J fp it tn) (hc:X.calm=true) (p:∀ e s,¬ X.xe e s) (hg:PG X t1 g) (a5:PIf X f1 M) (a6:PI X t2 L Q) (a2:PG X t2 g2) (S:PIf X f2 v) (he:PE X B te)
  (a3:∀ x,foldedSetIterable L X.env x=pure x)
  (N:ahy J g M Q g2 v te D Qd W) (hR:∀ ys σ H s,Inv X [] σ H s->Qd ys H->R (.ok .next) s)
  {i m:Nat} {ys:List V} {σ:St} {H:Hp} {s:Shared} (I:Inv X [] σ H s) (st:tn i s.heap) (hf:∀ b∈fp,FpOk X [] H b) (w:W i m ys σ H) :
  codeAny (model X.prog X.w) X.A (.compLoop (.ListComp B [⟨t1,i1,f1,0⟩,⟨t2,L,f2,0⟩] sc pos) 0 (.ref it) (.ref D) X.env) R s:=by
 have j:∀ {H':Hp},(∀ b∈fp,H' b=none)->∀ b∈fp,FpOk X [] H' b:=fun hn b hb=>⟨hn b hb,(hf b hb).2⟩
 refine codeAny_loop rfl (fun n c=>∃ i ys a H',Inv X [] a H' c/\tn i c.heap/\(∀ b∈fp,H' b=none)/\W i n ys a H') ?_ m ⟨i,ys,σ,H,I,st,fun b hb=>(hf b hb).1,w⟩
 rintro n s1 ⟨i,ys,l,H1,I1,Y,Z,w1⟩
 show wpAny _ X.A ((compTurn (.ListComp B [⟨t1,i1,f1,0⟩,⟨t2,L,f2,0⟩] sc pos) 0 (.ref it) (.ref D) X.env).onRaise (fun x=>do noteFrame x X.env;theTreesLotGoes x)) _ _ s1
 refine wpAny_noted ?_
 rw [aja]
 refine aH1 (wpAny_standAt (aH1 ?_))
 obtain ⟨stop,qd⟩ | ⟨go,Nx,P,step⟩:=N i n ys l H1 w1
 ·refine thn (T.done X rfl rfl rfl hc i [] s1 l H1 _ I1 (j Z) Y stop) fun r s2 ⟨hr,I2⟩=>?_
  subst hr
  exact aH2 (hR ys l H1 s2 I2 qd)
 ·refine thn (T.item X rfl rfl rfl hc i [] s1 l H1 _ I1 (j Z) Y go) fun r s2 ⟨u,hr,h2⟩=>?_
  subst hr
  refine aH1 (thn h2 fun _ s3 ⟨x,H3,I3,r3,y3,C,a0⟩=>?_)
  have a4:=I3.pinned (j a0) (T.obj _ _ C)
  refine aH1 (aI0 (hg _ s3 l H3 x u _ a4 r3 (step x H3 y3)) (fun _ s4 ⟨F,H4,I4,q4⟩=>?_) fun e c z=>(p e c z).elim)
  have y:∀ {q:St} {U:Hp} {G:Shared} {zs:List V},Inv X ([] ++ ady fp s3.heap) q U G->(∃ m',m' < n/\W (i+1) m' zs q U)->∃ m,m < n/\∃ i ys a H',Inv X [] a H' G/\tn i G.heap/\(∀ b∈fp,H' b=none)/\W i m ys a H':=fun {q U G zs} I7 w7=>by
   obtain ⟨m',hm,w7⟩:=w7
   refine ⟨m',hm,i+1,zs,q,U,I7.unpinned,T.keep _ _ _ C fun b hb o e=>(I7.pin (b,o) (aA3 _ (aA3 _ (aby hb e)))).1,fun b hb=>?_,w7⟩
   obtain ⟨o,e,d⟩:=T.obj _ _ C b hb
   exact (I7.pin (b,o) (aA3 _ (aA3 _ (aby hb e)))).2.1
  refine aH1 (aI0 (a5 _ s4 F H4 _ I4 q4) (fun b s5 ⟨H5,I5,q5⟩=>?_) fun e c z=>(p e c z).elim)
  cases b with
  | false =>
   rw [aE0 aA0] at q5
   exact aH2 ⟨rfl,y I5 (P _ _ _ q5)⟩
  | true =>
   rw [aD9 rfl] at q5
   refine aH1 (aI0 (a6 _ s5 F H5 _ I5 q5) (fun xv s6 h6=>?_) fun e c z=>(p e c z).elim)
   refine aH1 (wpAny_standAt (aH1 ?_))
   rw [a3 xv]
   refine aH2 (aH1 (aH7 (aI0 h6 (fun b0 G h7=>?_) fun e c z=>(p e c z).elim)))
   obtain ⟨a7,b1,a8,J2,U,e,I7,T2,O,a1,W2,⟨m2,w2⟩,E⟩:=h7
   subst e
   refine aH1 (wpAny_runOwn ?_)
   have loop:=an4 (R:=fun r c=>match r with | .ok f=>(∃ m,m < n/\∃ i ys a H',Inv X [] a H' c/\tn i c.heap/\(∀ b∈fp,H' b=none)/\W i m ys a H') | .error e=>False) (t1:=t1) (i1:=i1) (f1:=f1) (iter:=L) (sc:=sc) (pos:=pos) T2 hc p a2 S he E (fun b2 a9 H8 s8 I8 q8=>y I8 (P _ _ _ q8)) I7 O a1 w2
   have st:=apk loop (T2.self _ 0 _ _ _ O loop)
   refine aH6 st fun r c h=>?_
   cases r with
   | error e=>exact h.elim
   | ok f=>exact aH2 ⟨rfl,h⟩
def tLC2 (src:List (Option Nat)) (wi:TI) (g:TG) (tif:TT) (wi2:TI) (g2:TG) (tif2:TT) (te:TE):TE:=fun σ H Q=>wi σ H fun J H1=>∀ acc,H1 acc=none->∃ W:LW,(∃ m,W 0 m [] (pick src σ) (upd H1 acc (.lst [])))/\ahy J g tif wi2 g2 tif2 te acc (fun _ H'=>Q (.ref acc) H') W
section
variable {X:Cx} {N:List Str} {t1 i1 t2 i2 elt:Expr} {f1 f2:List Expr} {sc:Scope} {src:List (Option Nat)} {wi wi2:TI} {g g2:TG} {tif tif2:TT} {te:TE} {pos:Pos}
theorem ard (hc:X.calm=true) (L:LcOk X N sc src) (hg:∀ C h f ex,PG (X.comp N sc C h f ex) t1 g) (Z:∀ C h f ex,PIf (X.comp N sc C h f ex) f1 tif) (a0:∀ C h f ex,PI (X.comp N sc C h f ex) t2 i2 wi2) (Y:∀ C h f ex,PG (X.comp N sc C h f ex) t2 g2) (B:∀ C h f ex,PIf (X.comp N sc C h f ex) f2 tif2) (he:∀ C h f ex,PE (X.comp N sc C h f ex) elt te)
  (M:∀ C h f ex x,foldedSetIterable i2 (X.comp N sc C h f ex).env x=pure x)
  {pins:List (Addr × Obj)} {d:Shared} {σ:St} {H3:Hp} {Q:VK} (q:Inv X pins σ H3 d) {it a:Addr} {fp:List Addr} {J:It} {tn:Nat->Heap->Prop} (T:Turn X.prog X.w X.K t1 J fp it tn) (r:tn 0 d.heap) (n:∀ b∈fp,FpOk X pins H3 b)
  {W:LW} {m0:Nat} (w0:W 0 m0 [] (pick src σ) H3) (G:ahy J g tif wi2 g2 tif2 te a (fun _ H'=>Q (.ref a) H') W) (use:Option (Value->Sem Unit)) (P:Value->Shared->Prop)
  (hP:∀ C H' i m,Inv X pins σ H' i->Q (.ref a) H'->i.heap.Ns C m->H' C=none->C ≠ X.env.locals->(C∈X.ex\/X.s₀.heap.objs.size<=C)->(∀ x c,X.env.cells.lookup x=some c->c ≠ C)->(∀ p∈X.pn ++ pins,p.1 ≠ C) ->
   compPost (model X.prog X.w) X.A X.xe use P (.ref a) C (.ok .next) i) :
  wpAny (model X.prog X.w) X.A (newFunctionEnv sc X.env.globals (clos X.env sc.names []) [] X.env.qual none .none (some X.env)) (fun j s =>
    codeAny (model X.prog X.w) X.A (.compStart (.ListComp elt [⟨t1,i1,f1,0⟩,⟨t2,i2,f2,0⟩] sc pos) 0 (.ref it) (.ref a) { j with scope:=relabel sc X.env }) (compPost (model X.prog X.w) X.A X.xe use P (.ref a) j.locals) s) X.xe d:=by
 refine wpAny_newFunctionEnv L.nocell (by intro y hy;simp at hy) (fun O H F=>?_) L.kind
 have R:∀ b∈fp,b < d.heap.objs.size:=fun b hb=>by
  obtain ⟨o,U,_⟩:=T.obj _ _ r b hb
  exact aH4 U
 have E:∀ b o,d.heap.get? b=some o->O.get? b=some o:=fun b o e=>F.extBut b o (aA6 (aH4 e)) (aH3 _ e)
 have I:=ako (t':=d.toks+([]:List (Str × Value)).length) L q n R (by simpa using H) E
 have u:tn 0 O:=T.keep _ _ _ r fun b _ o e=>E b o e
 have f4:∀ b∈fp,FpOk (X.comp N sc d.heap.objs.size d H3 fp) [] H3 b:=fun b hb =>
  ⟨(n b hb).1,(I.ok.exf b hb).1,I.ok.exfs b hb,.inl hb,(I.ok.exf b hb).2,fun p S=>absurd (show p∈([]:List (Addr × Obj)) from S) (by simp)⟩
 have fin:∀ (ys:List V) D H' i,Inv (X.comp N sc d.heap.objs.size d H3 fp) [] D H' i->Q (.ref a) H'->compPost (model X.prog X.w) X.A X.xe use P (.ref a) d.heap.objs.size (.ok .next) i:=fun ys D H' i l q'=>by
  have Jo:Inv X pins σ H' i:=q.call' (ch:=fp) l.os l.base l.hok l.bare fun b hb=>⟨(n b hb).2.2.2.1,(n b hb).2.1,(n b hb).2.2.2.2.1,(n b hb).2.2.2.2.2⟩
  obtain ⟨m,hn,_⟩:=l.loc
  refine hP _ H' i m Jo q' hn l.free (Nat.ne_of_gt q.lt) (.inr q.sz) (fun x c e z=>?_) fun p S z=>?_
  ·obtain ⟨v,o,U,_⟩:=q.cell x c e
   exact absurd (aH4 U) (by rw [z];exact aE8 _)
  ·exact absurd (aH4 (q.pin p S).1) (by rw [z];exact aE8 _)
 have loop:codeAny (model X.prog X.w) X.A (.compLoop (.ListComp elt [⟨t1,i1,f1,0⟩,⟨t2,i2,f2,0⟩] sc pos) 0 (.ref it) (.ref a) (X.comp N sc d.heap.objs.size d H3 fp).env)
   (compPost (model X.prog X.w) X.A X.xe use P (.ref a) d.heap.objs.size) { d with heap:=O,toks:=d.toks+([]:List (Str × Value)).length } :=
  an5 (X:=X.comp N sc d.heap.objs.size d H3 fp) T hc (fun _ _ z=>z) (hg _ _ _ _) (Z _ _ _ _) (a0 _ _ _ _) (Y _ _ _ _) (B _ _ _ _) (he _ _ _ _) (M _ _ _ _) G fin I u f4 w0
 exact codeAny_compStart_list loop (T.self _ 0 _ _ _ u loop)
theorem aww (U:X.calm=true) (L:LcOk X N sc src) (hi:PI X t1 i1 wi) (G:∀ C c a ex,PG (X.comp N sc C c a ex) t1 g) (y:∀ C c a ex,PIf (X.comp N sc C c a ex) f1 tif) (z:∀ C c a ex,PI (X.comp N sc C c a ex) t2 i2 wi2) (w:∀ C c a ex,PG (X.comp N sc C c a ex) t2 g2) (i:∀ C c a ex,PIf (X.comp N sc C c a ex) f2 tif2) (D:∀ C c a ex,PE (X.comp N sc C c a ex) elt te)
  (hs:∀ x,foldedSetIterable i1 X.env x=pure x:=by intro _;rfl) (p:∀ C c a ex x,foldedSetIterable i2 (X.comp N sc C c a ex).env x=pure x:=by intros;rfl):PE X (.ListComp elt [⟨t1,i1,f1,0⟩,⟨t2,i2,f2,0⟩] sc pos) (tLC2 src wi g tif wi2 g2 tif2 te):=by
 intro pins s σ H Q I h
 rw [eval_ListComp]
 refine wpAny_comprehension_free rfl hs (L.clo I.ok) L.kind L.own (thn (hi pins s σ H _ I h) fun v s1 P=>thn P fun B s2 F=>?_)
 obtain ⟨it,fp,tn,J,H2,e,A,T,l,f,K⟩:=F
 subst e
 have d:H2 s2.heap.objs.size=none:=A.hok.fresh (az6 _)
 obtain ⟨W,⟨m0,R⟩,j⟩:=K s2.heap.objs.size d
 have r:∀ b∈fp,b < s2.heap.objs.size:=fun b hb=>by
  obtain ⟨o,O,_⟩:=T.obj _ _ l b hb
  exact aH4 O
 refine aI1 ?_
 refine ard (pins:=pins) U L G y z w i D p (H3:=upd H2 s2.heap.objs.size (.lst [])) ?_ T ?_ ?_ R j none _ ?_
 ·exact A.laid (t':=s2.toks) (fun b u e=>aH3 _ e) (az6 _) ⟨aE4 _,[],0,.nil,aH5 _ rfl⟩
 ·exact T.keep _ _ _ l fun b _ o e=>aH3 _ e
 ·exact fun b hb=>⟨by rw [aag (aA6 (r b hb))];exact (f b hb).1,(f b hb).2⟩
 ·intro C H' Y m J q hn E S Z n M
  refine ⟨m,hn,fun h' sb=>⟨.ref s2.heap.objs.size,H',?_,rfl,q⟩⟩
  exact J.turned (t':=Y.toks) (fun b o hb e=>sb.extBut b o hb e) E S Z n M
end
def rLen (K:Frag):List V->Hp->VK->Prop:=fun xs H Q=>∃ p ys,xs=[.ref p]/\(SqL K H p ys\/SqT K H p ys)/\Q (.int ys.length) H
theorem aa7 {X:Cx}:abh X (.builtin "len") (rLen X.K):=akh
def aj1:List V->Hp->VK->Prop:=fun xs H Q=>∃ i j,xs=[.int i,.int j]/\Q (.int (if j > i then j else i)) H
def aj2:List V->Hp->VK->Prop:=fun xs H Q=>∃ i j,xs=[.int i,.int j]/\Q (.int (if j < i then j else i)) H
theorem adn {X:Cx} (a:X.calm=true):abh X (.builtin "max") aj1:=ao6 a
theorem ahb {X:Cx} (a:X.calm=true):abh X (.builtin "min") aj2:=ao7 a
def aj3:List V->Hp->VK->Prop:=fun xs H Q=>(∃ i,xs=[.int i]/\Q (.int i) H)\/∃ k,xs=[.bl k]/\Q (.int (if k then 1 else 0)) H
theorem an6 {X:Cx}:abh X (.type "int") aj3:=ao8
section
variable {σ:St} {H:Hp} {D:Ends} {K:Frag}
theorem amx {i:Nat} {v:V} {Q:St->Hp->Prop} (h:Q (σ.set i (some v)) H):aa1 i v σ H Q:=h
theorem apl {Q:List V->Hp->Prop} (h:Q [] H):tNil σ H Q:=h
theorem awx {t:TA} {Q:VK} (h:t σ H fun xs a=>xs.length<=sizeLine/\∀ p,a p=none->Q (.ref p) (upd a p (.lst xs))):tLst t σ H Q:=h
theorem apm {i j:Int} {Q:VK} (h:Q (.bl (decide (i=j))) H):rEq (.int i) (.int j) H Q:=by
 have e:decide (V.int i=V.int j)=decide (i=j):=by rw [af0];exact Bool.beq_eq_decide_eq i j
 exact ⟨rfl,by rw [e];exact h⟩
theorem awy {i j:Int} {Q:VK} (h:Q (.bl (!decide (i=j))) H):rNe (.int i) (.int j) H Q:=by
 have e:decide (V.int i=V.int j)=decide (i=j):=by rw [af0];exact Bool.beq_eq_decide_eq i j
 exact ⟨rfl,by rw [e];exact h⟩
theorem awz {a:Addr} {xs:List V} {i:Int} {v:V} {Q:VK} (ha:H a=some (.lst xs)) (b:atI xs i=some v) (h:Q v H):rIxL K (.ref a) (.int i) H Q:=⟨a,xs,i,v,rfl,rfl,SqL.of ha,b,h⟩
theorem aw0 {a:Addr} {xs:List V} {i:Int} {v:V} {Q:VK} (ha:H a=some (.tup xs)) (b:atI xs i=some v) (h:Q v H):rIxT K (.ref a) (.int i) H Q:=⟨a,xs,i,v,rfl,rfl,SqT.of ha,b,h⟩
theorem amy {a:Addr} {xs:List V} {k:Int} {j:Nat} {v:V} {Q:Hp->Prop} (ha:H a=some (.lst xs)) (b:ixN xs.length k=some j) (h:Q (upd H a (.lst (xs.set j v)))):an2 (.ref a) (.int k) v H Q:=⟨a,xs,k,j,rfl,rfl,ha,b,h⟩
theorem afj {a:Addr} {xs:List V} {y:V} {Q:VK} (ha:H a=some (.lst xs)) (b:xs.length < sizeLine) (h:Q .non (upd H a (.lst (xs ++ [y])))):aem (.ref a) [y] H Q:=⟨a,xs,y,rfl,rfl,ha,b,h⟩
theorem aw1 {a b:Addr} {xs c:List V} {Q:VK} (ha:H a=some (.lst xs)) (hb:H b=some (.lst c)) (d:xs.length+c.length<=sizeLine) (h:∀ p,H p=none->Q (.ref p) (upd H p (.lst (xs ++ c)))):rCat (.ref a) (.ref b) H Q:=⟨a,b,xs,c,rfl,rfl,ha,hb,d,h⟩
theorem amz {a:Addr} {xs:List V} {Q:VK} (ha:H a=some (.lst xs)) (h:Q (.int xs.length) H):rLen K [.ref a] H Q:=⟨a,xs,rfl,.inl (SqL.of ha),h⟩
theorem auc {a:Addr} {xs:List V} {Q:VK} (ha:H a=some (.tup xs)) (h:Q (.int xs.length) H):rLen K [.ref a] H Q:=⟨a,xs,rfl,.inr (SqT.of ha),h⟩
theorem am0 {i j:Int} {Q:VK} (h:Q (.int (if j > i then j else i)) H):aj1 [.int i,.int j] H Q:=⟨i,j,rfl,h⟩
theorem am1 {i j:Int} {Q:VK} (h:Q (.int (if j < i then j else i)) H):aj2 [.int i,.int j] H Q:=⟨i,j,rfl,h⟩
theorem am2 {k:Bool} {Q:VK} (h:Q (.int (if k then 1 else 0)) H):aj3 [.bl k] H Q:=.inr ⟨k,rfl,h⟩
theorem ahz {c:Prop} [Decidable c] {A B:Prop} (a:c) (h:A):if decide c=true then A else B:=by rw [aC6 a];exact iteT h
theorem ah0 {c:Prop} [Decidable c] {A B:Prop} (a:¬ c) (h:B):if decide c=true then A else B:=by rw [aC5 a];exact iteF h
theorem aba {c:Prop} [Decidable c] {A B:Prop} (a:c->A) (b:¬ c->B):if decide c=true then A else B:=by
 by_cases hc:c
 ·exact ahz hc (a hc)
 ·exact ah0 hc (b hc)
end
structure CallOk (P:Program) (w:World) (K:Frag) (mg:Str->Option Value) (base:Heap) (x:Str) (k:Nat) (ps:List Str) (sp:Sp) (f:Addr) (fd:FuncData):Prop where
 ok:FnOk P w K mg base CX0 k f fd ps sp
 mgx:mg x=some (.ref f)
 kp:keepIn K (.ref f)=true
 bd:Binds K fd ps []
def Can (P:Program) (w:World) (K:Frag) (mg:Str->Option Value) (base:Heap) (x:Str) (k:Nat) (ps:List Str) (sp:Sp):Prop:=∃ f fd,CallOk P w K mg base x k ps sp f fd
structure DefAt (K:Frag) (mg:Str->Option Value) (x:Str) (st:Stmt) (ps:List Str) (f:Addr) (fd:FuncData):Prop where
 fn:Fun K x x st f fd
 mgx:mg x=some (.ref f)
 bd:Binds K fd ps []
theorem DefAt.can {P:Program} {w:World} {K:Frag} {mg:Str->Option Value} {base:Heap} {x:Str} {st:Stmt} {k:Nat} {ps:List Str} {sp:Sp} {f:Addr} {fd:FuncData} (D:DefAt K mg x st ps f fd) (ok:FnOk P w K mg base CX0 k f fd ps sp):Can P w K mg base x k ps sp :=
 ⟨f,fd,ok,D.mgx,D.fn.kp,D.bd⟩
section
variable {X:Cx} {k j:Nat} {ps:List Str} {sp:Sp} {x:Str} {p pos:Pos} {e:Expr} {es:List Expr} {t:TA}
theorem aav (F:Can X.prog X.w X.K X.mg X.base x k ps sp) (g:Room j X.A) (ha:PA X (e :: es) t) (c:k<=j:=by decide) (d:Gl X x:=by rfl) (b:(x == ("__debug__" : Str))=false:=by decide)
  (h:starEach (e :: es) X.env=(false,eval e X.env) :: starEach es X.env:=by rfl) (a:(backTo pos (starEach es X.env)).any (·.1)=false:=by rfl) :
  PE X (.Call (.Name x p) (e :: es) [] pos) (aey sp [] E0 t):=by
 obtain ⟨f,fd,C⟩:=F
 exact at3 C.ok (g.mono c) d C.mgx C.kp C.bd .nil ayo ha b h a
end
theorem abw {X:Cx} {N:List Str} {sc:Scope} {src:List (Option Nat)} (f:sc.kind=.function) (h:sc.names.all (fun y=>y.2 != .cell)=true) (l:sc.names.all (fun y=>y.2 != .local || sc.names.lookup y.1 == some .local)=true)
  (b:sc.names.all (fun y=>y.2 != .free || X.env.kindOf y.1 == some .cell || X.env.kindOf y.1 == some .free)=true) (d:src.length=N.length)
  (g:(List.range src.length).all (fun i=>match src[i]? with | some (some j)=>(match N[i]?,X.N[j]? with | some x,some y=>x == y && sc.names.lookup x == some .free | _,_=>false) | _=>true)=true):LcOk X N sc src:=by
 refine ⟨f,fun y a e=>?_,fun y a e=>?_,fun y a e=>?_,d,fun i j e=>?_⟩
 ·have:=aD8.mp h y a
  rw [e] at this
  exact absurd this (by decide)
 ·have:=aD8.mp l y a
  rw [e] at this
  simpa using this
 ·have:=aD8.mp b y a
  rw [e] at this
  simpa using this
 ·have hi:i < src.length:=(az1.mp e).1
  have:=aD8.mp g i (aA9.mpr hi)
  rw [e] at this
  dsimp only at this
  cases h7:N[i]? with
  | none=>rw [h7] at this;cases this
  | some x =>
   cases h8:X.N[j]? with
   | none=>rw [h7,h8] at this;cases this
   | some y =>
    rw [h7,h8] at this
    simp only [aF5] at this
    have c:x=y:=by simpa using this.1
    subst c
    exact ⟨x,rfl,rfl,by simpa using this.2⟩
section
variable {σ:St} {H:Hp} {D:Ends} {K:Frag}
theorem apn {Q:Bool->Hp->Prop} (h:Q true H):tYes σ H Q:=h
theorem arf {a:Addr} {xs:List V} {i:Int} {k:Nat} {y:V} {Q:VK} (ha:H a=some (.lst xs)) (b : -(2 ^ 63)<=i) (d:i < 2 ^ 63) (f:seqIndex? i xs.length=some k) (c:xs[k]?=some y) (h:Q y (upd H a (.lst (xs.eraseIdx k)))):akj (.ref a) [.int i] H Q :=
 ⟨a,xs,i,k,y,rfl,rfl,ha,b,d,f,c,h⟩
end
end L2
namespace L2
open PySem
theorem abu:bootBuiltins "len" = some (.builtin "len"):=by decide +kernel
theorem aep:bootBuiltins "max" = some (.builtin "max"):=by decide +kernel
theorem apo:bootBuiltins "min" = some (.builtin "min"):=by decide +kernel
theorem acq:bootBuiltins "sorted" = some (.builtin "sorted"):=by decide +kernel
theorem aca:bootBuiltins "isinstance" = some (.builtin "isinstance"):=by decide +kernel
theorem akr:bootBuiltins "all" = some (.builtin "all"):=by decide +kernel
theorem apq:bootBuiltins "int" = some (.type "int"):=by decide +kernel
theorem af6:bootBuiltins "list" = some (.type "list"):=by decide +kernel
theorem apr:bootBuiltins "set" = some (.type "set"):=by decide +kernel
theorem arh:bootBuiltins "tuple" = some (.type "tuple"):=by decide +kernel
theorem aks:bootBuiltins "enumerate" = some (.type "enumerate"):=by decide +kernel
theorem am3:bootBuiltins "bool" = some (.type "bool"):=by decide +kernel
end L2
namespace TS
open PySem PyProof.Rows
def ah1:Bool->Keyed->Array Keyed->Nat->Nat->Nat->StateT SortSt Sem (Option Nat):=sortPriv% PySem.Builtin.gallop
def ari:Array Keyed->Array Keyed->StateT SortSt Sem (Array Keyed):=sortPriv% PySem.Builtin.mergeLo
def arj:Array Keyed->Array Keyed->StateT SortSt Sem (Array Keyed):=sortPriv% PySem.Builtin.mergeHi
def akt:Nat->StateT SortSt Sem Bool:=sortPriv% PySem.Builtin.mergeAt
def aud:Nat->Nat->StateT SortSt Sem (Option Nat):=sortPriv% PySem.Builtin.countRun
def ark:Nat->Nat->Nat->StateT SortSt Sem Bool:=sortPriv% PySem.Builtin.binarySort
def ayp:StateT SortSt Sem Unit:=sortPriv% PySem.Builtin.sortRuns
structure Cmp (M:Model) (A:Around) (E:Value->Shared->Prop) (s:Shared) (κ:SortKind) (S:Keyed->Prop) (R:Keyed->Keyed->Bool):Prop where
 ask:∀ x y,S x->S y->∀ (Q:Option Bool->SortSt->Prop) (st:SortSt),kindOf st = κ->Q (some (R x y)) st->wpS M A E s (lt' x y) Q st
 asy:∀ x y,S x->S y->R x y=true->R y x=false
 tr:∀ x y z,S x->S y->S z->R y x=false->R z y=false->R z x=false
section
variable {M:Model} {A:Around} {E:Value->Shared->Prop} {s:Shared} {κ:SortKind} {S:Keyed->Prop} {R:Keyed->Keyed->Bool}
theorem aay {arr:Array Keyed} {i:Nat} {x:Keyed} {Q:Keyed->SortSt->Prop} {st:SortSt} (a:arr[i]?=some x) (h:Q x st):wpS M A E s (elem' arr i) Q st:=by
 rw [elem'_eq,a]
 exact wpS_pure h
theorem acx {x:String} {Q:Unit->SortSt->Prop} {st:SortSt} (h:Q () st):wpS M A E s (liftM (PySem.rule x):StateT SortSt Sem Unit) Q st :=
 wpS_lift (wpAny_rule ⟨rfl,h⟩)
def bey (left:Bool) (key:Keyed) (arr:Array Keyed) (base i:Nat):StateT SortSt Sem (Option Bool):=do
 let x ← elem' arr (base+i)
 if left=true then lt' x key else do
  let r ← lt' key x
  pure (Option.map (fun b => !b) r)
theorem ait {left:Bool} {p:Keyed} {arr:Array Keyed} {base n a:Nat} {B:Nat->Bool}
  (hb:∀ i,i < n->∀ (Q:Option Bool->SortSt->Prop) (st:SortSt),kindOf st = κ->Q (some (B i)) st->wpS M A E s (bey left p arr base i) Q st)
  (mono:∀ i j,i < j->j < n->B j=true->B i=true) (hh:a < n) {Q:Option Nat->SortSt->Prop} {st:SortSt} (x:kindOf st = κ)
  (h:∀ k,k<=n->(∀ i,i < k->B i=true)->(∀ i,k<=i->i < n->B i=false)->Q (some k) st):wpS M A E s (ah1 left p arr base n a) Q st:=by
 have c:∀ i j,i < j->j < n->B i=false->B j=false:=fun i j y G hi=>by
  cases e:B j with
  | false=>rfl
  | true=>rw [mono i j y G e] at hi;cases hi
 -- the last loop
 have last:∀ (lo hi:Nat) (F:Option (Option Nat) × Nat × Nat->StateT SortSt Sem (Option Nat)),lo<=hi->hi<=n->(∀ i,i < lo->B i=true)->(∀ i,hi<=i->i < n->B i=false) ->
   (∀ lo hi,F (none,lo,hi)=pure (some hi)) ->
   wpS M A E s (forIn [:n] ((none,lo,hi):Option (Option Nat) × Nat × Nat) (fun (_:Nat) z=>if z.2.1 ≥ z.2.2 then pure (ForInStep.done (none,z.2.1,z.2.2)) else bey left p arr base (z.2.1+(z.2.2 - z.2.1) / 2) >>= fun r=>match r with
    | some more=>if more=true then pure (ForInStep.yield (none,z.2.1+(z.2.2 - z.2.1) / 2+1,z.2.2)) else pure (ForInStep.yield (none,z.2.1,z.2.1+(z.2.2 - z.2.1) / 2))
    | _=>pure (ForInStep.done (some none,z.2.1,z.2.2))) >>= F) Q st:=by
  intro lo hi F K H L I D
  refine wpS_bind (wpS_forRange (fun t z st'=>st'=st/\z.1=none/\z.2.1<=z.2.2/\z.2.2<=n/\z.2.2 - z.2.1+t<=n/\(∀ i,i < z.2.1->B i=true)/\(∀ i,z.2.2<=i->i < n->B i=false)) ?_ ?_ ⟨rfl,rfl,K,H,by dsimp only;omega,L,I⟩)
  ·rintro t ⟨o,l,u⟩ st' _ C ⟨rfl,e,q,d,b,g,w⟩
   dsimp only at e q d b g w ⊢
   subst e
   by_cases hlu:l ≥ u
   ·rw [aD9 hlu]
    have:l=u:=by omega
    subst this
    exact wpS_pure (by dsimp only;rw [D];exact wpS_pure (h l d g w))
   ·rw [aE0 hlu]
    have hm:l+(u - l) / 2 < u:=by omega
    refine wpS_bind (hb _ (by omega) _ _ x ?_)
    dsimp only
    cases e:B (l+(u - l) / 2) with
    | true =>
     rw [aD9 rfl]
     refine wpS_pure ⟨rfl,rfl,by dsimp only;omega,d,by dsimp only;omega,fun i hi=>?_,w⟩
     dsimp only at hi
     by_cases hi2:i=l+(u - l) / 2
     ·rw [hi2];exact e
     ·exact mono i _ (by omega) (by omega) e
    | false =>
     rw [aE0 (by simp)]
     refine wpS_pure ⟨rfl,rfl,by dsimp only;omega,by dsimp only;omega,by dsimp only;omega,g,fun i hi hn=>?_⟩
     dsimp only at hi
     by_cases hi2:i=l+(u - l) / 2
     ·rw [hi2];exact e
     ·exact c _ i (by omega) hn e
  ·rintro ⟨o,l,u⟩ st' ⟨rfl,e,q,d,b,g,w⟩
   dsimp only at e q d b g w ⊢
   subst e
   have : l = u := by have:n ≤ max 0 n := by omega
                      omega
   subst this
   rw [D]
   exact wpS_pure (h l d g w)
 refine wpS_bind (f:=fun J=>_) (m:=bey left p arr base a) (hb a hh _ st x ?_)
 dsimp only
 cases e0:B a with
 | true =>
  rw [aD9 rfl]
  refine wpS_bind ?_
  refine wpS_forRange (fun t (z:Option (Option Nat) × Nat × Nat) st'=>st'=st/\z.1=none/\z.2.1 < z.2.2/\a+z.2.1 < n/\B (a+z.2.1)=true/\t+1<=z.2.2) ?_ ?_ ⟨rfl,rfl,by decide,by dsimp only;omega,e0,Nat.le_refl _⟩
  ·rintro t ⟨o,l,u⟩ st' _ C ⟨rfl,e,q,d,b,g⟩
   dsimp only at e q d b g ⊢
   subst e
   by_cases hu:u ≥ n - a
   ·rw [aD9 hu]
    refine wpS_pure ?_
    dsimp only
    refine last _ _ _ (by omega) (by omega) (fun i hi=>?_) (fun i hi hn=>by omega) (fun _ _=>rfl)
    by_cases hi2:i=a+l
    ·rw [hi2];exact b
    ·exact mono i _ (by omega) d b
   ·rw [aE0 hu]
    refine wpS_bind (m:=bey left p arr base (a+u)) (hb _ (by omega) _ _ x ?_)
    dsimp only
    cases e1:B (a+u) with
    | true =>
     rw [aE0 (by decide)]
     exact wpS_pure ⟨rfl,rfl,by dsimp only;omega,by dsimp only;omega,e1,by dsimp only;omega⟩
    | false =>
     rw [aD9 (by decide)]
     refine wpS_pure ?_
     dsimp only
     refine last _ _ _ (by omega) (by omega) (fun i hi=>?_) (fun i hi hn=>?_) (fun _ _=>rfl)
     ·by_cases hi2:i=a+l
      ·rw [hi2];exact b
      ·exact mono i _ (by omega) d b
     ·by_cases hi2:i=a+u
      ·rw [hi2];exact e1
      ·exact c _ i (by omega) hn e1
  ·rintro ⟨o,l,u⟩ st' ⟨rfl,e,q,d,b,g⟩
   dsimp only at e q d b g ⊢
   subst e
   dsimp only
   refine last _ _ _ (by omega) (by omega) (fun i hi=>?_) (fun i hi hn=>by omega) (fun _ _=>rfl)
   by_cases hi2:i=a+l
   ·rw [hi2];exact b
   ·exact mono i _ (by omega) d b
 | false =>
  rw [aE0 (by decide)]
  refine wpS_bind ?_
  refine wpS_forRange (fun t (z:Option (Option Nat) × Nat × Nat) st'=>st'=st/\z.1=none/\z.2.1 < z.2.2/\z.2.1<=a/\B (a - z.2.1)=false/\t+1<=z.2.2) ?_ ?_ ⟨rfl,rfl,by decide,aE4 _,e0,az6 _⟩
  ·rintro t ⟨o,l,u⟩ st' _ C ⟨rfl,e,q,d,b,g⟩
   dsimp only at e q d b g ⊢
   subst e
   have v:∀ i,a - l<=i->i < n->B i=false:=fun i hi hn=>by
    by_cases hi2:i=a - l
    ·rw [hi2];exact b
    ·exact c _ i (by omega) hn b
   by_cases hu:u ≥ a+1
   ·rw [aD9 hu]
    refine wpS_pure ?_
    dsimp only
    exact last _ _ _ (by omega) (by omega) (fun i hi=>by omega) v (fun _ _=>rfl)
   ·rw [aE0 hu]
    refine wpS_bind (m:=bey left p arr base (a - u)) (hb _ (by omega) _ _ x ?_)
    dsimp only
    cases e1:B (a - u) with
    | true =>
     rw [aD9 rfl]
     refine wpS_pure ?_
     dsimp only
     refine last _ _ _ (by omega) (by omega) (fun i hi=>?_) v (fun _ _=>rfl)
     by_cases hi2:i=a - u
     ·rw [hi2];exact e1
     ·exact mono i _ (by omega) (by omega) e1
    | false =>
     rw [aE0 (by decide)]
     exact wpS_pure ⟨rfl,rfl,by dsimp only;omega,by dsimp only;omega,e1,by dsimp only;omega⟩
  ·rintro ⟨o,l,u⟩ st' ⟨rfl,e,q,d,b,g⟩
   dsimp only at e q d b g ⊢
   subst e
   dsimp only
   refine last _ _ _ (by omega) (by omega) (fun i hi=>by omega) (fun i hi hn=>?_) (fun _ _=>rfl)
   by_cases hi2:i=a - l
   ·rw [hi2];exact b
   ·exact c _ i (by omega) hn b
end
def Srt (R:Keyed->Keyed->Bool) (l:List Keyed):Prop:=l.Pairwise fun x y=>R y x=false
structure Mid (R:Keyed->Keyed->Bool) (L out a b:List Keyed):Prop where
 perm:(out ++ a ++ b).Perm L
 so:Srt R out
 le:∀ x∈out,∀ y∈a ++ b,R y x=false
 sa:Srt R a
 sb:Srt R b
section
variable {R:Keyed->Keyed->Bool} {L out a b p:List Keyed}
theorem Mid.takeA (m:Mid R L out (p ++ a) b) (h:∀ x∈p,∀ y∈b,R y x=false):Mid R L (out ++ p) a b:=by
 have sp:=aB9.mp m.sa
 refine ⟨by have:=m.perm;rw [← aA4] at this;exact this,aB9.mpr ⟨m.so,sp.1,fun x d y c=>m.le x d y (aB7 _ (aB7 _ c))⟩,fun x d y c=>?_,sp.2.1,m.sb⟩
 rcases az7.mp d with d | d
 ·refine m.le x d y ?_
  rcases az7.mp c with c | c
  ·exact aB7 _ (aA3 _ c)
  ·exact aA3 _ c
 ·rcases az7.mp c with c | c
  ·exact sp.2.2 x d y c
  ·exact h x d y c
theorem Mid.takeB (m:Mid R L out a (p ++ b)) (h:∀ x∈p,∀ y∈a,R y x=false):Mid R L (out ++ p) a b:=by
 have sp:=aB9.mp m.sb
 refine ⟨List.Perm.trans ?_ m.perm,aB9.mpr ⟨m.so,sp.1,fun x d y c=>m.le x d y (aA3 _ (aB7 _ c))⟩,fun x d y c=>?_,m.sa,sp.2.1⟩
 ·rw [← aA4 (out ++ a) p b]
  refine List.Perm.append_right b ?_
  rw [aA4,aA4]
  exact List.Perm.append_left out List.perm_append_comm
 ·rcases az7.mp d with d | d
  ·refine m.le x d y ?_
   rcases az7.mp c with c | c
   ·exact aB7 _ c
   ·exact aA3 _ (aA3 _ c)
  ·rcases az7.mp c with c | c
   ·exact h x d y c
   ·exact sp.2.2 x d y c
theorem Mid.done (m:Mid R L out a b) (h:a=[]\/b=[]):(out ++ a ++ b).Perm L/\Srt R (out ++ a ++ b):=by
 refine ⟨m.perm,?_⟩
 rw [aA4]
 refine aB9.mpr ⟨m.so,?_,m.le⟩
 rcases h with h | h
 ·subst h;exact m.sb
 ·subst h;rw [aD4];exact m.sa
theorem Mid.last (m:Mid R L out a b) (h:∀ y∈b,∀ x∈a,R x y=false):(out ++ b ++ a).Perm L/\Srt R (out ++ b ++ a):=by
 refine ⟨List.Perm.trans ?_ m.perm,?_⟩
 ·rw [aA4,aA4]
  exact List.Perm.append_left out List.perm_append_comm
 ·rw [aA4]
  refine aB9.mpr ⟨m.so,aB9.mpr ⟨m.sb,m.sa,h⟩,fun x d y c=>m.le x d y ?_⟩
  rcases az7.mp c with c | c
  ·exact aA3 _ c
  ·exact aB7 _ c
end
structure Eqv (st st':SortSt):Prop where
 k:kindOf st'=kindOf st
 a:arrOf st'=arrOf st
 p:pendingOf st'=pendingOf st
 f:failedOf st'=failedOf st
theorem Eqv.refl (st:SortSt):Eqv st st:=⟨rfl,rfl,rfl,rfl⟩
theorem Eqv.trans {a b c:SortSt} (h:Eqv a b) (g:Eqv b c):Eqv a c:=⟨g.k.trans h.k,g.a.trans h.a,g.p.trans h.p,g.f.trans h.f⟩
theorem af7 (a:Array Keyed) (i:Nat):(a.extract i a.size).toList=a.toList.drop i:=by
 rw [Array.toList_extract];simp only [List.extract_eq_take_drop];exact aD5 (by simp)
theorem ah2 (a:Array Keyed) (i k:Nat):(a.extract i (i+k)).toList=(a.toList.drop i).take k:=by
 rw [Array.toList_extract];simp [List.extract]
theorem abl {a:Array Keyed} {i:Nat} (h:i < a.size):a.toList.drop i=a[i] :: a.toList.drop (i+1):=by
 rw [List.drop_eq_getElem_cons (by simpa using h)];simp
section
variable {M:Model} {A:Around} {E:Value->Shared->Prop} {s:Shared} {κ:SortKind} {S:Keyed->Prop} {R:Keyed->Keyed->Bool}
theorem Cmp.irr {x:Keyed} (C:Cmp M A E s κ S R) (a:S x):R x x=false:=by
 cases e:R x x with
 | false=>rfl
 | true=>have:=C.asy x x a a e;rw [e] at this;cases this
theorem afk (C:Cmp M A E s κ S R) {b:Keyed} {arr:Array Keyed} {base n g:Nat} (l:S b) (N:∀ x∈arr.toList,S x) (hn:base+n<=arr.size) (hs:Srt R ((arr.toList.drop base).take n)) (hh:g < n)
  {Q:Option Nat->SortSt->Prop} {st:SortSt} (I:kindOf st = κ)
  (h:∀ k,k<=n->(∀ x∈(arr.toList.drop base).take k,R b x=false)->(∀ x∈((arr.toList.drop base).take n).drop k,R b x=true)->Q (some k) st) :
  wpS M A E s (ah1 false b arr base n g) Q st:=by
 have a:∀ i,i < n->∃ x,arr[base+i]?=some x/\S x/\((arr.toList.drop base).take n)[i]?=some x:=fun i hi=>by
  have q:base+i < arr.size:=by omega
  refine ⟨arr[base+i],az4 q,N _ (by simp),?_⟩
  rw [aF9 hi,aG6]
  simp [q]
 have o:∀ i j x y,i < j->j < n->arr[base+i]?=some x->arr[base+j]?=some y->R y x=false:=fun i j x y m r ex K=>by
  obtain ⟨W,d,_,c⟩:=a i (by omega)
  obtain ⟨Y,F,_,w⟩:=a j r
  rw [ex] at d;cases d
  rw [K] at F;cases F
  obtain ⟨O,c⟩:=az1.mp c
  obtain ⟨U,w⟩:=az1.mp w
  have:=aF1.mp hs i j O U m
  rw [c,w] at this
  exact this
 refine ait (κ:=κ) (B:=fun i=>match arr[base+i]? with | some x => !(R b x) | none=>false) (fun i hi X st' v G=>?_) (fun i j m r p=>?_) hh I fun k z T L=>h k z (fun x D=>?_) fun x D=>?_
 ·obtain ⟨x,d,u,_⟩:=a i hi
  unfold bey
  refine wpS_bind (aay d ?_)
  rw [aE0 (by decide)]
  refine wpS_bind (C.ask _ _ l u _ _ v ?_)
  refine wpS_pure ?_
  simp only [d] at G
  exact G
 ·obtain ⟨x,d,u,_⟩:=a i (by omega)
  obtain ⟨y,c,H,_⟩:=a j r
  simp only [d,c] at p ⊢
  have P:=o i j x y m r d c
  have J:R b y=false:=by simpa using p
  have:=C.tr x y b u H l P J
  simp [this]
 ·obtain ⟨i,hi,e⟩:=List.getElem_of_mem D
  have f:i < k:=by rw [aF4] at hi;omega
  obtain ⟨y,d,_,c⟩:=a i (by omega)
  have hb:=T i f
  simp only [d] at hb
  have ex:x=y:=by
   have:((arr.toList.drop base).take k)[i]?=some x:=by rw [az0 hi,e]
   rw [aF9 f] at this
   rw [aF9 (by omega)] at c
   rw [this] at c;exact aB6 c
  subst ex
  simpa using hb
 ·obtain ⟨i,hi,e⟩:=List.getElem_of_mem D
  have f:k+i < n:=by rw [List.length_drop,aF4] at hi;omega
  obtain ⟨y,d,_,c⟩:=a (k+i) f
  have hb:=L (k+i) (by omega) f
  simp only [d] at hb
  have ex:x=y:=by
   have:(((arr.toList.drop base).take n).drop k)[i]?=some x:=by rw [az0 hi,e]
   rw [aG6] at this
   rw [this] at c;exact aB6 c
  subst ex
  simpa using hb
theorem agr (C:Cmp M A E s κ S R) {b:Keyed} {arr:Array Keyed} {base n g:Nat} (l:S b) (L:∀ x∈arr.toList,S x) (hn:base+n<=arr.size) (hs:Srt R ((arr.toList.drop base).take n)) (hh:g < n)
  {Q:Option Nat->SortSt->Prop} {st:SortSt} (I:kindOf st = κ)
  (h:∀ k,k<=n->(∀ x∈(arr.toList.drop base).take k,R x b=true)->(∀ x∈((arr.toList.drop base).take n).drop k,R x b=false)->Q (some k) st) :
  wpS M A E s (ah1 true b arr base n g) Q st:=by
 have a:∀ i,i < n->∃ x,arr[base+i]?=some x/\S x/\((arr.toList.drop base).take n)[i]?=some x:=fun i hi=>by
  have q:base+i < arr.size:=by omega
  refine ⟨arr[base+i],az4 q,L _ (by simp),?_⟩
  rw [aF9 hi,aG6]
  simp [q]
 have p:∀ i j x y,i < j->j < n->arr[base+i]?=some x->arr[base+j]?=some y->R y x=false:=fun i j x y m r ex J=>by
  obtain ⟨U,d,_,c⟩:=a i (by omega)
  obtain ⟨X,F,_,w⟩:=a j r
  rw [ex] at d;cases d
  rw [J] at F;cases F
  obtain ⟨N,c⟩:=az1.mp c
  obtain ⟨T,w⟩:=az1.mp w
  have:=aF1.mp hs i j N T m
  rw [c,w] at this
  exact this
 refine ait (κ:=κ) (B:=fun i=>match arr[base+i]? with | some x=>R x b | none=>false) (fun i hi W st' v G=>?_) (fun i j m r o=>?_) hh I fun k z P K=>h k z (fun x D=>?_) fun x D=>?_
 ·obtain ⟨x,d,u,_⟩:=a i hi
  unfold bey
  refine wpS_bind (aay d ?_)
  rw [aD9 rfl]
  simp only [d] at G
  exact C.ask _ _ u l _ _ v G
 ·obtain ⟨x,d,u,_⟩:=a i (by omega)
  obtain ⟨y,c,H,_⟩:=a j r
  simp only [d,c] at o ⊢
  have O:=p i j x y m r d c
  cases e:R x b with
  | true=>rfl
  | false =>
   have:=C.tr b x y l u H e O
   rw [this] at o;cases o
 ·obtain ⟨i,hi,e⟩:=List.getElem_of_mem D
  have f:i < k:=by rw [aF4] at hi;omega
  obtain ⟨y,d,_,c⟩:=a i (by omega)
  have hb:=P i f
  simp only [d] at hb
  have ex:x=y:=by
   have:((arr.toList.drop base).take k)[i]?=some x:=by rw [az0 hi,e]
   rw [aF9 f] at this
   rw [aF9 (by omega)] at c
   rw [this] at c;exact aB6 c
  subst ex
  exact hb
 ·obtain ⟨i,hi,e⟩:=List.getElem_of_mem D
  have f:k+i < n:=by rw [List.length_drop,aF4] at hi;omega
  obtain ⟨y,d,_,c⟩:=a (k+i) f
  have hb:=K (k+i) (by omega) f
  simp only [d] at hb
  have ex:x=y:=by
   have:(((arr.toList.drop base).take n).drop k)[i]?=some x:=by rw [az0 hi,e]
   rw [aG6] at this
   rw [this] at c;exact aB6 c
  subst ex
  exact hb
end
section
variable {M:Model} {A:Around} {E:Value->Shared->Prop} {s:Shared} {κ:SortKind} {S:Keyed->Prop} {R:Keyed->Keyed->Bool}
structure Two (S:Keyed->Prop) (R:Keyed->Keyed->Bool) (a b:Array Keyed):Prop where
 ha:∀ x∈a.toList,S x
 hb:∀ x∈b.toList,S x
 sa:Srt R a.toList
 sb:Srt R b.toList
 a0:0 < a.size
 b0:0 < b.size
 first:∀ x∈a.toList,∀ y,b[0]?=some y->R x y=false
 last:∀ y∈b.toList,∀ x,a[a.size - 1]?=some x->R x y=false
def Fin2 (R:Keyed->Keyed->Bool) (a b m:Array Keyed):Prop:=m.toList.Perm (a.toList ++ b.toList)/\Srt R m.toList
structure Lo (S:Keyed->Prop) (R:Keyed->Keyed->Bool) (a b out:Array Keyed) (ia ib:Nat):Prop where
 mid:Mid R (a.toList ++ b.toList) out.toList (a.toList.drop ia) (b.toList.drop ib)
 ia:ia<=a.size
 ib:ib<=b.size
theorem Lo.len {a b out:Array Keyed} {ia ib:Nat} (l:Lo S R a b out ia ib):out.size+(a.size - ia)+(b.size - ib)=a.size+b.size:=by
 have:=l.mid.perm.length_eq
 simp at this
 omega
theorem Lo.doneA {a b out:Array Keyed} {ia ib:Nat} (l:Lo S R a b out ia ib) (h:ib=b.size\/ia=a.size):Fin2 R a b (out ++ a.extract ia ++ b.extract ib):=by
 have:=l.mid.done (by
  rcases h with h | h
  ·right;rw [h];simp
  ·left;rw [h];simp)
 unfold Fin2
 rw [aF0,aF0,af7,af7]
 exact this
theorem aps {a:Array Keyed} {i:Nat} (h:i+1=a.size):a.toList.drop i=[a[a.size - 1]'(by omega)]:=by
 have hi:i < a.size:=by omega
 rw [abl hi]
 have:i=a.size - 1:=by omega
 subst this
 have e:a.toList.drop (a.size - 1+1)=[]:=by
  apply List.drop_eq_nil_of_le
  simp;omega
 rw [e]
theorem Lo.lastA {a b out:Array Keyed} {ia ib:Nat} (T:Two S R a b) (l:Lo S R a b out ia ib) (h:ia+1=a.size):Fin2 R a b (out ++ b.extract ib ++ a.extract ia):=by
 have:=l.mid.last (by
  intro y d x c
  rw [aps h] at c
  have ex:x=a[a.size - 1]'(by omega):=by simpa using c
  refine T.last y (aB4 d) x ?_
  rw [ex]
  exact az4 _)
 unfold Fin2
 rw [aF0,aF0,af7,af7]
 exact this
theorem ad1 {x:Keyed} {l:List Keyed} (C:Cmp M A E s κ S R) (h:Srt R (x :: l)) (b:S x):∀ y∈x :: l,R y x=false:=by
 intro y a
 rcases az9.mp a with e | a
 ·rw [e];exact C.irr b
 ·exact (aG9.mp h).1 y a
theorem Lo.pushB {a b out:Array Keyed} {ia ib:Nat} (C:Cmp M A E s κ S R) (T:Two S R a b) (l:Lo S R a b out ia ib) (hb:ib < b.size) (h:∀ x∈a.toList.drop ia,R x b[ib]=false):Lo S R a b (out.push b[ib]) ia (ib+1):=by
 refine ⟨?_,l.ia,hb⟩
 have m:=l.mid
 rw [abl hb] at m
 rw [Array.toList_push]
 exact m.takeB (p:=[b[ib]]) (fun x d y c=>by
  have:x=b[ib]:=by simpa using d
  rw [this];exact h y c)
theorem Lo.pushA {a b out:Array Keyed} {ia ib:Nat} (l:Lo S R a b out ia ib) (ha:ia < a.size) (h:∀ y∈b.toList.drop ib,R y a[ia]=false):Lo S R a b (out.push a[ia]) (ia+1) ib:=by
 refine ⟨?_,ha,l.ib⟩
 have m:=l.mid
 rw [abl ha] at m
 rw [Array.toList_push]
 exact m.takeA (p:=[a[ia]]) (fun x d y c=>by
  have:x=a[ia]:=by simpa using d
  rw [this];exact h y c)
theorem Lo.runA {a b out:Array Keyed} {ia ib k:Nat} (l:Lo S R a b out ia ib) (d:ia+k<=a.size) (h:∀ x∈(a.toList.drop ia).take k,∀ y∈b.toList.drop ib,R y x=false):Lo S R a b (out ++ a.extract ia (ia+k)) (ia+k) ib:=by
 refine ⟨?_,d,l.ib⟩
 have m:=l.mid
 rw [← aB1 k (a.toList.drop ia)] at m
 rw [aF0,ah2]
 have c:=m.takeA h
 rw [List.drop_drop] at c
 exact c
theorem Lo.runB {a b out:Array Keyed} {ia ib k:Nat} (l:Lo S R a b out ia ib) (d:ib+k<=b.size) (h:∀ x∈(b.toList.drop ib).take k,∀ y∈a.toList.drop ia,R y x=false):Lo S R a b (out ++ b.extract ib (ib+k)) ia (ib+k):=by
 refine ⟨?_,l.ia,d⟩
 have m:=l.mid
 rw [← aB1 k (b.toList.drop ib)] at m
 rw [aF0,ah2]
 have c:=m.takeB h
 rw [List.drop_drop] at c
 exact c
theorem acf {l:List Keyed} {i:Nat} (h:Srt R l):Srt R (l.drop i):=List.Pairwise.sublist (List.drop_sublist i l) h
theorem jpn {α β:Type} {prog : β->StateT SortSt Sem α} {P : β->Prop} {Q : α->SortSt->Prop} {st:SortSt} {G:Prop} (use:(∀ m,P m->wpS M A E s (prog m) Q st)->G) (a:∀ m,P m->wpS M A E s (prog m) Q st):G:=use a
theorem jpn2 {α:Type} {prog:Array Keyed->Nat->StateT SortSt Sem α} {P:Array Keyed->Nat->Prop} {Q : α->SortSt->Prop} {st:SortSt} {G:Prop} (use:(∀ o i,P o i->wpS M A E s (prog o i) Q st)->G) (a:∀ o i,P o i->wpS M A E s (prog o i) Q st):G:=use a
section
variable {ρ β γ δ ε ζ η:Type}
@[elab_as_elim] theorem un5 {J : β->γ->δ->ε->Prop} {G:Option ρ × β × γ × δ × ε->Prop} (z:Option ρ × β × γ × δ × ε) (h:z.1=none/\J z.2.1 z.2.2.1 z.2.2.2.1 z.2.2.2.2) (k:∀ x y u v,J x y u v->G (none,x,y,u,v)):G z:=by
 have e:z=(none,z.2.1,z.2.2.1,z.2.2.2.1,z.2.2.2.2):=by rw [← h.1]
 rw [e];exact k _ _ _ _ h.2
@[elab_as_elim] theorem un6 {J : β->γ->δ->ε->ζ->Prop} {G:Option ρ × β × γ × δ × ε × ζ->Prop} (z:Option ρ × β × γ × δ × ε × ζ) (h:z.1=none/\J z.2.1 z.2.2.1 z.2.2.2.1 z.2.2.2.2.1 z.2.2.2.2.2) (k:∀ x y u v a,J x y u v a->G (none,x,y,u,v,a)):G z:=by
 have e:z=(none,z.2.1,z.2.2.1,z.2.2.2.1,z.2.2.2.2.1,z.2.2.2.2.2):=by rw [← h.1]
 rw [e];exact k _ _ _ _ _ h.2
@[elab_as_elim] theorem un7 {J : β->γ->δ->ε->ζ->η->Prop} {G:Option ρ × β × γ × δ × ε × ζ × η->Prop} (z:Option ρ × β × γ × δ × ε × ζ × η) (h:z.1=none/\J z.2.1 z.2.2.1 z.2.2.2.1 z.2.2.2.2.1 z.2.2.2.2.2.1 z.2.2.2.2.2.2) (k:∀ x y u v a b,J x y u v a b->G (none,x,y,u,v,a,b)):G z:=by
 have e:z=(none,z.2.1,z.2.2.1,z.2.2.2.1,z.2.2.2.2.1,z.2.2.2.2.2.1,z.2.2.2.2.2.2):=by rw [← h.1]
 rw [e];exact k _ _ _ _ _ _ h.2
@[elab_as_elim] theorem unR {κ:Type} {F : ρ->Prop} {J : κ->Prop} {G:Option ρ × κ->Prop} (z:Option ρ × κ) (h:(∃ r,z.1=some r/\F r)\/(z.1=none/\J z.2)) (c:∀ r x,F r->G (some r,x)) (b:z.1=none/\J z.2->G z):G z:=by
 rcases h with ⟨r,e,a⟩ | h
 ·have e:z=(some r,z.2):=by rw [← e]
  rw [e];exact c _ _ a
 ·exact b h
end
theorem aal {c:Prop} [Decidable c] {α:Type} {a b:StateT SortSt Sem α} {Q : α->SortSt->Prop} {st:SortSt} (d:c->wpS M A E s a Q st) (f:¬ c->wpS M A E s b Q st):wpS M A E s (if c then a else b) Q st:=by
 by_cases h:c
 ·rw [aD9 h];exact d h
 ·rw [aE0 h];exact f h
theorem an7 (C:Cmp M A E s κ S R) {a b:Array Keyed} (T:Two S R a b) {Q:Array Keyed->SortSt->Prop} {st:SortSt} (hk:kindOf st = κ)
  (h:∀ m st',Eqv st st'->Fin2 R a b m->Q m st'):wpS M A E s (ari a b) Q st:=by
 have L:∀ i (h:i < a.size),S a[i]:=fun i h=>T.ha _ (by simp)
 have O:∀ i (h:i < b.size),S b[i]:=fun i h=>T.hb _ (by simp)
 have b0:=T.b0
 have a0:=T.a0
 refine wpS_bind (acx ?_)
 refine wpS_bind (aay (x:=b[0]'b0) (az4 b0) ?_)
 have l1:Lo S R a b #[b[0]'b0] 0 1:=by
  have l0:Lo S R a b #[] 0 0:=⟨⟨by simp,List.Pairwise.nil,fun x w=>by simp at w,T.sa,T.sb⟩,aE4 _,aE4 _⟩
  exact l0.pushB C T b0 fun x w=>T.first x (by simpa using w) _ (az4 b0)
 refine aal (fun e1=>wpS_pure (h _ _ (Eqv.refl _) (l1.doneA (.inl (aE7.mp e1))))) (fun e1=>?_)
 refine aal (fun e2=>wpS_pure (h _ _ (Eqv.refl _) (l1.lastA T (aE7.mp e2)))) (fun e2=>?_)
 replace e1:1 ≠ b.size:=fun q=>e1 (aE7.mpr q)
 replace e2:0+1 ≠ a.size:=fun q=>e2 (aE7.mpr q)
 refine wpS_bind (wpS_get ?_)
 refine wpS_bind (wpS_mono (Q:=fun (z:Option (Array Keyed) × Array Keyed × Nat × Nat × Nat) st'=>Eqv st st'/\∃ r,z.1=some r/\Fin2 R a b r) ?_ ?_)
 ·refine wpS_forRange (fun t (z:Option (Array Keyed) × Array Keyed × Nat × Nat × Nat) st'=>Eqv st st'/\z.1=none/\Lo S R a b z.2.1 z.2.2.1 z.2.2.2.1/\z.2.2.1+1 < a.size/\z.2.2.2.1 < b.size/\t+1<=z.2.1.size) ?_ ?_ ⟨Eqv.refl _,rfl,l1,by dsimp only;omega,by dsimp only;omega,by simp⟩
  ·intro t z b1 _ ht n
   have q1:=n.1
   refine un5 (J:=fun out ia ib _=>Lo S R a b out ia ib/\ia+1 < a.size/\ib < b.size/\t+1<=out.size) z n.2 fun out ia ib mg v=>?_
   dsimp only
   refine wpS_bind (wpS_mono (Q:=fun (z:Option (Array Keyed) × Array Keyed × Nat × Nat × Nat × Nat) st'=>Eqv st st'/\((∃ r,z.1=some r/\Fin2 R a b r)\/(z.1=none/\Lo S R a b z.2.1 z.2.2.1 z.2.2.2.1/\z.2.2.1+1 < a.size/\z.2.2.2.1 < b.size/\t+2<=z.2.1.size))) ?_ ?_)
   ·refine wpS_forRange (fun i (z:Option (Array Keyed) × Array Keyed × Nat × Nat × Nat × Nat) st'=>Eqv st st'/\z.1=none/\Lo S R a b z.2.1 z.2.2.1 z.2.2.2.1/\z.2.2.1+1 < a.size/\z.2.2.2.1 < b.size/\t+1+min i 1<=z.2.1.size) ?_ ?_ ⟨q1,rfl,v.1,v.2.1,v.2.2.1,v.2.2.2⟩
    ·intro i z o _ hi n
     have q:=n.1
     refine un6 (J:=fun out ia ib _ _=>Lo S R a b out ia ib/\ia+1 < a.size/\ib < b.size/\t+1+min i 1<=out.size) z n.2 fun out ia ib ac bc v=>?_
     have l:=v.1
     have G:=v.2.1
     have d:=v.2.2.1
     have hsz:=v.2.2.2
     have g:ia < a.size:=Nat.lt_of_succ_lt G
     refine wpS_bind (aay (x:=b[ib]) (az4 d) ?_)
     refine wpS_bind (aay (x:=a[ia]) (az4 g) ?_)
     refine wpS_bind (C.ask _ _ (O ib d) (L ia g) _ _ (q.k.trans hk) ?_)
     dsimp only
     refine aal (fun er=>?_) (fun er=>?_)
     ·refine wpS_bind (aay (x:=b[ib]) (az4 d) ?_)
      have D:Lo S R a b (out.push b[ib]) ia (ib+1):=l.pushB C T d fun x w=>by
       rw [abl g] at w
       have hd:Srt R (a[ia] :: a.toList.drop (ia+1)):=by rw [← abl g];exact acf T.sa
       have sx:S x:=T.ha x (aB4 (i:=ia) (by rw [abl g];exact w))
       exact C.tr _ _ _ (O ib d) (L ia g) sx (C.asy _ _ (O ib d) (L ia g) er) (ad1 C hd (L ia g) x w)
      refine aal (fun F=>wpS_pure ⟨q,.inl ⟨_,rfl,D.doneA (.inl (aE7.mp F))⟩⟩) (fun F=>?_)
      have hf:ib+1 < b.size/\t+2<=(out.push b[ib]).size:=by
       have a2:ib+1 ≠ b.size:=fun q=>F (aE7.mpr q)
       rw [aG3];omega
      refine aal (fun _=>wpS_pure ⟨q,.inr ⟨rfl,D,G,hf⟩⟩) (fun _=>wpS_pure ⟨q,rfl,D,G,hf.1,aC0 (by omega) hf.2⟩)
     ·refine wpS_bind (aay (x:=a[ia]) (az4 g) ?_)
      have D:Lo S R a b (out.push a[ia]) (ia+1) ib:=l.pushA g fun y H=>by
       rw [abl d] at H
       have hd:Srt R (b[ib] :: b.toList.drop (ib+1)):=by rw [← abl d];exact acf T.sb
       have Y:S y:=T.hb y (aB4 (i:=ib) (by rw [abl d];exact H))
       exact C.tr _ _ _ (L ia g) (O ib d) Y (eq_false_of_ne_true er) (ad1 C hd (O ib d) y H)
      refine aal (fun F=>wpS_pure ⟨q,.inl ⟨_,rfl,D.lastA T (aE7.mp F)⟩⟩) (fun F=>?_)
      have hf:ia+1+1 < a.size/\ib < b.size/\t+2<=(out.push a[ia]).size:=by
       have a2:ia+1+1 ≠ a.size:=fun q=>F (aE7.mpr q)
       rw [aG3];omega
      refine aal (fun _=>wpS_pure ⟨q,.inr ⟨rfl,D,hf⟩⟩) (fun _=>wpS_pure ⟨q,rfl,D,hf.1,d,aC0 (by omega) hf.2.2⟩)
    ·exact fun z o n=>⟨n.1,.inr ⟨n.2.1,n.2.2.1,n.2.2.2.1,n.2.2.2.2.1,aC0 (by omega) n.2.2.2.2.2⟩⟩
   ·intro z o n
    have X:=n.1
    refine unR (J:=fun y:Array Keyed × Nat × Nat × Nat × Nat=>Lo S R a b y.1 y.2.1 y.2.2.1/\y.2.1+1 < a.size/\y.2.2.1 < b.size/\t+2<=y.1.size) z n.2 (fun r x Z=>wpS_pure ⟨X,r,rfl,Z⟩) fun hN=>?_
    refine un6 (J:=fun out ia ib _ _=>Lo S R a b out ia ib/\ia+1 < a.size/\ib < b.size/\t+2<=out.size) z hN fun out ia ib ac bc v=>?_
    dsimp only
    refine wpS_bind (acx ?_)
    refine wpS_bind (wpS_mono (Q:=fun (z:Option (Array Keyed) × Array Keyed × Nat × Nat × Nat × Nat × Nat) st'=>Eqv st st'/\((∃ r,z.1=some r/\Fin2 R a b r)\/(z.1=none/\Lo S R a b z.2.1 z.2.2.1 z.2.2.2.1/\z.2.2.1+1 < a.size/\z.2.2.2.1 < b.size/\t+2<=z.2.1.size))) ?_ ?_)
    ·refine wpS_forRange (fun i (z:Option (Array Keyed) × Array Keyed × Nat × Nat × Nat × Nat × Nat) st'=>Eqv st st'/\z.1=none/\Lo S R a b z.2.1 z.2.2.1 z.2.2.2.1/\z.2.2.1+1 < a.size/\z.2.2.2.1 < b.size/\t+2<=z.2.1.size) ?_ (fun z o n=>⟨n.1,.inr n.2⟩) ⟨X,rfl,v⟩
     intro i z o _ hi n
     have q:=n.1
     refine un7 (J:=fun out ia ib _ _ _=>Lo S R a b out ia ib/\ia+1 < a.size/\ib < b.size/\t+2<=out.size) z n.2 fun out ia ib mg ac bc v=>?_
     have l:=v.1
     have G:=v.2.1
     have d:=v.2.2.1
     have hsz:=v.2.2.2
     dsimp only
     refine' jpn (M:=M) (A:=A) (E:=E) (s:=s) (st:=o) (β:=Nat) (P:=fun _=>True) (prog:=?prog) (fun U=>?use) (fun a9 _=>?pf)
     case use =>
      refine aal (fun hm=>?_) (fun hm=>?_)
      ·generalize mg - 1=m
       exact U m trivial
      ·exact U mg trivial
     refine wpS_bind (wpS_mono (Q:=fun _ N=>Eqv o N) (wpS_modify ⟨rfl,rfl,rfl,rfl⟩) fun _ N I=>?_)
     replace I:=q.trans I
     refine wpS_bind (aay (x:=b[ib]) (az4 d) ?_)
     refine wpS_bind (afk C (O ib d) T.ha (by omega) (by rw [aD5 (by simp)];exact acf T.sa) (by omega) (I.k.trans hk) fun k a8 h1 h2=>?_)
     rw [aD5 (by simp),List.drop_drop] at h2
     dsimp only
     refine' jpn2 (M:=M) (A:=A) (E:=E) (s:=s) (st:=N) (P:=fun j c=>Lo S R a b j c ib/\c+1 < a.size/\(∀ x∈a.toList.drop c,R x b[ib]=false)/\t+2<=j.size) (prog:=?prog2) (fun U=>?use2) (fun j c h5=>?pf2)
     case use2 =>
      have u:∀ x∈a.toList.drop (ia+k),R x b[ib]=false:=fun x w=>C.asy _ _ (O ib d) (T.ha x (aB4 w)) (h2 x w)
      refine aal (fun k0=>?_) (fun k0=>?_)
      ·have D:Lo S R a b (out ++ a.extract ia (ia+k)) (ia+k) ib:=l.runA (by omega) fun x w y H=>by
        rw [abl d] at H
        have hd:Srt R (b[ib] :: b.toList.drop (ib+1)):=by rw [← abl d];exact acf T.sb
        have Y:S y:=T.hb y (aB4 (i:=ib) (by rw [abl d];exact H))
        exact C.tr _ _ _ (T.ha x (aB4 (aB0 w))) (O ib d) Y (h1 x w) (ad1 C hd (O ib d) y H)
       refine aal (fun F=>wpS_pure ⟨I,.inl ⟨_,rfl,D.lastA T (aE7.mp F)⟩⟩) (fun F=>?_)
       refine aal (fun e4=>wpS_pure ⟨I,.inl ⟨_,rfl,D.doneA (.inr (aE7.mp e4))⟩⟩) (fun e4=>?_)
       have W:Lo S R a b (out ++ a.extract ia (ia+k)) (ia+k) ib/\ia+k+1 < a.size/\(∀ x∈a.toList.drop (ia+k),R x b[ib]=false)/\t+2<=(out ++ a.extract ia (ia+k)).size:=by
        have a2:ia+k+1 ≠ a.size:=fun q=>F (aE7.mpr q)
        have b2:ia+k ≠ a.size:=fun q=>e4 (aE7.mpr q)
        exact ⟨D,by omega,u,by rw [Array.size_append];omega⟩
       revert W
       clear F e4 D u
       generalize out ++ a.extract ia (ia+k)=j
       generalize ia+k=c
       intro W
       exact U j c W
      ·have:k=0:=by omega
       rw [this] at u
       exact U out ia ⟨l,G,u,hsz⟩
     have l3:=h5.1
     have a1:=h5.2.1
     have a3:=h5.2.2.1
     have a4:=h5.2.2.2
     have f:c < a.size:=Nat.lt_of_succ_lt a1
     refine wpS_bind (aay (x:=b[ib]) (az4 d) ?_)
     have l4:=l3.pushB C T d a3
     refine aal (fun e5=>wpS_pure ⟨I,.inl ⟨_,rfl,l4.doneA (.inl (aE7.mp e5))⟩⟩) (fun e5=>?_)
     replace e5:ib+1 ≠ b.size:=fun q=>e5 (aE7.mpr q)
     refine wpS_bind (aay (x:=a[c]) (az4 f) ?_)
     refine wpS_bind (agr C (L c f) T.hb (by omega) (by rw [aD5 (by simp)];exact acf T.sb) (by omega) (I.k.trans hk) fun K a7 h3 h4=>?_)
     rw [aD5 (by simp),List.drop_drop] at h4
     dsimp only
     refine' jpn2 (M:=M) (A:=A) (E:=E) (s:=s) (st:=N) (P:=fun p B=>Lo S R a b p c B/\B < b.size/\(∀ y∈b.toList.drop B,R y a[c]=false)/\t+2<=p.size) (prog:=?prog3) (fun U=>?use3) (fun p B h6=>?pf3)
     case use3 =>
      refine aal (fun k0=>?_) (fun k0=>?_)
      ·have hd:Srt R (a[c] :: a.toList.drop (c+1)):=by rw [← abl f];exact acf T.sa
       have l5:Lo S R a b (j.push b[ib] ++ b.extract (ib+1) (ib+1+K)) c (ib+1+K):=l4.runB (by omega) fun x w y H=>by
        rw [abl f] at H
        have Y:S y:=T.ha y (aB4 (i:=c) (by rw [abl f];exact H))
        have sx:S x:=T.hb x (aB4 (aB0 w))
        exact C.tr _ _ _ sx (L c f) Y (C.asy _ _ sx (L c f) (h3 x w)) (ad1 C hd (L c f) y H)
       refine aal (fun e6=>wpS_pure ⟨I,.inl ⟨_,rfl,l5.doneA (.inl (aE7.mp e6))⟩⟩) (fun e6=>?_)
       have W:Lo S R a b (j.push b[ib] ++ b.extract (ib+1) (ib+1+K)) c (ib+1+K)/\ib+1+K < b.size/\(∀ y∈b.toList.drop (ib+1+K),R y a[c]=false)/\t+2<=(j.push b[ib] ++ b.extract (ib+1) (ib+1+K)).size:=by
        have a5:ib+1+K ≠ b.size:=fun q=>e6 (aE7.mpr q)
        exact ⟨l5,by omega,h4,by rw [Array.size_append,aG3];omega⟩
       revert W
       clear e6 l5 hd
       generalize j.push b[ib] ++ b.extract (ib+1) (ib+1+K)=p
       generalize ib+1+K=B
       intro W
       exact U p B W
      ·have:K=0:=by omega
       rw [this] at h4
       exact U (j.push b[ib]) (ib+1) ⟨l4,by omega,h4,by rw [aG3];omega⟩
     refine wpS_bind (aay (x:=a[c]) (az4 f) ?_)
     have l7:=h6.1.pushA f h6.2.2.1
     refine aal (fun e7=>wpS_pure ⟨I,.inl ⟨_,rfl,l7.lastA T (aE7.mp e7)⟩⟩) (fun e7=>?_)
     have hf:c+1+1 < a.size/\B < b.size/\t+2<=(p.push a[c]).size:=by
      have a6:c+1+1 ≠ a.size:=fun q=>e7 (aE7.mpr q)
      have h7:=h6.2.2.2
      exact ⟨by omega,h6.2.1,by rw [aG3];omega⟩
     exact aal (fun _=>wpS_pure ⟨I,.inr ⟨rfl,l7,hf⟩⟩) (fun _=>wpS_pure ⟨I,rfl,l7,hf⟩)
    ·intro z o n
     have X:=n.1
     refine unR (J:=fun y:Array Keyed × Nat × Nat × Nat × Nat × Nat=>Lo S R a b y.1 y.2.1 y.2.2.1/\y.2.1+1 < a.size/\y.2.2.1 < b.size/\t+2<=y.1.size) z n.2 (fun r x Z=>wpS_pure ⟨X,r,rfl,Z⟩) fun hN=>?_
     refine un7 (J:=fun out ia ib _ _ _=>Lo S R a b out ia ib/\ia+1 < a.size/\ib < b.size/\t+2<=out.size) z hN fun out ia ib mg ac bc v=>?_
     dsimp only
     refine wpS_bind (wpS_modify ?_)
     exact wpS_pure ⟨X.trans ⟨rfl,rfl,rfl,rfl⟩,rfl,v⟩
  ·intro z o n
   exfalso
   have h1:=n.2.2.1.len
   have h2:=n.2.2.2
   have:a.size+b.size<=max 0 (a.size+b.size):=by omega
   omega
 ·intro z o n
  have X:=n.1
  exact unR (J:=fun _=>False) z (.inl n.2) (fun r x Z=>wpS_pure (h r o X Z)) fun hN=>hN.2.elim
end
structure MidH (R:Keyed->Keyed->Bool) (L a b tl:List Keyed):Prop where
 perm:(a ++ b ++ tl).Perm L
 so:Srt R tl
 le:∀ x∈a ++ b,∀ y∈tl,R y x=false
 sa:Srt R a
 sb:Srt R b
section
variable {R:Keyed->Keyed->Bool} {L tl a b p:List Keyed}
theorem MidH.takeA (m:MidH R L (a ++ p) b tl) (h:∀ x∈b,∀ y∈p,R y x=false):MidH R L a b (p ++ tl):=by
 have sp:=aB9.mp m.sa
 refine ⟨List.Perm.trans ?_ m.perm,aB9.mpr ⟨sp.2.1,m.so,fun x c y d=>m.le x (aB7 _ (aA3 _ c)) y d⟩,fun x c y d=>?_,sp.1,m.sb⟩
 ·rw [← aA4,aA4 a p b,aA4 a b p]
  exact List.Perm.append_right tl (List.Perm.append_left a List.perm_append_comm)
 ·rcases az7.mp d with d | d
  ·rcases az7.mp c with c | c
   ·exact sp.2.2 x c y d
   ·exact h x c y d
  ·refine m.le x ?_ y d
   rcases az7.mp c with c | c
   ·exact aB7 _ (aB7 _ c)
   ·exact aA3 _ c
theorem MidH.takeB (m:MidH R L a (b ++ p) tl) (h:∀ x∈a,∀ y∈p,R y x=false):MidH R L a b (p ++ tl):=by
 have sp:=aB9.mp m.sb
 refine ⟨by have:=m.perm;simp only [aA4] at this ⊢;exact this,aB9.mpr ⟨sp.2.1,m.so,fun x c y d=>m.le x (aA3 _ (aA3 _ c)) y d⟩,fun x c y d=>?_,m.sa,sp.1⟩
 rcases az7.mp d with d | d
 ·rcases az7.mp c with c | c
  ·exact h x c y d
  ·exact sp.2.2 x c y d
 ·refine m.le x ?_ y d
  rcases az7.mp c with c | c
  ·exact aB7 _ c
  ·exact aA3 _ (aB7 _ c)
theorem MidH.done (m:MidH R L a b tl) (h:a=[]\/b=[]):(a ++ b ++ tl).Perm L/\Srt R (a ++ b ++ tl):=by
 refine ⟨m.perm,aB9.mpr ⟨?_,m.so,m.le⟩⟩
 rcases h with h | h
 ·subst h;exact m.sb
 ·subst h;rw [aD4];exact m.sa
theorem MidH.first (m:MidH R L a b tl) (h:∀ y∈b,∀ x∈a,R x y=false):(b ++ a ++ tl).Perm L/\Srt R (b ++ a ++ tl):=by
 refine ⟨List.Perm.trans (List.Perm.append_right tl List.perm_append_comm) m.perm,aB9.mpr ⟨aB9.mpr ⟨m.sb,m.sa,h⟩,m.so,fun x c y d=>m.le x ?_ y d⟩⟩
 rcases az7.mp c with c | c
 ·exact aA3 _ c
 ·exact aB7 _ c
end
theorem ab5 {a:Array Keyed} {i:Nat} (c:0 < i) (h:i<=a.size):a.toList.take i=a.toList.take (i - 1) ++ [a[i - 1]'(by omega)]:=by
 obtain ⟨j,rfl⟩:∃ j,i=j+1:=⟨i - 1,by omega⟩
 rw [List.take_succ]
 have b:j < a.size:=by omega
 simp [b]
theorem aj4 (a:Array Keyed) (k:Nat):(a.extract 0 k).toList=a.toList.take k:=by
 rw [Array.toList_extract];simp [List.extract]
theorem aku (a:Array Keyed) (k n:Nat):(a.extract k n).toList=(a.toList.take n).drop k:=by
 rw [Array.toList_extract];simp [List.extract,List.drop_take]
section
variable {M:Model} {A:Around} {E:Value->Shared->Prop} {s:Shared} {κ:SortKind} {S:Keyed->Prop} {R:Keyed->Keyed->Bool}
structure Hi (S:Keyed->Prop) (R:Keyed->Keyed->Bool) (a b out:Array Keyed) (na nb:Nat):Prop where
 mid:MidH R (a.toList ++ b.toList) (a.toList.take na) (b.toList.take nb) out.toList.reverse
 na:na<=a.size
 nb:nb<=b.size
theorem Hi.len {a b out:Array Keyed} {na nb:Nat} (l:Hi S R a b out na nb):out.size+na+nb=a.size+b.size:=by
 have:=l.mid.perm.length_eq
 have c:=l.na
 have d:=l.nb
 simp at this
 omega
theorem Hi.doneA {a b out:Array Keyed} {na nb:Nat} (l:Hi S R a b out na nb) (h:na=0\/nb=0):Fin2 R a b (a.extract 0 na ++ b.extract 0 nb ++ out.reverse):=by
 have:=l.mid.done (by
  rcases h with h | h
  ·left;rw [h];simp
  ·right;rw [h];simp)
 unfold Fin2
 rw [aF0,aF0,aj4,aj4,Array.toList_reverse]
 exact this
theorem Hi.firstB {a b out:Array Keyed} {na nb:Nat} (T:Two S R a b) (l:Hi S R a b out na nb) (h:nb=1):Fin2 R a b (b.extract 0 nb ++ a.extract 0 na ++ out.reverse):=by
 subst h
 have:=l.mid.first (by
  intro y c x f
  rw [ab5 (by decide) l.nb] at c
  have d:y=b[0]'T.b0:=by simpa using c
  exact T.first x (aB0 f) y (by rw [d];exact az4 _))
 unfold Fin2
 rw [aF0,aF0,aj4,aj4,Array.toList_reverse]
 exact this
theorem abz {l:List Keyed} {i:Nat} (h:Srt R l):Srt R (l.take i):=List.Pairwise.sublist (List.take_sublist i l) h
theorem adg {x:Keyed} {l:List Keyed} (C:Cmp M A E s κ S R) (h:Srt R (l ++ [x])) (b:S x):∀ y∈l ++ [x],R x y=false:=by
 intro y a
 rcases az7.mp a with a | a
 ·exact (aB9.mp h).2.2 y a x (by simp)
 ·have:y=x:=by simpa using a
  rw [this];exact C.irr b
theorem Hi.pushA {a b out:Array Keyed} {na nb:Nat} (l:Hi S R a b out na nb) (f:0 < na) (h:∀ x∈b.toList.take nb,R (a[na - 1]'(by have:=l.na;omega)) x=false):Hi S R a b (out.push (a[na - 1]'(by have:=l.na;omega))) (na - 1) nb:=by
 refine ⟨?_,by have:=l.na;omega,l.nb⟩
 have m:=l.mid
 rw [ab5 f l.na] at m
 rw [Array.toList_push,List.reverse_append]
 exact m.takeA (p:=[_]) (fun x d y c=>by
  rw [aB2.mp c];exact h x d)
theorem Hi.pushB {a b out:Array Keyed} {na nb:Nat} (l:Hi S R a b out na nb) (f:0 < nb) (h:∀ x∈a.toList.take na,R (b[nb - 1]'(by have:=l.nb;omega)) x=false):Hi S R a b (out.push (b[nb - 1]'(by have:=l.nb;omega))) na (nb - 1):=by
 refine ⟨?_,l.na,by have:=l.nb;omega⟩
 have m:=l.mid
 rw [ab5 f l.nb] at m
 rw [Array.toList_push,List.reverse_append]
 exact m.takeB (p:=[_]) (fun x d y c=>by
  rw [aB2.mp c];exact h x d)
theorem Hi.runA {a b out:Array Keyed} {na nb k:Nat} (l:Hi S R a b out na nb) (d:k<=na) (h:∀ x∈b.toList.take nb,∀ y∈(a.toList.take na).drop k,R y x=false):Hi S R a b (out ++ (a.extract k na).reverse) k nb:=by
 refine ⟨?_,by have:=l.na;omega,l.nb⟩
 have m:=l.mid
 rw [← aB1 k (a.toList.take na)] at m
 rw [aF0,Array.toList_reverse,aku,List.reverse_append,List.reverse_reverse]
 have c:=m.takeA h
 rw [List.take_take,Nat.min_eq_left d] at c
 exact c
theorem Hi.runB {a b out:Array Keyed} {na nb k:Nat} (l:Hi S R a b out na nb) (d:k<=nb) (h:∀ x∈a.toList.take na,∀ y∈(b.toList.take nb).drop k,R y x=false):Hi S R a b (out ++ (b.extract k nb).reverse) na k:=by
 refine ⟨?_,l.na,by have:=l.nb;omega⟩
 have m:=l.mid
 rw [← aB1 k (b.toList.take nb)] at m
 rw [aF0,Array.toList_reverse,aku,List.reverse_append,List.reverse_reverse]
 have c:=m.takeB h
 rw [List.take_take,Nat.min_eq_left d] at c
 exact c
theorem an8 (C:Cmp M A E s κ S R) {a b:Array Keyed} (T:Two S R a b) {Q:Array Keyed->SortSt->Prop} {st:SortSt} (hk:kindOf st = κ)
  (h:∀ m st',Eqv st st'->Fin2 R a b m->Q m st'):wpS M A E s (arj a b) Q st:=by
 have I:∀ i (h:i < a.size),S a[i]:=fun i h=>T.ha _ (by simp)
 have L:∀ i (h:i < b.size),S b[i]:=fun i h=>T.hb _ (by simp)
 have b0:=T.b0
 have a0:=T.a0
 have la:a.size - 1 < a.size:=by omega
 refine wpS_bind (acx ?_)
 refine wpS_bind (aay (x:=a[a.size - 1]'la) (az4 la) ?_)
 have l1:Hi S R a b #[a[a.size - 1]'la] (a.size - 1) b.size:=by
  have l0:Hi S R a b #[] a.size b.size:=⟨⟨by simp [aD5],List.Pairwise.nil,fun x j y Z=>by simp at Z,abz T.sa,abz T.sb⟩,az6 _,az6 _⟩
  exact l0.pushA a0 fun x j=>T.last x (aB0 j) _ (az4 la)
 refine aal (fun e1=>wpS_pure (h _ _ (Eqv.refl _) (l1.doneA (.inl (aE7.mp e1))))) (fun e1=>?_)
 refine aal (fun e2=>wpS_pure (h _ _ (Eqv.refl _) (l1.firstB T (aE7.mp e2)))) (fun e2=>?_)
 replace e1:a.size - 1 ≠ 0:=fun q=>e1 (aE7.mpr q)
 replace e2:b.size ≠ 1:=fun q=>e2 (aE7.mpr q)
 refine wpS_bind (wpS_get ?_)
 have a8:∀ {na nb:Nat} (G:0 < na) (N:na<=a.size) (U:0 < nb) (Y:nb<=b.size),R (b[nb - 1]'(by omega)) (a[na - 1]'(by omega))=true->∀ x∈b.toList.take nb,R (a[na - 1]'(by omega)) x=false:=fun {na nb} G N U Y er x j=>by
  have sx:S x:=T.hb x (aB0 j)
  have hs:Srt R (b.toList.take (nb - 1) ++ [b[nb - 1]'(by omega)]):=by rw [← ab5 U Y];exact abz T.sb
  rw [ab5 U Y] at j
  exact C.tr _ _ _ sx (L _ _) (I _ _) (adg C hs (L _ _) x j) (C.asy _ _ (L _ _) (I _ _) er)
 have a7:∀ {na nb:Nat} (G:0 < na) (N:na<=a.size) (U:0 < nb) (Y:nb<=b.size),R (b[nb - 1]'(by omega)) (a[na - 1]'(by omega))=false->∀ x∈a.toList.take na,R (b[nb - 1]'(by omega)) x=false:=fun {na nb} G N U Y er x j=>by
  have sx:S x:=T.ha x (aB0 j)
  have hs:Srt R (a.toList.take (na - 1) ++ [a[na - 1]'(by omega)]):=by rw [← ab5 G N];exact abz T.sa
  rw [ab5 G N] at j
  exact C.tr _ _ _ sx (I _ _) (L _ _) (adg C hs (I _ _) x j) er
 refine wpS_bind (wpS_mono (Q:=fun (z:Option (Array Keyed) × Nat × Nat × Array Keyed × Nat) st'=>Eqv st st'/\∃ r,z.1=some r/\Fin2 R a b r) ?_ ?_)
 ·refine wpS_forRange (fun t (z:Option (Array Keyed) × Nat × Nat × Array Keyed × Nat) st'=>Eqv st st'/\z.1=none/\Hi S R a b z.2.2.2.1 z.2.1 z.2.2.1/\0 < z.2.1/\1 < z.2.2.1/\t+1<=z.2.2.2.1.size) ?_ ?_ ⟨Eqv.refl _,rfl,l1,by dsimp only;omega,by dsimp only;omega,by simp⟩
  ·intro t z b7 _ ht f
   have q1:=f.1
   refine un5 (J:=fun na nb out _=>Hi S R a b out na nb/\0 < na/\1 < nb/\t+1<=out.size) z f.2 fun na nb out mg o=>?_
   dsimp only
   refine wpS_bind (wpS_mono (Q:=fun (z:Option (Array Keyed) × Nat × Nat × Array Keyed × Nat × Nat) st'=>Eqv st st'/\((∃ r,z.1=some r/\Fin2 R a b r)\/(z.1=none/\Hi S R a b z.2.2.2.1 z.2.1 z.2.2.1/\0 < z.2.1/\1 < z.2.2.1/\t+2<=z.2.2.2.1.size))) ?_ ?_)
   ·refine wpS_forRange (fun i (z:Option (Array Keyed) × Nat × Nat × Array Keyed × Nat × Nat) st'=>Eqv st st'/\z.1=none/\Hi S R a b z.2.2.2.1 z.2.1 z.2.2.1/\0 < z.2.1/\1 < z.2.2.1/\t+1+min i 1<=z.2.2.2.1.size) ?_ ?_ ⟨q1,rfl,o.1,o.2.1,o.2.2.1,o.2.2.2⟩
    ·intro i z g _ hi f
     have q:=f.1
     refine un6 (J:=fun na nb out _ _=>Hi S R a b out na nb/\0 < na/\1 < nb/\t+1+min i 1<=out.size) z f.2 fun na nb out ac bc o=>?_
     have l:=o.1
     have u:=o.2.1
     have a2:=o.2.2.1
     have hsz:=o.2.2.2
     have ia:na - 1 < a.size:=by have:=l.na;omega
     have ib:nb - 1 < b.size:=by have:=l.nb;omega
     refine wpS_bind (aay (x:=b[nb - 1]) (az4 ib) ?_)
     refine wpS_bind (aay (x:=a[na - 1]) (az4 ia) ?_)
     refine wpS_bind (C.ask _ _ (L _ ib) (I _ ia) _ _ (q.k.trans hk) ?_)
     dsimp only
     refine aal (fun er=>?_) (fun er=>?_)
     ·refine wpS_bind (aay (x:=a[na - 1]) (az4 ia) ?_)
      have B:=l.pushA u (a8 u l.na (by omega) l.nb er)
      refine aal (fun w=>wpS_pure ⟨q,.inl ⟨_,rfl,B.doneA (.inl (aE7.mp w))⟩⟩) (fun w=>?_)
      have hf:0 < na - 1/\1 < nb/\t+2<=(out.push a[na - 1]).size:=by
       have a3:na - 1 ≠ 0:=fun q=>w (aE7.mpr q)
       rw [aG3];omega
      exact aal (fun _=>wpS_pure ⟨q,.inr ⟨rfl,B,hf⟩⟩) (fun _=>wpS_pure ⟨q,rfl,B,hf.1,a2,aC0 (by omega) hf.2.2⟩)
     ·refine wpS_bind (aay (x:=b[nb - 1]) (az4 ib) ?_)
      have B:=l.pushB (by omega) (a7 u l.na (by omega) l.nb (eq_false_of_ne_true er))
      refine aal (fun w=>wpS_pure ⟨q,.inl ⟨_,rfl,B.firstB T (aE7.mp w)⟩⟩) (fun w=>?_)
      have hf:1 < nb - 1/\t+2<=(out.push b[nb - 1]).size:=by
       have a3:nb - 1 ≠ 1:=fun q=>w (aE7.mpr q)
       rw [aG3];omega
      exact aal (fun _=>wpS_pure ⟨q,.inr ⟨rfl,B,u,hf⟩⟩) (fun _=>wpS_pure ⟨q,rfl,B,u,hf.1,aC0 (by omega) hf.2⟩)
    ·exact fun z g f=>⟨f.1,.inr ⟨f.2.1,f.2.2.1,f.2.2.2.1,f.2.2.2.2.1,aC0 (by omega) f.2.2.2.2.2⟩⟩
   ·intro z g f
    have q2:=f.1
    refine unR (J:=fun y:Nat × Nat × Array Keyed × Nat × Nat=>Hi S R a b y.2.2.1 y.1 y.2.1/\0 < y.1/\1 < y.2.1/\t+2<=y.2.2.1.size) z f.2 (fun r x hr=>wpS_pure ⟨q2,r,rfl,hr⟩) fun hN=>?_
    refine un6 (J:=fun na nb out _ _=>Hi S R a b out na nb/\0 < na/\1 < nb/\t+2<=out.size) z hN fun na nb out ac bc o=>?_
    dsimp only
    refine wpS_bind (acx ?_)
    refine wpS_bind (wpS_mono (Q:=fun (z:Option (Array Keyed) × Nat × Nat × Array Keyed × Nat × Nat × Nat) st'=>Eqv st st'/\((∃ r,z.1=some r/\Fin2 R a b r)\/(z.1=none/\Hi S R a b z.2.2.2.1 z.2.1 z.2.2.1/\0 < z.2.1/\1 < z.2.2.1/\t+2<=z.2.2.2.1.size))) ?_ ?_)
    ·refine wpS_forRange (fun i (z:Option (Array Keyed) × Nat × Nat × Array Keyed × Nat × Nat × Nat) st'=>Eqv st st'/\z.1=none/\Hi S R a b z.2.2.2.1 z.2.1 z.2.2.1/\0 < z.2.1/\1 < z.2.2.1/\t+2<=z.2.2.2.1.size) ?_ (fun z g f=>⟨f.1,.inr f.2⟩) ⟨q2,rfl,o⟩
     intro i z g _ hi f
     have q:=f.1
     refine un7 (J:=fun na nb out _ _ _=>Hi S R a b out na nb/\0 < na/\1 < nb/\t+2<=out.size) z f.2 fun na nb out mg ac bc o=>?_
     have l:=o.1
     have u:=o.2.1
     have a2:=o.2.2.1
     have hsz:=o.2.2.2
     have b4:=l.na
     have X:=l.nb
     have ib:nb - 1 < b.size:=by omega
     dsimp only
     refine' jpn (M:=M) (A:=A) (E:=E) (s:=s) (st:=g) (β:=Nat) (P:=fun _=>True) (prog:=?prog) (fun O=>?use) (fun b6 _=>?pf)
     case use =>
      refine aal (fun hm=>?_) (fun hm=>?_)
      ·generalize mg - 1=m
       exact O m trivial
      ·exact O mg trivial
     refine wpS_bind (wpS_mono (Q:=fun _ K=>Eqv g K) (wpS_modify ⟨rfl,rfl,rfl,rfl⟩) fun _ K F=>?_)
     replace F:=q.trans F
     refine wpS_bind (aay (x:=b[nb - 1]) (az4 ib) ?_)
     refine wpS_bind (afk C (L _ ib) T.ha (by omega) (by rw [List.drop_zero];exact abz T.sa) (by omega) (F.k.trans hk) fun k b2 G N=>?_)
     rw [List.drop_zero] at G N
     dsimp only
     generalize hac:na - k=ac2
     refine' jpn2 (M:=M) (A:=A) (E:=E) (s:=s) (st:=K) (P:=fun d c=>Hi S R a b d c nb/\0 < c/\(∀ x∈a.toList.take c,R b[nb - 1] x=false)/\t+2<=d.size) (prog:=?prog2) (fun O=>?use2) (fun d c h5=>?pf2)
     case use2 =>
      refine aal (fun k0=>?_) (fun k0=>?_)
      ·have a4:Srt R (b.toList.take (nb - 1) ++ [b[nb - 1]]):=by rw [← ab5 (by omega) X];exact abz T.sb
       have B:Hi S R a b (out ++ (a.extract k na).reverse) k nb:=l.runA b2 fun x j y Z=>by
        have sx:S x:=T.hb x (aB0 j)
        have sy:S y:=T.ha y (aB0 (aB4 Z))
        rw [ab5 (by omega) X] at j
        exact C.tr _ _ _ sx (L _ ib) sy (adg C a4 (L _ ib) x j) (C.asy _ _ (L _ ib) sy (N y Z))
       refine aal (fun w=>wpS_pure ⟨F,.inl ⟨_,rfl,B.doneA (.inl (aE7.mp w))⟩⟩) (fun w=>?_)
       have hP:Hi S R a b (out ++ (a.extract k na).reverse) k nb/\0 < k/\(∀ x∈a.toList.take k,R b[nb - 1] x=false)/\t+2<=(out ++ (a.extract k na).reverse).size:=by
        have a3:k ≠ 0:=fun q=>w (aE7.mpr q)
        exact ⟨B,by omega,G,by rw [Array.size_append];omega⟩
       revert hP
       clear w B
       generalize out ++ (a.extract k na).reverse=d
       generalize k=c
       intro hP
       exact O d c hP
      ·have:k=na:=by omega
       rw [this] at G
       exact O out na ⟨l,u,G,hsz⟩
     have l3:=h5.1
     have D:=h5.2.1
     have a5:=h5.2.2.1
     have b3:=h5.2.2.2
     have H:=l3.na
     have ia:c - 1 < a.size:=by omega
     refine wpS_bind (aay (x:=b[nb - 1]) (az4 ib) ?_)
     have l4:=l3.pushB (by omega) a5
     refine aal (fun e5=>wpS_pure ⟨F,.inl ⟨_,rfl,l4.firstB T (aE7.mp e5)⟩⟩) (fun e5=>?_)
     replace e5:nb - 1 ≠ 1:=fun q=>e5 (aE7.mpr q)
     refine wpS_bind (aay (x:=a[c - 1]) (az4 ia) ?_)
     refine wpS_bind (agr C (I _ ia) T.hb (by omega) (by rw [List.drop_zero];exact abz T.sb) (by omega) (F.k.trans hk) fun v b1 U Y=>?_)
     rw [List.drop_zero] at U Y
     dsimp only
     generalize hbc:nb - 1 - v=bc2
     refine' jpn2 (M:=M) (A:=A) (E:=E) (s:=s) (st:=K) (P:=fun n p=>Hi S R a b n c p/\1 < p/\(∀ x∈b.toList.take p,R a[c - 1] x=false)/\t+2<=n.size) (prog:=?prog3) (fun O=>?use3) (fun n p h6=>?pf3)
     case use3 =>
      have a1:∀ x∈b.toList.take v,R a[c - 1] x=false:=fun x j=>C.asy _ _ (T.hb x (aB0 j)) (I _ ia) (U x j)
      refine aal (fun k0=>?_) (fun k0=>?_)
      ·have a6:Srt R (a.toList.take (c - 1) ++ [a[c - 1]]):=by rw [← ab5 D H];exact abz T.sa
       have l5:Hi S R a b (d.push b[nb - 1] ++ (b.extract v (nb - 1)).reverse) c v:=l4.runB b1 fun x j y Z=>by
        have sx:S x:=T.ha x (aB0 j)
        have sy:S y:=T.hb y (aB0 (aB4 Z))
        rw [ab5 D H] at j
        exact C.tr _ _ _ sx (I _ ia) sy (adg C a6 (I _ ia) x j) (Y y Z)
       refine aal (fun e6=>wpS_pure ⟨F,.inl ⟨_,rfl,l5.firstB T (aE7.mp e6)⟩⟩) (fun e6=>?_)
       refine aal (fun W=>wpS_pure ⟨F,.inl ⟨_,rfl,l5.doneA (.inr (aE7.mp W))⟩⟩) (fun W=>?_)
       have hP:Hi S R a b (d.push b[nb - 1] ++ (b.extract v (nb - 1)).reverse) c v/\1 < v/\(∀ x∈b.toList.take v,R a[c - 1] x=false)/\t+2<=(d.push b[nb - 1] ++ (b.extract v (nb - 1)).reverse).size:=by
        have b5:v ≠ 1:=fun q=>e6 (aE7.mpr q)
        have a9:v ≠ 0:=fun q=>W (aE7.mpr q)
        exact ⟨l5,by omega,a1,by rw [Array.size_append,aG3];omega⟩
       revert hP
       clear e6 W l5
       generalize d.push b[nb - 1] ++ (b.extract v (nb - 1)).reverse=n
       generalize v=p
       intro hP
       exact O n p hP
      ·have:v=nb - 1:=by omega
       rw [this] at a1
       exact O (d.push b[nb - 1]) (nb - 1) ⟨l4,by omega,a1,by rw [aG3];omega⟩
     refine wpS_bind (aay (x:=a[c - 1]) (az4 ia) ?_)
     have l7:=h6.1.pushA D h6.2.2.1
     refine aal (fun W=>wpS_pure ⟨F,.inl ⟨_,rfl,l7.doneA (.inl (aE7.mp W))⟩⟩) (fun W=>?_)
     have hf:0 < c - 1/\1 < p/\t+2<=(n.push a[c - 1]).size:=by
      have a9:c - 1 ≠ 0:=fun q=>W (aE7.mpr q)
      have h7:=h6.2.2.2
      exact ⟨by omega,h6.2.1,by rw [aG3];omega⟩
     exact aal (fun _=>wpS_pure ⟨F,.inr ⟨rfl,l7,hf⟩⟩) (fun _=>wpS_pure ⟨F,rfl,l7,hf⟩)
    ·intro z g f
     have q2:=f.1
     refine unR (J:=fun y:Nat × Nat × Array Keyed × Nat × Nat × Nat=>Hi S R a b y.2.2.1 y.1 y.2.1/\0 < y.1/\1 < y.2.1/\t+2<=y.2.2.1.size) z f.2 (fun r x hr=>wpS_pure ⟨q2,r,rfl,hr⟩) fun hN=>?_
     refine un7 (J:=fun na nb out _ _ _=>Hi S R a b out na nb/\0 < na/\1 < nb/\t+2<=out.size) z hN fun na nb out mg ac bc o=>?_
     dsimp only
     refine wpS_bind (wpS_modify ?_)
     exact wpS_pure ⟨q2.trans ⟨rfl,rfl,rfl,rfl⟩,rfl,o⟩
  ·intro z g f
   exfalso
   have G:=f.2.2.1.len
   have N:=f.2.2.2
   have:a.size+b.size<=max 0 (a.size+b.size):=by omega
   omega
 ·intro z g f
  have q2:=f.1
  exact unR (J:=fun _=>False) z (.inl f.2) (fun r x hr=>wpS_pure (h r g q2 hr)) fun hN=>hN.2.elim
end
theorem aiu (base:Nat):∀ (b v u w:List Keyed) (j:Nat) (xs:Array Keyed),xs.toList=u ++ v ++ w->v.length=b.length->u.length=base+j ->
  ((b.zipIdx j).foldl (fun a x=>match x with | (p,j)=>a.setIfInBounds (base+j) p) xs).toList=u ++ b ++ w
 | [],v,u,w,j,xs,h1,h2,h3=>by
  have:v=[]:=aF6 h2
  subst this
  exact h1
 | m :: b,v,u,w,j,xs,h1,h2,h3=>by
  cases v with
  | nil=>cases h2
  | cons y v =>
   rw [List.zipIdx_cons,List.foldl_cons]
   have c:=aiu base b v (u ++ [m]) w (j+1) (xs.setIfInBounds (base+j) m) (by
    rw [Array.toList_setIfInBounds,h1,← h3]
    simp [List.set_append]) (by simpa using h2) (by simp [h3];omega)
   rw [c]
   simp
section
variable {M:Model} {A:Around} {E:Value->Shared->Prop} {s:Shared} {κ:SortKind} {S:Keyed->Prop} {R:Keyed->Keyed->Bool}
theorem aue {σ:Type} {st st' : σ} {Q:PUnit->σ->Prop} (h:Q ⟨⟩ st'):wpS M A E s (set st':StateT σ Sem PUnit) Q st:=by
 unfold wpS
 rw [StateT.run_set]
 exact aH2 ⟨rfl,h⟩
theorem an9 (C:Cmp M A E s κ S R) {st:SortSt} {i pw pw2:Nat} {pre a b g:List Keyed} (F:(arrOf st).toList=pre ++ a ++ b ++ g) (hS:∀ x∈(arrOf st).toList,S x)
  (a2:(pendingOf st)[i]?=some (pre.length,a.length,pw)) (a3:(pendingOf st)[i+1]?=some (pre.length+a.length,b.length,pw2)) (na:a ≠ []) (nb:b ≠ []) (W:Srt R a) (O:Srt R b) (hk:kindOf st = κ) (hf:failedOf st=none)
  {Q:Bool->SortSt->Prop}
  (h:∀ st' m,kindOf st' = κ->failedOf st'=none->pendingOf st'=((pendingOf st).setIfInBounds i (pre.length,a.length+b.length,pw)).eraseIdxIfInBounds (i+1)->(arrOf st').toList=pre ++ m ++ g->m.Perm (a ++ b)->Srt R m->Q true st') :
  wpS M A E s (akt i) Q st:=by
 have la:0 < a.length:=aE3.mpr na
 have lb:0 < b.length:=aE3.mpr nb
 have K:∀ x∈a,S x:=fun x c=>hS x (by rw [F];simp [c])
 have P:∀ x∈b,S x:=fun x c=>hS x (by rw [F];simp [c])
 have lx:(arrOf st).size=pre.length+a.length+b.length+g.length:=by
  have:=congrArg List.length F
  simp at this
  omega
 have B:((arrOf st).toList.drop pre.length).take a.length=a:=by rw [F];simp [aA4]
 have D:((arrOf st).toList.drop (pre.length+a.length)).take b.length=b:=by
  rw [show pre.length+a.length=(pre ++ a).length by simp,F,aA4 (pre ++ a),List.drop_left,List.take_left]
 refine wpS_bind (wpS_get ?_)
 rw [a2,a3]
 refine wpS_bind (wpS_mono (Q:=fun _ o=>kindOf o = κ/\failedOf o=none/\arrOf o=arrOf st/\pendingOf o=((pendingOf st).setIfInBounds i (pre.length,a.length+b.length,pw)).eraseIdxIfInBounds (i+1)) (aue ⟨hk,hf,rfl,rfl⟩) fun _ o ⟨U,f1,a1,p1⟩=>?_)
 obtain ⟨b0,bt,eb⟩:∃ b0 bt,b=b0 :: bt:=by cases b with | nil=>exact absurd rfl nb | cons x r=>exact ⟨x,r,rfl⟩
 have a4:(arrOf st)[pre.length+a.length]?=some b0:=by
  rw [← aC4,F,eb]
  simp [List.getElem?_append]
 have v:S b0:=P b0 (by rw [eb];simp)
 have w:∀ y∈b,R y b0=false:=fun y d=>by rw [eb] at d O;exact ad1 C O v y d
 -- nothing is laid together: the two stand in order already
 have plain:(∀ x∈a,∀ y∈b,R y x=false)->∀ st',Eqv o st'->Q true st':=fun hc st' q=>by
  refine h st' (a ++ b) (q.k.trans U) (q.f.trans f1) (q.p.trans p1) ?_ (List.Perm.refl _) (aB9.mpr ⟨W,O,hc⟩)
  rw [q.a,a1,F]
  simp [aA4]
 refine wpS_bind (aay a4 ?_)
 refine wpS_bind (afk C v hS (by omega) (by rw [B];exact W) la U fun k a6 h1 h2=>?_)
 rw [B] at h2
 have H:∀ x∈a.take k,R b0 x=false:=fun x c=>h1 x (by
  have:((arrOf st).toList.drop pre.length).take k=a.take k:=by rw [← B,List.take_take,Nat.min_eq_left a6]
  rw [this];exact c)
 dsimp only
 refine aal (fun e=>?_) (fun e=>?_)
 ·have e':a.length - k=0:=by simpa using e
  refine wpS_pure (plain (fun x c y d=>?_) o (Eqv.refl _))
  have:a.take k=a:=aD5 (by omega)
  rw [this] at H
  exact C.tr x b0 y (K x c) v (P y d) (H x c) (w y d)
 ·have e':a.length - k ≠ 0:=by simpa using e
  -- the last of a
  have N:pre.length+k+(a.length - k) - 1=pre.length+(a.length - 1):=by omega
  have n:a.length - 1 < a.length:=by omega
  have a5:(arrOf st)[pre.length+k+(a.length - k) - 1]?=some (a[a.length - 1]'n):=by
   rw [← aC4,F,N]
   simp [List.getElem?_append,n,aA4]
  have Sl:S (a[a.length - 1]'n):=K _ (aD6 n)
  have u:a=a.take (a.length - 1) ++ [a[a.length - 1]'n]:=by
   have:=List.take_succ (l:=a) (i:=a.length - 1)
   rw [show a.length - 1+1=a.length by omega,aF2] at this
   simpa [n] using this
  have J:∀ x∈a,R (a[a.length - 1]'n) x=false:=fun x c=>by
   have hs:Srt R (a.take (a.length - 1) ++ [a[a.length - 1]'n]):=by rw [← u];exact W
   exact adg C hs Sl x (by rw [← u];exact c)
  refine wpS_bind (aay a5 ?_)
  refine wpS_bind (agr C Sl hS (by omega) (by rw [D];exact O) (by omega) U fun j a7 h3 h4=>?_)
  rw [D] at h4
  have a0:((arrOf st).toList.drop (pre.length+a.length)).take j=b.take j:=by rw [← D,List.take_take,Nat.min_eq_left a7]
  rw [a0] at h3
  dsimp only
  refine aal (fun e2=>?_) (fun e2=>?_)
  ·have Z:j=0:=by simpa using e2
   subst Z
   refine wpS_pure (plain (fun x c y d=>?_) o (Eqv.refl _))
   exact C.tr x _ y (K x c) Sl (P y d) (J x c) (h4 y (by simpa using d))
  ·have Z:j ≠ 0:=by simpa using e2
   have ex:((arrOf st).extract (pre.length+k) (pre.length+a.length)).toList=a.drop k:=by
    rw [aku,F]
    simp [aA4,List.take_append,List.drop_append]
   have L:((arrOf st).extract (pre.length+a.length) (pre.length+a.length+j)).toList=b.take j:=by
    rw [ah2,a0]
   generalize hX:(arrOf st).extract (pre.length+k) (pre.length+a.length)=X at ex
   generalize hY:(arrOf st).extract (pre.length+a.length) (pre.length+a.length+j)=Y at L
   have sX:X.size=a.length - k:=by have:=congrArg List.length ex;simpa using this
   have sY:Y.size=j:=by have:=congrArg List.length L;simp at this;omega
   have T:Two S R X Y:=by
    refine ⟨fun x c=>K x (aB4 (by rw [← ex];exact c)),fun x c=>P x (aB0 (by rw [← L];exact c)),by rw [ex];exact acf W,by rw [L];exact abz O,by omega,by omega,fun x c y d=>?_,fun y d x c=>?_⟩
    ·rw [← aC4,L,eb] at d
     have:y=b0:=by
      obtain ⟨j',rfl⟩:∃ j',j=j'+1:=⟨j - 1,by omega⟩
      simpa using d.symm
     rw [this]
     rw [ex] at c
     exact C.asy _ _ v (K x (aB4 c)) (h2 x c)
    ·rw [← aC4,ex,sX] at c
     rw [aG6,show k+(a.length - k - 1)=a.length - 1 by omega,az0 n] at c
     cases c
     rw [L] at d
     exact C.asy _ _ (P y (aB0 d)) Sl (h3 y d)
   have fin:∀ (m:Array Keyed) (st':SortSt),Eqv o st'->Fin2 R X Y m->wpS M A E s (do
     modify fun (z:SortSt)=>setArr z (List.foldl (fun a x=>match x with | (p,j)=>a.setIfInBounds (pre.length+k+j) p) (arrOf z) m.toList.zipIdx)
     let z ← get
     pure (failedOf z).isNone) Q st':=by
    intro m st' q ⟨G,ms⟩
    rw [ex,L] at G
    refine wpS_bind (wpS_modify ?_)
    refine wpS_bind (wpS_get ?_)
    refine wpS_pure ?_
    show Q (failedOf st').isNone _
    rw [q.f,f1]
    have lm:m.toList.length=(a.drop k).length+(b.take j).length:=by rw [G.length_eq,aA1]
    have I:∀ z∈m.toList,z∈a.drop k\/z∈b.take j:=fun z hz=>az7.mp (G.mem_iff.mp hz)
    refine h _ (a.take k ++ m.toList ++ b.drop j) (q.k.trans U) (q.f.trans f1) (q.p.trans p1) ?_ ?_ ?_
    ·show (List.foldl _ (arrOf st') m.toList.zipIdx).toList=_
     have base:(arrOf st').toList=(pre ++ a.take k) ++ (a.drop k ++ b.take j) ++ (b.drop j ++ g):=by
      rw [q.a,a1,F]
      have t1:=aB1 k a
      have t2:=aB1 j b
      calc pre ++ a ++ b ++ g=pre ++ (a.take k ++ a.drop k) ++ (b.take j ++ b.drop j) ++ g:=by rw [t1,t2]
       _=_:=by simp only [aA4]
     have:=aiu (pre.length+k) m.toList (a.drop k ++ b.take j) (pre ++ a.take k) (b.drop j ++ g) 0 (arrOf st') base (by rw [aA1,lm]) (by rw [aA1,aF4];omega)
     rw [this]
     simp only [aA4]
    ·have t1:=aB1 k a
     have t2:=aB1 j b
     calc (a.take k ++ m.toList ++ b.drop j).Perm (a.take k ++ (a.drop k ++ b.take j) ++ b.drop j):=List.Perm.append_right _ (List.Perm.append_left _ G)
      _ = a ++ b:=by
       simp only [aA4]
       rw [t2,← aA4,t1]
    ·have a8:Srt R (a.take k ++ a.drop k):=by rw [aB1];exact W
     have a9:Srt R (b.take j ++ b.drop j):=by rw [aB1];exact O
     have ca:=(aB9.mp a8).2.2
     have cb:=(aB9.mp a9).2.2
     refine aB9.mpr ⟨aB9.mpr ⟨abz W,ms,fun x c y d=>?_⟩,acf O,fun x c y d=>?_⟩
     ·rcases I y d with d | d
      ·exact ca x c y d
      ·exact C.tr x b0 y (K x (aB0 c)) v (P y (aB0 d)) (H x c) (w y (aB0 d))
     ·have Sy:=P y (aB4 d)
      rcases az7.mp c with c | c
      ·exact C.tr x b0 y (K x (aB0 c)) v Sy (H x c) (w y (aB4 d))
      ·rcases I x c with c | c
       ·exact C.tr x _ y (K x (aB4 c)) Sl Sy (J x (aB4 c)) (h4 y d)
       ·exact cb x c y d
   refine aal (fun e3=>?_) (fun e3=>?_)
   ·exact wpS_bind (an7 C T U fun m st' q fm=>fin m st' q fm)
   ·exact wpS_bind (an8 C T U fun m st' q fm=>fin m st' q fm)
end
def e (xs:Array Keyed) (k:Nat):Keyed:=(xs[k]?).getD (.none,.none)
theorem ahc {xs:Array Keyed} {k:Nat} (h:k < xs.size):xs[k]?=some (e xs k):=by
 unfold e;rw [az4 h];rfl
def Asc (R:Keyed->Keyed->Bool) (xs:Array Keyed) (l h:Nat):Prop:=∀ i j,l<=i->i<=j->j < h->R (e xs j) (e xs i)=false
def Des (R:Keyed->Keyed->Bool) (xs:Array Keyed) (l h:Nat):Prop:=∀ i j,l<=i->i<=j->j < h->R (e xs i) (e xs j)=false
structure Bs (κ:SortKind) (p0:Array (Nat × Nat × Nat)) (a0:Array Keyed) (lo:Nat) (st:SortSt):Prop where
 k:kindOf st = κ
 f:failedOf st=none
 p:pendingOf st=p0
 perm:(arrOf st).toList.Perm a0.toList
 pre:∀ k,k < lo->(arrOf st)[k]?=a0[k]?
theorem arl {xs:Array Keyed} {src d:Nat} (hs:src < xs.size) (hd:d<=src) (k:Nat):e (bubble xs src d) k=if k=src - d then e xs src else if src - d < k/\k<=src then e xs (k - 1) else e xs k:=by
 unfold e
 rw [getElem?_bubble hs d hd]
 repeat' split
 all_goals rfl
theorem aco {xs:Array Keyed} {i j:Nat} (a:j<=xs.size) (k:Nat):e (mirror xs i j ((j - i) / 2)) k=if i<=k/\k < j then e xs (i+j - 1 - k) else e xs k:=by
 unfold e
 rw [getElem?_mirror_all a]
 split <;> rfl
section
variable {M:Model} {A:Around} {E:Value->Shared->Prop} {s:Shared} {κ:SortKind} {S:Keyed->Prop} {R:Keyed->Keyed->Bool} {p0:Array (Nat × Nat × Nat)} {a0:Array Keyed} {lo:Nat}
theorem Bs.size {st:SortSt} (B:Bs κ p0 a0 lo st):(arrOf st).size=a0.size:=by
 have:=B.perm.length_eq
 simpa using this
theorem Bs.sat {st:SortSt} (B:Bs κ p0 a0 lo st) (a:∀ x∈a0.toList,S x) {k:Nat} (b:k < a0.size):S (e (arrOf st) k):=by
 have h:=ahc (xs:=arrOf st) (k:=k) (by rw [B.size];exact b)
 refine a _ (B.perm.mem_iff.mp ?_)
 rw [← aC4] at h
 exact az2 h
theorem afl (C:Cmp M A E s κ S R) (b:∀ x∈a0.toList,S x) {st:SortSt} (B:Bs κ p0 a0 lo st) {i j:Nat} (hi:i < a0.size) (a:j < a0.size) {Q:Option Bool->SortSt->Prop} (h:Q (some (R (e (arrOf st) i) (e (arrOf st) j))) st) :
  wpS M A E s (ltAt' i j) Q st:=by
 rw [ltAt'_eq]
 refine wpS_bind (wpS_get ?_)
 refine wpS_bind (aay (ahc (by rw [B.size];exact hi)) ?_)
 refine wpS_bind (aay (ahc (by rw [B.size];exact a)) ?_)
 exact C.ask _ _ (B.sat b hi) (B.sat b a) _ _ B.k h
theorem arm (C:Cmp M A E s κ S R) {xs:Array Keyed} {l h:Nat} (b:∀ k,k<=h->S (e xs k)) (g:l < h) (a:Asc R xs l h) (n:R (e xs h) (e xs (h - 1))=false):Asc R xs l (h+1):=by
 intro i j c d f
 by_cases hj:j=h
 ·subst hj
  by_cases hi:i=j
  ·subst hi;exact C.irr (b _ (az6 _))
  ·exact C.tr _ (e xs (j - 1)) _ (b _ (by omega)) (b _ (by omega)) (b _ (by omega)) (a i (j - 1) c (by omega) (by omega)) n
 ·exact a i j c d (by omega)
theorem ae2 (C:Cmp M A E s κ S R) {xs:Array Keyed} {l h:Nat} (b:∀ k,k<=h->S (e xs k)) (g:l < h) (a:Des R xs l h) (n:R (e xs (h - 1)) (e xs h)=false):Des R xs l (h+1):=by
 intro i j c d f
 by_cases hj:j=h
 ·subst hj
  by_cases hi:i=j
  ·subst hi;exact C.irr (b _ (az6 _))
  ·exact C.tr _ (e xs (j - 1)) _ (b _ (by omega)) (b _ (by omega)) (b _ (by omega)) n (a i (j - 1) c (by omega) (by omega))
 ·exact a i j c d (by omega)
theorem Bs.set {st:SortSt} (B:Bs κ p0 a0 lo st) {xs:Array Keyed} (b:xs.Perm (arrOf st)) (c:∀ k,k < lo->xs[k]?=(arrOf st)[k]?):Bs κ p0 a0 lo (setArr st xs) :=
 ⟨B.k,B.f,B.p,b.toList.trans B.perm,fun k a=>(c k a).trans (B.pre k a)⟩
theorem aoa (C:Cmp M A E s κ S R) (y:∀ x∈a0.toList,S x) {st:SortSt} (B:Bs κ p0 a0 lo st) {n ok:Nat} (hn:lo+n<=a0.size) (hok:ok<=n) (O:1<=n) (hs:Asc R (arrOf st) lo (lo+ok)) {Q:Bool->SortSt->Prop}
  (h:∀ st',Bs κ p0 a0 lo st'->Asc R (arrOf st') lo (lo+n)->Q true st'):wpS M A E s (ark lo n ok) Q st:=by
 refine wpS_bind (wpS_mono (Q:=fun (z:Option Bool × Unit) st'=>z.1=none/\Bs κ p0 a0 lo st'/\Asc R (arrOf st') lo (lo+n)) ?_ ?_)
 ·refine wpS_forRange (fun k (z:Option Bool × Unit) st'=>z.1=none/\Bs κ p0 a0 lo st'/\Asc R (arrOf st') lo (lo+k)) ?_ ?_ ⟨rfl,B,fun i j g m u=>?_⟩
  ·rintro k ⟨o,_⟩ b L K ⟨rfl,q,as⟩
   have d:∀ j,j < lo+n->S (e (arrOf b) j):=fun j w=>q.sat y (by omega)
   refine wpS_bind (wpS_mono (Q:=fun (z:Option Bool × Nat × Nat) st'=>st'=b/\z.1=none/\z.2.1<=k/\(∀ i,i < z.2.1->R (e (arrOf b) (lo+k)) (e (arrOf b) (lo+i))=false)/\(∀ i,z.2.1<=i->i < k->R (e (arrOf b) (lo+k)) (e (arrOf b) (lo+i))=true)) ?_ ?_)
   ·refine wpS_forRange (fun t (z:Option Bool × Nat × Nat) st'=>st'=b/\z.1=none/\z.2.1<=z.2.2/\z.2.2<=k/\z.2.2 - z.2.1+t<=k/\(∀ i,i < z.2.1->R (e (arrOf b) (lo+k)) (e (arrOf b) (lo+i))=false)/\(∀ i,z.2.2<=i->i < k->R (e (arrOf b) (lo+k)) (e (arrOf b) (lo+i))=true)) ?_ ?_
     ⟨rfl,rfl,Nat.zero_le _,Nat.le_refl _,by dsimp only;omega,fun i hi=>absurd hi (Nat.not_lt_zero _),fun i g m=>by dsimp only at g;omega⟩
    ·rintro t ⟨o,l,r⟩ a _ N ⟨rfl,c,g,m,u,p,f⟩
     dsimp only at c g m u p f ⊢
     subst c
     refine aal (fun F=>?_) (fun F=>?_)
     ·have:l=r:=by omega
      subst this
      exact wpS_pure ⟨rfl,rfl,m,p,f⟩
     ·have hm:(l+r) / 2 < r:=by omega
      have D:l<=(l+r) / 2:=by omega
      refine wpS_bind (afl C y q (by omega) (by omega) ?_)
      dsimp only
      cases er:R (e (arrOf a) (lo+k)) (e (arrOf a) (lo+(l+r) / 2)) with
      | true =>
       rw [aD9 rfl]
       refine wpS_pure ⟨rfl,rfl,D,by dsimp only;omega,by dsimp only;omega,p,fun i i1 v=>?_⟩
       dsimp only at i1
       cases e2:R (e (arrOf a) (lo+k)) (e (arrOf a) (lo+i)) with
       | true=>rfl
       | false =>
        have:=C.tr _ _ _ (d _ (by omega)) (d _ (by omega)) (d _ (by omega)) (as (lo+(l+r) / 2) (lo+i) (by omega) (by omega) (by omega)) e2
        rw [this] at er;cases er
      | false =>
       rw [aE0 (by decide)]
       refine wpS_pure ⟨rfl,rfl,by dsimp only;omega,m,by dsimp only;omega,fun i i1=>?_,f⟩
       dsimp only at i1
       exact C.tr _ _ _ (d _ (by omega)) (d _ (by omega)) (d _ (by omega)) (as (lo+i) (lo+(l+r) / 2) (by omega) (by omega) (by omega)) er
    ·rintro ⟨o,l,r⟩ a ⟨rfl,c,g,m,u,p,f⟩
     dsimp only at c g m u p f ⊢
     have : l = r := by have:k ≤ max 0 k := by omega
                        omega
     subst this
     exact ⟨rfl,c,m,p,f⟩
   ·rintro ⟨o,l,r⟩ a ⟨rfl,c,g,p,f⟩
    dsimp only at c g p f ⊢
    subst c
    dsimp only
    have hsz:lo+k < (arrOf a).size:=by rw [q.size];omega
    have hd:(lo+k) - (lo+l)=k - l:=by omega
    refine wpS_bind (wpS_modify ?_)
    have G:∀ j,e (bubble (arrOf a) (lo+k) (lo+k - (lo+l))) j=if j=lo+l then e (arrOf a) (lo+k) else if lo+l < j/\j<=lo+k then e (arrOf a) (j - 1) else e (arrOf a) j:=fun j=>by
     rw [arl hsz (by omega),show lo+k - (lo+k - (lo+l))=lo+l by omega]
    refine wpS_pure ⟨rfl,q.set (bubble_perm _ _ _) (fun j w=>?_),fun i j i1 v I=>?_⟩
    ·show (bubble (arrOf a) (lo+k) (lo+k - (lo+l)))[j]?=_
     rw [getElem?_bubble hsz _ (by omega),aE0 (by omega),aE0 (by omega)]
    ·show R (e (bubble (arrOf a) (lo+k) (lo+k - (lo+l))) j) (e (bubble (arrOf a) (lo+k) (lo+k - (lo+l))) i)=false
     rw [G,G]
     have J:∀ j,j < lo+n->S (e (arrOf a) j):=d
     by_cases j1:j=lo+l
     ·rw [aD9 j1]
      by_cases i4:i=lo+l
      ·rw [aD9 i4];exact C.irr (d _ (by omega))
      ·rw [aE0 i4,aE0 (by omega)]
       have:=p (i - lo) (by omega)
       rw [show lo+(i - lo)=i by omega] at this
       exact this
     ·rw [aE0 j1]
      by_cases j2:lo+l < j/\j<=lo+k
      ·rw [aD9 j2]
       have H:=f (j - 1 - lo) (by omega) (by omega)
       rw [show lo+(j - 1 - lo)=j - 1 by omega] at H
       by_cases i4:i=lo+l
       ·rw [aD9 i4];exact C.asy _ _ (d _ (by omega)) (d _ (by omega)) H
       ·rw [aE0 i4]
        by_cases i5:lo+l < i/\i<=lo+k
        ·rw [aD9 i5];exact as (i - 1) (j - 1) (by omega) (by omega) (by omega)
        ·rw [aE0 i5];exact as i (j - 1) (by omega) (by omega) (by omega)
      ·rw [aE0 j2,aE0 (by omega),aE0 (by omega)]
       exact as i j (by omega) (by omega) (by omega)
  ·rintro ⟨o,_⟩ b ⟨c,q,as⟩
   exact ⟨c,q,fun i j i1 v I=>as i j i1 v (by omega)⟩
  ·by_cases w:j < lo+ok
   ·exact hs i j g m w
   ·have:i=j:=by omega
    subst this
    exact C.irr (B.sat y (by omega))
 ·rintro ⟨o,_⟩ b ⟨c,q,as⟩
  dsimp only at c ⊢
  subst c
  exact wpS_pure (h b q as)
end
def Eqb (R:Keyed->Keyed->Bool) (xs:Array Keyed) (l h:Nat):Prop:=∀ i j,l<=i->i < h->l<=j->j < h->R (e xs i) (e xs j)=false
section
variable {M:Model} {A:Around} {E:Value->Shared->Prop} {s:Shared} {κ:SortKind} {S:Keyed->Prop} {R:Keyed->Keyed->Bool} {p0:Array (Nat × Nat × Nat)} {a0:Array Keyed} {lo:Nat}
theorem am4 {α:Type} {prog:StateT SortSt Sem α} {P:SortSt->Prop} {Q : α->SortSt->Prop} {G:Prop} (use:(∀ st,P st->wpS M A E s prog Q st)->G) (a:∀ st,P st->wpS M A E s prog Q st):G:=use a
theorem akv (C:Cmp M A E s κ S R) (f:∀ x∈a0.toList,S x) {st:SortSt} (B:Bs κ p0 a0 lo st) {a nrem:Nat} (l:1<=a) (g:a<=nrem) (hn:lo+nrem<=a0.size) (as:Asc R (arrOf st) lo (lo+a)) {Q:Option (Option Nat) × Nat->SortSt->Prop}
  (h:∀ n,a<=n->n<=nrem->Asc R (arrOf st) lo (lo+n)->(n < nrem->R (e (arrOf st) (lo+n)) (e (arrOf st) (lo+n - 1))=true)->Q (none,n) st) :
  wpS M A E s (forIn [a:nrem] ((none,a):Option (Option Nat) × Nat) (fun (_:Nat) z=>ltAt' (lo+z.2) (lo+z.2 - 1) >>= fun x=>match x with
   | some smaller=>if smaller=true then pure (ForInStep.done (none,z.2)) else pure (ForInStep.yield (none,z.2+1))
   | _=>pure (ForInStep.done (some none,z.2)))) Q st:=by
 refine wpS_forRange (fun t (z:Option (Option Nat) × Nat) st'=>st'=st/\z=(none,t)/\Asc R (arrOf st) lo (lo+t)) ?_ ?_ ⟨rfl,rfl,as⟩
 ·rintro t ⟨o,n⟩ c t1 j ⟨rfl,d,b⟩
  cases d
  dsimp only
  refine wpS_bind (afl C f B (by omega) (by omega) ?_)
  dsimp only
  cases er:R (e (arrOf c) (lo+t)) (e (arrOf c) (lo+t - 1)) with
  | true =>
   rw [aD9 rfl]
   exact wpS_pure (h t t1 (by omega) b fun _=>er)
  | false =>
   rw [aE0 (by decide)]
   exact wpS_pure ⟨rfl,rfl,arm C (h:=lo+t) (fun k i=>B.sat f (by omega)) (by omega) b er⟩
 ·rintro ⟨o,n⟩ c ⟨rfl,d,b⟩
  cases d
  rw [show max a nrem=nrem by omega] at b ⊢
  exact h nrem g (az6 _) b fun z=>absurd z (aE8 _)
theorem arn (C:Cmp M A E s κ S R) {st:SortSt} (B:Bs κ p0 a0 lo st) {n:Nat} (hn:lo+n<=a0.size) (a:Des R (arrOf st) lo (lo+n)) :
  Bs κ p0 a0 lo (setArr st (mirror (arrOf st) lo (lo+n) ((lo+n - lo) / 2)))/\Asc R (mirror (arrOf st) lo (lo+n) ((lo+n - lo) / 2)) lo (lo+n):=by
 have hz:lo+n<=(arrOf st).size:=by rw [B.size];exact hn
 refine ⟨B.set (mirror_perm _ _ _ _) (fun k f=>by rw [getElem?_mirror_all hz,aE0 (by omega)]),fun i j b c d=>?_⟩
 rw [aco hz,aco hz,aD9 (by omega),aD9 (by omega)]
 exact a _ _ (by omega) (by omega) (by omega)
theorem ah3 (C:Cmp M A E s κ S R) (c:∀ x∈a0.toList,S x) {st:SortSt} (B:Bs κ p0 a0 lo st) {l h m:Nat} (p:lo<=l) (hh:h<=a0.size) (hm:h<=m) (d:m<=a0.size) (a:Des R (arrOf st) lo m) (eq:Eqb R (arrOf st) l h) :
  Bs κ p0 a0 lo (setArr st (mirror (arrOf st) l h ((h - l) / 2)))/\Des R (mirror (arrOf st) l h ((h - l) / 2)) lo m:=by
 have hz:h<=(arrOf st).size:=by rw [B.size];exact hh
 refine ⟨B.set (mirror_perm _ _ _ _) (fun k b=>by rw [getElem?_mirror_all hz,aE0 (by omega)]),fun i j g f o=>?_⟩
 rw [aco hz,aco hz]
 have n:∀ k,k < m->S (e (arrOf st) k):=fun k b=>B.sat c (by omega)
 by_cases c1:l<=i/\i < h
 ·rw [aD9 c1]
  by_cases c2:l<=j/\j < h
  ·rw [aD9 c2]
   exact eq _ _ (by omega) (by omega) (by omega) (by omega)
  ·rw [aE0 c2]
   exact a _ _ (by omega) (by omega) (by omega)
 ·rw [aE0 c1]
  by_cases c2:l<=j/\j < h
  ·rw [aD9 c2]
   exact a _ _ (by omega) (by omega) (by omega)
  ·rw [aE0 c2]
   exact a _ _ (by omega) (by omega) (by omega)
theorem apt (C:Cmp M A E s κ S R) (p:∀ x∈a0.toList,S x) {st:SortSt} (B:Bs κ p0 a0 lo st) {nrem:Nat} (h1:1<=nrem) (hn:lo+nrem<=a0.size) {Q:Option Nat->SortSt->Prop}
  (h:∀ st' n,Bs κ p0 a0 lo st'->1<=n->n<=nrem->Asc R (arrOf st') lo (lo+n)->Q (some n) st'):wpS M A E s (aud lo nrem) Q st:=by
 refine wpS_bind (akv C p B (az6 1) h1 hn (fun i j i1 r U=>?_) fun n n1 n2 as br=>?_)
 ·have:i=j:=by omega
  subst this
  exact C.irr (B.sat p (by omega))
 dsimp only
 refine aal (fun en=>wpS_pure (h st n B n1 n2 as)) (fun en=>?_)
 have a5:n ≠ nrem:=by simpa using en
 have Y:n < nrem:=by omega
 have G:=br Y
 refine am4 (M:=M) (A:=A) (E:=E) (s:=s) (α:=Option Nat) (Q:=Q) (P:=fun u=>Bs κ p0 a0 lo u/\Des R (arrOf u) lo (lo+n)/\R (e (arrOf u) (lo+n)) (e (arrOf u) (lo+n - 1))=true) (prog:=?prog) (fun N=>?use) (fun u ⟨K,Z,a3⟩=>?pf)
 case use =>
  refine aal (fun g1=>?_) (fun g1=>?_)
  ·refine wpS_bind (afl C p B (by omega) (by omega) ?_)
   dsimp only
   cases er:R (e (arrOf st) lo) (e (arrOf st) (lo+n - 1)) with
   | true=>rw [aD9 rfl];exact wpS_pure (h st n B n1 n2 as)
   | false =>
    rw [aE0 (by decide)]
    -- all of them are equal
    have c:∀ k,k < lo+n->S (e (arrOf st) k):=fun k J=>B.sat p (by omega)
    have all:Eqb R (arrOf st) lo (lo+n):=fun i j i1 r y w=>by
     -- j<=last<=first<=i
     have a1:=as j (lo+n - 1) y (by omega) (by omega)
     have a2:=as lo i (az6 _) i1 r
     exact C.tr _ _ _ (c j w) (c lo (by omega)) (c i r) (C.tr _ _ _ (c j w) (c (lo+n - 1) (by omega)) (c lo (by omega)) a1 er) a2
    have Z:Des R (arrOf st) lo (lo+n):=fun i j i1 r U=>all i j i1 (by omega) (by omega) U
    have hz:lo+n<=(arrOf st).size:=by rw [B.size];omega
    obtain ⟨q,a⟩:=ah3 C p B (az6 lo) (show lo+n<=a0.size by omega) (az6 _) (by omega) Z all
    refine wpS_bind (wpS_modify ?_)
    refine N _ ⟨q,a,?_⟩
    show R (e (mirror (arrOf st) lo (lo+n) ((lo+n - lo) / 2)) (lo+n)) (e (mirror (arrOf st) lo (lo+n) ((lo+n - lo) / 2)) (lo+n - 1))=true
    rw [aco hz,aco hz,aE0 (by omega),aD9 (by omega)]
    rw [show lo+(lo+n) - 1 - (lo+n - 1)=lo by omega]
    cases e2:R (e (arrOf st) (lo+n)) (e (arrOf st) lo) with
    | true=>rfl
    | false =>
     have:=C.tr _ _ _ (c (lo+n - 1) (by omega)) (c lo (by omega)) (B.sat p (show lo+n < a0.size by omega)) er e2
     rw [this] at G;cases G
  ·have:n=1:=by omega
   subst this
   refine N st ⟨B,fun i j i1 r U=>?_,G⟩
   have:i=j:=by omega
   subst this
   exact C.irr (B.sat p (by omega))
 case pf =>
  -- the falling part
  refine wpS_bind (acx ?_)
  refine wpS_bind (wpS_mono (Q:=fun (z:Option (Option Nat) × Nat × Nat) st'=>z.1=none/\Bs κ p0 a0 lo st'/\z.2.1<=nrem/\z.2.2+1<=z.2.1/\Des R (arrOf st') lo (lo+z.2.1)/\Eqb R (arrOf st') (lo+z.2.1 - (z.2.2+1)) (lo+z.2.1)) ?_ ?_)
  ·refine wpS_forRange (fun t (z:Option (Option Nat) × Nat × Nat) st'=>z.1=none/\z.2.1=t/\Bs κ p0 a0 lo st'/\z.2.2+1<=z.2.1/\Des R (arrOf st') lo (lo+z.2.1)/\Eqb R (arrOf st') (lo+z.2.1 - (z.2.2+1)) (lo+z.2.1)) ?_ ?_ ⟨rfl,rfl,K,by dsimp only;omega,?_,fun i j i1 r y w=>?_⟩
   ·rintro t ⟨o,m,b⟩ d t1 t2 ⟨D,O,q,H,a,f⟩
    dsimp only at D O H a f ⊢
    subst D O
    have c:∀ k,k < a0.size->S (e (arrOf d) k):=fun k J=>q.sat p J
    refine wpS_bind (afl C p q (by omega) (by omega) ?_)
    dsimp only
    cases er:R (e (arrOf d) (lo+m)) (e (arrOf d) (lo+m - 1)) with
    | true =>
     rw [aD9 rfl]
     refine aal (fun g=>?_) (fun g=>?_)
     ·have hz:lo+m<=(arrOf d).size:=by rw [q.size];omega
      obtain ⟨F,v⟩:=ah3 C p q (l:=lo+m - (b+1)) (h:=lo+m) (by omega) (by omega) (az6 _) (by omega) a f
      have L:∀ k,e (mirror (arrOf d) (lo+m - (b+1)) (lo+m) ((lo+m - (lo+m - (b+1))) / 2)) k=if lo+m - (b+1)<=k/\k < lo+m then e (arrOf d) (lo+m - (b+1)+(lo+m) - 1 - k) else e (arrOf d) k:=fun k=>aco hz k
      refine wpS_bind (wpS_modify ?_)
      refine wpS_pure ⟨rfl,rfl,F,by dsimp only;omega,?_,fun i j i1 r y w=>?_⟩
      ·show Des R (mirror (arrOf d) (lo+m - (b+1)) (lo+m) ((lo+m - (lo+m - (b+1))) / 2)) lo (lo+(m+1))
       refine ae2 C (h:=lo+m) (fun k J=>F.sat p (by omega)) (by omega) v ?_
       rw [L,L,aD9 (by omega),aE0 (by omega)]
       rw [show lo+m - (b+1)+(lo+m) - 1 - (lo+m - 1)=lo+m - (b+1) by omega]
       exact C.tr _ _ _ (c _ (by omega)) (c (lo+m - 1) (by omega)) (c _ (by omega)) (C.asy _ _ (c _ (by omega)) (c _ (by omega)) er) (a _ _ (by omega) (by omega) (by omega))
      ·dsimp only at i1 r y w
       have:i=j:=by omega
       subst this
       exact C.irr (F.sat p (by omega))
     ·have:b=0:=by omega
      subst this
      refine wpS_pure ⟨rfl,rfl,q,by dsimp only;omega,ae2 C (h:=lo+m) (fun k J=>c k (by omega)) (by omega) a (C.asy _ _ (c _ (by omega)) (c _ (by omega)) er),fun i j i1 r y w=>?_⟩
      dsimp only at i1 r y w
      have:i=j:=by omega
      subst this
      exact C.irr (c _ (by omega))
    | false =>
     rw [aE0 (by decide)]
     refine wpS_bind (afl C p q (by omega) (by omega) ?_)
     dsimp only
     cases er2:R (e (arrOf d) (lo+m - 1)) (e (arrOf d) (lo+m)) with
     | true =>
      rw [aD9 rfl]
      exact wpS_pure ⟨rfl,q,by dsimp only;omega,H,a,f⟩
     | false =>
      rw [aE0 (by decide)]
      refine wpS_pure ⟨rfl,rfl,q,by dsimp only;omega,ae2 C (h:=lo+m) (fun k J=>c k (by omega)) (by omega) a er2,fun i j i1 r y w=>?_⟩
      dsimp only at i1 r y w
      by_cases ci:i=lo+m
      ·by_cases cj:j=lo+m
       ·rw [ci,cj];exact C.irr (c _ (by omega))
       ·rw [ci]
        exact C.tr _ _ _ (c j (by omega)) (c (lo+m - 1) (by omega)) (c _ (by omega)) (f (lo+m - 1) j (by omega) (by omega) (by omega) (by omega)) er
      ·by_cases cj:j=lo+m
       ·rw [cj]
        exact C.tr _ _ _ (c _ (by omega)) (c (lo+m - 1) (by omega)) (c i (by omega)) er2 (f i (lo+m - 1) (by omega) (by omega) (by omega) (by omega))
       ·exact f i j (by omega) (by omega) (by omega) (by omega)
   ·rintro ⟨o,m,b⟩ d ⟨D,O,q,H,a,f⟩
    dsimp only at D O H a f ⊢
    exact ⟨D,q,by omega,H,a,f⟩
   ·exact ae2 C (h:=lo+n) (fun k J=>K.sat p (by omega)) (by omega) Z (C.asy _ _ (K.sat p (by omega)) (K.sat p (by omega)) a3)
   ·dsimp only at i1 r y w
    have:i=j:=by omega
    subst this
    exact C.irr (K.sat p (by omega))
  ·rintro ⟨o,m,b⟩ d ⟨D,q,hm,H,a,f⟩
   dsimp only at D hm H a f ⊢
   subst D
   dsimp only
   refine am4 (M:=M) (A:=A) (E:=E) (s:=s) (α:=Option Nat) (Q:=Q) (P:=fun I=>Bs κ p0 a0 lo I/\Des R (arrOf I) lo (lo+m)) (prog:=?prog2) (fun N=>?use2) (fun I ⟨F,v⟩=>?pf2)
   case use2 =>
    refine aal (fun g=>?_) (fun g=>?_)
    ·obtain ⟨F,v⟩:=ah3 C p q (l:=lo+m - (b+1)) (h:=lo+m) (by omega) (by omega) (az6 _) (by omega) a f
     refine wpS_bind (wpS_modify ?_)
     exact N _ ⟨F,v⟩
    ·exact N _ ⟨q,a⟩
   case pf2 =>
    obtain ⟨B5,T⟩:=arn C F (n:=m) (by omega) v
    refine wpS_bind (wpS_modify ?_)
    refine wpS_bind (akv C p B5 (by omega) hm hn T fun n' a4 X W _=>?_)
    exact wpS_pure (h _ n' B5 (by omega) X W)
end
def flat (rs:List (List Keyed × Nat)):List Keyed:=(rs.map (·.1)).flatten
def pend:Nat->List (List Keyed × Nat)->List (Nat × Nat × Nat)
 | _,[]=>[]
 | k,(r,pw) :: t=>(k,r.length,pw) :: pend (k+r.length) t
theorem ags:flat []=[]:=rfl
theorem abt (r:List Keyed × Nat) (t:List (List Keyed × Nat)):flat (r :: t)=r.1 ++ flat t:=rfl
theorem abp (p q:List (List Keyed × Nat)):flat (p ++ q)=flat p ++ flat q:=by simp [flat]
theorem ab0:∀ (k:Nat) (p q:List (List Keyed × Nat)),pend k (p ++ q)=pend k p ++ pend (k+(flat p).length) q
 | k,[],q=>by simp [pend,ags]
 | k,(r,pw) :: t,q=>by
  simp only [List.cons_append,pend,abt,aA1,List.cons.injEq,true_and]
  rw [ab0 (k+r.length) t q,Nat.add_assoc]
theorem ac9:∀ (k:Nat) (p:List (List Keyed × Nat)),(pend k p).length=p.length
 | _,[]=>rfl
 | k,(r,pw) :: t=>by simp [pend,ac9 _ t]
section
variable {M:Model} {A:Around} {E:Value->Shared->Prop} {s:Shared} {κ:SortKind} {S:Keyed->Prop} {R:Keyed->Keyed->Bool} {a0:Array Keyed}
structure Rn (κ:SortKind) (R:Keyed->Keyed->Bool) (a0:Array Keyed) (rs:List (List Keyed × Nat)) (rest:List Keyed) (st:SortSt):Prop where
 k:kindOf st = κ
 f:failedOf st=none
 arr:(arrOf st).toList=flat rs ++ rest
 pn:(pendingOf st).toList=pend 0 rs
 ok:∀ r∈rs,r.1 ≠ []/\Srt R r.1
 perm:(arrOf st).toList.Perm a0.toList
theorem auf {α:Type} (a c:List α) (x b y : α):((a ++ x :: y :: c).set a.length b).eraseIdx (a.length+1)=a ++ b :: c:=by
 rw [List.set_append_right _ _ (az6 _),Nat.sub_self,List.set_cons_zero,List.eraseIdx_append_of_length_le (by omega)]
 rw [show a.length+1 - a.length=1 by omega]
 rfl
theorem ahd (C:Cmp M A E s κ S R) (B:∀ x∈a0.toList,S x) {st:SortSt} {rs:List (List Keyed × Nat)} {rest:List Keyed} (N:Rn κ R a0 rs rest st) {i:Nat} (hi:i+1 < rs.length) {Q:Bool->SortSt->Prop}
  (h:∀ st' l,Rn κ R a0 l rest st'->l.length+1=rs.length->(flat l).length=(flat rs).length->Q true st'):wpS M A E s (akt i) Q st:=by
 obtain ⟨p,a,pw,b,pw2,q,e,D⟩:∃ p a pw b pw2 q,rs=p ++ (a,pw) :: (b,pw2) :: q/\p.length=i:=by
  have F:rs=rs.take i ++ rs.drop i:=(aB1 i rs).symm
  have hd:rs.drop i=rs[i] :: rs[i+1] :: rs.drop (i+2):=by
   rw [List.drop_eq_getElem_cons (by omega),List.drop_eq_getElem_cons hi]
  exact ⟨rs.take i,rs[i].1,rs[i].2,rs[i+1].1,rs[i+1].2,rs.drop (i+2),by rw [← hd];exact F,by simp;omega⟩
 subst D
 have c:=N.ok (a,pw) (by rw [e];simp)
 have j:=N.ok (b,pw2) (by rw [e];simp)
 have o:(pendingOf st).toList=pend 0 p ++ ((flat p).length,a.length,pw) :: ((flat p).length+a.length,b.length,pw2) :: pend ((flat p).length+a.length+b.length) q:=by
  rw [N.pn,e,ab0];simp [pend]
 have d:(pend 0 p).length=p.length:=ac9 0 p
 have g:(arrOf st).toList=flat p ++ a ++ b ++ (flat q ++ rest):=by
  rw [N.arr,e,abp,abt,abt];simp [aA4]
 refine an9 C (i:=p.length) (pw:=pw) (pw2:=pw2) g (fun x I=>B x (N.perm.mem_iff.mp I)) ?_ ?_ c.1 j.1 c.2 j.2 N.k N.f fun st' m v w y u pm G=>?_
 ·rw [← aC4,o,aB8 (by omega),d,Nat.sub_self];rfl
 ·rw [← aC4,o,aB8 (by omega),d,show p.length+1 - p.length=1 by omega];rfl
 ·refine h st' (p ++ (m,pw) :: q) ⟨v,w,?_,?_,fun r n=>?_,?_⟩ (by rw [e];simp;omega) ?_
  ·rw [u,abp,abt];simp [aA4]
  ·rw [y,Array.toList_eraseIdxIfInBounds,Array.toList_setIfInBounds,o,← d,auf,ab0]
   simp [pend,pm.length_eq,Nat.add_assoc]
  ·rcases az7.mp n with n | n
   ·exact N.ok r (by rw [e];simp [n])
   ·rcases az9.mp n with rfl | n
    ·refine ⟨?_,G⟩
     intro z
     have:=pm.length_eq
     have H:m=[]:=z
     rw [H] at this
     have:=aE3.mpr c.1
     simp at *
     omega
    ·exact N.ok r (by rw [e];simp [n])
  ·rw [u]
   refine List.Perm.trans ?_ N.perm
   rw [g]
   have:(flat p ++ a ++ b ++ (flat q ++ rest))=flat p ++ (a ++ b) ++ (flat q ++ rest):=by simp [aA4]
   rw [this]
   exact (pm.append_left (flat p)).append_right _
  ·rw [e,abp,abp,abt,abt,abt]
   simp [pm.length_eq]
   omega
theorem Rn.run {rs:List (List Keyed × Nat)} {rest:List Keyed} {st st':SortSt} {n:Nat} (N:Rn κ R a0 rs rest st) (B:Bs κ (pendingOf st) (arrOf st) (flat rs).length st') (u:1<=n) (hn:(flat rs).length+n<=(arrOf st).size) (as:Asc R (arrOf st') (flat rs).length ((flat rs).length+n)) :
  ∃ r a,r.length=n/\r ≠ []/\Srt R r/\Rn κ R a0 rs (r ++ a) st':=by
 have hsz:=B.size
 have d:(arrOf st').toList.take (flat rs).length=flat rs:=by
  have q:(arrOf st').toList.take (flat rs).length=(arrOf st).toList.take (flat rs).length:=by
   apply aE6
   intro k
   rw [List.getElem?_take,List.getElem?_take]
   split
   ·rename_i c
    have:=B.pre k c
    simpa using this
   ·rfl
  rw [q,N.arr,List.take_left]
 refine ⟨((arrOf st').toList.drop (flat rs).length).take n,((arrOf st').toList.drop (flat rs).length).drop n,?_,?_,?_,B.k,B.f,?_,?_,N.ok,B.perm.trans N.perm⟩
 ·simp;omega
 ·intro z
  have:=congrArg List.length z
  simp at this
  omega
 ·unfold Srt
  rw [aF1]
  intro i j hi g l
  have b:j < n:=by simp at g;omega
  have get:∀ k,k < n->∀ (c:k < (((arrOf st').toList.drop (flat rs).length).take n).length),(((arrOf st').toList.drop (flat rs).length).take n)[k]=e (arrOf st') ((flat rs).length+k):=by
   intro k c m
   rw [List.getElem_take,List.getElem_drop]
   have s:=ahc (xs:=arrOf st') (k:=(flat rs).length+k) (by omega)
   have o:(flat rs).length+k < (arrOf st').toList.length:=by simp;omega
   have h:(arrOf st').toList[(flat rs).length+k]?=some (e (arrOf st') ((flat rs).length+k)):=by simpa using s
   rw [az0 o] at h
   exact aB6 h
  rw [get i (by omega) hi,get j b g]
  exact as _ _ (by omega) (by omega) (by omega)
 ·rw [aB1]
  conv=>lhs;rw [← aB1 (flat rs).length (arrOf st').toList,d]
 ·rw [B.p];exact N.pn
theorem Rn.bs {rs:List (List Keyed × Nat)} {rest:List Keyed} {st:SortSt} (N:Rn κ R a0 rs rest st):Bs κ (pendingOf st) (arrOf st) (flat rs).length st:=⟨N.k,N.f,rfl,List.Perm.refl _,fun _ _=>rfl⟩
theorem Rn.size {rs:List (List Keyed × Nat)} {rest:List Keyed} {st:SortSt} (N:Rn κ R a0 rs rest st):(arrOf st).size=a0.size:=by
 have:=N.perm.length_eq;simpa using this
theorem Rn.len {rs:List (List Keyed × Nat)} {rest:List Keyed} {st:SortSt} (N:Rn κ R a0 rs rest st):(flat rs).length+rest.length=a0.size:=by
 have:=congrArg List.length N.arr
 have a:=N.size
 simp at this
 omega
theorem aro {rs:List (List Keyed × Nat)} (h:∀ r∈rs,r.1 ≠ []):rs.length<=(flat rs).length:=by
 induction rs with
 | nil=>simp [flat]
 | cons r t ih =>
  rw [abt,aA1,aD0]
  have:=ih fun q a=>h q (aA5 _ a)
  have:=aE3.mpr (h r aA8)
  omega
theorem akw {α:Type} (f : α->α):∀ (l:List α) (x : α),(l ++ [x]).modify l.length f=l ++ [f x]
 | [],x=>rfl
 | y :: l,x=>by
  show (y :: (l ++ [x])).modify (l.length+1) f=_
  rw [List.modify_succ_cons,akw f l x];rfl
theorem amc {α:Type} (arr:Array α) (f : α->α) {l:List α} {x : α} (h:arr.toList=l ++ [x]):(arr.modify (arr.size - 1) f).toList=l ++ [f x]:=by
 have hs:arr.size=l.length+1:=by have:=congrArg List.length h;simpa using this
 rw [Array.toList_modify,h,hs,show l.length+1 - 1=l.length by omega]
 exact akw f l x
theorem aug {α:Type} (arr:Array α) {l:List α} {x : α} (h:arr.toList=l ++ [x]):arr.back?=some x:=by
 have hs:arr.size=l.length+1:=by have:=congrArg List.length h;simpa using this
 rw [Array.back?_eq_getElem?,← aC4,h,hs]
 simp
theorem am5:∀ (rs:List (List Keyed × Nat)),rs ≠ []->∃ p x,rs=p ++ [x]
 | rs,h=>⟨rs.dropLast,rs.getLast h,(List.dropLast_concat_getLast h).symm⟩
theorem Rn.push {rs:List (List Keyed × Nat)} {r rest:List Keyed} {st st':SortSt} (N:Rn κ R a0 rs (r ++ rest) st) (c:r ≠ []) (hs:Srt R r) (k:kindOf st'=kindOf st) (f:failedOf st'=failedOf st) (a:arrOf st'=arrOf st)
  (p:pendingOf st'=(pendingOf st).push ((flat rs).length,r.length,0)):Rn κ R a0 (rs ++ [(r,0)]) rest st':=by
 refine ⟨k.trans N.k,f.trans N.f,?_,?_,fun q b=>?_,by rw [a];exact N.perm⟩
 ·rw [a,N.arr,abp];simp [flat,aA4]
 ·rw [p,Array.toList_push,N.pn,ab0];simp [pend]
 ·rcases az7.mp b with b | b
  ·exact N.ok q b
  ·have:q=(r,0):=by simpa using b
   subst this;exact ⟨c,hs⟩
theorem Rn.pow {rs:List (List Keyed × Nat)} {rest:List Keyed} {st st':SortSt} {pw:Nat} (N:Rn κ R a0 rs rest st) (hz:rs ≠ []) (k:kindOf st'=kindOf st) (f:failedOf st'=failedOf st) (a:arrOf st'=arrOf st)
  (p:pendingOf st'=(pendingOf st).modify ((pendingOf st).size - 1) fun x=>(x.1,x.2.1,pw)):∃ c,Rn κ R a0 c rest st'/\(flat c).length=(flat rs).length:=by
 obtain ⟨q,⟨b,d⟩,e⟩:=am5 rs hz
 subst e
 have h:(pendingOf st).toList=pend 0 q ++ [((flat q).length,b.length,d)]:=by rw [N.pn,ab0];simp [pend]
 refine ⟨q ++ [(b,pw)],⟨k.trans N.k,f.trans N.f,?_,?_,fun x g=>?_,by rw [a];exact N.perm⟩,by simp [abp,abt,ags]⟩
 ·rw [a,N.arr];simp [abp,abt,ags]
 ·rw [p,amc _ _ h,ab0];simp [pend]
 ·rcases az7.mp g with g | g
  ·exact N.ok x (by simp [g])
  ·have:x=(b,pw):=by simpa using g
   subst this
   exact N.ok (b,d) (by simp)
theorem aw2 {c:Prop} [Decidable c] {x y z:Nat} (a:x+1 < z) (b:y+1 < z):(if c then x else y)+1 < z:=by
 split
 ·exact a
 ·exact b
theorem Rn.powK {rs:List (List Keyed × Nat)} {rest:List Keyed} {st st':SortSt} {pw:Nat} {G:SortSt->Prop} (N:Rn κ R a0 rs rest st) (hz:rs ≠ []) (h:∀ b,Rn κ R a0 b rest st'->(flat b).length=(flat rs).length->G st') (k:kindOf st'=kindOf st) (f:failedOf st'=failedOf st) (a:arrOf st'=arrOf st)
  (p:pendingOf st'=(pendingOf st).modify ((pendingOf st).size - 1) fun x=>(x.1,x.2.1,pw)):G st':=by
 obtain ⟨b,d,c⟩:=N.pow hz k f a p
 exact h b d c
theorem auh (C:Cmp M A E s κ S R) (X:∀ x∈a0.toList,S x) {st:SortSt} (h0:arrOf st=a0) (hk:kindOf st = κ) (hf:failedOf st=none) (hp:pendingOf st = #[]) {Q:Unit->SortSt->Prop}
  (h:∀ st',failedOf st'=none->(arrOf st').toList.Perm a0.toList->Srt R (arrOf st').toList->Q () st'):wpS M A E s ayp Q st:=by
 have o:(arrOf st).size=a0.size:=by rw [h0]
 refine wpS_bind (wpS_get ?_)
 dsimp only
 refine wpS_bind (wpS_mono (Q:=fun (c:Option Unit × Nat) v=>c.1=none/\∃ rs,Rn κ R a0 rs [] v) ?_ ?_)
 ·refine wpS_forRange (fun i (c:Option Unit × Nat) v=>c.1=none/\∃ rs rest,Rn κ R a0 rs rest v/\c.2=(flat rs).length/\i<=c.2) ?_ ?_ ⟨rfl,[],a0.toList,⟨hk,hf,by rw [h0];rfl,by rw [hp];rfl,fun r H=>(by cases H),by rw [h0]⟩,rfl,az6 _⟩
  ·rintro i ⟨c1,lo⟩ v _ hi ⟨F,rs,rest,N,e2,D⟩
   dsimp only at F e2 D ⊢
   subst F e2
   have L:=N.len
   have b4:i < a0.size:=by rw [← o];exact hi
   refine aal (fun a3=>?_) (fun a6=>?_)
   ·have a8:a0.size<=(flat rs).length:=by rw [← o];exact a3
    refine wpS_pure ⟨rfl,rs,?_⟩
    have:rest=[]:=aF6 (by omega)
    subst this
    exact N
   ·have b0:(flat rs).length < a0.size:=by
     have:¬ (flat rs).length ≥ (arrOf st).size:=a6
     omega
    refine wpS_bind (apt C (fun x hx=>X x (N.perm.mem_iff.mp hx)) N.bs (nrem:=(arrOf st).size - (flat rs).length) (by omega) (by rw [N.size];omega) fun b2 n B2 n1 n2 W=>?_)
    dsimp only
    have B:=N.size
    refine aal (fun l=>?g1) (fun l=>?g2)
    case' g1 =>
     refine wpS_bind (acx ?_)
     generalize hmr:min (_:Nat) _=nn
     refine wpS_bind (aoa C (fun x hx=>X x (N.perm.mem_iff.mp hx)) B2 (n:=nn) (ok:=n) ?_ ?_ ?_ W fun b3 B3 a7=>?_)
     ·have:nn<=(arrOf st).size - (flat rs).length:=by rw [← hmr];exact Nat.min_le_left _ _
      rw [B];omega
     ·rw [← hmr];exact Nat.le_min.mpr ⟨n2,aE9 l⟩
     ·have:n<=nn:=by rw [← hmr];exact Nat.le_min.mpr ⟨n2,aE9 l⟩
      omega
     rw [aE0 (by decide)]
     have O:1<=nn:=by
      have:n<=nn:=by rw [← hmr];exact Nat.le_min.mpr ⟨n2,aE9 l⟩
      omega
     have a9:nn<=(arrOf st).size - (flat rs).length:=by rw [← hmr];exact Nat.min_le_left _ _
     obtain ⟨r,g,H,y,I,P⟩:=N.run B3 O (by rw [B];omega) a7
     clear hmr
     subst H
    case' g2 =>
     obtain ⟨r,g,H,y,I,P⟩:=N.run B2 n1 (by rw [B];omega) W
     clear l
     subst H
    all_goals
     refine wpS_bind (wpS_get ?_)
     rcases Classical.em (rs=[]) with hz | hz
     ·have w:=P.pn
      rw [hz] at w
      have hb:=Array.back?_eq_none_iff.mpr (Array.toList_eq_nil_iff.mp w)
      rw [hb]
      dsimp only
      refine wpS_bind (wpS_modify (wpS_pure ⟨rfl,rs ++ [(r,0)],g,P.push y I rfl rfl rfl rfl,?_,?_⟩))
      ·rw [abp,aA1];simp [flat]
      ·have:=aE3.mpr y
       show i+1<=(flat rs).length+r.length
       omega
     ·obtain ⟨q,⟨b,T⟩,eq⟩:=am5 rs hz
      have w:=P.pn
      rw [eq,ab0,show pend (0+(flat q).length) [(b,T)]=[((flat q).length,b.length,T)] by simp [pend]] at w
      have hb:=aug _ w
      rw [hb]
      dsimp only
      refine wpS_bind (wpS_mono (Q:=fun (c:Option Unit × Unit) d=>c.1=none/\∃ a,Rn κ R a0 a (r ++ g) d/\a ≠ []/\(flat a).length=(flat rs).length) ?_ ?_)
      ·refine wpS_forRange (fun _ (c:Option Unit × Unit) d=>c.1=none/\∃ a,Rn κ R a0 a (r ++ g) d/\a ≠ []/\(flat a).length=(flat rs).length) ?_ (fun c d h4=>h4) ⟨rfl,rs,P,hz,rfl⟩
       rintro i4 ⟨Y,u4⟩ d _ _ ⟨u,a,m,Z,p⟩
       dsimp only at u
       subst u
       refine wpS_bind (wpS_get ?_)
       have U:(pendingOf d).size=a.length:=by
        have:=congrArg List.length m.pn
        rw [ac9] at this
        simpa using this
       by_cases K:(pendingOf d).size > 1
       ·rw [aD9 K]
        obtain ⟨x4,a2⟩:∃ x4,(pendingOf d)[(pendingOf d).size - 2]?=some x4:=⟨_,az4 (by omega)⟩
        obtain ⟨y1,y2,y3⟩:=x4
        rw [a2]
        dsimp only
        refine aal (fun _=>wpS_pure ⟨rfl,a,m,Z,p⟩) (fun _=>?_)
        rw [U]
        refine wpS_bind (ahd C X m (i:=a.length - 2) (by omega) fun a5 J N5 l5 f5=>?_)
        rw [aE0 (by decide)]
        refine wpS_pure ⟨rfl,J,N5,?_,by omega⟩
        rintro rfl
        simp at l5
        omega
       ·rw [aE0 K]
        exact wpS_pure ⟨rfl,a,m,Z,p⟩
      ·rintro ⟨Y,u4⟩ d ⟨u,a,m,Z,p⟩
       dsimp only at u ⊢
       subst u
       dsimp only
       refine wpS_bind (wpS_modify ?_)
       refine m.powK (G:=fun z=>wpS M A E s _ _ z) Z (fun a4 N6 l6=>?_) rfl rfl rfl rfl
       refine wpS_bind (wpS_modify (wpS_pure ⟨rfl,a4 ++ [(r,0)],g,N6.push y I rfl rfl rfl ?_,?_,?_⟩))
       ·rw [l6,p]
       ·rw [abp,aA1,l6,p];simp [flat]
       ·have:=aE3.mpr y
        show i+1<=(flat rs).length+r.length
        omega
  ·rintro ⟨c1,lo⟩ v ⟨F,rs,rest,N,e2,D⟩
   dsimp only at F e2 D ⊢
   refine ⟨F,rs,?_⟩
   have L:=N.len
   have a1:(arrOf st).size<=lo:=aC0 (Nat.le_max_right 0 _) D
   have:rest=[]:=aF6 (by rw [o] at a1;omega)
   subst this
   exact N
 ·rintro ⟨c1,lo⟩ v ⟨F,rs,N⟩
  dsimp only at F ⊢
  subst F
  dsimp only
  refine wpS_bind (wpS_mono (Q:=fun (c:Option Unit × Unit) d=>c.1=none/\∃ a,Rn κ R a0 a [] d/\a.length<=1) ?_ ?_)
  ·refine wpS_forRange (fun j (c:Option Unit × Unit) d=>c.1=none/\∃ a,Rn κ R a0 a [] d/\(a.length<=1\/a.length+j<=a0.size)) ?_ ?_ ⟨rfl,rs,N,.inr ?_⟩
   ·rintro j ⟨Y,u4⟩ d _ _ ⟨u,a,m,p⟩
    dsimp only at u
    subst u
    refine wpS_bind (wpS_get ?_)
    have U:(pendingOf d).size=a.length:=by
     have:=congrArg List.length m.pn
     rw [ac9] at this
     simpa using this
    refine aal (fun K=>wpS_pure ⟨rfl,a,m,?_⟩) (fun K=>?_)
    ·have:(pendingOf d).size<=1:=K
     omega
    ·have b1:¬ (pendingOf d).size<=1:=K
     refine wpS_bind (ahd C X m (i:=_) ?_ fun a5 J N5 l5 f5=>?_)
     ·refine aw2 ?_ ?_
      ·show (pendingOf d).size - 2 - 1+1 < a.length
       omega
      ·show (pendingOf d).size - 2+1 < a.length
       omega
     rw [aE0 (by decide)]
     exact wpS_pure ⟨rfl,J,N5,by omega⟩
   ·rintro ⟨Y,u4⟩ d ⟨u,a,m,p⟩
    refine ⟨u,a,m,?_⟩
    rcases p with p | p
    ·exact p
    ·have:(arrOf st).size<=max 0 (arrOf st).size:=Nat.le_max_right _ _
     have h3:a.length+max 0 (arrOf st).size<=a0.size:=p
     omega
   ·have:=aro fun r H=>(N.ok r H).1
    have:=N.len
    omega
  ·rintro ⟨Y,u4⟩ d ⟨u,a,m,p⟩
   dsimp only at u ⊢
   subst u
   dsimp only
   refine wpS_pure (h d m.f m.perm ?_)
   rw [m.arr]
   match a,p with
   | [],_=>exact List.Pairwise.nil
   | [x],_=>simpa [flat] using (m.ok x (by simp)).2
end
end TS
namespace L2
open PySem PySem.Spec PyProof.Rows
mutual
inductive Rep (H:Hp):V->PyData->Prop
 | non:Rep H .non .none
 | bl (b:Bool):Rep H (.bl b) (.bool b)
 | int (i:Int):Rep H (.int i) (.int i)
 | str (x:Str):Rep H (.str x) (.str x)
 | lst {a:Addr} {xs:List V} {ds:List PyData}:H a=some (.lst xs)->Reps H xs ds->Rep H (.ref a) (.list ds)
 | tup {a:Addr} {xs:List V} {ds:List PyData}:H a=some (.tup xs)->Reps H xs ds->Rep H (.ref a) (.tuple ds)
inductive Reps (H:Hp):List V->List PyData->Prop
 | nil:Reps H [] []
 | cons {v:V} {vs:List V} {d:PyData} {ds:List PyData}:Rep H v d->Reps H vs ds->Reps H (v :: vs) (d :: ds)
end
mutual
theorem Rep.same {H H':Hp} (s:Same H H'):∀ {v:V} {d:PyData},Rep H v d->Rep H' v d
 | _,_,.non => .non
 | _,_,.bl b => .bl b
 | _,_,.int i => .int i
 | _,_,.str x => .str x
 | _,_,.lst h r => .lst (s _ _ h) (Reps.same s r)
 | _,_,.tup h r => .tup (s _ _ h) (Reps.same s r)
theorem Reps.same {H H':Hp} (s:Same H H'):∀ {vs:List V} {ds:List PyData},Reps H vs ds->Reps H' vs ds
 | _,_,.nil => .nil
 | _,_,.cons r t => .cons (Rep.same s r) (Reps.same s t)
end
theorem Reps.length {H:Hp}:∀ {vs:List V} {ds:List PyData},Reps H vs ds->vs.length=ds.length
 | _,_,.nil=>rfl
 | _,_,.cons _ t=>by simp [Reps.length t]
theorem Reps.get {H:Hp}:∀ {vs:List V} {ds:List PyData} {i:Nat} {d:PyData},Reps H vs ds->ds[i]?=some d->∃ v,vs[i]?=some v/\Rep H v d
 | _,_,_,_,.nil,e=>by simp at e
 | _,_,0,_,.cons r _,e=>by simp at e;subst e;exact ⟨_,rfl,r⟩
 | _,_,i+1,d,.cons _ t,e=>by
  obtain ⟨u,a,b⟩:=Reps.get (i:=i) (d:=d) t (by simpa using e)
  exact ⟨u,by simpa using a,b⟩
theorem Reps.append {H:Hp}:∀ {vs a:List V} {ds es:List PyData},Reps H vs ds->Reps H a es->Reps H (vs ++ a) (ds ++ es)
 | _,_,_,_,.nil,s=>s
 | _,_,_,_,.cons r t,s => .cons r (Reps.append t s)
section
variable {X:Cx} {pins:List (Addr × Obj)} {σ:St} {H:Hp} {s:Shared}
mutual
theorem Rep.reads (I:Inv X pins σ H s):∀ {v:V} {d:PyData} {u:Value},Rep H v d->RelV v u->∃ as,Reads s.heap u d as
 | _,_,_,.non,r=>by cases r;exact ⟨_,.none⟩
 | _,_,_,.bl b,r=>by cases r;exact ⟨_,.bool b⟩
 | _,_,_,.int i,r=>by obtain ⟨t,rfl⟩:=r;exact ⟨_,.int i t⟩
 | _,_,_,.str x,r=>by obtain ⟨t,rfl⟩:=r;exact ⟨_,.str x t⟩
 | _,_,_,.lst (a:=a) (xs:=xs) h q,r=>by
  cases r
  obtain ⟨_,its,n,f,e⟩:=(show ObjOk X.prog X.w H s.heap a (.lst xs) from I.hok a _ h)
  obtain ⟨as,g⟩:=Reps.reads I q f
  exact ⟨_,.list e rfl rfl (by simpa using g)⟩
 | _,_,_,.tup (a:=a) (xs:=xs) h q,r=>by
  cases r
  obtain ⟨_,its,f,o,e,c,n,j⟩:=(show ObjOk X.prog X.w H s.heap a (.tup xs) from I.hok a _ h)
  obtain ⟨as,g⟩:=Reps.reads I q f
  exact ⟨_,.tuple e c j (by simpa using g)⟩
theorem Reps.reads (I:Inv X pins σ H s):∀ {vs:List V} {ds:List PyData} {us:List Value},Reps H vs ds->Vals vs us->∃ as,ReadsAll s.heap us ds as
 | _,_,_,.nil,.nil=>⟨_,.nil⟩
 | _,_,_,.cons r t,.cons q qs=>by
  obtain ⟨as,a⟩:=Rep.reads I r q
  obtain ⟨bs,rb⟩:=Reps.reads I t qs
  exact ⟨_,.cons a rb⟩
end
end
mutual
def aar:PyData->Bool
 | .none | .int _=>true
 | .list xs | .tuple xs=>plainDs xs
 | _=>false
def plainDs:List PyData->Bool
 | []=>true
 | x :: xs=>aar x && plainDs xs
end
mutual
theorem acg:∀ (d:PyData),aar d=true->d.canLay0=true
 | .none,_=>by simp [PyData.canLay0]
 | .int _,_=>by simp [PyData.canLay0]
 | .list xs,h=>by simp only [PyData.canLay0];exact plain_lays xs (by simpa [aar] using h)
 | .tuple xs,h=>by simp only [PyData.canLay0];exact plain_lays xs (by simpa [aar] using h)
 | .bool _,h=>by simp [aar] at h
 | .str _,h=>by simp [aar] at h
 | .dict _,h=>by simp [aar] at h
theorem plain_lays:∀ (ds:List PyData),plainDs ds=true->PyData.canLayAll0 ds=true
 | [],_=>by simp [PyData.canLayAll0]
 | x :: xs,h=>by
  have h':aar x=true/\plainDs xs=true:=by simpa [plainDs] using h
  simp only [PyData.canLayAll0,acg x h'.1,plain_lays xs h'.2,Bool.and_self]
end
mutual
theorem afm:∀ (d e:PyData),aar d=true->aar e=true->(PyData.eqv d e=true ↔ d=e)
 | .none,e,_,h=>by cases e <;> simp_all [aar,PyData.eqv]
 | .int i,e,_,h=>by cases e <;> simp_all [aar,PyData.eqv]
 | .list xs,e,g,h=>by
  cases e with
  | list ys=>simp only [PyData.eqv,PyData.list.injEq];exact eqvAll_plain xs ys (by simpa [aar] using g) (by simpa [aar] using h)
  | _=>simp_all [aar,PyData.eqv]
 | .tuple xs,e,g,h=>by
  cases e with
  | tuple ys=>simp only [PyData.eqv,PyData.tuple.injEq];exact eqvAll_plain xs ys (by simpa [aar] using g) (by simpa [aar] using h)
  | _=>simp_all [aar,PyData.eqv]
 | .bool _,_,h,_=>by simp [aar] at h
 | .str _,_,h,_=>by simp [aar] at h
 | .dict _,_,h,_=>by simp [aar] at h
theorem eqvAll_plain:∀ (ds es:List PyData),plainDs ds=true->plainDs es=true->(PyData.eqvAll ds es=true ↔ ds=es)
 | [],[],_,_=>by simp [PyData.eqvAll]
 | [],_ :: _,_,_=>by simp [PyData.eqvAll]
 | _ :: _,[],_,_=>by simp [PyData.eqvAll]
 | x :: xs,y :: ys,g,h=>by
  have g':aar x=true/\plainDs xs=true:=by simpa [plainDs] using g
  have h':aar y=true/\plainDs ys=true:=by simpa [plainDs] using h
  simp only [PyData.eqvAll,aF5,List.cons.injEq,afm x y g'.1 h'.1,eqvAll_plain xs ys g'.2 h'.2]
end
theorem aeh (ds:List PyData):plainDs ds=true ↔ ∀ d∈ds,aar d=true:=by
 induction ds with
 | nil=>simp [plainDs]
 | cons d ds ih=>simp [plainDs,ih]
def rEqD:R2:=fun x y H Q=>∃ d e,Rep H x d/\Rep H y e/\aar d=true/\aar e=true/\d.depth<=60/\Q (.bl (PyData.eqv d e)) H
def rNeD:R2:=fun x y H Q=>∃ d e,Rep H x d/\Rep H y e/\aar d=true/\aar e=true/\d.depth<=60/\Q (.bl (!PyData.eqv d e)) H
section
variable {X:Cx}
theorem aw3 (i:X.A.units+64 < cLine):OpR X (compareOp .Eq) rEqD:=by
 intro pins s σ H x y v u Q I g b h
 obtain ⟨d,e,f,re,hd,a,hz,q⟩:=h
 obtain ⟨as,c⟩:=f.reads I g
 obtain ⟨bs,rb⟩:=re.reads I b
 refine SeqAt.compareEq_reads c rb (acg _ hd) (acg _ a) ?_ ⟨.bl _,H,I,rfl,q⟩
 have:=Nat.min_le_left d.depth e.depth
 omega
theorem ahe (i:X.A.units+64 < cLine):OpR X (compareOp .NotEq) rNeD:=by
 intro pins s σ H x y v u Q I g b h
 obtain ⟨d,e,f,re,hd,a,hz,q⟩:=h
 obtain ⟨as,c⟩:=f.reads I g
 obtain ⟨bs,rb⟩:=re.reads I b
 refine SeqAt.compareNe_reads c rb (acg _ hd) (acg _ a) ?_ ⟨.bl _,H,I,rfl,q⟩
 have:=Nat.min_le_left d.depth e.depth
 omega
def rInD (neg:Bool):R2:=fun x y H Q=>∃ d es,Rep H x d/\(Rep H y (.list es)\/Rep H y (.tuple es))/\aar d=true/\plainDs es=true/\d.depth<=60/\Q (.bl (if neg then !es.any (fun z=>PyData.eqv z d) else es.any (fun z=>PyData.eqv z d))) H
theorem apu (i:X.A.units+64 < cLine):OpR X (compareOp .NotIn) (rInD true):=by
 intro pins s σ H x y v u Q I g b h
 obtain ⟨d,es,f,re,hd,a,hz,q⟩:=h
 obtain ⟨as,c⟩:=f.reads I g
 have hm:=Nat.min_le_right (PyData.depthAll es) d.depth
 rcases re with re | re
 ·obtain ⟨bs,rb⟩:=re.reads I b
  exact SeqAt.notIn_list_reads rb c (plain_lays _ a) (acg _ hd) (by omega) ⟨.bl _,H,I,rfl,q⟩
 ·obtain ⟨bs,rb⟩:=re.reads I b
  exact SeqAt.notIn_tuple_reads rb c (plain_lays _ a) (acg _ hd) (by omega) ⟨.bl _,H,I,rfl,q⟩
def rIsi (K:Frag):List V->Hp->VK->Prop:=fun xs H Q=>∃ (x:V) (T:String) (t:Value) (b:Bool),xs=[x,.ty T]/\TyOf K H x t/\kitOne K t (.type T)=some b/\Q (.bl b) H
theorem ad2:abh X (.builtin "isinstance") (rIsi X.K):=by
 intro pins s σ H xs us Q I r h
 obtain ⟨x,T,t,b,rfl,ty,e,q⟩:=h
 obtain ⟨u,c,rfl,a,d⟩:=an0 r
 cases d
 exact apa I a ty e fun f=>⟨.bl b,H,I.tok _,rfl,q⟩
end
end L2
namespace HT
open PySem PyProof.Rows
section
open PySem.SeqAt
open PySem.AutoSeq1 (wpAny_loadPart')
open PySem.MeetsSeq PySem.MeetsSeq2 PySem.MeetsSeq3
end
section
variable {prog:Program} {w:World} {A:Around} {E:Value->Shared->Prop} {s:Shared}
theorem aiv {it t:Addr} {items:Array Value} (g:t ≠ it):∀ (n i:Nat) (s:Shared) (Q:List Value->Shared->Prop),s.heap.IsListIter it t i->s.heap.IsList t items->i+n<=items.size ->
  (∀ h',h'.IsListIter it t (i+n)->Heap.SameBut it s.heap h'->Q ((items.toList.drop i).take n) { s with heap:=h' })->wpAny (model prog w) A (draw (.ref it) n) Q E s
 | 0,i,s,Q,hit,_,_,hQ=>by
  show wpAny _ _ (pure []) Q E s
  exact aH2 (by simpa using hQ s.heap hit (Heap.SameBut.refl ..))
 | n+1,i,s,Q,hit,ht,hle,hQ=>by
  have f:i < items.size:=by omega
  show wpAny _ _ (pyNext (.ref it) >>= _) Q E s
  refine aH1 (wpAny_pyNext_list_item hit ht (x:=items[i]) (by simp [f]) fun j c a=>?_)
  refine aH1 (aH7 (aiv g n (i+1) _ _ c (ht.extBut a.extBut g) (by omega) fun h b d=>aH2 ?_))
  have hd:items.toList.drop i=items[i] :: items.toList.drop (i+1):=by simp [List.drop_eq_getElem_cons,f]
  have:=hQ h (by rw [show i+(n+1)=i+1+n by omega];exact b) (a.trans d)
  rw [hd,List.take_succ_cons] at this
  exact this
theorem agt {t:Addr} {items:Array Value} {Q:List Value->Shared->Prop} (hh:A.handled=none) (g:s.heap.IsList t items)
  (m:∀ h',Heap.ExtBut s.heap.objs.size s.heap h'->Q items.toList { s with heap:=h' }):wpAny (model prog w) A (unpackItems (.ref t) items.size none) Q E s:=by
 have i:t ≠ s.heap.objs.size:=by obtain ⟨o,n,_⟩:=g;exact aA6 (aH4 n)
 unfold unpackItems
 refine aH1 ?_
 ·unfold notIterableAtAll
  refine aH1 (wpAny_specialOf g.typeIs slot_list_iter.lookup ?_)
  refine aH2 ?_
  simp only [Bool.false_eq_true,if_false]
  refine aH1 (aH7 (aI6 g ?_))
  refine aH1 (aH7 (aiv i items.size 0 _ _ ⟨_,aH5 _ rfl,rfl,rfl⟩ (g.push _) (by omega) fun j c a=>?_))
  have l:List.take items.size (List.drop 0 items.toList)=items.toList:=by
   rw [List.drop_zero];exact aD5 (by simp)
  rw [l]
  rw [aE0 (by simp)]
  have f:j.IsList t items:=(g.push _).extBut a.extBut i
  refine aH1 (aH7 (wpAny_pyNext_list_end hh c f (by simp) fun h d=>?_))
  simp only [Option.isSome_none,Bool.false_eq_true,if_false]
  refine aH2 (m h fun b o hb e=>d b o hb (a.extBut b o hb (aH3 _ e)))
theorem assign_Tuple_list {env:Env} {a:List Expr} {x1} {pos:Pos} {t:Addr} {items:Array Value} {Q:Unit->Shared->Prop} (hh:A.handled=none) (c:s.heap.IsList t items)
  (hn:(assignEach a env).length=items.size) (b:(assignEach a env).findIdx? (·.1)=none)
  (h:∀ h',Heap.ExtBut s.heap.objs.size s.heap h'->wpAny (model prog w) A (assignInOrder ((assignEach a env).map (·.2)) items.toList) Q E { s with heap:=h' }) :
  wpAny (model prog w) A (assign (.Tuple a x1 pos) env (.ref t)) Q E s:=by
 rw [assign_Tuple]
 refine aH1 (wpAny_standAt ?_)
 unfold unpack
 rw [hn,b]
 exact aH1 (aH7 (agt hh c h))
end
end HT
namespace L2
open PySem PySem.Spec PyProof.Rows
section
variable {X:Cx}
def gLst (K:Frag) (n:Nat) (t:TGs):TG:=fun v σ H Q=>∃ a xs,v=.ref a/\SqL K H a xs/\xs.length=n/\t xs σ H Q
theorem aw4 {es:List Expr} {k:Nat} {t:TGs} {n:Nat} {pos:Pos} (m:X.calm=true) (h:PGs X es t)
  (hn:(assignEach es X.env).length=n:=by rfl) (d:(assignEach es X.env).findIdx? (·.1)=none:=by rfl):PG X (.Tuple es k pos) (gLst X.K n t):=by
 intro pins s σ H v u Q I r c
 obtain ⟨a,xs,l,j,p,c⟩:=c
 subst l
 cases r
 obtain ⟨its,f,g,hz⟩:=I.list j
 refine HT.assign_Tuple_list (I.ok.hd m) g.isList (by simp [hn,← p,f.length]) d fun h' q=>?_
 have i:Inv X pins σ H { s with heap:=h' }:=I.kept (t':=s.toks) fun b o e=>q b o (aA6 (aH4 e)) e
 exact h pins _ σ H xs _ Q i (by simpa using f) c
def ahf (K:Frag):List V->Hp->VK->Prop:=fun xs H Q=>∃ (a:Addr) (ns:List Int),xs=[.ref a]/\SqL K H a (ns.map V.int)/\ns.length < 64/\∀ (ns':List Int) (p:Addr),ns'.Perm ns->ns'.Pairwise (·<=·)->H p=none->Q (.ref p) (upd H p (.lst (ns'.map V.int)))
theorem ae3:abh X (.builtin "sorted") (ahf X.K):=by
 intro pins s σ H xs us Q I r h
 obtain ⟨a,ns,rfl,ha,f,q⟩:=h
 obtain ⟨u,rfl,m⟩:=acj r
 cases m
 obtain ⟨its,p,l,hz⟩:=I.list ha
 have i1:IntsAre its.toArray.toList ns:=act p
 have g:IntsAre its ns:=by simpa using i1
 refine sorted_ints (vs:=its) l.isList g (by rw [g.length];exact f) fun out d n i v=>?_
 obtain ⟨e,j⟩:=sortedAll_at s.heap its out
 have c:H (s.heap.objs.size+1)=none:=I.hok.fresh (Nat.le_succ _)
 refine ⟨.ref (s.heap.objs.size+1),_,I.laid (t':=s.toks) (o:=.lst (d.map V.int)) (fun b w q=>sortedAll_old q) (Nat.le_succ _) ?_,rfl,q d _ i v c⟩
 refine ⟨?_,out.toList,e,ad6 n,by rw [j]⟩
 rw [az3,i.length_eq]
 exact aE9 (ad8 (by omega))
end
end L2
namespace HT
open PySem PyProof.Rows
theorem ah4 (val:Nat->Int):∀ k,argBest (fun i j=>decide (val i > val j)) k<=k/\∀ i,i<=k->val i<=val (argBest (fun i j=>decide (val i > val j)) k)
 | 0 => ⟨Nat.le_refl _, fun i hi => by have:i=0 := by omega
                                       subst this;exact Int.le_refl _⟩
 | k+1=>by
  obtain ⟨b,a⟩:=ah4 val k
  unfold argBest
  by_cases hc:val (k+1) > val (argBest (fun i j=>decide (val i > val j)) k)
  ·rw [aD9 (aC6 hc)]
   refine ⟨az6 _,fun i hi=>?_⟩
   by_cases e:i=k+1
   ·subst e;exact Int.le_refl _
   ·have:=a i (by omega)
    exact Int.le_trans this (Int.le_of_lt hc)
  ·rw [aE0 (by simpa using hc)]
   refine ⟨by omega,fun i hi=>?_⟩
   by_cases e:i=k+1
   ·subst e;omega
   ·exact a i (by omega)
def val (ns:List Int) (i:Nat):Int:=(ns[i]?).getD 0
theorem ahg {us:List Value} {ns:List Int} (hi:IntsAre us ns) (i:Nat) (v:Value) (h:us.toArray[i]?=some v):∃ t,v=.int (val ns i) t:=by
 induction hi generalizing i with
 | nil=>simp at h
 | cons n t r ih =>
  cases i with
  | zero=>simp at h;subst h;exact ⟨t,by simp [val]⟩
  | succ i =>
   obtain ⟨t',e⟩:=ih i (by simpa using h)
   exact ⟨t',by simpa [val] using e⟩
theorem am6 {ns:List Int} {i:Nat} (h:i < ns.length):val ns i∈ns:=by
 unfold val
 rw [az0 h]
 exact aD6 h
theorem apv {ns:List Int} {x:Int} (h:x∈ns):∃ i,i < ns.length/\val ns i=x:=by
 obtain ⟨i,hi,e⟩:=aG0.mp h
 exact ⟨i,hi,by unfold val;rw [az0 hi];exact e⟩
section
variable {prog:Program} {w:World} {A:Around} {E:Value->Shared->Prop} {s:Shared}
theorem max_list {l:Addr} {us:List Value} {ns:List Int} {Q:Value->Shared->Prop} (hh:A.handled=none) (f:s.heap.IsList l us.toArray) (hi:IntsAre us ns) (c:ns ≠ [])
  (h:∀ m t h' d,m∈ns->(∀ x∈ns,x<=m)->(∀ b o,s.heap.get? b=some o->h'.get? b=some o)->Q (.int m t) { s with heap:=h',toks:=d }) :
  wpAny (model prog w) A (call (.builtin "max") [.ref l]) Q E s:=by
 have a:l < s.heap.objs.size:=by obtain ⟨_,e,_⟩:=f;exact aH4 e
 have hz:us.length=ns.length:=hi.length
 have y:0 < ns.length:=aE3.mpr c
 refine call_max_walk (aI6 f ?_)
 refine ⟨_,[s.heap.objs.size,l],_,_,_,_,_,rfl,Walks.list (A:=A.in1) hh _ l (aA6 a) us.toArray,⟨⟨_,aH5 _ rfl,rfl,rfl⟩,f.push _⟩,fun b hb=>?_,by simp;omega,CmpOf.ints_gt (val ns) (fun i v=>ahg hi i v),fun v h' d u j=>?_⟩
 ·show b < (s.heap.push _).objs.size
  rw [aI3]
  rcases az9.mp hb with rfl | hb
  ·exact Nat.lt_succ_self _
  ·rcases az9.mp hb with rfl | hb
   ·exact aE2 a
   ·cases hb
 ·obtain ⟨t,e⟩:=ahg hi _ _ u
  obtain ⟨n,g⟩:=ah4 (val ns) (us.toArray.size - 1)
  have hs:us.toArray.size=ns.length:=by simp [hz]
  rw [hs] at n g
  subst e
  refine h _ t h' d (am6 (by rw [hs];omega)) (fun x r=>?_) fun b o e=>?_
  ·obtain ⟨i,q,e⟩:=apv r
   have:=g i (by omega)
   rw [e] at this
   rw [hs]
   exact this
  ·refine j b o (fun hm=>?_) (aH3 _ e)
   rcases az9.mp hm with p | hm
   ·exact absurd (p ▸ aH4 e) (aE8 _)
   ·cases hm
theorem max_tup {l:Addr} {us:List Value} {ns:List Int} {Q:Value->Shared->Prop} (hh:A.handled=none) (g:s.heap.IsTuple l us.toArray) (hi:IntsAre us ns) (f:ns ≠ [])
  (h:∀ m t h' c,m∈ns->(∀ x∈ns,x<=m)->(∀ b o,s.heap.get? b=some o->h'.get? b=some o)->Q (.int m t) { s with heap:=h',toks:=c }) :
  wpAny (model prog w) A.in1 (pyIter (.ref l)) (fun it a=>∃ I fp j n P St bt,it=.ref I/\Walks prog w A.in1 I fp j n P St/\St 0 a.heap/\(∀ b∈fp,b < a.heap.objs.size)/\0 < n/\CmpOf prog w A.in1 .Gt P bt /\
   ∀ v h' c,P (argBest bt (n - 1)) v->(∀ b o,b ∉ j->a.heap.get? b=some o->h'.get? b=some o)->Q v { a with heap:=h',toks:=c }) E s:=by
 have d:l < s.heap.objs.size:=by obtain ⟨_,e,_⟩:=g;exact aH4 e
 have hz:us.length=ns.length:=hi.length
 have C:0 < ns.length:=aE3.mpr f
 refine wpAny_pyIter_tuple g ?_
 refine ⟨_,[s.heap.objs.size,l],[_],_,_,_,_,rfl,Walks.tuple (A:=A.in1) hh _ l (aA6 d) us.toArray,⟨⟨_,aH5 _ rfl,rfl,rfl⟩,g.push _⟩,fun b hb=>?_,by simp;omega,CmpOf.ints_gt (val ns) (fun i v=>ahg hi i v),fun v h' c B q=>?_⟩
 ·show b < (s.heap.push _).objs.size
  rw [aI3]
  rcases az9.mp hb with rfl | hb
  ·exact Nat.lt_succ_self _
  ·rcases az9.mp hb with rfl | hb
   ·exact aE2 d
   ·cases hb
 ·obtain ⟨t,e⟩:=ahg hi _ _ B
  obtain ⟨r,p⟩:=ah4 (val ns) (us.toArray.size - 1)
  have hs:us.toArray.size=ns.length:=by simp [hz]
  rw [hs] at r p
  subst e
  refine h _ t h' c (am6 (by rw [hs];omega)) (fun x z=>?_) fun b o e=>?_
  ·obtain ⟨i,y,e⟩:=apv z
   have:=p i (by omega)
   rw [e] at this
   rw [hs]
   exact this
  ·refine q b o (fun hm=>?_) (aH3 _ e)
   rcases az9.mp hm with u | hm
   ·exact absurd (u ▸ aH4 e) (aE8 _)
   ·cases hm
end
end HT
namespace L2
open PySem PySem.Spec PyProof.Rows
section
variable {X:Cx}
def ato (ns:List Int) (m:Int):Prop:=m∈ns/\∀ x∈ns,x<=m
def aob (K:Frag):List V->Hp->VK->Prop:=fun xs H Q=>∃ (a:Addr) (ns:List Int),xs=[.ref a]/\(SqL K H a (ns.map V.int)\/SqT K H a (ns.map V.int))/\ns ≠ []/\∀ m,ato ns m->Q (.int m) H
theorem aiw (i:X.calm=true):abh X (.builtin "max") (aob X.K):=by
 intro pins s σ H xs us Q I r h
 obtain ⟨a,ns,rfl,ha,b,q⟩:=h
 obtain ⟨u,rfl,l⟩:=acj r
 cases l
 rcases ha with ha | ha
 ·obtain ⟨its,g,d,_⟩:=I.list ha
  have i1:IntsAre its.toArray.toList ns:=act g
  exact HT.max_list (I.ok.hd i) d.isList (by simpa using i1) b fun m t h' j c f kp=>⟨.int m,H,I.kept kp,⟨_,rfl⟩,q m ⟨c,f⟩⟩
 ·obtain ⟨its,g,d,_⟩:=I.tuple ha
  have i1:IntsAre its.toArray.toList ns:=act g
  refine call_max_walk (HT.max_tup (I.ok.hd i) d (by simpa using i1) b fun m t h' j c f kp=>⟨.int m,H,I.kept kp,⟨_,rfl⟩,q m ⟨c,f⟩⟩)
end
def tTru (K:Frag) (ta:TE):TT:=fun σ H Q=>ta σ H fun x H'=>∃ k,TruV K x H' k/\Q k H'
def rIsN:R2:=fun x y H Q=>y=.non/\Q (.bl (decide (x=.non))) H
def atp:R2:=fun x y H Q=>y=.non/\Q (.bl (!decide (x=.non))) H
section
variable {X:Cx} {a:Expr} {ta:TE}
theorem apw (ha:PE X a ta) (b:∀ whole,isTrue a X.env whole=(do let v ← whole;standAt a.pos;holding [v] (truthy v)):=by intro _;rfl):PT X a (tTru X.K ta):=aq5 ha b
def ab8 (K:Frag):R2:=fun x y H Q=>rIxL K x y H Q\/rIxT K x y H Q
theorem aap:IxR X (ab8 X.K):=ix_list.or awq
theorem aeq {i j n:Int} {d b:Nat} {c p2 pos:Pos} (h:i ^ j.toNat=n) (a:CPow i j):PE X (.BinOp (.Constant (.int i) d c) .Pow (.Constant (.int j) b p2) pos) (tC (.int n)):=by
 intro pins s σ H Q I q
 subst h
 exact aae awm aab aab pins s σ H Q I ⟨i,j,rfl,rfl,a,q⟩
theorem aui:OpR X (compareOp .Is) rIsN:=awn
theorem arp:OpR X (compareOp .IsNot) atp:=aty
end
section
variable {σ:St} {H:Hp} {D:Ends} {K:Frag}
theorem ae4 {a:Addr} {xs:List V} {i:Int} {v:V} {Q:VK} (ha:H a=some (.lst xs)) (b:atI xs i=some v) (h:Q v H):ab8 K (.ref a) (.int i) H Q:=.inl (awz ha b h)
theorem arq {a:Addr} {xs:List V} {i:Int} {v:V} {Q:VK} (ha:H a=some (.tup xs)) (b:atI xs i=some v) (h:Q v H):ab8 K (.ref a) (.int i) H Q:=.inr (aw0 ha b h)
theorem adh {A B:Prop} (h:A):if true=true then A else B:=by rw [aD9 rfl];exact h
theorem aer {A B:Prop} (h:B):if false=true then A else B:=by rw [aE0 aA0];exact h
theorem aes {A B:Prop} (h:B):if (!true)=true then A else B:=by rw [aE0 (by decide)];exact h
theorem am7 {A B:Prop} (h:A):if (!false)=true then A else B:=by rw [aD9 (by decide)];exact h
theorem ars {c:Prop} [Decidable c] {A B:Prop} (a:c) (h:B):if (!decide c)=true then A else B:=by rw [aC6 a];exact aes h
theorem agu {K:Frag}:kitOne K (.type "NoneType") (.type "int")=some false:=by first | rfl | decide
theorem agi {K:Frag}:kitOne K (.type "NoneType") (.type "bool")=some false:=by first | rfl | decide
theorem afn {K:Frag}:kitOne K (.type "NoneType") (.type "tuple")=some false:=by first | rfl | decide
theorem agj {K:Frag}:kitOne K (.type "NoneType") (.type "list")=some false:=by first | rfl | decide
theorem agv {K:Frag}:kitOne K (.type "NoneType") (.type "str")=some false:=by first | rfl | decide
theorem agk {K:Frag}:kitOne K (.type "NoneType") (.type "dict")=some false:=by first | rfl | decide
theorem akx {K:Frag}:kitOne K (.type "bool") (.type "int")=some true:=by first | rfl | decide
theorem ajc {K:Frag}:kitOne K (.type "bool") (.type "bool")=some true:=by first | rfl | decide
theorem ah5 {K:Frag}:kitOne K (.type "bool") (.type "tuple")=some false:=by first | rfl | decide
theorem ajd {K:Frag}:kitOne K (.type "bool") (.type "list")=some false:=by first | rfl | decide
theorem aky {K:Frag}:kitOne K (.type "bool") (.type "str")=some false:=by first | rfl | decide
theorem aje {K:Frag}:kitOne K (.type "bool") (.type "dict")=some false:=by first | rfl | decide
theorem amd {K:Frag}:kitOne K (.type "int") (.type "int")=some true:=by first | rfl | decide
theorem akz {K:Frag}:kitOne K (.type "int") (.type "bool")=some false:=by first | rfl | decide
theorem ajf {K:Frag}:kitOne K (.type "int") (.type "tuple")=some false:=by first | rfl | decide
theorem ak0 {K:Frag}:kitOne K (.type "int") (.type "list")=some false:=by first | rfl | decide
theorem ame {K:Frag}:kitOne K (.type "int") (.type "str")=some false:=by first | rfl | decide
theorem ak1 {K:Frag}:kitOne K (.type "int") (.type "dict")=some false:=by first | rfl | decide
theorem amf {K:Frag}:kitOne K (.type "str") (.type "int")=some false:=by first | rfl | decide
theorem ak2 {K:Frag}:kitOne K (.type "str") (.type "bool")=some false:=by first | rfl | decide
theorem ajg {K:Frag}:kitOne K (.type "str") (.type "tuple")=some false:=by first | rfl | decide
theorem ak3 {K:Frag}:kitOne K (.type "str") (.type "list")=some false:=by first | rfl | decide
theorem amg {K:Frag}:kitOne K (.type "str") (.type "str")=some true:=by first | rfl | decide
theorem ak4 {K:Frag}:kitOne K (.type "str") (.type "dict")=some false:=by first | rfl | decide
theorem ak5 {K:Frag}:kitOne K (.type "list") (.type "int")=some false:=by first | rfl | decide
theorem ajh {K:Frag}:kitOne K (.type "list") (.type "bool")=some false:=by first | rfl | decide
theorem ah6 {K:Frag}:kitOne K (.type "list") (.type "tuple")=some false:=by first | rfl | decide
theorem aji {K:Frag}:kitOne K (.type "list") (.type "list")=some true:=by first | rfl | decide
theorem ak6 {K:Frag}:kitOne K (.type "list") (.type "str")=some false:=by first | rfl | decide
theorem ajj {K:Frag}:kitOne K (.type "list") (.type "dict")=some false:=by first | rfl | decide
theorem ajk {K:Frag}:kitOne K (.type "tuple") (.type "int")=some false:=by first | rfl | decide
theorem ah7 {K:Frag}:kitOne K (.type "tuple") (.type "bool")=some false:=by first | rfl | decide
theorem ahh {K:Frag}:kitOne K (.type "tuple") (.type "tuple")=some true:=by first | rfl | decide
theorem ah8 {K:Frag}:kitOne K (.type "tuple") (.type "list")=some false:=by first | rfl | decide
theorem ajl {K:Frag}:kitOne K (.type "tuple") (.type "str")=some false:=by first | rfl | decide
theorem ah9 {K:Frag}:kitOne K (.type "tuple") (.type "dict")=some false:=by first | rfl | decide
theorem ak7 {K:Frag}:kitOne K (.type "dict") (.type "int")=some false:=by first | rfl | decide
theorem ajm {K:Frag}:kitOne K (.type "dict") (.type "bool")=some false:=by first | rfl | decide
theorem aia {K:Frag}:kitOne K (.type "dict") (.type "tuple")=some false:=by first | rfl | decide
theorem ajn {K:Frag}:kitOne K (.type "dict") (.type "list")=some false:=by first | rfl | decide
theorem ak8 {K:Frag}:kitOne K (.type "dict") (.type "str")=some false:=by first | rfl | decide
theorem ajo {K:Frag}:kitOne K (.type "dict") (.type "dict")=some true:=by first | rfl | decide
end
end L2
namespace L2
open PySem
section
variable {σ:St} {H:Hp} {K:Frag}
theorem acp {p:Addr} {o:HO} (a:H p=none):Same H (upd H p o):=fun b u e=>by rw [aag (aat e a)];exact e
theorem Same.new {H H':Hp} {q:Addr} {o:HO} (s:Same H H') (h:H' q=none):Same H (upd H' q o):=fun b u e=>by
 have:=s b u e
 rw [aag (aat this h)];exact this
theorem Same.set {H H':Hp} {q:Addr} {o:HO} (s:Same H H') (h:H q=none):Same H (upd H' q o):=fun b u e=>by
 have:=s b u e
 rw [aag (aat e h)];exact this
theorem Same.at {H H':Hp} {b:Addr} {o:HO} (s:Same H H') (h:H b=some o):H' b=some o:=s b o h
end
section
variable {σ:St} {H:Hp} {K:Frag}
end
end L2
namespace Gr
inductive Walk (T:Int->Int->Prop) (u:Int):Nat->Int->Prop
 | refl:Walk T u 0 u
 | step {k:Nat} {v w:Int}:Walk T u k v->T v w->Walk T u (k+1) w
def Dist (T:Int->Int->Prop) (u v:Int) (d:Nat):Prop:=Walk T u d v/\∀ k,Walk T u k v->d<=k
theorem Dist.uniq {T:Int->Int->Prop} {u v:Int} {d e:Nat} (h:Dist T u v d) (g:Dist T u v e):d=e:=Nat.le_antisymm (h.2 _ g.1) (g.2 _ h.1)
theorem Dist.self (T:Int->Int->Prop) (u:Int):Dist T u u 0:=⟨.refl,fun _ _=>aE4 _⟩
theorem Dist.of_walk {T:Int->Int->Prop} {u v:Int} {k:Nat} (h:Walk T u k v):∃ d,d<=k/\Dist T u v d:=by
 induction k using Nat.strongRecOn with
 | ind k ih =>
  by_cases hx:∃ j,j < k/\Walk T u j v
  ·obtain ⟨j,a,w⟩:=hx
   obtain ⟨d,hd,e⟩:=ih j a w
   exact ⟨d,by omega,e⟩
  ·refine ⟨k,az6 _,h,fun j w=>?_⟩
   by_cases a:j < k
   ·exact absurd ⟨j,a,w⟩ hx
   ·omega
theorem Dist.pred {T:Int->Int->Prop} {u w:Int} {d:Nat} (h:Dist T u w (d+1)):∃ v,T v w/\Dist T u v d:=by
 obtain ⟨a,hm⟩:=h
 cases a with
 | step hv ht =>
  rename_i v
  refine ⟨v,ht,hv,fun k b=>?_⟩
  have:=hm (k+1) (.step b ht)
  omega
theorem Dist.next {T:Int->Int->Prop} {u v w:Int} {d:Nat} (h:Dist T u v d) (t:T v w):∃ e,e<=d+1/\Dist T u w e:=Dist.of_walk (.step h.1 t)
structure Bfs (T:Int->Int->Prop) (a:Int) (line:List Int) (ds:List Nat) (at_:Nat):Prop where
 len:ds.length=line.length
 fst:line[0]?=some a
 nd:line.Nodup
 le:at_<=line.length
 dist:∀ (i:Nat) v d,line[i]?=some v->ds[i]?=some d->Dist T a v d
 mono:∀ (i j:Nat) d e,i<=j->ds[i]?=some d->ds[j]?=some e->d<=e
 near:∀ (i j:Nat) d e,at_<=i->ds[i]?=some d->ds[j]?=some e->e<=d+1
 done:∀ (i:Nat) v w,i < at_->line[i]?=some v->T v w->w∈line
theorem Bfs.start (T:Int->Int->Prop) (a:Int):Bfs T a [a] [0] 0:=by
 refine ⟨rfl,rfl,by simp,aE4 _,fun i v d c b=>?_,fun i j d e h c b=>?_,fun i j d e h c b=>?_,fun i v w h=>absurd h (by omega)⟩
 ·match i,c,b with
  | 0,c,b=>simp at c b;subst c b;exact Dist.self T a
  | i+1,c,_=>simp at c
 ·match j,b with
  | 0,b =>
   have:i=0:=by omega
   subst this
   rw [c] at b;cases b;exact az6 _
  | j+1,b=>simp at b
 ·match i,j,c,b with
  | 0,0,c,b=>rw [c] at b;cases b;omega
  | i+1,_,c,_=>simp at c
  | 0,j+1,_,b=>simp at b
theorem Bfs.all {T:Int->Int->Prop} {a:Int} {line:List Int} {ds:List Nat} {at_:Nat} {d:Nat} (b:Bfs T a line ds at_) (hd:ds[at_]?=some d) :
  ∀ k w,k<=d->Dist T a w k->w∈line:=by
 intro k
 induction k with
 | zero =>
  intro w _ h
  have:w=a:=by
   cases h.1;rfl
  subst this
  exact az2 b.fst
 | succ k ih =>
  intro w o h
  obtain ⟨v,m,j⟩:=h.pred
  have l:=ih v (by omega) j
  obtain ⟨i,hi,e⟩:=aG0.mp l
  have g:line[i]?=some v:=by rw [az0 hi,e]
  have c:i < ds.length:=by rw [b.len];exact hi
  have f:ds[i]?=some ds[i]:=az0 c
  have n:=(b.dist i v _ g f).uniq j
  by_cases hlt:i < at_
  ·exact b.done i v w hlt g m
  ·have:=b.mono at_ i d _ (by omega) hd f
   omega
theorem Bfs.add {T:Int->Int->Prop} {a:Int} {line:List Int} {ds:List Nat} {at_:Nat} {p w:Int} {d:Nat} (b:Bfs T a line ds at_) (r:line[at_]?=some p) (hd:ds[at_]?=some d) (t:T p w) (n:w ∉ line) :
  Bfs T a (line ++ [w]) (ds ++ [d+1]) at_:=by
 have z:at_ < line.length:=(az1.mp r).1
 have A:Dist T a w (d+1):=by
  obtain ⟨e,C,h⟩:=(b.dist _ _ _ r hd).next t
  by_cases c:e<=d
  ·exact absurd (b.all hd e w c h) n
  ·have:e=d+1:=by omega
   rw [← this];exact h
 have g:∀ (j:Nat) e,(ds ++ [d+1])[j]?=some e->(ds[j]?=some e)\/(j=ds.length/\e=d+1):=by
  intro j e h
  rw [List.getElem?_append] at h
  split at h
  ·exact .inl h
  ·rename_i hj
   right
   have:j - ds.length=0:=by
    match hz:j - ds.length,h with
    | 0,_=>rfl
    | k+1,h=>simp at h
   rw [this] at h
   simp at h
   exact ⟨by omega,h.symm⟩
 refine ⟨by simp [b.len],?_,?_,by simp;omega,fun i v e f c=>?_,fun i j x y h f c=>?_,fun i j x y h f c=>?_,fun i v u h f tu=>?_⟩
 ·rw [aB3 (by omega)];exact b.fst
 ·rw [List.nodup_append]
  exact ⟨b.nd,by simp,fun x B y q=>by simp at q;subst q;intro e;subst e;exact n B⟩
 ·rcases g _ _ c with c | ⟨o,l⟩
  ·have hi:i < ds.length:=(az1.mp c).1
   rw [aB3 (by rw [← b.len];exact hi)] at f
   exact b.dist i v e f c
  ·subst l
   rw [aB8 (by rw [← b.len];omega)] at f
   have:i - line.length=0:=by rw [← b.len];omega
   rw [this] at f
   simp at f;subst f
   exact A
 ·rcases g _ _ f with f | ⟨o,l⟩
  ·rcases g _ _ c with c | ⟨m,l⟩
   ·exact b.mono i j x y h f c
   ·subst l
    by_cases hia:at_<=i
    ·exact b.near at_ i d x (az6 _) hd f
    ·have:=b.mono i at_ x d (by omega) f hd;omega
  ·rcases g _ _ c with c | ⟨m,s⟩
   ·have:=(az1.mp c).1;omega
   ·omega
 ·rcases g _ _ f with f | ⟨o,l⟩
  ·rcases g _ _ c with c | ⟨m,l⟩
   ·exact b.near i j x y h f c
   ·subst l
    have:=b.mono at_ i d x h hd f;omega
  ·subst l
   rcases g _ _ c with c | ⟨m,l⟩
   ·have:=b.near at_ j d y (az6 _) hd c;omega
   ·omega
 ·rw [aB3 (by omega)] at f
  exact aB7 _ (b.done i v u h f tu)
theorem Bfs.next {T:Int->Int->Prop} {a:Int} {line:List Int} {ds:List Nat} {at_:Nat} {p:Int} (b:Bfs T a line ds at_) (g:line[at_]?=some p) (h:∀ w,T p w->w∈line):Bfs T a line ds (at_+1):=by
 have c:at_ < line.length:=(az1.mp g).1
 refine ⟨b.len,b.fst,b.nd,c,b.dist,b.mono,fun i j d e hi=>b.near i j d e (by omega),fun i v w hi f t=>?_⟩
 by_cases e:i=at_
 ·subst e
  rw [g] at f;cases f
  exact h w t
 ·exact b.done i v w (by omega) f t
theorem Bfs.fin {T:Int->Int->Prop} {a:Int} {line:List Int} {ds:List Nat} (b:Bfs T a line ds line.length):∀ k w,Walk T a k w->w∈line:=by
 intro k w h
 induction h with
 | refl=>exact az2 b.fst
 | step _ t ih =>
  obtain ⟨i,hi,e⟩:=aG0.mp ih
  exact b.done i _ _ hi (by rw [az0 hi,e]) t
end Gr
namespace L2
open PySem PySem.Spec PyProof.Rows
section
variable {σ:St} {H:Hp} {D:Ends} {K:Frag}
end
theorem few_places:∀ (n:Nat) (l:List Int),l.Nodup->(∀ v∈l,0<=v/\v < (n:Int))->l.length<=n
 | 0,l,_,h=>by
  cases l with
  | nil=>simp
  | cons v r=>have:=h v (by simp);omega
 | n+1,l,hn,h=>by
  have c:=few_places n (l.erase (n:Int)) (hn.erase _) fun v a=>by
   have hm:=List.mem_of_mem_erase a
   have hb:=h v hm
   have b:v ≠ (n:Int):=by
    rintro rfl
    exact absurd a (List.Nodup.not_mem_erase hn)
   omega
  have d:l.length<=(l.erase (n:Int)).length+1:=by
   rw [List.length_erase]
   split <;> omega
  omega
end L2
namespace L2
open PySem
end L2
namespace HT
open PySem PyProof.Rows
section
variable {prog:Program} {w:World} {A:Around} {E:Value->Shared->Prop} {s:Shared}
end
end HT
namespace L2
open PySem PySem.Spec PyProof.Rows
section
variable {X:Cx}
end
section
variable {X:Cx} {pins:List (Addr × Obj)} {σ:St} {H:Hp} {s:Shared} {A:Around} {E:Value->Shared->Prop} {Q:Value->Shared->Prop} {b:Bool}
end
section
variable {X:Cx}
end
end L2
namespace HT
open PySem PyProof.Rows L2
def LtAt (A:Around) (s:Shared) (y x:Value) (b:Bool):Prop :=
 ∀ (prog:Program) (w:World) (E:Value->Shared->Prop) (Q:Value->Shared->Prop),Q (.bool b) s->wpAny (model prog w) A (richCompare .Lt y x) Q E s
section
open PySem.SeqAt
open PySem.AutoSeq1 (wpAny_loadPart')
open PySem.MeetsSeq PySem.MeetsSeq2 PySem.MeetsSeq3
inductive Its (A:Around) (s:Shared):List Value->List Value->Bool->Prop
 | nn:Its A s [] [] false
 | nc {x:Value} {ys:List Value}:Its A s [] (x :: ys) true
 | cn {x:Value} {xs:List Value}:Its A s (x :: xs) [] false
 | eq {x y:Value} {xs ys:List Value} {b:Bool}:EqAt A s x y true->Its A s xs ys b->Its A s (x :: xs) (y :: ys) b
 | ne {x y:Value} {xs ys:List Value} {b:Bool}:EqAt A s x y false->LtAt A s x y b->Its A s (x :: xs) (y :: ys) b
theorem ak9 (l b:Addr) (items a:Array Value) (n F:Nat) (G o:Option Addr) (sl p:Array (Option Value)) (r:Bool) :
  Meets (Builtin.«tuple.__lt__» ⟨[.ref l,.ref b],[]⟩)
   (fun A R s=>s.heap.get? l=some { cls:=.type "tuple",dict:=G,data:=.seq items n,slots:=sl }/\s.heap.get? b=some { cls:=.type "tuple",dict:=o,data:=.seq a F,slots:=p } /\
    Its A.in1 s items.toList a.toList r/\R (.ok (.ret (.bool r))) s) :=
 .of_wp fun prog w A R s h=>by
  obtain ⟨D,g,d,C,os⟩:=s;obtain ⟨H,hb,hi,h⟩:=h
  have I:=AutoSeq1.sub_tuple_tuple
  wp_walk using wpAny_loadPart' H,wpAny_loadPart' hb,wpAny_forIn_list _ (fun rest b z=>b.1=none/\z=⟨D,g,d,C,os⟩/\∃ (vs m:List Value),rest=vs.zip m /\
   vs.length+a.size=m.length+items.size/\Its A.in1 ⟨D,g,d,C,os⟩ vs m r) _
  case turn =>
   rintro ⟨y,x⟩ rest b z ⟨i,rfl,vs,m,hz,c,v⟩
   cases v with
   | nn=>cases hz
   | nc=>cases hz
   | cn=>cases hz
   | eq he hI' =>
    rw [List.zip_cons_cons] at hz
    injection hz with j f
    injection j with u B
    subst u B
    simp only [aD0] at c
    refine aH1 (he prog w _ _ ?_)
    wp_walk
    exact ⟨rfl,rfl,_,_,f,by omega,hI'⟩
   | ne he hlt =>
    rw [List.zip_cons_cons] at hz
    injection hz with j f
    injection j with u B
    subst u B
    refine aH1 (he prog w _ _ ?_)
    have q:=hlt prog w
    wp_walk using q
    exact ⟨_,rfl,by simpa using h⟩
  case fin =>
   rintro ⟨J,K⟩ z ⟨i,rfl,vs,m,hz,c,v⟩
   simp only at i
   subst i
   have E:r=decide (items.size < a.size):=by
    cases v with
    | nn =>
     simp only [aH0] at c
     exact (aC5 (by omega)).symm
    | nc =>
     simp only [aH0,aD0] at c
     exact (aC6 (by omega)).symm
    | cn =>
     simp only [aH0,aD0] at c
     exact (aC5 (by omega)).symm
    | eq=>cases hz
    | ne=>cases hz
   rw [E] at h
   wp_walk
   exact ⟨_,rfl,by simpa [Builtin.Tuple.tupleCompareSizes] using h⟩
  case h =>
   exact ⟨rfl,rfl,items.toList,a.toList,rfl,by simp;omega,hi⟩
end
section
variable {A:Around} {s:Shared}
theorem LtAt.tup {l b:Addr} {o f:Obj} {items a:Array Value} {n m:Nat} {r:Bool} (u:s.heap.get? l=some o) (p:o.cls=.type "tuple") (hd:o.data=.seq items n) (hb:s.heap.get? b=some f) (c:f.cls=.type "tuple") (d:f.data=.seq a m)
  (y:A.units < cLine) (hi:Its A.in1 s items.toList a.toList r):LtAt A s (.ref l) (.ref b) r:=by
 intro prog w E Q q
 obtain ⟨cls,v,data,sl⟩:=o
 obtain ⟨j,g,i,h⟩:=f
 simp only at p hd c d
 subst p hd c d
 exact richCompare_meets_room (op:=.Lt) ⟨_,u,rfl⟩ ⟨_,hb,rfl⟩ PySem.F.slot_tuple_lt PySem.F.entry_tuple_lt (PySem.F.args_tuple_lt_2 _ _) (ak9 l b items a n m v g sl h r)
  ⟨u,hb,hi,show Value.bool r ≠ Value.notImplemented/\Q (.bool r) s from ⟨(fun x=>nomatch x),q⟩⟩ y
end
end HT
namespace L2
open PySem PySem.Spec PyProof.Rows
section
variable {X:Cx}
end
end L2
namespace L2
open PySem
end L2
namespace TS
open PySem PyProof.Rows HT
theorem am8:∀ x y:List Int,HT.lexLt x y=true->HT.lexLt y x=false
 | [],[],h=>by simp [HT.lexLt] at h
 | [],_ :: _,_=>rfl
 | _ :: _,[],h=>by simp [HT.lexLt] at h
 | a :: x,b :: y,h=>by
  rw [aez] at h ⊢
  by_cases e:a=b
  ·subst e
   rw [aD9 rfl] at h ⊢
   exact am8 x y h
  ·rw [aE0 e] at h
   rw [aE0 (fun z=>e z.symm)]
   have:=of_decide_eq_true h
   exact aC5 (by omega)
theorem apx:∀ x y z:List Int,HT.lexLt y x=false->HT.lexLt z y=false->HT.lexLt z x=false
 | _,[],[],h,_=>h
 | [],[],_ :: _,_,_=>rfl
 | _ :: _,[],_ :: _,h,_=>by simp [HT.lexLt] at h
 | _,_ :: _,[],_,h=>by simp [HT.lexLt] at h
 | [],_ :: _,_ :: _,_,_=>rfl
 | a :: x,b :: y,c :: z,h,g=>by
  rw [aez] at h g ⊢
  by_cases e:b=a
  ·subst e
   rw [aD9 rfl] at h
   by_cases e2:c=b
   ·subst e2
    rw [aD9 rfl] at g ⊢
    exact apx x y z h g
   ·rw [aE0 e2] at g ⊢
    exact g
  ·rw [aE0 e] at h
   have h':=of_decide_eq_false h
   by_cases e2:c=b
   ·subst e2
    rw [aE0 e]
    exact h
   ·rw [aE0 e2] at g
    have g':=of_decide_eq_false g
    rw [aE0 (by omega)]
    exact aC5 (by omega)
def TI (h:Heap) (a:Addr) (ns:List Int):Prop:=∃ o xs n,h.get? a=some o/\o.cls=.type "tuple"/\o.data=.seq xs n/\IntsAre xs.toList ns
def kfV (kf:Addr->List Int):Value->List Int
 | .ref a=>kf a
 | _=>[]
section
variable {prog:Program} {w:World} {A:Around} {E:Value->Shared->Prop} {s:Shared}
theorem agl {fin:Bool} {Q:Bool->Shared->Prop}:∀ {xs ys:List Value} {ns c:List Int} (i:Nat),IntsAre xs ns->IntsAre ys c->(ns.length < c.length->fin=true)->(c.length<=ns.length->fin=false)->Q (HT.lexLt ns c) s ->
  PySem.W.KatLex prog w A true fin Q (xs.zip ys) i s
 | _,_,_,_,i,.nil,.nil,_,h2,q=>by
  rw [h2 (az6 _)];exact q
 | _,_,_,_,i,.nil,.cons b u r,h1,_,q=>by
  rw [h1 (by simp)];exact q
 | _,_,_,_,i,.cons a t r,.nil,_,h2,q=>by
  rw [List.zip_nil_right,h2 (by simp)];exact q
 | _,_,_,_,i,.cons a t r,.cons b u r2,h1,h2,q=>by
  rw [List.zip_cons_cons]
  refine PySem.W.kat_cons (SeqAt.EqAt.int_int a t b u prog w _ _ ?_)
  rw [aez] at q
  by_cases e:a=b
  ·subst e
   rw [aD9 rfl] at q
   rw [show (a == a)=true by simp]
   exact PySem.W.kat_yes (agl (i+1) r r2 (fun z=>h1 (by simpa using z)) (fun z=>h2 (by simpa using z)) q)
  ·rw [aE0 e] at q
   rw [show (a == b)=false by simpa using e]
   refine PySem.W.kat_no ?_
   by_cases hi:i=0
   ·subst hi
    exact oneLt_int q
   ·rw [show (true && i == 0)=false by simpa using hi]
    exact PySem.W.kat_one _ _ (PyProof.Rows.lt_int q)
def tS (h:Heap) (kf:Addr->List Int) (x:Keyed):Prop:=x.1=x.2/\∃ a,x.1=.ref a/\TI h a (kf a)
def tR (kf:Addr->List Int) (x y:Keyed):Bool:=HT.lexLt (kfV kf x.1) (kfV kf y.1)
theorem cmp_tups (j:Addr->List Int):Cmp (model prog w) A E s (tuples' true) (tS s.heap j) (tR j):=by
 refine ⟨fun x y B p Q st m q=>?_,fun x y _ _=>am8 _ _,fun x y z _ _ _=>apx _ _ _⟩
 obtain ⟨J,F⟩:=x
 obtain ⟨G,H⟩:=y
 obtain ⟨_,a,h,o,xs,n,v,I,l,f⟩:=B
 obtain ⟨_,b,i,o',ys,C,r,D,u,c⟩:=p
 dsimp only at h i
 subst h i
 rw [lt'_eq]
 refine wpS_bind (wpS_get ?_)
 rw [m]
 refine wpS_bind (wpS_lift (wpAny_attempt (PySem.W.kat_lt v l r u (agl 0 f c (fun z=>?_) (fun z=>?_) ⟨rfl,?_⟩))))
 ·have g:=f.length;have d:=c.length
  simp at g d
  exact aC6 (by omega)
 ·have g:=f.length;have d:=c.length
  simp at g d
  exact aC5 (by omega)
 ·exact wpS_pure q
theorem aoc {vs:List Value} {ps:List Keyed} (h:ps.Perm (vs.zip vs)):(∀ p∈ps,p.1=p.2/\p.1∈vs)/\(ps.map (·.2)).Perm vs:=by
 refine ⟨fun p b=>mem_zip_self (h.mem_iff.mp b),?_⟩
 have a:=h.map (fun p=>p.2)
 have e:(vs.zip vs).map (fun p=>p.2)=vs:=List.map_snd_zip (az6 _)
 rwa [e] at a
theorem ajp {a:Addr} {vs:List Value} {n:Nat} {P:PySem.Fin->Shared->Prop} (j:s.heap.get? a=some (seqObj "list" vs.toArray n)) (c:vs.length<=sizeLine)
  (r:2<=vs.length->∀ h',(∀ b o,b ≠ a->s.heap.get? b=some o->h'.get? b=some o)->∃ κ S R,(∀ (Q:SortKind->Shared->Prop),Q κ { s with heap:=h' }->wpAny (model prog w) A (keyKind' vs.toArray) Q E { s with heap:=h' })/\Cmp (model prog w) A E { s with heap:=h' } κ S R/\(∀ v∈vs,S (v,v)) /\
   ∀ out:List Value,out.Perm vs->out.Pairwise (fun x y=>R (y,y) (x,x)=false)->P (.done (.ret .none)) { s with heap:=sortedHeap s.heap a vs out.toArray })
  (M:vs.length < 2->P (.done (.ret .none)) { s with heap:=sortedHeap s.heap a vs vs.toArray }) :
  wpAny (model prog w) A (Builtin.«list.sort» ⟨[.ref a],[]⟩) P E s:=by
 rw [list_sort_plain]
 have ha:a < s.heap.objs.size:=aH4 j
 refine aH1 (listItems_at j rfl ?_)
 refine aH1 (listUpdate_at j rfl ?_ (by rw [aA2];exact c) (aE4 _))
 obtain ⟨m,g⟩:∃ m,(s.heap.update a (Obj.mapSeq fun _ => #[])).get? a=some (seqObj "list" #[] m):=⟨_,get?_update_seq j (fun _ => #[])⟩
 refine aH1 (seqEpoch_at g rfl ?_)
 refine aH1 (wpAny_newTuple ?_ (by show vs.length<=_;exact c))
 refine aH1 (wpAny_newList ?_ (aE4 _))
 refine aH7 ?_
 have d:(((s.heap.update a (Obj.mapSeq fun _ => #[])).push (seqObj "tuple" vs.toArray 0)).push (seqObj "list" #[] 0)).get? a=some (seqObj "list" #[] m):=by
  rw [Heap.get?_push_ne _ _ _ (by rw [size_push',Heap.size_update];exact aA6 (aE2 ha)),Heap.get?_push_ne _ _ _ (by rw [Heap.size_update];exact aA6 ha)]
  exact g
 show wpAny (model prog w) A _ P E { s with heap:=((s.heap.update a (Obj.mapSeq fun _ => #[])).push (seqObj "tuple" vs.toArray 0)).push (seqObj "list" #[] 0) }
 dsimp only
 have hsz:vs.toArray.size=vs.length:=by simp
 have kp:∀ b o,b ≠ a->s.heap.get? b=some o->(((s.heap.update a (Obj.mapSeq fun _ => #[])).push (seqObj "tuple" vs.toArray 0)).push (seqObj "list" #[] 0)).get? b=some o:=fun b o hb e=>by
  refine aH3 _ (aH3 _ ?_)
  rw [Heap.get?_update_ne _ _ _ _ hb];exact e
 by_cases h2:vs.toArray.size < 2
 ·rw [aD9 h2,aD9 h2]
  refine aH1 (aH2 ?_)
  rw [StateT.run_pure]
  refine aH1 (aH2 ?_)
  dsimp only
  have p:(arrOf (SortSt.mk' general' (vs.toArray.zip vs.toArray) #[] 7 none)).map (·.2)=vs.toArray:=by
   show (vs.toArray.zip vs.toArray).map (·.2)=vs.toArray
   apply Array.toList_inj.mp
   rw [Array.toList_map,Array.toList_zip]
   exact List.map_snd_zip (az6 _)
  rw [p]
  refine aH1 (seqEpoch_at d rfl ?_)
  refine aH1 (listUpdate_at d rfl ?_ (aE4 _) (by rw [aA2];exact Nat.le_succ_of_le c))
  simp only [bne_self_eq_false,Bool.false_eq_true,if_false]
  exact aH2 (M (by omega))
 ·rw [aE0 h2,aE0 h2]
  obtain ⟨κ,S,R,G,C,H,h⟩:=r (by omega) _ kp
  refine aH1 (G _ ?_)
  refine aH1 (aI0 (auh C (a0:=vs.toArray.zip vs.toArray) (st:=SortSt.mk' κ (vs.toArray.zip vs.toArray) #[] 7 none) (Q:=fun _ st'=>failedOf st'=none/\(arrOf st').toList.Perm (vs.zip vs)/\Srt R (arrOf st').toList) (fun x q=>?_) rfl rfl rfl rfl fun st' B D z=>⟨B,by simpa using D,z⟩) ?_ fun _ _ e=>e)
  ·have:x∈vs.zip vs:=by simpa using q
   obtain ⟨f,i⟩:=mem_zip_self this
   obtain ⟨K,F⟩:=x
   dsimp only at f i
   subst f
   exact H _ i
  rintro ⟨⟨⟩,st'⟩ z ⟨rfl,hf,J,hs⟩
  dsimp only
  obtain ⟨f,i⟩:=aoc J
  have p:(arrOf st').map (·.2)=(((arrOf st').toList.map (·.2)).toArray):=by
   apply Array.toList_inj.mp
   simp
  rw [p]
  have l:((arrOf st').toList.map (·.2)).length=vs.length:=i.length_eq
  refine aH1 (seqEpoch_at d rfl ?_)
  refine aH1 (listUpdate_at d rfl ?_ (aE4 _) (by rw [aA2,l];exact Nat.le_succ_of_le c))
  rw [hf]
  simp only [bne_self_eq_false,Bool.false_eq_true,if_false]
  refine aH2 (h _ i ?_)
  rw [aE5]
  refine aG4 ?_ hs
  intro x y q I L
  have ex:=(f x q).1
  have u:=(f y I).1
  obtain ⟨K,F⟩:=x
  obtain ⟨N,O⟩:=y
  dsimp only at ex u
  subst ex u
  exact L
theorem sorted_any {l:Addr} {vs:List Value} {Q:Value->Shared->Prop} (u:s.heap.IsList l vs.toArray) (a:vs.length<=sizeLine)
  (h:2<=vs.length->∀ h',(∀ b o,s.heap.get? b=some o->h'.get? b=some o)->∃ κ S R,(∀ (Q:SortKind->Shared->Prop),Q κ { s with heap:=h' }->wpAny (model prog w) A.in1.in1 (keyKind' vs.toArray) Q E { s with heap:=h' })/\Cmp (model prog w) A.in1.in1 E { s with heap:=h' } κ S R/\(∀ v∈vs,S (v,v)) /\
   ∀ out:List Value,out.Perm vs->out.Pairwise (fun x y=>R (y,y) (x,x)=false)->Q (.ref (s.heap.objs.size+1)) { s with heap:=sortedAll s.heap vs out.toArray })
  (r:vs.length < 2->Q (.ref (s.heap.objs.size+1)) { s with heap:=sortedAll s.heap vs vs.toArray }) :
  wpAny (model prog w) A (call (.builtin "sorted") [.ref l]) Q E s:=by
 refine Calls.call_function_entry kind_sorted plain_sorted entry_sorted (args_sorted1 _) ?_
 unfold Builtin.«sorted»
 refine aH1 (m:=checkCount "sorted" 1 1 _) (aH2 ?_)
 refine aH1 (collect_list u ?_ a)
 refine aH1 (wpAny_newList ?_ a)
 have hsz:((s.heap.push (seqObj "list" #[] 0)).update s.heap.objs.size (Obj.mapSeq (· ++ vs.toArray))).objs.size=s.heap.objs.size+1:=by
  rw [Heap.size_update,size_push']
 have d:(((s.heap.push (seqObj "list" #[] 0)).update s.heap.objs.size (Obj.mapSeq (· ++ vs.toArray))).push (seqObj "list" vs.toArray 0)).get? (s.heap.objs.size+1)=some (seqObj "list" vs.toArray 0):=by
  rw [← hsz];exact aH5 _ rfl
 have keep:∀ b o,s.heap.get? b=some o->(((s.heap.push (seqObj "list" #[] 0)).update s.heap.objs.size (Obj.mapSeq (· ++ vs.toArray))).push (seqObj "list" vs.toArray 0)).get? b=some o:=fun b o q=>by
  have c:b < s.heap.objs.size:=aH4 q
  rw [Heap.get?_push_ne _ _ _ (by rw [hsz];exact aA6 (aE2 c)),Heap.get?_update_ne _ _ _ _ (aA6 c),Heap.get?_push_ne _ _ _ (aA6 c)]
  exact q
 show wpAny _ _ _ _ _ { s with heap:=((s.heap.push (seqObj "list" #[] 0)).update s.heap.objs.size (Obj.mapSeq (· ++ vs.toArray))).push (seqObj "list" vs.toArray 0) }
 rw [hsz]
 refine aH1 (aH7 (aI4 slot_list_sort ⟨_,d,rfl⟩ entry_list_sort ?body (args_list_sort _)))
 case body =>
  refine ajp (s:={ s with heap:=((s.heap.push (seqObj "list" #[] 0)).update s.heap.objs.size (Obj.mapSeq (· ++ vs.toArray))).push (seqObj "list" vs.toArray 0) }) d a (fun g h' kp=>?_) fun c=>?_
  ·obtain ⟨κ,S,R,j,C,n,f⟩:=h g h' fun b o e=>kp b o (aA6 (aE2 (aH4 e))) (keep b o e)
   exact ⟨κ,S,R,j,C,n,fun out i p=>⟨_,rfl,aH2 ⟨_,rfl,f out i p⟩⟩⟩
  ·exact ⟨_,rfl,aH2 ⟨_,rfl,r c⟩⟩
end
end TS
namespace L2
open PySem PySem.Spec PyProof.Rows
def toI:V->Int
 | .int i=>i
 | _=>0
def kH (H:Hp):V->List Int
 | .ref t=>match H t with
  | some (.tup xs)=>xs.map toI
  | _=>[]
 | _=>[]
theorem auj (ns:List Int):(ns.map V.int).map toI=ns:=by
 rw [aC7]
 have:(toI ∘ V.int)=id:=by funext i;rfl
 rw [this,List.map_id]
theorem aod {H:Hp} {t:Addr} {ns:List Int} (h:H t=some (.tup (ns.map V.int))):kH H (.ref t)=ns:=by
 simp only [kH,h];exact auj ns
def TupI (H:Hp) (v:V):Prop:=∃ t ns,v=.ref t/\H t=some (.tup (ns.map V.int))/\ns ≠ []
def af8:Value->V
 | .ref a => .ref a
 | _ => .non
theorem aix:∀ {us:List Value},(∀ u∈us,∃ a,u=.ref a)->Vals (us.map af8) us
 | [],_ => .nil
 | u :: us,h=>by
  obtain ⟨a,e⟩:=h u aA8
  subst e
  exact .cons rfl (aix fun v b=>h v (aA5 _ b))
theorem aiy {H:Hp}:∀ {vs:List V} {us:List Value},Vals vs us->(∀ v∈vs,TupI H v)->(∀ u∈us,∃ a,u=.ref a)/\us.map af8=vs
 | _,_,.nil,_=>⟨fun u g=>(by cases g),rfl⟩
 | v :: vs,u :: us,.cons r t,h=>by
  obtain ⟨a,ns,rfl,_,_⟩:=h v aA8
  cases r
  obtain ⟨c,d⟩:=aiy t fun v f=>h v (aA5 _ f)
  refine ⟨fun x b=>?_,by rw [aC1,d];rfl⟩
  rcases az9.mp b with rfl | b
  ·exact ⟨_,rfl⟩
  ·exact c x b
section
variable {X:Cx}
def ahi (K:Frag):List V->Hp->VK->Prop:=fun xs H Q=>∃ (a:Addr) (vs:List V),xs=[.ref a]/\SqL K H a vs/\(∀ v∈vs,TupI H v) /\
 ∀ (vs':List V) (p:Addr),vs'.Perm vs->vs'.Pairwise (fun x y=>HT.lexLt (kH H y) (kH H x)=false)->H p=none->Q (.ref p) (upd H p (.lst vs'))
theorem ala {H:Hp} {pins:List (Addr × Obj)} {σ:St} {s:Shared} (I:Inv X pins σ H s) {h':Heap} (kp:∀ b o,s.heap.get? b=some o->h'.get? b=some o):∀ {vs:List V} {us:List Value},Vals vs us->(∀ v∈vs,TupI H v) ->
  (∃ fs,PySem.W.KatTups h' us fs/\fs.length=us.length/\∀ f∈fs,∃ i t,f=.int i t)/\∀ u∈us,∃ a,u=.ref a/\TS.TI h' a (kH H (.ref a))
 | _,_,.nil,_=>⟨⟨[],trivial,rfl,fun f hf=>by cases hf⟩,fun u G=>by cases G⟩
 | v :: vs,u :: us,.cons r t,h=>by
  obtain ⟨a,ns,rfl,e,c⟩:=h v aA8
  cases r
  obtain ⟨⟨fs,B,D,z⟩,C⟩:=ala I kp t fun v y=>h v (aA5 _ y)
  obtain ⟨_,its,E,o,q,p,n,m⟩:=(show ObjOk X.prog X.w H s.heap a (.tup (ns.map V.int)) from I.hok a _ e)
  have hi:IntsAre its ns:=by simpa using (act E:IntsAre its.toArray.toList ns)
  have F:TS.TI h' a (kH H (.ref a)):=⟨o,its.toArray,n,kp _ _ q,p,m,by rw [aod e];simpa using hi⟩
  obtain ⟨f,hf,i,d,A⟩:∃ f,its.toArray[0]?=some f/\∃ i t,f=.int i t:=by
   cases hi with
   | nil=>exact absurd rfl c
   | cons i d _=>exact ⟨_,by simp,i,d,rfl⟩
  refine ⟨⟨f :: fs,PySem.W.KatTups.cons (kp _ _ q) p m hf B,by simp [D],fun g j=>?_⟩,fun x l=>?_⟩
  ·rcases az9.mp j with rfl | j
   ·exact ⟨i,d,A⟩
   ·exact z g j
  ·rcases az9.mp l with rfl | l
   ·exact ⟨a,rfl,F⟩
   ·exact C x l
theorem art {α:Type} {R : α->α->Prop}:∀ {l:List α},l.length < 2->l.Pairwise R
 | [],_=>List.Pairwise.nil
 | [_],_=>List.pairwise_singleton _ _
 | _ :: _ :: _,h=>absurd h (by simp)
theorem aoe:abh X (.builtin "sorted") (ahi X.K):=by
 intro pins s σ H xs us Q I r h
 obtain ⟨a,vs,rfl,ha,p,q⟩:=h
 obtain ⟨u,rfl,F⟩:=acj r
 cases F
 obtain ⟨its,n,B,hz⟩:=I.list ha
 obtain ⟨l,M⟩:=aiy n p
 have c:its.length<=sizeLine:=by rw [← n.length];exact hz
 have d:H (s.heap.objs.size+1)=none:=I.hok.fresh (Nat.le_succ _)
 have fin:∀ out:List Value,out.Perm its->(out.map af8).Pairwise (fun x y=>HT.lexLt (kH H y) (kH H x)=false)->EP X pins σ Q (.ref (s.heap.objs.size+1)) { s with heap:=sortedAll s.heap its out.toArray }:=by
  intro out f hs
  obtain ⟨e,w⟩:=sortedAll_at s.heap its out.toArray
  have g:Vals (out.map af8) out:=aix fun u O=>l u (f.mem_iff.mp O)
  refine ⟨.ref (s.heap.objs.size+1),_,I.laid (t':=s.toks) (o:=.lst (out.map af8)) (fun b Y q=>sortedAll_old q) (Nat.le_succ _) ?_,rfl,q _ _ ?_ hs d⟩
  ·refine ⟨by rw [az3,f.length_eq];exact c,out,e,g,by rw [w]⟩
  ·rw [← M];exact f.map af8
 refine TS.sorted_any B.isList c (fun C h' kp=>?_) fun m=>?_
 ·obtain ⟨⟨fs,D,S,A⟩,J⟩:=ala I kp n p
  have j:(Value.type "int" != Value.type "tuple")=true:=by rfl
  refine ⟨tuples' true,TS.tS h' (fun a=>kH H (.ref a)),TS.tR (fun a=>kH H (.ref a)),fun P G=>?_,TS.cmp_tups (s:={ s with heap:=h' }) (fun a=>kH H (.ref a)),fun v g=>?_,fun out f hs=>fin out f ?_⟩
  ·refine PySem.W.kat_kind (T:=.type "int") (s:={ s with heap:=h' }) D (by omega) (fun v g=>?_) (by rfl) ?_
   ·obtain ⟨i,t,rfl⟩:=A v g
    exact .now
   ·rw [j];exact G
  ·obtain ⟨a,e,z⟩:=J v g
   exact ⟨rfl,a,e,z⟩
  ·rw [aE5]
   refine aG4 ?_ hs
   intro x y N E L
   obtain ⟨U,rfl⟩:=l x (f.mem_iff.mp N)
   obtain ⟨R,rfl⟩:=l y (f.mem_iff.mp E)
   exact L
 ·refine fin its (List.Perm.refl _) ?_
  exact art (by rw [az3];exact m)
end
end L2
namespace HT
open PySem PySem.Spec PyProof.Rows L2
section
variable {prog:Program} {w:World} {A:Around} {kw:List (Str × Value)} {R:Result->Shared->Prop} {I S:Addr} {fp wr:List Addr} {n:Nat} {P:Nat->Value->Prop} {St:Nat->Heap->Prop} {Hd:Heap->Prop}
end
section
variable {prog:Program} {w:World} {A:Around} {E:Value->Shared->Prop} {s:Shared}
end
end HT
namespace L2
open PySem PySem.Spec PyProof.Rows
section
variable {X:Cx} {x:Str} {p pos kpos:Pos} {e en:Expr} {t:TA}
end
end L2
namespace HT
open PySem PySem.Spec PyProof.Rows
section
variable {prog:Program} {w:World} {A:Around} {E:Value->Shared->Prop} {s:Shared}
end
end HT
namespace L2
open PySem PySem.Spec PyProof.Rows
section
variable {X:Cx}
end
end L2
namespace VL
open PySem PySem.Spec L2
def kD:Key->PyData
 | .inl i => .int i
 | .inr x => .str x
mutual
inductive Rp (G:Hp):V->PyData->Prop
 | non:Rp G .non .none
 | bl (b:Bool):Rp G (.bl b) (.bool b)
 | int (i:Int):Rp G (.int i) (.int i)
 | str (x:Str):Rp G (.str x) (.str x)
 | lst {a:Addr} {xs:List V} {ds:List PyData}:G a=some (.lst xs)->Rps G xs ds->Rp G (.ref a) (.list ds)
 | tup {a:Addr} {xs:List V} {ds:List PyData}:G a=some (.tup xs)->Rps G xs ds->Rp G (.ref a) (.tuple ds)
 | dk {a:Addr} {kvs:List (Key × V)} {es:List (Key × PyData)} {ds:List (PyData × PyData)}:G a=some (.dK kvs)->RpK G kvs es->ds=es.map (fun p=>(kD p.1,p.2))->Rp G (.ref a) (.dict ds)
 | dt {a:Addr} {kvs:List (List Key × V)} {es:List (List Key × PyData)} {ds:List (PyData × PyData)}:G a=some (.dT kvs)->RpT G kvs es->ds=es.map (fun p=>(.tuple (p.1.map kD),p.2))->Rp G (.ref a) (.dict ds)
inductive Rps (G:Hp):List V->List PyData->Prop
 | nil:Rps G [] []
 | cons {v:V} {vs:List V} {d:PyData} {ds:List PyData}:Rp G v d->Rps G vs ds->Rps G (v :: vs) (d :: ds)
inductive RpK (G:Hp):List (Key × V)->List (Key × PyData)->Prop
 | nil:RpK G [] []
 | cons {k:Key} {v:V} {d:PyData} {r:List (Key × V)} {s:List (Key × PyData)}:Rp G v d->RpK G r s->RpK G ((k,v) :: r) ((k,d) :: s)
inductive RpT (G:Hp):List (List Key × V)->List (List Key × PyData)->Prop
 | nil:RpT G [] []
 | cons {k:List Key} {v:V} {d:PyData} {r:List (List Key × V)} {s:List (List Key × PyData)}:Rp G v d->RpT G r s->RpT G ((k,v) :: r) ((k,d) :: s)
end
mutual
theorem Rp.same {G G':Hp} (s:Same G G'):∀ {v:V} {d:PyData},Rp G v d->Rp G' v d
 | _,_,.non => .non
 | _,_,.bl b => .bl b
 | _,_,.int i => .int i
 | _,_,.str x => .str x
 | _,_,.lst h r => .lst (s _ _ h) (Rps.same s r)
 | _,_,.tup h r => .tup (s _ _ h) (Rps.same s r)
 | _,_,.dk h r e => .dk (s _ _ h) (RpK.same s r) e
 | _,_,.dt h r e => .dt (s _ _ h) (RpT.same s r) e
theorem Rps.same {G G':Hp} (s:Same G G'):∀ {vs:List V} {ds:List PyData},Rps G vs ds->Rps G' vs ds
 | _,_,.nil => .nil
 | _,_,.cons r t => .cons (Rp.same s r) (Rps.same s t)
theorem RpK.same {G G':Hp} (s:Same G G'):∀ {vs:List (Key × V)} {ds:List (Key × PyData)},RpK G vs ds->RpK G' vs ds
 | _,_,.nil => .nil
 | _,_,.cons r t => .cons (Rp.same s r) (RpK.same s t)
theorem RpT.same {G G':Hp} (s:Same G G'):∀ {vs:List (List Key × V)} {ds:List (List Key × PyData)},RpT G vs ds->RpT G' vs ds
 | _,_,.nil => .nil
 | _,_,.cons r t => .cons (Rp.same s r) (RpT.same s t)
end
theorem Rps.length {G:Hp}:∀ {vs:List V} {ds:List PyData},Rps G vs ds->vs.length=ds.length
 | _,_,.nil=>rfl
 | _,_,.cons _ t=>by simp [Rps.length t]
theorem Rps.get {G:Hp}:∀ {vs:List V} {ds:List PyData} {i:Nat} {d:PyData},Rps G vs ds->ds[i]?=some d->∃ v,vs[i]?=some v/\Rp G v d
 | _,_,_,_,.nil,e=>by simp at e
 | _,_,0,_,.cons r _,e=>by simp at e;subst e;exact ⟨_,rfl,r⟩
 | _,_,i+1,d,.cons _ t,e=>by
  obtain ⟨u,a,b⟩:=Rps.get (i:=i) (d:=d) t (by simpa using e)
  exact ⟨u,by simpa using a,b⟩
theorem Rps.append {G:Hp}:∀ {vs a:List V} {ds es:List PyData},Rps G vs ds->Rps G a es->Rps G (vs ++ a) (ds ++ es)
 | _,_,_,_,.nil,s=>s
 | _,_,_,_,.cons r t,s => .cons r (Rps.append t s)
theorem Rps.set {G:Hp} {v:V} {d:PyData} (h:Rp G v d):∀ {vs:List V} {ds:List PyData} (i:Nat),Rps G vs ds->Rps G (vs.set i v) (ds.set i d)
 | _,_,_,.nil => .nil
 | _,_,0,.cons _ t => .cons h t
 | _,_,i+1,.cons r t => .cons r (Rps.set h i t)
theorem Rps.erase {G:Hp}:∀ {vs:List V} {ds:List PyData} (i:Nat),Rps G vs ds->Rps G (vs.eraseIdx i) (ds.eraseIdx i)
 | _,_,_,.nil => .nil
 | _,_,0,.cons _ t=>t
 | _,_,i+1,.cons r t => .cons r (Rps.erase i t)
theorem Rps.take {G:Hp}:∀ {vs:List V} {ds:List PyData} (i:Nat),Rps G vs ds->Rps G (vs.take i) (ds.take i)
 | _,_,0,_ => .nil
 | _,_,_+1,.nil => .nil
 | _,_,i+1,.cons r t => .cons r (Rps.take i t)
theorem Rps.drop {G:Hp}:∀ {vs:List V} {ds:List PyData} (i:Nat),Rps G vs ds->Rps G (vs.drop i) (ds.drop i)
 | _,_,0,r=>r
 | _,_,_+1,.nil => .nil
 | _,_,i+1,.cons _ t=>Rps.drop i t
theorem Rps.rep {G:Hp} {vs:List V} {ds:List PyData} (h:Rps G vs ds):∀ (k:Nat),Rps G (List.replicate k vs).flatten (List.replicate k ds).flatten
 | 0 => .nil
 | k+1=>by
  rw [aF7,aF7,List.flatten_cons,List.flatten_cons]
  exact h.append (Rps.rep h k)
theorem Rps.ints {G:Hp}:∀ (ns:List Int),Rps G (ns.map V.int) (ns.map PyData.int)
 | [] => .nil
 | n :: ns => .cons (.int n) (Rps.ints ns)
theorem Rps.ints_inv {G:Hp}:∀ {ns:List Int} {vs:List V},Rps G vs (ns.map PyData.int)->vs=ns.map V.int
 | [],_,.nil=>rfl
 | n :: ns,_,.cons r t=>by
  cases r
  rw [Rps.ints_inv t];rfl
mutual
theorem Rp.rep {G:Hp}:∀ {v:V} {d:PyData},Rp G v d->aar d=true->Rep G v d
 | _,_,.non,_ => .non
 | _,_,.bl b,_ => .bl b
 | _,_,.int i,_ => .int i
 | _,_,.str x,_ => .str x
 | _,_,.lst h r,p => .lst h (Rps.reps r (by simpa [aar] using p))
 | _,_,.tup h r,p => .tup h (Rps.reps r (by simpa [aar] using p))
 | _,_,.dk h r e,p=>by simp [aar] at p
 | _,_,.dt h r e,p=>by simp [aar] at p
theorem Rps.reps {G:Hp}:∀ {vs:List V} {ds:List PyData},Rps G vs ds->plainDs ds=true->Reps G vs ds
 | _,_,.nil,_ => .nil
 | _,_,.cons r t,p=>by
  simp only [plainDs,aF5] at p
  exact .cons (Rp.rep r p.1) (Rps.reps t p.2)
end
structure Own where
 P:Hp->Hp->V->(Addr->Prop)->Prop
 mono:∀ {G H G' H':Hp} {v:V} {F:Addr->Prop},P G H v F->Same G G'->(∀ a o,F a->H a=some o->H' a=some o)->P G' H' v F
 dom:∀ {G H:Hp} {v:V} {F:Addr->Prop},P G H v F->∀ a,F a->∃ o,H a=some o
inductive Sl where
 | st (d:PyData) | own (A:Own) | io (A:Own) | scr (ns:List Int)
abbrev En:=List (Option Sl)
structure Bs where
 K:Frag
 G:Hp
 H:Hp
 R:Hp
 S:St
 F:Nat->Addr->Prop
def SlOk (B:Bs) (G H:Hp) (i:Nat) (v:V) (F:Addr->Prop):Sl->Prop
 | .st d=>Rp G v d/\∀ a,¬ F a
 | .own A=>A.P G H v F/\∀ a,F a->B.H a=none
 | .io A=>A.P G H v F/\(∀ a,F a->B.F i a\/B.H a=none)/\B.S[i]?=some (some v)
 | .scr ns=>(∃ a,v=.ref a/\SqL B.K G a (ns.map V.int))/\∀ a,¬ F a
def FT (G H:Hp):Prop:=∀ (a:Addr) (ks:List Key),H a=some (.tup (ks.map kV))->G a=some (.tup (ks.map kV))
structure VI (B:Bs) (G H:Hp) (σ:St) (env:En) (F:Nat->Addr->Prop):Prop where
 gh:Same G H
 g0:Same B.G G
 gn:∀ a o,G a=some o->B.G a=some o\/B.H a=none
 rs:Same B.R H
 rb:Same B.R B.H
 bh:∀ a o,B.H a=some o->∃ o',H a=some o'
 fg:∀ i a,F i a->G a=none
 fr:∀ i a,F i a->B.R a=none
 fd:∀ i j a,F i a->F j a->i=j
 fo:∀ i a,F i a->∃ o,H a=some o
 sl:∀ i s,env[i]?=some (some s)->∃ v,σ[i]?=some (some v)/\SlOk B G H i v (F i) s
 ln : σ.length=env.length
 ft:FT G H
def RsOk (G H:Hp) (v:V) (F:Addr->Prop):Sl->Prop
 | .st d=>Rp G v d/\∀ a,¬ F a
 | .own A=>A.P G H v F
 | _=>False
structure RsX (B:Bs) (G H:Hp) (v:V) (Fv:Addr->Prop) (s:Sl) (F:Nat->Addr->Prop):Prop where
 ok:RsOk G H v Fv s
 fb:∀ a,Fv a->B.H a=none
 fg:∀ a,Fv a->G a=none
 fo:∀ a,Fv a->∃ o,H a=some o
 fd:∀ j a,Fv a->¬ F j a
structure Out (G H:Hp) (v:V) (G' H':Hp) (s:Sl) (Fv:Addr->Prop):Prop where
 gg:Same G G'
 gh:Same G' H'
 hh:Same H H'
 gn:∀ a o,G' a=some o->G a=some o\/H a=none
 fn:∀ a,Fv a->H a=none
 fg:∀ a,Fv a->G' a=none
 fo:∀ a,Fv a->∃ o,H' a=some o
 ok:RsOk G' H' v Fv s
 ft:FT G H->FT G' H'
theorem aof {α:Type} {o:Option α} (h:o ≠ none):∃ x,o=some x:=by
 cases o with
 | none=>exact absurd rfl h
 | some x=>exact ⟨x,rfl⟩
theorem SlOk.mono {B:Bs} {G H G' H':Hp} {i:Nat} {v:V} {F:Addr->Prop} {s:Sl} (h:SlOk B G H i v F s) (g:Same G G') (hh:∀ a o,F a->H a=some o->H' a=some o):SlOk B G' H' i v F s:=by
 cases s with
 | st d=>exact ⟨h.1.same g,h.2⟩
 | own A=>exact ⟨A.mono h.1 g hh,h.2⟩
 | io A=>exact ⟨A.mono h.1 g hh,h.2⟩
 | scr ns =>
  obtain ⟨⟨a,e,q⟩,n⟩:=h
  exact ⟨⟨a,e,g.seq q⟩,n⟩
section
variable {B:Bs} {G H G' H':Hp} {σ:St} {env:En} {F:Nat->Addr->Prop} {v:V} {s:Sl} {Fv:Addr->Prop}
theorem VI.no_r (I:VI B G H σ env F) {a:Addr} (h:H a=none):B.R a=none:=by
 cases e:B.R a with
 | none=>rfl
 | some o=>rw [I.rs a o e] at h;cases h
theorem VI.no_b (I:VI B G H σ env F) {a:Addr} (h:H a=none):B.H a=none:=by
 cases e:B.H a with
 | none=>rfl
 | some o=>obtain ⟨o',b⟩:=I.bh a o e;rw [b] at h;cases h
theorem VI.no_g (I:VI B G H σ env F) {a:Addr} (h:H a=none):G a=none:=by
 cases e:G a with
 | none=>rfl
 | some o=>rw [I.gh a o e] at h;cases h
theorem VI.no_f (I:VI B G H σ env F) {a:Addr} (h:H a=none) (i:Nat):¬ F i a:=fun z=>by
 obtain ⟨o,e⟩:=I.fo i a z;rw [e] at h;cases h
theorem VI.grow (I:VI B G H σ env F) (gg:Same G G') (gh:Same G' H') (hh:Same H H') (gn:∀ a o,G' a=some o->G a=some o\/H a=none) (ft:FT G' H'):VI B G' H' σ env F where
 gh:=gh
 g0:=I.g0.trans gg
 gn:=fun a o e=>by
  rcases gn a o e with e | e
  ·exact I.gn a o e
  ·exact .inr (I.no_b e)
 rs:=I.rs.trans hh
 rb:=I.rb
 bh:=fun a o e=>by obtain ⟨o',c⟩:=I.bh a o e;exact ⟨o',hh _ _ c⟩
 fg:=fun i a z=>by
  cases e:G' a with
  | none=>rfl
  | some o =>
   rcases gn a o e with e | e
   ·rw [I.fg i a z] at e;cases e
   ·exact absurd z (I.no_f e i)
 fr:=I.fr
 fd:=I.fd
 fo:=fun i a z=>by obtain ⟨o,e⟩:=I.fo i a z;exact ⟨o,hh _ _ e⟩
 sl:=fun i s e=>by
  obtain ⟨v,d,b⟩:=I.sl i s e
  exact ⟨v,d,b.mono gg fun a o _ q=>hh _ _ q⟩
 ln:=I.ln
 ft:=ft
theorem VI.out (I:VI B G H σ env F) (o:Out G H v G' H' s Fv):VI B G' H' σ env F/\RsX B G' H' v Fv s F :=
 ⟨I.grow o.gg o.gh o.hh o.gn (o.ft I.ft),o.ok,fun a z=>I.no_b (o.fn a z),o.fg,o.fo,fun j a z y=>I.no_f (o.fn a z) j y⟩
theorem VI.b_r (I:VI B G H σ env F) {a:Addr} (h:B.H a=none):B.R a=none:=by
 cases e:B.R a with
 | none=>rfl
 | some o=>rw [I.rb a o e] at h;cases h
def putF (F:Nat->Addr->Prop) (i:Nat) (Fv:Addr->Prop):Nat->Addr->Prop:=fun j a=>if j=i then Fv a else F j a
theorem putF_same {i:Nat} {a:Addr}:putF F i Fv i a ↔ Fv a:=by unfold putF;rw [aD9 rfl]
theorem aet {i:Nat}:putF F i Fv i=Fv:=by funext a;unfold putF;rw [aD9 rfl]
theorem aa9 {i j:Nat} (h:j ≠ i):putF F i Fv j=F j:=by funext a;unfold putF;rw [aE0 h]
theorem VI.slot (I:VI B G H σ env F) (i:Nat) (o:Option V) (os:Option Sl) (fg:∀ a,Fv a->G a=none) (fr:∀ a,Fv a->B.R a=none) (fo:∀ a,Fv a->∃ o,H a=some o) (fd:∀ j a,j ≠ i->Fv a->¬ F j a)
  (ok:∀ s,os=some s->∃ v,o=some v/\SlOk B G H i v Fv s):VI B G H (σ.set i o) (env.set i os) (putF F i Fv) where
 gh:=I.gh
 g0:=I.g0
 gn:=I.gn
 rs:=I.rs
 rb:=I.rb
 bh:=I.bh
 fg:=fun j a z=>by
  by_cases h:j=i
  ·subst h;exact fg a (putF_same.mp z)
  ·rw [aa9 h] at z;exact I.fg j a z
 fr:=fun j a z=>by
  by_cases h:j=i
  ·subst h;exact fr a (putF_same.mp z)
  ·rw [aa9 h] at z;exact I.fr j a z
 fd:=fun j k a y z=>by
  by_cases h:j=i
  ·by_cases g:k=i
   ·rw [h,g]
   ·subst h;rw [aa9 g] at z;exact absurd z (fd k a g (putF_same.mp y))
  ·by_cases g:k=i
   ·subst g;rw [aa9 h] at y;exact absurd y (fd j a h (putF_same.mp z))
   ·rw [aa9 h] at y;rw [aa9 g] at z;exact I.fd j k a y z
 fo:=fun j a z=>by
  by_cases h:j=i
  ·subst h;exact fo a (putF_same.mp z)
  ·rw [aa9 h] at z;exact I.fo j a z
 sl:=fun j t e=>by
  by_cases h:j=i
  ·subst h
   rw [aC2,aD9 rfl] at e
   by_cases hl:j < env.length
   ·rw [aD9 hl] at e
    obtain ⟨v,b,q⟩:=ok t (aB6 e)
    refine ⟨v,by rw [aC2,aD9 rfl,aD9 (by rw [I.ln];exact hl),b],?_⟩
    rw [aet];exact q
   ·rw [aE0 hl] at e;cases e
  ·rw [aC2,aE0 (fun z=>h z.symm)] at e
   obtain ⟨v,b,q⟩:=I.sl j t e
   refine ⟨v,by rw [aC2,aE0 (fun z=>h z.symm)];exact b,?_⟩
   rw [aa9 h];exact q
 ln:=by simp [I.ln]
 ft:=I.ft
theorem VI.store (I:VI B G H σ env F) (r:RsX B G H v Fv s F) (i:Nat):VI B G H (σ.set i (some v)) (env.set i (some s)) (putF F i Fv):=by
 refine I.slot i (some v) (some s) r.fg (fun a z=>I.b_r (r.fb a z)) r.fo (fun j a _ z=>r.fd j a z) fun t e=>?_
 cases e
 refine ⟨v,rfl,?_⟩
 have:=r.ok
 cases s with
 | st d=>exact this
 | own A=>exact ⟨this,r.fb⟩
 | io A=>exact this.elim
 | scr ns=>exact this.elim
theorem VI.drop (I:VI B G H σ env F) (i:Nat):VI B G H σ (env.set i none) (putF F i fun _=>False):=by
 have:=I.slot (Fv:=fun _=>False) i ((σ[i]?).getD none) none (fun a z=>z.elim) (fun a z=>z.elim) (fun a z=>z.elim) (fun j a _ z=>z.elim) (fun s e=>by cases e)
 rwa [show σ.set i ((σ[i]?).getD none) = σ from ?_] at this
 apply aE6
 intro j
 rw [aC2]
 by_cases h:i=j
 ·subst h
  rw [aD9 rfl]
  by_cases hl:i < σ.length
  ·rw [aD9 hl,az0 hl];rfl
  ·rw [aE0 hl,aE1.mpr (by omega)]
 ·rw [aE0 h]
theorem VI.change {A:Own} (I:VI B G H σ env F) (i:Nat) {H2:Hp} {F2:Addr->Prop} {os os':Sl} (e:env[i]?=some (some os)) (g : σ[i]?=some (some v))
  (keep:∀ a o,¬ F i a->H a=some o->H2 a=some o) (p:∀ a o,H a=some o->∃ o',H2 a=some o') (c:∀ a,F2 a->(F i a\/H a=none)/\∃ o,H2 a=some o) (n:A.P G H2 v F2) (C:FT G H2)
  (hs:(os'=.own A/\∃ d,os=.own d)\/(os'=.io A/\∃ d,os=.io d)):VI B G H2 σ (env.set i (some os')) (putF F i F2):=by
 obtain ⟨Q,f,q⟩:=I.sl i os e
 rw [g] at f;cases f
 have m:∀ j a,j ≠ i->F j a->¬ F i a:=fun j a b y z=>b (I.fd j i a y z)
 have r:∀ a,F2 a->G a=none:=fun a z=>by
  rcases (c a z).1 with y | y
  ·exact I.fg i a y
  ·exact I.no_g y
 have J:VI B G H2 σ (env.set i none) (putF F i fun _=>False):=by
  have D:=I.drop i
  refine ⟨fun a o x=>keep a o (fun z=>by rw [I.fg i a z] at x;cases x) (I.gh a o x),D.g0,D.gn,fun a o x=>keep a o (fun z=>by rw [I.fr i a z] at x;cases x) (I.rs a o x),D.rb,fun a o x=>?_,D.fg,D.fr,D.fd,fun j a z=>?_,fun j s x=>?_,D.ln,C⟩
  ·obtain ⟨o',E⟩:=I.bh a o x
   exact p a o' E
  ·obtain ⟨o,x⟩:=D.fo j a z
   exact p a o x
  ·obtain ⟨u,N,K⟩:=D.sl j s x
   refine ⟨u,N,K.mono (Same.refl G) fun a o z y=>?_⟩
   by_cases b:j=i
   ·subst b;exact (putF_same.mp z).elim
   ·rw [aa9 b] at z
    exact keep a o (m j a b z) y
 have l:=J.slot (Fv:=F2) i (some v) (some os') r (fun a z=>by
   rcases (c a z).1 with y | y
   ·exact I.fr i a y
   ·exact I.no_r y) (fun a z=>(c a z).2) (fun j a b z y=>by
   rw [aa9 b] at y
   rcases (c a z).1 with x | x
   ·exact m j a b y x
   ·exact I.no_f x j y) fun t O=>by
   cases O
   refine ⟨v,rfl,?_⟩
   rcases hs with ⟨rfl,d,rfl⟩ | ⟨rfl,d,rfl⟩
   ·refine ⟨n,fun a z=>?_⟩
    rcases (c a z).1 with y | y
    ·exact q.2 a y
    ·exact I.no_b y
   ·refine ⟨n,fun a z=>?_,q.2.2⟩
    rcases (c a z).1 with y | y
    ·exact q.2.1 a y
    ·exact .inr (I.no_b y)
 have M : σ.set i (some v) = σ:=by
  apply aE6
  intro j
  rw [aC2]
  by_cases h:i=j
  ·subst h
   rw [aD9 rfl,g,aD9 (az1.mp g).1]
  ·rw [aE0 h]
 have L:(env.set i none).set i (some os')=env.set i (some os'):=by simp
 have w:putF (putF F i fun _=>False) i F2=putF F i F2:=by
  funext j a
  by_cases h:j=i
  ·subst h;rw [aet,aet]
  ·rw [aa9 h,aa9 h,aa9 h]
 rw [M,L,w] at l
 exact l
end
open Classical in
def jn (G H:Hp) (F:Addr->Prop):Hp:=fun a=>if F a then H a else G a
theorem af9 {G H:Hp} {F:Addr->Prop} {a:Addr} (h:F a):jn G H F a=H a:=aD9 h
theorem aj5 {G H:Hp} {F:Addr->Prop} {a:Addr} (h:¬ F a):jn G H F a=G a:=aE0 h
theorem abm {G H:Hp} {F:Addr->Prop} (h:∀ a,F a->G a=none):Same G (jn G H F):=fun a o e=>by
 rw [aj5 (fun z=>by rw [h a z] at e;cases e)];exact e
theorem aj6 {G H:Hp} {F:Addr->Prop} (h:Same G H):Same (jn G H F) H:=fun a o e=>by
 by_cases z:F a
 ·rw [af9 z] at e;exact e
 ·rw [aj5 z] at e;exact h a o e
def Frz (A:Own) (d:PyData):Prop:=∀ (G H:Hp) (v:V) (F:Addr->Prop),A.P G H v F->(∀ a,F a->G a=none)->Same G H->Rp (jn G H F) v d
def FQ:Sl->(PyData->Prop)->Prop
 | .st d,R=>R d
 | .own A,R=>∃ d,Frz A d/\R d
 | _,_=>False
def OL (ds:List PyData):Own where
 P:=fun G H v F=>∃ a vs,v=.ref a/\H a=some (.lst vs)/\Rps G vs ds/\∀ b,F b ↔ b=a
 mono:=fun ⟨a,vs,e,h,r,f⟩ g hh=>⟨a,vs,e,hh a _ ((f a).mpr rfl) h,r.same g,f⟩
 dom:=fun ⟨a,vs,e,h,r,f⟩ b z=>by rw [(f b).mp z];exact ⟨_,h⟩
def OD (es:List (Key × PyData)):Own where
 P:=fun G H v F=>∃ a kvs,v=.ref a/\H a=some (.dK kvs)/\RpK G kvs es/\∀ b,F b ↔ b=a
 mono:=fun ⟨a,vs,e,h,r,f⟩ g hh=>⟨a,vs,e,hh a _ ((f a).mpr rfl) h,r.same g,f⟩
 dom:=fun ⟨a,vs,e,h,r,f⟩ b z=>by rw [(f b).mp z];exact ⟨_,h⟩
def OT (es:List (List Key × PyData)):Own where
 P:=fun G H v F=>∃ a kvs,v=.ref a/\H a=some (.dT kvs)/\RpT G kvs es/\∀ b,F b ↔ b=a
 mono:=fun ⟨a,vs,e,h,r,f⟩ g hh=>⟨a,vs,e,hh a _ ((f a).mpr rfl) h,r.same g,f⟩
 dom:=fun ⟨a,vs,e,h,r,f⟩ b z=>by rw [(f b).mp z];exact ⟨_,h⟩
theorem adi {ds:List PyData}:Frz (OL ds) (.list ds):=fun G H v F ⟨a,vs,e,h,r,f⟩ n g=>by
 subst e
 exact .lst (by rw [af9 ((f a).mpr rfl)];exact h) (r.same (abm n))
theorem apy {es:List (Key × PyData)}:Frz (OD es) (.dict (es.map fun p=>(kD p.1,p.2))):=fun G H v F ⟨a,vs,e,h,r,f⟩ n g=>by
 subst e
 exact .dk (by rw [af9 ((f a).mpr rfl)];exact h) (r.same (abm n)) rfl
theorem ayq {d:PyData} {R:PyData->Prop} (h:R d):FQ (.st d) R:=h
theorem ack {ds:List PyData} {R:PyData->Prop} (h:R (.list ds)):FQ (.own (OL ds)) R:=⟨_,adi,h⟩
section
variable {B:Bs} {G H G' H':Hp} {σ:St} {env:En} {F:Nat->Addr->Prop} {v:V} {s:Sl} {Fv:Addr->Prop}
theorem VI.freeze (I:VI B G H σ env F) (fb:∀ a,Fv a->B.H a=none) (fd:∀ j a,Fv a->¬ F j a) (fg:∀ a,Fv a->G a=none):VI B (jn G H Fv) H σ env F where
 gh:=aj6 I.gh
 g0:=I.g0.trans (abm fg)
 gn:=fun a o e=>by
  by_cases z:Fv a
  ·exact .inr (fb a z)
  ·rw [aj5 z] at e;exact I.gn a o e
 rs:=I.rs
 rb:=I.rb
 bh:=I.bh
 fg:=fun i a z=>by
  rw [aj5 (fun y=>fd i a y z)];exact I.fg i a z
 fr:=I.fr
 fd:=I.fd
 fo:=I.fo
 sl:=fun i s e=>by
  obtain ⟨v,d,c⟩:=I.sl i s e
  exact ⟨v,d,c.mono (abm fg) fun a o _ q=>q⟩
 ln:=I.ln
 ft:=fun a b e=>abm fg _ _ (I.ft a b e)
theorem VI.frz {A:Own} {d:PyData} {i:Nat} (I:VI B G H σ env F) (e:env[i]?=some (some (.own A))) (f:Frz A d) :
  ∃ v,σ[i]?=some (some v)/\Rp (jn G H (F i)) v d/\Same G (jn G H (F i))/\VI B (jn G H (F i)) H σ (env.set i (some (.st d))) (putF F i fun _=>False):=by
 obtain ⟨v,b,q⟩:=I.sl i _ e
 have c:=f G H v (F i) q.1 (I.fg i) I.gh
 refine ⟨v,b,c,abm (I.fg i),?_⟩
 have D:=(I.drop i).freeze (Fv:=F i) q.2 (fun j a z y=>by
  by_cases h:j=i
  ·subst h;exact (putF_same.mp y).elim
  ·rw [aa9 h] at y;exact h (I.fd j i a y z)) (I.fg i)
 have J:=D.slot (Fv:=fun _=>False) i (some v) (some (.st d)) (fun a z=>z.elim) (fun a z=>z.elim) (fun a z=>z.elim) (fun j a _ z=>z.elim) (fun t m=>by cases m;exact ⟨v,rfl,c,fun a z=>z⟩)
 have l : σ.set i (some v) = σ:=by
  apply aE6
  intro j
  rw [aC2]
  by_cases h:i=j
  ·subst h
   rw [aD9 rfl,b,aD9 (az1.mp b).1]
  ·rw [aE0 h]
 have g:putF (putF F i fun _=>False) i (fun _=>False)=putF F i fun _=>False:=by
  funext j a
  by_cases h:j=i
  ·subst h;rw [aet,aet]
  ·rw [aa9 h,aa9 h]
 rw [l,g,List.set_set] at J
 exact J
theorem Out.refl {d:PyData} (g:Same G H) (r:Rp G v d):Out G H v G H (.st d) (fun _=>False):=⟨Same.refl _,g,Same.refl _,fun a o e => .inl e,fun a z=>z.elim,fun a z=>z.elim,fun a z=>z.elim,⟨r,fun a z=>z⟩,fun t=>t⟩
theorem auk {p:Addr} {o:HO} (g:Same G H) (h:H p=none):Same (upd G p o) (upd H p o):=fun a u e=>by
 by_cases z:a=p
 ·subst z;rw [aak] at e ⊢;exact e
 ·rw [aag z] at e ⊢;exact g a u e
theorem ab9 {p:Addr} (g:Same G H) (h:H p=none):G p=none:=by
 cases e:G p with
 | none=>rfl
 | some o=>rw [g p o e] at h;cases h
theorem Out.newT {p:Addr} {xs:List V} {ds:List PyData} (g:Same G H) (h:H p=none) (r:Rps G xs ds):Out G H (.ref p) (upd G p (.tup xs)) (upd H p (.tup xs)) (.st (.tuple ds)) (fun _=>False) where
 gg:=acp (ab9 g h)
 gh:=auk g h
 hh:=acp h
 gn:=fun a o e=>by
  by_cases z:a=p
  ·subst z;exact .inr h
  ·rw [aag z] at e;exact .inl e
 fn:=fun a z=>z.elim
 fg:=fun a z=>z.elim
 fo:=fun a z=>z.elim
 ok:=⟨.tup aak (r.same (acp (ab9 g h))),fun a z=>z⟩
 ft:=fun t a b e=>by
  by_cases z:a=p
  ·subst z;rw [aak] at e ⊢;exact e
  ·rw [aag z] at e ⊢;exact t a b e
theorem Out.newO {p:Addr} {o:HO} {A:Own} (g:Same G H) (h:H p=none) (b:∀ xs,o ≠ .tup xs) (r:A.P G (upd H p o) (.ref p) (· = p)):Out G H (.ref p) G (upd H p o) (.own A) (· = p) where
 gg:=Same.refl _
 gh:=g.trans (acp h)
 hh:=acp h
 gn:=fun a o e => .inl e
 fn:=fun a z=>by rw [z];exact h
 fg:=fun a z=>by rw [z];exact ab9 g h
 fo:=fun a z=>by rw [z];exact ⟨_,aak⟩
 ok:=r
 ft:=fun t a c e=>by
  by_cases z:a=p
  ·subst z;rw [aak] at e;exact absurd (aB6 e) (b _)
  ·rw [aag z] at e;exact t a c e
theorem Out.newL {p:Addr} {xs:List V} {ds:List PyData} (g:Same G H) (h:H p=none) (r:Rps G xs ds):Out G H (.ref p) G (upd H p (.lst xs)) (.own (OL ds)) (· = p) :=
 .newO g h (fun _ z=>nomatch z) ⟨p,xs,rfl,aak,r,fun b=>Iff.rfl⟩
theorem Out.newD {p:Addr} {xs:List (Key × V)} {ds:List (Key × PyData)} (g:Same G H) (h:H p=none) (r:RpK G xs ds):Out G H (.ref p) G (upd H p (.dK xs)) (.own (OD ds)) (· = p) :=
 .newO g h (fun _ z=>nomatch z) ⟨p,xs,rfl,aak,r,fun b=>Iff.rfl⟩
theorem Out.newDT {p:Addr} {xs:List (List Key × V)} {ds:List (List Key × PyData)} (g:Same G H) (h:H p=none) (r:RpT G xs ds):Out G H (.ref p) G (upd H p (.dT xs)) (.own (OT ds)) (· = p) :=
 .newO g h (fun _ z=>nomatch z) ⟨p,xs,rfl,aak,r,fun b=>Iff.rfl⟩
end
def EvO (B:Bs) (te:TE) (env:En) (Q':Sl->En->Prop):Prop:=∀ (σ:St) (G H:Hp) (F:Nat->Addr->Prop) (Q:VK),VI B G H σ env F ->
 (∀ v G' H' F' Fv s env',VI B G' H' σ env' F'->Same G G'->RsX B G' H' v Fv s F'->Q' s env'->Q v H')->te σ H Q
def Ev (B:Bs) (te:TE) (env:En) (Q':PyData->En->Prop):Prop:=∀ (σ:St) (G H:Hp) (F:Nat->Addr->Prop) (Q:VK),VI B G H σ env F ->
 (∀ v G' H' F' d env',VI B G' H' σ env' F'->Same G G'->Rp G' v d->Q' d env'->Q v H')->te σ H Q
def EvT (B:Bs) (tt:TT) (env:En) (Q':Bool->En->Prop):Prop:=∀ (σ:St) (G H:Hp) (F:Nat->Addr->Prop) (Q:Bool->Hp->Prop),VI B G H σ env F ->
 (∀ b G' H' F' env',VI B G' H' σ env' F'->Same G G'->Q' b env'->Q b H')->tt σ H Q
def EvA (B:Bs) (ta:TA) (env:En) (Q':List PyData->En->Prop):Prop:=∀ (σ:St) (G H:Hp) (F:Nat->Addr->Prop) (Q:List V->Hp->Prop),VI B G H σ env F ->
 (∀ vs G' H' F' ds env',VI B G' H' σ env' F'->Same G G'->Rps G' vs ds->Q' ds env'->Q vs H')->ta σ H Q
structure ItOk (G:Hp) (J:It) (ds:List PyData):Prop where
 go:∀ i G' H',Same G G'->Same G' H'->i < ds.length->J.go i H'
 stop:∀ i G' H',Same G G'->Same G' H'->i=ds.length->J.stop i H'
 yld:∀ i G' H' x H'' d,Same G G'->Same G' H'->FT G' H'->ds[i]?=some d->J.yld i H' x H''->∃ G'',Out G' H' x G'' H'' (.st d) (fun _=>False)
def EvI (B:Bs) (ti:TI) (env:En) (Q':List PyData->En->Prop):Prop:=∀ (σ:St) (G H:Hp) (F:Nat->Addr->Prop) (R:It->Hp->Prop),VI B G H σ env F ->
 (∀ J G' H' F' ds env',VI B G' H' σ env' F'->Same G G'->ItOk G' J ds->Q' ds env'->R J H')->ti σ H R
def EvG (B:Bs) (g:TG) (s:Sl) (env:En) (Q':En->Prop):Prop:=∀ (σ:St) (G H:Hp) (F:Nat->Addr->Prop) (v:V) (Fv:Addr->Prop) (Q:St->Hp->Prop),VI B G H σ env F->RsX B G H v Fv s F ->
 (∀ σ' G' H' F' env',VI B G' H' σ' env' F'->Same G G'->Q' env'->Q σ' H')->g v σ H Q
def EvGs (B:Bs) (g:TGs) (ds:List PyData) (env:En) (Q':En->Prop):Prop:=∀ (σ:St) (G H:Hp) (F:Nat->Addr->Prop) (vs:List V) (Q:St->Hp->Prop),VI B G H σ env F->Rps G vs ds ->
 (∀ σ' G' H' F' env',VI B G' H' σ' env' F'->Same G G'->Q' env'->Q σ' H')->g vs σ H Q
structure VEnds where
 nx:En->Prop
 rt:Sl->En->Prop
 bk:En->Prop:=fun _=>False
 ct:En->Prop:=fun _=>False
structure RelE (B:Bs) (G:Hp) (D:Ends) (D':VEnds):Prop where
 nx:∀ σ G' H F env,VI B G' H σ env F->Same G G'->D'.nx env->D.nx σ H
 rt:∀ σ G' H F env v Fv s,VI B G' H σ env F->Same G G'->RsX B G' H v Fv s F->D'.rt s env->D.rt v H
 bk:∀ σ G' H F env,VI B G' H σ env F->Same G G'->D'.bk env->D.bk σ H
 ct:∀ σ G' H F env,VI B G' H σ env F->Same G G'->D'.ct env->D.ct σ H
def EvS (B:Bs) (ts:TS) (D':VEnds) (env:En):Prop:=∀ (σ:St) (G H:Hp) (F:Nat->Addr->Prop) (D:Ends),VI B G H σ env F->RelE B G D D'->ts D σ H
theorem RelE.later {B:Bs} {G G':Hp} {D:Ends} {D':VEnds} (r:RelE B G D D') (g:Same G G'):RelE B G' D D' :=
 ⟨fun σ a H F env I q=>r.nx σ a H F env I (g.trans q),fun σ a H F env v Fv s I q=>r.rt σ a H F env v Fv s I (g.trans q),fun σ a H F env I q=>r.bk σ a H F env I (g.trans q),fun σ a H F env I q=>r.ct σ a H F env I (g.trans q)⟩
section
variable {B:Bs} {env:En} {Q':PyData->En->Prop} {QO:Sl->En->Prop} {QT:Bool->En->Prop} {QA:List PyData->En->Prop} {te ta tb:TE}
theorem ad3 {G H:Hp} {v:V} {d:PyData} {F:Nat->Addr->Prop} (r:Rp G v d):RsX B G H v (fun _=>False) (.st d) F:=⟨⟨r,fun a z=>z⟩,fun a z=>z.elim,fun a z=>z.elim,fun a z=>z.elim,fun j a z=>z.elim⟩
theorem abg (h:Ev B te env fun d e=>QO (.st d) e):EvO B te env QO:=fun σ G H F Q I k =>
 h σ G H F Q I fun v G' H' c d a b g r q=>k v G' H' c _ (.st d) a b g (ad3 r) q
theorem abr (h:EvO B te env fun s e=>FQ s fun d=>Q' d e):Ev B te env Q':=fun σ G H F Q I k =>
 h σ G H F Q I fun v G' H' c Fv s a b g r q=>by
  cases s with
  | st d=>exact k v G' H' c d a b g r.ok.1 q
  | own A =>
   obtain ⟨d,f,q⟩:=q
   exact k v _ H' c d a (b.freeze r.fb r.fd r.fg) (g.trans (abm r.fg)) (f G' H' v Fv r.ok r.fg b.gh) q
  | io A=>exact q.elim
  | scr ns=>exact q.elim
theorem aw5 {i:Nat} {d:PyData} (e:env[i]?=some (some (.st d))) (q:Q' d env):Ev B (tVar i) env Q':=fun σ G H F Q I k=>by
 obtain ⟨v,a,r⟩:=I.sl i _ e
 exact ⟨v,a,k v G H F d env I (Same.refl _) r.1 q⟩
theorem aul {i:Nat} {A:Own} {d:PyData} (e:env[i]?=some (some (.own A))) (f:Frz A d) (q:Q' d (env.set i (some (.st d)))):Ev B (tVar i) env Q':=fun σ G H F Q I k=>by
 obtain ⟨v,a,r,g,J⟩:=I.frz e f
 exact ⟨v,a,k v _ H _ d _ J g r q⟩
theorem aru {i:Nat} {A:Own} (e:env[i]?=some (some (.own A))) (q:QO (.own A) (env.set i none)):EvO B (tVar i) env QO:=fun σ G H F Q I k=>by
 obtain ⟨v,b,r⟩:=I.sl i _ e
 refine ⟨v,b,k v G H _ (F i) (.own A) _ (I.drop i) (Same.refl _) ⟨r.1,r.2,I.fg i,I.fo i,fun j a z y=>?_⟩ q⟩
 by_cases h:j=i
 ·subst h;exact putF_same.mp y
 ·rw [aa9 h] at y;exact h (I.fd j i a y z)
theorem aw6 {i:Int} (q:Q' (.int i) env):Ev B (tC (.int i)) env Q':=fun σ G H F Q I k=>k _ G H F _ env I (Same.refl _) (.int i) q
theorem ayr {b:Bool} (q:Q' (.bool b) env):Ev B (tC (.bl b)) env Q':=fun σ G H F Q I k=>k _ G H F _ env I (Same.refl _) (.bl b) q
theorem aw7 (q:Q' .none env):Ev B (tC .non) env Q':=fun σ G H F Q I k=>k _ G H F _ env I (Same.refl _) .non q
def Op2 (r:R2) (x y:PyData) (R:Sl->Prop):Prop:=∀ (G H:Hp) (vx vy:V) (Q:VK),Same G H->Rp G vx x->Rp G vy y->(∀ v G' H' s Fv,Out G H v G' H' s Fv->R s->Q v H')->r vx vy H Q
def Op1 (r:V->Hp->VK->Prop) (x:PyData) (R:Sl->Prop):Prop:=∀ (G H:Hp) (vx:V) (Q:VK),Same G H->Rp G vx x->(∀ v G' H' s Fv,Out G H v G' H' s Fv->R s->Q v H')->r vx H Q
def OpA (r:List V->Hp->VK->Prop) (ds:List PyData) (R:Sl->Prop):Prop:=∀ (G H:Hp) (vs:List V) (Q:VK),Same G H->Rps G vs ds->(∀ v G' H' s Fv,Out G H v G' H' s Fv->R s->Q v H')->r vs H Q
theorem alb {r:R2} (h:Ev B ta env fun x d=>Ev B tb d fun y a=>Op2 r x y fun s=>QO s a):EvO B (tOp r ta tb) env QO:=fun σ G H F Q I k =>
 h σ G H F _ I fun g n q A x d u w C f=>f σ n q A _ u fun p m H2 F2 y a b c j z =>
  z m H2 g p Q b.gh (C.same c) j fun v i H3 s Fv o l=>k v i H3 F2 Fv s a (b.out o).1 (w.trans (c.trans o.gg)) (b.out o).2 l
theorem ays {r:R2} (h:Ev B ta env fun x b=>Ev B tb b fun y a=>Op2 r x y fun s=>FQ s fun d=>Q' d a):Ev B (tOp r ta tb) env Q':=abr (alb h)
theorem aw8 {r:V->Hp->VK->Prop} (h:Ev B ta env fun x b=>Op1 r x fun s=>QO s b):EvO B (tUn r ta) env QO:=fun σ G H F Q I k =>
 h σ G H F _ I fun d i j m x b a l n c=>c i j d Q a.gh n fun v f H3 s Fv o g=>k v f H3 m Fv s b (a.out o).1 (l.trans o.gg) (a.out o).2 g
theorem ayt {r:V->Hp->VK->Prop} (h:Ev B ta env fun x a=>Op1 r x fun s=>FQ s fun d=>Q' d a):Ev B (tUn r ta) env Q':=abr (aw8 h)
theorem aum (q:QA [] env):EvA B tNil env QA:=fun σ G H F Q I k=>k [] G H F [] env I (Same.refl _) .nil q
theorem arv {tr:TA} (h:Ev B ta env fun x c=>EvA B tr c fun xs a=>QA (x :: xs) a):EvA B (acn ta tr) env QA:=fun σ G H F Q I k =>
 h σ G H F _ I fun r i j o x c l m p d=>d σ i j o _ l fun vs g H2 F2 ds a q b f n=>k _ g H2 F2 _ a q (m.trans b) (.cons (p.same b) f) n
theorem apz {r:List V->Hp->VK->Prop} {t:TA} (h:EvA B t env fun ds b=>OpA r ds fun s=>QO s b):EvO B (tCB r t) env QO:=fun σ G H F Q I k =>
 h σ G H F _ I fun vs g i l ds b a j m c=>c g i vs Q a.gh m fun v d H3 s Fv o f=>k v d H3 l Fv s b (a.out o).1 (j.trans o.gg) (a.out o).2 f
theorem ayu {r:List V->Hp->VK->Prop} {t:TA} (h:EvA B t env fun ds a=>OpA r ds fun s=>FQ s fun d=>Q' d a):Ev B (tCB r t) env Q':=abr (apz h)
theorem am9 {t:TA} (h:EvA B t env fun ds b=>ds.length<=1000/\QO (.st (.tuple ds)) b):EvO B (tTup t) env QO:=fun σ G H F Q I k =>
 h σ G H F _ I fun vs j l i ds b a f d c=>⟨by rw [d.length];exact aE9 (ad8 c.1),fun p g=>by
  have o:=Out.newT a.gh g d
  exact k _ _ _ i _ _ b (a.out o).1 (f.trans o.gg) (a.out o).2 c.2⟩
theorem aw9 {t:TA} (h:EvA B t env fun ds a=>ds.length<=1000/\Q' (.tuple ds) a):Ev B (tTup t) env Q':=abr (am9 h)
theorem ana {t:TA} (h:EvA B t env fun ds b=>ds.length<=1000/\QO (.own (OL ds)) b):EvO B (tLst t) env QO:=fun σ G H F Q I k =>
 h σ G H F _ I fun vs j l i ds b a f d c=>⟨by rw [d.length];exact aE9 (ad8 c.1),fun p g=>by
  have o:=Out.newL a.gh g d
  exact k _ _ _ i _ _ b (a.out o).1 (f.trans o.gg) (a.out o).2 c.2⟩
theorem axa {t:TA} (h:EvA B t env fun ds a=>ds.length<=1000/\Q' (.list ds) a):Ev B (tLst t) env Q':=abr (ana fun σ G H F Q I k=>h σ G H F Q I fun vs G' H' c ds a b g r q=>k vs G' H' c ds a b g r ⟨q.1,ack q.2⟩)
theorem agw (h:Ev B te env fun x a=>∃ b,x=.bool b/\QT b a):EvT B (ati te) env QT:=fun σ G H F Q I k =>
 h σ G H F _ I fun v d f j x a g i l c=>by
  obtain ⟨b,e,q⟩:=c
  subst e
  cases l
  exact ⟨b,rfl,k b d f j a g i q⟩
theorem ayv (h:Ev B te env fun x a=>∃ b,x=.bool b/\QT b a):EvT B (tB te) env QT:=agw h
theorem x_bl {b:Bool} {R:Bool->Prop} (h:R b):∃ c,PyData.bool b=.bool c/\R c:=⟨b,rfl,h⟩
theorem aun {t u:TT} (h:EvT B t env fun c a=>if c=true then EvT B u a QT else QT false a):EvT B (tAnd t u) env QT:=fun σ G H F Q I k =>
 h σ G H F _ I fun b d f j a g i q=>by
  cases b with
  | true=>rw [aD9 rfl] at q ⊢;exact q σ d f j Q g fun c m H2 F2 n p l o=>k c m H2 F2 n p (i.trans l) o
  | false=>rw [aE0 aA0] at q ⊢;exact k false d f j a g i q
theorem axb {t u:TT} (h:EvT B t env fun c a=>if c=true then QT true a else EvT B u a QT):EvT B (tOr t u) env QT:=fun σ G H F Q I k =>
 h σ G H F _ I fun b d f j a g i q=>by
  cases b with
  | false=>rw [aE0 aA0] at q ⊢;exact q σ d f j Q g fun c m H2 F2 n p l o=>k c m H2 F2 n p (i.trans l) o
  | true=>rw [aD9 rfl] at q ⊢;exact k true d f j a g i q
theorem auo {t:TT} (h:EvT B t env fun c a=>QT (!c) a):EvT B (tNot t) env QT:=fun σ G H F Q I k =>
 h σ G H F _ I fun b j d i a f g q=>k (!b) j d i a f g q
theorem ads (q:QT true env):EvT B tYes env QT:=fun σ G H F Q I k=>k true G H F env I (Same.refl _) q
def TruD:PyData->Bool->Prop
 | .bool b,k=>k=b
 | .list ds,k=>k = !ds.isEmpty
 | _,_=>False
theorem aup {K:Frag} (h:Ev B te env fun x a=>∃ b,TruD x b/\QT b a):EvT B (tTru K te) env QT:=fun σ G H F Q I k =>
 h σ G H F _ I fun v f g j x a d i n l=>by
  obtain ⟨b,e,q⟩:=l
  cases n with
  | bl c=>cases e;exact ⟨_,rfl,k _ f g j a d i q⟩
  | lst ha rs =>
   refine ⟨b,.inl ⟨_,SqL.of (d.gh _ _ ha),?_⟩,k _ f g j a d i q⟩
   have m:b = !_:=e
   rw [m]
   cases rs <;> rfl
  | _=>exact e.elim
theorem auq (h:Ev B ta env fun x a=>∃ b,x=.bool b/\if b=true then Ev B tb a Q' else Q' (.bool false) a):Ev B (ant ta tb) env Q':=fun σ G H F Q I k =>
 h σ G H F _ I fun v c f j x a g i s p=>by
  obtain ⟨b,e,q⟩:=p
  subst e
  cases s
  refine ⟨b,rfl,?_⟩
  cases b with
  | true=>rw [aD9 rfl] at q ⊢;exact q σ c f j Q g fun v n H2 F2 d o u l m r=>k v n H2 F2 d o u (i.trans l) m r
  | false=>rw [aE0 aA0] at q ⊢;exact k _ c f j _ a g i (.bl false) q
theorem aur (h:Ev B ta env fun x a=>∃ b,x=.bool b/\Q' (.bool (!b)) a):Ev B (anu ta) env Q':=fun σ G H F Q I k =>
 h σ G H F _ I fun v d f j x a g i l c=>by
  obtain ⟨b,e,q⟩:=c
  subst e
  cases l
  exact ⟨b,rfl,k _ d f j _ a g i (.bl _) q⟩
theorem arw {r N:R2} {R:TE} (h:Ev B ta env fun x O=>Ev B tb O fun y g=>Op2 r x y fun s=>∃ b,s=.st (.bool b)/\if b=true then Ev B R g fun z Y=>Op2 N y z fun s'=>FQ s' fun d=>Q' d Y else Q' (.bool false) g):Ev B (akc r N ta tb R) env Q':=fun σ G H F Q I k =>
 h σ G H F _ I fun W G1 H1 F1 x O I1 K r1 U=>U σ G1 H1 F1 _ I1 fun E Z H2 F2 y g P i C q2 =>
  q2 Z H2 W E _ P.gh (r1.same i) C fun v w H3 s Fv o z_=>by
   obtain ⟨b,es,c⟩:=z_
   have S:=(P.out o).1
   have p:=o.ok
   subst es
   obtain ⟨p,_⟩:=p
   cases p
   refine ⟨b,rfl,?_⟩
   cases b with
   | false=>rw [aE0 aA0] at c ⊢;exact k _ w H3 F2 _ g S (K.trans (i.trans o.gg)) (.bl _) c
   | true =>
    rw [aD9 rfl] at c ⊢
    refine c σ w H3 F2 _ S fun v3 X H4 T z L D u r4 q4=>q4 X H4 E v3 Q D.gh (C.same (o.gg.trans u)) r4 fun l M m s5 j n a=>?_
    have J:=D.out n
    have gg:=K.trans (i.trans (o.gg.trans (u.trans n.gg)))
    cases s5 with
    | st d=>exact k l M m T d L J.1 gg n.ok.1 a
    | own A =>
     obtain ⟨d,f,q⟩:=a
     exact k l _ m T d L (J.1.freeze J.2.fb J.2.fd J.2.fg) (gg.trans (abm J.2.fg)) (f M m l j J.2.ok J.2.fg J.1.gh) q
    | io A=>exact a.elim
    | scr ns=>exact a.elim
end
section
variable {B:Bs} {env:En} {D':VEnds} {t u tb:TS} {te:TE} {g:TG} {c:TT} {QE:En->Prop}
theorem aus (h:EvS B t { D' with nx:=fun e=>EvS B u D' e } env):EvS B (tSeq t u) D' env:=fun σ G H F D I r =>
 h σ G H F { D with nx:=u D } I ⟨fun σ G' H F env a g q=>q σ G' H F D a (r.later g),r.rt,r.bk,r.ct⟩
theorem acy (h:D'.nx env):EvS B atc D' env:=fun σ G H F D I r=>r.nx σ G H F env I (Same.refl _) h
theorem aut (h:EvO B te env fun s e=>EvG B g s e D'.nx):EvS B (tAsg te g) D' env:=fun σ G H F D I r =>
 h σ G H F _ I fun v i j o Fv s u l m p b=>b σ i j o v Fv D.nx l p fun a d H2 F2 f q c n=>r.nx a d H2 F2 f q (m.trans c) n
theorem aau {i:Nat} {s:Sl} (h:QE (env.set i (some s))):EvG B (aa1 i) s env QE:=fun σ G H F v Fv Q I x k=>k _ G H _ _ (I.store x i) (Same.refl _) h
theorem agx (h:QE env):EvGs B gNil [] env QE:=fun σ G H F vs Q I x k=>by cases x;exact ⟨rfl,k σ G H F env I (Same.refl _) h⟩
theorem adj {f:TGs} {d:PyData} {ds:List PyData} (h:EvG B g (.st d) env fun e=>EvGs B f ds e QE):EvGs B (ac1 g f) (d :: ds) env QE:=fun σ G H F vs Q I x k=>by
 cases x with
 | cons r rs =>
  refine ⟨_,_,rfl,h σ G H F _ _ _ I (ad3 r) fun a n o s v p c i=>i a n o s _ Q p (rs.same c) fun b l H2 F2 m u j q=>k b l H2 F2 m u (c.trans j) q⟩
theorem anb {K:Frag} {n:Nat} {a:TGs} {ds:List PyData} (b:ds.length=n) (h:EvGs B a ds env QE):EvG B (gTup K n a) (.st (.tuple ds)) env QE:=fun σ G H F v Fv Q I x k=>by
 obtain ⟨r,_⟩:=x.ok
 cases r with
 | tup ha rs=>exact ⟨_,_,rfl,SqT.of (I.gh _ _ ha),by rw [rs.length,b],h σ G H F _ Q I rs k⟩
theorem anc (h:EvO B te env fun s e=>D'.rt s e):EvS B (tRet te) D' env:=fun σ G H F D I r =>
 h σ G H F _ I fun v b c i Fv s g d f j a=>r.rt σ b c i g v Fv s d f j a
theorem arx (h:EvO B te env fun _ e=>D'.nx e):EvS B (atd te) D' env:=fun σ G H F D I r =>
 h σ G H F _ I fun v b c i Fv s g d f j a=>r.nx σ b c i g d f a
theorem axc (h:EvT B c env fun b e=>if b=true then EvS B t D' e else EvS B u D' e):EvS B (tIfS c t u) D' env:=fun σ G H F D I r =>
 h σ G H F _ I fun b i a g j d f q=>by
  cases b with
  | true=>rw [aD9 rfl] at q ⊢;exact q σ i a g D d (r.later f)
  | false=>rw [aE0 aA0] at q ⊢;exact q σ i a g D d (r.later f)
def ForV (B:Bs) (g:TG) (tb:TS) (D':VEnds) (ds:List PyData) (e1:En):Prop:=∃ J:Nat->En->Prop,J 0 e1/\(∀ i d e,ds[i]?=some d->J i e->EvG B g (.st d) e fun e2=>EvS B tb { D' with nx:=J (i+1),ct:=J (i+1),bk:=D'.nx } e2)/\∀ e,J ds.length e->D'.nx e
theorem auu {N:TI} (h:EvI B N env fun ds E=>ForV B g tb D' ds E):EvS B (tFor N g tb) D' env:=fun σ G H F D I r =>
 h σ G H F _ I fun J A H1 F1 ds E Z C it Y=>by
  obtain ⟨K,j0,T,jd⟩:=Y
  refine ⟨fun i m σ H=>m=ds.length - i/\i<=ds.length/\∃ b F2 n,VI B b H σ n F2/\Same A b/\K i n,⟨ds.length,by simp,aE4 _,A,F1,E,Z,Same.refl _,j0⟩,?_⟩
  rintro i m σ H ⟨rfl,hi,b,F2,n,p,q,L⟩
  by_cases hlt:i < ds.length
  ·refine .inr ⟨it.go i b H q p.gh hlt,fun σ H=>∃ u S M,VI B u H σ M S/\Same A u/\K (i+1) M,fun P H' h'=>⟨ds.length - (i+1),by omega,rfl,hlt,h'⟩,fun x H' y=>?_⟩
   obtain ⟨u,o⟩:=it.yld i b H x H' _ q p.gh p.ft (az0 hlt) y
   have O:=p.out o
   refine T i _ n (az0 hlt) L σ u H' F2 x _ _ O.1 O.2 fun z R H4 F4 e4 W Q q4=>?_
   have gg:=q.trans (o.gg.trans Q)
   refine q4 z R H4 F4 _ W ⟨fun a d s j l c f v=>⟨d,j,l,c,gg.trans f,v⟩,fun a d s j l U w X c f=>r.rt a d s j l U w X c (C.trans (gg.trans f)),fun a d s j l c f=>r.nx a d s j l c (C.trans (gg.trans f)),fun a d s j l c f v=>⟨d,j,l,c,gg.trans f,v⟩⟩
  ·have e:i=ds.length:=by omega
   subst e
   exact .inl ⟨it.stop _ b H q p.gh rfl,r.nx σ b H F2 n p (C.trans q) (jd n L)⟩
theorem afo (J:Nat->En->Prop) (x:∃ m,J m env) (h:∀ m e,J m e->EvT B c e fun b C=>if b=true then EvS B tb { D' with nx:=fun f=>∃ d,d < m/\J d f,ct:=fun f=>∃ d,d < m/\J d f,bk:=D'.nx } C else D'.nx C):EvS B (ao1 c tb) D' env:=fun σ G H F D I r=>by
 obtain ⟨W,x⟩:=x
 refine ⟨fun m σ H=>∃ s F2 f,VI B s H σ f F2/\Same G s/\J m f,⟨W,G,F,env,I,Same.refl _,x⟩,?_⟩
 rintro m σ H ⟨s,F2,f,T,M,N⟩
 refine h m f N σ s H F2 _ T fun b A H3 z O E S q=>?_
 have gg:=M.trans S
 cases b with
 | false=>rw [aE0 aA0] at q ⊢;exact r.nx σ A H3 z O E gg q
 | true =>
  rw [aD9 rfl] at q ⊢
  refine ⟨fun σ H=>∃ p y u,VI B p H σ u y/\Same G p/\∃ d,d < m/\J d u,fun K H' ⟨p,y,u,Q,L,d,hm,U⟩=>⟨d,hm,p,y,u,Q,L,U⟩,?_⟩
  exact q σ A H3 z _ E ⟨fun a i o l n g j v=>⟨i,l,n,g,gg.trans j,v⟩,fun a i o l n P w R g j=>r.rt a i o l n P w R g (gg.trans j),fun a i o l n g j=>r.nx a i o l n g (gg.trans j),fun a i o l n g j v=>⟨i,l,n,g,gg.trans j,v⟩⟩
variable {QI:List PyData->En->Prop}
theorem ary {K:Frag} (h:Ev B te env fun d e=>∃ ds,d=.list ds/\QI ds e):EvI B (anx K te) env QI:=fun σ G H F R I k =>
 h σ G H F _ I fun v m n q d p b o r l=>by
  obtain ⟨ds,c,f⟩:=l
  subst c
  cases r with
  | @lst a vs ds ha rs =>
   refine ⟨a,rfl,⟨vs,SqL.of (b.gh _ _ ha)⟩,k _ m n q ds p b o ⟨fun i G' H' g h hi=>?_,fun i G' H' g h hi=>?_,fun i G' H' x H'' d g h ft hd y=>?_⟩ f⟩
   ·have:i < vs.length:=by rw [rs.length];exact hi
    exact ⟨vs,vs[i],SqL.of (h _ _ (g _ _ ha)),az0 this⟩
   ·exact ⟨vs,SqL.of (h _ _ (g _ _ ha)),by rw [rs.length];exact Nat.le_of_eq hi.symm⟩
   ·obtain ⟨e,y⟩:=y
    subst e
    obtain ⟨v,j,s⟩:=rs.get hd
    have:=y vs (SqL.of (h _ _ (g _ _ ha)))
    rw [j] at this
    cases this
    exact ⟨G',Out.refl h (s.same g)⟩
theorem axd {ds:List PyData} {R:List PyData->Prop} (h:R ds):∃ xs,PyData.list ds=.list xs/\R xs:=⟨ds,rfl,h⟩
def rngD (lo:Int) (n:Nat):List PyData:=(List.range n).map fun (i:Nat) => .int (lo+(i:Int))
theorem acd {lo:Int} {n:Nat}:(rngD lo n).length=n:=by simp [rngD]
theorem agy {lo:Int} {n i:Nat} {d:PyData} (h:(rngD lo n)[i]?=some d):i < n/\d=.int (lo+(i:Int)):=by
 unfold rngD at h
 rw [az5] at h
 have hi:i < n:=by
  have:=(az1 (l:=(List.range n).map fun (i:Nat)=>PyData.int (lo+(i:Int)))).mp (by rw [az5];exact h)
  obtain ⟨q,_⟩:=this
  simpa using q
 rw [az0 (by simpa using hi)] at h
 simp at h
 exact ⟨hi,h.symm⟩
theorem ap0 {G:Hp} {lo:Int} {n:Nat}:ItOk G (Itr lo n) (rngD lo n):=by
 refine ⟨fun i G' H' g h hi=>?_,fun i G' H' g h hi=>?_,fun i G' H' x H'' d g h ft hd y=>?_⟩
 ·rw [acd] at hi;exact hi
 ·rw [acd] at hi;exact Nat.le_of_eq hi.symm
 ·obtain ⟨e,y⟩:=y
  subst e y
  rw [(agy hd).2]
  exact ⟨G',Out.refl h (.int _)⟩
def aj7 (ds:List PyData) (R:List PyData->Prop):Prop:=∃ j:Int,ds=[.int j]/\-(2 ^ 62)<=j/\j < 2 ^ 62/\R (rngD 0 j.toNat)
def aj8 (ds:List PyData) (R:List PyData->Prop):Prop:=∃ i j:Int,ds=[.int i,.int j]/\(-(2 ^ 62)<=i/\i < 2 ^ 62/\-(2 ^ 62)<=j/\j < 2 ^ 62)/\R (rngD i (j - i).toNat)
theorem arz {a:TA} (h:EvA B a env fun ds e=>aj7 ds fun xs=>QI xs e):EvI B (ate a) env QI:=fun σ G H F R I k =>
 h σ G H F _ I fun vs f g o ds n i l p d=>by
  obtain ⟨j,b,m,q,c⟩:=d
  subst b
  obtain rfl:vs=[V.int j]:=Rps.ints_inv (ns:=[j]) p
  exact ⟨j,rfl,m,q,k _ f g o _ n i l ap0 c⟩
theorem ar0 {a:TA} (h:EvA B a env fun ds e=>aj8 ds fun xs=>QI xs e):EvI B (atf a) env QI:=fun σ G H F R I k =>
 h σ G H F _ I fun vs f g p ds o l m q d=>by
  obtain ⟨i,j,b,n,c⟩:=d
  subst b
  obtain rfl:vs=[V.int i,V.int j]:=Rps.ints_inv (ns:=[i,j]) q
  exact ⟨i,j,rfl,n,k _ f g p _ o l m ap0 c⟩
theorem axe {j:Int} {R:List PyData->Prop} (a : -4611686018427387904<=j) (b:j < 4611686018427387904) (h:R (rngD 0 j.toNat)):aj7 [.int j] R:=⟨j,rfl,by omega,by omega,h⟩
theorem axf {a b:Int} {R:List PyData->Prop} (c : -4611686018427387904<=a/\a < 4611686018427387904/\-4611686018427387904<=b/\b < 4611686018427387904) (h:R (rngD a (b - a).toNat)):aj8 [.int a,.int b] R:=⟨a,b,rfl,by omega,h⟩
theorem ab1 {lo:Int} {n:Nat} (J:Nat->En->Prop) (b:J 0 env) (hs:∀ i e,i < n->J i e->EvG B g (.st (.int (lo+(i:Int)))) e fun a=>EvS B tb { D' with nx:=J (i+1),ct:=J (i+1),bk:=D'.nx } a) (hd:∀ e,J n e->D'.nx e):ForV B g tb D' (rngD lo n) env :=
 ⟨J,b,fun i d e h j=>by obtain ⟨hi,rfl⟩:=agy h;exact hs i e hi j,fun e j=>hd e (by rw [acd] at j;exact j)⟩
theorem ach {α:Type} {f : α->PyData} {xs:List α} (J:Nat->En->Prop) (b:J 0 env) (hs:∀ i x e,xs[i]?=some x->J i e->EvG B g (.st (f x)) e fun a=>EvS B tb { D' with nx:=J (i+1),ct:=J (i+1),bk:=D'.nx } a) (hd:∀ e,J xs.length e->D'.nx e):ForV B g tb D' (xs.map f) env :=
 ⟨J,b,fun i d e h j=>by
  rw [az5] at h
  cases hx:xs[i]? with
  | none=>rw [hx] at h;cases h
  | some x=>rw [hx] at h;cases h;exact hs i x e hx j,fun e j=>hd e (by rw [az3] at j;exact j)⟩
end
theorem ar1 {B:Bs} {a b:TS} {D':VEnds} {env:En} (h:∀ c:TS,c=b->EvS B a { D' with nx:=fun e=>EvS B c D' e } env):EvS B (tSeq a b) D' env:=aus (h b rfl)
theorem auv {B:Bs} {c b:TS} {D':VEnds} {env:En} (e:c=b) (h:EvS B b D' env):EvS B c D' env:=by rw [e];exact h
@[elab_as_elim] theorem exS1 {c:Type} {σ:Type} {f : c->σ} {p : c->Prop} {a : σ->Prop} (s : σ) (h:∃ b,s=f b/\p b) (k:∀ b,p b->a (f b)):a s:=by
 obtain ⟨b,e,h⟩:=h
 rw [e];exact k _ h
@[elab_as_elim] theorem exS2 {g:Type} {d:Type} {σ:Type} {f : g->d->σ} {p : g->d->Prop} {a : σ->Prop} (s : σ) (h:∃ b c,s=f b c/\p b c) (k:∀ b c,p b c->a (f b c)):a s:=by
 obtain ⟨b,c,e,h⟩:=h
 rw [e];exact k _ _ h
@[elab_as_elim] theorem exS3 {i:Type} {g:Type} {j:Type} {σ:Type} {f : i->g->j->σ} {p : i->g->j->Prop} {a : σ->Prop} (s : σ) (h:∃ c d b,s=f c d b/\p c d b) (k:∀ c d b,p c d b->a (f c d b)):a s:=by
 obtain ⟨c,d,b,e,h⟩:=h
 rw [e];exact k _ _ _ h
@[elab_as_elim] theorem exS4 {l:Type} {j:Type} {m:Type} {i:Type} {σ:Type} {f : l->j->m->i->σ} {p : l->j->m->i->Prop} {a : σ->Prop} (s : σ) (h:∃ d g c b,s=f d g c b/\p d g c b) (k:∀ d g c b,p d g c b->a (f d g c b)):a s:=by
 obtain ⟨d,g,c,b,e,h⟩:=h
 rw [e];exact k _ _ _ _ h
@[elab_as_elim] theorem exS5 {n:Type} {m:Type} {o:Type} {l:Type} {j:Type} {σ:Type} {f : n->m->o->l->j->σ} {p : n->m->o->l->j->Prop} {a : σ->Prop} (s : σ) (h:∃ g i d c b,s=f g i d c b/\p g i d c b) (k:∀ g i d c b,p g i d c b->a (f g i d c b)):a s:=by
 obtain ⟨g,i,d,c,b,e,h⟩:=h
 rw [e];exact k _ _ _ _ _ h
@[elab_as_elim] theorem exE5 {n:Type} {m:Type} {o:Type} {l:Type} {j:Type} {σ:Type} {f : n->m->o->l->j->σ} {a : σ->Prop} (s : σ) (h:∃ g i d c b,s=f g i d c b) (k:∀ g i d c b,a (f g i d c b)):a s:=by
 obtain ⟨g,i,d,c,b,e⟩:=h
 rw [e];exact k _ _ _ _ _
@[elab_as_elim] theorem exS6 {o:Type} {l:Type} {m:Type} {n:Type} {r:Type} {q:Type} {σ:Type} {f : o->l->m->n->r->q->σ} {p : o->l->m->n->r->q->Prop} {a : σ->Prop} (s : σ) (h:∃ d i c b j g,s=f d i c b j g/\p d i c b j g) (k:∀ d i c b j g,p d i c b j g->a (f d i c b j g)):a s:=by
 obtain ⟨d,i,c,b,j,g,e,h⟩:=h
 rw [e];exact k _ _ _ _ _ _ h
@[elab_as_elim] theorem exS7 {q:Type} {m:Type} {n:Type} {o:Type} {v:Type} {r:Type} {u:Type} {σ:Type} {f : q->m->n->o->v->r->u->σ} {p : q->m->n->o->v->r->u->Prop} {a : σ->Prop} (s : σ) (h:∃ g j c b l i d,s=f g j c b l i d/\p g j c b l i d) (k:∀ g j c b l i d,p g j c b l i d->a (f g j c b l i d)):a s:=by
 obtain ⟨g,j,c,b,l,i,d,e,h⟩:=h
 rw [e];exact k _ _ _ _ _ _ _ h
@[elab_as_elim] theorem exE9 {u:Type} {p:Type} {q:Type} {r:Type} {y:Type} {v:Type} {w:Type} {o:Type} {x:Type} {σ:Type} {f : u->p->q->r->y->v->w->o->x->σ} {a : σ->Prop} (s : σ) (h:∃ g j c b l i d m n,s=f g j c b l i d m n) (k:∀ g j c b l i d m n,a (f g j c b l i d m n)):a s:=by
 obtain ⟨g,j,c,b,l,i,d,m,n,e⟩:=h
 rw [e];exact k _ _ _ _ _ _ _ _ _
theorem big {n:Nat} (h:n<=1000000):n < sizeLine:=aC8 h (by decide)
section
variable {B B1:Bs} {G H G' H':Hp} {σ σI:St} {env envI:En} {F F':Nat->Addr->Prop} {v:V} {s:Sl} {Fv:Addr->Prop} {inv:Nat->Option Nat}
open Classical in
def ado (H:Hp) (F:Nat->Addr->Prop) (inv:Nat->Option Nat):Hp:=fun a=>if ∃ i j,inv i=some j/\F i a then none else H a
theorem aog {i j:Nat} {a:Addr} (h:inv i=some j) (f:F i a):ado H F inv a=none:=aD9 ⟨i,j,h,f⟩
theorem alc {a:Addr} (h:∀ i j,inv i=some j->¬ F i a):ado H F inv a=H a:=aE0 fun ⟨i,j,x,y⟩=>h i j x y
theorem ahj:Same (ado H F inv) H:=fun a o e=>by
 unfold ado at e
 split at e
 ·cases e
 ·exact e
theorem VI.enter (I:VI B G H σ env F) (inj:∀ i b j,inv i=some j->inv b=some j->i=b) (ln : σI.length=envI.length)
  (sl:∀ j s,envI[j]?=some (some s)->∃ v,σI[j]?=some (some v)/\((∃ d,s=.st d/\Rp G v d/\∀ i,inv i ≠ some j)\/(∃ ns a,s=.scr ns/\v=.ref a/\SqL B.K G a (ns.map V.int)/\∀ i,inv i ≠ some j) ∨
   ∃ i A,inv i=some j/\s=.io A/\σ[i]?=some (some v)/\(env[i]?=some (some (.own A))\/env[i]?=some (some (.io A))))) :
  VI ⟨B.K,G,H,ado H F inv,σI,fun j a=>∃ i,inv i=some j/\F i a⟩ G H σI envI (fun j a=>∃ i,inv i=some j/\F i a) where
 gh:=I.gh
 g0:=Same.refl _
 gn:=fun a o e => .inl e
 rs:=ahj
 rb:=ahj
 bh:=fun a o e=>⟨o,e⟩
 fg:=fun j a ⟨i,_,z⟩=>I.fg i a z
 fr:=fun j a ⟨i,h,z⟩=>aog h z
 fd:=fun j k a ⟨i,h,z⟩ ⟨b,h',p⟩=>by
  have:=I.fd i b a z p
  subst this
  rw [h] at h';cases h';rfl
 fo:=fun j a ⟨i,h,z⟩=>I.fo i a z
 sl:=fun j s e=>by
  obtain ⟨v,l,q⟩:=sl j s e
  refine ⟨v,l,?_⟩
  rcases q with ⟨d,rfl,r,n⟩ | ⟨ns,a,rfl,rfl,q,n⟩ | ⟨i,A,hi,rfl,hs,c⟩
  ·exact ⟨r,fun a ⟨i,h,_⟩=>n i h⟩
  ·exact ⟨⟨a,rfl,q⟩,fun a ⟨i,h,_⟩=>n i h⟩
  ·refine ⟨?_,fun a z => .inl z,l⟩
   have u:(fun a=>∃ b,inv b=some j/\F b a)=F i:=by
    funext a
    exact propext ⟨fun ⟨b,h,z⟩=>by rw [inj i b j hi h];exact z,fun z=>⟨i,hi,z⟩⟩
   show A.P G H v (fun a=>∃ b,inv b=some j/\F b a)
   rw [u]
   rcases c with c | c
   ·obtain ⟨m,f,g⟩:=I.sl i _ c
    rw [hs] at f;cases f;exact g.1
   ·obtain ⟨m,f,g⟩:=I.sl i _ c
    rw [hs] at f;cases f;exact g.1
 ln:=ln
 ft:=I.ft
theorem VI.leave (I:VI B G H σ env F) (inj:∀ i r j,inv i=some j->inv r=some j->i=r) (u:B1.G=G) (m:B1.H=H) (L:∀ a o,H a=some o->(∀ i j,inv i=some j->¬ F i a)->B1.R a=some o)
  (N:∀ i j,inv i=some j->∀ a,B1.F j a->F i a) (M:∀ i j,inv i=some j->B1.S[j]? = σ[i]?) (J:VI B1 G' H' σI envI F') (io:∀ i j,inv i=some j->∃ A',envI[j]?=some (some (.io A'))) {env2:En} (D:env2.length=env.length)
  (K:∀ i s,env2[i]?=some (some s)->(inv i=none/\env[i]?=some (some s))\/∃ j A A',inv i=some j/\envI[j]?=some (some (.io A'))/\((env[i]?=some (some (.own A))/\s=.own A')\/(env[i]?=some (some (.io A))/\s=.io A'))) :
  VI B G' H' σ env2 (fun i a=>match inv i with | some j=>F' j a | none=>F i a):=by
 have f:∀ a o,G' a=some o->G a=some o\/H a=none:=fun a o e=>by
  have:=J.gn a o e
  rw [u,m] at this;exact this
 have c:∀ i j a,inv i=some j->F' j a->F i a\/H a=none:=fun i j a hi z=>by
  obtain ⟨A',e⟩:=io i j hi
  obtain ⟨v,_,q⟩:=J.sl j _ e
  rcases q.2.1 a z with y | y
  ·exact .inl (N i j hi a y)
  ·rw [m] at y;exact .inr y
 have kp:∀ a o,H a=some o->(∀ i j,inv i=some j->¬ F i a)->H' a=some o:=fun a o e n=>J.rs a o (L a o e n)
 refine ⟨J.gh,I.g0.trans (u ▸ J.g0),fun a o e=>?_,fun a o e=>?_,I.rb,fun a o e=>?_,fun i a z=>?_,fun i a z=>?_,fun i k a y z=>?_,fun i a z=>?_,fun i t e=>?_,by rw [D];exact I.ln,J.ft⟩
 ·rcases f a o e with e | e
  ·exact I.gn a o e
  ·exact .inr (I.no_b e)
 ·refine kp a o (I.rs a o e) fun i j _ z=>?_
  rw [I.fr i a z] at e;cases e
 ·obtain ⟨O,g⟩:=I.bh a o e
  exact J.bh a O (by rw [m];exact g)
 ·cases hi:inv i with
  | some j=>rw [hi] at z;exact J.fg j a z
  | none =>
   rw [hi] at z
   cases e:G' a with
   | none=>rfl
   | some o =>
    rcases f a o e with e | e
    ·rw [I.fg i a z] at e;cases e
    ·exact absurd z (I.no_f e i)
 ·cases hi:inv i with
  | some j =>
   rw [hi] at z
   rcases c i j a hi z with y | y
   ·exact I.fr i a y
   ·exact I.no_r y
  | none=>rw [hi] at z;exact I.fr i a z
 ·cases hi:inv i with
  | some j =>
   rw [hi] at y
   cases hk:inv k with
   | some l =>
    rw [hk] at z
    have:=J.fd j l a y z
    subst this
    exact inj i k j hi hk
   | none =>
    rw [hk] at z
    rcases c i j a hi y with x | x
    ·exact I.fd i k a x z
    ·exact absurd z (I.no_f x k)
  | none =>
   rw [hi] at y
   cases hk:inv k with
   | some l =>
    rw [hk] at z
    rcases c k l a hk z with x | x
    ·exact I.fd i k a y x
    ·exact absurd y (I.no_f x i)
   | none=>rw [hk] at z;exact I.fd i k a y z
 ·cases hi:inv i with
  | some j=>rw [hi] at z;exact J.fo j a z
  | none =>
   rw [hi] at z
   obtain ⟨o,e⟩:=I.fo i a z
   exact J.bh a o (by rw [m];exact e)
 ·rcases K i t e with ⟨hi,g⟩ | ⟨j,A,A',hi,g,d⟩
  ·obtain ⟨v,w,q⟩:=I.sl i t g
   refine ⟨v,w,?_⟩
   simp only [hi]
   refine q.mono (u ▸ J.g0) fun a o z y=>kp a o y fun r Q h P=>?_
   have:=I.fd i r a z P
   subst this
   rw [hi] at h;cases h
  ·obtain ⟨v,w,q⟩:=J.sl j _ g
   have C : σ[i]?=some (some v):=by rw [← M i j hi];exact q.2.2
   refine ⟨v,C,?_⟩
   simp only [hi]
   rcases d with ⟨d,rfl⟩ | ⟨d,rfl⟩
   ·obtain ⟨E,_,p⟩:=I.sl i _ d
    refine ⟨q.1,fun a z=>?_⟩
    rcases c i j a hi z with y | y
    ·exact p.2 a y
    ·exact I.no_b y
   ·obtain ⟨E,b,p⟩:=I.sl i _ d
    rw [C] at b;cases b
    refine ⟨q.1,fun a z=>?_,p.2.2⟩
    rcases c i j a hi z with y | y
    ·exact p.2.1 a y
    ·exact .inr (I.no_b y)
end
abbrev VP:=List Sl->(Sl->Prop)->Prop
def noF:Nat->Addr->Prop:=fun _ _=>False
def bsP (K:Frag) (G H:Hp) (vs:List V):Bs:=⟨K,G,H,H,vs.map some,noF⟩
def atq (K:Frag) (G:Hp):V->Sl->Prop
 | v,.st d=>Rp G v d
 | v,.scr ns=>∃ a,v=.ref a/\SqL K G a (ns.map V.int)
 | _,_=>False
inductive ArgsOk (K:Frag) (G:Hp):List V->List Sl->Prop
 | nil:ArgsOk K G [] []
 | cons {v:V} {s:Sl} {vs:List V} {ss:List Sl}:atq K G v s->ArgsOk K G vs ss->ArgsOk K G (v :: vs) (s :: ss)
theorem ArgsOk.length {K:Frag} {G:Hp}:∀ {vs:List V} {ss:List Sl},ArgsOk K G vs ss->vs.length=ss.length
 | _,_,.nil=>rfl
 | _,_,.cons _ t=>by simp [ArgsOk.length t]
theorem ArgsOk.get {K:Frag} {G:Hp}:∀ {vs:List V} {ss:List Sl} {i:Nat} {s:Sl},ArgsOk K G vs ss->ss[i]?=some s->∃ v,vs[i]?=some v/\atq K G v s
 | _,_,_,_,.nil,e=>by simp at e
 | _,_,0,_,.cons r _,e=>by simp at e;subst e;exact ⟨_,rfl,r⟩
 | _,_,i+1,s,.cons _ t,e=>by
  obtain ⟨u,a,b⟩:=ArgsOk.get (i:=i) (s:=s) t (by simpa using e)
  exact ⟨u,by simpa using a,b⟩
theorem ArgsOk.of {K:Frag} {G:Hp}:∀ {vs:List V} {ds:List PyData},Rps G vs ds->ArgsOk K G vs (ds.map Sl.st)
 | _,_,.nil => .nil
 | _,_,.cons r t => .cons r (ArgsOk.of t)
theorem auw {α:Type} {xs:List α} {n i:Nat} {s : α} (e:(xs.map some ++ List.replicate n none)[i]?=some (some s)):xs[i]?=some s:=by
 by_cases h:i < xs.length
 ·rw [aB3 (by simpa using h),az5] at e
  rw [az0 h] at e ⊢
  simpa using e
 ·rw [aB8 (by simpa using h),aG1] at e
  split at e <;> cases e
theorem aux {α:Type} {xs:List α} {n i:Nat} {s : α} (e:xs[i]?=some s):(xs.map some ++ List.replicate n none)[i]?=some (some s):=by
 have h:i < xs.length:=(az1.mp e).1
 rw [aB3 (by simpa using h),az5,e];rfl
def spP (K:Frag) (f:VP):Sp:=fun vs H Q _=>∃ G ss Q',Same G H/\FT G H/\ArgsOk K G vs ss/\f ss Q'/\∀ s,Q' s->∀ v G' H' Fv,Out G H v G' H' s Fv->Q v H'
theorem abd {K:Frag} {f:VP} {c:TS} {N:List Str} {vs:List V} {H:Hp} {Q:VK} {E:XK} (h:spP K f vs H Q E)
  (hb:∀ ss b,f ss b->∀ B,B.K=K->EvS B c { nx:=fun _=>b (.st .none),rt:=fun s _=>b s } (ss.map some ++ List.replicate (N.length - ss.length) none)):c { nx:=fun _ H'=>Q .non H',rt:=Q } (L2.start N vs) H:=by
 obtain ⟨G,ss,b,gh,ft,m,hf,l⟩:=h
 have fin:∀ {σ G' H' F env v Fv s},VI (bsP K G H vs) G' H' σ env F->RsX (bsP K G H vs) G' H' v Fv s F->Out G H v G' H' s Fv:=fun I r =>
  ⟨I.g0,I.gh,I.rs,I.gn,r.fb,r.fg,r.fo,r.ok,fun _=>I.ft⟩
 refine hb ss _ hf (bsP K G H vs) rfl (L2.start N vs) G H noF _ ?_ ⟨fun σ G' H' F env I g q=>l _ q _ _ _ _ (fin I (ad3 .non)),fun σ G' H' F env v Fv s I g r q=>l _ q v G' H' Fv (fin I r),fun _ _ _ _ _ _ _ q=>q,fun _ _ _ _ _ _ _ q=>q⟩
 refine ⟨gh,Same.refl _,fun a o e => .inl e,Same.refl _,Same.refl _,fun a o e=>⟨o,e⟩,fun i a z=>z.elim,fun i a z=>z.elim,fun i j a z=>z.elim,fun i a z=>z.elim,fun i s e=>?_,?_,ft⟩
 ·obtain ⟨v,n,q⟩:=m.get (auw e)
  refine ⟨v,by unfold L2.start;exact aux n,?_⟩
  cases s with
  | st d=>exact ⟨q,fun a z=>z⟩
  | scr ns=>exact ⟨q,fun a z=>z⟩
  | own A=>exact q.elim
  | io A=>exact q.elim
 ·unfold L2.start;simp [m.length]
section
variable {B:Bs} {env:En} {Q':PyData->En->Prop} {QO:Sl->En->Prop} {K:Frag} {E:XK}
theorem aiz {f:VP} {t:TA} (h:EvA B t env fun ds b=>f (ds.map Sl.st) fun s=>QO s b):EvO B (aey (spP K f) [] E t) env QO:=fun σ G H F Q I k=>by
 unfold aey
 simp only [aD4]
 exact h σ G H F _ I fun vs d l i ds b a g j c=>⟨d,_,_,a.gh,a.ft,ArgsOk.of j,c,fun s q v G' H' Fv o=>k v G' H' i Fv s b (a.out o).1 (g.trans o.gg) (a.out o).2 q⟩
theorem ar2 {f:VP} {t:TA} (h:EvA B t env fun ds a=>f (ds.map Sl.st) fun s=>FQ s fun d=>Q' d a):Ev B (aey (spP K f) [] E t) env Q':=abr (aiz h)
theorem ap1 {f:VP} {t:TA} {i:Nat} {ns:List Int} (e:env[i]?=some (some (.scr ns))) (n:B.K=K) (h:EvA B t env fun ds c=>f (.scr ns :: ds.map Sl.st) fun s=>QO s c):EvO B (aey (spP K f) [] E (acn (tVar i) t)) env QO:=fun σ G H F Q I k=>by
 subst n
 unfold aey
 simp only [aD4]
 obtain ⟨m,l,⟨a,g,w⟩,_⟩:=I.sl i _ e
 refine ⟨m,l,h σ G H F _ I fun vs p x r ds c b d u j=>⟨p,_,_,b.gh,b.ft,.cons (s:=.scr ns) ⟨a,g,d.seq w⟩ (ArgsOk.of u),j,fun s q v G' H' Fv o=>k v G' H' r Fv s c (b.out o).1 (d.trans o.gg) (b.out o).2 q⟩⟩
def reS:Sl->Own->Sl
 | .io _,A => .io A
 | _,A => .own A
end
def ahk:Option Sl->Option Sl
 | some (.own A)=>some (.io A)
 | s=>s
def aah (src:List (Option Nat)) (env:En):En:=src.map fun o=>match o with | some j=>ahk ((env[j]?).getD none) | none=>none
def isIo:Option Sl->Bool
 | some (.io _)=>true
 | _=>false
def idxE (i:Nat):List (Option Nat)->Nat->Option Nat
 | [],_=>none
 | o :: r,k=>if o=some i then some k else idxE i r (k+1)
def aga (src:List (Option Nat)) (e:En) (i:Nat) (s:Option Sl):Option Sl :=
 match s with
 | some (.own A)=>(match idxE i src 0 with | some j=>(match e[j]? with | some (some (.io A'))=>some (.own A') | _=>none) | none=>some (.own A))
 | some (.io A)=>(match idxE i src 0 with | some j=>(match e[j]? with | some (some (.io A'))=>some (.io A') | _=>none) | none=>some (.io A))
 | s=>s
def aeu (src:List (Option Nat)) (e:En):Nat->En->En
 | _,[]=>[]
 | k,s :: r=>aga src e k s :: aeu src e (k+1) r
def ahl (src:List (Option Nat)) (e1 e:En):En:=aeu src e 0 e1
theorem ae5 (src:List (Option Nat)) (e:En):∀ (k:Nat) (l:En) (i:Nat),(aeu src e k l)[i]?=(l[i]?).map (aga src e (k+i))
 | _,[],i=>by simp [aeu]
 | k,s :: r,0=>by simp [aeu]
 | k,s :: r,i+1=>by
  have:=ae5 src e (k+1) r i
  simp only [aeu,List.getElem?_cons_succ,this]
  rw [show k+1+i=k+(i+1) by omega]
theorem aec {i:Nat}:∀ {src:List (Option Nat)} {k j:Nat},idxE i src k=some j->k<=j/\src[j - k]?=some (some i)
 | [],_,_,h=>by cases h
 | o :: r,k,j,h=>by
  unfold idxE at h
  by_cases e:o=some i
  ·rw [aD9 e] at h;cases h
   exact ⟨az6 _,by simp [e]⟩
  ·rw [aE0 e] at h
   obtain ⟨b,a⟩:=aec h
   refine ⟨by omega,?_⟩
   rw [show j - k=(j - (k+1))+1 by omega]
   simpa using a
theorem ai0 {i:Nat}:∀ {src:List (Option Nat)} {k:Nat},idxE i src k=none->∀ j:Nat,src[j]? ≠ some (some i)
 | [],_,_,j=>by simp
 | o :: r,k,h,j=>by
  unfold idxE at h
  by_cases e:o=some i
  ·rw [aD9 e] at h;cases h
  ·rw [aE0 e] at h
   cases j with
   | zero=>simpa using e
   | succ j=>simpa using ai0 h j
theorem ald:∀ (src:List (Option Nat)),(src.filterMap id).Nodup->∀ j a i:Nat,src[j]?=some (some i)->src[a]?=some (some i)->j=a
 | [],_,j,_,_,h,_=>by simp at h
 | none :: r,h,j,a,i,h1,h2=>by
  cases j with
  | zero=>simp at h1
  | succ j =>
   cases a with
   | zero=>simp at h2
   | succ a=>rw [ald r (by simpa using h) j a i (by simpa using h1) (by simpa using h2)]
 | some x :: r,h,j,a,i,h1,h2=>by
  have h':=aG8.mp (show (x :: r.filterMap id).Nodup by simpa using h)
  have c:∀ k,r[k]?=some (some x)->False:=fun k d=>h'.1 (List.mem_filterMap.mpr ⟨some x,az2 d,rfl⟩)
  cases j with
  | zero =>
   have b:x=i:=by simpa using h1
   subst b
   cases a with
   | zero=>rfl
   | succ a=>exact (c a (by simpa using h2)).elim
  | succ j =>
   cases a with
   | zero =>
    have b:x=i:=by simpa using h2
    subst b
    exact (c j (by simpa using h1)).elim
   | succ a=>rw [ald r h'.2 j a i (by simpa using h1) (by simpa using h2)]
def agb:Option Sl->Bool
 | some (.own _)=>true
 | _=>false
def ioLe:En->En->Prop
 | a :: r,b :: s=>(isIo a=isIo b/\agb b=false)/\ioLe r s
 | [],[]=>True
 | _,_=>False
theorem ale {x:Option Sl} (h:isIo x=true):∃ A,x=some (.io A):=by
 cases x with
 | none=>simp [isIo] at h
 | some y =>
  cases y with
  | io A=>exact ⟨A,rfl⟩
  | _=>simp [isIo] at h
theorem ioLe.get:∀ {a b:En} {j:Nat} {x:Option Sl},ioLe a b->a[j]?=some x->isIo x=true->∃ A,b[j]?=some (some (.io A))
 | [],_,_,_,_,e,_=>by simp at e
 | x :: r,[],_,_,h,_,_=>h.elim
 | x :: r,y :: s,0,z,h,e,p=>by
  simp at e;subst e
  have:=h.1.1
  rw [p] at this
  obtain ⟨A,q⟩:=ale this.symm
  exact ⟨A,by simp [q]⟩
 | x :: r,y :: s,j+1,z,h,e,p=>by
  obtain ⟨A,q⟩:=ioLe.get (j:=j) h.2 (by simpa using e) p
  exact ⟨A,by simpa using q⟩
theorem ioLe.got:∀ {a b:En} {j:Nat} {x:Option Sl},ioLe a b->b[j]?=some x->(isIo x=true->∃ A,a[j]?=some (some (.io A)))/\agb x=false
 | [],[],_,_,_,e=>by simp at e
 | [],_ :: _,_,_,h,e=>h.elim
 | x :: r,[],_,_,h,_=>h.elim
 | x :: r,y :: s,0,z,h,e=>by
  simp at e;subst e
  refine ⟨fun p=>?_,h.1.2⟩
  have:=h.1.1
  rw [p] at this
  obtain ⟨A,q⟩:=ale this
  exact ⟨A,by simp [q]⟩
 | x :: r,y :: s,j+1,z,h,e=>by
  obtain ⟨p,q⟩:=ioLe.got (j:=j) (x:=z) h.2 (by simpa using e)
  exact ⟨fun t=>by obtain ⟨A,u⟩:=p t;exact ⟨A,by simpa using u⟩,q⟩
section
variable {B:Bs} {G H:Hp} {σ:St} {env:En} {F:Nat->Addr->Prop}
theorem VI.aside (I:VI B G H σ env F) {p:Addr} {o:HO} (d:∀ xs,o ≠ .tup xs) (f:G p=none) (hf:∀ j,¬ F j p) (hb:B.H p=none):VI B G (upd H p o) σ env F where
 gh:=fun a u e=>by rw [aag (aat e f)];exact I.gh a u e
 g0:=I.g0
 gn:=I.gn
 rs:=fun a u e=>by rw [aag (aat e (I.b_r hb))];exact I.rs a u e
 rb:=I.rb
 bh:=fun a u e=>by rw [aag (aat e hb)];exact I.bh a u e
 fg:=I.fg
 fr:=I.fr
 fd:=I.fd
 fo:=fun j a z=>by rw [aag (fun e:a=p=>hf j (e ▸ z))];exact I.fo j a z
 sl:=fun i s e=>by
  obtain ⟨v,c,q⟩:=I.sl i s e
  exact ⟨v,c,q.mono (Same.refl _) fun a u z y=>by rw [aag (fun e:a=p=>hf i (e ▸ z))];exact y⟩
 ln:=I.ln
 ft:=fun a b e=>by
  by_cases z:a=p
  ·subst z;rw [aak] at e;exact absurd (aB6 e) (d _)
  ·rw [aag z] at e;exact I.ft a b e
def LcV (K:Frag) (src:List (Option Nat)) (g:TG) (tif:TT) (te:TE) (ds:List PyData) (e1:En) (R:List PyData->En->Prop):Prop:=∃ J:Nat->List PyData->En->Prop,J 0 [] (aah src e1)/\(∀ i ys e,J i ys e->ioLe (aah src e1) e) /\
 (∀ i d ys e,ds[i]?=some d->J i ys e->∀ B':Bs,B'.K=K->EvG B' g (.st d) e fun e2=>EvT B' tif e2 fun b e3=>if b=true then Ev B' te e3 fun y e4=>ys.length<=999999/\J (i+1) (ys ++ [y]) e4 else J (i+1) ys e3)/\∀ ys e,J ds.length ys e->R ys (ahl src e1 e)
theorem afp {src:List (Option Nat)} {j:Nat} {s:Sl} (h:(aah src env)[j]?=some (some s)):∃ i t,src[j]?=some (some i)/\env[i]?=some (some t)/\ahk (some t)=some s:=by
 unfold aah at h
 rw [az5] at h
 cases e:src[j]? with
 | none=>rw [e] at h;cases h
 | some o =>
  rw [e] at h
  cases o with
  | none=>cases h
  | some i =>
   simp only [aG5,Option.some.injEq] at h
   cases e2:env[i]? with
   | none=>rw [e2] at h;cases h
   | some o2 =>
    rw [e2] at h
    cases o2 with
    | none=>cases h
    | some t=>exact ⟨i,t,rfl,e2,h⟩
theorem alf {src:List (Option Nat)} {i j:Nat} {v:V} (h:src[j]?=some (some i)) (a : σ[i]?=some (some v)):(pick src σ)[j]?=some (some v):=by
 unfold pick
 rw [az5,h]
 simp [a]
theorem ap2 {src:List (Option Nat)} {wi:TI} {g:TG} {b3:TT} {te:TE} {QO:Sl->En->Prop} (nd:(src.filterMap id).Nodup) (h:EvI B wi env fun ds W=>LcV B.K src g b3 te ds W fun ys U=>QO (.own (OL ys)) U):EvO B (tLC src wi g b3 te) env QO:=fun σ G H F Q I k=>by
 refine h σ G H F _ I fun J G1 H1 F1 ds W I1 g1 it ⟨Jv,j0,a7,js,jd⟩ p S=>?_
 let M:Nat->Bool:=fun i=>match W[i]? with | some (some (.own _))=>true | some (some (.io _))=>true | _=>false
 let inv:Nat->Option Nat:=fun i=>if M i=true then idxE i src 0 else none
 have E:∀ i j,inv i=some j->src[j]?=some (some i)/\M i=true:=fun i j hi=>by
  by_cases hm:M i=true
  ·have f:idxE i src 0=some j:=by simpa [inv,hm] using hi
   have:=(aec f).2
   exact ⟨by simpa using this,hm⟩
  ·simp [inv,hm] at hi
 have Z:∀ i j,src[j]?=some (some i)->M i=true->inv i=some j:=fun i j hs hm=>by
  have e0:inv i=idxE i src 0:=by simp [inv,hm]
  cases e:idxE i src 0 with
  | none=>exact absurd hs (ai0 e j)
  | some j' =>
   have:=(aec e).2
   rw [e0,e,ald src nd j j' i hs (by simpa using this)]
 have inj:∀ i c j,inv i=some j->inv c=some j->i=c:=fun i c j Y C=>by
  have a:=(E i j Y).1
  rw [(E c j C).1] at a
  simpa using a.symm
 have b1:∀ i,M i=true->∃ A,W[i]?=some (some (.own A))\/W[i]?=some (some (.io A)):=fun i hm=>by
  cases e:W[i]? with
  | none=>simp [M,e] at hm
  | some o =>
   cases o with
   | none=>simp [M,e] at hm
   | some s =>
    cases s with
    | own A=>exact ⟨A,.inl rfl⟩
    | io A=>exact ⟨A,.inr rfl⟩
    | st d=>simp [M,e] at hm
    | scr ns=>simp [M,e] at hm
 have b2:∀ i ys e,Jv i ys e->∀ c j,inv c=some j->∃ A,e[j]?=some (some (.io A)):=fun i ys e hj c j hi=>by
  obtain ⟨hs,hm⟩:=E c j hi
  obtain ⟨A,N⟩:=b1 c hm
  refine (a7 i ys e hj).get (x:=some (.io A)) ?_ rfl
  unfold aah
  rw [az5,hs]
  rcases N with N | N <;> simp [N,ahk]
 -- between two turns
 let Wv:Nat->List V->St->Hp->Prop:=fun i ys σI H=>∃ G2 F2 e env2 yd,VI B G2 H σ env2 F2/\Same G1 G2/\H p=some (.lst ys)/\Rps G2 ys yd/\G2 p=none/\(∀ j,¬ F2 j p)/\Jv i yd e/\σI.length=e.length/\env2.length=W.length /\
  (∀ j s,e[j]?=some (some s)->∃ v,σI[j]?=some (some v)/\((∃ d,s=.st d/\Rp G2 v d/\∀ i,inv i ≠ some j)\/(∃ ns a,s=.scr ns/\v=.ref a/\SqL B.K G2 a (ns.map V.int)/\∀ i,inv i ≠ some j) ∨
   ∃ i A,inv i=some j/\s=.io A/\σ[i]?=some (some v)/\(env2[i]?=some (some (.own A))\/env2[i]?=some (some (.io A))))) /\
  (∀ i,inv i=none->env2[i]?=W[i]?)/\(∀ i j,inv i=some j->∃ A0 A,e[j]?=some (some (.io A))/\((W[i]?=some (some (.own A0))/\env2[i]?=some (some (.own A)))\/(W[i]?=some (some (.io A0))/\env2[i]?=some (some (.io A)))))
 have hb:B.H p=none:=I1.no_b S
 refine ⟨fun i m ys σI H=>m=ds.length - i/\i<=ds.length/\Wv i ys σI H,⟨ds.length,by simp,aE4 _,?_⟩,?_⟩
 ·refine ⟨G1,F1,aah src W,W,[],I1.aside (fun _ z=>nomatch z) (I1.no_g S) (I1.no_f S) hb,Same.refl _,aak,.nil,I1.no_g S,I1.no_f S,j0,by simp [pick,aah],rfl,fun j s e=>?_,fun _ _=>rfl,fun i j hi=>?_⟩
  ·obtain ⟨i,t,hs,ht,hp⟩:=afp e
   obtain ⟨v,hv,q⟩:=I1.sl i t ht
   refine ⟨v,alf hs hv,?_⟩
   cases t with
   | st d =>
    cases hp
    refine .inl ⟨d,rfl,q.1,fun c f=>?_⟩
    have a:=(E c j f).1
    rw [hs] at a
    have:i=c:=by simpa using a
    subst this
    have:=(E i j f).2
    simp [M,ht] at this
   | scr ns =>
    cases hp
    obtain ⟨⟨a,ea,sq⟩,_⟩:=q
    refine .inr (.inl ⟨ns,a,rfl,ea,sq,fun c f=>?_⟩)
    have a:=(E c j f).1
    rw [hs] at a
    have:i=c:=by simpa using a
    subst this
    have:=(E i j f).2
    simp [M,ht] at this
   | own A=>cases hp;exact .inr (.inr ⟨i,A,Z i j hs (by simp [M,ht]),rfl,hv,.inl ht⟩)
   | io A=>cases hp;exact .inr (.inr ⟨i,A,Z i j hs (by simp [M,ht]),rfl,hv,.inr ht⟩)
  ·obtain ⟨hs,hm⟩:=E i j hi
   obtain ⟨A,N⟩:=b1 i hm
   refine ⟨A,A,?_,?_⟩
   ·unfold aah
    rw [az5,hs]
    rcases N with N | N <;> simp [N,ahk]
   ·rcases N with N | N
    ·exact .inl ⟨N,N⟩
    ·exact .inr ⟨N,N⟩
 ·rintro i m ys σI H2 ⟨rfl,hi,G2,F2,e,env2,yd,I2,g2,a1,ry,ga,fa,jv,ln,b6,sl,un,mv⟩
  refine ⟨a1,?_⟩
  by_cases hlt:i < ds.length
  ·refine .inr ⟨it.go i G2 H2 g2 I2.gh hlt,Wv (i+1),fun a2 c2 H' hw=>⟨ds.length - (i+1),by omega,rfl,hlt,hw⟩,fun x H3 y=>?_⟩
   obtain ⟨G3,o⟩:=it.yld i G2 H2 x H3 _ g2 I2.gh I2.ft (az0 hlt) y
   obtain ⟨I3,X3⟩:=I2.out o
   have a6:=o.hh _ _ a1
   have a8:=fa
   have b8:G3 p=none:=by
    cases e':G3 p with
    | none=>rfl
    | some u =>
     rcases o.gn p u e' with q | q
     ·rw [ga] at q;cases q
     ·rw [a1] at q;cases q
   have c0:∀ j s,e[j]?=some (some s)->∃ v,σI[j]?=some (some v)/\((∃ d,s=.st d/\Rp G3 v d/\∀ i,inv i ≠ some j)\/(∃ ns a,s=.scr ns/\v=.ref a/\SqL B.K G3 a (ns.map V.int)/\∀ i,inv i ≠ some j) ∨
     ∃ i A,inv i=some j/\s=.io A/\σ[i]?=some (some v)/\(env2[i]?=some (some (.own A))\/env2[i]?=some (some (.io A)))):=fun j s es=>by
    obtain ⟨v,hv,q⟩:=sl j s es
    refine ⟨v,hv,?_⟩
    rcases q with ⟨d,a9,r,n⟩ | ⟨ns,a,a9,c1,r,n⟩ | q
    ·exact .inl ⟨d,a9,r.same o.gg,n⟩
    ·exact .inr (.inl ⟨ns,a,a9,c1,o.gg.seq r,n⟩)
    ·exact .inr (.inr q)
   have E3:=I3.enter (inv:=inv) (σI:=σI) (envI:=e) inj ln c0
   -- back from the turn
   have fin:∀ (R:St) (G4 H4:Hp) (F4:Nat->Addr->Prop) (e4:En) (a4:List PyData) (a2:List V) (o4:HO),VI ⟨B.K,G3,H3,ado H3 F2 inv,σI,fun j a=>∃ i,inv i=some j/\F2 i a⟩ G4 H4 R e4 F4->Jv (i+1) a4 e4->Rps G4 a2 a4 ->
     Wv (i+1) a2 R (upd H4 p (.lst a2))/\H4 p=some (.lst ys):=by
    intro R G4 H4 F4 e4 a4 a2 o4 I4 j4 r4
    have a3:=b2 (i+1) a4 e4 j4
    have b9:H4 p=some (.lst ys):=I4.rs p _ (by show ado H3 F2 inv p=_;rw [alc (fun c _ _=>a8 c)];exact a6)
    have b0:G4 p=none:=by
     cases e':G4 p with
     | none=>rfl
     | some u =>
      rcases I4.gn p u e' with q | q
      ·change G3 p=_ at q;rw [b8] at q;cases q
      ·change H3 p=_ at q;rw [a6] at q;cases q
    -- the slots of the outer frame
    let D:En:=(List.range env2.length).map fun c=>match inv c with
     | some j=>(match env2[c]?,e4[j]? with | some (some (.own _)),some (some (.io A))=>some (.own A) | some (some (.io _)),some (some (.io A))=>some (.io A) | _,_=>none)
     | none=>(env2[c]?).getD none
    have O:∀ c,c < env2.length->D[c]?=some (match inv c with
     | some j=>(match env2[c]?,e4[j]? with | some (some (.own _)),some (some (.io A))=>some (.own A) | some (some (.io _)),some (some (.io A))=>some (.io A) | _,_=>none)
     | none=>(env2[c]?).getD none):=fun c hl=>by
     simp only [D,az5]
     rw [az0 (by simpa using hl)]
     simp
    have L:=I3.leave (inv:=inv) (env2:=D) inj rfl rfl (fun a u q n=>by show ado H3 F2 inv a=_;rw [alc n];exact q) (fun c j f a z=>by obtain ⟨X,Y,C⟩:=z;rw [inj c X j f Y];exact C)
     (fun c j f=>by
      obtain ⟨A0,A,Y,C⟩:=mv c j f
      obtain ⟨v,hv,q⟩:=sl j _ Y
      rcases q with ⟨d,q,_⟩ | ⟨ns,a,q,_⟩ | ⟨X,b5,q1,q2,q3,_⟩
      ·cases q
      ·cases q
      ·rw [inj c X j f q1]
       show σI[j]?=_
       rw [hv,q3]) I4 a3 (by simp [D]) (fun c s es=>by
      have hl:c < env2.length:=by
       have:=(az1.mp es).1
       simpa [D] using this
      rw [O c hl] at es
      cases f:inv c with
      | none =>
       refine .inl ⟨rfl,?_⟩
       rw [f] at es
       simp only [Option.some.injEq] at es
       cases q:env2[c]? with
       | none=>rw [q] at es;cases es
       | some u=>rw [q] at es;simp at es;rw [es]
      | some j =>
       rw [f] at es
       obtain ⟨A',T⟩:=a3 c j f
       obtain ⟨A0,A,Y,C⟩:=mv c j f
       simp only [T] at es
       rcases C with ⟨_,C⟩ | ⟨_,C⟩
       ·rw [C] at es
        simp only [Option.some.injEq] at es
        exact .inr ⟨j,A,A',rfl,T,.inl ⟨C,es.symm⟩⟩
       ·rw [C] at es
        simp only [Option.some.injEq] at es
        exact .inr ⟨j,A,A',rfl,T,.inr ⟨C,es.symm⟩⟩)
    have b4:∀ j,¬ (match inv j with | some j=>F4 j p | none=>F2 j p):=fun j z=>by
     cases hj:inv j with
     | none=>rw [hj] at z;exact a8 j z
     | some l =>
      rw [hj] at z
      obtain ⟨A',T⟩:=a3 j l hj
      obtain ⟨v,_,q⟩:=I4.sl l _ T
      rcases q.2.1 p z with ⟨X,_,q⟩ | q
      ·exact a8 X q
      ·change H3 p=_ at q;rw [a6] at q;cases q
    refine ⟨⟨G4,_,e4,D,a4,L.aside (fun _ z=>nomatch z) b0 b4 hb,g2.trans (o.gg.trans I4.g0),aak,r4,b0,b4,j4,I4.ln,by simp [D,b6],fun j s es=>?_,fun c f=>?_,fun c j f=>?_⟩,b9⟩
    ·obtain ⟨v,hv,q⟩:=I4.sl j s es
     refine ⟨v,hv,?_⟩
     have a0:(∀ A,s ≠ .io A)->∀ c,inv c ≠ some j:=fun hn c f=>by
      obtain ⟨A,N⟩:=a3 c j f
      rw [es] at N
      exact hn A (by simpa using N)
     cases s with
     | st d=>exact .inl ⟨d,rfl,q.1,a0 (by intro A z;cases z)⟩
     | scr ns =>
      obtain ⟨⟨a,ea,sq⟩,_⟩:=q
      exact .inr (.inl ⟨ns,a,rfl,ea,sq,a0 (by intro A z;cases z)⟩)
     | own A =>
      have:=((a7 _ _ _ j4).got es).2
      simp [agb] at this
     | io A =>
      obtain ⟨A0,h0⟩:=((a7 _ _ _ j4).got es).1 rfl
      obtain ⟨c,t,hs,ht,hp⟩:=afp h0
      have hm:M c=true:=by
       cases t with
       | own A=>simp [M,ht]
       | io A=>simp [M,ht]
       | st d=>cases hp
       | scr ns=>cases hp
      have f:=Z c j hs hm
      obtain ⟨B0,A1,Y,C⟩:=mv c j f
      have hl:c < env2.length:=by
       rcases C with ⟨_,C⟩ | ⟨_,C⟩ <;> exact (az1.mp C).1
      refine .inr (.inr ⟨c,A,f,rfl,?_,?_⟩)
      ·have hS : σI[j]?=some (some v):=q.2.2
       obtain ⟨v',b7,q'⟩:=sl j _ Y
       rcases q' with ⟨d,q',_⟩ | ⟨ns,a,q',_⟩ | ⟨X,b5,q1,q2,q3,_⟩
       ·cases q'
       ·cases q'
       ·rw [inj c X j f q1,q3,← b7,hS]
      ·rw [O c hl,f]
       simp only [es]
       rcases C with ⟨_,C⟩ | ⟨_,C⟩
       ·rw [C];exact .inl rfl
       ·rw [C];exact .inr rfl
    ·by_cases hl:c < env2.length
     ·rw [O c hl,f]
      simp only
      rw [← un c f]
      rw [az0 hl];rfl
     ·rw [aE1.mpr (by simp [D];omega),← un c f,aE1.mpr (by omega)]
    ·obtain ⟨A',T⟩:=a3 c j f
     obtain ⟨A0,A,Y,C⟩:=mv c j f
     have hl:c < env2.length:=by
      rcases C with ⟨_,C⟩ | ⟨_,C⟩ <;> exact (az1.mp C).1
     refine ⟨A0,A',T,?_⟩
     rw [O c hl,f]
     simp only [T]
     rcases C with ⟨h3,C⟩ | ⟨h3,C⟩
     ·rw [C];exact .inl ⟨h3,rfl⟩
     ·rw [C];exact .inr ⟨h3,rfl⟩
   have hd:ds[i]?=some ds[i]:=az0 hlt
   refine js i _ yd e hd jv ⟨B.K,G3,H3,ado H3 F2 inv,σI,fun j a=>∃ i,inv i=some j/\F2 i a⟩ rfl σI G3 H3 _ x _ _ E3 (ad3 o.ok.1) fun R G4 H4 F4 e4 I4 g4 q4=>?_
   refine q4 R G4 H4 F4 _ I4 fun b G5 H5 F5 e5 I5 g5 q5=>?_
   cases b with
   | false =>
    rw [aE0 aA0] at q5 ⊢
    obtain ⟨w,ac⟩:=fin R G5 H5 F5 e5 yd ys (.lst ys) I5 q5 (ry.same (o.gg.trans (g4.trans g5)))
    have:upd H5 p (.lst ys)=H5:=by
     funext b
     unfold upd
     split
     ·rename_i hb';rw [hb'];exact ac.symm
     ·rfl
    rw [this] at w
    exact w
   | true =>
    rw [aD9 rfl] at q5 ⊢
    refine q5 R G5 H5 F5 _ I5 fun y G6 H6 F6 d6 e6 I6 g6 r6 q6=>?_
    obtain ⟨w,ac⟩:=fin R G6 H6 F6 e6 (yd ++ [d6]) (ys ++ [y]) (.lst ys) I6 q6.2 ((ry.same (o.gg.trans (g4.trans (g5.trans g6)))).append (.cons r6 .nil))
    exact ⟨ac,by rw [ry.length];exact big (by have:=q6.1;omega),w⟩
  ·have ei:i=ds.length:=by omega
   subst ei
   refine .inl ⟨it.stop _ G2 H2 g2 I2.gh rfl,?_⟩
   have q:=jd yd e jv
   have eb:ahl src W e=env2:=by
    apply aE6
    intro c
    unfold ahl
    rw [ae5,Nat.zero_add]
    have P:M c=false->env2[c]?=W[c]?:=fun hm=>un c (by simp [inv,hm])
    cases U:W[c]? with
    | none =>
     rw [P (by simp [M,U]),U];rfl
    | some o =>
     cases o with
     | none=>rw [P (by simp [M,U]),U];rfl
     | some t =>
      have a5:∀ A,(t=.own A\/t=.io A)->M c=true:=fun A h=>by rcases h with rfl | rfl <;> simp [M,U]
      cases t with
      | st d=>rw [P (by simp [M,U]),U];rfl
      | scr ns=>rw [P (by simp [M,U]),U];rfl
      | own A =>
       have hm:=a5 A (.inl rfl)
       simp only [aG5,aga]
       cases e3:idxE c src 0 with
       | none =>
        have:inv c=none:=by simp [inv,e3]
        rw [un c this,U]
       | some j =>
        have f:inv c=some j:=by simp [inv,hm,e3]
        obtain ⟨A0,A1,Y,C⟩:=mv c j f
        simp only [Y]
        rcases C with ⟨h3,C⟩ | ⟨h3,C⟩
        ·rw [C]
        ·rw [U] at h3;cases h3
      | io A =>
       have hm:=a5 A (.inr rfl)
       simp only [aG5,aga]
       cases e3:idxE c src 0 with
       | none =>
        have:inv c=none:=by simp [inv,e3]
        rw [un c this,U]
       | some j =>
        have f:inv c=some j:=by simp [inv,hm,e3]
        obtain ⟨A0,A1,Y,C⟩:=mv c j f
        simp only [Y]
        rcases C with ⟨h3,C⟩ | ⟨h3,C⟩
        ·rw [U] at h3;cases h3
        ·rw [C]
   rw [eb] at q
   refine k (.ref p) G2 H2 F2 (· = p) (.own (OL yd)) env2 I2 (g1.trans g2) ⟨⟨p,ys,rfl,a1,ry,fun b=>Iff.rfl⟩,fun a z=>by rw [z];exact hb,fun a z=>by rw [z];exact ga,fun a z=>by rw [z];exact ⟨_,a1⟩,fun j a z=>by rw [z];exact fa j⟩ q
end
def noIo (e:En):Bool:=e.all fun s => !isIo s
theorem ar3 {e:En} {j:Nat} {x:Option Sl} (h:noIo e=true) (a:e[j]?=some x):isIo x=false:=by
 have:=aD8.mp h x (az2 a)
 simpa using this
theorem aev {src:List (Option Nat)} {b e:En} (h:noIo (aah src b)=true):ahl src b e=b:=by
 apply aE6
 intro i
 unfold ahl
 rw [ae5,Nat.zero_add]
 cases e2:b[i]? with
 | none=>rfl
 | some o =>
  have a:∀ A,(o=some (.own A)\/o=some (.io A))->idxE i src 0=none:=fun A c=>by
   cases e3:idxE i src 0 with
   | none=>rfl
   | some j =>
    have hs:=(aec e3).2
    have:(aah src b)[j]?=some (some (.io A)):=by
     unfold aah
     rw [az5,show src[j]?=some (some i) by simpa using hs]
     rcases c with rfl | rfl <;> simp [e2,ahk]
    have:=ar3 h this
    simp [isIo] at this
  cases o with
  | none=>rfl
  | some t =>
   cases t with
   | st d=>rfl
   | scr ns=>rfl
   | own A=>simp only [aG5,aga,a A (.inl rfl)]
   | io A=>simp only [aG5,aga,a A (.inr rfl)]
def stO:Option PyData->Option Sl:=Option.map Sl.st
theorem isIo_stO {o:Option PyData}:isIo (stO o)=false:=by cases o <;> rfl
theorem aci {o:Option PyData}:agb (stO o)=false:=by cases o <;> rfl
theorem acm {src:List (Option Nat)} {a:En}:∀ x∈aah src a,agb x=false:=by
 intro x b
 unfold aah at b
 obtain ⟨o,_,rfl⟩:=aA7.mp b
 cases o with
 | none=>rfl
 | some j =>
  dsimp only
  cases (a[j]?).getD none with
  | none=>rfl
  | some t=>cases t <;> rfl
theorem acr:∀ {e:En},(∀ x∈e,agb x=false)->ioLe e e
 | [],_=>True.intro
 | x :: r,h=>⟨⟨rfl,h x aA8⟩,acr fun y a=>h y (aA5 _ a)⟩
section
variable {B:Bs} {env:En} {g:TG} {tif:TT} {te:TE} {K:Frag} {src:List (Option Nat)} {ds:List PyData} {e1:En} {R:List PyData->En->Prop}
theorem ar4 (f:PyData->PyData) (p:PyData->Bool) (g:noIo (aah src e1)=true) (D:ds.length<=999999)
  (h:∀ d∈ds,∀ a:Bs,a.K=K->EvT a tif (some (.st d) :: aah src e1) fun b l=>b=p d/\l=some (.st d) :: aah src e1/\(b=true->Ev a te (some (.st d) :: aah src e1) fun y q=>y=f d/\q=some (.st d) :: aah src e1))
  (u:R ((ds.filter p).map f) e1):LcV K (none :: src) (aa1 0) tif te ds e1 R:=by
 have c:noIo (aah (none :: src) e1)=true:=by
  show ((none :: aah src e1).all fun s => !isIo s)=true
  rw [List.all_cons]
  exact (aF5 _ _).mpr ⟨rfl,g⟩
 refine ⟨fun i ys e=>ys=((ds.take i).filter p).map f/\∃ o,e=stO o :: aah src e1,⟨by simp,none,rfl⟩,?_,?_,?_⟩
 ·rintro i ys e ⟨_,o,rfl⟩
  exact ⟨⟨isIo_stO.symm,aci⟩,acr acm⟩
 ·rintro i d ys e hd ⟨rfl,o,rfl⟩ a x
  have hi:i < ds.length:=(az1.mp hd).1
  have r:ds.take (i+1)=ds.take i ++ [d]:=by rw [aF8,hd];rfl
  refine aau ?_
  show EvT a tif (some (.st d) :: aah src e1) _
  intro σ G H F Q I k
  refine h d (az2 hd) a x σ G H F Q I fun b G' H' n l m g' ⟨hb,w,A⟩=>k b G' H' n l m g' ?_
  subst w
  by_cases hp:b=true
  ·rw [aD9 hp]
   intro σ G H F Q I k
   refine A hp σ G H F Q I fun v G' H' n d' q m g' B ⟨z,j⟩=>k v G' H' n d' q m g' B ?_
   subst z j
   refine ⟨?_,?_,some d,rfl⟩
   ·have:=aD7 p (ds.take i)
    simp only [az3]
    have C:(ds.take i).length<=i:=by simp;omega
    omega
   ·rw [r,List.filter_append,aC9]
    have:p d=true:=by rw [← hb];exact hp
    simp [this]
  ·rw [aE0 hp]
   refine ⟨?_,some d,rfl⟩
   rw [r,List.filter_append,aC9]
   have:p d=false:=by rw [← hb];simpa using hp
   simp [this]
 ·rintro ys e ⟨rfl,o,rfl⟩
  rw [aev c,aF2]
  exact u
theorem ae6 {α:Type} (xs:List α):xs.filter (fun _=>true)=xs:=by simp
theorem auy (f:PyData->PyData) (b:noIo (aah src e1)=true) (j:ds.length<=999999)
  (h:∀ d∈ds,∀ a:Bs,a.K=K->Ev a te (some (.st d) :: aah src e1) fun y i=>y=f d/\i=some (.st d) :: aah src e1)
  (c:R (ds.map f) e1):LcV K (none :: src) (aa1 0) tYes te ds e1 R :=
 ar4 f (fun _=>true) b j (fun d hd a g=>ads ⟨rfl,rfl,fun _=>h d hd a g⟩) (by rw [ae6];exact c)
theorem ar5 {A:Frag} {α:Type} {xs:List α} {fa fb : α->PyData} (f : α->PyData) (p : α->Bool) (g:noIo (aah src e1)=true) (J:xs.length<=999999)
  (h:∀ x∈xs,∀ a:Bs,a.K=K->EvT a tif (some (.st (fa x)) :: some (.st (fb x)) :: aah src e1) fun b l=>b=p x/\l=some (.st (fa x)) :: some (.st (fb x)) :: aah src e1/\(b=true->Ev a te (some (.st (fa x)) :: some (.st (fb x)) :: aah src e1) fun y q=>y=f x/\q=some (.st (fa x)) :: some (.st (fb x)) :: aah src e1))
  (u:R ((xs.filter p).map f) e1):LcV K (none :: none :: src) (gTup A 2 (ac1 (aa1 0) (ac1 (aa1 1) gNil))) tif te (xs.map fun x => .tuple [fa x,fb x]) e1 R:=by
 have c:noIo (aah (none :: none :: src) e1)=true:=by
  show ((none :: none :: aah src e1).all fun s => !isIo s)=true
  rw [List.all_cons,List.all_cons]
  exact (aF5 _ _).mpr ⟨rfl,(aF5 _ _).mpr ⟨rfl,g⟩⟩
 refine ⟨fun i ys e=>ys=((xs.take i).filter p).map f/\∃ o o',e=stO o :: stO o' :: aah src e1,⟨by simp,none,none,rfl⟩,?_,?_,?_⟩
 ·rintro i ys e ⟨_,o,o',rfl⟩
  exact ⟨⟨isIo_stO.symm,aci⟩,⟨isIo_stO.symm,aci⟩,acr acm⟩
 ·rintro i d ys e hd ⟨rfl,o,o',rfl⟩ a z
  rw [az5] at hd
  cases hx:xs[i]? with
  | none=>rw [hx] at hd;cases hd
  | some x =>
   rw [hx] at hd
   cases hd
   have hi:i < xs.length:=(az1.mp hx).1
   have r:xs.take (i+1)=xs.take i ++ [x]:=by rw [aF8,hx];rfl
   refine anb rfl (adj (aau (adj (aau (agx ?_)))))
   show EvT a tif (some (.st (fa x)) :: some (.st (fb x)) :: aah src e1) _
   intro σ G H F Q I k
   refine h x (az2 hx) a z σ G H F Q I fun b G' H' n l m g' ⟨hb,w,C⟩=>k b G' H' n l m g' ?_
   subst w
   by_cases hp:b=true
   ·rw [aD9 hp]
    intro σ G H F Q I k
    refine C hp σ G H F Q I fun v G' H' n d' q m g' D ⟨B,j⟩=>k v G' H' n d' q m g' D ?_
    subst B j
    refine ⟨?_,?_,some _,some _,rfl⟩
    ·have:=aD7 p (xs.take i)
     simp only [az3]
     have E:(xs.take i).length<=i:=by simp;omega
     omega
    ·rw [r,List.filter_append,aC9]
     have:p x=true:=by rw [← hb];exact hp
     simp [this]
   ·rw [aE0 hp]
    refine ⟨?_,some _,some _,rfl⟩
    rw [r,List.filter_append,aC9]
    have:p x=false:=by rw [← hb];simpa using hp
    simp [this]
 ·rintro ys e ⟨rfl,o,o',rfl⟩
  rw [aev c]
  simpa using u
end
section
variable {R:Sl->Prop}
theorem auz {g:Int->Int->Int} {i j:Int} (h:R (.st (.int (g i j)))):Op2 (rI0 fun i j => .int (g i j)) (.int i) (.int j) R:=fun G H c d Q gh a b k=>by
 cases a;cases b
 exact ⟨i,j,rfl,rfl,k _ _ _ _ _ (Out.refl gh (.int _)) h⟩
theorem au0 {g:Int->Int->Bool} {i j:Int} (h:R (.st (.bool (g i j)))):Op2 (rI0 fun i j => .bl (g i j)) (.int i) (.int j) R:=fun G H c d Q gh a b k=>by
 cases a;cases b
 exact ⟨i,j,rfl,rfl,k _ _ _ _ _ (Out.refl gh (.bl _)) h⟩
theorem axg {C:Int->Int->Prop} {g:Int->Int->Int} {i j:Int} (b:C i j) (h:R (.st (.int (g i j)))):Op2 (rI C fun i j => .int (g i j)) (.int i) (.int j) R:=fun G H d f Q gh a c k=>by
 cases a;cases c
 exact ⟨i,j,rfl,rfl,b,k _ _ _ _ _ (Out.refl gh (.int _)) h⟩
theorem axh {g:Int->Int} {i:Int} (h:R (.st (.int (g i)))):Op1 (rU fun i => .int (g i)) (.int i) R:=fun G H b Q gh a k=>by
 cases a
 exact ⟨i,rfl,k _ _ _ _ _ (Out.refl gh (.int _)) h⟩
theorem au1 {i j:Int} (h:R (.st (.bool (decide (i=j))))):Op2 rEq (.int i) (.int j) R:=fun G H c d Q gh a b k=>by
 cases a;cases b
 exact apm (k _ _ _ _ _ (Out.refl gh (.bl _)) h)
theorem au2 {i j:Int} (h:R (.st (.bool (!decide (i=j))))):Op2 rNe (.int i) (.int j) R:=fun G H c d Q gh a b k=>by
 cases a;cases b
 exact awy (k _ _ _ _ _ (Out.refl gh (.bl _)) h)
theorem au3 (i j:Bool):decide (V.bl i=V.bl j)=decide (i=j):=by cases i <;> cases j <;> rfl
theorem au4 {i j:Bool} (h:R (.st (.bool (!decide (i=j))))):Op2 rNe (.bool i) (.bool j) R:=fun G H c d Q gh a b k=>by
 cases a;cases b
 refine ⟨rfl,?_⟩
 rw [au3]
 exact k _ _ _ _ _ (Out.refl gh (.bl _)) h
theorem au5 {x y:PyData} (a:aar x=true) (b:aar y=true) (hd:x.depth<=60) (h:R (.st (.bool (PyData.eqv x y)))):Op2 rEqD x y R:=fun G H f g Q gh c d k =>
 ⟨x,y,(c.rep a).same gh,(d.rep b).same gh,a,b,hd,k _ _ _ _ _ (Out.refl gh (.bl _)) h⟩
theorem agc {x y:PyData} (a:aar x=true) (b:aar y=true) (hd:x.depth<=60) (h:R (.st (.bool (!PyData.eqv x y)))):Op2 rNeD x y R:=fun G H f g Q gh c d k =>
 ⟨x,y,(c.rep a).same gh,(d.rep b).same gh,a,b,hd,k _ _ _ _ _ (Out.refl gh (.bl _)) h⟩
theorem au6 {a:Bool} {x:PyData} {es:List PyData} (b:aar x=true) (c:plainDs es=true) (hd:x.depth<=60) (h:R (.st (.bool (if a then !es.any (fun z=>PyData.eqv z x) else es.any (fun z=>PyData.eqv z x))))):Op2 (rInD a) x (.list es) R:=fun G H g i Q gh d f k =>
 ⟨x,es,(d.rep b).same gh,.inl ((f.rep (by simpa [aar] using c)).same gh),b,c,hd,k _ _ _ _ _ (Out.refl gh (.bl _)) h⟩
theorem Rps.at {G:Hp} {vs:List V} {ds:List PyData} {i:Int} {d:PyData} (r:Rps G vs ds) (h:atI ds i=some d):∃ v,atI vs i=some v/\Rp G v d:=by
 unfold atI at h ⊢
 rw [r.length]
 cases e:ixN ds.length i with
 | none=>rw [e] at h;cases h
 | some j =>
  rw [e] at h
  exact r.get h
theorem au7 {K:Frag} {ds:List PyData} {i:Int} {d:PyData} (hd:atI ds i=some d) (h:R (.st d)):Op2 (ab8 K) (.list ds) (.int i) R:=fun G H g j Q gh b f k=>by
 cases f
 cases b with
 | lst ha rs =>
  obtain ⟨v,c,a⟩:=rs.at hd
  exact ae4 (gh _ _ ha) c (k _ _ _ _ _ (Out.refl gh a) h)
theorem au8 {K:Frag} {ds:List PyData} {i:Int} {d:PyData} (hd:atI ds i=some d) (h:R (.st d)):Op2 (ab8 K) (.tuple ds) (.int i) R:=fun G H g j Q gh b f k=>by
 cases f
 cases b with
 | tup ha rs =>
  obtain ⟨v,c,a⟩:=rs.at hd
  exact arq (gh _ _ ha) c (k _ _ _ _ _ (Out.refl gh a) h)
def isNone:PyData->Bool
 | .none=>true
 | _=>false
theorem ane {G:Hp} {v:V} {x:PyData} (r:Rp G v x):decide (v=.non)=isNone x:=by cases r <;> rfl
theorem au9 {x:PyData} (h:R (.st (.bool (isNone x)))):Op2 rIsN x .none R:=fun G H c d Q gh b a k=>by
 cases a
 refine ⟨rfl,?_⟩
 rw [ane b]
 exact k _ _ _ _ _ (Out.refl gh (.bl _)) h
theorem ar6 {x:PyData} (h:R (.st (.bool (!isNone x)))):Op2 atp x .none R:=fun G H c d Q gh b a k=>by
 cases a
 refine ⟨rfl,?_⟩
 rw [ane b]
 exact k _ _ _ _ _ (Out.refl gh (.bl _)) h
theorem ava {xs ys:List PyData} (d:xs.length+ys.length<=1000000) (h:R (.own (OL (xs ++ ys)))):Op2 rCat (.list xs) (.list ys) R:=fun G H f g Q gh a c k=>by
 cases a with
 | lst ha ra =>
  cases c with
  | lst hb rb =>
   refine aw1 (gh _ _ ha) (gh _ _ hb) ?_ fun p b=>k _ _ _ _ _ (Out.newL gh b (ra.append rb)) h
   rw [ra.length,rb.length];exact aE9 (big d)
theorem avb {xs:List PyData} {n:Int} (b : -(2 ^ 63)<=n) (d:n < 2 ^ 63) (g:xs.length * n.toNat<=1000000) (h:R (.own (OL (List.replicate n.toNat xs).flatten))):Op2 rRep (.list xs) (.int n) R:=fun G H j i Q gh c f k=>by
 cases f
 cases c with
 | lst ha ra =>
  refine ⟨_,n,_,rfl,rfl,gh _ _ ha,b,d,?_,fun p a=>k _ _ _ _ _ (Out.newL gh a (ra.rep _)) h⟩
  rw [ra.length];exact aE9 (big g)
theorem ar7 {K:Frag} {xs:List PyData} (h:R (.st (.int xs.length))):OpA (rLen K) [.list xs] R:=fun G H vs Q gh rs k=>by
 cases rs with
 | cons r t =>
  cases t
  cases r with
  | lst ha ra =>
   refine amz (gh _ _ ha) ?_
   rw [ra.length]
   exact k _ _ _ _ _ (Out.refl gh (.int _)) h
theorem ar8 {K:Frag} {xs:List PyData} (h:R (.st (.int xs.length))):OpA (rLen K) [.tuple xs] R:=fun G H vs Q gh rs k=>by
 cases rs with
 | cons r t =>
  cases t
  cases r with
  | tup ha ra =>
   refine auc (gh _ _ ha) ?_
   rw [ra.length]
   exact k _ _ _ _ _ (Out.refl gh (.int _)) h
theorem ar9 {i j:Int} (h:R (.st (.int (if j > i then j else i)))):OpA aj1 [.int i,.int j] R:=fun G H vs Q gh rs k=>by
 obtain rfl:vs=[V.int i,V.int j]:=Rps.ints_inv (ns:=[i,j]) rs
 exact am0 (k _ _ _ _ _ (Out.refl gh (.int _)) h)
theorem asa {i j:Int} (h:R (.st (.int (if j < i then j else i)))):OpA aj2 [.int i,.int j] R:=fun G H vs Q gh rs k=>by
 obtain rfl:vs=[V.int i,V.int j]:=Rps.ints_inv (ns:=[i,j]) rs
 exact am1 (k _ _ _ _ _ (Out.refl gh (.int _)) h)
theorem asb {b:Bool} (h:R (.st (.int (if b then 1 else 0)))):OpA aj3 [.bool b] R:=fun G H vs Q gh rs k=>by
 cases rs with
 | cons r t =>
  cases t;cases r
  exact am2 (k _ _ _ _ _ (Out.refl gh (.int _)) h)
theorem alg {K:Frag} {ns:List Int} (a:ns ≠ []) (h:∀ m,ato ns m->R (.st (.int m))):OpA (aob K) [.list (ns.map .int)] R:=fun G H vs Q gh rs k=>by
 cases rs with
 | cons r t =>
  cases t
  cases r with
  | lst ha ra =>
   have:=Rps.ints_inv ra
   subst this
   exact ⟨_,ns,rfl,.inl (SqL.of (gh _ _ ha)),a,fun m hm=>k _ _ _ _ _ (Out.refl gh (.int _)) (h m hm)⟩
end
section
variable {B:Bs} {env:En} {QO:Sl->En->Prop} {Q':PyData->En->Prop} {te tl th:TE} {K:Frag}
def cutD (xs:List PyData) (lo hi:Option Int):List PyData:=(xs.drop (HT.sIx xs.length 0 lo)).take (HT.sIx xs.length xs.length hi - HT.sIx xs.length 0 lo)
def EvOp (B:Bs) (t:TO) (env:En) (Q':Option Int->En->Prop):Prop:=∀ (σ:St) (G H:Hp) (F:Nat->Addr->Prop) (Q:Option Int->Hp->Prop),VI B G H σ env F->(∀ o G' H' F' env',VI B G' H' σ env' F'->Same G G'->Q' o env'->Q o H')->t σ H Q
theorem asc {a:Option Int->En->Prop} (q:a none env):EvOp B amr env a:=fun σ G H F Q I k=>k none G H F env I (Same.refl _) q
theorem asd {a:Option Int->En->Prop} (h:Ev B te env fun d e=>∃ i,d=.int i/\a (some i) e):EvOp B (atj te) env a:=fun σ G H F Q I k =>
 h σ G H F _ I fun v f g n d m j l o c=>by
  obtain ⟨i,b,q⟩:=c
  subst b;cases o
  exact ⟨i,rfl,k _ f g n m j l q⟩
theorem ayw {i:Int} {R:Int->Prop} (h:R i):∃ j,PyData.int i=.int j/\R j:=⟨i,rfl,h⟩
theorem ai1 {tl m:TO} (h:Ev B te env fun d l=>∃ ds,d=.list ds/\EvOp B tl l fun lo j=>EvOp B m j fun hi f=>QO (.own (OL (cutD ds lo hi))) f):EvO B (tSl (rSlL K) te tl m) env QO:=fun σ G H F Q I k =>
 h σ G H F _ I fun v x y E d l z A J w=>by
  obtain ⟨ds,n,q⟩:=w
  subst n
  cases J with
  | @lst a vs _ ha rs =>
   refine q σ x y E _ z fun lo u H2 F2 j L c C=>C σ u H2 F2 _ L fun hi M H3 r f b g s=>?_
   have i:=rs.same (c.trans g)
   refine ⟨a,vs,rfl,SqL.of (b.gh _ _ (g _ _ (c _ _ ha))),fun p D=>?_⟩
   have e:cutV vs lo hi=(vs.drop (HT.sIx ds.length 0 lo)).take (HT.sIx ds.length ds.length hi - HT.sIx ds.length 0 lo):=by unfold cutV;rw [rs.length]
   have o:=Out.newL (xs:=cutV vs lo hi) (ds:=cutD ds lo hi) b.gh D (by rw [e];exact (i.drop _).take _)
   exact k _ _ _ r _ _ f (b.out o).1 (A.trans (c.trans (g.trans o.gg))) (b.out o).2 s
theorem ase {tl f:TO} (h:Ev B te env fun d c=>∃ ds,d=.list ds/\EvOp B tl c fun lo j=>EvOp B f j fun hi i=>Q' (.list (cutD ds lo hi)) i):Ev B (tSl (rSlL K) te tl f) env Q':=abr (ai1 (by
 intro σ G H F Q I k
 refine h σ G H F Q I fun v G' H' a d c l m n ⟨ds,g,q⟩=>k v G' H' a d c l m n ⟨ds,g,?_⟩
 intro σ G H F Q I k
 refine q σ G H F Q I fun lo G' H' a e b g' q=>k lo G' H' a e b g' ?_
 intro σ G H F Q I k
 exact q σ G H F Q I fun hi G' H' a e b g' q=>k hi G' H' a e b g' (ack q)))
end
def ae7:PyData->Bool
 | .none | .bool _ | .int _ | .str _=>true
 | _=>false
theorem aib {G G':Hp} {v:V} {d:PyData} (r:Rp G v d) (h:ae7 d=true):Rp G' v d:=by
 cases r with
 | non=>exact .non
 | bl b=>exact .bl b
 | int i=>exact .int i
 | str x=>exact .str x
 | _=>simp [ae7] at h
def Has (env:En) (i:Nat) (A:Own):Prop:=env[i]?=some (some (.own A))\/env[i]?=some (some (.io A))
section
variable {B:Bs} {env:En} {QO:Sl->En->Prop} {Q':PyData->En->Prop} {QT:Bool->En->Prop} {QE:En->Prop} {te ta tb tk:TE} {K:Frag} {i:Nat}
theorem VI.has {G H:Hp} {σ:St} {F:Nat->Addr->Prop} {A:Own} (I:VI B G H σ env F) (h:Has env i A):∃ v,σ[i]?=some (some v)/\A.P G H v (F i):=by
 rcases h with h | h
 ·obtain ⟨v,a,q⟩:=I.sl i _ h;exact ⟨v,a,q.1⟩
 ·obtain ⟨v,a,q⟩:=I.sl i _ h;exact ⟨v,a,q.1⟩
theorem VI.moment {G d c H H3:Hp} {σ:St} {F:Nat->Addr->Prop} {v:V} {s:Sl} {Fv:Addr->Prop} (I:VI B G H σ env F) (i:Same G d) (o:Out d H v c H3 s Fv):∃ f,Same G f/\VI B f H3 σ env F:=by
 refine ⟨fun a=>if H a=none then c a else G a,fun a u e=>?_,I.grow (fun a u e=>?_) (fun a u e=>?_) o.hh (fun a u e=>?_) fun a b e=>?_⟩
 ·show (if H a=none then c a else G a)=some u;rw [aE0 (by rw [I.gh a u e];simp)];exact e
 ·rw [aE0 (by rw [I.gh a u e];simp)];exact e
 ·by_cases h:H a=none
  ·rw [aD9 h] at e;exact o.gh a u e
  ·rw [aE0 h] at e;exact o.hh _ _ (I.gh a u e)
 ·by_cases h:H a=none
  ·exact .inr h
  ·rw [aE0 h] at e;exact .inl e
 ·have f1:FT d H:=fun a b e=>i _ _ (I.ft a b e)
  by_cases h:H a=none
  ·rw [aD9 h];exact o.ft f1 a b e
  ·rw [aE0 h]
   obtain ⟨u,g⟩:=aof h
   have:=o.hh _ _ g
   rw [e] at this
   exact I.ft a b (by rw [g,← this])
theorem axi {r:R2} {l:Own} (q:Has env i l) (h:Ev B tb env fun y c=>∃ A dx,Has c i A/\Frz A dx/\Op2 r dx y fun s=>∃ d,s=.st d/\ae7 d=true/\Q' d c):Ev B (tOp r (tVar i) tb) env Q':=fun σ G H F Q I k=>by
 obtain ⟨v,f,_⟩:=I.has q
 refine ⟨v,f,h σ G H F _ I fun u x H2 F2 y c a j n ⟨A,dx,J,D,C⟩=>?_⟩
 obtain ⟨L,b,E⟩:=a.has J
 rw [f] at b;cases b
 refine C (jn x H2 (F2 i)) H2 v u Q (aj6 a.gh) (D _ _ _ _ E (a.fg i) a.gh) (n.same (abm (a.fg i))) fun w K H3 s Fv o ⟨d,es,hs,p⟩=>?_
 subst es
 obtain ⟨m,g,z⟩:=a.moment (abm (a.fg i)) o
 exact k w m H3 F2 d c z (j.trans g) (aib o.ok.1 hs) p
theorem axj {r:List V->Hp->VK->Prop} {A:Own} {dx:PyData} (m:Has env i A) (j:Frz A dx) (h:OpA r [dx] fun s=>∃ d,s=.st d/\ae7 d=true/\Q' d env):Ev B (tCB r (acn (tVar i) tNil)) env Q':=fun σ G H F Q I k=>by
 obtain ⟨v,c,l⟩:=I.has m
 refine ⟨v,c,h (jn G H (F i)) H [v] Q (aj6 I.gh) (.cons (j _ _ _ _ l (I.fg i) I.gh) .nil) fun w n H3 s Fv o ⟨d,es,hs,f⟩=>?_⟩
 subst es
 obtain ⟨b,a,g⟩:=I.moment (abm (I.fg i)) o
 exact k w b H3 F d env g a (aib o.ok.1 hs) f
theorem x_sc {d:PyData} {R:PyData->Prop} (a:ae7 d=true) (h:R d):∃ d',Sl.st d=.st d'/\ae7 d'=true/\R d':=⟨d,rfl,a,h⟩
theorem axk {l:List PyData} (z:Has env i (OL l)) (h:Ev B tb env fun y c=>∃ ds k d,Has c i (OL ds)/\y=.int k/\atI ds k=some d/\Q' d c):Ev B (tOp (ab8 K) (tVar i) tb) env Q':=fun σ G H F Q I k=>by
 obtain ⟨v,m,_⟩:=I.has z
 refine ⟨v,m,h σ G H F _ I fun u A H2 F2 y c n p s ⟨ds,j,d,C,x,f,q⟩=>?_⟩
 subst x
 cases s
 obtain ⟨D,b,a,vs,o,ha,rs,_⟩:=n.has C
 rw [m] at b;cases b
 subst o
 obtain ⟨w,r,g⟩:=rs.at f
 exact ae4 ha r (k w A H2 F2 d c n p g q)
theorem VI.upd1 {G H:Hp} {σ:St} {F:Nat->Addr->Prop} {s:Sl} {A A':Own} {a:Addr} {o:HO} (I:VI B G H σ env F) (e:env[i]?=some (some s)) (hs:s=.own A\/s=.io A) (f : σ[i]?=some (some (.ref a))) (hf:∀ b,F i b ↔ b=a) (h:A'.P G (upd H a o) (.ref a) (· = a)) (g:∀ xs,o ≠ .tup xs:=by intro _ z;cases z) :
  VI B G (upd H a o) σ (env.set i (some (reS s A'))) (putF F i (· = a)):=by
 refine I.change (A:=A') i e f (fun b u hb c=>by rw [aag (fun z=>hb ((hf b).mpr z))];exact c) (fun b u c=>?_) (fun b z=>⟨.inl ((hf b).mpr z),by rw [z];exact ⟨_,aak⟩⟩) h (fun b d e=>?_) ?_
 ·by_cases z:b=a
  ·rw [z];exact ⟨_,aak⟩
  ·rw [aag z];exact ⟨u,c⟩
 ·by_cases z:b=a
  ·subst z;rw [aak] at e;exact absurd (aB6 e) (g _)
  ·rw [aag z] at e;exact I.ft b d e
 ·rcases hs with rfl | rfl
  ·exact .inl ⟨rfl,A,rfl⟩
  ·exact .inr ⟨rfl,A,rfl⟩
theorem ap3 {m:List PyData} (w:Has env i (OL m)) (h:Ev B te env fun y f=>∃ s ds,f[i]?=some (some s)/\(s=.own (OL ds)\/s=.io (OL ds))/\ds.length<=999999/\Q' .none (f.set i (some (reS s (OL (ds ++ [y])))))):Ev B (tBM K "list" aem (tVar i) (acn te tNil)) env Q':=fun σ G H F Q I k=>by
 obtain ⟨v,j,a,vs,o,ha,rs,_⟩:=I.has w
 subst o
 refine ⟨_,j,.inl ⟨rfl,_,SqL.of ha⟩,h σ G H F _ I fun u x H2 F2 y f n p r ⟨s,ds,es,hs,E,q⟩=>?_⟩
 have A:Has f i (OL ds):=by rcases hs with rfl | rfl;exact .inl es;exact .inr es
 obtain ⟨C,c,D,z,g,l,d,hf⟩:=n.has A
 rw [j] at c;cases c;cases g
 refine afj l (by rw [d.length];exact big (by omega)) ?_
 exact k _ x _ _ _ _ (n.upd1 (A':=OL (ds ++ [y])) es hs j hf ⟨a,_,rfl,aak,d.append (.cons r .nil),fun b=>Iff.rfl⟩) p .non q
theorem aoh {a:List PyData} (c:Has env i (OL a)) (h:Ev B te env fun y b=>∃ ds,b[i]?=some (some (.own (OL ds)))/\ds.length<=999999/\Q' .none (b.set i (some (.own (OL (ds ++ [y])))))):Ev B (tBM K "list" aem (tVar i) (acn te tNil)) env Q' :=
 ap3 c fun σ G H F Q I k=>h σ G H F Q I fun v G' H' l d e j g r ⟨ds,m,f,q⟩=>k v G' H' l d e j g r ⟨_,ds,m,.inl rfl,f,q⟩
theorem asf {r:List PyData} (J:Has env i (OL r)) (h:Ev B te env fun y g=>∃ s ds j n d,y=.int j/\g[i]?=some (some s)/\(s=.own (OL ds)\/s=.io (OL ds))/\-(2 ^ 63)<=j/\j < 2 ^ 63/\seqIndex? j ds.length=some n/\ds[n]?=some d/\Q' d (g.set i (some (reS s (OL (ds.eraseIdx n)))))):Ev B (tBM K "list" akj (tVar i) (acn te tNil)) env Q':=fun σ G H F Q I k=>by
 obtain ⟨v,m,a,vs,z,ha,rs,_⟩:=I.has J
 subst z
 refine ⟨_,m,.inl ⟨rfl,_,SqL.of ha⟩,h σ G H F _ I fun u L H2 F2 y g x A D ⟨s,ds,j,n,d,E,es,hs,M,N,hn,hd,q⟩=>?_⟩
 subst E
 cases D
 have P:Has g i (OL ds):=by rcases hs with rfl | rfl;exact .inl es;exact .inr es
 obtain ⟨R,f,S,O,l,p,c,hf⟩:=x.has P
 rw [m] at f;cases f;cases l
 obtain ⟨w,C,o⟩:=c.get hd
 refine arf p M N (by rw [c.length];exact hn) C ?_
 exact k _ L _ _ _ _ (x.upd1 (A':=OL (ds.eraseIdx n)) es hs m hf ⟨a,_,rfl,aak,c.erase n,fun b=>Iff.rfl⟩) A o q
theorem asg {d:PyData} {p:List PyData} (E:Has env i (OL p)) (h:Ev B tk env fun y g=>∃ s ds k j,y=.int k/\g[i]?=some (some s)/\(s=.own (OL ds)\/s=.io (OL ds))/\ixN ds.length k=some j/\QE (g.set i (some (reS s (OL (ds.set j d)))))):EvG B (gSub (tVar i) tk an2) (.st d) env QE:=fun σ G H F v Fv Q I x k=>by
 obtain ⟨K,_⟩:=x.ok
 obtain ⟨N,m,a,vs,z,ha,rs,_⟩:=I.has E
 subst z
 refine ⟨_,m,h σ G H F _ I fun u J H2 F2 y g w r C ⟨s,ds,n,j,D,es,hs,A,q⟩=>?_⟩
 subst D
 cases C
 have M:Has g i (OL ds):=by rcases hs with rfl | rfl;exact .inl es;exact .inr es
 obtain ⟨O,c,P,L,l,o,f,hf⟩:=w.has M
 rw [m] at c;cases c;cases l
 refine amy o (by rw [f.length];exact A) ?_
 exact k _ J _ _ _ (w.upd1 (A':=OL (ds.set j d)) es hs m hf ⟨a,_,rfl,aak,f.set (K.same r) j,fun b=>Iff.rfl⟩) r q
theorem agd {t:TS} {D':VEnds} {A:Own} {d:PyData} (i:Nat) (e:env[i]?=some (some (.own A))) (f:Frz A d) (h:EvS B t D' (env.set i (some (.st d)))):EvS B t D' env:=fun σ G H F D I r=>by
 obtain ⟨v,a,b,g,J⟩:=I.frz e f
 exact h σ _ H _ D J (r.later g)
end
def tyD:PyData->String
 | .none => "NoneType" | .bool _ => "bool" | .int _ => "int" | .str _ => "str" | .list _ => "list" | .tuple _ => "tuple" | .dict _ => "dict"
def adt (T:String):Prop:=T = "int"\/T = "bool"\/T = "tuple"\/T = "list"\/T = "str"\/T = "dict"
def isiD (T:String) (d:PyData):Bool:=tyD d == T || (T == "int" && tyD d == "bool")
theorem ayx {K:Frag} {H:Hp} {v:V} {d:PyData} (r:Rp H v d):TyOf K H v (.type (tyD d)):=by
 cases r with
 | non=>exact .non
 | bl b=>exact .bl b
 | int i=>exact .int i
 | str x=>exact .str x
 | lst h _=>exact .lst h
 | tup h _=>exact .tup h
 | dk h _ _=>exact .dK h
 | dt h _ _=>exact .dT h
theorem ayy {K:Frag} {T:String} (h:adt T) (d:PyData):kitOne K (.type (tyD d)) (.type T)=some (isiD T d):=by
 rcases h with rfl | rfl | rfl | rfl | rfl | rfl
 ·cases d with
  | none=>exact agu
  | bool _=>exact akx
  | int _=>exact amd
  | str _=>exact amf
  | list _=>exact ak5
  | tuple _=>exact ajk
  | dict _=>exact ak7
 ·cases d with
  | none=>exact agi
  | bool _=>exact ajc
  | int _=>exact akz
  | str _=>exact ak2
  | list _=>exact ajh
  | tuple _=>exact ah7
  | dict _=>exact ajm
 ·cases d with
  | none=>exact afn
  | bool _=>exact ah5
  | int _=>exact ajf
  | str _=>exact ajg
  | list _=>exact ah6
  | tuple _=>exact ahh
  | dict _=>exact aia
 ·cases d with
  | none=>exact agj
  | bool _=>exact ajd
  | int _=>exact ak0
  | str _=>exact ak3
  | list _=>exact aji
  | tuple _=>exact ah8
  | dict _=>exact ajn
 ·cases d with
  | none=>exact agv
  | bool _=>exact aky
  | int _=>exact ame
  | str _=>exact amg
  | list _=>exact ak6
  | tuple _=>exact ajl
  | dict _=>exact ak8
 ·cases d with
  | none=>exact agk
  | bool _=>exact aje
  | int _=>exact ak1
  | str _=>exact ak4
  | list _=>exact ajj
  | tuple _=>exact ah9
  | dict _=>exact ajo
section
variable {B:Bs} {env:En} {QO:Sl->En->Prop} {Q':PyData->En->Prop} {QT:Bool->En->Prop} {QE:En->Prop} {te ta tb tk:TE} {K:Frag} {i:Nat}
theorem axl {T:String} (m:adt T) (h:Ev B te env fun d e=>Q' (.bool (isiD T d)) e):Ev B (tCB (rIsi K) (acn te (acn (tC (.ty T)) tNil))) env Q':=fun σ G H F Q I k =>
 h σ G H F _ I fun v c f j d i a g l b=>⟨v,T,_,_,rfl,ayx (l.same a.gh),ayy m d,k _ c f j _ i a g (.bl _) b⟩
theorem axm:adt "int":=.inl rfl
theorem avc:adt "bool":=.inr (.inl rfl)
theorem ash:adt "tuple":=.inr (.inr (.inl rfl))
theorem avd:adt "list":=.inr (.inr (.inr (.inl rfl)))
theorem asi {A:Own} {D':VEnds} (e:env[i]?=some (some (.own A))) (q:D'.rt (.own A) (env.set i none)):EvS B (tRet (tVar i)) D' env:=anc (aru e q)
theorem ayz {n m:Nat} {P:Prop} (h:n<=m) (q:P):n<=m/\P:=⟨h,q⟩
theorem axn {ds:List PyData} {a:En} {R:List PyData->Prop} (e:a[i]?=some (some (.own (OL ds)))) (b:ds.length<=999999) (q:R ds):∃ ds,a[i]?=some (some (.own (OL ds)))/\ds.length<=999999/\R ds:=⟨ds,e,b,q⟩
theorem ay0 {ds:List PyData} {d:PyData} {k:Int} {b:En} {R:PyData->Prop} (c:Has b i (OL ds)) (h:atI ds k=some d) (q:R d):∃ ds a d,Has b i (OL ds)/\PyData.int k=.int a/\atI ds a=some d/\R d:=⟨ds,k,d,c,rfl,h,q⟩
theorem aoi {ds:List PyData} {k:Int} {j:Nat} {b:En} {R:Sl->List PyData->Nat->Prop} (e:b[i]?=some (some (.own (OL ds)))) (c:ixN ds.length k=some j) (q:R (.own (OL ds)) ds j):∃ s ds a j,PyData.int k=.int a/\b[i]?=some (some s)/\(s=.own (OL ds)\/s=.io (OL ds))/\ixN ds.length a=some j/\R s ds j:=⟨_,ds,k,j,rfl,e,.inl rfl,c,q⟩
theorem ay1 {A:Own} {dx:PyData} {a:En} {P:PyData->Prop} (c:Has a i A) (b:Frz A dx) (q:P dx):∃ A dx,Has a i A/\Frz A dx/\P dx:=⟨A,dx,c,b,q⟩
theorem x_st {b:Bool} {R:Bool->Prop} (h:R b):∃ c,Sl.st (.bool b)=.st (.bool c)/\R c:=⟨b,rfl,h⟩
theorem axo {b:Bool} {R:Bool->Prop} (h:R b):∃ k,TruD (.bool b) k/\R k:=⟨b,rfl,h⟩
theorem asj {ds:List PyData} {R:Bool->Prop} (h:R (!ds.isEmpty)):∃ k,TruD (.list ds) k/\R k:=⟨_,rfl,h⟩
theorem lenP {f:VP} {n:Nat} {vs:List V} {H:Hp} {Q:VK} {E:XK} (h:spP K f vs H Q E) (hf:∀ ss a,f ss a->ss.length=n):vs.length=n:=by
 obtain ⟨G,ss,a,_,_,b,q,_⟩:=h
 rw [b.length];exact hf ss a q
theorem ay2 {P Q:Prop} (h:P) (q:Q):P/\Q:=⟨h,q⟩
theorem ay3 {src:List (Option Nat)} {j:TI} {g:TG} {f:TT} (nd:(src.filterMap id).Nodup) (h:EvI B j env fun ds i=>LcV B.K src g f te ds i fun ys m=>Q' (.list ys) m):Ev B (tLC src j g f te) env Q':=abr (ap2 nd fun σ G H F R I k=>h σ G H F R I fun J G' H' o ds i n g' it ⟨l,a,b,c,d⟩=>k J G' H' o ds i n g' it ⟨l,a,b,c,fun ys e q=>ack (d ys e q)⟩)
end
end VL
namespace VL
open PySem L2
section
variable {B:Bs} {QE:En->Prop} {Q':PyData->En->Prop} {s:Sl} {r:En} {A:Own} {d:PyData} {x0 x1 x2 x3 x4 x5 x6 x7 x8 x9 x10 x11 x12 x13 x14 x15 x16 x17 x18 x19 x20 x21 x22 x23 x24 x25:Option Sl}
theorem axp (h:QE (x0 :: some s :: r)):EvG B (aa1 1) s (x0 :: x1 :: r) QE:=aau h
theorem axq (h:QE (x0 :: x1 :: some s :: r)):EvG B (aa1 2) s (x0 :: x1 :: x2 :: r) QE:=aau h
theorem axr (h:QE (x0 :: x1 :: x2 :: some s :: r)):EvG B (aa1 3) s (x0 :: x1 :: x2 :: x3 :: r) QE:=aau h
theorem axs (h:QE (x0 :: x1 :: x2 :: x3 :: some s :: r)):EvG B (aa1 4) s (x0 :: x1 :: x2 :: x3 :: x4 :: r) QE:=aau h
theorem axt (h:QE (x0 :: x1 :: x2 :: x3 :: x4 :: some s :: r)):EvG B (aa1 5) s (x0 :: x1 :: x2 :: x3 :: x4 :: x5 :: r) QE:=aau h
theorem axu (h:QE (x0 :: x1 :: x2 :: x3 :: x4 :: x5 :: some s :: r)):EvG B (aa1 6) s (x0 :: x1 :: x2 :: x3 :: x4 :: x5 :: x6 :: r) QE:=aau h
theorem axv (h:QE (x0 :: x1 :: x2 :: x3 :: x4 :: x5 :: x6 :: some s :: r)):EvG B (aa1 7) s (x0 :: x1 :: x2 :: x3 :: x4 :: x5 :: x6 :: x7 :: r) QE:=aau h
theorem axw (h:QE (x0 :: x1 :: x2 :: x3 :: x4 :: x5 :: x6 :: x7 :: some s :: r)):EvG B (aa1 8) s (x0 :: x1 :: x2 :: x3 :: x4 :: x5 :: x6 :: x7 :: x8 :: r) QE:=aau h
theorem axx (h:QE (x0 :: x1 :: x2 :: x3 :: x4 :: x5 :: x6 :: x7 :: x8 :: some s :: r)):EvG B (aa1 9) s (x0 :: x1 :: x2 :: x3 :: x4 :: x5 :: x6 :: x7 :: x8 :: x9 :: r) QE:=aau h
theorem ave (h:QE (x0 :: x1 :: x2 :: x3 :: x4 :: x5 :: x6 :: x7 :: x8 :: x9 :: some s :: r)):EvG B (aa1 10) s (x0 :: x1 :: x2 :: x3 :: x4 :: x5 :: x6 :: x7 :: x8 :: x9 :: x10 :: r) QE:=aau h
theorem avf (h:QE (x0 :: x1 :: x2 :: x3 :: x4 :: x5 :: x6 :: x7 :: x8 :: x9 :: x10 :: some s :: r)):EvG B (aa1 11) s (x0 :: x1 :: x2 :: x3 :: x4 :: x5 :: x6 :: x7 :: x8 :: x9 :: x10 :: x11 :: r) QE:=aau h
theorem avg (h:QE (x0 :: x1 :: x2 :: x3 :: x4 :: x5 :: x6 :: x7 :: x8 :: x9 :: x10 :: x11 :: some s :: r)):EvG B (aa1 12) s (x0 :: x1 :: x2 :: x3 :: x4 :: x5 :: x6 :: x7 :: x8 :: x9 :: x10 :: x11 :: x12 :: r) QE:=aau h
theorem avh (h:QE (x0 :: x1 :: x2 :: x3 :: x4 :: x5 :: x6 :: x7 :: x8 :: x9 :: x10 :: x11 :: x12 :: some s :: r)):EvG B (aa1 13) s (x0 :: x1 :: x2 :: x3 :: x4 :: x5 :: x6 :: x7 :: x8 :: x9 :: x10 :: x11 :: x12 :: x13 :: r) QE:=aau h
theorem avi (h:QE (x0 :: x1 :: x2 :: x3 :: x4 :: x5 :: x6 :: x7 :: x8 :: x9 :: x10 :: x11 :: x12 :: x13 :: some s :: r)):EvG B (aa1 14) s (x0 :: x1 :: x2 :: x3 :: x4 :: x5 :: x6 :: x7 :: x8 :: x9 :: x10 :: x11 :: x12 :: x13 :: x14 :: r) QE:=aau h
theorem avj (h:QE (x0 :: x1 :: x2 :: x3 :: x4 :: x5 :: x6 :: x7 :: x8 :: x9 :: x10 :: x11 :: x12 :: x13 :: x14 :: some s :: r)):EvG B (aa1 15) s (x0 :: x1 :: x2 :: x3 :: x4 :: x5 :: x6 :: x7 :: x8 :: x9 :: x10 :: x11 :: x12 :: x13 :: x14 :: x15 :: r) QE:=aau h
theorem avk (h:QE (x0 :: x1 :: x2 :: x3 :: x4 :: x5 :: x6 :: x7 :: x8 :: x9 :: x10 :: x11 :: x12 :: x13 :: x14 :: x15 :: some s :: r)):EvG B (aa1 16) s (x0 :: x1 :: x2 :: x3 :: x4 :: x5 :: x6 :: x7 :: x8 :: x9 :: x10 :: x11 :: x12 :: x13 :: x14 :: x15 :: x16 :: r) QE:=aau h
theorem avl (h:QE (x0 :: x1 :: x2 :: x3 :: x4 :: x5 :: x6 :: x7 :: x8 :: x9 :: x10 :: x11 :: x12 :: x13 :: x14 :: x15 :: x16 :: some s :: r)):EvG B (aa1 17) s (x0 :: x1 :: x2 :: x3 :: x4 :: x5 :: x6 :: x7 :: x8 :: x9 :: x10 :: x11 :: x12 :: x13 :: x14 :: x15 :: x16 :: x17 :: r) QE:=aau h
end
end VL
namespace Gr
structure Ring (T:Int->Int->Prop) (a:Int) (k:Nat) (far:Int->Option Nat) (edge:List Int):Prop where
 lab:∀ v d,far v=some d ↔ (Dist T a v d/\d<=k)
 edg:∀ v,v∈edge ↔ Dist T a v k
structure Mid (T:Int->Int->Prop) (k:Nat) (far0:Int->Option Nat) (edge:List Int) (done:Int->Prop) (far:Int->Option Nat) (beyond:List Int):Prop where
 old:∀ v d,far0 v=some d->far v=some d
 new:∀ v,v∈beyond ↔ (far0 v=none/\far v ≠ none)
 val:∀ v d,far0 v=none->far v=some d->d=k+1/\∃ u,u∈edge/\T u v
 dn:∀ u w,done u->T u w->far w ≠ none
def label (far:Int->Option Nat) (w:Int) (d:Nat):Int->Option Nat:=fun v=>if v=w then some d else far v
theorem label_same {far:Int->Option Nat} {w:Int} {d:Nat}:label far w d w=some d:=aD9 rfl
theorem label_ne {far:Int->Option Nat} {w v:Int} {d:Nat} (h:v ≠ w):label far w d v=far v:=aE0 h
variable {T:Int->Int->Prop} {a:Int} {k:Nat} {far0 far:Int->Option Nat} {edge beyond:List Int} {done:Int->Prop}
theorem Ring.start:Ring T a 0 (label (fun _=>none) a 0) [a]:=by
 refine ⟨fun v d=>?_,fun v=>?_⟩
 ·by_cases h:v=a
  ·subst h
   rw [label_same]
   constructor
   ·intro e;cases e;exact ⟨Dist.self T v,az6 _⟩
   ·rintro ⟨h,_⟩;rw [h.uniq (Dist.self T v)]
  ·rw [label_ne h]
   constructor
   ·intro e;cases e
   ·rintro ⟨b,c⟩
    have:d=0:=by omega
    subst this
    cases b.1
    exact absurd rfl h
 ·simp only [aB2]
  constructor
  ·rintro rfl;exact Dist.self T v
  ·intro h;cases h.1;rfl
theorem Mid.start:Mid T k far0 edge (fun _=>False) far0 [] :=
 ⟨fun v d h=>h,fun v=>⟨fun h=>by simp at h,fun h=>absurd h.1 h.2⟩,fun v d h g=>(by rw [h] at g;cases g),fun u w h=>h.elim⟩
theorem Mid.add (m:Mid T k far0 edge done far beyond) {u w:Int} (i:u∈edge) (t:T u w) (b:far w=none):Mid T k far0 edge done (label far w (k+1)) (beyond ++ [w]):=by
 have a:far0 w=none:=by
  cases e:far0 w with
  | none=>rfl
  | some d=>rw [m.old w d e] at b;cases b
 refine ⟨fun v d h=>?_,fun v=>?_,fun v d h g=>?_,fun x y f c=>?_⟩
 ·rw [label_ne (by rintro rfl;rw [a] at h;cases h)];exact m.old v d h
 ·by_cases hv:v=w
  ·subst hv
   simp [label_same,a]
  ·rw [label_ne hv]
   simp only [az7,aB2,hv,or_false]
   exact m.new v
 ·by_cases hv:v=w
  ·subst hv
   rw [label_same] at g
   cases g
   exact ⟨rfl,u,i,t⟩
  ·rw [label_ne hv] at g
   exact m.val v d h g
 ·by_cases hv:y=w
  ·subst hv;rw [label_same];simp
  ·rw [label_ne hv];exact m.dn x y f c
theorem Mid.did (m:Mid T k far0 edge done far beyond) {u:Int} (h:∀ w,T u w->far w ≠ none):Mid T k far0 edge (fun x=>done x\/x=u) far beyond :=
 ⟨m.old,m.new,m.val,fun x w a t=>by rcases a with a | rfl;exact m.dn x w a t;exact h w t⟩
theorem Mid.imp {a:Int->Prop} (m:Mid T k far0 edge done far beyond) (h:∀ u,a u->done u):Mid T k far0 edge a far beyond :=
 ⟨m.old,m.new,m.val,fun x w b t=>m.dn x w (h x b) t⟩
theorem Ring.next (r:Ring T a k far0 edge) (m:Mid T k far0 edge done far beyond) (hd:∀ u∈edge,done u):Ring T a (k+1) far beyond:=by
 have g:∀ v,far0 v=none->far v ≠ none->Dist T a v (k+1):=fun v f b=>by
  cases e:far v with
  | none=>exact absurd e b
  | some d =>
   obtain ⟨rfl,u,l,t⟩:=m.val v d f e
   obtain ⟨j,p,h⟩:=((r.edg u).mp l).next t
   by_cases i:j<=k
   ·rw [(r.lab v j).mpr ⟨h,i⟩] at f;cases f
   ·have:j=k+1:=by omega
    rw [← this];exact h
 have c:∀ v,Dist T a v (k+1)->far0 v=none/\far v ≠ none:=fun v h=>by
  refine ⟨?_,?_⟩
  ·cases e:far0 v with
   | none=>rfl
   | some d =>
    obtain ⟨b,n⟩:=(r.lab v d).mp e
    have:=b.uniq h
    omega
  ·obtain ⟨u,t,l⟩:=h.pred
   exact m.dn u v (hd u ((r.edg u).mpr l)) t
 refine ⟨fun v d=>?_,fun v=>⟨fun h=>?_,fun h=>(m.new v).mpr (c v h)⟩⟩
 ·constructor
  ·intro e
   cases e0:far0 v with
   | some d0 =>
    rw [m.old v d0 e0] at e
    cases e
    obtain ⟨b,n⟩:=(r.lab v d).mp e0
    exact ⟨b,by omega⟩
   | none =>
    have i:=(m.val v d e0 e).1
    subst i
    exact ⟨g v e0 (by rw [e];simp),az6 _⟩
  ·rintro ⟨h,i⟩
   by_cases hd':d<=k
   ·exact m.old v d ((r.lab v d).mpr ⟨h,hd'⟩)
   ·have o:d=k+1:=by omega
    subst o
    obtain ⟨f,b⟩:=c v h
    cases e:far v with
    | none=>exact absurd e b
    | some d=>rw [(m.val v d f e).1]
 ·obtain ⟨f,b⟩:=(m.new v).mp h
  exact g v f b
theorem Dist.down {v:Int}:∀ {d:Nat},Dist T a v d->∀ j,j<=d->∃ u,Dist T a u j
 | 0,h,j,hj=>⟨v,by rw [show j=0 by omega];exact h⟩
 | d+1,h,j,hj=>by
  by_cases e:j=d+1
  ·rw [e];exact ⟨v,h⟩
  ·obtain ⟨u,_,b⟩:=h.pred
   exact Dist.down b j (by omega)
def farO (T:Int->Int->Prop) (a v:Int):Option Nat:=open Classical in if h:∃ d,Dist T a v d then some (Classical.choose h) else none
theorem farO_some {v:Int} {d:Nat}:farO T a v=some d ↔ Dist T a v d:=by
 unfold farO
 constructor
 ·intro h
  split at h
  ·rename_i b
   cases h
   exact Classical.choose_spec b
  ·cases h
 ·intro h
  have b:∃ d,Dist T a v d:=⟨d,h⟩
  rw [dif_pos b,(Classical.choose_spec b).uniq h]
theorem farO_none {v:Int}:farO T a v=none ↔ ∀ d,¬ Dist T a v d:=by
 constructor
 ·intro h d hd
  rw [farO_some.mpr hd] at h;cases h
 ·intro h
  cases e:farO T a v with
  | none=>rfl
  | some d=>exact absurd (farO_some.mp e) (h d)
theorem avm {v:Int} {o:Option Nat} (h:∀ d,o=some d ↔ Dist T a v d):o=farO T a v:=by
 cases o with
 | some d=>exact (farO_some.mpr ((h d).mp rfl)).symm
 | none=>exact (farO_none.mpr fun d hd=>by cases (h d).mpr hd).symm
theorem Ring.fin (r:Ring T a k far0 []) (v:Int):far0 v=farO T a v:=by
 refine avm fun d=>?_
 rw [r.lab]
 refine ⟨fun h=>h.1,fun h=>⟨h,?_⟩⟩
 apply Classical.byContradiction
 intro c
 obtain ⟨u,b⟩:=h.down k (by omega)
 have:=(r.edg u).mpr b
 simp at this
theorem Walk.app {u v w:Int} {i j:Nat} (h:Walk T u i v) (g:Walk T v j w):Walk T u (i+j) w:=by
 induction g with
 | refl=>exact h
 | step _ t ih=>exact .step ih t
theorem Walk.rev (hs:∀ u v,T u v->T v u) {u v:Int} {i:Nat} (h:Walk T u i v):Walk T v i u:=by
 induction h with
 | refl=>exact .refl
 | @step j x y _ t ih =>
  have:=(Walk.step (T:=T) (u:=y) .refl (hs _ _ t)).app ih
  rw [Nat.add_comm] at this
  exact this
theorem Dist.lt {n:Nat} (s:∀ u v,T u v->0<=v/\v < (n:Int)) (ha:0<=a/\a < (n:Int)) {v:Int} {d:Nat} (h:Dist T a v d):d < n:=by
 -- the places of a shortest way are unlike
 have g:∀ d v,Dist T a v d->∃ l:List Int,l.length=d+1/\l.Nodup/\∀ x∈l,(0<=x/\x < (n:Int))/\∃ j,j<=d/\Dist T a x j:=by
  intro d
  induction d with
  | zero =>
   intro v h
   have:v=a:=by cases h.1;rfl
   subst this
   exact ⟨[v],rfl,by simp,fun x b=>by simp at b;subst b;exact ⟨ha,0,az6 _,h⟩⟩
  | succ d ih =>
   intro v h
   obtain ⟨u,t,w⟩:=h.pred
   obtain ⟨l,i,c,f⟩:=ih u w
   refine ⟨v :: l,by simp [i],aG8.mpr ⟨fun hm=>?_,c⟩,fun x b=>?_⟩
   ·obtain ⟨_,j,o,hd⟩:=f v hm
    have:=hd.uniq h
    omega
   ·rcases az9.mp b with rfl | b
    ·exact ⟨s _ _ t,d+1,az6 _,h⟩
    ·obtain ⟨q,j,o,hd⟩:=f x b
     exact ⟨q,j,by omega,hd⟩
 obtain ⟨l,i,c,f⟩:=g d v h
 have few:∀ (n:Nat) (l:List Int),l.Nodup->(∀ v∈l,0<=v/\v < (n:Int))->l.length<=n:=by
  intro n
  induction n with
  | zero =>
   intro l _ h
   cases l with
   | nil=>simp
   | cons v r=>have:=h v (by simp);omega
  | succ n ih =>
   intro l hn h
   have i:=ih (l.erase (n:Int)) (hn.erase _) fun v m=>by
    have hm:=List.mem_of_mem_erase m
    have hb:=h v hm
    have p:v ≠ (n:Int):=by
     rintro rfl
     exact absurd m (List.Nodup.not_mem_erase hn)
    omega
   have c:l.length<=(l.erase (n:Int)).length+1:=by
    rw [List.length_erase]
    split <;> omega
   omega
 have:=few n l c fun x b=>(f x b).1
 omega
end Gr
namespace VL
open PySem PySem.Spec L2
theorem nodup_ix {α:Type} {xs:List α} (h:xs.Nodup) {i j:Nat} (hi:i < xs.length) (a:j < xs.length) (e:xs[i]=xs[j]):i=j:=by
 have p:=aF1.mp h
 rcases Nat.lt_trichotomy i j with q | q | q
 ·exact absurd e (p i j hi a q)
 ·exact q
 ·exact absurd e.symm (p j i a hi q)
def OLL (dss:List (List PyData)):Own where
 P:=fun G H v F=>∃ (a:Addr) (as:List Addr),v=.ref a/\H a=some (.lst (as.map V.ref))/\as.Nodup/\a ∉ as/\as.length=dss.length/\(∀ (i:Nat) b ds,as[i]?=some b->dss[i]?=some ds->∃ vs,H b=some (.lst vs)/\Rps G vs ds)/\∀ b,F b ↔ b=a\/b∈as
 mono:=fun ⟨a,as,e,h,n1,n2,l,r,f⟩ g hh=>⟨a,as,e,hh a _ ((f a).mpr (.inl rfl)) h,n1,n2,l,fun i b ds hb hd=>by
  obtain ⟨vs,h1,h2⟩:=r i b ds hb hd
  exact ⟨vs,hh b _ ((f b).mpr (.inr (az2 hb))) h1,h2.same g⟩,f⟩
 dom:=fun ⟨a,as,e,h,n1,n2,l,r,f⟩ b z=>by
  rcases (f b).mp z with rfl | z
  ·exact ⟨_,h⟩
  ·obtain ⟨i,hi,e⟩:=aG0.mp z
   have hb:as[i]?=some b:=by rw [az0 hi,e]
   obtain ⟨vs,h1,_⟩:=r i b _ hb (az0 (by rw [← l];exact hi))
   exact ⟨_,h1⟩
theorem alh {G:Hp}:∀ {vs:List V} {ds:List PyData},vs.length=ds.length->(∀ (i:Nat) v d,vs[i]?=some v->ds[i]?=some d->Rp G v d)->Rps G vs ds
 | [],[],_,_ => .nil
 | [],_ :: _,h,_=>by simp at h
 | _ :: _,[],h,_=>by simp at h
 | v :: vs,d :: ds,h,k => .cons (k 0 v d rfl rfl) (alh (by simpa using h) fun i v d a b=>k (i+1) v d (by simpa using a) (by simpa using b))
theorem age {c:List (List PyData)}:Frz (OLL c) (.list (c.map .list)):=fun G H v F ⟨a,as,e,h,q,p,l,r,f⟩ n g=>by
 subst e
 refine .lst (by rw [af9 ((f a).mpr (.inl rfl))];exact h) (alh (by simp [l]) fun i u d j hd=>?_)
 rw [az5] at j hd
 cases hb:as[i]? with
 | none=>rw [hb] at j;cases j
 | some b =>
  cases hds:c[i]? with
  | none=>rw [hds] at hd;cases hd
  | some ds =>
   rw [hb] at j;rw [hds] at hd
   cases j;cases hd
   obtain ⟨vs,o,m⟩:=r i b ds hb hds
   exact .lst (by rw [af9 ((f b).mpr (.inr (az2 hb)))];exact o) (m.same (abm n))
section
variable {B:Bs} {env:En} {QO:Sl->En->Prop} {Q':PyData->En->Prop} {D':VEnds} {K:Frag} {i:Nat}
theorem axy {a:List (List PyData)} {R:PyData->Prop} (h:R (.list (a.map .list))):FQ (.own (OLL a)) R:=⟨_,age,h⟩
theorem avn {src:List (Option Nat)} {wi:TI} {j:Nat} (h:EvI B wi env fun ds X=>ds.length<=1000000/\QO (.own (OLL (List.replicate ds.length []))) X):EvO B (tLC src wi (aa1 j) tYes (tLst tNil)) env QO:=fun σ G H F Q I k=>by
 refine h σ G H F _ I fun J T L F1 ds X s g1 it ⟨a0,q⟩ c d=>?_
 let W:Nat->List V->Hp->Prop:=fun n ys H=>∃ (as:List Addr) (g:Hp),ys=as.map V.ref/\as.length=n/\as.Nodup/\c ∉ as/\(∀ b∈as,L b=none/\g b=none/\H b=some (.lst []))/\H c=some (.lst ys)/\g c=none/\Same T g/\Same g H/\Same L H/\(∀ a o,g a=some o->T a=some o\/L a=none)/\FT g H
 refine ⟨fun n m ys σI H=>m=ds.length - n/\n<=ds.length/\W n ys H,⟨ds.length,by simp,aE4 _,[],T,rfl,rfl,List.nodup_nil,by simp,fun b hb=>by simp at hb,aak,s.no_g d,Same.refl _,s.gh.trans (acp d),acp d,fun a o e => .inl e,fun a Z e=>?_⟩,?_⟩
 ·by_cases z:a=c
  ·subst z;rw [aak] at e;cases e
  ·rw [aag z] at e;exact s.ft a Z e
 rintro n m ys σI H2 ⟨rfl,hn,as,g,rfl,R,nd,na,all,f,S,A,l,r,D,v⟩
 refine ⟨f,?_⟩
 by_cases hlt:n < ds.length
 ·refine .inr ⟨it.go n g H2 A l hlt,fun E Y H'=>W (n+1) E H',fun E Y H' hw=>⟨ds.length - (n+1),by omega,rfl,hlt,hw⟩,fun x H3 y=>?_⟩
  obtain ⟨M,o⟩:=it.yld n g H2 x H3 _ A l v (az0 hlt) y
  refine amx (apn (adh (awx (apl ⟨by decide,fun p C=>?_⟩))))
  have n2:H2 p=none:=ab9 o.hh C
  have n1:L p=none:=ab9 r n2
  have U:p ≠ c:=(aat (o.hh _ _ f) C).symm
  have K:p ∉ as:=fun z=>by
   have:=o.hh _ _ (all p z).2.2
   rw [this] at C;cases C
  refine ⟨by rw [aag U.symm];exact o.hh _ _ f,by rw [az3,R];exact big (by omega),as ++ [p],M,by simp,by simp [R],?_,?_,fun b hb=>?_,aak,?_,A.trans o.gg,fun a u e=>?_,fun a u e=>?_,fun a u e=>?_,fun a Z e=>?_⟩
  ·rw [List.nodup_append]
   exact ⟨nd,by simp,fun x hx y hy=>by simp at hy;subst hy;intro e;subst e;exact K hx⟩
  ·intro z
   rcases az7.mp z with z | z
   ·exact na z
   ·exact U (aB2.mp z).symm
  ·have gb:∀ b,g b=none->(∃ u,H2 b=some u)->M b=none:=fun b P z_=>by
    obtain ⟨u,h2⟩:=z_
    cases e:M b with
    | none=>rfl
    | some w =>
     rcases o.gn b w e with e | e
     ·rw [P] at e;cases e
     ·rw [h2] at e;cases e
   rcases az7.mp hb with hb | hb
   ·obtain ⟨P,h2,h3⟩:=all b hb
    refine ⟨P,gb b h2 ⟨_,h3⟩,?_⟩
    rw [aag (fun z:b=c=>na (by rw [← z];exact hb)),aag (fun z:b=p=>K (by rw [← z];exact hb))]
    exact o.hh _ _ h3
   ·have e:b=p:=by simpa using hb
    subst e
    exact ⟨n1,ab9 o.gh C,by rw [aag U,aak]⟩
  ·cases e:M c with
   | none=>rfl
   | some w =>
    rcases o.gn c w e with e | e
    ·rw [S] at e;cases e
    ·rw [f] at e;cases e
  ·have O:a ≠ p:=aat (o.gh a u e) C
   have N:a ≠ c:=by
    rintro rfl
    rcases o.gn _ u e with e | e
    ·rw [S] at e;cases e
    ·rw [f] at e;cases e
   rw [aag N,aag O];exact o.gh a u e
  ·have O:a ≠ p:=aat e n1
   have N:a ≠ c:=aat e d
   rw [aag N,aag O];exact o.hh _ _ (r a u e)
  ·rcases o.gn a u e with e | e
   ·exact D a u e
   ·exact .inr (ab9 r e)
  ·by_cases z:a=c
   ·subst z;rw [aak] at e;cases e
   ·rw [aag z] at e
    by_cases y:a=p
    ·subst y;rw [aak] at e;cases e
    ·rw [aag y] at e;exact o.ft v a Z e
 ·have e:n=ds.length:=by omega
  subst e
  refine .inl ⟨it.stop _ g H2 A l rfl,?_⟩
  have I2:=s.grow A l r D v
  refine k (.ref c) g H2 F1 (fun b=>b=c\/b∈as) (.own (OLL (List.replicate ds.length []))) X I2 (g1.trans A) ⟨⟨c,as,rfl,f,nd,na,by simp [R],fun i b a1 hb hd=>?_,fun b=>Iff.rfl⟩,fun b z=>?_,fun b z=>?_,fun b z=>?_,fun j b z y=>?_⟩ q
  ·rw [aG1] at hd
   split at hd
   ·cases hd;exact ⟨[],(all b (az2 hb)).2.2,.nil⟩
   ·cases hd
  ·rcases z with rfl | z
   ·exact s.no_b d
   ·exact s.no_b (all b z).1
  ·rcases z with rfl | z
   ·exact S
   ·exact (all b z).2.1
  ·rcases z with rfl | z
   ·exact ⟨_,f⟩
   ·exact ⟨_,(all b z).2.2⟩
  ·rcases z with rfl | z
   ·exact s.no_f d j y
   ·exact s.no_f (all b z).1 j y
theorem adp {d:List (List PyData)} {l j n:Nat} {k:Int} {y:PyData} {ds:List PyData} (e:env[i]?=some (some (.own (OLL d)))) (U:env[l]?=some (some (.st (.int k)))) (R:env[j]?=some (some (.st y)))
  (P:ixN d.length k=some n) (hd:d[n]?=some ds) (hl:ds.length<=999999) (q:Q' .none (env.set i (some (.own (OLL (d.set n (ds ++ [y]))))))):Ev B (tBM K "list" aem (tOp (ab8 K) (tVar i) (tVar l)) (acn (tVar j) tNil)) env Q':=fun σ G H F Q I X=>by
 obtain ⟨v,E,⟨a,as,rfl,h,L,N,ln,r,f⟩,_⟩:=I.sl i _ e
 obtain ⟨vk,C,W,_⟩:=I.sl l _ U
 obtain ⟨vy,x,T,_⟩:=I.sl j _ R
 cases W
 have hn:n < d.length:=(az1.mp hd).1
 have hb:as[n]?=some (as[n]'(by omega)):=az0 _
 generalize as[n]'(by omega)=b at hb
 have s:b∈as:=az2 hb
 obtain ⟨vs,O,M⟩:=r n b ds hb hd
 have u:atI (as.map V.ref) k=some (.ref b):=by
  unfold atI
  rw [az3,ln,P]
  simp [hb]
 refine ⟨_,E,_,C,ae4 h u ⟨.inl ⟨rfl,_,SqL.of O⟩,_,x,afj O (by rw [M.length];exact big (by omega)) ?_⟩⟩
 have w:a ≠ b:=fun z=>N (z ▸ s)
 have J:=I.change (A:=OLL (d.set n (ds ++ [y]))) (H2:=upd H b (.lst (vs ++ [vy]))) (F2:=F i) (os':=.own (OLL (d.set n (ds ++ [y])))) i e E (fun c o p D=>by rw [aag (fun z:c=b=>p ((f c).mpr (.inr (by rw [z];exact s))))];exact D)
  (fun c o D=>by
   by_cases z:c=b
   ·rw [z];exact ⟨_,aak⟩
   ·rw [aag z];exact ⟨o,D⟩)
  (fun c z=>⟨.inl z,by
   by_cases y:c=b
   ·rw [y];exact ⟨_,aak⟩
   ·rw [aag y];exact I.fo i c z⟩) ?_ (fun c ks e=>by
   by_cases z:c=b
   ·subst z;rw [aak] at e;cases e
   ·rw [aag z] at e;exact I.ft c ks e) (.inl ⟨rfl,_,rfl⟩)
 ·exact X _ G _ _ _ _ J (Same.refl _) .non q
 ·refine ⟨a,as,rfl,by rw [aag w];exact h,L,N,by simp [ln],fun m c es p g=>?_,f⟩
  by_cases hm:m=n
  ·subst hm
   rw [hb] at p;cases p
   rw [aC2,aD9 rfl,aD9 hn] at g
   cases g
   exact ⟨_,aak,M.append (.cons T .nil)⟩
  ·rw [aC2,aE0 (fun z=>hm z.symm)] at g
   obtain ⟨us,h3,h4⟩:=r m c es p g
   refine ⟨us,?_,h4⟩
   rw [aag]
   ·exact h3
   ·rintro rfl
    have i1:=(az1.mp hb)
    have i2:=(az1.mp p)
    obtain ⟨Y,Z⟩:=i1
    obtain ⟨l2,S⟩:=i2
    exact hm (nodup_ix L l2 Y (S.trans Z.symm))
end
@[reducible] def prD (p:Int × Int):PyData:=.tuple [.int p.1,.int p.2]
@[reducible] def webD (n:Int) (es:List (Int × Int)):PyData:=.tuple [.int n,.list (es.map prD)]
def Tied (es:List (Int × Int)) (u v:Int):Prop:=(u,v)∈es\/(v,u)∈es
theorem Tied.symm {es:List (Int × Int)} {u v:Int} (h:Tied es u v):Tied es v u:=h.elim .inr .inl
def InN (n:Int) (es:List (Int × Int)):Prop:=∀ p∈es,0<=p.1/\p.1 < n/\0<=p.2/\p.2 < n
theorem Tied.in {n:Int} {es:List (Int × Int)} {u v:Int} (hi:InN n es) (h:Tied es u v):(0<=u/\u < n)/\0<=v/\v < n:=by
 rcases h with h | h
 ·have:=hi _ h;exact ⟨⟨this.1,this.2.1⟩,this.2.2⟩
 ·have:=hi _ h;exact ⟨⟨this.2.2.1,this.2.2.2⟩,this.1,this.2.1⟩
theorem Tied.snoc {es:List (Int × Int)} {i:Nat} {a b:Int} (h:es[i]?=some (a,b)) (u v:Int):Tied (es.take (i+1)) u v ↔ (Tied (es.take i) u v\/(u=a/\v=b))\/(u=b/\v=a):=by
 have e:es.take (i+1)=es.take i ++ [(a,b)]:=by rw [aF8,h];rfl
 unfold Tied
 rw [e]
 simp only [az7,aB2,Prod.mk.injEq]
 constructor
 ·rintro ((h | ⟨rfl,rfl⟩) | (h | ⟨rfl,rfl⟩))
  ·exact .inl (.inl (.inl h))
  ·exact .inl (.inr ⟨rfl,rfl⟩)
  ·exact .inl (.inl (.inr h))
  ·exact .inr ⟨rfl,rfl⟩
 ·rintro (((h | h) | ⟨rfl,rfl⟩) | ⟨rfl,rfl⟩)
  ·exact .inl (.inl h)
  ·exact .inr (.inl h)
  ·exact .inl (.inr ⟨rfl,rfl⟩)
  ·exact .inr (.inr ⟨rfl,rfl⟩)
def TiedL (n:Int) (T:Int->Int->Prop) (tl:List (List Int)):Prop:=(tl.length:Int)=n/\∀ (i:Nat) ws,tl[i]?=some ws->∀ w,w∈ws ↔ T i w
def oD:Option Nat->PyData
 | none => .none
 | some d => .int d
def lab (n:Nat) (far:Int->Option Nat):List PyData:=(List.range n).map fun (i:Nat)=>oD (far (i:Int))
theorem acl {n:Nat} {far:Int->Option Nat}:(lab n far).length=n:=by simp [lab]
theorem adu {n:Nat} {far:Int->Option Nat} {i:Nat} (h:i < n):(lab n far)[i]?=some (oD (far i)):=by
 unfold lab
 rw [az5,az0 (by simpa using h)]
 simp
theorem ap4 {n:Nat} {far:Int->Option Nat} {v:Int} (a:0<=v) (h:v < n):atI (lab n far) v=some (oD (far v)):=by
 have:=af1 (xs:=lab n far) (j:=v.toNat) (adu (by omega))
 rwa [show ((v.toNat:Nat):Int)=v by omega] at this
theorem aew {n:Nat} {v:Int} (a:0<=v) (h:v < n):ixN n v=some v.toNat:=by
 unfold ixN;rw [aD9 a,aD9 h]
theorem anf {n:Nat} {far:Int->Option Nat} {v:Int} {d:Nat} (a:0<=v) (h:v < n):(lab n far).set v.toNat (.int d)=lab n (Gr.label far v d):=by
 apply aE6
 intro i
 rw [aC2]
 by_cases e:v.toNat=i
 ·rw [aD9 e,aD9 (by rw [acl];omega),adu (by omega)]
  have:(i:Int)=v:=by omega
  rw [this,Gr.label_same];rfl
 ·rw [aE0 e]
  by_cases hi:i < n
  ·rw [adu hi,adu hi,Gr.label_ne (by omega)]
  ·rw [aE1.mpr (by rw [acl];omega),aE1.mpr (by rw [acl];omega)]
theorem ap5 {n:Nat} {f g:Int->Option Nat} (h:∀ v,0<=v->v < (n:Int)->f v=g v):lab n f=lab n g:=by
 unfold lab
 apply aD3
 intro i hi
 rw [h i (by omega) (by have:=aA9.mp hi;omega)]
theorem avo {o:Option Nat}:isNone (oD o)=o.isNone:=by cases o <;> rfl
theorem adk {α:Type} {f : α->PyData} {xs:List α} {i:Int} {x : α} (h:atI xs i=some x):atI (xs.map f) i=some (f x):=by
 unfold atI at h ⊢
 rw [az3]
 cases e:ixN xs.length i with
 | none=>rw [e] at h;cases h
 | some j=>rw [e] at h;simp at h ⊢;exact ⟨_,h,rfl⟩
theorem aed {α:Type} {xs:List α} {i:Int} {x : α} (a:0<=i) (h:xs[i.toNat]?=some x):atI xs i=some x:=by
 have:=af1 (xs:=xs) (j:=i.toNat) h
 rwa [show ((i.toNat:Nat):Int)=i by omega] at this
@[reducible] def tlD (tl:List (List Int)):List (List PyData):=tl.map fun ws=>ws.map .int
theorem TiedL.get {n:Int} {T:Int->Int->Prop} {tl:List (List Int)} (h:TiedL n T tl) {v:Int} (d:0<=v) (c:v < n):∃ a,tl[v.toNat]?=some a/\∀ w,w∈a ↔ T v w:=by
 have b:v.toNat < tl.length:=by have:=h.1;omega
 refine ⟨tl[v.toNat],az0 b,fun w=>?_⟩
 rw [h.2 _ _ (az0 b) w,show ((v.toNat:Nat):Int)=v by omega]
theorem adw {tl:List (List Int)} {i:Nat} {a:List Int} (h:tl[i]?=some a):(tlD tl)[i]?=some (a.map .int):=by
 rw [az5,h];rfl
theorem TiedL.put {n:Int} {T:Int->Int->Prop} {tl:List (List Int)} (h:TiedL n T tl) {v q:Int} {c:List Int} (g:0<=v) (j:v < n) (d:tl[v.toNat]?=some c):TiedL n (fun a b=>T a b\/(a=v/\b=q)) (tl.set v.toNat (c ++ [q])):=by
 refine ⟨by rw [List.length_set];exact h.1,fun i us hi w=>?_⟩
 rw [aC2] at hi
 by_cases e:v.toNat=i
 ·rw [aD9 e] at hi
  have l:v.toNat < tl.length:=(az1.mp d).1
  rw [aD9 (by omega)] at hi
  cases hi
  have f:(i:Int)=v:=by omega
  rw [az7,aB2,h.2 i c (by rw [← e];exact d) w,f]
  simp
 ·rw [aE0 e] at hi
  rw [h.2 i us hi w]
  exact ⟨.inl,fun z=>z.elim id fun z=>by omega⟩
theorem agf {tl:List (List Int)} {i:Nat} {a:List Int}:(tlD tl).set i (a.map .int)=tlD (tl.set i a):=by
 unfold tlD;rw [List.map_set]
theorem TiedL.iff {n:Int} {T a:Int->Int->Prop} {tl:List (List Int)} (h:TiedL n T tl) (e:∀ u v,T u v ↔ a u v):TiedL n a tl:=⟨h.1,fun i b hi w=>(h.2 i b hi w).trans (e _ _)⟩
end VL
namespace VL
open PySem L2
def cnt (far:Int->Option Nat):Nat->Nat
 | 0=>0
 | n+1=>cnt far n+(if far (n:Int)=none then 1 else 0)
theorem afc {far:Int->Option Nat} {w:Int} {d:Nat}:∀ {n:Nat},(w:Int) ≥ n->cnt (Gr.label far w d) n=cnt far n
 | 0,_=>rfl
 | n+1,h=>by
  unfold cnt
  rw [afc (by omega),Gr.label_ne (by omega)]
theorem ai2 {far:Int->Option Nat} {w:Int} {d:Nat} (b:0<=w) (a:far w=none):∀ {n:Nat},w < (n:Int)->cnt (Gr.label far w d) n+1=cnt far n
 | 0,h=>by omega
 | n+1,h=>by
  unfold cnt
  by_cases e:w=n
  ·subst e
   rw [afc (by omega),Gr.label_same,a];simp
  ·rw [Gr.label_ne (by omega)]
   have:=ai2 b a (n:=n) (d:=d) (by omega)
   omega
theorem avp (n:Nat):(List.replicate n [PyData.none]).flatten=lab n (fun _=>none):=by
 apply aE6
 intro i
 by_cases hi:i < n
 ·rw [adu hi]
  have:(List.replicate n [PyData.none]).flatten=List.replicate n PyData.none:=by
   clear hi
   induction n with
   | zero=>rfl
   | succ n ih=>rw [aF7,List.flatten_cons,ih,aF7];rfl
  rw [this,aG1,aD9 hi];rfl
 ·rw [aE1.mpr (by rw [amu];simp;omega),aE1.mpr (by rw [acl];omega)]
theorem amh {α:Type} {f : α->PyData} {xs:List α}:(xs.map f).isEmpty=xs.isEmpty:=by cases xs <;> rfl
theorem adl {xs:List Int} {j:Nat} {u w:Int} (a:xs[j]?=some u) (hm:w∈xs.take (j+1)):w∈xs.take j\/w=u:=by
 rw [aF8,a] at hm
 rcases az7.mp hm with q | q
 ·exact .inl q
 ·exact .inr (by simpa using q)
theorem ap6 {n:Nat} {far:Int->Option Nat}:plainDs (lab n far)=true:=by
 rw [aeh]
 intro d hd
 obtain ⟨i,_,rfl⟩:=aA7.mp hd
 cases far (i:Int) <;> rfl
theorem avq {n:Nat} {far:Int->Option Nat}:((lab n far).any fun z=>PyData.eqv z .none)=true ↔ ∃ v:Int,0<=v/\v < n/\far v=none:=by
 rw [List.any_eq_true]
 constructor
 ·rintro ⟨d,hd,e⟩
  obtain ⟨i,hi,rfl⟩:=aA7.mp hd
  refine ⟨i,by omega,by have:=aA9.mp hi;omega,?_⟩
  cases h:far (i:Int) with
  | none=>rfl
  | some d=>rw [h] at e;simp [oD,PyData.eqv] at e
 ·rintro ⟨v,b,a,h⟩
  refine ⟨oD (far v),?_,by rw [h];rfl⟩
  have:=adu (far:=far) (show v.toNat < n by omega)
  rw [show ((v.toNat:Nat):Int)=v by omega] at this
  exact az2 this
def Joined (n:Int) (es:List (Int × Int)):Prop:=∀ v,0<=v->v < n->∃ d,Gr.Dist (Tied es) 0 v d
end VL
namespace DI
open PySem PySem.W
def Raw (h:Heap) (d:Addr) (es:Array DictEntry) (ep:Nat):Prop:=∃ o,h.get? d=some o/\o.ExactDict/\o.data=.dict es ep
theorem Raw.keep {h h':Heap} {d:Addr} {es:Array DictEntry} {ep:Nat} (r:Raw h d es ep) (k:∀ o,h.get? d=some o->h'.get? d=some o):Raw h' d es ep:=let ⟨o,e,x⟩:=r;⟨o,k o e,x⟩
theorem Raw.ty {s:Shared} {d:Addr} {es:Array DictEntry} {ep:Nat} (r:Raw s.heap d es ep):s.TypeIs (.ref d) "dict":=let ⟨o,e,x,_⟩:=r;⟨o,e,x.1⟩
section
variable {prog:Program} {w:World} {A:Around} {E:Value->Shared->Prop} {s:Shared} {d it:Addr} {es:Array DictEntry} {ep i:Nat}
theorem raw_iter {Q:Value->Shared->Prop} (hd:(d == sysModules)=false) (r:Raw s.heap d es ep)
  (c:Q (.ref s.heap.objs.size) { s with heap:=s.heap.push { cls:=.type "dict_keyiterator",data:=.fields #[.ref d,.int 0 0,.int es.size 0,.int ep 0] } }):wpAny (model prog w) A (pyIter (.ref d)) Q E s:=by
 obtain ⟨o,b,f,a⟩:=id r
 refine wpAny_pyIter_slot r.ty PySem.F.slot_dict_iter (aI4 PySem.F.slot_dict_iter r.ty PySem.F.entry_dict_iter ?body (PySem.F.args_dict_iter_1 _))
 case body =>
  unfold Builtin.«dict.__iter__»
  refine aH1 ?slot
  case slot =>
   unfold Builtin.Dict.dictSlotNone
   refine aH1 (wpAny_notOrdered_dict r.ty ?pl)
   case pl =>
    show wpAny _ _ (pure (Value.ref d)) _ _ s
    refine aH2 ?rest
    case rest =>
     show wpAny _ _ (Builtin.Dict.showsAll d >>= _) _ _ s
     unfold Builtin.Dict.showsAll
     rw [aE0 (by rw [hd];exact aA0)]
     refine aH1 (aH2 (aH1 (wpAny_dictEntries b a (aH1 (wpAny_dictEpoch b a (aH1 (aI1 (aH2 ⟨_,rfl,"dict_keyiterator",_,⟨_,aH5 _ rfl,rfl⟩,PySem.F.slot_dict_keyiterator_next.lookup,?fin⟩))))))))
     case fin=>simpa [rawInt] using c
theorem raw_item {Q:Option Value->Shared->Prop} (a:s.heap.IsKeyIter it d i es.size ep) (r:Raw s.heap d es ep) (hi:i < es.size)
  (x:∀ h',h'.IsKeyIter it d (i+1) es.size ep->Heap.SameBut it s.heap h'->Q (some es[i].key) { s with heap:=h' }):wpAny (model prog w) A (pyNext (.ref it)) Q E s:=by
 obtain ⟨o,q,u,hd⟩:=id a
 obtain ⟨od,n,v,p⟩:=r
 unfold pyNext
 refine aH1 (wpAny_attempt (wpAny_callSpecial?_slot (name:=Str.ofString "__next__") a.typeIs PySem.F.slot_dict_keyiterator_next (aI4 PySem.F.slot_dict_keyiterator_next a.typeIs PySem.F.entry_dict_keyiterator_next ?b (PySem.F.args_dict_keyiterator_next_1 _))))
 case b =>
  refine aH1 (aH2 (aH1 (aH1 ?c)))
  case c =>
   first | refine aH1 (wpAny_typeNameOfWhole_keyiter a.typeIs (aH2 (aH1 (wpAny_fieldsOf q hd ?e)))) | refine aH1 (wpAny_typeNameOf_keyiter a.typeIs (aH2 (aH1 (wpAny_fieldsOf q hd ?e))))
   case e =>
    simp only [show Builtin.Dict_items.ownsTuple "dict_keyiterator" = false by decide,Bool.false_eq_true,if_false]
    show wpAny _ _ (if (Value.ref d == Value.none)=true then _ else _) _ _ s;rw [aE0 (show ¬ ((Value.ref d == Value.none)=true) from aA0)]
    refine aH1 (aH2 (aH1 (wpAny_dictEntries n p ?f)))
    case f =>
     rw [aE0 (by simp)];refine aH1 (aH2 (aH1 (wpAny_dictEpoch n p ?g)))
     case g =>
      rw [aE0 (by simp)];refine aH2 ?h
      case h =>
       simp only [show ¬ ((i:Int) < 0) by omega,if_false,Int.toNat_natCast,az4 hi];refine aH1 ?j
       case j =>
        first | refine aH1 (wpAny_typeNameOfWhole_keyiter a.typeIs (aH2 (aH1 (wpAny_isOneOf_keyiter a.typeIs ?k)))) | refine aH1 (wpAny_typeNameOf_keyiter a.typeIs (aH2 (aH1 (wpAny_isOneOf_keyiter a.typeIs ?k))))
        case k =>
         show wpAny _ _ (setField (.ref it) 1 (rawInt ((i:Int)+1)) >>= _) _ _ s;refine aH1 (wpAny_setField q hd (by simp) ?l)
         case l =>
          have nx:(s.heap.update it (Obj.mapFields (·.setIfInBounds 1 (rawInt ((i:Int)+1))))).IsKeyIter it d (i+1) es.size ep:=⟨_,aI7 _ q (Obj.isFreed_of_fields (Obj.data_mapFields hd _)),(Obj.cls_mapFields ..).trans u,by rw [Obj.data_mapFields hd];simp [rawInt]⟩
          refine aH1 (aH7 (aH1 (wpAny_isOneOf_keyiter (s:={ s with heap:=s.heap.update it (Obj.mapFields (·.setIfInBounds 1 (rawInt ((i:Int)+1)))) }) nx.typeIs ?m)))
          case m=>show wpAny _ _ (pure es[i].key) _ _ _;exact aH2 (aH2 ⟨_,rfl,aH2 (x _ nx (Heap.SameBut.update ..))⟩)
theorem raw_end {Q:Option Value->Shared->Prop} (hh:A.handled=none) (i:s.heap.IsKeyIter it d es.size es.size ep) (r:Raw s.heap d es ep) (x:∀ h',Heap.ExtBut it s.heap h'->Q none { s with heap:=h' }):wpAny (model prog w) A (pyNext (.ref it)) Q E s:=by
 obtain ⟨o,u,y,hd⟩:=id i
 obtain ⟨od,n,v,p⟩:=r
 unfold pyNext
 refine aH1 (wpAny_attempt (wpAny_callSpecial?_slot (name:=Str.ofString "__next__") i.typeIs PySem.F.slot_dict_keyiterator_next (aI4 PySem.F.slot_dict_keyiterator_next i.typeIs PySem.F.entry_dict_keyiterator_next ?b (PySem.F.args_dict_keyiterator_next_1 _))))
 case b =>
  refine aH1 (aH2 (aH1 (aH1 ?c)))
  case c =>
   first | refine aH1 (wpAny_typeNameOfWhole_keyiter i.typeIs (aH2 (aH1 (wpAny_fieldsOf u hd ?e)))) | refine aH1 (wpAny_typeNameOf_keyiter i.typeIs (aH2 (aH1 (wpAny_fieldsOf u hd ?e))))
   case e =>
    simp only [show Builtin.Dict_items.ownsTuple "dict_keyiterator" = false by decide,Bool.false_eq_true,if_false]
    show wpAny _ _ (if (Value.ref d == Value.none)=true then _ else _) _ _ s;rw [aE0 (show ¬ ((Value.ref d == Value.none)=true) from aA0)]
    refine aH1 (aH2 (aH1 (wpAny_dictEntries n p ?f)))
    case f =>
     rw [aE0 (by simp)];refine aH1 (aH2 (aH1 (wpAny_dictEpoch n p ?g)))
     case g =>
      rw [aE0 (by simp)];refine aH2 ?h
      case h =>
       simp only [show ¬ ((es.size:Int) < 0) by omega,if_false,Int.toNat_natCast,Array.getElem?_eq_none (az6 es.size)];refine aH1 ?j
       case j =>
        first | refine aH1 (wpAny_typeNameOfWhole_keyiter i.typeIs (aH2 ?k)) | refine aH1 (wpAny_typeNameOf_keyiter i.typeIs (aH2 ?k))
        case k =>
         show wpAny _ _ (setField (.ref it) 0 .none >>= _) _ _ s;refine aH1 (wpAny_setField u hd (by simp) ?l)
         case l =>
          show wpAny _ _ (newExc (.type "StopIteration") [] >>= _) _ _ _;refine aH1 ?m
          case m =>
           simp only [newExc,newTuple];refine aH1 (aI1 ?zz2 (by size_fits))
           case zz2 =>
            refine aH1 (m:=firstArgMember _ _) (wpAny_of_eq (a:=Value.none) (by first | rfl | (simp only [firstArgMember];rfl)) (aI1 ?zz1 (by size_fits)))
            case zz1 =>
             simp only [raiseNew];refine aH1 (wpAny_handled ?q)
             case q =>
              rw [show A.in1.handled=none from hh];refine aH1 (aH2 (wpAny_throw ?u1))
              case u1=>refine aH1 (wpAny_isInstance (T:="StopIteration") (b:=true) ⟨_,aH5 _ rfl,rfl⟩ isSubtype_stop ?u2);exact aH2 (x _ (((Heap.SameBut.update ..).extBut.push _).push _))
end
theorem walks {prog:Program} {w:World} {A:Around} (hh:A.handled=none) (I d:Addr) (c:d ≠ I) (es:Array DictEntry) (ep:Nat) :
  Walks prog w A I [I,d] [I] es.size (fun i v=>(es[i]?).map (·.key)=some v) (fun i h=>h.IsKeyIter I d i es.size ep/\Raw h d es ep) where
 sub:=fun b hb=>by simp at hb;simp [hb]
 frame:=fun _ _ _ st f=>⟨st.1.at fun o e=>f I (by simp) o e,st.2.keep fun o e=>f d (by simp) o e⟩
 item:=fun i s Q E hi st a=>raw_item st.1 st.2 hi fun h' nx sb=>a _ h' s.toks (by rw [az4 hi];rfl) ⟨nx,st.2.keep fun o e=>sb.extBut d o c e⟩ fun b o hb e=>sb.extBut b o (fun z=>hb (by simp [z])) e
 done:=fun s Q E st a=>raw_end hh st.1 st.2 fun h' g=>a h' s.toks fun b o hb e=>g b o (fun z=>hb (by simp [z])) e
 self:=fun _ _ _ _ st a=>wpAny_pyIter_keyiter st.1 a
end DI
namespace DI
open PySem PySem.W PyProof.Rows
section
variable {prog:Program} {w:World} {A:Around} {E:Value->Shared->Prop} {s:Shared}
theorem src (d:Addr) (es:Array DictEntry) (ep:Nat) (hd:(d == sysModules)=false):KdlSrc prog w "dict" d d es.size (fun i v=>(es[i]?).map (·.key)=some v) (fun h=>Raw h d es ep) where
 type:=fun s r=>r.ty
 there:=fun h r=>let ⟨o,e,_⟩:=r;⟨aH4 e,aH4 e⟩
 keep:=fun h h' r k=>r.keep fun o e=>k d (.inl rfl) o e
 notList:=by decide
 notTuple:=by decide
 hint:=fun A E s Q r q=>kdl_hint_dict r.ty q
 iter:=fun A s hh r=>⟨{ cls:=.type "dict_keyiterator",data:=.fields #[.ref d,.int 0 0,.int es.size 0,.int ep 0] },fun i h=>h.IsKeyIter s.heap.objs.size d i es.size ep/\Raw h d es ep,fun E Q q=>raw_iter hd r q,
  walks hh s.heap.objs.size d (by obtain ⟨o,e,_⟩:=r;exact aA6 (aH4 e)) es ep,⟨_,aH5 _ rfl,rfl,rfl⟩,r.keep fun o e=>aH3 _ e⟩
end
end DI
namespace TS
open PySem PySem.W PyProof.Rows
section
variable {prog:Program} {w:World} {A:Around} {E:Value->Shared->Prop} {s:Shared}
end
end TS
namespace L2
open PySem PySem.Spec PyProof.Rows
section
variable {X:Cx} {pins:List (Addr × Obj)} {σ:St} {H:Hp} {s:Shared} {h':Heap}
theorem Inv.turnNew {t':Nat} {ch:List Addr} {T:Addr} {o:HO} (I:Inv X pins σ H s) (f:∀ b∈ch,FpOk X pins H b) (k:∀ b u,b ∉ ch->s.heap.get? b=some u->h'.get? b=some u) (g:s.heap.objs.size<=T) (new:ObjOk X.prog X.w (upd H T o) h' T o) :
  Inv X pins σ (upd H T o) { s with heap:=h',toks:=t' }:=by
 have hn:H T=none:=I.hok.fresh g
 have d:∀ b u,H b=some u->b ∉ ch:=fun b u e z=>by rw [(f b z).1] at e;cases e
 refine I.step (g':=s.gens) (d':=s.drawn) (ch:=ch) (fun b hb=>⟨(f b hb).2.2.2.1,(f b hb).2.1,(f b hb).2.2.2.2.1,(f b hb).2.2.2.2.2⟩) (fun b u _ _ a e _=>k b u a e) (fun b u _ _ a e _=>⟨u.slots,k b u a e⟩)
  (fun b u _ e n=>by rw [aag (aA6 (aB5 (aH4 e) g))];exact n) (fun b u a e=>⟨u,k b u a e⟩) (fun b xs e=>by rw [aag (aat e hn)];exact e) (fun b u v e=>by rw [aag (aat e hn)];exact e)
  (fun b ps e=>⟨#[],by rw [aag (aat e hn),e];simp⟩) (fun m hm=>?_) (fun b u e=>?_) I.bare
 ·obtain ⟨u,es,ep,h,r⟩:=hm
  exact ⟨u,es,ep,k _ u (fun z=>(f _ z).2.1 rfl) h,r⟩
 ·by_cases hb:b=T
  ·subst hb;rw [aak] at e;cases e;exact new
  ·rw [aag hb] at e
   refine (I.hok b u e).stay (fun c v a q=>k c v ?_ q) (fun c q=>by rw [aag (aat q hn)];exact q) fun c xs q=>by rw [aag (aat q hn)];exact q
   rcases a with z | z
   ·rw [z];exact d b u e
   ·exact d c _ z
theorem Inv.turnedL {t':Nat} {ch:List Addr} (I:Inv X pins σ H s) (f:∀ b∈ch,FpOk X pins H b) (k:∀ b u,b ∉ ch->s.heap.get? b=some u->h'.get? b=some u):Inv X pins σ H { s with heap:=h',toks:=t' }:=by
 have d:∀ b u,H b=some u->b ∉ ch:=fun b u e z=>by rw [(f b z).1] at e;cases e
 refine I.step (g':=s.gens) (d':=s.drawn) (ch:=ch) (fun b hb=>⟨(f b hb).2.2.2.1,(f b hb).2.1,(f b hb).2.2.2.2.1,(f b hb).2.2.2.2.2⟩) (fun b u _ _ a e _=>k b u a e) (fun b u _ _ a e _=>⟨u.slots,k b u a e⟩) (fun _ _ _ _ n=>n)
  (fun b u a e=>⟨u,k b u a e⟩) (fun _ _ e=>e) (fun _ _ _ e=>e) (fun b ps e=>⟨#[],by rw [e];simp⟩) (fun m hm=>?_) (fun b u e=>?_) I.bare
 ·obtain ⟨u,es,ep,g,r⟩:=hm
  exact ⟨u,es,ep,k _ u (fun z=>(f _ z).2.1 rfl) g,r⟩
 ·refine (I.hok b u e).stay (fun c v a q=>k c v ?_ q) (fun _ q=>q) fun _ _ q=>q
  rcases a with z | z
  ·rw [z];exact d b u e
  ·exact d c _ z
end
def Ite (K:Frag) (a:Addr):It :=
 ⟨fun i H=>∃ xs x,SqL K H a xs/\xs[i]?=some x,fun i H x H'=>∃ p y,x=.ref p/\H p=none/\H'=upd H p (.tup [.int i,y])/\∀ xs,SqL K H a xs->xs[i]?=some y,fun i H=>∃ xs,SqL K H a xs/\xs.length<=i⟩
theorem ap7 {P:Program} {w:World} {K:Frag} {f:List Expr} {k:Nat} {pos:Pos} (a e it:Addr) (F:e ≠ it) (G:a ≠ e) (S:a ≠ it) :
  Turn P w K (.Tuple f k pos) (Ite K a) [e,it] e (fun i h=>(∃ old,IsEnum h e it i old)/\h.IsListIter it a i) where
 mem:=by simp
 obj:=fun i h st b hb=>by
  obtain ⟨⟨old,g⟩,o,O,c,d⟩:=st
  rcases az9.mp hb with rfl | hb
  ·exact ⟨_,g,fun v z=>by simp at z⟩
  ·have:b=it:=by simpa using hb
   subst this
   exact ⟨o,O,fun v z=>by rw [d] at z;cases z⟩
 keep:=fun i h h' st q=>⟨let ⟨old,g⟩:=st.1;⟨old,q e (by simp) _ g⟩,st.2.at fun o x=>q it (by simp) o x⟩
 item:=by
  intro X j M B J i pins s σ H E I hf st N
  subst j M B
  obtain ⟨xs,x,r,R⟩:=N
  obtain ⟨its,U,p,hz⟩:=I.list r
  obtain ⟨u,hu,ru⟩:=U.get R
  have hi:i < its.toArray.size:=by simpa using (az1.mp hu).1
  have W:=WalksT.enumerate (prog:=X.prog) (w:=X.w) (I.ok.hd J) e it a F G S its.toArray
  refine W.item i s _ _ hi ⟨st.1,st.2,p.isList⟩ fun T Y h1 tk j hT D mid kk=>⟨_,rfl,?_⟩
  obtain ⟨t,y,C,rfl⟩:=j
  have ey:y=u:=by
   have:its[i]?=some y:=by simpa using C
   rw [hu] at this;cases this;rfl
  subst ey
  have Z:=W.apart i T _ mid
  refine W.go f k pos i T { s with heap:=h1,toks:=tk } _ _ mid fun h2 m k2=>?_
  have l:IsTup h2 T #[.int i t,y]:=by
   obtain ⟨o,O,e2,n,e3⟩:=D
   exact ⟨o,k2 T o Z O,e2,n,e3⟩
  refine ⟨.ref T,upd H T (.tup [.int i,x]),I.turnNew hf (fun b o hb q=>k2 b o hb (kk b o hb q)) hT ?_,rfl,⟨T,x,rfl,I.hok.fresh hT,rfl,fun ys C=>by rw [I.list_inj C r];exact R⟩,⟨?_,m.2.1⟩,fun b hb=>?_⟩
  ·exact ⟨by show (2:Nat)<=sizeLine;decide,[.int i t,y],.cons ⟨t,rfl⟩ (.cons ru .nil),l⟩
  ·obtain ⟨old,q⟩:=m.1
   exact ⟨old,by simpa using q⟩
  ·rw [aag]
   ·exact (hf b hb).1
   ·rintro rfl;exact Z hb
 done:=by
  intro X j M B J i pins s σ H E I hf st N
  subst j M B
  obtain ⟨xs,r,R⟩:=N
  obtain ⟨its,U,p,hz⟩:=I.list r
  obtain ⟨⟨old,g⟩,L⟩:=st
  have hl:=U.length
  exact wpAny_pyNext_enum_end (I.ok.hd J) g L p.isList (by simp;omega) fun h2 eb=>⟨rfl,I.turnedL (t':=s.toks) hf fun b o hb q=>eb b o (fun z=>hb (by simp [z])) q⟩
 self:=fun A i s Q E st h=>by
  obtain ⟨⟨old,g⟩,_⟩:=st
  exact wpAny_pyIter_enum g h
section
variable {X:Cx} {elts:List Expr} {k:Nat} {tpos:Pos}
def atr (K:Frag) (ta:TA):TI:=fun σ H R=>ta σ H fun vs H1=>∃ a xs,vs=[.ref a]/\SqL K H1 a xs/\R (Ite K a) H1
theorem avr {a:Expr} {l:TA} {p pos:Pos} (r:Gl X "enumerate") (hm:X.mg "enumerate" = none) (ha:PA X [a] l) (hs:starEach [a] X.env=[(false,eval a X.env)]:=by rfl):PI X (.Tuple elts k tpos) (.Call (.Name "enumerate" p) [a] [] pos) (atr X.K l):=by
 intro pins s σ H R I h
 refine Call_ (adc I r hm aks (PyProof.Rows.callWith_type1 (thn (ha pos pins s σ H _ I h) fun us s1 ⟨vs,v,f,y,a,xs,m,x,q⟩=>?_) hs rfl))
 subst m
 obtain ⟨u,rfl,w⟩:=acj y
 cases w
 obtain ⟨its,A,j,hz⟩:=f.list x
 refine call_enumerate_list j.isList fun z i g hsz kp=>?_
 have d:a < s1.heap.objs.size:=by obtain ⟨o,n,e,_⟩:=j;exact aH4 e
 refine wpAny_pyIter_enum i ⟨s1.heap.objs.size+1,[s1.heap.objs.size+1,s1.heap.objs.size],_,_,v,rfl,f.kept (t':=s1.toks) kp,ap7 a _ _ (Nat.succ_ne_self _) (aA6 (aE2 d)) (aA6 d),⟨⟨_,i⟩,g⟩,fun b hb=>?_,q⟩
 have c:s1.heap.objs.size<=b:=by
  rcases az9.mp hb with rfl | hb
  ·exact Nat.le_succ _
  ·have:b=s1.heap.objs.size:=by simpa using hb
   exact Nat.le_of_eq this.symm
 exact f.fpOk c (f.hok.fresh c)
end
section
variable {X:Cx} {elts:List Expr} {k:Nat} {tpos:Pos}
end
theorem ang:∀ {xs:List V} {us:List Value},xs.length=us.length->(∀ (i:Nat) v u,xs[i]?=some v->us[i]?=some u->RelV v u)->Vals xs us
 | [],[],_,_ => .nil
 | [],_ :: _,h,_=>by simp at h
 | _ :: _,[],h,_=>by simp at h
 | x :: xs,u :: us,h,k => .cons (k 0 x u rfl rfl) (ang (by simpa using h) fun i v w a b=>k (i+1) v w (by simpa using a) (by simpa using b))
theorem axz:bootBuiltins "abs" = some (.builtin "abs"):=by decide +kernel
theorem ami (prog:Program) (w:World) (A:Around) {bs:List Bool} {us:List Value} (r:Vals (bs.map V.bl) us):TruthOf prog w A (fun i v=>us.toArray[i]?=some v) (fun i=>bs.getD i false):=by
 intro i v s Q E d h
 have a:us[i]?=some v:=by simpa using d
 have hi:i < us.length:=(az1.mp a).1
 have hb:i < bs.length:=by have:=r.length;simp at this;omega
 obtain ⟨u,b,c⟩:=r.get (i:=i) (x:=.bl bs[i]) (by simp [hb])
 rw [a] at b;cases b
 cases (show v=Value.bool bs[i] from c)
 have e:bs.getD i false=bs[i]:=by simp [List.getD,hb]
 have h':Q (bs.getD i false) s:=h
 rw [e] at h'
 exact aI5 h'
section
variable {X:Cx}
theorem ap8 (bs:List Bool):((List.range bs.length).all fun i=>bs.getD i false)=bs.all id:=by
 rw [aG2,aD8,aD8]
 constructor
 ·intro h b hb
  obtain ⟨i,hi,e⟩:=aG0.mp hb
  have:=h i (aA9.mpr hi)
  simp [List.getD,hi,e] at this
  exact this
 ·intro h i hi
  have a:=aA9.mp hi
  have:=h bs[i] (aD6 a)
  simp [List.getD,a];exact this
def rAll (K:Frag):List V->Hp->VK->Prop:=fun xs H Q=>∃ (a:Addr) (bs:List Bool),xs=[.ref a]/\SqL K H a (bs.map V.bl)/\Q (.bl (bs.all id)) H
theorem afq (g:X.calm=true):abh X (.builtin "all") (rAll X.K):=by
 intro pins s σ H xs us Q I r h
 obtain ⟨a,bs,rfl,ha,q⟩:=h
 obtain ⟨u,rfl,f⟩:=acj r
 cases f
 obtain ⟨its,d,c,_⟩:=I.list ha
 have i:a < s.heap.objs.size:=by obtain ⟨o,n,e,_⟩:=c;exact aH4 e
 have hz:its.toArray.size=bs.length:=by have:=d.length;simp at this;simp [this]
 refine call_all_walk (aI6 c.isList ⟨_,[s.heap.objs.size,a],_,_,_,_,_,rfl,Walks.list (A:=X.A.in1) (I.ok.hd g) _ a (aA6 i) its.toArray,⟨⟨_,aH5 _ rfl,rfl,rfl⟩,c.isList.push _⟩,ami _ _ _ d,fun l j kp=>?_⟩)
 rw [hz,ap8]
 refine ⟨.bl _,H,I.kept fun b o e=>kp b o (fun z=>?_) (aH3 _ e),rfl,q⟩
 exact absurd (aH4 e) (by rw [aB2.mp z];exact aE8 _)
def rAbs:List V->Hp->VK->Prop:=fun xs H Q=>∃ i:Int,xs=[.int i]/\Q (.int (if i < 0 then -i else i)) H
theorem ap9:abh X (.builtin "abs") rAbs:=by
 intro pins s σ H xs us Q I r h
 obtain ⟨i,rfl,q⟩:=h
 obtain ⟨u,rfl,t,rfl⟩:=acj r
 exact call_abs_int fun t' a=>⟨.int _,H,I.tok _,⟨_,rfl⟩,q⟩
def ali (K:Frag):List V->Hp->VK->Prop:=fun xs H Q=>∃ p ys,xs=[.ref p]/\(SqL K H p ys\/SqT K H p ys)/\∀ l,H l=none->Q (.ref l) (upd H l (.lst ys))
theorem ahm:abh X (.type "list") (ali X.K):=aki
def aqa (ta:TA):TE:=fun σ H Q=>ta σ H fun vs H1=>∃ j:Int,vs=[.int j]/\0<=j/\j<=1000000/\∀ l,H1 l=none->Q (.ref l) (upd H1 l (.lst ((List.range j.toNat).map fun (i:Nat)=>V.int (i:Int))))
theorem alj {a:Expr} {y:TA} {C p2 pos d:Pos} (E:Gl X "list") (hm:X.mg "list" = none) (x:Gl X "range") (p:X.mg "range" = none) (N:X.calm=true) (ha:PA X [a] y) (hs:starEach [a] X.env=[(false,eval a X.env)]:=by rfl)
  (l:starEach [.Call (.Name "range" p2) [a] [] d] X.env=[(false,eval (.Call (.Name "range" p2) [a] [] d) X.env)]:=by rfl):PE X (.Call (.Name "list" C) [.Call (.Name "range" p2) [a] [] d] [] pos) (aqa y):=by
 intro pins s σ H Q I h
 refine Call_ (adc I E hm af6 (PyProof.Rows.callWith_type1 ?_ l rfl))
 rw [l]
 refine Calls.spliced_cons (Call_ (adc I x p boot_range (PyProof.Rows.callWith_type1 (thn (ha d pins s σ H _ I h) fun us s1 ⟨vs,P,r,K,j,B,R,O,q⟩=>?_) hs rfl)))
 subst B
 obtain ⟨u,rfl,t,rfl⟩:=acj K
 refine call_range_1 (Calls.spliced_nil ?_)
 have J:IsRange (s1.heap.push { cls:=.type "range",data:=.fields #[.int 0 s1.toks,.int j t,.int 1 (s1.toks+1)] }) s1.heap.objs.size 0 j 1 s1.toks t (s1.toks+1):=aH5 _ rfl
 have hn:Builtin.Range.rangeSize 0 j 1=((j.toNat:Nat):Int):=by rw [rangeSize_one];split <;> omega
 refine call_list_range (s:={ s1 with heap:=s1.heap.push { cls:=.type "range",data:=.fields #[.int 0 s1.toks,.int j t,.int 1 (s1.toks+1)] },toks:=s1.toks+1+1 }) (r.ok.hd N) J (small_one (by omega) (by omega) (by omega) (by omega)) hn (by omega) fun D A g c kp G items=>?_
 have L:∀ b o,s1.heap.get? b=some o->D.get? b=some o:=fun b o e=>kp b o (aH3 _ e)
 have f:s1.heap.objs.size<=(s1.heap.push { cls:=.type "range",data:=.fields #[.int 0 s1.toks,.int j t,.int 1 (s1.toks+1)] }).objs.size:=by rw [aI3];exact Nat.le_succ _
 refine ⟨.ref _,_,r.laid (t':=A) (o:=.lst ((List.range j.toNat).map fun (i:Nat)=>V.int (i:Int))) L f ?_,rfl,q _ (r.hok.fresh f)⟩
 refine ⟨by rw [az3,List.length_range];exact aE9 (VL.big (by omega)),g.toList,c,?_,by simpa using G⟩
 obtain ⟨M,w⟩:=items
 refine ang (by simp [M]) fun i v u n z=>?_
 have m:g[i]?=some u:=by simpa using z
 obtain ⟨t',F⟩:=w i u m
 rw [az5] at n
 have hi:i < j.toNat:=by
  have:=(Array.getElem?_eq_some_iff.mp m).1
  omega
 rw [az0 (by simpa using hi)] at n
 simp at n
 subst n
 exact ⟨t',by rw [F];simp⟩
end
section
variable {X:Cx} {pins:List (Addr × Obj)} {σ:St} {H:Hp} {s:Shared}
theorem Inv.toFrz {a:Addr} {o:Obj} {u:HO} (I:Inv X pins σ H s) (e:H a=some u) (l:s.heap.get? a=some o) (g:∀ xs,u ≠ .tup xs) (j:∀ o v,u ≠ .frz o v) (nb:∀ ps,u ≠ .tbl ps) (i:∀ x,u ≠ .own x):Inv X pins σ (upd H a (.frz o u)) s:=by
 have ne:∀ b v,H b=some v->v ≠ u->b ≠ a:=fun b v f h z=>by subst z;rw [e] at f;exact h (aB6 f).symm
 have J:=I.un (t':=s.toks) (H':=upd H a (.frz o u)) (h':=s.heap) ⟨fun b o q _ _ _=>q,fun b o q _ _ _=>⟨o.slots,q⟩,fun b o q n _=>by rw [aag (aat e n).symm];exact n,fun b o q _=>⟨o,q⟩,fun b xs q=>by rw [aag (ne b _ q (fun z=>g xs z.symm))];exact q,
  fun b w v q=>by rw [aag (ne b _ q (fun z=>j w v z.symm))];exact q,fun b ps q=>⟨#[],by rw [aag (ne b _ q (fun z=>nb ps z.symm)),q];simp⟩⟩ fun b v q=>?_
 ·exact J
 ·have st:∀ c v,ObjOk X.prog X.w H s.heap c v->ObjOk X.prog X.w (upd H a (.frz o u)) s.heap c v:=fun c v x=>x.stay (fun _ _ _ q=>q) (fun d q=>by rw [aag (ne d _ q (fun z=>i c z.symm))];exact q) fun d xs q=>by rw [aag (ne d _ q (fun z=>g xs z.symm))];exact q
  by_cases hb:b=a
  ·subst hb;rw [aak] at q;cases q
   exact ⟨l,st _ _ (I.hok b u e)⟩
  ·rw [aag hb] at q
   exact st _ _ (I.hok b v q)
end
def Itd (a:Addr) (kvs:List (List Key × V)) (o:Obj):It :=
 ⟨fun i H=>i < kvs.length/\H a=some (.frz o (.dT kvs)),fun i H x H'=>H'=H/\∃ b k,x=.ref b/\H b=some (.tup (k.map kV))/\(kvs[i]?).map (·.1)=some k,fun i H=>kvs.length=i/\H a=some (.frz o (.dT kvs))⟩
theorem KT.get {H:Hp}:∀ {kvs:List (List Key × V)} {xs:List (List Key × Addr × Value)} {i:Nat} {p:List Key × V},KT H kvs xs->kvs[i]?=some p->∃ q,xs[i]?=some q/\p.1=q.1/\H q.2.1=some (.tup (p.1.map kV))
 | _,_,_,_,.nil,e=>by simp at e
 | _,_,0,_,.cons r _,e=>by simp at e;subst e;exact ⟨_,rfl,r.1,r.2.1⟩
 | _,_,i+1,p,.cons _ t,e=>by
  obtain ⟨q,a,b⟩:=KT.get (i:=i) (p:=p) t (by simpa using e)
  exact ⟨q,by simpa using a,b⟩
theorem avs {P:Program} {w:World} {K:Frag} {tg:Expr} (a it:Addr) {kvs:List (List Key × V)} {o:Obj} {es:Array DictEntry} {ep:Nat} (O:o.ExactDict) (hd:o.data=.dict es ep) (hz:es.size=kvs.length) (hn:a ≠ it) :
  Turn P w K tg (Itd a kvs o) [it] it (fun i h=>h.IsKeyIter it a i es.size ep) where
 mem:=by simp
 obj:=fun i h st b hb=>by
  have e:b=it:=by simpa using hb
  subst e
  obtain ⟨u,e,c,d⟩:=st
  exact ⟨u,e,fun v z=>by rw [d] at z;cases z⟩
 keep:=fun i h h' st q=>st.at fun u e=>q it (by simp) u e
 item:=by
  intro X G r x M i pins s σ H E I hf st A
  subst G r x
  obtain ⟨hi,F⟩:=A
  have f:i < es.size:=by omega
  obtain ⟨j,z,y,xs,m,o',es',R,L,Z,N,U,h5⟩:=(show ObjOk X.prog X.w H s.heap a (.frz o (.dT kvs)) from I.hok a _ F)
  rw [j] at L;cases L
  rw [hd] at N;cases N
  obtain ⟨p,J⟩:∃ p,kvs[i]?=some p:=⟨_,az0 hi⟩
  obtain ⟨q,Y,T,l⟩:=KT.get m J
  have g:es[i].key=.ref q.2.1:=by
   have:es.toList[i]?=some es[i]:=by simp [f]
   rw [U,az5,Y] at this
   simp at this
   rw [← this];rfl
  obtain ⟨C,f1,S,D,B,n⟩:=hf it (by simp)
  refine DI.raw_item st ⟨o,j,O,hd⟩ f fun h' nx sb=>?_
  rw [g]
  have W:Inv X pins σ H { s with heap:=h' }:=I.turned (t':=s.toks) (fun b u hb e=>(sb.2 b hb).trans e) C f1 D B n
  obtain ⟨u,e,c,d⟩:=id nx
  exact ⟨_,rfl,anv (s:={ s with heap:=h' }) e c d (by decide) ⟨.ref q.2.1,H,W,rfl,⟨rfl,q.2.1,p.1,rfl,l,by rw [J];rfl⟩,nx,fun b hb=>(hf b hb).1⟩⟩
 done:=by
  intro X G r x M i pins s σ H E I hf st A
  subst G r x
  obtain ⟨hi,F⟩:=A
  obtain ⟨j,_⟩:=(show ObjOk X.prog X.w H s.heap a (.frz o (.dT kvs)) from I.hok a _ F)
  obtain ⟨C,f1,S,D,B,n⟩:=hf it (by simp)
  have e:i=es.size:=by omega
  subst e
  exact DI.raw_end (I.ok.hd M) st ⟨o,j,O,hd⟩ fun h' Q=>⟨rfl,I.turned (t':=s.toks) (fun b u hb e=>Q b u hb e) C f1 D B n⟩
 self:=fun _ _ _ _ _ st h=>wpAny_pyIter_keyiter st h
section
variable {X:Cx} {tg:Expr}
def iDT (te:TE):TI:=fun σ H R=>te σ H fun x H1=>∃ a kvs,x=.ref a/\H1 a=some (.dT kvs)/\∀ o,R (Itd a kvs o) (upd H1 a (.frz o (.dT kvs)))
theorem ay4 {l:Expr} {te:TE} (B:PE X l te):PI X tg l (iDT te):=by
 intro pins s σ H R I h
 refine thn (B pins s σ H _ I h) fun v s1 ⟨x,n,i,A,a,kvs,ex,m,q⟩=>?_
 subst ex
 cases A
 obtain ⟨z,y,xs,c,o,es,ep,f,g,j,p,D⟩:=(show ObjOk X.prog X.w n s1.heap a (.dT kvs) from i.hok a _ m)
 have hz:es.size=kvs.length:=by
  have r:es.toList.length=xs.length:=by rw [p];simp
  have C:=Paired.length c
  simp at r;omega
 have J:=i.toFrz (u:=.dT kvs) m f (fun _ z=>nomatch z) (fun _ _ z=>nomatch z) (fun _ z=>nomatch z) fun _ z=>nomatch z
 have d:a < s1.heap.objs.size:=aH4 f
 refine DI.raw_iter y ⟨o,f,g,j⟩ ⟨s1.heap.objs.size,[s1.heap.objs.size],_,_,_,rfl,J.kept (t':=s1.toks) fun b u e=>aH3 _ e,avs a _ g j hz (aA6 d),⟨_,aH5 _ rfl,rfl,rfl⟩,fun b hb=>?_,q o⟩
 have e:b=s1.heap.objs.size:=by simpa using hb
 subst e
 exact J.fpOk (az6 _) (J.hok.fresh (az6 _))
end
end L2
namespace VL
open PySem PySem.Spec L2
def enD (ds:List PyData):List PyData:=(List.range ds.length).map fun (i:Nat) => .tuple [.int (i:Int),ds.getD i .none]
theorem ae8 {ds:List PyData}:(enD ds).length=ds.length:=by simp [enD]
theorem anh {ds:List PyData} {i:Nat} {d:PyData} (h:(enD ds)[i]?=some d):∃ x,ds[i]?=some x/\d=.tuple [.int (i:Int),x]:=by
 unfold enD at h
 rw [az5] at h
 by_cases hi:i < ds.length
 ·rw [az0 (by simpa using hi)] at h
  simp at h
  refine ⟨ds[i],az0 hi,?_⟩
  rw [← h]
  simp [hi]
 ·rw [aE1.mpr (by simp;omega)] at h;cases h
theorem Out.tup2 {G H:Hp} {p:Addr} {x y:V} {d e:PyData} (g:Same G H) (h:H p=none) (a:Rp G x d) (b:Rp G y e):Out G H (.ref p) (upd G p (.tup [x,y])) (upd H p (.tup [x,y])) (.st (.tuple [d,e])) (fun _=>False):=Out.newT g h (.cons a (.cons b .nil))
section
variable {B:Bs} {env:En} {QI:List PyData->En->Prop} {QO:Sl->En->Prop} {Q':PyData->En->Prop} {K:Frag} {i:Nat} {ta:TA}
theorem asl (h:EvA B ta env fun vs e=>∃ ds,vs=[.list ds]/\QI (enD ds) e):EvI B (atr K ta) env QI:=fun σ G H F R I k =>
 h σ G H F _ I fun vs m n z ds w b o A l=>by
  obtain ⟨xs,c,f⟩:=l
  subst c
  cases A with
  | cons r t =>
   cases t
   cases r with
   | @lst a us _ ha rs =>
    refine ⟨a,us,rfl,SqL.of (b.gh _ _ ha),k _ m n z _ w b o ⟨fun i G' H' g h hi=>?_,fun i G' H' g h hi=>?_,fun i G' H' x H'' d g h ft hd y=>?_⟩ f⟩
    ·have:i < us.length:=by rw [rs.length];rw [ae8] at hi;exact hi
     exact ⟨us,us[i],SqL.of (h _ _ (g _ _ ha)),az0 this⟩
    ·exact ⟨us,SqL.of (h _ _ (g _ _ ha)),by rw [rs.length];rw [ae8] at hi;exact Nat.le_of_eq hi.symm⟩
    ·obtain ⟨p,v,rfl,s,rfl,j⟩:=y
     obtain ⟨dx,C,rfl⟩:=anh hd
     obtain ⟨u,D,q⟩:=rs.get C
     have:=j us (SqL.of (h _ _ (g _ _ ha)))
     rw [D] at this;cases this
     exact ⟨_,Out.tup2 h s (.int _) (q.same g)⟩
theorem RpT.len {G:Hp}:∀ {kvs:List (List Key × V)} {es:List (List Key × PyData)},RpT G kvs es->kvs.length=es.length/\kvs.map (·.1)=es.map (·.1)
 | _,_,.nil=>⟨rfl,rfl⟩
 | _,_,.cons _ t=>by
  obtain ⟨a,b⟩:=RpT.len t
  exact ⟨by simp [a],by simp [b]⟩
theorem agz {G:Hp}:∀ (a:List Key),Rps G (a.map kV) (a.map kD)
 | [] => .nil
 | .inl i :: r => .cons (.int i) (agz r)
 | .inr x :: r => .cons (.str x) (agz r)
@[reducible] def tkD (ks:List Key):PyData:=.tuple (ks.map kD)
theorem ax0 {es:List (List Key × PyData)} (e:env[i]?=some (some (.own (OT es)))) (q:QI (es.map fun p=>tkD p.1) (env.set i none)):EvI B (iDT (tVar i)) env QI:=fun σ G H F R I k=>by
 obtain ⟨v,s,⟨a,kvs,rfl,ha,rt,hf⟩,hb⟩:=I.sl i _ e
 refine ⟨_,s,a,kvs,rfl,ha,fun o=>?_⟩
 have c:F i a:=(hf a).mpr rfl
 have D:=(I.drop i).aside (p:=a) (o:=.frz o (.dT kvs)) (fun _ z=>nomatch z) (I.fg i a c) (fun j z=>by
  by_cases h:j=i
  ·subst h;exact putF_same.mp z
  ·rw [aa9 h] at z;exact h (I.fd j i a z c)) (hb a c)
 have J:=D.freeze (Fv:=(· = a)) (fun b z=>by rw [z];exact hb a c) (fun j b z y=>by
  rw [z] at y
  by_cases h:j=i
  ·subst h;exact putF_same.mp y
  ·rw [aa9 h] at y;exact h (I.fd j i a y c)) (fun b z=>by rw [z];exact I.fg i a c)
 have r:jn G (upd H a (.frz o (.dT kvs))) (· = a) a=some (.frz o (.dT kvs)):=(af9 (F:=(· = a)) rfl).trans aak
 obtain ⟨A,w⟩:=RpT.len rt
 refine k _ _ _ _ _ _ J (abm fun b z=>by rw [z];exact I.fg i a c) ⟨fun n G' H' g h hn=>⟨by simp at hn;omega,h _ _ (g _ _ r)⟩,fun n G' H' g h hn=>⟨by simp at hn;omega,h _ _ (g _ _ r)⟩,fun n G' H' x H'' d g h ft hd y=>?_⟩ q
 obtain ⟨rfl,b,f,rfl,l,u⟩:=y
 have:d=tkD f:=by
  rw [az5] at hd
  cases e2:es[n]? with
  | none=>rw [e2] at hd;cases hd
  | some p =>
   rw [e2] at hd;cases hd
   have m:(kvs.map (·.1))[n]?=some f:=by rw [az5];exact u
   rw [w,az5,e2] at m
   simp at m
   show tkD p.1=tkD f;rw [m]
 subst this
 exact ⟨G',Out.refl h (.tup (ft b f l) (agz f))⟩
@[reducible] def tiD (ns:List Int):PyData:=.tuple (ns.map .int)
def lexS (pss:List (List Int)):Prop:=pss.Pairwise fun x y=>HT.lexLt y x=false
theorem alk {G H:Hp} (ft:FT G H):∀ {vs:List V},(∀ v∈vs,TupI H v)->Rps G vs ((vs.map (kH H)).map tiD)
 | [],_ => .nil
 | v :: vs,h=>by
  obtain ⟨t,ns,rfl,e,_⟩:=h v aA8
  rw [aC1,aC1,aod e]
  have:(ns.map V.int)=(ns.map (fun i=>(Sum.inl i:Key))).map kV:=by rw [aC7];rfl
  refine .cons (.tup ?_ (Rps.ints ns)) (alk ft fun u a=>h u (aA5 _ a))
  rw [this];exact ft t _ (by rw [← this];exact e)
theorem agm {G H:Hp} (gh:Same G H):∀ {vs:List V} {pss:List (List Int)},Rps G vs (pss.map tiD)->(∀ ns∈pss,ns ≠ [])->(∀ v∈vs,TupI H v)/\vs.map (kH H)=pss
 | _,[],.nil,_=>⟨fun v d=>by simp at d,rfl⟩
 | v :: vs,ns :: pss,.cons r t,hn=>by
  obtain ⟨i1,b⟩:=agm gh t fun c hm=>hn c (aA5 _ hm)
  cases r with
  | tup h rs =>
   have:=Rps.ints_inv rs
   subst this
   have e:=gh _ _ h
   refine ⟨fun u a=>?_,by rw [aC1,aod e,b]⟩
   rcases az9.mp a with rfl | a
   ·exact ⟨_,ns,rfl,e,hn ns aA8⟩
   ·exact i1 u a
theorem aqb {pss:List (List Int)} (hn:∀ ns∈pss,ns ≠ []) (h:EvA B ta env fun ds e=>ds=[.list (pss.map tiD)]/\∀ b:List (List Int),b.Perm pss->lexS b->QO (.own (OL (b.map tiD))) e):EvO B (tCB (ahi K) ta) env QO:=fun σ G H F Q I k =>
 h σ G H F _ I fun vs y d s ds q c n u m=>by
  obtain ⟨g,i⟩:=m
  subst g
  cases u with
  | cons r t =>
   cases t
   cases r with
   | @lst a us _ ha rs =>
    obtain ⟨t1,l⟩:=agm c.gh rs hn
    refine ⟨a,us,rfl,SqL.of (c.gh _ _ ha),t1,fun w p f hs hf=>?_⟩
    have x:∀ v∈w,TupI d v:=fun v j=>t1 v (f.mem_iff.mp j)
    have o:=Out.newL c.gh hf (alk c.ft x)
    refine k _ _ _ s _ _ q (c.out o).1 (n.trans o.gg) (c.out o).2 (i _ ?_ ?_)
    ·have:=f.map (kH d);rw [l] at this;exact this
    ·unfold lexS;rw [aE5];exact hs
end
section
variable {B:Bs} {env:En} {QO:Sl->En->Prop} {Q':PyData->En->Prop} {K:Frag} {i:Nat} {ta:TA} {R:Sl->Prop}
theorem Rps.bools_inv {G:Hp}:∀ {bs:List Bool} {vs:List V},Rps G vs (bs.map PyData.bool)->vs=bs.map V.bl
 | [],_,.nil=>rfl
 | b :: bs,_,.cons r t=>by
  cases r
  rw [Rps.bools_inv t];rfl
theorem aic {bs:List Bool} (h:R (.st (.bool (bs.all id)))):OpA (rAll K) [.list (bs.map .bool)] R:=fun G H vs Q gh rs k=>by
 cases rs with
 | cons r t =>
  cases t
  cases r with
  | lst ha ra =>
   have:=Rps.bools_inv ra
   subst this
   exact ⟨_,bs,rfl,SqL.of (gh _ _ ha),k _ _ _ _ _ (Out.refl gh (.bl _)) h⟩
theorem avt {n:Int} (h:R (.st (.int (if n < 0 then -n else n)))):OpA rAbs [.int n] R:=fun G H vs Q gh rs k=>by
 obtain rfl:vs=[V.int n]:=Rps.ints_inv (ns:=[n]) rs
 exact ⟨n,rfl,k _ _ _ _ _ (Out.refl gh (.int _)) h⟩
theorem asm {ds:List PyData} (h:R (.own (OL ds))):OpA (ali K) [.list ds] R:=fun G H vs Q gh rs k=>by
 cases rs with
 | cons r t =>
  cases t
  cases r with
  | lst ha ra=>exact ⟨_,_,rfl,.inl (SqL.of (gh _ _ ha)),fun p a=>k _ _ _ _ _ (Out.newL gh a ra) h⟩
theorem aqc {G:Hp} (n:Nat):Rps G ((List.range n).map fun (i:Nat)=>V.int (i:Int)) (rngD 0 n):=by
 unfold rngD
 refine alh (by simp) fun i v d a hd=>?_
 rw [az5] at a hd
 cases e:(List.range n)[i]? with
 | none=>rw [e] at a;cases a
 | some m=>rw [e] at a hd;cases a;cases hd;show Rp G (.int (m:Int)) (.int (0+(m:Int)));rw [Int.zero_add];exact .int _
theorem aqd (h:EvA B ta env fun ds e=>∃ j:Int,ds=[.int j]/\0<=j/\j<=1000000/\QO (.own (OL (rngD 0 j.toNat))) e):EvO B (aqa ta) env QO:=fun σ G H F Q I k =>
 h σ G H F _ I fun vs r s n ds m a g q d=>by
  obtain ⟨j,b,i,f,c⟩:=d
  subst b
  obtain rfl:vs=[V.int j]:=Rps.ints_inv (ns:=[j]) q
  refine ⟨j,rfl,i,f,fun p l=>?_⟩
  have o:=Out.newL a.gh l (aqc j.toNat)
  exact k _ _ _ n _ _ m (a.out o).1 (g.trans o.gg) (a.out o).2 c
end
section
variable {κ:Type} [DecidableEq κ] {α:Type}
def valD (es:List (κ × α)) (k : κ):Option α:=(es.find? fun e=>decide (e.1=k)).map (·.2)
def putD (es:List (κ × α)) (k : κ) (d : α):List (κ × α):=if (es.any fun e=>decide (e.1=k))=true then es.map (fun e=>if e.1=k then (e.1,d) else e) else es ++ [(k,d)]
end
theorem RpK.val {G:Hp} {k:Key}:∀ {kvs:List (Key × V)} {es:List (Key × PyData)},RpK G kvs es->(valD es k=none->valV kvs k=none)/\∀ d,valD es k=some d->∃ v,valV kvs k=some v/\Rp G v d
 | _,_,.nil=>⟨fun _=>rfl,fun d h=>by cases h⟩
 | _,_,.cons (k:=k') r t=>by
  obtain ⟨i1,a⟩:=RpK.val (k:=k) t
  by_cases e:k'=k
  ·refine ⟨fun h=>by simp [valD,e] at h,fun d h=>?_⟩
   simp [valD,e] at h
   subst h
   exact ⟨_,by simp [valV,e],r⟩
  ·refine ⟨fun h=>?_,fun d h=>?_⟩
   ·simp [valV,e];simp [valD,e] at h
    have:=i1 (by simp [valD];exact h)
    simpa [valV] using this
   ·obtain ⟨v,b,c⟩:=a d (by simpa [valD,e] using h)
    exact ⟨v,by simpa [valV,e] using b,c⟩
theorem RpK.any {G:Hp} {k:Key}:∀ {kvs:List (Key × V)} {es:List (Key × PyData)},RpK G kvs es->(kvs.any fun e=>decide (e.1=k))=es.any fun e=>decide (e.1=k)
 | _,_,.nil=>rfl
 | _,_,.cons r t=>by simp [RpK.any t]
theorem RpK.map {G:Hp} {k:Key} {v:V} {d:PyData} (h:Rp G v d):∀ {kvs:List (Key × V)} {es:List (Key × PyData)},RpK G kvs es->RpK G (kvs.map fun e=>if e.1=k then (e.1,v) else e) (es.map fun e=>if e.1=k then (e.1,d) else e)
 | _,_,.nil => .nil
 | _,_,.cons (k:=k') r t=>by
  by_cases e:k'=k
  ·simp only [aC1,e,if_true];exact .cons h (RpK.map h t)
  ·simp only [aC1,e,if_false];exact .cons r (RpK.map h t)
theorem RpK.append {G:Hp}:∀ {a b:List (Key × V)} {c d:List (Key × PyData)},RpK G a c->RpK G b d->RpK G (a ++ b) (c ++ d)
 | _,_,_,_,.nil,s=>s
 | _,_,_,_,.cons r t,s => .cons r (RpK.append t s)
theorem RpK.put {G:Hp} {k:Key} {v:V} {d:PyData} (h:Rp G v d) {kvs:List (Key × V)} {es:List (Key × PyData)} (r:RpK G kvs es):RpK G (putK kvs k v) (putD es k d):=by
 unfold putK putD
 rw [r.any]
 split
 ·exact r.map h
 ·exact r.append (.cons h .nil)
theorem RpT.any {G:Hp} {k:List Key}:∀ {kvs:List (List Key × V)} {es:List (List Key × PyData)},RpT G kvs es->(kvs.any fun e=>decide (e.1=k))=es.any fun e=>decide (e.1=k)
 | _,_,.nil=>rfl
 | _,_,.cons r t=>by simp [RpT.any t]
theorem RpT.map {G:Hp} {k:List Key} {v:V} {d:PyData} (h:Rp G v d):∀ {kvs:List (List Key × V)} {es:List (List Key × PyData)},RpT G kvs es->RpT G (kvs.map fun e=>if e.1=k then (e.1,v) else e) (es.map fun e=>if e.1=k then (e.1,d) else e)
 | _,_,.nil => .nil
 | _,_,.cons (k:=k') r t=>by
  by_cases e:k'=k
  ·simp only [aC1,e,if_true];exact .cons h (RpT.map h t)
  ·simp only [aC1,e,if_false];exact .cons r (RpT.map h t)
theorem RpT.append {G:Hp}:∀ {a b:List (List Key × V)} {c d:List (List Key × PyData)},RpT G a c->RpT G b d->RpT G (a ++ b) (c ++ d)
 | _,_,_,_,.nil,s=>s
 | _,_,_,_,.cons r t,s => .cons r (RpT.append t s)
theorem RpT.put {G:Hp} {k:List Key} {v:V} {d:PyData} (h:Rp G v d) {kvs:List (List Key × V)} {es:List (List Key × PyData)} (r:RpT G kvs es):RpT G (putK kvs k v) (putD es k d):=by
 unfold putK putD
 rw [r.any]
 split
 ·exact r.map h
 ·exact r.append (.cons h .nil)
theorem RpK.length {G:Hp}:∀ {kvs:List (Key × V)} {es:List (Key × PyData)},RpK G kvs es->kvs.length=es.length
 | _,_,.nil=>rfl
 | _,_,.cons _ t=>by simp [RpK.length t]
theorem ahn {G:Hp} {v:V} {k:Key} (r:Rp G v (kD k)):v=kV k:=by
 cases k with
 | inl i=>cases r;rfl
 | inr x=>cases r;rfl
theorem aqe {G:Hp}:∀ {a:List Key} {vs:List V},Rps G vs (a.map kD)->vs=a.map kV
 | [],_,.nil=>rfl
 | k :: a,_,.cons r t=>by rw [ahn r,aqe t];rfl
section
variable {B:Bs} {env:En} {QO:Sl->En->Prop} {Q':PyData->En->Prop} {D':VEnds} {i:Nat} {te ty tv td:TE}
theorem aqf (q:QO (.own (OT [])) env):EvO B apg env QO:=fun σ G H F Q I k p a=>by
 have o:=Out.newDT (ds:=[]) I.gh a .nil
 exact k _ _ _ F _ _ env (I.out o).1 o.gg (I.out o).2 q
theorem aqg {es0:List (List Key × PyData)} (h:Ev B tv env fun d o=>Has o i (OT es0)/\Ev B ty o fun y n=>∃ es j,n[i]?=some (some (.own (OT es)))/\y=tkD j/\es.length<=999999/\D'.nx (n.set i (some (.own (OT (putD es j d)))))):EvS B (ag7 (tVar i) ty tv) D' env:=fun σ G H F D I r =>
 h σ G H F _ I fun v K L O d o w M P J=>by
  obtain ⟨C,x⟩:=J
  obtain ⟨R,m,a,kvs,rfl,ha,rt,_⟩:=w.has C
  refine ⟨_,m,x σ K L O _ w fun Q E H2 F2 y n p s z ⟨es,j,g,A,U,N⟩=>?_⟩
  subst A
  obtain ⟨S,c,⟨T,u,l,q,f,hf⟩,hb⟩:=p.sl i _ g
  rw [m] at c;cases c;cases l
  cases z with
  | tup hk rs =>
   have:=aqe rs
   subst this
   refine ⟨a,_,rfl,DPut.t q (p.gh _ _ hk) (by rw [(RpT.len f).1];exact big (by omega)),?_⟩
   exact r.nx σ E _ _ _ (p.upd1 (A':=OT (putD es j d)) g (.inl rfl) m hf ⟨a,_,rfl,aak,f.put (P.same s),fun b=>Iff.rfl⟩) (M.trans s) N
theorem aqh {es0:List (Key × PyData)} (h:Ev B tv env fun d n=>Has n i (OD es0)/\Ev B ty n fun y m=>∃ es k,m[i]?=some (some (.own (OD es)))/\y=kD k/\es.length<=999999/\D'.nx (m.set i (some (.own (OD (putD es k d)))))):EvS B (ag7 (tVar i) ty tv) D' env:=fun σ G H F D I r =>
 h σ G H F _ I fun v K L O d n s M P J=>by
  obtain ⟨C,w⟩:=J
  obtain ⟨R,l,a,kvs,rfl,ha,rt,_⟩:=s.has C
  refine ⟨_,l,w σ K L O _ s fun Q E H2 F2 y m u p z ⟨es,x,g,A,U,N⟩=>?_⟩
  subst A
  obtain ⟨S,c,⟨T,q,j,o,f,hf⟩,hb⟩:=u.sl i _ g
  rw [l] at c;cases c;cases j
  have:=ahn z
  subst this
  refine ⟨a,_,rfl,DPut.k o (by rw [f.length];exact big (by omega)),?_⟩
  exact r.nx σ E _ _ _ (u.upd1 (A':=OD (putD es x d)) g (.inl rfl) l hf ⟨a,_,rfl,aak,f.put (P.same p),fun b=>Iff.rfl⟩) (M.trans p) N
theorem aoj {es0:List (Key × PyData)} (h:Ev B ty env fun y b=>∃ es k,Has b i (OD es)/\y=kD k/\Q' (.bool (!(valD es k).isSome)) b):Ev B (af5 ty (tVar i)) env Q':=fun σ G H F Q I k =>
 h σ G H F _ I fun u o H2 F2 y b f j m p=>by
  obtain ⟨es,c,s,n,q⟩:=p
  subst n
  obtain ⟨v,l,a,kvs,rfl,ha,rt,_⟩:=f.has s
  have:=ahn m
  subst this
  refine ⟨_,l,a,_,rfl,DGet.k ha,?_⟩
  have e:(valV kvs c).isSome=(valD es c).isSome:=by
   obtain ⟨i1,g⟩:=rt.val (k:=c)
   cases hd:valD es c with
   | none=>rw [i1 hd];rfl
   | some d=>obtain ⟨v,r,_⟩:=g d hd;rw [r];rfl
  rw [e]
  exact k _ o H2 F2 _ b f j (.bl _) q
theorem asn {es0:List (Key × PyData)} (n:Has env i (OD es0)) (h:Ev B ty env fun y c=>∃ es k d,Has c i (OD es)/\y=kD k/\valD es k=some d/\Q' d c):Ev B (an3 (tVar i) ty) env Q':=fun σ G H F Q I k=>by
 obtain ⟨v,f,_⟩:=I.has n
 refine ⟨v,f,h σ G H F _ I fun x o H2 F2 y c g j l ⟨es,r,d,w,m,hd,q⟩=>?_⟩
 subst m
 obtain ⟨z,b,a,kvs,rfl,ha,rt,_⟩:=g.has w
 rw [f] at b;cases b
 have:=ahn l
 subst this
 obtain ⟨u,s,p⟩:=(rt.val (k:=r)).2 d hd
 exact ⟨a,u,rfl,by rw [← s];exact DGet.k ha,k _ o H2 F2 _ c g j p q⟩
end
section
variable {B:Bs} {env:En} {QO:Sl->En->Prop} {Q':PyData->En->Prop} {QE:En->Prop} {D':VEnds} {K:Frag} {i:Nat} {ta:TA}
theorem ani {n:Nat} {a:TGs} {ds:List PyData} (b:ds.length=n) (h:EvGs B a ds env QE):EvG B (gLst K n a) (.st (.list ds)) env QE:=fun σ G H F v Fv Q I x k=>by
 obtain ⟨r,_⟩:=x.ok
 cases r with
 | lst ha rs=>exact ⟨_,_,rfl,SqL.of (I.gh _ _ ha),by rw [rs.length,b],h σ G H F _ Q I rs k⟩
theorem aho {ns:List Int} {tl j:TO} (e:env[i]?=some (some (.scr ns))) (s:B.K=K) (h:EvOp B tl env fun lo f=>EvOp B j f fun hi c=>QO (.own (OL (cutD (ns.map .int) lo hi))) c):EvO B (tSl (rSlL K) (tVar i) tl j) env QO:=fun σ G H F Q I k=>by
 subst s
 obtain ⟨z,n,⟨a,l,x⟩,_⟩:=I.sl i _ e
 subst l
 refine ⟨_,n,h σ G H F _ I fun lo r H2 F2 f w d u=>u σ r H2 F2 _ w fun hi y H3 m c b g q=>⟨a,_,rfl,b.gh.seq (g.seq (d.seq x)),fun p v=>?_⟩⟩
 have o:=Out.newL (xs:=cutV (ns.map V.int) lo hi) (ds:=cutD (ns.map .int) lo hi) b.gh v (by
  unfold cutV cutD
  rw [az3,az3]
  exact ((Rps.ints ns).drop _).take _)
 exact k _ _ _ m _ _ c (b.out o).1 (d.trans (g.trans o.gg)) (b.out o).2 q
theorem aqi {ns:List Int} {tl d:TO} (e:env[i]?=some (some (.scr ns))) (g:B.K=K) (h:EvOp B tl env fun lo j=>EvOp B d j fun hi f=>Q' (.list (cutD (ns.map .int) lo hi)) f):Ev B (tSl (rSlL K) (tVar i) tl d) env Q':=abr (aho e g fun σ G H F Q I k=>h σ G H F Q I fun lo G' H' c b a g' q=>k lo G' H' c b a g' fun σ G H F Q I k=>q σ G H F Q I fun hi G' H' c b a g' q=>k hi G' H' c b a g' (ack q))
theorem afr (h:EvA B ta env fun ds e=>∃ ns:List Int,ds=[.list (ns.map .int)]/\ns.length < 64/\∀ b:List Int,b.Perm ns->b.Pairwise (·<=·)->QO (.own (OL (b.map .int))) e):EvO B (tCB (ahf K) ta) env QO:=fun σ G H F Q I k =>
 h σ G H F _ I fun vs s u m ds l c i n g=>by
  obtain ⟨ns,d,q,f⟩:=g
  subst d
  cases n with
  | cons r t =>
   cases t
   cases r with
   | @lst a us _ ha rs =>
    have:=Rps.ints_inv rs
    subst this
    refine ⟨a,ns,rfl,SqL.of (c.gh _ _ ha),q,fun b p j hs hf=>?_⟩
    have o:=Out.newL c.gh hf (Rps.ints b)
    exact k _ _ _ m _ _ l (c.out o).1 (i.trans o.gg) (c.out o).2 (f _ j hs)
theorem x_en {ds:List PyData} {R:List PyData->Prop} (h:R ds):∃ xs,[PyData.list ds]=[.list xs]/\R xs:=⟨ds,rfl,h⟩
theorem avu {j:Int} {R:Int->Prop} (b:0<=j) (a:j<=1000000) (h:R j):∃ i:Int,[PyData.int j]=[.int i]/\0<=i/\i<=1000000/\R i:=⟨j,rfl,b,a,h⟩
theorem x_dT {es:List (List Key × PyData)} {a b:Int} {d:En} {R:List (List Key × PyData)->List Key->Prop} (e:d[i]?=some (some (.own (OT es)))) (f:es.length<=999999) (q:R es [.inl a,.inl b]):∃ es c,d[i]?=some (some (.own (OT es)))/\PyData.tuple [.int a,.int b]=tkD c/\es.length<=999999/\R es c:=⟨es,_,e,rfl,f,q⟩
theorem x_dK {es:List (Key × PyData)} {a:Int} {b:En} {R:List (Key × PyData)->Key->Prop} (e:b[i]?=some (some (.own (OD es)))) (c:es.length<=999999) (q:R es (.inl a)):∃ es k,b[i]?=some (some (.own (OD es)))/\PyData.int a=kD k/\es.length<=999999/\R es k:=⟨es,_,e,rfl,c,q⟩
theorem x_dN {es:List (Key × PyData)} {a:Int} {b:En} {R:List (Key × PyData)->Key->Prop} (e:Has b i (OD es)) (q:R es (.inl a)):∃ es k,Has b i (OD es)/\PyData.int a=kD k/\R es k:=⟨es,_,e,rfl,q⟩
theorem x_dG {es:List (Key × PyData)} {a:Int} {d:PyData} {b:En} {R:PyData->Prop} (e:Has b i (OD es)) (hd:valD es (.inl a)=some d) (q:R d):∃ es k d,Has b i (OD es)/\PyData.int a=kD k/\valD es k=some d/\R d:=⟨es,_,d,e,rfl,hd,q⟩
end
def ltP (p q:Int × Int):Prop:=p.1 < q.1\/(p.1=q.1/\p.2 < q.2)
@[reducible] def p2 (p:Int × Int):List Int:=[p.1,p.2]
theorem lex2 (p q:Int × Int):HT.lexLt (p2 p) (p2 q)=true ↔ ltP p q:=by
 obtain ⟨a,b⟩:=p
 obtain ⟨c,d⟩:=q
 simp [p2,HT.lexLt,ltP]
 split <;> omega
theorem aok {a:List (List Int)} {ps:List (Int × Int)} (h:a.Perm (ps.map p2)):∃ b:List (Int × Int),a=b.map p2/\b.Perm ps:=by
 refine ⟨a.map fun l=>(l.getD 0 0,l.getD 1 0),?_,?_⟩
 ·rw [aC7]
  symm
  conv=>rhs;rw [← List.map_id a]
  apply aD3
  intro l c
  obtain ⟨p,_,rfl⟩:=aA7.mp (h.mem_iff.mp c)
  rfl
 ·have:=h.map fun l=>(l.getD 0 0,l.getD 1 0)
  rw [aC7] at this
  have e:((fun l:List Int=>(l.getD 0 0,l.getD 1 0)) ∘ p2)=id:=by funext p;rfl
  rw [e,List.map_id] at this
  exact this
def Rise (es:List (Int × Int)):Prop:=es.Pairwise ltP
theorem agg (p:Int × Int):¬ ltP p p:=by unfold ltP;omega
theorem avv (p q:Int × Int):ltP p q\/p=q\/ltP q p:=by
 obtain ⟨a,b⟩:=p
 obtain ⟨c,d⟩:=q
 unfold ltP
 simp only [Prod.mk.injEq]
 omega
theorem ax1 {p q r:Int × Int} (h:ltP p q) (g:ltP q r):ltP p r:=by unfold ltP at *;omega
theorem avw {a ps:List (Int × Int)} (d:a.Perm ps) (hn:ps.Nodup) (hs:lexS (a.map p2)):Rise a:=by
 have b:a.Nodup:=d.nodup_iff.mpr hn
 unfold lexS at hs
 rw [aE5] at hs
 unfold Rise
 refine (List.Pairwise.and hs b).imp fun {p q} h=>?_
 have c:¬ ltP q p:=fun z=>by rw [(lex2 q p).mpr z] at h;exact absurd h.1 (by simp)
 rcases avv p q with z | z | z
 ·exact z
 ·exact absurd z h.2
 ·exact absurd z c
theorem Rise.nodup {es:List (Int × Int)} (h:Rise es):es.Nodup:=h.imp fun {p q} z (e:p=q)=>agg q (by rw [e] at z;exact z)
theorem Rise.eq:∀ {as bs:List (Int × Int)},Rise as->Rise bs->(∀ p,p∈as ↔ p∈bs)->as=bs
 | [],[],_,_,_=>rfl
 | [],b :: _,_,_,h=>by have:=(h b).mpr aA8;simp at this
 | a :: _,[],_,_,h=>by have:=(h a).mp aA8;simp at this
 | a :: as,b :: bs,ha,hb,h=>by
  obtain ⟨d,f⟩:=aG9.mp ha
  obtain ⟨c,g⟩:=aG9.mp hb
  have e:a=b:=by
   rcases az9.mp ((h a).mp aA8) with e | e
   ·exact e
   ·rcases az9.mp ((h b).mpr aA8) with i | i
    ·exact i.symm
    ·exact absurd (ax1 (d b i) (c a e)) (agg a)
  subst e
  have:=Rise.eq f g fun p=>by
   have j:=h p
   simp only [az9] at j
   constructor
   ·intro m
    rcases j.mp (.inr m) with e | e
    ·subst e;exact absurd (d p m) (agg p)
    ·exact e
   ·intro m
    rcases j.mpr (.inr m) with e | e
    ·subst e;exact absurd (c p m) (agg p)
    ·exact e
  rw [this]
structure WebOk (n:Int) (es:List (Int × Int)):Prop where
 lo:1<=n
 hi:n<=60
 inn:∀ p∈es,0<=p.1/\p.1 < p.2/\p.2 < n
 rise:Rise es
theorem WebOk.in {n:Int} {es:List (Int × Int)} (h:WebOk n es):InN n es:=fun p a=>by
 have:=h.inn p a;omega
theorem afs {n:Nat} {es:List (Int × Int)} (hn:es.Nodup) (hi:∀ p∈es,0<=p.1/\p.1 < (n:Int)/\0<=p.2/\p.2 < (n:Int)):es.length<=n * n:=by
 have i:(es.map fun (p:Int × Int)=>p.1 * (n:Int)+p.2).Nodup:=by
  unfold List.Nodup
  rw [aE5]
  refine aG4 ?_ hn
  intro p q d h c e
  have a:=hi p d
  have b:=hi q h
  apply c
  have f:p.1=q.1:=by
   rcases Int.lt_trichotomy p.1 q.1 with z | z | z
   ·have:(p.1+1) * n<=q.1 * n:=Int.mul_le_mul_of_nonneg_right (by omega) (by omega)
    rw [Int.add_mul] at this;omega
   ·exact z
   ·have:(q.1+1) * n<=p.1 * n:=Int.mul_le_mul_of_nonneg_right (by omega) (by omega)
    rw [Int.add_mul] at this;omega
  rw [f] at e
  exact Prod.ext f (by omega)
 have:=L2.few_places (n * n) _ i fun v g=>by
  obtain ⟨p,d,rfl⟩:=aA7.mp g
  have a:=hi p d
  have l:0<=p.1 * (n:Int):=Int.mul_nonneg a.1 (by omega)
  have j:(p.1+1) * (n:Int)<=n * n:=Int.mul_le_mul_of_nonneg_right (by omega) (by omega)
  rw [Int.add_mul] at j
  push_cast
  omega
 simpa using this
theorem WebOk.len {n:Int} {es:List (Int × Int)} (h:WebOk n es):es.length<=3600:=by
 have:=afs (n:=n.toNat) h.rise.nodup fun p b=>by have:=h.inn p b;have:=h.lo;omega
 have a:n.toNat<=60:=by have:=h.hi;omega
 exact aC0 this (Nat.mul_le_mul a a)
def kE (ps:List (Int × Int)):List (List Key × PyData):=ps.map fun p=>([Sum.inl p.1,Sum.inl p.2],.bool true)
def addP (ps:List (Int × Int)) (p:Int × Int):List (Int × Int):=if p∈ps then ps else ps ++ [p]
theorem aee {ps:List (Int × Int)}:(kE ps).length=ps.length:=by simp [kE]
theorem ahp (ps:List (Int × Int)) (a b:Int):putD (kE ps) [Sum.inl a,Sum.inl b] (.bool true)=kE (addP ps (a,b)):=by
 have c:((kE ps).any fun e=>decide (e.1=[Sum.inl a,Sum.inl b]))=decide ((a,b)∈ps):=by
  rw [aG2,List.any_eq_true,decide_eq_true_iff]
  constructor
  ·rintro ⟨e,f,h⟩
   obtain ⟨p,d,rfl⟩:=aA7.mp f
   simp at h
   obtain ⟨g,p2⟩:=p
   simp at h
   rw [← h.1,← h.2];exact d
  ·intro h
   exact ⟨_,aA7.mpr ⟨(a,b),h,rfl⟩,by simp⟩
 unfold putD
 rw [c]
 unfold addP
 by_cases h:(a,b)∈ps
 ·rw [aD9 (by simpa using h),aD9 h]
  unfold kE
  rw [aC7]
  apply aD3
  intro p _
  simp only [Function.comp]
  split <;> rfl
 ·rw [aE0 (by simpa using h),aE0 h]
  simp [kE]
theorem addP_mem {ps:List (Int × Int)} {p q:Int × Int}:q∈addP ps p ↔ q∈ps\/q=p:=by
 unfold addP
 split
 ·rename_i h
  exact ⟨.inl,fun z=>z.elim id fun e=>e ▸ h⟩
 ·simp
theorem aol {ps:List (Int × Int)} {p:Int × Int} (h:ps.Nodup):(addP ps p).Nodup:=by
 unfold addP
 split
 ·exact h
 ·rename_i hn
  rw [List.nodup_append]
  exact ⟨h,by simp,fun x b y a=>by simp at a;subst a;rintro rfl;exact hn b⟩
theorem avx (ps:List (Int × Int)):(kE ps).map (fun e=>tkD e.1)=ps.map prD:=by
 unfold kE;rw [aC7];rfl
theorem aqj (ps:List (Int × Int)):(ps.map p2).map tiD=ps.map prD:=by rw [aC7];rfl
theorem ay5 {ps:List (Int × Int)}:∀ ns∈ps.map p2,ns ≠ []:=fun ns h=>by
 obtain ⟨p,_,rfl⟩:=aA7.mp h
 simp
section
variable {B:Bs} {env:En} {QO:Sl->En->Prop} {K:Frag} {i:Nat} {ta:TA}
theorem aqk {ps:List (Int × Int)} (h:EvA B ta env fun ds e=>ds=[.list (ps.map prD)]/\∀ a:List (Int × Int),a.Perm ps->lexS (a.map p2)->QO (.own (OL (a.map prD))) e):EvO B (tCB (ahi K) ta) env QO :=
 aqb (pss:=ps.map p2) ay5 fun σ G H F Q I k=>h σ G H F Q I fun vs G' H' c ds e b g r ⟨j,q⟩=>k vs G' H' c ds e b g r ⟨by rw [aqj];exact j,fun d f hs=>by
  obtain ⟨a,rfl,i⟩:=aok f
  rw [aqj];exact q a i hs⟩
end
section
variable {B:Bs} {env:En} {QO:Sl->En->Prop} {Q':PyData->En->Prop} {K:Frag} {i j:Nat} {ta te:TE}
end
section
variable {B:Bs} {env:En} {Q':PyData->En->Prop} {D':VEnds} {i:Nat} {ty tv:TE}
theorem aom {a:List (List Key × PyData)} (g:env[i]?=some (some (.own (OT a)))) (h:Ev B tv env fun d f=>Has f i (OT a)/\Ev B ty f fun y c=>∃ es b,c[i]?=some (some (.own (OT es)))/\y=tkD b/\es.length<=999999/\D'.nx (c.set i (some (.own (OT (putD es b d)))))):EvS B (ag7 (tVar i) ty tv) D' env:=aqg h
theorem aon {a:List (Key × PyData)} (f:env[i]?=some (some (.own (OD a)))) (h:Ev B tv env fun d c=>Has c i (OD a)/\Ev B ty c fun y b=>∃ es k,b[i]?=some (some (.own (OD es)))/\y=kD k/\es.length<=999999/\D'.nx (b.set i (some (.own (OD (putD es k d)))))):EvS B (ag7 (tVar i) ty tv) D' env:=aqh h
theorem amj {a:List (Key × PyData)} (c:Has env i (OD a)) (h:Ev B ty env fun y b=>∃ es k,Has b i (OD es)/\y=kD k/\Q' (.bool (!(valD es k).isSome)) b):Ev B (af5 ty (tVar i)) env Q':=aoj (es0:=[]) h
end
section
variable {R:Sl->Prop} {K:Frag}
end
theorem aoo (ps:List (Int × Int)):plainDs (ps.map prD)=true:=by
 rw [aeh]
 intro d hd
 obtain ⟨p,_,rfl⟩:=aA7.mp hd
 rfl
theorem ada {ds:List PyData} {m:Nat} (h:∀ d∈ds,d.depth<=m):PyData.depthAll ds<=m:=by
 induction ds with
 | nil=>simp [PyData.depthAll]
 | cons d ds ih =>
  simp only [PyData.depthAll]
  exact Nat.max_le.mpr ⟨h d aA8,ih fun e a=>h e (aA5 _ a)⟩
theorem aql (p:Int × Int):(prD p).depth<=1:=by simp [prD,PyData.depth,PyData.depthAll]
theorem alm {d:PyData} (h:aar d=true):PyData.eqv d d=true:=(afm d d h h).mpr rfl
end VL
namespace VL
theorem aln {α:Type} (R : α->α->Prop) (tr:∀ {a b c},R a b->R b c->R a c) {xs:List α}:xs.Pairwise R ↔ ∀ i (h:i+1 < xs.length),R (xs[i]'(by omega)) xs[i+1]:=by
 constructor
 ·intro h i hi
  exact aF1.mp h i (i+1) (by omega) hi (by omega)
 ·intro h
  rw [aF1]
  intro i j hi d f
  induction j with
  | zero=>omega
  | succ j ih =>
   by_cases e:i=j
   ·subst e;exact h i d
   ·exact tr (ih (by omega) (by omega)) (h j d)
end VL
namespace VL
open PySem PySem.Spec L2
section
variable {B:Bs} {env:En} {Q':PyData->En->Prop} {K:Frag} {E:XK} {i:Nat}
end
end VL
namespace VL
open PySem L2
theorem ay6 {B:Bs} {t:TS} {D':VEnds} {e:En} (h:EvS B t D' e):EvS B t D' e:=h
theorem ay7 {B:Bs} {g:TG} {s:Sl} {e:En} {Q:En->Prop} (h:EvG B g s e Q):EvG B g s e Q:=h
theorem ax2 {B:Bs} {g:TGs} {s:List PyData} {e:En} {Q:En->Prop} (h:EvGs B g s e Q):EvGs B g s e Q:=h
theorem g_Ev {B:Bs} {t:TE} {e:En} {Q:PyData->En->Prop} (h:Ev B t e Q):Ev B t e Q:=h
theorem ay8 {B:Bs} {t:TE} {e:En} {Q:Sl->En->Prop} (h:EvO B t e Q):EvO B t e Q:=h
theorem ay9 {B:Bs} {t:TT} {e:En} {Q:Bool->En->Prop} (h:EvT B t e Q):EvT B t e Q:=h
theorem aza {B:Bs} {t:TA} {e:En} {Q:List PyData->En->Prop} (h:EvA B t e Q):EvA B t e Q:=h
theorem azb {B:Bs} {t:TI} {e:En} {Q:List PyData->En->Prop} (h:EvI B t e Q):EvI B t e Q:=h
theorem ax3 {B:Bs} {t:TO} {e:En} {Q:Option Int->En->Prop} (h:EvOp B t e Q):EvOp B t e Q:=h
theorem azc {r:R2} {x y:PyData} {R:Sl->Prop} (h:Op2 r x y R):Op2 r x y R:=h
theorem azd {r:V->Hp->VK->Prop} {x:PyData} {R:Sl->Prop} (h:Op1 r x R):Op1 r x R:=h
theorem aze {r:List V->Hp->VK->Prop} {x:List PyData} {R:Sl->Prop} (h:OpA r x R):OpA r x R:=h
theorem g_FQ {s:Sl} {R:PyData->Prop} (h:FQ s R):FQ s R:=h
theorem avy {ds:List PyData} {R:List PyData->Prop} (h:aj7 ds R):aj7 ds R:=h
theorem avz {ds:List PyData} {R:List PyData->Prop} (h:aj8 ds R):aj8 ds R:=h
structure PsOk (n:Int) (ps:List (Int × Int)):Prop where
 nd:ps.Nodup
 inn:∀ p∈ps,0<=p.1/\p.1 < p.2/\p.2 < n
theorem PsOk.nil (n:Int):PsOk n []:=⟨List.nodup_nil,fun p a=>by simp at a⟩
theorem PsOk.add {n a b:Int} {ps:List (Int × Int)} (h:PsOk n ps) (d:0<=a) (c:a < b) (f:b < n):PsOk n (addP ps (a,b)) :=
 ⟨aol h.nd,fun p g=>by
  rcases addP_mem.mp g with q | q
  ·exact h.inn p q
  ·subst q;exact ⟨d,c,f⟩⟩
theorem PsOk.len {n:Int} {ps:List (Int × Int)} (h:PsOk n ps) (hn:n<=100):ps.length<=10000:=by
 by_cases h0:0<=n
 ·have:=afs (n:=n.toNat) h.nd fun p b=>by have:=h.inn p b;omega
  have a:n.toNat<=100:=by omega
  exact aC0 this (Nat.mul_le_mul a a)
 ·cases ps with
  | nil=>simp
  | cons p r=>have:=h.inn p aA8;omega
def Tr (n:Int) (ps:List (Int × Int)):Prop:=∀ k,1<=k->k < n->∃ h,0<=h/\h < k/\(h,k)∈ps
theorem Tr.add {n:Int} {ps:List (Int × Int)} {p:Int × Int} (h:Tr n ps):Tr n (addP ps p):=fun k f d=>by
 obtain ⟨x,a,b,c⟩:=h k f d
 exact ⟨x,a,b,addP_mem.mpr (.inl c)⟩
def Conn (n:Int) (T:Int->Int->Prop):Prop:=∀ u v,0<=u->u < n->0<=v->v < n->∃ k,Gr.Walk T u k v
theorem Tr.conn {n:Int} {ps:List (Int × Int)} (h:Tr n ps):Conn n (Tied ps):=by
 have d:∀ (m:Nat) (v:Int),v=m->v < n->∃ k,Gr.Walk (Tied ps) 0 k v:=by
  intro m
  induction m using Nat.strongRecOn with
  | ind m ih =>
   intro v i hn
   by_cases h0:m=0
   ·subst h0;have:v=0:=by omega
    subst this;exact ⟨0,.refl⟩
   ·obtain ⟨x,a,b,c⟩:=h v (by omega) hn
    obtain ⟨k,w⟩:=ih x.toNat (by omega) x (by omega) (by omega)
    exact ⟨k+1,.step w (.inl c)⟩
 intro u v l g o f
 obtain ⟨k,w⟩:=d u.toNat u (by omega) g
 obtain ⟨j,x⟩:=d v.toNat v (by omega) f
 exact ⟨k+j,(w.rev fun _ _ t=>t.symm).app x⟩
theorem Conn.joined {n:Int} {es:List (Int × Int)} (h:Conn n (Tied es)) (c:0 < n):Joined n es:=fun v b a=>by
 obtain ⟨k,w⟩:=h 0 v (by omega) (by omega) b a
 obtain ⟨d,_,hd⟩:=Gr.Dist.of_walk w
 exact ⟨d,hd⟩
theorem Joined.conn {n:Int} {es:List (Int × Int)} (h:Joined n es):Conn n (Tied es):=fun u v b g c a=>by
 obtain ⟨d,hd⟩:=h u b g
 obtain ⟨e,f⟩:=h v c a
 exact ⟨d+e,(hd.1.rev fun _ _ t=>t.symm).app f.1⟩
theorem Conn.mono {n:Int} {T a:Int->Int->Prop} (h:Conn n T) (g:∀ u v,T u v->a u v):Conn n a:=fun u v d i f c=>by
 obtain ⟨k,w⟩:=h u v d i f c
 exact ⟨k,w.rec .refl fun _ t b => .step b (g _ _ t)⟩
def Order (n:Int) (row:List Int):Prop:=row.Perm ((List.range n.toNat).map fun (i:Nat)=>(i:Int))
theorem Order.len {n:Int} {a:List Int} (h:Order n a):a.length=n.toNat:=by have:=h.length_eq;simpa using this
theorem Order.nodup {n:Int} {c:List Int} (h:Order n c):c.Nodup:=by
 refine h.nodup_iff.mpr ?_
 unfold List.Nodup
 rw [aE5]
 exact List.nodup_range.imp fun {a b} d e=>d (by omega)
theorem Order.mem {n:Int} {a:List Int} (h:Order n a) {v:Int}:v∈a ↔ 0<=v/\v < n:=by
 rw [h.mem_iff,aA7]
 constructor
 ·rintro ⟨i,hi,rfl⟩
  have:=aA9.mp hi
  omega
 ·rintro ⟨c,b⟩
  exact ⟨v.toNat,aA9.mpr (by omega),by omega⟩
theorem Order.get {n:Int} {b:List Int} (h:Order n b) {a:Int} (c:0<=a) (f:a < n):∃ x,b[a.toNat]?=some x/\atI b a=some x/\0<=x/\x < n:=by
 have d:a.toNat < b.length:=by rw [h.len];omega
 have e:b[a.toNat]?=some b[a.toNat]:=az0 d
 have:=h.mem.mp (az2 e)
 exact ⟨_,e,aed c e,this.1,this.2⟩
theorem Order.inj {n:Int} {c:List Int} (h:Order n c) {a b x:Int} (a0:0<=a) (b0:0<=b) (ha:c[a.toNat]?=some x) (hb:c[b.toNat]?=some x):a=b:=by
 obtain ⟨f,i⟩:=az1.mp ha
 obtain ⟨g,d⟩:=az1.mp hb
 have:=nodup_ix h.nodup f g (i.trans d.symm)
 omega
theorem Order.id (n:Int):Order n ((List.range n.toNat).map fun (i:Nat)=>(i:Int)):=List.Perm.refl _
def abe (row:List Int) (a:Int):Int:=row.getD a.toNat 0
def reP (row:List Int) (p:Int × Int):Int × Int:=if abe row p.1 < abe row p.2 then (abe row p.1,abe row p.2) else (abe row p.2,abe row p.1)
theorem Order.at {n:Int} {b:List Int} (h:Order n b) {a:Int} (d:0<=a) (c:a < n):b[a.toNat]?=some (abe b a)/\0<=abe b a/\abe b a < n:=by
 obtain ⟨x,e,_,f,g⟩:=h.get d c
 have:abe b a=x:=by unfold abe;rw [aC3,e];rfl
 rw [this];exact ⟨e,f,g⟩
theorem Order.atI {n:Int} {b:List Int} (h:Order n b) {a:Int} (c:0<=a) (d:a < n):L2.atI b a=some (abe b a):=aed c (h.at c d).1
theorem Order.ne {n:Int} {c:List Int} (h:Order n c) {a b:Int} (a0:0<=a) (j:a < n) (b0:0<=b) (g:b < n) (d:a ≠ b):abe c a ≠ abe c b:=fun e=>by
 have f:=(h.at a0 j).1
 have i:=(h.at b0 g).1
 rw [e] at f
 exact d (h.inj a0 b0 f i)
theorem PsOk.re {n:Int} {ps:List (Int × Int)} {c:List Int} (h:PsOk n ps) (o:Order n c):PsOk n (ps.map (reP c)):=by
 have inn:∀ p∈ps,0<=(reP c p).1/\(reP c p).1 < (reP c p).2/\(reP c p).2 < n:=fun p d=>by
  obtain ⟨p0,v,p2⟩:=h.inn p d
  have a:=o.at p0 (by omega)
  have b:=o.at (a:=p.2) (by omega) p2
  have ne:=o.ne p0 (by omega) (by omega) p2 (by omega)
  unfold reP
  split <;> dsimp only <;> omega
 refine ⟨?_,fun q i=>by obtain ⟨p,d,rfl⟩:=aA7.mp i;exact inn p d⟩
 unfold List.Nodup
 rw [aE5]
 refine aG4 ?_ h.nd
 intro p q d i f e
 apply f
 obtain ⟨p0,v,p2⟩:=h.inn p d
 obtain ⟨r,y,s⟩:=h.inn q i
 have inj:∀ a b,0<=a->a < n->0<=b->b < n->abe c a=abe c b->a=b:=fun a b a0 x b0 w e=>by
  apply Classical.byContradiction
  intro g
  exact o.ne a0 x b0 w g e
 have u:=inj p.1 q.1 p0 (by omega) r (by omega)
 have j:=inj p.2 q.2 (by omega) p2 (by omega) s
 have m:=inj p.1 q.2 p0 (by omega) (by omega) s
 have l:=inj p.2 q.1 (by omega) p2 r (by omega)
 unfold reP at e
 split at e <;> split at e <;> simp only [Prod.mk.injEq] at e
 ·exact Prod.ext (u e.1) (j e.2)
 ·have:=m e.1;have:=l e.2;omega
 ·have:=l e.1;have:=m e.2;omega
 ·exact Prod.ext (u e.2) (j e.1)
theorem Tied.re {ps:List (Int × Int)} {c:List Int} {u v:Int} (h:Tied ps u v):Tied (ps.map (reP c)) (abe c u) (abe c v):=by
 have d:∀ a b,(a,b)∈ps->Tied (ps.map (reP c)) (abe c a) (abe c b):=fun a b hm=>by
  have:=List.mem_map_of_mem (f:=reP c) hm
  unfold reP at this
  dsimp only at this
  split at this
  ·exact .inl this
  ·exact .inr this
 rcases h with h | h
 ·exact d u v h
 ·exact (d v u h).symm
theorem Conn.re {n:Int} {ps:List (Int × Int)} {d:List Int} (h:Conn n (Tied ps)) (o:Order n d):Conn n (Tied (ps.map (reP d))):=fun u v l g m f=>by
 have c:∀ x,0<=x->x < n->∃ a,0<=a/\a < n/\abe d a=x:=fun x q r=>by
  obtain ⟨i,hi,e⟩:=aG0.mp (o.mem.mpr ⟨q,r⟩)
  refine ⟨i,by omega,by rw [o.len] at hi;omega,?_⟩
  unfold abe
  simp [hi,e]
 obtain ⟨a,a0,s,rfl⟩:=c u l g
 obtain ⟨b,b0,p,rfl⟩:=c v m f
 obtain ⟨k,w⟩:=h a b a0 s b0 p
 exact ⟨k,w.rec .refl fun _ t j => .step j t.re⟩
theorem Tied.perm {a ps:List (Int × Int)} (h:a.Perm ps) {u v:Int}:Tied a u v ↔ Tied ps u v:=by unfold Tied;rw [h.mem_iff,h.mem_iff]
theorem aso {n:Int} {ps a:List (Int × Int)} (d:1<=n) (c:n<=60) (h:PsOk n ps) (b:a.Perm ps) (hs:lexS (a.map p2)):WebOk n a:=⟨d,c,fun p hm=>h.inn p (b.mem_iff.mp hm),avw b h.nd hs⟩
theorem ahq {α:Type}:∀ {l:List α} {k:Nat} {x : α},l[k]?=some x->(x :: l.eraseIdx k).Perm l
 | [],_,_,h=>by simp at h
 | a :: l,0,x,h=>by simp at h;subst h;exact List.Perm.refl _
 | a :: l,k+1,x,h=>by
  have b:=ahq (l:=l) (k:=k) (x:=x) (by simpa using h)
  exact (List.Perm.swap a x _).trans (b.cons a)
theorem aop {n:Int} {a left:List Int} {k:Nat} {x:Int} (h:Order n (a ++ left)) (b:left[k]?=some x):Order n ((a ++ [x]) ++ left.eraseIdx k):=by
 refine List.Perm.trans ?_ h
 rw [aA4]
 refine List.Perm.append_left a ?_
 exact ahq b
section
variable {B:Bs} {env:En} {g:TG} {tif:TT} {te:TE} {K:Frag} {src:List (Option Nat)} {ds:List PyData} {e1:En} {R:List PyData->En->Prop}
theorem aqm {A:Frag} {α:Type} {xs:List α} {fa fb : α->PyData} (f : α->PyData) (p : α->Bool) (g:noIo (aah src e1)=true) (J:xs.length<=999999)
  (h:∀ x∈xs,∀ a:Bs,a.K=K->EvT a tif (some (.st (fa x)) :: some (.st (fb x)) :: aah src e1) fun b l=>b=p x/\l=some (.st (fa x)) :: some (.st (fb x)) :: aah src e1/\(b=true->Ev a te (some (.st (fa x)) :: some (.st (fb x)) :: aah src e1) fun y q=>y=f x/\q=some (.st (fa x)) :: some (.st (fb x)) :: aah src e1))
  (u:R ((xs.filter p).map f) e1):LcV K (none :: none :: src) (gLst A 2 (ac1 (aa1 0) (ac1 (aa1 1) gNil))) tif te (xs.map fun x => .list [fa x,fb x]) e1 R:=by
 have c:noIo (aah (none :: none :: src) e1)=true:=by
  show ((none :: none :: aah src e1).all fun s => !isIo s)=true
  rw [List.all_cons,List.all_cons]
  exact (aF5 _ _).mpr ⟨rfl,(aF5 _ _).mpr ⟨rfl,g⟩⟩
 refine ⟨fun i ys e=>ys=((xs.take i).filter p).map f/\∃ o o',e=stO o :: stO o' :: aah src e1,⟨by simp,none,none,rfl⟩,?_,?_,?_⟩
 ·rintro i ys e ⟨_,o,o',rfl⟩
  exact ⟨⟨isIo_stO.symm,aci⟩,⟨isIo_stO.symm,aci⟩,acr acm⟩
 ·rintro i d ys e hd ⟨rfl,o,o',rfl⟩ a z
  rw [az5] at hd
  cases hx:xs[i]? with
  | none=>rw [hx] at hd;cases hd
  | some x =>
   rw [hx] at hd
   cases hd
   have hi:i < xs.length:=(az1.mp hx).1
   have r:xs.take (i+1)=xs.take i ++ [x]:=by rw [aF8,hx];rfl
   refine ani rfl (adj (aau (adj (aau (agx ?_)))))
   show EvT a tif (some (.st (fa x)) :: some (.st (fb x)) :: aah src e1) _
   intro σ G H F Q I k
   refine h x (az2 hx) a z σ G H F Q I fun b G' H' n l m g' ⟨hb,w,C⟩=>k b G' H' n l m g' ?_
   subst w
   by_cases hp:b=true
   ·rw [aD9 hp]
    intro σ G H F Q I k
    refine C hp σ G H F Q I fun v G' H' n d' q m g' D ⟨B,j⟩=>k v G' H' n d' q m g' D ?_
    subst B j
    refine ⟨?_,?_,some _,some _,rfl⟩
    ·have:=aD7 p (xs.take i)
     simp only [az3]
     have E:(xs.take i).length<=i:=by simp;omega
     omega
    ·rw [r,List.filter_append,aC9]
     have:p x=true:=by rw [← hb];exact hp
     simp [this]
   ·rw [aE0 hp]
    refine ⟨?_,some _,some _,rfl⟩
    rw [r,List.filter_append,aC9]
    have:p x=false:=by rw [← hb];simpa using hp
    simp [this]
 ·rintro ys e ⟨rfl,o,o',rfl⟩
  rw [aev c]
  simpa using u
end
theorem anj (n:Nat):rngD 0 n=((List.range n).map fun (i:Nat)=>(i:Int)).map PyData.int:=by simp [rngD]
theorem alo {B:Bs} {t:TS} {D':VEnds} {env:En} (J:En->Prop) (h:EvS B t { D' with nx:=J } env) (k:∀ e,J e->D'.nx e):EvS B t D' env:=fun σ G H F D I r=>h σ G H F D I ⟨fun σ G' H F env a g q=>r.nx _ _ _ _ _ a g (k _ q),r.rt,r.bk,r.ct⟩
theorem agh {B:Bs} {g:TG} {A:Own} {d:PyData} {env:En} {b:En->Prop} (f:Frz A d) (h:EvG B g (.st d) env b):EvG B g (.own A) env b:=fun σ G H F v Fv Q I x k =>
 h σ _ H F v _ Q (I.freeze x.fb x.fd x.fg) (ad3 (f G H v Fv x.ok x.fg I.gh)) fun a G' H' j i c g' q=>k a G' H' j i c ((abm x.fg).trans g') q
theorem asp {B:Bs} {t:TS} {D':VEnds} {env:En} {A:Own} {d:PyData} {s:Sl} (i:Nat) (h:s=.own A\/s=.st d) (e:env[i]?=some (some s)) (f:Frz A d) (q:EvS B t D' (env.set i (some (.st d)))):EvS B t D' env:=by
 rcases h with rfl | rfl
 ·exact agd i e f q
 ·obtain ⟨hi,e⟩:=az1.mp e
  rw [← e,List.set_getElem_self] at q
  exact q
theorem cutR {R X:Prop} (h:R->X) (r:R):X:=h r
end VL
namespace VL
open PySem PySem.Spec L2
def ad4 (e:En):Prop:=∀ (j:Nat) (s:Sl),e[j]?=some (some s)->(∃ d,s=.st d)\/∃ ns:List Int,s=.scr ns
def Sls (K:Frag) (G:Hp) (σ:St) (e:En):Prop:=∀ (j:Nat) (s:Sl),e[j]?=some (some s)->∃ v,σ[j]?=some (some v)/\((∃ d,s=.st d/\Rp G v d)\/∃ (ns:List Int) (a:Addr),s=.scr ns/\v=.ref a/\SqL K G a (ns.map V.int))
theorem Sls.same {K:Frag} {G G':Hp} {σ:St} {e:En} (h:Sls K G σ e) (g:Same G G'):Sls K G' σ e:=fun j s es=>by
 obtain ⟨v,c,q⟩:=h j s es
 refine ⟨v,c,?_⟩
 rcases q with ⟨d,b,r⟩ | ⟨ns,a,b,f,r⟩
 ·exact .inl ⟨d,b,r.same g⟩
 ·exact .inr ⟨ns,a,b,f,g.seq r⟩
def bsC (K:Frag) (G H:Hp) (σ:St):Bs:=⟨K,G,H,H,σ,noF⟩
theorem ai3 {K:Frag} {G H:Hp} {σ:St} {e:En} (gh:Same G H) (ft:FT G H) (ln : σ.length=e.length) (sl:Sls K G σ e):VI (bsC K G H σ) G H σ e noF:=by
 refine ⟨gh,Same.refl _,fun a o e => .inl e,Same.refl _,Same.refl _,fun a o e=>⟨o,e⟩,fun i a z=>z.elim,fun i a z=>z.elim,fun i j a z=>z.elim,fun i a z=>z.elim,fun i s es=>?_,ln,ft⟩
 obtain ⟨v,c,q⟩:=sl i s es
 refine ⟨v,c,?_⟩
 rcases q with ⟨d,b,r⟩ | ⟨ns,a,b,f,r⟩
 ·subst b;exact ⟨r,fun a z=>z⟩
 ·subst b;exact ⟨⟨a,f,r⟩,fun a z=>z⟩
theorem ahr {B:Bs} {K:Frag} {G H:Hp} {σ:St} {e:En} {F:Nat->Addr->Prop} (I:VI B G H σ e F) (c:ad4 e) (g:B.K=K:=by rfl):Sls K G σ e:=fun j s es=>by
 subst g
 obtain ⟨v,f,q⟩:=I.sl j s es
 refine ⟨v,f,?_⟩
 rcases c j s es with ⟨d,rfl⟩ | ⟨ns,rfl⟩
 ·exact .inl ⟨d,rfl,q.1⟩
 ·obtain ⟨⟨a,b,h⟩,_⟩:=q
  exact .inr ⟨ns,a,rfl,b,h⟩
def LcV2 (K:Frag) (src:List (Option Nat)) (g:TG) (tif:TT) (wi2:TI) (g2:TG) (tif2:TT) (te:TE) (ds:List PyData) (e1:En) (R:List PyData->Prop):Prop:=∃ J:Nat->List PyData->En->Prop,J 0 [] (aah src e1)/\(∀ i ys e,J i ys e->ad4 e) /\
 (∀ i d ys e,ds[i]?=some d->J i ys e->∀ B':Bs,B'.K=K->EvG B' g (.st d) e fun e2=>EvT B' tif e2 fun b e3=>if b=true then EvI B' wi2 e3 fun ds2 e4=>∃ J2:Nat->List PyData->En->Prop,J2 0 ys e4/\(∀ j ys e,J2 j ys e->ad4 e) /\
  (∀ j d2 ys2 e,ds2[j]?=some d2->J2 j ys2 e->∀ B2:Bs,B2.K=K->EvG B2 g2 (.st d2) e fun e5=>EvT B2 tif2 e5 fun b e6=>if b=true then Ev B2 te e6 fun y e7=>ys2.length<=999999/\J2 (j+1) (ys2 ++ [y]) e7 else J2 (j+1) ys2 e6)/\(∀ ys2 e,J2 ds2.length ys2 e->J (i+1) ys2 e) else J (i+1) ys e3)/\∀ ys e,J ds.length ys e->R ys
section
variable {B:Bs} {env:En}
theorem ank {src:List (Option Nat)} {wi:TI} {g:TG} {a2:TT} {b1:TI} {g2:TG} {N:TT} {te:TE} {QO:Sl->En->Prop} (h:EvI B wi env fun ds C=>LcV2 B.K src g a2 b1 g2 N te ds C fun ys=>QO (.own (OL ys)) C):EvO B (tLC2 src wi g a2 b1 g2 N te) env QO:=fun σ G H F Q I k=>by
 refine h σ G H F _ I fun J G1 H1 L ds C W g1 it ⟨Jv,j0,jc,js,jd⟩ c l=>?_
 have fa:∀ j,¬ L j c:=W.no_f l
 have hb:B.H c=none:=W.no_b l
 -- between two turns
 let Wv:(List PyData->En->Prop)->List V->St->Hp->Prop:=fun J ys σI H=>∃ f e D,VI B f H σ C L/\Same G1 f/\H c=some (.lst ys)/\Rps f ys D/\f c=none/\J D e/\σI.length=e.length/\Sls B.K f σI e
 -- out of a frame within
 have leave:∀ {n H3:Hp} {σI:St} {ys:List V},VI B n H3 σ C L->n c=none->H3 c=some (.lst ys)->∀ {O X:Hp} {w:St} {F4:Nat->Addr->Prop} {e4:En},VI (bsC B.K n H3 σI) O X w e4 F4->VI B O X σ C L/\O c=none/\X c=some (.lst ys):=by
  intro n H3 σI ys Z T ac O X w F4 e4 E
  refine ⟨Z.grow E.g0 E.gh E.rs E.gn E.ft,?_,E.rs _ _ ac⟩
  cases e':O c with
  | none=>rfl
  | some u =>
   rcases E.gn c u e' with q | q
   ·change n c=_ at q;rw [T] at q;cases q
   ·change H3 c=_ at q;rw [ac] at q;cases q
 have step:∀ {f H2:Hp} {ys:List V} {x:V} {n H3:Hp} {d:PyData},VI B f H2 σ C L->f c=none->H2 c=some (.lst ys)->Out f H2 x n H3 (.st d) (fun _=>False)->VI B n H3 σ C L/\n c=none/\H3 c=some (.lst ys):=by
  intro f H2 ys x n H3 d M T ac o
  refine ⟨(M.out o).1,?_,o.hh _ _ ac⟩
  cases e':n c with
  | none=>rfl
  | some u =>
   rcases o.gn c u e' with q | q
   ·rw [T] at q;cases q
   ·rw [ac] at q;cases q
 refine ⟨fun i m ys σI H=>m=ds.length - i/\i<=ds.length/\Wv (Jv i) ys σI H,⟨ds.length,by simp,aE4 _,?_⟩,?_⟩
 ·refine ⟨G1,aah src C,[],W.aside (fun _ z=>nomatch z) (W.no_g l) fa hb,Same.refl _,aak,.nil,W.no_g l,j0,by simp [pick,aah],fun j s e=>?_⟩
  obtain ⟨i,t,hs,ht,hp⟩:=afp e
  obtain ⟨v,hv,q⟩:=W.sl i t ht
  refine ⟨v,alf hs hv,?_⟩
  cases t with
  | st d=>cases hp;exact .inl ⟨d,rfl,q.1⟩
  | scr ns =>
   cases hp
   obtain ⟨⟨a,ea,sq⟩,_⟩:=q
   exact .inr ⟨ns,a,rfl,ea,sq⟩
  | own A=>cases hp;rcases jc _ _ _ j0 j _ e with ⟨d,z⟩ | ⟨ns,z⟩ <;> cases z
  | io A=>cases hp;rcases jc _ _ _ j0 j _ e with ⟨d,z⟩ | ⟨ns,z⟩ <;> cases z
 ·rintro i m ys σI H2 ⟨rfl,hi,f,e,D,M,r,S,ry,T,jv,ln,sl⟩
  by_cases hlt:i < ds.length
  ·refine .inr ⟨it.go i f H2 r M.gh hlt,Wv (Jv (i+1)),fun b8 c0 H' hw=>⟨ds.length - (i+1),by omega,rfl,hlt,hw⟩,fun x H3 y=>?_⟩
   obtain ⟨n,o⟩:=it.yld i f H2 x H3 _ r M.gh M.ft (az0 hlt) y
   obtain ⟨Z,a5,a1⟩:=step M T S o
   have E3:=ai3 (K:=B.K) Z.gh Z.ft ln (sl.same o.gg)
   refine js i _ D e (az0 hlt) jv (bsC B.K n H3 σI) rfl σI n H3 _ x _ _ E3 (ad3 o.ok.1) fun w O X F4 e4 E g4 q4=>?_
   refine q4 w O X F4 _ E fun b G5 H5 F5 e5 I5 g5 q5=>?_
   have a4:=ry.same (o.gg.trans (g4.trans g5))
   have s5:=r.trans (o.gg.trans (g4.trans g5))
   cases b with
   | false =>
    rw [aE0 aA0] at q5 ⊢
    obtain ⟨K5,c1,b4⟩:=leave Z a5 a1 I5
    exact ⟨G5,e5,D,K5,s5,b4,a4,c1,q5,I5.ln,ahr I5 (jc _ _ _ q5)⟩
   | true =>
    rw [aD9 rfl] at q5 ⊢
    refine q5 w G5 H5 F5 _ I5 fun J2 G6 H6 F6 p e6 I6 g6 P ⟨Jw,w0,wc,ws,wd⟩=>?_
    obtain ⟨K6,b7,c2⟩:=leave Z a5 a1 I6
    have s6:=s5.trans g6
    let Wi:Nat->List V->St->Hp->Prop:=fun j ys σI H=>∃ f e D,VI B f H σ C L/\Same G6 f/\H c=some (.lst ys)/\Rps f ys D/\f c=none/\Jw j D e/\σI.length=e.length/\Sls B.K f σI e
    refine ⟨fun j m ys σI H=>m=p.length - j/\j<=p.length/\Wi j ys σI H,⟨p.length,by simp,aE4 _,G6,e6,D,K6,Same.refl _,c2,a4.same g6,b7,w0,I6.ln,ahr I6 (wc _ _ _ w0)⟩,?_⟩
    rintro j m zs b0 H7 ⟨rfl,hj,G7,e7,zd,Y,U,R,rz,a0,jw,a6,b3⟩
    refine ⟨R,?_⟩
    by_cases hlt2:j < p.length
    ·refine .inr ⟨P.go j G7 H7 U Y.gh hlt2,Wi (j+1),fun b8 c0 H' hw=>⟨p.length - (j+1),by omega,rfl,hlt2,hw⟩,fun x2 H8 y2=>?_⟩
     obtain ⟨G8,o2⟩:=P.yld j G7 H7 x2 H8 _ U Y.gh Y.ft (az0 hlt2) y2
     obtain ⟨I8,a8,a9⟩:=step Y a0 R o2
     have E8:=ai3 (K:=B.K) I8.gh I8.ft a6 (b3.same o2.gg)
     refine ws j _ zd e7 (az0 hlt2) jw (bsC B.K G8 H8 b0) rfl b0 G8 H8 _ x2 _ _ E8 (ad3 o2.ok.1) fun b2 G9 H9 F9 e9 I9 g9 q9=>?_
     refine q9 b2 G9 H9 F9 _ I9 fun b GA HA FA eA IA gA qA=>?_
     cases b with
     | false =>
      rw [aE0 aA0] at qA ⊢
      obtain ⟨KA,b9,b6⟩:=leave I8 a8 a9 IA
      have sA:=o2.gg.trans (g9.trans gA)
      exact ⟨GA,eA,zd,KA,U.trans sA,b6,rz.same sA,b9,qA,IA.ln,ahr IA (wc _ _ _ qA)⟩
     | true =>
      rw [aD9 rfl] at qA ⊢
      refine qA b2 GA HA FA _ IA fun yv GB HB FB dB eB IB gB rB ⟨lB,qB⟩=>?_
      obtain ⟨KB,a7,b5⟩:=leave I8 a8 a9 IB
      have sB:=o2.gg.trans (g9.trans (gA.trans gB))
      have a3:=rz.same sB
      refine ⟨b5,by rw [a3.length];exact aC8 lB (by decide),GB,eB,zd ++ [dB],KB.aside (fun _ z=>nomatch z) a7 fa hb,U.trans sB,aak,a3.append (.cons rB .nil),a7,qB,IB.ln,ahr IB (wc _ _ _ qB)⟩
    ·have ej:j=p.length:=by omega
     subst ej
     refine .inl ⟨P.stop _ G7 H7 U Y.gh rfl,G7,e7,zd,Y,s6.trans U,R,rz,a0,wd _ _ jw,a6,b3⟩
  ·have ei:i=ds.length:=by omega
   subst ei
   refine .inl ⟨it.stop _ f H2 r M.gh rfl,?_⟩
   refine k (.ref c) f H2 L (· = c) (.own (OL D)) C M (g1.trans r) ⟨⟨c,ys,rfl,S,ry,fun b=>Iff.rfl⟩,fun a z=>by rw [z];exact hb,fun a z=>by rw [z];exact T,fun a z=>by rw [z];exact ⟨_,S⟩,fun j a z=>by rw [z];exact fa j⟩ (jd _ _ jv)
end
theorem adb {o:Option PyData} {e:En} (h:ad4 e):ad4 (stO o :: e):=fun j s es=>by
 cases j with
 | zero =>
  cases o with
  | none=>simp [stO] at es
  | some d =>
   have:s=.st d:=by simpa [stO] using es.symm
   exact .inl ⟨d,this⟩
 | succ j=>exact h j s (by simpa using es)
theorem asq {α β:Type} {K:Frag} {src:List (Option Nat)} {c:En} {s:TI} {h:TT} {te:TE} {R:List PyData->Prop} {xs:List α} {g : α->PyData} (a : α->List β) (p : β->PyData) (f : α->β->PyData) (q : α->β->Bool) (W:ad4 (aah src c))
  (hl:(xs.flatMap fun x=>((a x).filter (q x)).map (f x)).length<=999999)
  (h1:∀ x∈xs,∀ m:Bs,m.K=K->∀ o,EvI m s (some (.st (g x)) :: stO o :: aah src c) fun u E=>u=(a x).map p/\E=some (.st (g x)) :: stO o :: aah src c)
  (h2:∀ x∈xs,∀ y∈a x,∀ m:Bs,m.K=K->EvT m h (some (.st (g x)) :: some (.st (p y)) :: aah src c) fun b Z=>b=q x y/\Z=some (.st (g x)) :: some (.st (p y)) :: aah src c/\(b=true->Ev m te (some (.st (g x)) :: some (.st (p y)) :: aah src c) fun z e7=>z=f x y/\e7=some (.st (g x)) :: some (.st (p y)) :: aah src c))
  (hR:R (xs.flatMap fun x=>((a x).filter (q x)).map (f x))):LcV2 K (none :: none :: src) (aa1 0) tYes s (aa1 1) h te (xs.map g) c R:=by
 refine ⟨fun i ys e=>ys=(xs.take i).flatMap (fun x=>((a x).filter (q x)).map (f x))/\∃ o o',e=stO o :: stO o' :: aah src c,⟨by simp,none,none,rfl⟩,?_,?_,?_⟩
 ·rintro i ys e ⟨_,o,o',rfl⟩
  exact adb (adb W)
 ·rintro i d ys e hd ⟨rfl,o,o',rfl⟩ m hB
  rw [az5] at hd
  cases hx:xs[i]? with
  | none=>rw [hx] at hd;cases hd
  | some x =>
   rw [hx] at hd
   cases hd
   have C:=az2 hx
   have X:xs.take (i+1)=xs.take i ++ [x]:=by rw [aF8,hx];rfl
   have P:((xs.take (i+1)).flatMap (fun x=>((a x).filter (q x)).map (f x))).length<=999999:=by
    refine aC0 ?_ hl
    conv=>rhs;rw [← aB1 (i+1) xs,List.flatMap_append,aA1]
    exact Nat.le_add_right _ _
   refine aau (ads ?_)
   rw [aD9 rfl]
   show EvI m s (some (.st (g x)) :: stO o' :: aah src c) _
   intro σ G H F Q I k
   refine h1 x C m hB o' σ G H F Q I fun J G' H' D u E B g' L ⟨S,w⟩=>k J G' H' D u E B g' L ?_
   subst S w
   refine ⟨fun j n e=>n=(xs.take i).flatMap (fun x=>((a x).filter (q x)).map (f x)) ++ (((a x).take j).filter (q x)).map (f x)/\∃ o',e=some (.st (g x)) :: stO o' :: aah src c,⟨by simp,o',rfl⟩,?_,?_,?_⟩
   ·rintro j n e ⟨_,r,rfl⟩
    exact adb (o:=some (g x)) (adb W)
   ·rintro j d2 n e l ⟨rfl,r,rfl⟩ U T
    rw [az5] at l
    cases hy:(a x)[j]? with
    | none=>rw [hy] at l;cases l
    | some y =>
     rw [hy] at l
     cases l
     have A:(a x).take (j+1)=(a x).take j ++ [y]:=by rw [aF8,hy];rfl
     refine aau ?_
     show EvT U h (some (.st (g x)) :: some (.st (p y)) :: aah src c) _
     intro σ G H F Q I k
     refine h2 x C y (az2 hy) U T σ G H F Q I fun b G' H' D e3 B g' ⟨hb,he,Y⟩=>k b G' H' D e3 B g' ?_
     subst he
     by_cases hp:b=true
     ·rw [aD9 hp]
      intro σ G H F Q I k
      refine Y hp σ G H F Q I fun v G' H' D d' E B g' r' ⟨N,w⟩=>k v G' H' D d' E B g' r' ?_
      subst N w
      have M:q x y=true:=by rw [← hb];exact hp
      refine ⟨?_,?_,some (p y),rfl⟩
      ·refine aC0 ?_ P
       rw [X,List.flatMap_append,aA1,aA1]
       refine Nat.add_le_add_left ?_ _
       simp only [List.flatMap_cons,List.flatMap_nil,aD4,az3]
       exact (List.Sublist.filter (q x) (List.take_sublist j (a x))).length_le
      ·rw [A,List.filter_append,aC9,← aA4]
       simp [M]
     ·rw [aE0 hp]
      have O:q x y=false:=by rw [← hb];simpa using hp
      refine ⟨?_,some (p y),rfl⟩
      rw [A,List.filter_append,aC9]
      simp [O]
   ·rintro n e ⟨rfl,r,rfl⟩
    refine ⟨?_,some (g x),r,rfl⟩
    rw [X,List.flatMap_append]
    simp
 ·rintro ys e ⟨rfl,o,o',rfl⟩
  rw [az3,aF2]
  exact hR
section
variable {B:Bs} {env:En} {Q':PyData->En->Prop} {QO:Sl->En->Prop} {c:TT} {ta tb:TE}
theorem ax4 {src:List (Option Nat)} {n:TI} {g:TG} {i:TT} {j:TI} {m:TG} {f:TT} {te:TE} (h:EvI B n env fun ds l=>LcV2 B.K src g i j m f te ds l fun ys=>Q' (.list ys) l):Ev B (tLC2 src n g i j m f te) env Q':=abr (ank fun σ G H F R I k=>h σ G H F R I fun J p r v ds l s u it ⟨o,a,b,c,d⟩=>k J p r v ds l s u it ⟨o,a,b,c,fun ys e q=>ack (d ys e q)⟩)
end
def ax5 (e:En):Bool:=e.all fun o=>match o with | some (.own _)=>false | some (.io _)=>false | _=>true
theorem aqn {e:En} (h:ax5 e=true):ad4 e:=fun j s es=>by
 have:=aD8.mp h (some s) (az2 es)
 cases s with
 | st d=>exact .inl ⟨d,rfl⟩
 | scr ns=>exact .inr ⟨ns,rfl⟩
 | own A=>simp at this
 | io A=>simp at this
end VL
namespace VL
open PySem PySem.Spec L2 PyProof.Rows
end VL
namespace VL
open PySem PySem.Spec L2
section
variable {B:Bs} {env:En} {QO:Sl->En->Prop} {i:Nat}
theorem aqo {k c:Int} (e:env[i]?=some (some (.st (.int k)))) (q:QO (.own (OD [(.inl k,.int c)])) env):EvO B (atn [(tVar i,tC (.int c))]) env QO:=fun σ G H F Q I f p g=>by
 obtain ⟨v,d,r⟩:=I.sl i _ e
 obtain ⟨r,_⟩:=r
 cases r
 refine ⟨_,d,aak,[(.inl k,.int c)],rfl,by simp,?_⟩
 have o:=Out.newD (ds:=[(.inl k,.int c)]) (xs:=[(.inl k,.int c)]) I.gh g (.cons (.int c) .nil)
 have a:upd (upd H p (.dK [])) p (.dK (aeo [] [(Sum.inl k,V.int c)]))=upd H p (.dK [(.inl k,.int c)]):=by
  funext b
  unfold upd
  split <;> rfl
 rw [a]
 exact f _ _ _ F _ _ env (I.out o).1 o.gg (I.out o).2 q
theorem ax6 {k l:Key} (h:kD k=kD l):k=l:=by
 cases k <;> cases l <;> simp [kD] at h <;> first | rw [h] | cases h
theorem aqp:∀ {es fs:List (Key × PyData)},es.map (fun p=>(kD p.1,p.2))=fs.map (fun p=>(kD p.1,p.2))->es=fs
 | [],[],_=>rfl
 | [],_ :: _,h=>by simp at h
 | _ :: _,[],h=>by simp at h
 | a :: es,b :: fs,h=>by
  simp only [aC1,List.cons.injEq,Prod.mk.injEq] at h
  rw [aqp h.2,Prod.ext (ax6 h.1.1) h.1.2]
theorem aqq {es:List (Key × PyData)} {ty:TE} {o:PyData->En->Prop} (j:es ≠ []) (e:env[i]?=some (some (.st (.dict (es.map fun p=>(kD p.1,p.2)))))) (h:Ev B ty env fun y f=>∃ k,y=kD k/\o ((valD es k).getD .none) f):Ev B (akn (tVar i) ty) env o:=fun σ G H F Q I w=>by
 obtain ⟨v,x,r⟩:=I.sl i _ e
 obtain ⟨r,_⟩:=r
 generalize hds:(es.map fun p=>(kD p.1,p.2))=ds at r
 cases r with
 | dt ha rt f =>
  exfalso
  rename_i es'
  rw [f] at hds
  cases es with
  | nil=>exact j rfl
  | cons a es =>
   cases es' with
   | nil=>simp at hds
   | cons b es' =>
    simp only [aC1,List.cons.injEq,Prod.mk.injEq] at hds
    have:=hds.1.1
    cases l:a.1 <;> rw [l] at this <;> simp [kD] at this
 | dk ha rt f =>
  rename_i a kvs es'
  rw [f] at hds
  have:=aqp hds
  subst this
  refine ⟨.ref a,x,a,rfl,.inl ⟨kvs,Rd.of (I.gh _ _ ha)⟩,?_⟩
  refine h σ G H F _ I fun D s H2 F2 y n m g z ⟨k,A,q⟩=>?_
  subst A
  have:=ahn z
  subst this
  have c:=rt.same g
  refine ⟨valV kvs k,DGet.k (m.gh _ _ (g _ _ ha)),?_⟩
  cases hd:valD es k with
  | none =>
   rw [(c.val (k:=k)).1 hd]
   rw [hd] at q
   exact w _ s H2 F2 _ n m g .non q
  | some d =>
   obtain ⟨u,l,C⟩:=(c.val (k:=k)).2 d hd
   rw [l]
   rw [hd] at q
   exact w _ s H2 F2 _ n m g C q
end
section
variable {X:Cx}
end
section
variable {R:Sl->Prop}
end
end VL
namespace L2
open PySem PySem.Spec PyProof.Rows
def isV (k:Int):Value->Bool
 | .int a _=>decide (a=k)
 | _=>false
theorem alp {ns:List Int} {us:List Value} (r:Vals (ns.map V.int) us) (k:Int):∀ i (h:i < us.length) (h':i < ns.length),isV k us[i]=decide (ns[i]=k):=by
 induction ns generalizing us with
 | nil=>intro i h h';simp at h'
 | cons n ns ih =>
  rw [aC1] at r
  cases r with
  | cons r1 r2 =>
   obtain ⟨t,e⟩:=r1
   subst e
   intro i h h'
   cases i with
   | zero=>rfl
   | succ i=>exact ih r2 i (by simpa using h) (by simpa using h')
theorem aoq {ns:List Int} {us:List Value} (r:Vals (ns.map V.int) us) (k:Int) (t:Tok):∀ y∈us,MeetsSeq.EqGives y (.int k t) (isV k y):=by
 induction ns generalizing us with
 | nil=>rw [List.map_nil] at r;cases r;intro y a;simp at a
 | cons n ns ih =>
  rw [aC1] at r
  cases r with
  | cons r1 r2 =>
   obtain ⟨u,e⟩:=r1
   subst e
   intro y a
   rcases az9.mp a with rfl | a
   ·exact MeetsSeq.EqGives.int n k u t
   ·exact ih r2 y a
section
variable {X:Cx}
def aqr:V->List V->Hp->VK->Prop:=fun x vs H Q=>∃ (l:Addr) (ns:List Int) (k:Int) (j:Nat),x=.ref l/\vs=[.int k]/\H l=some (.lst (ns.map V.int))/\ns[j]?=some k/\(∀ m,m < j->ns[m]? ≠ some k)/\Q (.int j) H
theorem asr:MtM X "list.index" aqr:=by
 intro pins s σ H x vs v us Q I B p h
 obtain ⟨l,ns,k,j,rfl,rfl,A,g,b,q⟩:=h
 cases B
 obtain ⟨u,rfl,o⟩:=p.one
 obtain ⟨t,rfl⟩:=o
 obtain ⟨z,its,n,r,w,e⟩:=I.lstM A
 rw [az3] at w z
 obtain ⟨f,c⟩:=az1.mp g
 have hz:sizeLine < 2 ^ 62:=by decide
 refine call_meets F.slot_list_index ⟨_,e,rfl⟩ F.entry_list_index (F.args_list_index_2 _ _)
  (MeetsSeq.list_index l its.toArray n (.int k t) (isV k) (fun y i=>aoq r k t y (by simpa using i)) j (by rw [aA2];omega) (by omega) ?_ (fun m hm d=>?_)) ⟨e,?_⟩
 ·rw [List.getElem_toArray,alp r k j (by omega) f,aC6 c]
 ·have a:m < ns.length:=by omega
  rw [List.getElem_toArray,alp r k m (by omega) a]
  exact aC5 fun e=>b m d (by rw [az0 a,e])
 ·exact ⟨.int j,H,I.tok _,⟨_,rfl⟩,q⟩
def rRev (K:Frag):V->Hp->VK->Prop:=fun x H Q=>∃ a xs,x=.ref a/\SqL K H a xs/\∀ p,H p=none->Q (.ref p) (upd H p (.lst xs.reverse))
def tRev (K:Frag) (te:TE) (ts:TO):TE:=fun σ H Q=>te σ H fun x H1=>ts σ H1 fun o H2=>o=some (-1)/\rRev K x H2 Q
variable {e est:Expr} {te:TE} {ts:TO} {pos p2:Pos}
theorem aqs (items:Array Value):slicePick items none none (some (-1))=items.toList.reverse.toArray:=PySem.W.krv_pick items
theorem ax7 (l:PE X e te) (hs:PO X (some est) ts):PE X (.Subscript e (.Slice none none (some est) p2) pos) (tRev X.K te ts):=by
 intro pins s σ H Q I h
 refine Subscript_ (thn (l pins s σ H _ I h) fun v s1 ⟨x,n,p,u,j⟩=>?_)
 refine wpAny_Slice ?_
 rw [evalPart_none]
 refine aH2 ?_
 refine aH2 ?_
 refine thn (hs pins s1 σ n _ p j) fun i c ⟨o,H3,z,y,m⟩=>?_
 obtain ⟨rfl,a,xs,rfl,B,q⟩:=m
 cases u
 have d:Inv X pins σ H3 { c with heap:=c.heap.push { cls:=.type "slice",data:=.fields #[.none,.none,i] } }:=z.kept (t':=c.toks) fun b C q=>aH3 _ q
 show wpAny (model X.prog X.w) X.A (subscriptTail e (.Slice none none (some est) p2) (.ref a) (.ref c.heap.objs.size)) (EP X pins σ Q) X.xe { c with heap:=c.heap.push { cls:=.type "slice",data:=.fields #[.none,.none,i] } }
 obtain ⟨its,r,g,hz⟩:=d.list B
 have f:=r.length
 refine tail_any (ops:=[.ref a,.ref c.heap.objs.size]) g.isList.typeIs slot_list_getitem.lookup ?_ (by with_unfolding_all rfl)
 refine wpAny_getItem_list_slice g.isList (Heap.IsSliceOf.new ..) .none .none y (by decide) ?_ (by rw [aA2] <;> omega)
 rw [aqs]
 refine ⟨.ref _,_,d.laid (t':=c.toks) (o:=.lst xs.reverse) (fun b C q=>aH3 _ q) (az6 _) ?_,rfl,q _ (d.hok.fresh (az6 _))⟩
 exact ⟨by rw [List.length_reverse];exact hz,_,0,r.reverse,aH5 _ rfl⟩
end
end L2
namespace VL
open PySem PySem.Spec L2
section
variable {B:Bs} {env:En} {QO:Sl->En->Prop} {Q':PyData->En->Prop} {te tl:TE} {ts:TO} {K:Frag} {i:Nat}
theorem Rps.rev {G:Hp}:∀ {vs:List V} {ds:List PyData},Rps G vs ds->Rps G vs.reverse ds.reverse
 | _,_,.nil => .nil
 | _,_,.cons r t=>by
  rw [List.reverse_cons,List.reverse_cons]
  exact (Rps.rev t).append (.cons r .nil)
theorem anl (h:Ev B te env fun d g=>∃ ds,d=.list ds/\EvOp B ts g fun o f=>o=some (-1)/\QO (.own (OL ds.reverse)) f):EvO B (tRev K te ts) env QO:=fun σ G H F Q I k =>
 h σ G H F _ I fun v m n x d g q r y l=>by
  obtain ⟨ds,i,j⟩:=l
  subst i
  cases y with
  | @lst a vs _ ha rs =>
   refine j σ m n x _ q fun o z H2 F2 f b c ⟨w,s⟩=>?_
   refine ⟨w,a,vs,rfl,SqL.of (b.gh _ _ (c _ _ ha)),fun p u=>?_⟩
   have o:=Out.newL (xs:=vs.reverse) (ds:=ds.reverse) b.gh u (rs.same c).rev
   exact k _ _ _ F2 _ _ f (b.out o).1 (r.trans (c.trans o.gg)) (b.out o).2 s
theorem ass (h:Ev B tl env fun x i=>∃ ns:List Int,x=.list (ns.map .int)/\Ev B te i fun y b=>∃ (k:Int) (j:Nat),y=.int k/\ns[j]?=some k/\(∀ m,m < j->ns[m]? ≠ some k)/\Q' (.int j) b):Ev B (tBM K "list" aqr tl (acn te tNil)) env Q':=fun σ G H F Q I k =>
 h σ G H F _ I fun v C D J d i g E L A=>by
  obtain ⟨ns,n,o⟩:=A
  subst n
  cases L with
  | @lst a vs _ ha rs =>
   have w:vs=ns.map V.int:=rs.ints_inv
   subst w
   refine ⟨.inl ⟨rfl,_,SqL.of (g.gh _ _ ha)⟩,o σ C D J _ g fun u s H2 F2 y b l f p ⟨c,j,r,M,z,q⟩=>?_⟩
   subst r
   cases p
   exact ⟨a,ns,c,j,rfl,rfl,l.gh _ _ (f _ _ ha),M,z,k _ s H2 F2 _ b l (E.trans f) (.int _) q⟩
end
theorem ats {α:Type} [DecidableEq α]:∀ {as bs:List α},as.Nodup->(∀ a∈as,a∈bs)->as.length<=bs.length
 | [],_,_,_=>aE4 _
 | a :: as,bs,hn,hs=>by
  have ha:a∈bs:=hs a (aA8 ..)
  have b:=aG8.mp hn
  have h:=ats (bs:=bs.erase a) b.2 fun x c=>(List.mem_erase_of_ne (show x ≠ a from fun e=>b.1 (by rw [← e];exact c))).mpr (hs x (aA5 _ c))
  rw [List.length_erase_of_mem ha] at h
  have:0 < bs.length:=List.length_pos_of_mem ha
  simp only [aD0]
  omega
structure But (n:Int) (es rem:List (Int × Int)):Prop where
 rise:Rise es
 inn:∀ p∈es,0<=p.1/\p.1 < p.2/\p.2 < n
 all:∀ p:Int × Int,0<=p.1->p.1 < p.2->p.2 < n->p∈es\/p∈rem
theorem But.len {n:Int} {es rem:List (Int × Int)} (h:But n es rem) (hn:8<=n) (b:rem.length<=5):2<=es.length:=by
 have:=ats (as:=[((0:Int),(1:Int)),(0,2),(0,3),(0,4),(0,5),(0,6),(0,7)]) (bs:=es ++ rem) (by decide) (fun p a=>by
  have:0<=p.1/\p.1 < p.2/\p.2 < 8:=by
   simp only [az9,aG7,or_false] at a
   rcases a with rfl | rfl | rfl | rfl | rfl | rfl | rfl <;> decide
  exact az7.mpr (h.all p this.1 this.2.1 (by omega)))
 simp at this
 omega
end VL
namespace L2
open PySem PySem.Spec PyProof.Rows
section
variable {prog:Program} {w:World} {A:Around} {E:Value->Shared->Prop} {s:Shared}
end
section
variable {X:Cx} {tg:Expr}
end
end L2
namespace VL
open PySem PySem.Spec L2
section
variable {B:Bs} {env:En} {g:TG} {tb:TS} {D':VEnds} {QI:List PyData->En->Prop}
end
end VL
namespace PopT
open PySem PyProof.Rows
section
variable {prog:Program} {w:World} {K:Type} [DecidableEq K] {knd:HeapKind prog w K} {A:Around} {E:Value->Shared->Prop} {s:Shared}
end
end PopT
namespace L2
open PySem PySem.Spec PySem.W PyProof.Rows
theorem KT.at {H:Hp} {kvs:List (List Key × V)} {xs:List (List Key × Addr × Value)} (r:KT H kvs xs):∀ {j:Nat} {k:List Key} {v:V},kvs[j]?=some (k,v)->∃ p:Addr × Value,xs[j]?=some (k,p)/\RelV v p.2:=by
 induction r with
 | nil=>intro j k v e;simp at e
 | @cons p q ps qs hq t ih =>
  intro j k v e
  cases j with
  | zero =>
   have e:p=(k,v):=by simpa using e
   subst e
   exact ⟨q.2,by rw [List.getElem?_cons_zero,show k=q.1 from hq.1],hq.2.2⟩
  | succ j=>exact ih (by simpa using e)
theorem KT.erase {H:Hp} {kvs:List (List Key × V)} {xs:List (List Key × Addr × Value)} (r:KT H kvs xs):∀ (j:Nat),KT H (kvs.eraseIdx j) (xs.eraseIdx j):=by
 induction r with
 | nil=>intro j;exact .nil
 | @cons p q ps qs hq t ih =>
  intro j
  cases j with
  | zero=>exact t
  | succ j=>exact .cons hq (ih j)
section
variable {X:Cx} {pins:List (Addr × Obj)} {σ:St} {H:Hp} {s:Shared} {a b:Addr} {A:Around} {E:Value->Shared->Prop}
end
section
variable {X:Cx} {o e f:Expr} {apos cpos:Pos} {td ty tx:TE}
end
end L2
namespace DNe
open PySem PyProof.Rows
end DNe
namespace L2
open PySem PySem.Spec PySem.W PyProof.Rows
end L2
namespace DNe
open PySem PyProof.Rows
section
variable {prog:Program} {w:World} {A:Around} {E:Value->Shared->Prop} {s:Shared}
end
end DNe
namespace L2
open PySem PySem.Spec PySem.W PyProof.Rows
end L2
namespace VL
open PySem PySem.Spec L2
section
variable {B:Bs} {env:En} {Q':PyData->En->Prop} {QO:Sl->En->Prop} {i:Nat} {ty:TE}
theorem RpT.at {G:Hp}:∀ {kvs:List (List Key × V)} {es:List (List Key × PyData)},RpT G kvs es->∀ {j:Nat} {a:List Key} {d:PyData},es[j]?=some (a,d)->∃ v,kvs[j]?=some (a,v)/\Rp G v d
 | _,_,.nil,j,a,d,e=>by simp at e
 | _,_,.cons (k:=k) (v:=v) (d:=d0) h t,0,a,d,e=>by
  have e:(k,d0)=(a,d):=by simpa using e
  cases e
  exact ⟨v,rfl,h⟩
 | _,_,.cons h t,j+1,a,d,e=>by
  obtain ⟨v,b,r⟩:=RpT.at t (j:=j) (by simpa using e)
  exact ⟨v,by simpa using b,r⟩
theorem RpT.erase {G:Hp}:∀ {kvs:List (List Key × V)} {es:List (List Key × PyData)},RpT G kvs es->∀ (j:Nat),RpT G (kvs.eraseIdx j) (es.eraseIdx j)
 | _,_,.nil,_ => .nil
 | _,_,.cons _ t,0=>t
 | _,_,.cons h t,j+1 => .cons h (RpT.erase t j)
end
section
variable {B:Bs} {env:En} {QO:Sl->En->Prop} {Q':PyData->En->Prop} {K:Frag} {i:Nat}
end
end VL
namespace SS
open PySem
theorem aid {l:List Nat} (b:l.Pairwise (· < ·)) {i j:Nat} (c:i<=j) (a:j < l.length):l[i]'(by omega)<=l[j]:=by
 by_cases e:i=j
 ·subst e;exact az6 _
 ·exact aE9 (aF1.mp b i j (by omega) a (by omega))
theorem ag0 (xs:Array Nat) (j:Nat) (c:xs.toList.Pairwise (· < ·)):∀ (a lo hi:Nat),hi - lo<=a->lo<=hi->hi<=xs.size->(∀ i (h:i < xs.toList.length),i < lo->xs.toList[i] < j)->(∀ i (h:i < xs.toList.length),hi<=i->j<=xs.toList[i]) ->
  SetTable.below.go xs j a lo hi<=xs.size/\(∀ i (h:i < xs.toList.length),i < SetTable.below.go xs j a lo hi->xs.toList[i] < j)/\(∀ i (h:i < xs.toList.length),SetTable.below.go xs j a lo hi<=i->j<=xs.toList[i])
 | 0,lo,hi,h1,h2,h3,h4,h5=>by
  unfold SetTable.below.go
  have:lo=hi:=by omega
  subst this
  exact ⟨h3,h4,h5⟩
 | a+1,lo,hi,h1,h2,h3,h4,h5=>by
  unfold SetTable.below.go
  by_cases hl:lo < hi
  ·rw [aD9 hl]
   have hm:(lo+hi) / 2 < xs.size:=by omega
   have d:(lo+hi) / 2 < xs.toList.length:=by simpa using hm
   have f:xs.getD ((lo+hi) / 2) j=xs.toList[(lo+hi) / 2]:=by simp [Array.getD,hm]
   dsimp only
   rw [f]
   split
   ·rename_i hlt
    refine ag0 xs j c a _ hi (by omega) (by omega) h3 (fun i h b=>?_) h5
    exact aC8 (aid c (by omega) d) hlt
   ·rename_i hge
    refine ag0 xs j c a lo _ (by omega) (by omega) (by omega) h4 (fun i h b=>?_)
    exact aC0 (by omega) (aid c b h)
  ·rw [aE0 hl]
   have:lo=hi:=by omega
   subst this
   exact ⟨h3,h4,h5⟩
theorem ag1 (xs:Array Nat) (j:Nat) (a:xs.toList.Pairwise (· < ·)) :
  SetTable.below xs j<=xs.size/\(∀ i (h:i < xs.toList.length),i < SetTable.below xs j->xs.toList[i] < j)/\(∀ i (h:i < xs.toList.length),SetTable.below xs j<=i->j<=xs.toList[i]) :=
 ag0 xs j a _ 0 _ (by omega) (by omega) (az6 _) (fun i h hi=>by omega) (fun i h hi=>by simp at h;omega)
theorem aor (xs:Array Nat) (c:xs.toList.Pairwise (· < ·)) (i:Nat) (hi:i < xs.toList.length):SetTable.below xs (xs.toList[i] + 1)=i+1:=by
 obtain ⟨g,d,f⟩:=ag1 xs (xs.toList[i] + 1) c
 rcases Nat.lt_trichotomy (SetTable.below xs (xs.toList[i] + 1)) (i+1) with h | h | h
 ·have:=f i hi (by omega);omega
 ·exact h
 ·have hs:i+1 < xs.toList.length:=by simp;omega
  have a:=d (i+1) hs (by omega)
  have b:=aF1.mp c i (i+1) hi hs (by omega)
  omega
theorem aos (xs:Array Nat) (b:xs.toList.Pairwise (· < ·)):SetTable.below xs 0=0:=by
 obtain ⟨c,a,d⟩:=ag1 xs 0 b
 rcases Nat.eq_zero_or_pos (SetTable.below xs 0) with h | h
 ·exact h
 ·have:=a 0 (by simp;omega) (by omega);omega
theorem ast {xs:Array Nat} {j:Nat} (c:xs.toList.Pairwise (· < ·)) (hn:xs[SetTable.below xs j]? ≠ some j):(SetTable.insertAt xs (SetTable.below xs j) j).toList.Pairwise (· < ·):=by
 obtain ⟨n,d,f⟩:=ag1 xs j c
 rw [SetTable.toList_insertAt]
 generalize SetTable.below xs j=p at n d f hn ⊢
 rw [← aC4] at hn
 generalize xs.toList=l at c d f hn ⊢
 have lo:∀ x∈l.take p,x < j:=fun x g=>by
  obtain ⟨i,hi,e⟩:=List.mem_take_iff_getElem.mp g
  rw [← e];exact d i (by omega) (by omega)
 have h:∀ x∈l.drop p,j < x:=fun x g=>by
  obtain ⟨i,hi,e⟩:=List.mem_drop_iff_getElem.mp g
  have m:p < l.length:=by omega
  have ne:l[p] ≠ j:=fun e=>hn (by rw [az0 m,e])
  have a:=f p m (az6 _)
  have b:=aid c (show p<=p+i by omega) (by omega:p+i < l.length)
  have o:l[p+i]=x:=by rw [← e]
  omega
 rw [aB9]
 refine ⟨c.sublist (List.take_sublist _ _),aG9.mpr ⟨h,c.sublist (List.drop_sublist _ _)⟩,fun a ha b hb=>?_⟩
 rcases az9.mp hb with rfl | hb
 ·exact lo a ha
 ·exact Nat.lt_trans (lo a ha) (h b hb)
structure TbI (bt:Bool) (t:SetTable):Prop where
 led:bt=false->t.led=true
 dum:t.dummies = #[]
 ris:t.plain=true->t.place.toList.Pairwise (· < ·)
theorem TbI.fresh (bt:Bool) (f m:Nat):TbI bt (.fresh f m (!bt)):=⟨fun h=>by subst h;rfl,rfl,fun _=>List.Pairwise.nil⟩
theorem TbI.standIn {bt:Bool} {t:SetTable} (x:TbI bt t) (n:Nat):TbI bt (t.standIn n):=⟨x.led,rfl,fun h=>by cases h⟩
theorem TbI.orStandIn {bt:Bool} {t:SetTable} (x:TbI bt t) (n:Nat):TbI bt (t.orStandIn n):=by
 unfold SetTable.orStandIn;split
 ·exact x
 ·exact x.standIn n
theorem anm (j:Nat):SetTable.has #[] j=false:=by unfold SetTable.has;simp
theorem alq {t:SetTable} (hd:t.dummies = #[]) {ha:Nat->Int} {h:Int} {j:Nat} {d:Option Nat}:∀ (a:Nat) (p:SetTable.Probe),p.dummy=none->SetTable.probe.go t ha h a p=some (.empty j d)->d=none/\t.slot j=.empty
 | 0,p,hp,e=>by unfold SetTable.probe.go at e;cases e
 | a+1,p,hp,e=>by
  unfold SetTable.probe.go at e
  have b:(t.advance p).dummy=none:=by unfold SetTable.advance;split <;> exact hp
  cases hs:t.slot p.j with
  | empty=>rw [hs] at e;cases e;exact ⟨hp,hs⟩
  | dummy =>
   unfold SetTable.slot at hs
   dsimp only at hs
   split at hs
   ·cases hs
   ·rw [hd,anm] at hs;cases hs
  | live i =>
   rw [hs] at e
   dsimp only at e
   split at e
   ·cases e
   ·exact alq hd a _ b e
theorem TbI.put {bt:Bool} {t:SetTable} (x:TbI bt t) {j:Nat} (hs:t.slot j=.empty):TbI bt (t.put j).1:=by
 refine ⟨x.led,?_,fun h=>?_⟩
 ·show (if SetTable.has t.dummies j=true then _ else t.dummies) = #[]
  rw [x.dum,anm];rfl
 ·show (SetTable.insertAt t.place (SetTable.below t.place j) j).toList.Pairwise (· < ·)
  refine ast (x.ris h) fun e=>?_
  unfold SetTable.slot at hs
  dsimp only at hs
  rw [e] at hs
  simp at hs
theorem TbI.layNew {bt:Bool} {t:SetTable} (x:TbI bt t) (es:Array (Int × Value)) (h:Int) (v:Value):TbI bt (layNew t es h v).2.1:=by
 unfold PySem.layNew
 split
 ·rename_i slot wd e
  unfold SetTable.freeSlot at e
  split at e
  ·rename_i j d e2
   obtain ⟨rfl,hs⟩:=alq x.dum _ _ rfl e2
   cases e
   exact (x.put hs).orStandIn _
  ·cases e
 ·exact x.standIn _
theorem aqt (owner:Array (Option Nat)) (m:Nat):(((List.range m).filterMap fun j=>(owner.getD j none).map (j,·)).map (·.1)).Pairwise (· < ·):=by
 rw [aE5,List.pairwise_filterMap]
 refine List.pairwise_lt_range.imp ?_
 intro a b f p d q c
 cases h1:owner.getD a none with
 | none=>rw [h1] at d;cases d
 | some i =>
  cases h2:owner.getD b none with
  | none=>rw [h2] at c;cases c
  | some k=>rw [h1] at d;rw [h2] at c;cases d;cases c;exact f
theorem TbI.relayAll {bt:Bool} {t:SetTable} (x:TbI bt t) (es:Array (Int × Value)) (n:Nat):TbI bt (relayAll t es n).2.1:=by
 unfold PySem.relayAll
 split
 ·rename_i t' order e
  dsimp only
  split
  ·unfold SetTable.relaid SetTable.laid at e
   cases ho:SetTable.layClean (SetTable.sizeAbove n - 1) (es.map (·.1)) with
   | none=>rw [ho] at e;cases e
   | some owner =>
    rw [ho] at e
    cases e
    exact ⟨x.led,rfl,fun _=>by simpa using aqt owner _⟩
  ·exact x.standIn _
 ·exact x.standIn _
theorem ai4 {α:Type} (next:Nat->Nat):∀ (n k:Nat) (left:List α) (out:Array α),left.length=n->(pickOrder.go next n k left out).toList.Perm (out.toList ++ left)
 | 0,k,left,out,h=>by
  unfold pickOrder.go
  rw [aF6 h];simp
 | n+1,k,left,out,h=>by
  unfold pickOrder.go
  have a:next k % left.length < left.length:=Nat.mod_lt _ (by omega)
  rw [az0 a]
  dsimp only
  refine (ai4 next n (k+1) _ _ (by rw [List.length_eraseIdx];split <;> omega)).trans ?_
  rw [Array.toList_push,aA4]
  refine List.Perm.append_left _ ?_
  have e:left=left.take (next k % left.length) ++ left[next k % left.length] :: left.drop (next k % left.length+1):=by
   rw [← List.drop_eq_getElem_cons a,aB1]
  rw [List.eraseIdx_eq_take_drop_succ]
  refine List.Perm.trans ?_ (List.Perm.of_eq e.symm)
  rw [List.singleton_append]
  exact List.perm_middle.symm
theorem aie {α:Type} (next:Nat->Nat) (xs:Array α):(pickOrder next xs).toList.Perm xs.toList:=by
 unfold pickOrder
 simpa using ai4 next xs.size 0 xs.toList #[] (by simp)
end SS
namespace SS
open PySem PySem.W PyProof.Rows
section
variable {prog:Program} {w:World} {A:Around} {E:Value->Shared->Prop} {s:Shared}
def bt (w:World):Bool:=w.params.followText "set-order"
def kE (e:Int × Value):Int:=match e.2 with | .int k _=>k | _=>0
def aj9 (prog:Program) (w:World) (e:Int × Value):Prop:=e.1=(intKind prog w).hash (kE e)/\∃ t,e.2=.int (kE e) t
def SetR (prog:Program) (w:World) (a:Addr) (es:Array (Int × Value)) (ep:Nat) (t:SetTable) (h:Heap):Prop :=
 ∃ o,h.get? a=some o/\o.ExactSet/\o.data=.set es ep t/\t.fits es.size=true/\TbI (bt w) t
def SetI (prog:Program) (w:World) (a:Addr) (L:List Int) (h:Heap):Prop:=∃ es ep t,SetR prog w a es ep t h/\(∀ e∈es.toList,aj9 prog w e)/\(es.toList.map kE).Perm L
theorem SetR.at {a:Addr} {es:Array (Int × Value)} {ep:Nat} {t:SetTable} {h h':Heap} (x:SetR prog w a es ep t h) (k:∀ o,h.get? a=some o->h'.get? a=some o):SetR prog w a es ep t h':=let ⟨o,e,r⟩:=x;⟨o,k o e,r⟩
theorem SetI.at {a:Addr} {L:List Int} {h h':Heap} (x:SetI prog w a L h) (k:∀ o,h.get? a=some o->h'.get? a=some o):SetI prog w a L h':=let ⟨es,ep,t,r,p⟩:=x;⟨es,ep,t,r.at k,p⟩
theorem av0 {es:Array (Int × Value)} (h:∀ e∈es.toList,aj9 prog w e):ElemsOf (intKind prog w) es.toList:=fun e c=>by
 obtain ⟨b,t,a⟩:=h e c
 refine ⟨⟨kE e,?_,b⟩,?_⟩
 ·rw [a];exact intKind_is _ _ _ _
 ·rw [a];rfl
theorem azf {e:Int × Value} {k:Int} (h:aj9 prog w e) (a:(intKind prog w).is k e.2=true):kE e=k:=by
 obtain ⟨c,t,b⟩:=h
 rw [b] at a
 exact ((intKind prog w).inj _ _ _ a (intKind_is _ _ _ _)).symm
theorem SetR.put {a:Addr} {es es':Array (Int × Value)} {ep:Nat} {t t':SetTable} {h:Heap} (x:SetR prog w a es ep t h) (hf:t'.fits es'.size=true) (c:TbI (bt w) t'):SetR prog w a es' (ep+1) t' (h.update a (Obj.putSet es' t')):=by
 obtain ⟨o,f,d,hd,_⟩:=x
 have b:(h.update a (Obj.putSet es' t')).get? a=some { o with data:=.set es' (ep+1) t' }:=by
  have:=aI7 (Obj.putSet es' t') f (by rw [putSet_of es' t' hd];rfl)
  rw [putSet_of es' t' hd] at this;exact this
 exact ⟨_,b,d,rfl,hf,c⟩
theorem store_ok {a:Addr} {es es':Array (Int × Value)} {ep:Nat} {t t':SetTable} {Q:Unit->Shared->Prop} (x:SetR prog w a es ep t s.heap) (hz:es'.size < scanBound) (h:Q () { s with heap:=s.heap.update a (Obj.putSet es' t') }):wpAny (model prog w) A (storeSet a es' t') Q E s:=by
 obtain ⟨o,b,c,hd,_⟩:=x
 exact wpAny_storeSet_of b hd h (fits_of_scanBound hz)
theorem alr {g:Bool->Sem Unit} (r:∀ (b:Bool) (f:Shared) (n:Unit->Shared->Prop),n () f->wpAny (model prog w) A (g b) n E f) {a:Addr} {es c:Array (Int × Value)} {ep:Nat} {t d:SetTable} (x:SetR prog w a es ep t s.heap)
  (hz:c.size < scanBound) (hf:d.fits c.size=true) (p:TbI (bt w) d) {q:Bool} {R:Option Bool->Shared->Prop}
  (h:∀ h' i l u,Heap.SameBut a s.heap h'->SetR prog w a i l u h'->i.toList.Perm c.toList->R (some true) { s with heap:=h' }) :
  wpAny (model prog w) A (do
    storeSet a c d
    if (!q && d.tooFull)=true then do
      g (relayAll d c (SetTable.grown c.size)).2.2
      storeSet a (relayAll d c (SetTable.grown c.size)).1 (relayAll d c (SetTable.grown c.size)).2.1
      pure (some true)
     else pure (some true)) R E s:=by
 refine aH1 (store_ok x hz ?_)
 have m:=x.put (es':=c) (t':=d) hf p
 have j:=Heap.SameBut.update s.heap a (Obj.putSet c d)
 split
 ·have o:=relayAll_perm d c (SetTable.grown c.size)
  have hsz:(relayAll d c (SetTable.grown c.size)).1.size=c.size:=by rw [← az8,o.length_eq,az8]
  refine aH1 (r _ _ _ ?_)
  refine aH1 (store_ok (s:={ s with heap:=s.heap.update a (Obj.putSet c d) }) m (by rw [hsz];exact hz) ?_)
  refine aH2 (h _ _ _ _ (j.trans (Heap.SameBut.update _ a _)) (m.put (relayAll_fits _ _ _) (p.relayAll _ _)) o)
 ·exact aH2 (h _ _ _ _ j m (List.Perm.refl _))
theorem ax8 {a:Addr} {L:List Int} {k:Int} {tok:Tok} {Q:Bool->Shared->Prop} (x:SetI prog w a L s.heap) (hb:L.length+1 < scanBound)
  (h:∀ b h',Heap.SameBut a s.heap h'->SetI prog w a (if k∈L then L else L ++ [k]) h'->Q b { s with heap:=h' }):wpAny (model prog w) A (setAddHashed a (.int k tok) ((intKind prog w).hash k)) Q E s:=by
 obtain ⟨es,ep,t,x,r,z⟩:=x
 obtain ⟨o,K,T,hd,hf,P⟩:=id x
 have B:=av0 r
 have hsz:es.size=L.length:=by rw [← z.length_eq,az3,az8]
 have C:(intKind prog w).is k (.int k tok)=true:=intKind_is _ _ _ _
 unfold setAddHashed setAddHashedIn
 refine aH7 (aH1 (wpAny_setState_of K hd hf ?_))
 dsimp only
 rw [byScan_of (knd:=intKind prog w) (x:=.int k tok) rfl (by omega) B]
 simp only [↓reduceIte]
 unfold setAddByScan
 refine aH1 ?_
 refine aH1 (wpAny_rule ?_)
 refine aH1 (wpAny_setScan_of C K hd hf B ?_)
 cases hr:List.findIdx? (fun e=>(intKind prog w).is k e.2) es.toList with
 | some j =>
  dsimp only
  obtain ⟨J,F,_⟩:=List.findIdx?_eq_some_iff_getElem.mp hr
  have hm:k∈L:=z.mem_iff.mp (by rw [← azf (r _ (aD6 J)) F];exact List.mem_map_of_mem (aD6 J))
  refine aH2 (aH2 ?_)
  have e:s={ s with heap:=s.heap }:=by cases s;rfl
  have:=h false s.heap (Heap.SameBut.refl a s.heap) (by rw [aD9 hm];exact ⟨es,ep,t,x,r,z⟩)
  rw [e];exact this
 | none =>
  dsimp only
  have hm:k ∉ L:=fun N=>by
   obtain ⟨e,l,H⟩:=aA7.mp (z.mem_iff.mpr N)
   have:=List.findIdx?_eq_none_iff.mp hr e l
   obtain ⟨_,t',O⟩:=r e l
   rw [O,H] at this
   have R:(intKind prog w).is k (.int k t')=true:=intKind_is _ _ _ _
   rw [R] at this;cases this
  have G:∀ (b:Bool) {f:Shared} {v:Unit->Shared->Prop},v () f->wpAny (model prog w) A (match b with | true=>rule "set.scan.the-table-gave-way" | false=>pure ()) v E f :=
   fun b f v p=>by cases b <;> first | exact aH2 p | exact wpAny_rule p
  have c:=layNew_perm t es ((intKind prog w).hash k) (.int k tok)
  have d:=layNew_fits t es ((intKind prog w).hash k) (.int k tok)
  have n:=P.layNew es ((intKind prog w).hash k) (.int k tok)
  generalize hL:layNew t es ((intKind prog w).hash k) (.int k tok)=Ly at c d n ⊢
  obtain ⟨m,t1,S,M⟩:=Ly
  dsimp only at c d n ⊢
  rw [Array.toList_push] at c
  have I:∀ e∈m.toList,aj9 prog w e:=fun e l=>by
   rcases az7.mp (c.mem_iff.mp l) with l | l
   ·exact r e l
   ·rw [aB2] at l;subst l;exact ⟨rfl,tok,rfl⟩
  have y:m.size < scanBound:=by rw [← az8,c.length_eq,aA1,az8];simp;omega
  have D:(m.toList.map kE).Perm (L ++ [k]):=by
   refine (c.map kE).trans ?_
   rw [aC9]
   exact z.append_right _
  have fin:∀ h' g i q,Heap.SameBut a s.heap h'->SetR prog w a g i q h'->g.toList.Perm m.toList->Q true { s with heap:=h' }:=fun h' g i q sb u p2 =>
   h true h' sb (by rw [aE0 hm];exact ⟨g,i,q,u,fun e l=>I e (p2.mem_iff.mp l),(p2.map kE).trans D⟩)
  refine aH1 (G _ ?_)
  split
  ·refine aH1 ?_
   rw [hashByValue_scannable 8 rfl]
   refine aH2 ?_
   refine alr ?_ x y (by exact d) (by exact n) ?_
   ·intro b f v p;cases b <;> first | exact aH2 p | exact wpAny_rule p
   ·intro h' g i q sb u p2;dsimp only;exact wpAny_pure (fin h' g i q sb u p2)
  ·refine aH1 (aH2 ?_)
   simp only [↓reduceIte]
   refine alr ?_ x y d n ?_
   ·intro b f v p;cases b <;> first | exact aH2 p | exact wpAny_rule p
   ·intro h' g i q sb u p2;dsimp only;exact wpAny_pure (fin h' g i q sb u p2)
end
section
variable {prog:Program} {w:World} {A:Around} {E:Value->Shared->Prop} {s:Shared}
def abx (w:World):Obj:={ cls:=.type "set",dict:=none,data:=.set #[] 0 (.fresh 0 0 (!bt w)) }
theorem ax9 (h:Heap):SetI prog w h.objs.size [] (h.push (abx w)):=⟨#[],0,_,⟨_,aH5 _ rfl,⟨rfl,rfl,rfl⟩,rfl,rfl,TbI.fresh _ _ _⟩,fun e a=>by simp at a,by simp⟩
theorem asu (a:Value) {Q₁:Value->Shared->Prop} (h:Q₁ (.ref s.heap.objs.size) { s with heap:=s.heap.push (abx w) }) :
  codeAny (model prog w) A (.call (.builtin "set.__new__") ⟨[.type "set",a],[]⟩) (wants Q₁ E) s:=by
 refine codeAny_of_tree ?_
 show wpAny _ A.in1 (do checkBuiltinCall "set.__new__" ⟨[.type "set",a],[]⟩;again (.builtin "set.__new__" ⟨[.type "set",a],[]⟩)) _ _ s
 refine aH1 (wpAny_of_eq (PySem.F.newCall_set_1 a) (aH2 ⟨plainId_quiet PySem.F.plain_set_new _,aI8 PySem.F.entry_set_new ?_⟩))
 rw [aI2 PySem.F.plain_set_new _]
 unfold Builtin.«set.__new__» Builtin.Frozenset.newClass
 have b:=sub_set_self
 obtain ⟨c,g,d,f,os⟩:=s
 dsimp only
 wp_walk
 refine wpAny_askSetting (aH2 ?_)
 dsimp only
 simp only [newObj]
 refine aH1 (wpAny_alloc (aH2 ?_))
 exact aH2 h
section
variable {R:Result->Shared->Prop} {I:Addr} {fp wr:List Addr} {n:Nat} {P:Nat->Value->Prop} {St:Nat->Heap->Prop}
theorem av1 (W:Walks prog w A.in1 I fp wr n P St) (S:Addr) (u:S ∉ fp) (val:Nat->Int) (m:∀ i v,P i v->∃ t,v=.int (val i) t) (hb:n+1 < scanBound) :
  ∀ (k i:Nat) (s:Shared) (L:List Int),n - i=k->i<=n->St i s.heap->SetI prog w S L s.heap->L.Nodup->L.length<=i->(∀ x,x∈L ↔ ∃ j,j < i/\val j=x) ->
   (∀ h' p l,(∀ b o,b ∉ S :: wr->s.heap.get? b=some o->h'.get? b=some o)->SetI prog w S l h'->l.Nodup->l.length<=n->(∀ x,x∈l ↔ ∃ j,j < n/\val j=x)->R (.ok (.ret .none)) { s with heap:=h',toks:=p }) ->
   codeAny (model prog w) A (.builtin "set.update.loop" ⟨[.ref S,.ref I],[]⟩) R s:=by
 have D:S ∉ wr:=fun h=>u (W.sub _ h)
 intro k
 induction k with
 | zero =>
  intro i s L H hi g O d f c K
  have M:i=n:=by omega
  subst M
  refine aI8 PyProof.Rows.F.entry_set_update_loop ?_
  rw [aI2 PyProof.Rows.F.plain_set_update_loop _]
  show wpAny _ A.in1 (pyNext (.ref I) >>= _) _ _ s
  refine aH1 (W.done s _ _ g fun h' p H=>?_)
  show wpAny _ A.in1 (ret Value.none) _ _ _
  exact aH2 (K h' p L (fun b o hb e=>H b o (fun z=>hb (aA5 _ z)) e) (O.at fun o e=>H S o D e) d f c)
 | succ k ih =>
  intro i s L H hi g O d f c K
  have y:i < n:=by omega
  refine aI8 PyProof.Rows.F.entry_set_update_loop ?_
  rw [aI2 PyProof.Rows.F.plain_set_update_loop _]
  show wpAny _ A.in1 (pyNext (.ref I) >>= _) _ _ s
  refine aH1 (W.item i s _ _ y g fun v T p hP r B=>?_)
  obtain ⟨t,rfl⟩:=m i v hP
  have J:SetI prog w S L T:=O.at fun o e=>B S o D e
  show wpAny _ A.in1 (holding [Value.int (val i) t] (setAdd S (.int (val i) t)) >>= _) _ _ _
  refine aH1 (aH7 ?_)
  unfold setAdd
  refine aH7 ?_
  refine aH1 ((intKind prog w).pyHash (k:=val i) (intKind_is _ _ _ _) ?_)
  refine ax8 (s:={ s with heap:=T,toks:=p+1 }) J (by omega) fun b h' C U=>?_
  refine aH2 ⟨plainId_quiet PyProof.Rows.F.plain_set_update_loop _,ih (i+1) _ _ (by omega) y (W.frame _ T _ r fun b hb o e=>?_) U ?_ ?_ ?_ fun N E l G q Z Y X=>?_⟩
  ·rw [C.2 b (fun h:b=S=>u (by rw [← h];exact hb))];exact e
  ·split
   ·exact d
   ·rename_i hm
    rw [List.nodup_append]
    refine ⟨d,by simp,fun a ha b hb=>?_⟩
    rw [aB2] at hb;subst hb
    exact fun z=>hm (z ▸ ha)
  ·split
   ·omega
   ·rw [aA1,List.length_singleton];omega
  ·intro x
   have Q:x∈(if val i∈L then L else L ++ [val i]) ↔ x∈L\/x=val i:=by
    split
    ·rename_i hm;exact ⟨.inl,fun h=>h.elim id fun e=>e ▸ hm⟩
    ·simp
   rw [Q,c x]
   constructor
   ·rintro (⟨j,a,b⟩ | rfl)
    ·exact ⟨j,by omega,b⟩
    ·exact ⟨i,by omega,rfl⟩
   ·rintro ⟨j,a,b⟩
    by_cases e:j=i
    ·subst e;exact .inr b.symm
    ·exact .inl ⟨j,by omega,b⟩
  ·refine K N E l (fun b o hb e=>G b o hb ?_) q Z Y X
   have:b ≠ S:=fun z=>hb (by rw [z];exact aA8)
   show h'.get? b=some o
   rw [C.2 b this]
   exact B b o (fun z=>hb (aA5 _ z)) e
end
theorem call_set {l:Addr} {items:Array Value} {ns:List Int} {Q:Value->Shared->Prop}
  (hh:A.handled=none) (hl:s.heap.IsList l items) (hi:IntsAre items.toList ns) (hb:items.size+1 < scanBound)
  (h:∀ (h':Heap) (q:Nat) (L:List Int),SetI prog w s.heap.objs.size L h'->L.Nodup->(∀ x,x∈L ↔ x∈ns) ->
   (∀ b o,s.heap.get? b=some o->h'.get? b=some o)->Q (.ref s.heap.objs.size) { s with heap:=h',toks:=q }) :
  wpAny (model prog w) A (call (.type "set") [.ref l]) Q E s:=by
 obtain ⟨c,tl,Z⟩:=PySem.F.called_set.mro
 have O:=PySem.F.called_set.made
 have Y:=PySem.F.called_set.sub
 refine wpAny_call (codeAny_of_tree ?_)
 show wpAny _ _ (callAny (.type "set") _) _ _ _
 refine aH2 ⟨Code.quiet_builtin _ (by decide +kernel),aI8 PySem.F.entry_type_call ?_⟩
 rw [Around.under_plain (weight_type_call_type "set" [.ref l] []) rfl]
 have h1:=PySem.F.called_set.notType
 have h2:=PySem.F.called_set.canCreate
 have a6:=PySem.F.typeCall_set_1 (.ref l)
 repeat (any_goals (first | assumption | wp_step))
 refine aH6 (asu (.ref l) (E:=E) (Q₁:=fun obj g=>obj=.ref s.heap.objs.size/\g={ s with heap:=s.heap.push (abx w) }) ⟨rfl,rfl⟩) fun r g P=>?_
 cases r with
 | error e=>exact P
 | ok fl =>
  cases fl with
  | ret obj =>
   obtain ⟨rfl,rfl⟩:=P
   have hS:(s.heap.push (abx w)).get? s.heap.objs.size=some (abx w):=aH5 _ rfl
   have hT:Shared.TypeIs { s with heap:=s.heap.push (abx w) } (.ref s.heap.objs.size) "set":=⟨_,hS,rfl⟩
   have a5:=PySem.F.called_set.init.lookup
   have a4:=PySem.F.called_set.init.bind (.ref s.heap.objs.size)
   repeat (any_goals (first | assumption | wp_step))
   refine aH6 (codeAny_call_builtin (R:=wants (fun r m=>r=.none/\∃ h' q L,m={ s with heap:=h',toks:=q }/\SetI prog w s.heap.objs.size L h'/\L.Nodup/\(∀ x,x∈L ↔ x∈ns) /\
     (∀ b o,s.heap.get? b=some o->h'.get? b=some o)) E) PySem.F.called_set.init.plain PySem.F.entry_set_init (check_set_init_1 hT ?_)) fun C m d=>?_
   ·obtain ⟨ol,J,z,nl,B⟩:=hl
    obtain ⟨a0,p,S,f⟩:=ol
    simp only at z B
    subst z;subst B
    have u:(s.heap.push (abx w)).get? l=some { cls:=.type "list",dict:=p,data:=.seq items nl,slots:=f }:=aH3 _ J
    have a2:=PySem.F.sub_list_set
    have a1:=PySem.F.sub_list_frozenset
    have a3:(Value.type "list" == Value.type "dict")=false:=by decide
    have D:(s.heap.push (abx w)).IsList l items:=⟨_,u,rfl,nl,rfl⟩
    unfold Builtin.«set.__init__» noKeywords Builtin.Frozenset.updateFrom
    generalize hPI:pyIter=PI
    unfold abx at *
    wp_walk
    subst hPI
    refine aI6 D ?_
    refine aH1 (wpAny_runValue ?_)
    have H:l < s.heap.objs.size:=aH4 J
    have U:A.in1.in1.in1.handled=none:=by simp [hh]
    have G:l ≠ (s.heap.push (abx w)).objs.size:=by
     rw [aI3];exact aA6 (aE2 H)
    have M:s.heap.objs.size ∉ [(s.heap.push (abx w)).objs.size,l]:=by
     rw [aI3];simp only [az9,aB2,aG7,or_false,not_or]
     exact ⟨aA6 (Nat.lt_succ_self _),Nat.ne_of_gt H⟩
    have y:∀ (i:Nat) (v:Value),items[i]?=some v->∃ t,v=.int ((fun i=>ns.getD i 0) i) t:=fun i v hv =>
     IntsAre.int_at hi i v (by rw [aC4];exact hv)
    refine av1 (Walks.list U _ l G items) s.heap.objs.size M (fun i=>ns.getD i 0) y hb (items.size - 0) 0 _ [] (by omega) (aE4 _)
     ⟨⟨_,aH5 _ rfl,rfl,rfl⟩,(D.push _)⟩ ((ax9 s.heap).at fun o e=>aH3 _ e) List.nodup_nil (az6 _) (fun x=>by simp) fun h' q L hk n T n2 n3=>?_
    show wpAny _ _ _ _ _ _
    refine aH2 ?_
    show wpAny _ _ (ret Value.none) _ _ _
    refine aH2 ⟨rfl,h',q,L,rfl,n,T,fun x=>?_,fun b o e=>?_⟩
    ·have K:items.size=ns.length:=by have:=hi.length;simpa using this
     rw [n3 x,K]
     constructor
     ·rintro ⟨j,a,b⟩
      rw [← b,aC3,az0 a];exact aD6 a
     ·intro hx
      obtain ⟨j,a,b⟩:=aG0.mp hx
      exact ⟨j,a,by rw [aC3,az0 a];exact b⟩
    ·have I:=aH4 e
     have W:b ≠ s.heap.objs.size:=aA6 I
     have X:b ≠ (s.heap.push (abx w)).objs.size:=by
      rw [aI3];exact aA6 (aE2 I)
     exact hk b o (by simp only [az9,aB2,aG7,or_false,not_or];exact ⟨W,X⟩) (aH3 _ (aH3 _ e))
   ·cases C with
    | error e=>exact d
    | ok fl₂ =>
     cases fl₂ with
     | ret r =>
      obtain ⟨rfl,h',q,L,rfl,n,T,n2,N⟩:=d
      repeat (any_goals (first | assumption | wp_step))
      exact h _ _ _ n T n2 N
     | _=>exact d.elim
  | _=>exact P.elim
end
theorem slot_it_next:Slot "set_iterator" "__next__" "set_iterator.__next__" :=
 .of (owner:="set_iterator") (n:="__next__") (by rw [typeLookup_type,builtinLookup_eq_fast];kernel_rfl) (by decide +kernel) (by decide +kernel) (by decide +kernel)
  (by first | exact .inl (by decide +kernel) | exact .inr (by decide +kernel)) (by rw [isSubtype_type];kernel_rfl)
theorem aft:Slot "set_iterator" "__iter__" "set_iterator.__iter__" :=
 .of (owner:="set_iterator") (n:="__iter__") (by rw [typeLookup_type,builtinLookup_eq_fast];kernel_rfl) (by decide +kernel) (by decide +kernel) (by decide +kernel)
  (by first | exact .inl (by decide +kernel) | exact .inr (by decide +kernel)) (by rw [isSubtype_type];kernel_rfl)
theorem als:Manifest.owners.lookup (String.ofList ['r','o','t','a','r','e','t','i','_','t','e','s'].reverse)=some Manifest.sig_set_iterator:=by kernel_rfl
theorem alt (a:Value):argsOk "set_iterator.__next__" ⟨[a],[]⟩:=by
 unfold argsOk;rw [signature?_of (id:="set_iterator.__next__") (n:=['_','_','t','x','e','n','_','_']) (o:=['r','o','t','a','r','e','t','i','_','t','e','s']) (by kernel_rfl) als];kernel_rfl
theorem alu (a:Value):argsOk "set_iterator.__iter__" ⟨[a],[]⟩:=by
 unfold argsOk;rw [signature?_of (id:="set_iterator.__iter__") (n:=['_','_','r','e','t','i','_','_']) (o:=['r','o','t','a','r','e','t','i','_','t','e','s']) (by kernel_rfl) als];kernel_rfl
theorem ajq:entryFor table "set_iterator.__next__" = some Builtin.«set_iterator.__next__»:=entryFor_of_tree (by kernel_rfl)
theorem ajr:entryFor table "set_iterator.__iter__" = some Builtin.«dict_keyiterator.__iter__»:=entryFor_alias (id':="dict_keyiterator.__iter__") (by kernel_rfl) rfl (by decide +kernel) (by kernel_rfl)
theorem aif:entryFor table "set.__iter__" = some Builtin.«frozenset.__iter__»:=entryFor_alias (id':="frozenset.__iter__") (by kernel_rfl) rfl (by decide +kernel) (by kernel_rfl)
section
variable {prog:Program} {w:World} {A:Around} {E:Value->Shared->Prop} {s:Shared} {a I:Addr} {es:Array (Int × Value)} {ep:Nat} {t:SetTable}
def IsIt (h:Heap) (I:Addr) (vs:Array Value):Prop:=∃ o,h.get? I=some o/\o.cls=.type "set_iterator"/\o.data=.fields vs
theorem IsIt.ty {vs:Array Value} (x:IsIt s.heap I vs):s.TypeIs (.ref I) "set_iterator":=let ⟨o,e,c,_⟩:=x;⟨o,e,c⟩
theorem IsIt.at {h h':Heap} {vs:Array Value} (x:IsIt h I vs) (k:∀ o,h.get? I=some o->h'.get? I=some o):IsIt h' I vs:=let ⟨o,e,r⟩:=x;⟨o,k o e,r⟩
theorem SetR.ty (x:SetR prog w a es ep t s.heap):s.TypeIs (.ref a) "set":=let ⟨o,e,c,_⟩:=x;⟨o,e,c.1⟩
theorem acz {Q:(Array (Int × Value) × Nat × SetTable)->Shared->Prop} (x:SetR prog w a es ep t s.heap) (h:Q (es,ep,t) s):wpAny (model prog w) A (setState a) Q E s:=let ⟨_,b,_,hd,hf,_⟩:=x;wpAny_setState_of b hd hf h
theorem ae9 {Q:Array (Int × Value)->Shared->Prop} (x:SetR prog w a es ep t s.heap) (h:Q es s):wpAny (model prog w) A (setEntries a) Q E s:=by
 unfold setEntries;exact aH1 (acz x (aH2 h))
theorem alv {Q:Nat->Shared->Prop} (x:SetR prog w a es ep t s.heap) (h:Q ep s):wpAny (model prog w) A (setEpoch a) Q E s:=by
 unfold setEpoch;exact aH1 (acz x (aH2 h))
theorem aig {Q:Bool->Shared->Prop} (h:Q (bt w) s):wpAny (model prog w) A setsByText Q E s:=by
 unfold setsByText;exact aH1 (wpAny_askSetting (aH2 h))
theorem aqu {M:Model} {src:Source} {n:Nat} {Q:Nat->Shared->Prop} (hn:0 < n) (h:∀ i d,i < n->Q i { s with drawn:=d }):wpAny M A (choose src n) Q E s:=fun Γ p _=>by
 unfold choose
 rw [Sem.wp_choose]
 exact ⟨by omega,h _ _ (Nat.mod_lt _ hn)⟩
theorem ann {α:Type} {M:Model}:∀ (n:Nat) (xs:List α) (s:Shared) (Q:List α->Shared->Prop),xs.length=n->(∀ ys d,ys.Perm xs->Q ys { s with drawn:=d })->wpAny M A (drawOrder n xs) Q E s
 | 0,xs,s,Q,hn,h=>by
  unfold drawOrder
  rw [aF6 hn] at h
  exact aH2 (h [] s.drawn (List.Perm.refl _))
 | n+1,[],s,Q,hn,h=>by cases hn
 | n+1,x :: xs,s,Q,hn,h=>by
  unfold drawOrder
  refine aH1 (aqu (by simp) fun i d hi=>?_)
  rw [az0 hi]
  dsimp only
  refine aH1 (ann n _ _ _ (by rw [List.length_eraseIdx];split <;> omega) fun ys d' a=>aH2 ?_)
  refine h _ d' ?_
  have e:(x :: xs)=(x :: xs).take i ++ (x :: xs)[i] :: (x :: xs).drop (i+1):=by
   rw [← List.drop_eq_getElem_cons hi,aB1]
  refine (a.cons _).trans ?_
  rw [List.eraseIdx_eq_take_drop_succ]
  refine List.Perm.trans ?_ (List.Perm.of_eq e.symm)
  exact List.perm_middle.symm
def dr (w:World) (es:Array (Int × Value)) (t:SetTable):Bool:=!bt w && (!t.plain && decide (es.size > 1))
def itO (f:Value) (a:Addr) (n ep:Nat):Obj:={ cls:=.type "set_iterator",data:=.fields #[f,rawInt (0:Nat),.ref a,rawInt n,rawInt ep] }
def tuO (pl:List Nat):Obj:={ cls:=.type "tuple",data:=.seq (pl.map fun (i:Nat)=>rawInt i).toArray }
theorem av2 {Q:Value->Shared->Prop} (x:SetR prog w a es ep t s.heap) (hz:es.size<=sizeLine)
  (f:dr w es t=false->Q (.ref s.heap.objs.size) { s with heap:=s.heap.push (itO (rawInt (0:Nat)) a es.size ep) })
  (g:dr w es t=true->∀ b d,b.Perm (List.range es.size)->Q (.ref (s.heap.objs.size+1)) { s with heap:=(s.heap.push (tuO b)).push (itO (.ref s.heap.objs.size) a es.size ep),drawn:=d }):wpAny (model prog w) A (pyIter (.ref a)) Q E s:=by
 refine wpAny_pyIter_slot x.ty PySem.F.slot_set_iter (aI4 PySem.F.slot_set_iter x.ty aif ?body (PySem.F.args_set_iter_1 _))
 unfold Builtin.«frozenset.__iter__»
 show wpAny _ _ (Builtin.Frozenset.sizeOf a >>= _) _ _ s
 unfold Builtin.Frozenset.sizeOf
 refine aH1 (aH1 (ae9 x (aH2 ?_)))
 unfold setDrawn
 refine aH1 (aH1 (acz x (aH1 (aig (aH2 ?_)))))
 show wpAny _ _ (if dr w es t=true then _ else _) _ _ s
 cases hd:dr w es t
 ·rw [aE0 (by decide)]
  refine aH1 (aH2 (aH1 (alv x ?_)))
  unfold newFields
  refine aH1 (aI1 (aH2 ⟨_,rfl,"set_iterator",_,⟨_,aH5 _ rfl,rfl⟩,slot_it_next.lookup,f hd⟩))
 ·rw [aD9 rfl]
  refine aH1 (ann es.size (List.range es.size) s _ (by simp) fun b d c=>?_)
  refine aH1 (wpAny_newTuple ?_ (by rw [az3,c.length_eq,List.length_range];exact hz))
  refine aH1 (alv (x.at fun o e=>aH3 _ e) ?_)
  unfold newFields
  refine aH1 (aI1 (aH2 ⟨_,rfl,"set_iterator",_,⟨_,aH5 _ rfl,rfl⟩,slot_it_next.lookup,?_⟩))
  have:=g hd b d c
  simp only [aI3]
  exact this
end
section
variable {prog:Program} {w:World} {A:Around} {E:Value->Shared->Prop} {s:Shared} {a I:Addr} {es:Array (Int × Value)} {ep:Nat} {t:SetTable}
def ord (w:World) (a:Addr) (es:Array (Int × Value)) (ep:Nat):List (Int × Value):=if bt w=true then (pickOrder (w.params.setOrder a ep) es).toList else es.toList
theorem ord_perm:(ord w a es ep).Perm es.toList:=by
 unfold ord;split
 ·exact aie _ _
 ·exact List.Perm.refl _
def sl (t:SetTable):Nat->Nat
 | 0=>0
 | i+1=>t.place.getD i 0+1
theorem aot (x:SetR prog w a es ep t s.heap) (hb:bt w=false) (hd:dr w es t=false):t.place.toList.Pairwise (· < ·):=by
 obtain ⟨o,_,_,_,hf,c⟩:=x
 unfold dr at hd
 rw [hb] at hd
 cases hp:t.plain with
 | true=>exact c.ris hp
 | false =>
  rw [hp] at hd
  have d:es.size<=1:=by simpa using hd
  have b:t.place.toList.length<=1:=by
   simp only [SetTable.fits,aF5,aE7] at hf
   rw [az8];omega
  match hl:t.place.toList with
  | []=>exact .nil
  | [y]=>exact List.pairwise_singleton _ _
  | y :: z :: r=>rw [hl] at b;simp at b
theorem av3 {slot i:Nat} {Q:Option (Value × Nat)->Shared->Prop} (x:SetR prog w a es ep t s.heap) (hd:dr w es t=false) (hs:bt w=false->slot=sl t i) (hi:i<=es.size)
  (n:∀ e nx,(ord w a es ep)[i]?=some e->(bt w=false->nx=sl t (i+1))->Q (some (e.2,nx)) s) (m:i=es.size->Q none s):wpAny (model prog w) A (setNext a slot i ep) Q E s:=by
 unfold setNext
 refine aH1 (acz x ?_)
 dsimp only
 refine aH1 (aig ?_)
 cases hb:bt w with
 | true =>
  rw [aD9 rfl]
  rw [aE0 (by simp)]
  refine aH1 ?_
  unfold setWalk
  refine aH1 (acz x ?_)
  dsimp only
  refine aH1 (aig ?_)
  rw [hb,aD9 rfl]
  refine aH1 (wpAny_askSetting (aH2 (aH2 ?_)))
  show Q ((pickOrder (w.params.setOrder a ep) es)[i]?.map fun e=>(e.2,slot)) s
  have l:ord w a es ep=(pickOrder (w.params.setOrder a ep) es).toList:=by unfold ord;rw [hb,aD9 rfl]
  rw [← aC4,← l]
  cases he:(ord w a es ep)[i]? with
  | none =>
   refine m ?_
   have:=aE1.mp he
   rw [ord_perm.length_eq,az8] at this
   omega
  | some e=>exact n e slot he fun z=>by rw [hb] at z;cases z
 | false =>
  rw [aE0 (by decide)]
  have b:=aot x hb hd
  obtain ⟨o,y,B,r,hf,u⟩:=id x
  have v:t.place.size=es.size:=by
   simp only [SetTable.fits,aF5,aE7] at hf;exact hf.1
  have d:SetTable.below t.place slot=i:=by
   rw [hs hb]
   cases i with
   | zero=>exact aos _ b
   | succ j =>
    have p:j < t.place.toList.length:=by rw [az8];omega
    have e:t.place.getD j 0=t.place.toList[j]:=by simp [Array.getD,show j < t.place.size by omega]
    show SetTable.below t.place (t.place.getD j 0+1)=j+1
    rw [e];exact aor _ b j p
  refine aH1 (aH2 ?_)
  have g:(!t.plain && decide (es.size > 1))=false:=by unfold dr at hd;rw [hb] at hd;exact hd
  show wpAny _ _ (if (!t.plain && decide (es.size > 1))=true then _ else _) _ _ s
  rw [g,aE0 (by decide)]
  refine aH1 ?_
  show wpAny _ _ (if (!t.led && !es.isEmpty)=true then _ else _) _ _ s
  rw [u.led hb]
  rw [aE0 (by simp)]
  refine aH2 ?_
  rw [d]
  have l:ord w a es ep=es.toList:=by unfold ord;rw [hb,aE0 (by decide)]
  rcases Nat.lt_or_ge i es.size with h | f
  ·have c:es[i]?=some es[i]:=az4 h
   have q:t.place[i]?=some t.place[i]:=az4 (by omega)
   rw [c,q]
   refine aH2 (n es[i] _ (by rw [l,aC4];exact c) fun _=>?_)
   show t.place[i] + 1=t.place.getD i 0+1
   simp [Array.getD,show i < t.place.size by omega]
  ·have c:es[i]?=none:=Array.getElem?_eq_none_iff.mpr f
   rw [c]
   exact aH2 (m (by omega))
theorem upd2 {h:Heap} {f x b n e:Value} {i:Value} (a:IsIt h I #[f,i,x,n,e]) (j:Nat) (v:Value) (vs:Array Value) (d : #[f,i,x,n,e].setIfInBounds j v=vs):IsIt (h.update I (Obj.mapFields (·.setIfInBounds j v))) I vs:=by
 obtain ⟨o,g,c,hd⟩:=a
 exact ⟨_,aI7 _ g (Obj.isFreed_of_fields (Obj.data_mapFields hd _)),(Obj.cls_mapFields ..).trans c,by rw [Obj.data_mapFields hd,d]⟩
theorem ac0 {vs:Array Value} {i:Nat} {x:Value} {Q:Unit->Shared->Prop} (a:IsIt s.heap I vs) (hi:i < vs.size) (h:Q () { s with heap:=s.heap.update I (Obj.mapFields (·.setIfInBounds i x)) }):wpAny (model prog w) A (setField (.ref I) i x) Q E s:=by
 obtain ⟨o,b,c,hd⟩:=a
 exact wpAny_setField b hd hi h
theorem ano {vs:Array Value} {Q:Option Value->Shared->Prop} (a:IsIt s.heap I vs)
  (h:wpAny (model prog w) A.in1 (Builtin.«set_iterator.__next__» ⟨[.ref I],[]⟩) (fun fin c=>∃ v,fin=.done (.ret v)/\Q (some v) c) (fun e c=>wpAny (model prog w) A (do if ← isInstance e (.type "StopIteration") then pure none else throw e) Q E c) s) :
  wpAny (model prog w) A (pyNext (.ref I)) Q E s:=by
 unfold pyNext
 refine aH1 (wpAny_attempt (wpAny_callSpecial?_slot (name:=Str.ofString "__next__") a.ty slot_it_next (aI4 slot_it_next a.ty ajq ?b (alt _))))
 case b =>
  refine aI0 h ?_ ?_
  ·rintro fin c ⟨v,rfl,q⟩
   exact ⟨v,rfl,aH2 q⟩
  ·intro e c q;exact q
theorem anp {Q:Option Value->Shared->Prop} {F:Type} {d:F->Shared->Prop} (hh:A.handled=none) (h:∀ h',(∀ b o,s.heap.get? b=some o->h'.get? b=some o)->Q none { s with heap:=h' }) :
  wpAny (model prog w) A.in1 (newExc (.type "StopIteration") [] >>= fun e=>(raiseNew e:Sem F)) d (fun e c=>wpAny (model prog w) A (do if ← isInstance e (.type "StopIteration") then pure none else throw e) Q E c) s:=by
 refine aH1 ?_
 simp only [newExc,newTuple];refine aH1 (aI1 ?_ (by size_fits))
 refine aH1 (m:=firstArgMember _ _) (wpAny_of_eq (a:=Value.none) (by first | rfl | (simp only [firstArgMember];rfl)) (aI1 ?_ (by size_fits)))
 simp only [raiseNew];refine aH1 (wpAny_handled ?_)
 rw [show A.in1.handled=none from hh];refine aH1 (aH2 (wpAny_throw ?_))
 refine aH1 (wpAny_isInstance (T:="StopIteration") (b:=true) ⟨_,aH5 _ rfl,rfl⟩ isSubtype_stop ?_)
 exact aH2 (h _ fun b o e=>aH3 _ (aH3 _ e))
theorem anq {slot i:Nat} {Q:Option Value->Shared->Prop} (hh:A.handled=none) (j:a ≠ I) (c:IsIt s.heap I #[rawInt slot,rawInt i,.ref a,rawInt es.size,rawInt ep]) (x:SetR prog w a es ep t s.heap) (hd:dr w es t=false) (hs:bt w=false->slot=sl t i) (hi:i<=es.size)
  (n:∀ e (nx:Nat) h',(ord w a es ep)[i]?=some e->(bt w=false->nx=sl t (i+1))->IsIt h' I #[rawInt nx,rawInt ((i+1:Nat):Int),.ref a,rawInt es.size,rawInt ep]->(∀ b o,b ≠ I->s.heap.get? b=some o->h'.get? b=some o)->Q (some e.2) { s with heap:=h' })
  (l:i=es.size->∀ h',(∀ b o,b ≠ I->s.heap.get? b=some o->h'.get? b=some o)->Q none { s with heap:=h' }):wpAny (model prog w) A (pyNext (.ref I)) Q E s:=by
 refine ano c ?_
 obtain ⟨o,m,p,g⟩:=id c
 unfold Builtin.«set_iterator.__next__»
 refine aH1 (aH2 (aH1 (wpAny_fieldsOf m g ?_)))
 show wpAny _ _ (setEntries a >>= _) _ _ s
 refine aH1 (ae9 x ?_)
 rw [aE0 (by simp)]
 show wpAny _ _ (setNext a slot i ep >>= _) _ _ s
 refine aH1 (av3 x hd hs hi (fun e nx h hn=>?_) fun hz=>?_)
 ·dsimp only
  refine aH1 (ac0 c (by simp) ?_)
  have d:=upd2 (b:=.none) c 0 (rawInt nx) #[rawInt nx,rawInt i,.ref a,rawInt es.size,rawInt ep] rfl
  refine aH1 (ac0 (s:={ s with heap:=_ }) d (by simp) ?_)
  have f:=upd2 (b:=.none) d 1 (rawInt ((i+1:Nat):Int)) #[rawInt nx,rawInt ((i+1:Nat):Int),.ref a,rawInt es.size,rawInt ep] rfl
  refine aH2 ⟨_,rfl,n e nx _ h hn f fun b o hb e=>?_⟩
  exact (aH9 _ _ (Ne.symm hb)).trans ((aH9 _ _ (Ne.symm hb)).trans e)
 ·dsimp only
  refine aH1 (ac0 c (by simp) ?_)
  refine anp (s:={ s with heap:=s.heap.update I _ }) hh fun h' k=>l hz h' fun b o hb e=>k b o ((aH9 _ _ (Ne.symm hb)).trans e)
theorem anr {vs:Array Value} {Q:Value->Shared->Prop} (a:IsIt s.heap I vs) (h:Q (.ref I) s):wpAny (model prog w) A (pyIter (.ref I)) Q E s:=by
 refine wpAny_pyIter_slot a.ty aft (aI4 aft a.ty ajr ?_ (alu _))
 show wpAny _ _ (ret (.ref I)) _ _ s
 exact aH2 ⟨_,rfl,"set_iterator",_,a.ty,slot_it_next.lookup,h⟩
theorem walks (hh:A.handled=none) (c:a ≠ I) (hd:dr w es t=false):Walks prog w A I [I,a] [I] es.size (fun i v=>((ord w a es ep).map (·.2))[i]?=some v)
  (fun i h=>∃ slot:Nat,IsIt h I #[rawInt slot,rawInt i,.ref a,rawInt es.size,rawInt ep]/\SetR prog w a es ep t h/\(bt w=false->slot=sl t i)) where
 sub:=fun b hb=>by simp at hb;simp [hb]
 frame:=fun _ _ _ st n=>let ⟨slot,d,f,l⟩:=st;⟨slot,d.at fun o e=>n I (by simp) o e,f.at fun o e=>n a (by simp) o e,l⟩
 item:=fun i s Q E hi st j=>by
  obtain ⟨slot,d,f,l⟩:=st
  refine anq hh c d f hd l (aE9 hi) (fun e nx h' m hn g k=>?_) fun hz=>by omega
  exact j _ h' s.toks (by rw [az5,m];rfl) ⟨nx,g,f.at fun o e=>k a o c e,hn⟩ fun b o hb e=>k b o (fun z=>hb (by simp [z])) e
 done:=fun s Q E st j=>by
  obtain ⟨slot,d,f,l⟩:=st
  refine anq hh c d f hd l (az6 _) (fun e nx h' m hn g k=>?_) fun hz h' k=>j h' s.toks fun b o hb e=>k b o (fun z=>hb (by simp [z])) e
  have:=(az1.mp m).1
  rw [ord_perm.length_eq,az8] at this
  omega
 self:=fun _ _ _ _ st j=>let ⟨_,d,_,_⟩:=st;anr d j
theorem att {i:Nat} {tu:Addr} {d:List Nat} {Q:Option Value->Shared->Prop} (hh:A.handled=none) (c:IsIt s.heap I #[.ref tu,rawInt i,.ref a,rawInt es.size,rawInt ep]) (z:s.heap.get? tu=some (tuO d)) (x:SetR prog w a es ep t s.heap) (p:d.Perm (List.range es.size)) (hi:i<=es.size)
  (y:∀ e h' j,d[i]?=some j->es[j]?=some e->IsIt h' I #[.ref tu,rawInt ((i+1:Nat):Int),.ref a,rawInt es.size,rawInt ep]->(∀ b o,b ≠ I->s.heap.get? b=some o->h'.get? b=some o)->Q (some e.2) { s with heap:=h' })
  (q:i=es.size->∀ h',(∀ b o,b ≠ I->s.heap.get? b=some o->h'.get? b=some o)->Q none { s with heap:=h' }):wpAny (model prog w) A (pyNext (.ref I)) Q E s:=by
 refine ano c ?_
 obtain ⟨o,v,C,h⟩:=id c
 unfold Builtin.«set_iterator.__next__»
 refine aH1 (aH2 (aH1 (wpAny_fieldsOf v h ?_)))
 show wpAny _ _ (setEntries a >>= _) _ _ s
 refine aH1 (ae9 x ?_)
 rw [aE0 (by simp)]
 show wpAny _ _ (seqItems? (.ref tu) >>= _) _ _ s
 refine aH1 (wpAny_seqItems z rfl ?_)
 dsimp only
 have m:d.length=es.size:=by rw [p.length_eq,List.length_range]
 have B:(rawInt (i:Int))=.int i 0:=rfl
 rcases Nat.lt_or_ge i es.size with u | r
 ·have l:d[i]?=some d[i]:=az0 (by omega)
  have g:(d.map fun (i:Nat)=>rawInt i).toArray[(i:Int).toNat]?=some (rawInt d[i]):=by
   rw [Int.toNat_natCast,List.getElem?_toArray,az5,l];rfl
  rw [g]
  have hm:d[i] < es.size:=aA9.mp (p.mem_iff.mp (aD6 _))
  have n:es[d[i]]?=some es[d[i]]:=az4 hm
  show wpAny _ _ (setNextDrawn a d[i] ep >>= _) _ _ s
  unfold setNextDrawn
  refine aH1 (aH1 (acz x ?_))
  dsimp only
  rw [aE0 (by simp),n]
  refine aH2 ?_
  refine aH1 (ac0 c (by simp) ?_)
  have f:=upd2 (b:=.none) c 1 (rawInt ((i+1:Nat):Int)) #[.ref tu,rawInt ((i+1:Nat):Int),.ref a,rawInt es.size,rawInt ep] rfl
  exact aH2 ⟨_,rfl,y _ _ _ l n f fun b o hb e=>(aH9 _ _ (Ne.symm hb)).trans e⟩
 ·have g:(d.map fun (i:Nat)=>rawInt i).toArray[(i:Int).toNat]?=none:=by
   rw [Int.toNat_natCast,List.getElem?_toArray,az5,aE1.mpr (by omega)];rfl
  rw [g]
  dsimp only
  refine aH1 (ac0 c (by simp) ?_)
  have f:=upd2 (b:=.none) c 0 (rawInt 0) #[rawInt 0,rawInt i,.ref a,rawInt es.size,rawInt ep] rfl
  refine aH1 (ac0 (s:={ s with heap:=_ }) f (by simp) ?_)
  refine anp (s:={ s with heap:=(s.heap.update I _).update I _ }) hh fun h' k=>q (by omega) h' fun b o hb e=>k b o ((aH9 _ _ (Ne.symm hb)).trans ((aH9 _ _ (Ne.symm hb)).trans e))
def ordD (es:Array (Int × Value)) (pl:List Nat):List Value:=pl.map fun j=>(es.toList.map (·.2)).getD j .none
theorem aqv {a:List Nat} (c:a.Perm (List.range es.size)):(ordD es a).Perm (es.toList.map (·.2)):=by
 refine (c.map _).trans (List.Perm.of_eq ?_)
 refine List.ext_getElem (by simp) fun i b d=>?_
 have:i < es.size:=by simpa using b
 simp [aC3,this]
theorem aya {tu:Addr} {q:List Nat} (hh:A.handled=none) (p:a ≠ I) (u:tu ≠ I) (r:q.Perm (List.range es.size)):Walks prog w A I [I,a,tu] [I] es.size (fun i v=>(ordD es q)[i]?=some v)
  (fun i h=>IsIt h I #[.ref tu,rawInt i,.ref a,rawInt es.size,rawInt ep]/\SetR prog w a es ep t h/\h.get? tu=some (tuO q)) where
 sub:=fun b hb=>by simp at hb;simp [hb]
 frame:=fun _ _ _ st n=>let ⟨l,c,d⟩:=st;⟨l.at fun o e=>n I (by simp) o e,c.at fun o e=>n a (by simp) o e,n tu (by simp) _ d⟩
 item:=fun i s Q E hi st g=>by
  obtain ⟨l,c,d⟩:=st
  refine att hh l d c r (aE9 hi) (fun e h' j m x f k=>?_) fun hz=>by omega
  refine g _ h' s.toks ?_ ⟨f,c.at fun o e=>k a o p e,k tu _ u d⟩ fun b o hb e=>k b o (fun z=>hb (by simp [z])) e
  unfold ordD
  rw [az5,m]
  simp [aC3,x]
 done:=fun s Q E st g=>by
  obtain ⟨l,c,d⟩:=st
  refine att hh l d c r (az6 _) (fun e h' j m x f k=>?_) fun hz h' k=>g h' s.toks fun b o hb e=>k b o (fun z=>hb (by simp [z])) e
  have:=(az1.mp m).1
  rw [r.length_eq,List.length_range] at this
  omega
 self:=fun _ _ _ _ st g=>anr st.1 g
end
section
variable {prog:Program} {w:World} {A:Around} {E:Value->Shared->Prop} {s:Shared} {a:Addr} {es:Array (Int × Value)} {ep:Nat} {t:SetTable}
theorem av4 {Q:Bool->Shared->Prop} (d:s.TypeIs (.ref a) "set") (h:Q false s):wpAny (model prog w) A (Builtin.List.listLengthHint (.ref a)) Q E s:=by
 unfold Builtin.List.listLengthHint
 refine aH1 (wpAny_specialOf d PySem.F.slot_set_len.lookup ?_)
 generalize hid:("set.__len__" : String)=id0
 wp_delta
 rw [show splitId id0=some ("set","__len__") from by subst hid;decide +kernel]
 subst hid
 refine aH1 (wpAny_isInstance (T:="set") (b:=true) d sub_set_self ?_)
 refine wpAny_ite_split (fun c=>absurd c (by decide)) (fun _=>?_)
 refine wpAny_ite_split (fun _=>?_) (fun c=>absurd (by decide +kernel) c)
 refine aH1 (wpAny_typeOf d ?_)
 exact aH2 h
theorem asv {a:List Value} {b:Array Value} (h:ItemsOf (fun i v=>a[i]?=some v) b a.length):b.toList=a:=by
 obtain ⟨c,d⟩:=h
 refine List.ext_getElem (by simpa using c) fun i g f=>?_
 have:=d i b.toList[i] (by rw [← aC4];exact az0 g)
 exact (aB6 ((az0 f).symm.trans this)).symm
theorem ayb {R:Result->Shared->Prop} (hh:A.handled=none) (x:SetR prog w a es ep t s.heap) (hz:es.size<=sizeLine) (S:Addr) (D:S ≠ a) (res:Value) (B:Nat) (Y:s.heap.get? S=some { cls:=.type "list",data:=.seq #[] B })
  (hR:∀ h' O d K c,(∀ b o,b ≠ S->s.heap.get? b=some o->h'.get? b=some o)->h'.get? S=some { cls:=.type "list",dict:=none,data:=.seq K c,slots:=#[] }->K.toList.Perm (es.toList.map (·.2))->R (.ok (.ret res)) { s with heap:=h',toks:=O,drawn:=d }) :
  wpAny (model prog w) A.in1 (Builtin.List.listExtendWith (.ref S) (.ref a) res)
   (fun fin m=>match fin with | .done f=>R (.ok f) m | .again E=>E.quiet=true/\codeAny (model prog w) A E R m) (fun e m=>R (.error e) m) s:=by
 have M:∀ (I:Addr) (fp:List Addr) (St:Nat->Heap->Prop) (g:List Value) (d:Drawn) (h:Heap) (u:Nat) (O:Nat),Walks prog w A.in1 I fp [I] es.size (fun i v=>g[i]?=some v) St->S ∉ fp->s.heap.objs.size<=I->g.Perm (es.toList.map (·.2))->St 0 h->(∀ b o,b ≠ S->s.heap.get? b=some o->h.get? b=some o) ->
   h.get? S=some { cls:=.type "list",data:=.seq #[] u }->codeAny (model prog w) A (.builtin "list.extend.loop" ⟨[.ref S,.ref I,res],[]⟩) R { s with heap:=h,toks:=O,drawn:=d }:=by
  intro I fp St g d h u O W p P C U H j
  refine codeAny_extend_loopS W.toS hz S p res es.size 0 _ #[] u rfl (aE4 _) U j (ItemsOf.nil _) fun m N E hm Q y=>?_
  have hl:es.size=g.length:=by rw [C.length_eq,az3,az8]
  rw [hl] at y
  rw [Moved.eq_with hm]
  refine hR m.heap m.toks d N E (fun b o hb e=>hm.heap b o (fun l=>?_) (H b o hb e)) Q (by rw [asv y];exact C)
  rcases az9.mp l with e' | l
  ·exact hb e'
  ·rw [aB2] at l
   subst l
   exact absurd (aH4 e) (Nat.not_lt.mpr P)
 have q:=aH4 Y
 have z:a < s.heap.objs.size:=let ⟨_,e,_⟩:=x;aH4 e
 unfold Builtin.List.listExtendWith
 refine aH1 (wpAny_typeOf (T:="set") x.ty ?_)
 have h1:Builtin.List.listSameRef (.ref S) (.ref a)=false:=by simp [Builtin.List.listSameRef,D]
 have h2:(Value.type "set" == Value.type "list")=false:=by decide
 have h3:(Value.type "set" == Value.type "tuple")=false:=by decide
 simp only [h1,h2,h3,Bool.or_false,Bool.false_eq_true,if_false]
 have n:∀ (Z:Bool) (I:Addr) (fp:List Addr) (St:Nat->Heap->Prop) (g:List Value) (d:Drawn) (h:Heap),Walks prog w A.in1 I fp [I] es.size (fun i v=>g[i]?=some v) St->S ∉ fp->s.heap.objs.size<=I->g.Perm (es.toList.map (·.2))->St 0 h->(∀ b o,s.heap.get? b=some o->h.get? b=some o)->
   wpAny (model prog w) A.in1 (holding [.ref I] (Builtin.List.listLengthHint (.ref a)) >>= fun L=>if (L || Z)=true then (rule "list.extend.makes-room" >>= fun _=>Builtin.List.listTouch (.ref S) >>= fun _=>again (.builtin "list.extend.loop" ⟨[.ref S,.ref I,res],[]⟩)) else again (.builtin "list.extend.loop" ⟨[.ref S,.ref I,res],[]⟩)) (fun fin m=>match fin with | .done f=>R (.ok f) m | .again E=>E.quiet=true/\codeAny (model prog w) A E R m) (fun e m=>R (.error e) m) { s with heap:=h,drawn:=d }:=by
  intro Z I fp St g d h W p P C st H
  have j:=H _ _ Y
  refine aH1 (aH7 (av4 (s:={ s with heap:=h,drawn:=d }) (SetR.ty (s:={ s with heap:=h,drawn:=d }) (x.at fun o e=>H a o e)) ?_))
  refine wpAny_ite_split (fun _=>?_) (fun _=>aH2 ⟨plainId_quiet PySem.F.plain_extend_loop _,M I fp St g d h B _ W p P C st (fun b o _ e=>H b o e) j⟩)
  refine aH1 (wpAny_rule ?_)
  refine aH1 ?_
  show wpAny _ _ (updateSeq S (·.push .none) >>= fun _=>updateSeq S (·.pop)) _ _ _
  refine aH1 (wpAny_updateSeq j rfl ?_)
  have r:=aI7 (Obj.mapSeq (·.push Value.none)) j rfl
  refine wpAny_updateSeq (hz:=by seq_fits) r rfl ?_
  have G:=aI7 (Obj.mapSeq (·.pop)) r rfl
  refine aH2 ⟨plainId_quiet PySem.F.plain_extend_loop _,M I fp St g d _ _ _ W p P C ?_ (fun b o hb e=>?_) G⟩
  ·refine W.frame 0 _ _ st fun b hb o e=>?_
   have J:b ≠ S:=fun h=>p (h ▸ hb)
   exact (aH9 _ _ (Ne.symm J)).trans ((aH9 _ _ (Ne.symm J)).trans e)
  ·exact (aH9 _ _ (Ne.symm hb)).trans ((aH9 _ _ (Ne.symm hb)).trans (H b o e))
 refine aH1 (av2 x hz (fun hd=>?_) fun hd X d C=>?_)
 ·exact n _ s.heap.objs.size _ _ ((ord w a es ep).map (·.2)) s.drawn _ (walks (A:=A.in1) (prog:=prog) (w:=w) (t:=t) (ep:=ep) hh (aA6 z) hd) (by simp only [az9,aG7,or_false,not_or];exact ⟨aA6 q,D⟩) (az6 _) (ord_perm.map _)
   ⟨0,⟨_,aH5 _ rfl,rfl,rfl⟩,x.at fun o e=>aH3 _ e,fun _=>rfl⟩ fun b o e=>aH3 _ e
 ·refine n _ (s.heap.objs.size+1) _ _ (ordD es X) d _ (aya (A:=A.in1) (prog:=prog) (w:=w) (t:=t) (ep:=ep) (tu:=s.heap.objs.size) hh (aA6 (aE2 z)) (aA6 (Nat.lt_succ_self _)) C) (by simp only [az9,aG7,or_false,not_or];exact ⟨aA6 (aE2 q),D,aA6 q⟩) (Nat.le_succ _) (aqv C)
   ⟨⟨itO (.ref s.heap.objs.size) a es.size ep,?_,rfl,rfl⟩,x.at fun o e=>aH3 _ (aH3 _ e),aH3 _ (aH5 _ rfl)⟩ fun b o e=>aH3 _ (aH3 _ e)
  have:=aH5 (s.heap.push (tuO X)) (o:=itO (.ref s.heap.objs.size) a es.size ep) rfl
  rw [aI3] at this
  exact this
theorem amk {Q:List Value->Shared->Prop} (hh:A.handled=none) (x:SetR prog w a es ep t s.heap) (hz:es.size<=sizeLine)
  (n:∀ h' j d (vs:List Value),(∀ b o,s.heap.get? b=some o->h'.get? b=some o)->s.heap.objs.size<=h'.objs.size->vs.Perm (es.toList.map (·.2))->Q vs { s with heap:=h',toks:=j,drawn:=d }):wpAny (model prog w) A (collect (.ref a)) Q E s:=by
 unfold collect
 refine aH1 (wpAny_runValue (aI8 PySem.F.entry_proto_collect ?a1))
 case a1 =>
  rw [aI2 PySem.F.plain_proto_collect _];show wpAny _ A.in1 (newList [] >>= fun l=>again (.builtin "list.__iadd__" ⟨[l,.ref a],[]⟩)) _ _ s
  refine aH1 (aI1 (aH2 ⟨plainId_quiet PySem.F.plain_list_iadd _,aI8 PySem.F.entry_list_iadd ?a2⟩))
  case a2 =>
   rw [aI2 PySem.F.plain_list_iadd _];show wpAny _ A.in1 (Builtin.List.listExtendWith (.ref s.heap.objs.size) (.ref a) (.ref s.heap.objs.size)) _ _ _
   have m:(s.heap.push { cls:=.type "list",data:=.seq ([]:List Value).toArray }).get? s.heap.objs.size=some { cls:=.type "list",data:=.seq #[] 0 }:=aH5 _ rfl
   have h:a < s.heap.objs.size:=let ⟨_,e,_⟩:=x;aH4 e
   refine ayb (R:=wants (fun v p=>wpAny (model prog w) A (match v with | .ref a=>(do match (← load a).data with | .seq xs _=>pure xs.toList | _=>unsupported "internal:collect") | _=>unsupported "internal:collect") Q E p) E) (s:={ s with heap:=s.heap.push { cls:=.type "list",data:=.seq ([]:List Value).toArray } }) hh (x.at fun o e=>aH3 _ e) hz s.heap.objs.size (Nat.ne_of_gt h) _ 0 m (fun h' j d i c k f g=>?a3)
   case a3 =>
    show wpAny (model prog w) A _ Q E _
    refine aH1 (wpAny_load f ?a4)
    case a4=>exact aH2 (n h' j d i.toList (fun b o e=>k b o (aA6 (aH4 e)) (aH3 _ e)) (aE9 (aH4 f)) g)
end
section
variable {prog:Program} {w:World} {A:Around} {E:Value->Shared->Prop} {s:Shared} {a:Addr}
def kV':Value->Int | .int k _=>k | _=>0
theorem ans:∀ {vs:List Value},(∀ v∈vs,∃ t,v=.int (kV' v) t)->IntsAre vs (vs.map kV')
 | [],_ => .nil
 | v :: vs,h=>by
  obtain ⟨t,e⟩:=h v aA8
  rw [aC1]
  generalize kV' v=k at e ⊢
  subst e
  exact .cons k t (ans fun u a=>h u (aA5 _ a))
theorem sorted_set {L:List Int} {Q:Value->Shared->Prop} (hh:A.handled=none) (x:SetI prog w a L s.heap) (D:L.length < 64)
  (h:∀ p h' l d e (out:List Value) (c:List Int),IntsAre out c->c.Perm L->c.Pairwise (·<=·)->(∀ b o,s.heap.get? b=some o->h'.get? b=some o)->s.heap.objs.size<=p->h'.get? p=some (seqObj "list" out.toArray e)->Q (.ref p) { s with heap:=h',toks:=l,drawn:=d }) :
  wpAny (model prog w) A (call (.builtin "sorted") [.ref a]) Q E s:=by
 obtain ⟨es,ep,t,x,B,y⟩:=x
 have hsz:es.size=L.length:=by rw [← y.length_eq,az3,az8]
 have i:es.size<=sizeLine:=by rw [sizeLine_eq];omega
 refine Calls.call_function_entry kind_sorted plain_sorted entry_sorted (args_sorted1 _) ?_
 unfold Builtin.«sorted»
 refine aH1 (m:=checkCount "sorted" 1 1 _) (aH2 (aH1 (amk (A:=A.in1) hh x i fun g l d vs kp hs r=>?_)))
 have j:vs.length=L.length:=by rw [r.length_eq,az3,az8];exact hsz
 have H:IntsAre vs (vs.map kV'):=ans fun v hm=>by
  obtain ⟨e,u,rfl⟩:=aA7.mp (r.mem_iff.mp hm)
  obtain ⟨_,t,C⟩:=B e u
  refine ⟨t,?_⟩
  rw [C];rfl
 have G:(vs.map kV').Perm L:=by
  refine (r.map kV').trans ?_
  rw [aC7]
  exact y
 refine aH1 (wpAny_newList ?_ (by rw [j,sizeLine_eq];omega))
 have f:(g.push (seqObj "list" vs.toArray 0)).get? g.objs.size=some (seqObj "list" vs.toArray 0):=aH5 _ rfl
 refine aH1 (aH7 (aI4 slot_list_sort ⟨_,f,rfl⟩ entry_list_sort (list_sort_tree (s:={ s with heap:=g.push (seqObj "list" vs.toArray 0),toks:=l,drawn:=d }) f H (by omega) fun out c F I z=>⟨_,rfl,?_⟩) (args_list_sort _)))
 obtain ⟨e,u⟩:=sortedHeap_at (vs:=vs) (out:=out) (n:=0) f
 refine aH2 ⟨_,rfl,h g.objs.size _ l d e out.toList c F (I.trans G) z (fun b o q=>?_) hs (by rw [Array.toArray_toList];exact u)⟩
 have lt:=aH4 (kp b o q)
 show (sortedHeap _ _ vs out).get? b=some o
 rw [sortedHeap_old (aA6 lt) (by rw [size_push'];exact aE2 lt)]
 exact aH3 _ (kp b o q)
end
end SS
namespace L2
open PySem PySem.W PyProof.Rows
def aqw (P:Program) (w:World) (K:Frag):List V->Hp->VK->Prop:=fun xs H Q=>∃ (a:Addr) (ns:List Int),xs=[.ref a]/\SqL K H a (ns.map V.int)/\ns.length < 4000/\∀ (L:List Int) (p:Addr),L.Nodup->(∀ x,x∈L ↔ x∈ns)->H p=none->Q (.ref p) (upd H p (.ext (SS.SetI P w p L)))
def alw (P:Program) (w:World):List V->Hp->VK->Prop:=fun xs H Q=>∃ (a:Addr) (L:List Int),xs=[.ref a]/\H a=some (.ext (SS.SetI P w a L))/\L.length < 64/\∀ (ns':List Int) (p:Addr),ns'.Perm L->ns'.Pairwise (·<=·)->H p=none->Q (.ref p) (upd H p (.lst (ns'.map V.int)))
section
variable {X:Cx}
theorem Inv.drawn' {pins:List (Addr × Obj)} {σ:St} {H:Hp} {s:Shared} (I:Inv X pins σ H s) (d:Drawn):Inv X pins σ H { s with drawn:=d }:=⟨I.ok,I.os,I.bare,I.base,I.loc,I.cell,I.free,I.freeC,I.pin,I.hok,I.len⟩
theorem ai5 (j:X.calm=true):abh X (.type "set") (aqw X.prog X.w X.K):=by
 intro pins s σ H xs us Q I r h
 obtain ⟨a,ns,rfl,ha,n,q⟩:=h
 obtain ⟨u,rfl,g⟩:=acj r
 cases g
 obtain ⟨its,i,f,hz⟩:=I.list ha
 have i1:IntsAre its.toArray.toList ns:=act i
 have b:its.toArray.size=ns.length:=by have:=i1.length;simpa using this
 refine SS.call_set (items:=its.toArray) (I.ok.hd j) f.isList i1 (by rw [b];unfold scanBound;omega) fun h' d L c nd hm kp=>?_
 refine ⟨.ref s.heap.objs.size,_,I.laid (t':=d) (o:=.ext (SS.SetI X.prog X.w s.heap.objs.size L)) kp (az6 _) ⟨c,?_,fun m l x k=>x.at k⟩,rfl,q L _ nd hm (I.hok.fresh (az6 _))⟩
 obtain ⟨es,ep,t,⟨o,e,_⟩,_⟩:=c
 exact ⟨o,e⟩
theorem afu (x:X.calm=true):abh X (.builtin "sorted") (alw X.prog X.w):=by
 intro pins s σ H xs us Q I r h
 obtain ⟨a,L,rfl,ha,y,q⟩:=h
 obtain ⟨u,rfl,n⟩:=acj r
 cases n
 obtain ⟨l,_,_⟩:=(show ObjOk X.prog X.w H s.heap a (.ext (SS.SetI X.prog X.w a L)) from I.hok a _ ha)
 refine SS.sorted_set (I.ok.hd x) l y fun p h' c d e out b v g i kp f j=>?_
 have m:Inv X pins σ (upd H p (.lst (b.map V.int))) { s with heap:=h',drawn:=d,toks:=c }:=by
  have ok:ObjOk X.prog X.w (upd H p (.lst (b.map V.int))) h' p (.lst (b.map V.int)):=⟨by rw [az3,g.length_eq,sizeLine_eq];omega,out,e,ad6 v,by rw [j]⟩
  have J:=I.laid (t':=c) (o:=.lst (b.map V.int)) kp f ok
  exact J.drawn' d
 exact ⟨.ref p,_,m,rfl,q b _ g i (I.hok.fresh f)⟩
end
end L2
namespace VL
open PySem PySem.Spec L2
section
variable {B:Bs} {env:En} {QO:Sl->En->Prop} {K:Frag} {ta:TA} {P:Program} {w:World}
theorem agn (h:EvA B ta env fun ds e=>∃ ns:List Int,ds=[.list (ns.map .int)]/\ns.length < 64/\∀ f:List Int,f.Pairwise (· < ·)->(∀ x,x∈f ↔ x∈ns)->QO (.own (OL (f.map .int))) e):EvO B (tCB (alw P w) (acn (tCB (aqw P w K) ta) tNil)) env QO:=fun σ G H F Q I k =>
 h σ G H F _ I fun vs l N A ds y d v C s=>by
  obtain ⟨ns,n,R,q⟩:=s
  subst n
  cases C with
  | cons r t =>
   cases t
   cases r with
   | @lst a us _ ha rs =>
    have:=Rps.ints_inv rs
    subst this
    refine ⟨a,ns,rfl,SqL.of (d.gh _ _ ha),by omega,fun L p nd hm hf=>?_⟩
    have D:l p=none:=by
     cases e:l p with
     | none=>rfl
     | some u=>rw [d.gh p u e] at hf;cases hf
    have J:=d.aside (p:=p) (o:=.ext (SS.SetI P w p L)) (fun _ z=>nomatch z) D (fun j z=>d.no_f hf j z) (d.no_b hf)
    have O:L.length<=ns.length:=List.Nodup.length_le_of_subset nd fun x E=>(hm x).mp E
    refine ⟨p,L,rfl,aak,by omega,fun c M m hs g=>?_⟩
    have o:=Out.newL J.gh g (Rps.ints c)
    refine k _ _ _ A _ _ y (J.out o).1 (v.trans o.gg) (J.out o).2 (q c ?_ fun x=>(m.mem_iff).trans (hm x))
    have i:c.Nodup:=m.nodup_iff.mpr nd
    exact (hs.and i).imp fun ⟨a,b⟩=>by omega
end
theorem aqx {α:Type} {K:Frag} {src:List (Option Nat)} {a:En} {te:TE} {c:TT} {R:List PyData->En->Prop} {xs:List α} {f : α->PyData} (g : α->PyData) (p : α->Bool) (m:noIo (aah src a)=true) (M:xs.length<=999999)
  (h:∀ x∈xs,∀ j:Bs,j.K=K->EvT j c (some (.st (f x)) :: aah src a) fun b q=>b=p x/\q=some (.st (f x)) :: aah src a/\(b=true->Ev j te (some (.st (f x)) :: aah src a) fun y w=>y=g x/\w=some (.st (f x)) :: aah src a))
  (A:R ((xs.filter p).map g) a):LcV K (none :: src) (aa1 0) c te (xs.map f) a R:=by
 have l:noIo (aah (none :: src) a)=true:=by
  show ((none :: aah src a).all fun s => !isIo s)=true
  rw [List.all_cons]
  exact (aF5 _ _).mpr ⟨rfl,m⟩
 refine ⟨fun i ys e=>ys=((xs.take i).filter p).map g/\∃ o,e=stO o :: aah src a,⟨by simp,none,rfl⟩,?_,?_,?_⟩
 ·rintro i ys e ⟨_,o,rfl⟩
  exact ⟨⟨isIo_stO.symm,aci⟩,acr acm⟩
 ·rintro i d ys e hd ⟨rfl,o,rfl⟩ j C
  rw [az5] at hd
  cases hx:xs[i]? with
  | none=>rw [hx] at hd;cases hd
  | some x =>
  rw [hx] at hd
  cases hd
  have hi:i < xs.length:=(az1.mp hx).1
  have z:xs.take (i+1)=xs.take i ++ [x]:=by rw [aF8,hx];rfl
  refine aau ?_
  show EvT j c (some (.st (f x)) :: aah src a) _
  intro σ G H F Q I k
  refine h x (az2 hx) j C σ G H F Q I fun b G' H' u q r g' ⟨hb,B,E⟩=>k b G' H' u q r g' ?_
  subst B
  by_cases hp:b=true
  ·rw [aD9 hp]
   intro σ G H F Q I k
   refine E hp σ G H F Q I fun v G' H' u d' w r g' J ⟨D,n⟩=>k v G' H' u d' w r g' J ?_
   subst D n
   refine ⟨?_,?_,some _,rfl⟩
   ·have:=aD7 p (xs.take i)
    simp only [az3]
    have L:(xs.take i).length<=i:=by simp;omega
    omega
   ·rw [z,List.filter_append,aC9]
    have:p x=true:=by rw [← hb];exact hp
    simp [this]
  ·rw [aE0 hp]
   refine ⟨?_,some _,rfl⟩
   rw [z,List.filter_append,aC9]
   have:p x=false:=by rw [← hb];simpa using hp
   simp [this]
 ·rintro ys e ⟨rfl,o,rfl⟩
  rw [aev l,az3,aF2]
  exact A
section
variable {B:Bs} {env:En} {QO:Sl->En->Prop} {Q':PyData->En->Prop} {K:Frag} {i:Nat}
end
section
variable {B:Bs} {env:En} {QO:Sl->En->Prop} {Q':PyData->En->Prop} {K:Frag} {E:XK} {i:Nat}
end
def stS:Option Sl->Option Sl
 | some (.st d)=>some (.st d)
 | some (.scr ns)=>some (.scr ns)
 | _=>none
def momE (env:En) (i:Nat) (d:PyData):En:=(env.map stS).set i (some (.st d))
section
variable {B:Bs} {env:En} {QO:Sl->En->Prop} {Q':PyData->En->Prop} {K:Frag} {i j:Nat} {ta te:TE}
theorem aqy {A:Own} {d:PyData} (j:Has env i A) (L:Frz A d) (h:∀ b:Bs,b.K=B.K->Ev b te (momE env i d) fun d' _=>ae7 d'=true/\Q' d' env):Ev B te env Q':=fun σ G H F Q I k=>by
 obtain ⟨v,C,M⟩:=I.has j
 have c:=abm (H:=H) (I.fg i)
 let b:Bs:={ K:=B.K,G:=jn G H (F i),H:=H,R:=H,S:=σ,F:=fun _ _=>False }
 have hi:i < env.length:=by
  rcases j with e | e <;> exact (az1.mp e).1
 have J:VI b (jn G H (F i)) H σ (momE env i d) (fun _ _=>False):={
  gh:=aj6 I.gh
  g0:=Same.refl _
  gn:=fun a o e => .inl e
  rs:=Same.refl _
  rb:=Same.refl _
  bh:=fun a o e=>⟨o,e⟩
  fg:=fun _ _ z=>z.elim
  fr:=fun _ _ z=>z.elim
  fd:=fun _ _ _ z=>z.elim
  fo:=fun _ _ z=>z.elim
  sl:=fun m s e=>by
   unfold momE at e
   by_cases hm:m=i
   ·subst hm
    rw [aC2,aD9 rfl,aD9 (by simpa using hi)] at e
    cases e
    exact ⟨v,C,L _ _ _ _ M (I.fg m) I.gh,fun _ z=>z⟩
   ·rw [aC2,aE0 (fun z=>hm z.symm),az5] at e
    cases em:env[m]? with
    | none=>rw [em] at e;cases e
    | some o =>
     rw [em] at e
     cases o with
     | none=>cases e
     | some t =>
      obtain ⟨u,l,q⟩:=I.sl m t em
      cases t with
      | st d'=>cases e;exact ⟨u,l,q.1.same c,fun _ z=>z⟩
      | scr ns =>
       cases e
       obtain ⟨⟨a,n,N⟩,_⟩:=q
       exact ⟨u,l,⟨a,n,c.seq N⟩,fun _ z=>z⟩
      | own A'=>cases e
      | io A'=>cases e
  ln:=by simp [momE,I.ln]
  ft:=fun a x e=>c _ _ (I.ft a x e) }
 refine h b rfl σ _ H _ Q J fun w D H2 F2 d' O f r g ⟨hs,q⟩=>?_
 have o:Out (jn G H (F i)) H w D H2 (.st d') (fun _=>False):={
  gg:=r
  gh:=f.gh
  hh:=f.rs
  gn:=f.gn
  fn:=fun _ z=>z.elim
  fg:=fun _ z=>z.elim
  fo:=fun _ z=>z.elim
  ok:=⟨g,fun _ z=>z⟩
  ft:=fun _=>f.ft }
 obtain ⟨y,p,E⟩:=I.moment c o
 exact k w y H2 F d' env E p (aib g hs) q
end
end VL
namespace G
open PySem L2 VL
def top (i:Nat):Stmt:=PySem.Challenge.pw_fewties_k19_papers_that_stay.main.body.getD i (.Pass ⟨0,0,0,0⟩)
abbrev s_is_whole:Stmt:=top 5
abbrev s_is_between:Stmt:=top 6
abbrev s_is_place:Stmt:=top 7
abbrev s_is_rising:Stmt:=top 8
abbrev s_tied_places:Stmt:=top 9
abbrev s_far_from:Stmt:=top 10
abbrev s_need_place:Stmt:=top 11
abbrev s_all_far:Stmt:=top 12
abbrev s_is_joined:Stmt:=top 13
abbrev s_need_joined:Stmt:=top 15
abbrev s_far_rows:Stmt:=top 16
abbrev s_stay_shows:Stmt:=top 18
abbrev s_is_pair:Stmt:=top 19
abbrev s_need_places:Stmt:=top 20
abbrev s_need_far:Stmt:=top 21
abbrev s_are_apart:Stmt:=top 22
abbrev s_law_draws:Stmt:=top 24
abbrev s_law_web:Stmt:=top 25
abbrev s_law_copy:Stmt:=top 26
abbrev s_law_rows:Stmt:=top 27
abbrev s_law_shows:Stmt:=top 30
abbrev s_law_apart:Stmt:=top 31
abbrev s_law_bent:Stmt:=top 32
abbrev s_law:Stmt:=top 33
structure Txt (K:Frag) (mg:Str->Option Value):Prop where
 b_ValueError:mg "ValueError" = none
 b_all:mg "all" = none
 b_enumerate:mg "enumerate" = none
 b_range:mg "range" = none
 b_list:mg "list" = none
 b_max:mg "max" = none
 b_sorted:mg "sorted" = none
 b_isinstance:mg "isinstance" = none
 b_int:mg "int" = none
 b_len:mg "len" = none
 b_abs:mg "abs" = none
 b_bool:mg "bool" = none
 b_tuple:mg "tuple" = none
 b_min:mg "min" = none
 b_set:mg "set" = none
 d_is_whole:∃ f fd,DefAt K mg "is_whole" s_is_whole ["thing"] f fd
 d_is_between:∃ f fd,DefAt K mg "is_between" s_is_between ["least","most","thing"] f fd
 d_is_place:∃ f fd,DefAt K mg "is_place" s_is_place ["n","thing"] f fd
 d_is_rising:∃ f fd,DefAt K mg "is_rising" s_is_rising ["things"] f fd
 d_tied_places:∃ f fd,DefAt K mg "tied_places" s_tied_places ["web"] f fd
 d_far_from:∃ f fd,DefAt K mg "far_from" s_far_from ["tied","start"] f fd
 d_need_place:∃ f fd,DefAt K mg "need_place" s_need_place ["web","thing"] f fd
 d_all_far:∃ f fd,DefAt K mg "all_far" s_all_far ["web","a"] f fd
 d_is_joined:∃ f fd,DefAt K mg "is_joined" s_is_joined ["web"] f fd
 d_need_joined:∃ f fd,DefAt K mg "need_joined" s_need_joined ["web"] f fd
 d_far_rows:∃ f fd,DefAt K mg "far_rows" s_far_rows ["web"] f fd
 d_stay_shows:∃ f fd,DefAt K mg "stay_shows" s_stay_shows ["web","k","paper"] f fd
 d_is_pair:∃ f fd,DefAt K mg "is_pair" s_is_pair ["thing"] f fd
 d_need_places:∃ f fd,DefAt K mg "need_places" s_need_places ["k"] f fd
 d_need_far:∃ f fd,DefAt K mg "need_far" s_need_far ["r"] f fd
 d_are_apart:∃ f fd,DefAt K mg "are_apart" s_are_apart ["rows","least","places"] f fd
 d_law_draws:∃ f fd,DefAt K mg "_law_draws" s_law_draws ["script","many"] f fd
 d_law_web:∃ f fd,DefAt K mg "_law_web" s_law_web ["d","spot","most"] f fd
 d_law_copy:∃ f fd,DefAt K mg "_law_copy" s_law_copy ["web"] f fd
 d_law_rows:∃ f fd,DefAt K mg "_law_rows" s_law_rows ["web"] f fd
 d_law_shows:∃ f fd,DefAt K mg "_law_shows" s_law_shows ["web","rows","k","paper"] f fd
 d_law_apart:∃ f fd,DefAt K mg "_law_apart" s_law_apart ["rows","far","begin"] f fd
 d_law_bent:∃ f fd,DefAt K mg "_law_bent" s_law_bent ["paper","x","n"] f fd
 d_law:∃ f fd,DefAt K mg "law" s_law ["script"] f fd
local macro_rules | `(tactic| row_cond sc) => `(tactic| exact ⟨rfl,rfl,rfl,by decide +kernel,rfl,by decide +kernel,by decide +kernel⟩)
local macro_rules | `(tactic| row_cond gn) => `(tactic| first | (with_reducible first | refine evg_n0 ?_ | refine axp ?_ | refine axq ?_ | refine axr ?_ | refine axs ?_ | refine axt ?_ | refine axu ?_ | refine axv ?_ | refine axw ?_ | refine axx ?_ | refine ave ?_ | refine avf ?_ | refine avg ?_ | refine avh ?_ | refine avi ?_ | refine avj ?_ | refine avk ?_ | refine avl ?_ | refine evg_n18 ?_ | refine evg_n19 ?_ | refine evg_n20 ?_ | refine evg_n21 ?_ | refine evg_n22 ?_ | refine evg_n23 ?_ | refine evg_n24 ?_ | refine evg_n25 ?_) | ((with_reducible refine aau ?_); dsimp only [List.set_cons_zero, List.set_cons_succ]))
local macro_rules | `(tactic| row_cond dc) => `(tactic| first | assumption | omega | (with_reducible rfl))
local macro_rules | `(tactic| row_cond ar) => `(tactic| first | assumption | (refine ⟨?_, ?_, ?_⟩ <;> decide) | (constructor <;> first | assumption | omega) | (show (0 : Int) < _; first | assumption | omega) | (left; constructor <;> first | assumption | omega) | (right; constructor <;> first | assumption | omega))
local macro_rules | `(tactic| row_cond hs) => `(tactic| first | exact Or.inl rfl | exact Or.inr rfl)
local macro_rules | `(tactic| row_cond fz) => `(tactic| first | exact adi | exact apy | exact frz_OT | exact frz_OW | exact age | assumption)
local macro_rules | `(tactic| row_cond le) => `(tactic| first | exact Nat.le_of_ble_eq_true rfl | assumption | omega | (simp only [List.length_append, List.length_map, List.length_cons, List.length_nil, List.length_set, List.length_replicate]; omega))
local macro_rules | `(tactic| row_cond ia) => `(tactic| first | assumption | exact at0 | exact at1 | exact at2 | exact rfl)
local macro_rules | `(tactic| row_cond ty) => `(tactic| first | exact axm | exact avc | exact ash | exact avd | exact ty_str | exact ty_dict)
local macro_rules | `(tactic| row_cond sEvS) => `(tactic| first | (with_reducible refine ar1 (fun c_ hc_ => ?_)) | (with_reducible first | refine aut ?_ | refine axc ?_ | refine arx ?_) | ((with_reducible refine' asi ?h0 ?_); (case h0 => exact rfl)) | (with_reducible first | refine anc ?_ | refine auu ?_ | refine acy ?_) | ((with_reducible refine' aom ?h0 ?_); (case h0 => exact rfl)) | ((with_reducible refine' aon ?h0 ?_); (case h0 => exact rfl)) | ((with_reducible refine' auv ?h0 ?_); (case h0 => assumption)))
local macro_rules | `(tactic| row_cond sEvG) => `(tactic| first | row_cond gn | ((with_reducible refine' anb ?h0 ?_); (case h0 => exact rfl)) | ((with_reducible refine' asg ?h0 ?_); (case h0 => row_cond hs)) | ((with_reducible refine' ani ?h0 ?_); (case h0 => exact rfl)) | (with_reducible refine evg_st ?_))
local macro_rules | `(tactic| row_cond sEvGs) => `(tactic| first | (with_reducible first | refine adj ?_ | refine agx ?_))
local macro_rules | `(tactic| row_cond sEv) => `(tactic| first | ((with_reducible refine' aw5 ?h0 ?_); (case h0 => exact rfl)) | (with_reducible refine aw6 ?_) | ((with_reducible refine' axk ?h0 ?_); (case h0 => row_cond hs)) | ((with_reducible refine' axi ?h0 ?_); (case h0 => row_cond hs)) | (with_reducible refine ays ?_) | ((with_reducible refine' axl ?h0 ?_); (case h0 => row_cond ty)) | ((with_reducible refine' axj ?h0 ?h1 ?_); (case h0 => row_cond hs); (case h1 => row_cond fz)) | (with_reducible refine ar2 ?_) | ((with_reducible refine' aul ?h0 ?h1 ?_); (case h0 => exact rfl); (case h1 => row_cond fz); dsimp only [List.set_cons_zero, List.set_cons_succ]) | (with_reducible first | refine aw9 ?_ | refine axa ?_ | refine ayr ?_ | refine aw7 ?_ | refine ayt ?_ | refine auq ?_ | refine aur ?_ | refine arw ?_ | refine abr (te:=tCB (ahi _) _) ?_ | refine abr (te:=tCB (ahf _) _) ?_ | refine ayu ?_) | ((with_reducible refine' aoh ?h0 ?_); (case h0 => row_cond hs)) | ((with_reducible refine' asf ?h0 ?_); (case h0 => row_cond hs)) | ((with_reducible refine' amj ?h0 ?_); (case h0 => row_cond hs)) | ((with_reducible refine' asn ?h0 ?_); (case h0 => row_cond hs)) | (with_reducible refine ev_listR ?_) | ((with_reducible refine' ay3 ?h0 ?_); (case h0 => decide)) | ((with_reducible refine' aqi ?h0 ?h1 ?_); (case h0 => exact rfl); (case h1 => assumption)) | (with_reducible first | refine ase ?_ | refine ax4 ?_ | refine ass ?_ | refine abr (te:=tRev _ _ _) ?_))
local macro_rules | `(tactic| row_cond sEvO) => `(tactic| first | (with_reducible first | refine alb (r:=rCat) ?_ | refine alb (r:=rRep) ?_ | refine abg (te:=tOp _ _ _) ?_ | refine abg (te:=tVar _) ?_ | refine abg (te:=tC _) ?_ | refine ana ?_) | (with_reducible refine am9 ?_) | ((with_reducible refine' ap1 ?h0 ?h1 ?_); (case h0 => exact rfl); (case h1 => assumption)) | (with_reducible first | refine aiz ?_ | refine avn ?_) | ((with_reducible refine' ap2 ?h0 ?_); (case h0 => decide)) | (with_reducible first | refine ank ?_) | ((with_reducible refine' aho ?h0 ?h1 ?_); (case h0 => exact rfl); (case h1 => assumption)) | (with_reducible first | refine ai1 ?_ | refine anl ?_ | refine aqf ?_ | refine aqd ?_ | refine apz (r:=ali _) ?_ | refine abg (te:=tUn _ _) ?_ | refine abg (te:=ant _ _) ?_ | refine abg (te:=anu _) ?_ | refine abg (te:=akc _ _ _ _ _) ?_ | refine abg (te:=an3 _ _) ?_ | refine abg (te:=af5 _ _) ?_ | refine abg (te:=akn _ _) ?_ | refine abg (te:=tCB (rLen _) _) ?_ | refine abg (te:=tCB (rIsi _) _) ?_ | refine abg (te:=tCB aj1 _) ?_ | refine abg (te:=tCB aj2 _) ?_ | refine abg (te:=tCB aj3 _) ?_ | refine abg (te:=tCB rAbs _) ?_ | refine abg (te:=tCB (aob _) _) ?_ | refine abg (te:=tCB (rAll _) _) ?_ | refine abg (te:=tBM _ _ _ _ _) ?_))
local macro_rules | `(tactic| row_cond sEvT) => `(tactic| first | (with_reducible first | refine agw ?_ | refine ayv ?_ | refine aun ?_ | refine axb ?_ | refine auo ?_ | refine ads ?_) | (with_reducible refine aup ?_))
local macro_rules | `(tactic| row_cond sEvA) => `(tactic| first | (with_reducible first | refine arv ?_ | refine aum ?_))
local macro_rules | `(tactic| row_cond sEvI) => `(tactic| first | (with_reducible first | refine arz ?_ | refine ar0 ?_ | refine ary ?_ | refine asl ?_) | ((with_reducible refine' ax0 ?h0 ?_); (case h0 => exact rfl); dsimp only [List.set_cons_zero, List.set_cons_succ]) | (with_reducible refine evi_tup ?_))
local macro_rules | `(tactic| row_cond sEvOp) => `(tactic| first | (with_reducible first | refine asc ?_ | refine asd ?_))
local macro_rules | `(tactic| row_cond sOp2) => `(tactic| first | (with_reducible first | refine auz ?_ | refine au0 ?_) | ((with_reducible refine' axg ?h0 ?_); (case h0 => row_cond ar)) | (with_reducible first | refine au1 ?_ | refine au2 ?_) | ((with_reducible refine' au7 ?h0 ?_); (case h0 => row_cond ia)) | ((with_reducible refine' au8 ?h0 ?_); (case h0 => row_cond ia)) | (with_reducible first | refine au4 ?_ | refine au9 ?_ | refine ar6 ?_) | ((with_reducible refine' ava ?h0 ?_); (case h0 => row_cond le)))
local macro_rules | `(tactic| row_cond sOp1) => `(tactic| first | (with_reducible refine axh ?_))
local macro_rules | `(tactic| row_cond sOpA) => `(tactic| first | (with_reducible first | refine ar7 ?_ | refine ar8 ?_ | refine ar9 ?_ | refine asa ?_ | refine asb ?_ | refine avt ?_ | refine asm ?_))
local macro_rules | `(tactic| row_cond sFQ) => `(tactic| first | (with_reducible first | refine ayq ?_ | refine ack ?_))
local macro_rules | `(tactic| row_cond sRngA1) => `(tactic| first | ((with_reducible refine' axe ?h0 ?h1 ?_); (case h0 => omega); (case h1 => omega)))
local macro_rules | `(tactic| row_cond sRngA2) => `(tactic| first | ((with_reducible refine' axf ?h0 ?_); (case h0 => omega)))
local macro_rules | `(tactic| row_cond sRest) => `(tactic| first | (with_reducible first | refine x_bl ?_ | refine x_st ?_ | refine axd ?_ | refine ayw ?_) | ((with_reducible refine' ay0 ?h0 ?h1 ?_); (case h0 => row_cond hs); (case h1 => row_cond ia)) | ((with_reducible refine' ay1 ?h0 ?h1 ?_); (case h0 => row_cond hs); (case h1 => row_cond fz)) | ((with_reducible refine' x_sc ?h0 ?_); (case h0 => exact rfl)) | ((with_reducible refine' ayz ?h0 ?_); (case h0 => row_cond le)) | (with_reducible first | refine adh ?_ | refine aer ?_ | refine aes ?_ | refine am7 ?_) | ((with_reducible refine' ahz ?h0 ?_); (case h0 => row_cond dc)) | ((with_reducible refine' ah0 ?h0 ?_); (case h0 => row_cond dc)) | ((with_reducible refine' ars ?h0 ?_); (case h0 => row_cond dc)) | ((with_reducible refine' ay2 ?h0 ?_); (case h0 => first | exact rfl | row_cond hs)) | ((with_reducible refine' axn ?h0 ?h1 ?_); (case h0 => exact rfl); (case h1 => row_cond le); dsimp only [List.set_cons_zero, List.set_cons_succ]) | ((with_reducible refine' aoi ?h0 ?h1 ?_); (case h0 => exact rfl); (case h1 => first | exact ixN0 | exact ixN1 | exact ixN2 | assumption); dsimp only [List.set_cons_zero, List.set_cons_succ, reS]) | (with_reducible first | refine axo ?_ | refine asj ?_) | ((with_reducible refine' x_dT ?h0 ?h1 ?_); (case h0 => exact rfl); (case h1 => row_cond le); dsimp only [List.set_cons_zero, List.set_cons_succ]) | ((with_reducible refine' x_dK ?h0 ?h1 ?_); (case h0 => exact rfl); (case h1 => row_cond le); dsimp only [List.set_cons_zero, List.set_cons_succ]) | ((with_reducible refine' x_dN ?h0 ?_); (case h0 => row_cond hs)) | ((with_reducible refine' x_dG ?h0 ?h1 ?_); (case h0 => row_cond hs); (case h1 => assumption)) | (with_reducible first | refine x_en ?_) | ((with_reducible refine' avu ?h0 ?h1 ?_); (case h0 => omega); (case h1 => omega)))
local macro_rules | `(tactic| row_cond st) => `(tactic| first | ((with_reducible refine ay6 ?_); row_cond sEvS) | ((with_reducible refine ay7 ?_); row_cond sEvG) | ((with_reducible refine ax2 ?_); row_cond sEvGs) | ((with_reducible refine g_Ev ?_); row_cond sEv) | ((with_reducible refine ay8 ?_); row_cond sEvO) | ((with_reducible refine ay9 ?_); row_cond sEvT) | ((with_reducible refine aza ?_); row_cond sEvA) | ((with_reducible refine azb ?_); row_cond sEvI) | ((with_reducible refine ax3 ?_); row_cond sEvOp) | ((with_reducible refine azc ?_); row_cond sOp2) | ((with_reducible refine azd ?_); row_cond sOp1) | ((with_reducible refine aze ?_); row_cond sOpA) | ((with_reducible refine g_FQ ?_); row_cond sFQ) | ((with_reducible refine avy ?_); row_cond sRngA1) | ((with_reducible refine avz ?_); row_cond sRngA2) | row_cond sRest)
local macro_rules | `(tactic| row_cond go) => `(tactic| repeat row_cond st)
local macro_rules | `(tactic| row_cond hnx) => `(tactic| first | assumption | (apply Ne.symm; assumption) | exact aat (by assumption) (by assumption) | exact (aat (by assumption) (by assumption)).symm)
local macro_rules | `(tactic| row_cond hhp) => `(tactic| first | assumption | exact aak | (rw [aag (by row_cond hnx)]; row_cond hhp) | ((refine' Same.at ?ss ?hh); (case ss => assumption); (case hh => row_cond hhp)))
local macro_rules | `(tactic| row_cond hix) => `(tactic| first | assumption | exact at0 | exact at1 | exact at2)
local macro_rules | `(tactic| row_cond hst) => `(tactic| first | (with_reducible first | refine go_seq ?_ | refine go_asg ?_ | refine amx ?_ | refine go_op ?_ | refine go_c ?_ | refine go_I0 ?_ | refine go_U ?_ | refine apm ?_ | refine go_test ?_ | refine go_bl ?_ | refine go_ifS ?_ | refine go_and ?_ | refine go_ret ?_ | refine go_drop ?_ | refine go_next ?_ | refine go_cb ?_ | refine go_cons ?_ | refine apl ?_ | refine go_call ?_ | refine am0 ?_ | refine am1 ?_ | refine am2 ?_ | refine go_gsub ?_ | refine go_lstW ?_ | refine go_bmL ?_ | refine go_for ?_ | refine go_lc ?_ | refine go_irng1 ?_ | refine apn ?_ | refine adh ?_ | refine aer ?_) | ((with_reducible refine' go_var ?hv ?_); (case hv => exact rfl)) | ((with_reducible refine' ae4 ?ha ?hv ?_); (case ha => row_cond hhp); (case hv => row_cond hix)) | ((with_reducible refine go_I ?hc ?_); (case hc => row_cond ar)) | ((with_reducible refine' amz ?ha ?_); (case ha => row_cond hhp)) | ((with_reducible refine' amy ?ha ?hj ?_); (case ha => row_cond hhp); (case hj => first | exact ixN0 | exact ixN1 | exact ixN2)) | ((with_reducible refine' go_tyL ?ha ?_); (case ha => row_cond hhp)) | ((with_reducible refine' afj ?ha ?hl ?_); (case ha => row_cond hhp); (case hl => exact ad8 (by simp; omega))) | ((with_reducible refine' ahz ?hc ?_); (case hc => row_cond dc)) | ((with_reducible refine' ah0 ?hc ?_); (case hc => row_cond dc)) | dsimp only [List.set_cons_zero, List.set_cons_succ])
local macro_rules | `(tactic| row_cond hgo) => `(tactic| repeat row_cond hst)
def isInt:PyData->Bool
 | .int _=>true
 | _=>false
def btwD (a b:Int):PyData->Bool
 | .int i=>decide (a<=i/\i<=b)
 | _=>false
def av5:VP:=fun ss Q=>∃ d,ss=[.st d]/\Q (.st (.bool (isInt d)))
def aqz:VP:=fun ss Q=>∃ (a b:Int) (d:PyData),ss=[.st (.int a),.st (.int b),.st d]/\Q (.st (.bool (btwD a b d)))
def av6:VP:=fun ss Q=>∃ (n:Int) (d:PyData),ss=[.st (.int n),.st d]/\Q (.st (.bool (btwD 0 (n - 1) d)))
section
variable {P:Program} {w:World} {K:Frag} {mg:Str->Option Value} {base:Heap}
theorem sc_is_whole:FnScope ["thing"] ["thing"] (aan s_is_whole):=by row_cond sc
theorem afv (T:Txt K mg):Can P w K mg base "is_whole" 1 ["thing"] (spP K (av5)):=by
 obtain ⟨f,fd,D⟩:=T.d_is_whole
 refine D.can (D.fn.ok sc_is_whole (fun vs H Q E h=>lenP h fun ss c q=>by obtain ⟨d,rfl,k⟩:=q;rfl) (fun cdv A outer s H vs Q E j h=>?_))
 have nd:=sc_is_whole.nd
 refine ⟨_,(aaf (aa0 (ael (aam ad2 (by rfl) T.b_isinstance aca (aaa (pv 0) (aaa (aei (v:=.ty "int") rfl T.b_int apq rfl) aac))) (afe (awk (aam ad2 (by rfl) T.b_isinstance aca (aaa (pv 0) (aaa (aei (v:=.ty "bool") rfl T.b_bool am3 rfl) aac)))))))),?_⟩
 refine abd h fun ss c q B g=>?_
 refine exS1 ss q fun d a=>?_
 have k:=a
 clear a q
 show EvS B _ _ [some (.st d)]
 row_cond go
 cases d with
 | int i => refine adh ?_; row_cond go; exact k
 | bool b => refine adh ?_; row_cond go; exact k
 | _=>refine aer ?_;exact k
theorem sc_is_between:FnScope ["least","most","thing"] ["least","most","thing"] (aan s_is_between):=by row_cond sc
theorem aih (T:Txt K mg):Can P w K mg base "is_between" 2 ["least","most","thing"] (spP K (aqz)):=by
 obtain ⟨f,fd,D⟩:=T.d_is_between
 refine D.can (D.fn.ok sc_is_between (fun vs H Q E h=>lenP h fun ss j q=>by obtain ⟨a,b,d,rfl,k⟩:=q;rfl) (fun cdv A outer s H vs Q E l h=>?_))
 have nd:=sc_is_between.nd
 refine ⟨_,(aaf (aa0 (ael (aav (afv T) l (aaa (pv 2) aac)) (afe (aq4 ath ath (pv 0) (pv 2) (pv 1)))))),?_⟩
 refine abd h fun ss j q B m=>?_
 refine exS3 ss q fun a b d c=>?_
 have k:=c
 clear c q
 show EvS B _ _ [some (.st (.int a)),some (.st (.int b)),some (.st d)]
 row_cond go
 refine ⟨d,rfl,?_⟩
 row_cond go
 cases d with
 | int i =>
  refine adh ?_
  row_cond go
  refine aba (fun g=>?_) (fun g=>?_)
  ·row_cond go
   have e:decide (i<=b)=btwD a b (.int i):=by
    show _=decide (a<=i/\i<=b)
    rw [aG2];simp [g]
   rw [e];exact k
  ·have e:false=btwD a b (.int i):=by
    show _=decide (a<=i/\i<=b)
    exact (aC5 (fun z=>g z.1)).symm
   rw [e];exact k
 | _=>exact aer k
theorem sc_is_place:FnScope ["n","thing"] ["n","thing"] (aan s_is_place):=by row_cond sc
theorem afw (T:Txt K mg):Can P w K mg base "is_place" 3 ["n","thing"] (spP K (av6)):=by
 obtain ⟨f,fd,D⟩:=T.d_is_place
 refine D.can (D.fn.ok sc_is_place (fun vs H Q E h=>lenP h fun ss b q=>by obtain ⟨n,d,rfl,k⟩:=q;rfl) (fun cdv A outer s H vs Q E c h=>?_))
 have nd:=sc_is_place.nd
 refine ⟨_,(aaf (aa0 (aav (aih T) c (aaa aab (aaa (aae abi (pv 0) aab) (aaa (pv 1) aac)))))),?_⟩
 refine abd h fun ss b q B g=>?_
 refine exS2 ss q fun n d a=>?_
 have k:=a
 clear a q
 show EvS B _ _ [some (.st (.int n)),some (.st d)]
 row_cond go
 exact ⟨_,_,_,rfl,k⟩
def ayc:VP:=fun ss Q=>∃ (n:Int) (es:List (Int × Int)),ss=[.st (webD n es)]/\0<=n/\n<=100/\InN n es/\es.length<=10000/\∀ tl,TiedL n (Tied es) tl->Q (.own (OLL (tlD tl)))
theorem sc_tied_places:FnScope ["web","n","ties","tied","a","b"] ["web"] (aan s_tied_places):=by row_cond sc
theorem aef (T:Txt K mg):Can P w K mg base "tied_places" 1 ["web"] (spP K (ayc)):=by
 obtain ⟨f,fd,D⟩:=T.d_tied_places
 refine D.can (D.fn.ok sc_tied_places (fun vs H Q E h=>lenP h fun ss M q=>by obtain ⟨n,es,rfl,O,S,p,z,k⟩:=q;rfl) (fun cdv A outer s H vs Q E W h=>?_))
 have nd:=sc_tied_places.nd
 refine ⟨_,(aad (adx (pv 0) (acs rfl (aa2 (aaj (i:=1) nd rfl (Or.inl rfl)) (aa2 (aaj (i:=2) nd rfl (Or.inl rfl)) acb))))
  (aad (ae1 (i:=3) nd rfl (Or.inl rfl) rfl (N:=["place"]) (src:=[none]) (by exact abw rfl rfl rfl rfl rfl rfl) (abb rfl T.b_range (aaa (pv 1) aac)) (fun _ _ _ _=>(aaj (i:=0) (show List.Nodup (["place"]:List Str) by decide +kernel) rfl (Or.inl rfl) (hf:=Or.inr rfl))) (fun _ _ _ _=>ab4) (fun _ _ _ _=>(aa3 aac)))
  (aad (abf aH8 rfl (abk (pv 2)) (acs rfl (aa2 (aaj (i:=4) nd rfl (Or.inl rfl)) (aa2 (aaj (i:=5) nd rfl (Or.inl rfl)) acb)))
   (aad (abj (ab2 PySem.F.plainAttrs_list PySem.F.slot_list_append PySem.F.type_list_append aa6 (aao aap (pv 3) (pv 4) (fun _ _=>rfl)) (aaa (pv 5) aac)))
    (aaf (abj (ab2 PySem.F.plainAttrs_list PySem.F.slot_list_append PySem.F.type_list_append aa6 (aao aap (pv 3) (pv 5) (fun _ _=>rfl)) (aaa (pv 4) aac))))))
  (aaf (aa0 (pv 3)))))),?_⟩
 refine abd h fun ss M q B U=>?_
 refine exS2 ss q fun n es c=>?_
 have O:=c.1
 have S:=c.2.1
 have p:=c.2.2.1
 have z:=c.2.2.2.1
 have k:=c.2.2.2.2
 clear c q
 show EvS B _ _ [some (.st (webD n es)),none,none,none,none,none]
 row_cond go
 rw [acd]
 refine ⟨by omega,?_⟩
 row_cond go
 refine ach (fun i e=>∃ G C tl,e=[some (.st (webD n es)),some (.st (.int n)),some (.st (.list (es.map prD))),some (.own (OLL (tlD tl))),G,C]/\TiedL n (Tied (es.take i)) tl/\∀ j∈tl,j.length<=2 * i)
  ⟨none,none,List.replicate n.toNat [],by simp [tlD],⟨by simp;omega,fun i j hi w=>?_⟩,fun j L=>?_⟩ ?_ ?_
 ·rw [aG1] at hi
  split at hi
  ·cases hi;simp [Tied]
  ·cases hi
 ·have:=List.eq_of_mem_replicate L
  subst this;simp
 ·rintro i ⟨a,b⟩ e I m
  refine exS3 e m fun G C tl c=>?_
  have o:=c.1
  have l:=c.2
  clear c m
  have hi:i < es.length:=(az1.mp I).1
  obtain ⟨a0,y,b0,x⟩:=p _ (az2 I)
  dsimp only at a0 y b0 x
  row_cond go
  obtain ⟨j,d,_⟩:=o.get a0 y
  have R:=l j (az2 d)
  refine adp (n:=a.toNat) (ds:=j.map .int) rfl rfl rfl (by rw [az3];exact aew a0 (by rw [o.1];exact y)) (adw d) (by rw [az3];omega) ?_
  dsimp only [List.set_cons_zero,List.set_cons_succ]
  have r:=o.put (q:=b) a0 y d
  rw [show j.map PyData.int ++ [.int b]=(j ++ [b]).map .int by simp,agf]
  have g:∀ us∈tl.set a.toNat (j ++ [b]),us.length<=2 * i+1:=fun us J=>by
   rcases List.mem_or_eq_of_mem_set J with h | h
   ·have:=l us h;omega
   ·subst h;simp;omega
  generalize tl.set a.toNat (j ++ [b])=tl2 at r g
  row_cond go
  obtain ⟨j,d,_⟩:=r.get b0 x
  have R:=g j (az2 d)
  refine adp (n:=b.toNat) (ds:=j.map .int) rfl rfl rfl (by rw [az3];exact aew b0 (by rw [r.1];exact x)) (adw d) (by rw [az3];omega) ?_
  dsimp only [List.set_cons_zero,List.set_cons_succ]
  rw [show j.map PyData.int ++ [.int a]=(j ++ [a]).map .int by simp,agf]
  refine ⟨_,_,_,rfl,(r.put (q:=a) b0 x d).iff fun u v=>(Tied.snoc I u v).symm,fun us J=>?_⟩
  rcases List.mem_or_eq_of_mem_set J with h | h
  ·have:=g us h;omega
  ·subst h;simp;omega
 ·rintro e m
  refine exS3 e m fun G C tl c=>?_
  have o:=c.1
  have l:=c.2
  clear c m
  rw [aF2] at o
  row_cond go
  exact k tl o
end
@[reducible] def tlV (tl:List (List Int)):PyData:=.list ((tlD tl).map .list)
def azg:VP:=fun ss Q=>∃ (n a:Int) (T:Int->Int->Prop) (tl:List (List Int)),ss=[.st (tlV tl),.st (.int a)]/\n<=100/\TiedL n T tl/\(∀ u v,T u v->0<=v/\v < n)/\0<=a/\a < n/\Q (.own (OL (lab n.toNat (Gr.farO T a))))
section
variable {P:Program} {w:World} {K:Frag} {mg:Str->Option Value} {base:Heap}
theorem sc_far_from:FnScope ["tied","start","far","edge","beyond","place","other"] ["tied","start"] (aan s_far_from):=by row_cond sc
theorem afx (T:Txt K mg):Can P w K mg base "far_from" 1 ["tied","start"] (spP K (azg)):=by
 obtain ⟨f,fd,D⟩:=T.d_far_from
 refine D.can (D.fn.ok sc_far_from (fun vs H Q E h=>lenP h fun ss Q' q=>by obtain ⟨n,a,T,tl,rfl,n1,X,hT,a0,a1,k⟩:=q;rfl) (fun cdv A outer s H vs Q E hr h=>?_))
 have nd:=sc_far_from.nd
 refine ⟨_,(aad (aai (i:=2) nd rfl (Or.inl rfl) (aae aws (aa3 (aaa afd aac)) (aam aa7 (by rfl) T.b_len abu (aaa (pv 0) aac))))
  (aad (adx aab (ao0 (pv 2) (pv 1) akf))
  (aad (aai (i:=3) nd rfl (Or.inl rfl) (aa3 (aaa (pv 1) aac)))
  (aad (ago aH8 (apw (pv 3))
   (aad (aai (i:=4) nd rfl (Or.inl rfl) (aa3 aac))
    (aad (abf aH8 rfl (abk (pv 3)) (aaj (i:=5) nd rfl (Or.inl rfl))
     (aaf (abf aH8 rfl (abk (aao aap (pv 0) (pv 5) (fun _ _=>rfl))) (aaj (i:=6) nd rfl (Or.inl rfl))
       (aaf (abo (aax aui (aao aap (pv 2) (pv 6) (fun _ _=>rfl)) afd (aaw _))
         (aad (adx (aae aaq (aao aap (pv 2) (pv 5) (fun _ _=>rfl)) aab) (ao0 (pv 2) (pv 6) akf))
          (aaf (abj (ab2 PySem.F.plainAttrs_list PySem.F.slot_list_append PySem.F.type_list_append aa6 (pv 4) (aaa (pv 6) aac)))))
         aa5)))))
    (aaf (aai (i:=3) nd rfl (Or.inl rfl) (pv 4))))))
  (aaf (aa0 (pv 2))))))),?_⟩
 refine abd h fun ss Q' q B hK=>?_
 refine exS4 ss q fun n a T tl b=>?_
 have n1:=b.1
 have X:=b.2.1
 have hT:=b.2.2.1
 have a0:=b.2.2.2.1
 have a1:=b.2.2.2.2.1
 have k:=b.2.2.2.2.2
 clear b q
 show EvS B _ _ [some (.st (tlV tl)),some (.st (.int a)),none,none,none,none,none]
 have hl:tl.length=n.toNat:=by have:=X.1;omega
 row_cond go
 refine avb (by first | omega | (simp;done) | (simp;omega)) (by first | omega | (simp;done) | (simp;omega)) (by first | omega | (simp;done) | (simp;omega)) ?_
 simp only [az3,hl]
 rw [show ((n.toNat:Nat):Int).toNat=n.toNat by omega,avp]
 row_cond go
 refine aoi (j:=a.toNat) rfl (by rw [acl];exact aew a0 (by omega)) ?_
 dsimp only [List.set_cons_zero,List.set_cons_succ,reS]
 rw [show (PyData.int 0)=.int ((0:Nat):Int) from rfl,anf a0 (by omega)]
 row_cond go
 refine agd 3 rfl adi ?_
 dsimp only [List.set_cons_zero,List.set_cons_succ]
 refine afo (fun m e=>∃ v4 I y far edge r,e=[some (.st (tlV tl)),some (.st (.int a)),some (.own (OL (lab n.toNat far))),some (.st (.list (edge.map .int))),v4,I,y]/\Gr.Ring T a r far edge/\(∀ v∈edge,0<=v/\v < n)/\m=2 * cnt far n.toNat+(if edge=[] then 0 else 1))
  ⟨_,none,none,none,_,[a],0,rfl,Gr.Ring.start,fun v N=>by simp at N;subst N;exact ⟨a0,a1⟩,rfl⟩ ?_
 rintro m e l
 refine exS6 e l fun v4 I y far edge r b=>?_
 have R:=b.1
 have hb:=b.2.1
 have Z:=b.2.2
 clear b l
 subst Z
 row_cond go
 rw [amh]
 cases hedge:edge with
 | nil =>
  subst hedge
  refine aer ?_
  row_cond go
  rw [ap5 (g:=Gr.farO T a) fun v _ _=>R.fin v]
  exact k
 | cons e0 er =>
  refine adh ?_
  rw [← hedge]
  have S:edge ≠ []:=by rw [hedge];simp
  row_cond go
  refine ach (fun i e=>∃ I y c beyond,e=[some (.st (tlV tl)),some (.st (.int a)),some (.own (OL (lab n.toNat c))),some (.st (.list (edge.map .int))),some (.own (OL (beyond.map .int))),I,y]/\Gr.Mid T r far edge (fun u=>u∈edge.take i) c beyond/\cnt c n.toNat+beyond.length=cnt far n.toNat/\∀ v∈beyond,0<=v/\v < n)
   ⟨I,y,far,[],rfl,Gr.Mid.start.imp fun u M=>by simp at M,rfl,fun v N=>by simp at N⟩ ?_ ?_
  ·rintro i p e hp l
   refine exS4 e l fun I y c beyond b=>?_
   have C:=b.1
   have G:=b.2.1
   have o:=b.2.2
   clear b l
   have J:=az2 hp
   obtain ⟨p0,p1⟩:=hb p J
   obtain ⟨ws,W,hw⟩:=X.get p0 p1
   have a5:atI ((tlD tl).map PyData.list) p=some (.list (ws.map .int)):=adk (f:=PyData.list) (aed p0 (adw W))
   row_cond go
   have U:far p=some r:=(R.lab p r).mpr ⟨(R.edg p).mp J,az6 _⟩
   refine ach (fun j e=>∃ y c beyond,e=[some (.st (tlV tl)),some (.st (.int a)),some (.own (OL (lab n.toNat c))),some (.st (.list (edge.map .int))),some (.own (OL (beyond.map .int))),some (.st (.int p)),y]/\Gr.Mid T r far edge (fun u=>u∈edge.take i) c beyond/\cnt c n.toNat+beyond.length=cnt far n.toNat/\(∀ v∈beyond,0<=v/\v < n)/\∀ x∈ws.take j,c x ≠ none)
    ⟨y,c,beyond,rfl,C,G,o,fun x L=>by simp at L⟩ ?_ ?_
   ·rintro j u e M l
    refine exS3 e l fun y c beyond b=>?_
    have C:=b.1
    have G:=b.2.1
    have o:=b.2.2.1
    have z:=b.2.2.2
    clear b l
    have tu:T p u:=(hw u).mp (az2 M)
    obtain ⟨O,u1⟩:=hT _ _ tu
    have a6:atI (lab n.toNat c) u=some (oD (c u)):=ap4 O (by omega)
    have a4:atI (lab n.toNat c) p=some (.int (r:Int)):=by
     rw [ap4 p0 (by omega),C.old p r U];rfl
    row_cond go
    rw [avo]
    cases hf:c u with
    | none =>
     refine adh ?_
     row_cond go
     refine aoi (j:=u.toNat) rfl (by rw [acl];exact aew O (by omega)) ?_
     dsimp only [List.set_cons_zero,List.set_cons_succ,reS]
     rw [show (PyData.int ((r:Int)+1))=.int ((r+1:Nat):Int) by simp,anf O (by omega)]
     have a3:=ai2 (d:=r+1) O hf (n:=n.toNat) (by omega)
     have a2:beyond.length<=cnt far n.toNat:=by omega
     have Y:∀ m,cnt far m<=m:=fun m=>by
      induction m with
      | zero=>exact az6 _
      | succ m ih=>unfold cnt;split <;> omega
     have:=Y n.toNat
     row_cond go
     refine ⟨some (.st (.int u)),Gr.label c u (r+1),beyond ++ [u],by simp,C.add J tu hf,by simp;omega,fun v N=>?_,fun x L=>?_⟩
     ·rcases az7.mp N with h | h
      ·exact o v h
      ·have:v=u:=by simpa using h
       subst this;exact ⟨O,u1⟩
     ·by_cases hx2:x=u
      ·subst hx2;rw [Gr.label_same];simp
      ·rw [Gr.label_ne hx2]
       rcases adl M L with h | h
       ·exact z x h
       ·exact absurd h hx2
    | some d =>
     refine aer ?_
     row_cond go
     refine ⟨_,c,beyond,rfl,C,G,o,fun x L=>?_⟩
     rcases adl M L with h | h
     ·exact z x h
     ·subst h;rw [hf];simp
   ·rintro e l
    refine exS3 e l fun y c beyond b=>?_
    have C:=b.1
    have G:=b.2.1
    have o:=b.2.2.1
    have z:=b.2.2.2
    clear b l
    rw [aF2] at z
    refine ⟨_,_,c,beyond,rfl,?_,G,o⟩
    refine (C.did (u:=p) fun x tx=>z x ((hw x).mpr tx)).imp fun x L=>?_
    exact adl hp L
  ·rintro e l
   refine exS4 e l fun I y c beyond b=>?_
   have C:=b.1
   have G:=b.2.1
   have o:=b.2.2
   clear b l
   row_cond go
   refine ⟨_,?_,_,_,_,c,beyond,r+1,rfl,R.next C fun u M=>by rw [aF2];exact M,o,rfl⟩
   rw [aE0 S]
   cases beyond with
   | nil=>rw [aD9 rfl];simp at G;omega
   | cons b0 br=>rw [aE0 (by simp)];simp at G;omega
end
def aml:VP:=fun ss Q=>∃ (n a:Int) (es:List (Int × Int)),ss=[.st (webD n es),.st (.int a)]/\0<=a/\a < n/\Q (.st .none)
def asw:VP:=fun ss Q=>∃ (n a:Int) (es:List (Int × Int)),ss=[.st (webD n es),.st (.int a)]/\n<=100/\InN n es/\es.length<=10000/\0<=a/\a < n/\Q (.own (OL (lab n.toNat (Gr.farO (Tied es) a))))
def asx:VP:=fun ss Q=>∃ (n:Int) (es:List (Int × Int)),ss=[.st (webD n es)]/\1<=n/\n<=100/\InN n es/\es.length<=10000/\∀ b:Bool,(b=true ↔ Joined n es)->Q (.st (.bool b))
section
variable {P:Program} {w:World} {K:Frag} {mg:Str->Option Value} {base:Heap}
theorem sc_need_place:FnScope ["web","thing"] ["web","thing"] (aan s_need_place):=by row_cond sc
theorem aii (T:Txt K mg):Can P w K mg base "need_place" 4 ["web","thing"] (spP K (aml)):=by
 obtain ⟨f,fd,D⟩:=T.d_need_place
 refine D.can (D.fn.ok sc_need_place (fun vs H Q E h=>lenP h fun ss c q=>by obtain ⟨n,a,es,rfl,a0,g,k⟩:=q;rfl) (fun cdv A outer s H vs Q E d h=>?_))
 have nd:=sc_need_place.nd
 refine ⟨_,(aaf (abo (aek (aej (aav (afw T) d (aaa (aao aap (pv 0) aab (fun _ _=>rfl)) (aaa (pv 1) aac)))))
   (aaf aka)
   aa5)),?_⟩
 refine abd h fun ss c q B i=>?_
 refine exS3 ss q fun n a es b=>?_
 have a0:=b.1
 have g:=b.2.1
 have k:=b.2.2
 clear b q
 show EvS B _ _ [some (.st (webD n es)),some (.st (.int a))]
 row_cond go
 refine ⟨_,_,rfl,?_⟩
 row_cond go
 have e:btwD 0 (n - 1) (.int a)=true:=aC6 ⟨a0,by omega⟩
 rw [e]
 row_cond go
 exact k
theorem sc_all_far:FnScope ["web","a"] ["web","a"] (aan s_all_far):=by row_cond sc
theorem amm (T:Txt K mg):Can P w K mg base "all_far" 5 ["web","a"] (spP K (asw)):=by
 obtain ⟨f,fd,D⟩:=T.d_all_far
 refine D.can (D.fn.ok sc_all_far (fun vs H Q E h=>lenP h fun ss m q=>by obtain ⟨n,a,es,rfl,j,c,d,a0,i,k⟩:=q;rfl) (fun cdv A outer s H vs Q E g h=>?_))
 have nd:=sc_all_far.nd
 refine ⟨_,(aad (abj (aav (aii T) g (aaa (pv 0) (aaa (pv 1) aac))))
  (aaf (aa0 (aav (afx T) g (aaa (aav (aef T) g (aaa (pv 0) aac)) (aaa (pv 1) aac)))))),?_⟩
 refine abd h fun ss m q B o=>?_
 refine exS3 ss q fun n a es b=>?_
 have j:=b.1
 have c:=b.2.1
 have d:=b.2.2.1
 have a0:=b.2.2.2.1
 have i:=b.2.2.2.2.1
 have k:=b.2.2.2.2.2
 clear b q
 show EvS B _ _ [some (.st (webD n es)),some (.st (.int a))]
 row_cond go
 refine ⟨n,a,es,rfl,a0,i,?_⟩
 row_cond go
 refine ⟨n,es,rfl,by omega,j,c,d,fun tl l=>?_⟩
 refine axy ?_
 row_cond go
 exact ⟨n,a,Tied es,tl,rfl,j,l,fun u v h=>(h.in c).2,a0,i,k⟩
theorem sc_is_joined:FnScope ["web"] ["web"] (aan s_is_joined):=by row_cond sc
theorem ajs (T:Txt K mg):Can P w K mg base "is_joined" 6 ["web"] (spP K (asx)):=by
 obtain ⟨f,fd,D⟩:=T.d_is_joined
 refine D.can (D.fn.ok sc_is_joined (fun vs H Q E h=>lenP h fun ss m q=>by obtain ⟨n,es,rfl,o,j,c,b,k⟩:=q;rfl) (fun cdv A outer s H vs Q E i h=>?_))
 have nd:=sc_is_joined.nd
 refine ⟨_,(aaf (aa0 (acu (apu i.units) afd (aav (amm T) i (aaa (pv 0) (aaa aab aac))) rfl))),?_⟩
 refine abd h fun ss m q B p=>?_
 refine exS2 ss q fun n es a=>?_
 have o:=a.1
 have j:=a.2.1
 have c:=a.2.2.1
 have b:=a.2.2.2.1
 have k:=a.2.2.2.2
 clear a q
 show EvS B _ _ [some (.st (webD n es))]
 row_cond go
 refine ⟨n,0,es,rfl,j,c,b,by omega,by omega,?_⟩
 row_cond go
 refine au6 rfl ap6 (by simp [PyData.depth]) ?_
 row_cond go
 refine k _ ?_
 rw [aD9 rfl,Bool.not_eq_true',← Bool.not_eq_true,avq]
 constructor
 ·intro h v g l
  cases e:Gr.farO (Tied es) 0 v with
  | some d=>exact ⟨d,Gr.farO_some.mp e⟩
  | none=>exact absurd ⟨v,g,by omega,e⟩ h
 ·rintro h ⟨v,g,l,e⟩
  obtain ⟨d,hd⟩:=h v g (by omega)
  exact Gr.farO_none.mp e d hd
end
def dsF (es:List (Int × Int)) (u v:Int):Int:=(((Gr.farO (Tied es) u v).getD 0:Nat):Int)
def rowD (n:Nat) (r:Int->Int):List PyData:=(List.range n).map fun (i:Nat) => .int (r (i:Int))
def matD (n:Nat) (m:Int->Int->Int):List PyData:=(List.range n).map fun (u:Nat) => .list (rowD n (m (u:Int)))
theorem alx {n:Nat} {r:Int->Int} {x:Int} (a:0<=x) (b:x < n):atI (rowD n r) x=some (.int (r x)):=by
 have:=af1 (xs:=rowD n r) (j:=x.toNat) (v:=.int (r x)) (by
  unfold rowD
  rw [az5,az0 (by simp;omega)]
  simp [Int.max_eq_left a])
 rwa [show ((x.toNat:Nat):Int)=x by omega] at this
theorem ahs {n:Nat} {m:Int->Int->Int} {x:Int} (a:0<=x) (b:x < n):atI (matD n m) x=some (.list (rowD n (m x))):=by
 have:=af1 (xs:=matD n m) (j:=x.toNat) (v:=.list (rowD n (m x))) (by
  unfold matD
  rw [az5,az0 (by simp;omega)]
  simp [Int.max_eq_left a])
 rwa [show ((x.toNat:Nat):Int)=x by omega] at this
theorem aij {n:Nat} {m:Int->Int->Int}:(matD n m).length=n:=by simp [matD]
theorem ag2 {n:Nat} {r:Int->Int}:rowD n r=((List.range n).map fun (i:Nat)=>r (i:Int)).map .int:=by simp [rowD]
theorem aht {n:Int} {es:List (Int × Int)} (a:Joined n es) {u v:Int} (c:0<=u) (h:u < n) (f:0<=v) (b:v < n):∃ d,Gr.farO (Tied es) u v=some d:=by
 cases e:Gr.farO (Tied es) u v with
 | some d=>exact ⟨d,rfl⟩
 | none =>
  obtain ⟨k,g⟩:=a.conn u v c h f b
  obtain ⟨d,_,hd⟩:=Gr.Dist.of_walk g
  exact absurd hd (Gr.farO_none.mp e d)
theorem av7 {n:Int} {es:List (Int × Int)} (a:Joined n es) {u:Int} (b:0<=u) (c:u < n):lab n.toNat (Gr.farO (Tied es) u)=rowD n.toNat (dsF es u):=by
 unfold lab rowD
 refine aD3 fun i hi=>?_
 obtain ⟨d,e⟩:=aht a b c (show 0<=(i:Int) by omega) (by have:=aA9.mp hi;omega)
 simp only [dsF,e,oD,Option.getD_some]
theorem ad5 {α:Type} {K:Frag} {src:List (Option Nat)} {a:En} {te:TE} {R:List PyData->En->Prop} {xs:List α} {f : α->PyData} (g : α->PyData) (j:noIo (aah src a)=true) (A:xs.length<=999999)
  (h:∀ x∈xs,∀ c:Bs,c.K=K->Ev c te (some (.st (f x)) :: aah src a) fun y m=>y=g x/\m=some (.st (f x)) :: aah src a)
  (p:R (xs.map g) a):LcV K (none :: src) (aa1 0) tYes te (xs.map f) a R:=by
 have b:noIo (aah (none :: src) a)=true:=by
  show ((none :: aah src a).all fun s => !isIo s)=true
  rw [List.all_cons]
  exact (aF5 _ _).mpr ⟨rfl,j⟩
 refine ⟨fun i ys e=>ys=(xs.take i).map g/\∃ o,e=stO o :: aah src a,⟨by simp,none,rfl⟩,?_,?_,?_⟩
 ·rintro i ys e ⟨_,o,rfl⟩
  exact ⟨⟨isIo_stO.symm,aci⟩,acr acm⟩
 ·rintro i d ys e hd ⟨rfl,o,rfl⟩ c r
  rw [az5] at hd
  cases hx:xs[i]? with
  | none=>rw [hx] at hd;cases hd
  | some x =>
   rw [hx] at hd
   cases hd
   have hi:i < xs.length:=(az1.mp hx).1
   have w:xs.take (i+1)=xs.take i ++ [x]:=by rw [aF8,hx];rfl
   refine aau (ads ?_)
   rw [aD9 rfl]
   intro σ G H F Q I k
   refine h x (az2 hx) c r σ G H F Q I fun v G' H' z d' m u g' q ⟨n,l⟩=>k v G' H' z d' m u g' q ?_
   subst n l
   refine ⟨by simp;omega,by rw [w];simp,some _,rfl⟩
 ·rintro ys e ⟨rfl,o,rfl⟩
  rw [aev b]
  simpa using p
def aly:VP:=fun ss Q=>∃ (n:Int) (es:List (Int × Int)),ss=[.st (webD n es)]/\1<=n/\n<=100/\InN n es/\es.length<=10000/\Joined n es/\Q (.st .none)
def ai6:VP:=fun ss Q=>∃ (n:Int) (es:List (Int × Int)),ss=[.st (webD n es)]/\1<=n/\n<=100/\InN n es/\es.length<=10000/\Joined n es/\Q (.own (OL (matD n.toNat (dsF es))))
structure FreeAll (n:Int) (es fs:List (Int × Int)):Prop where
 mem:∀ p:Int × Int,p∈fs ↔ (0<=p.1/\p.1 < p.2/\p.2 < n/\p ∉ es)
 rise:Rise fs
theorem FreeAll.eq {n:Int} {es fs a:List (Int × Int)} (h:FreeAll n es fs) (g:FreeAll n es a):fs=a:=h.rise.eq g.rise fun p=>by rw [h.mem,g.mem]
theorem FreeAll.len {n:Int} {es fs:List (Int × Int)} (h:FreeAll n es fs) (a:n<=100):fs.length<=10000:=PsOk.len ⟨h.rise.nodup,fun p b=>by have:=(h.mem p).mp b;omega⟩ a
section
variable {P:Program} {w:World} {K:Frag} {mg:Str->Option Value} {base:Heap}
theorem sc_need_joined:FnScope ["web"] ["web"] (aan s_need_joined):=by row_cond sc
theorem ahu (T:Txt K mg):Can P w K mg base "need_joined" 7 ["web"] (spP K (aly)):=by
 obtain ⟨f,fd,D⟩:=T.d_need_joined
 refine D.can (D.fn.ok sc_need_joined (fun vs H Q E h=>lenP h fun ss l q=>by obtain ⟨n,es,rfl,i,j,d,c,g,k⟩:=q;rfl) (fun cdv A outer s H vs Q E m h=>?_))
 have nd:=sc_need_joined.nd
 refine ⟨_,(aaf (abo (aek (aej (aav (ajs T) m (aaa (pv 0) aac))))
   (aaf aka)
   aa5)),?_⟩
 refine abd h fun ss l q B o=>?_
 refine exS2 ss q fun n es a=>?_
 have i:=a.1
 have j:=a.2.1
 have d:=a.2.2.1
 have c:=a.2.2.2.1
 have g:=a.2.2.2.2.1
 have k:=a.2.2.2.2.2
 clear a q
 show EvS B _ _ [some (.st (webD n es))]
 row_cond go
 refine ⟨n,es,rfl,i,j,d,c,fun b hb=>?_⟩
 have:b=true:=hb.mpr g
 subst this
 row_cond go
 exact k
theorem sc_far_rows:FnScope ["web","tied"] ["web"] (aan s_far_rows):=by row_cond sc
theorem alz (T:Txt K mg):Can P w K mg base "far_rows" 8 ["web"] (spP K (ai6)):=by
 obtain ⟨f,fd,D⟩:=T.d_far_rows
 refine D.can (D.fn.ok sc_far_rows (fun vs H Q E h=>lenP h fun ss r q=>by obtain ⟨n,es,rfl,p,d,b,c,j,k⟩:=q;rfl) (fun cdv A outer s H vs Q E m h=>?_))
 have nd:=sc_far_rows.nd
 refine ⟨_,(aad (abj (aav (ahu T) m (aaa (pv 0) aac)))
  (aad (aai (i:=1) nd rfl (Or.inr rfl) (aav (aef T) m (aaa (pv 0) aac)))
  (aaf (aa0 (ae0 rfl (N:=["place","tied"]) (src:=[none,some 1]) (by exact abw rfl rfl rfl rfl rfl rfl) (abb rfl T.b_range (aaa (aam aa7 (by rfl) T.b_len abu (aaa (pv 1) aac)) aac)) (fun _ _ _ _=>(aaj (i:=0) (show List.Nodup (["place","tied"]:List Str) by decide +kernel) rfl (Or.inl rfl) (hf:=Or.inr rfl))) (fun _ _ _ _=>ab4) (fun _ _ _ _=>(aav (afx T) m (aaa (pv 1) (aaa (pv 0) aac))))))))),?_⟩
 refine abd h fun ss r q B F=>?_
 refine exS2 ss q fun n es a=>?_
 have p:=a.1
 have d:=a.2.1
 have b:=a.2.2.1
 have c:=a.2.2.2.1
 have j:=a.2.2.2.2.1
 have k:=a.2.2.2.2.2
 clear a q
 show EvS B _ _ [some (.st (webD n es)),none]
 row_cond go
 refine ⟨n,es,rfl,p,d,b,c,j,?_⟩
 row_cond go
 refine ⟨n,es,rfl,by omega,d,b,c,fun tl o=>?_⟩
 refine agh age ?_
 have y:tl.length=n.toNat:=by have:=o.1;omega
 have l:((tlD tl).map PyData.list).length=n.toNat:=by simp [tlD,y]
 row_cond go
 rw [l,show (((n.toNat:Nat):Int)).toNat=n.toNat by omega]
 unfold rngD
 refine ad5 (fun u:Nat => .list (rowD n.toNat (dsF es (u:Int)))) rfl (by simp;omega) (fun u x C z=>?_) ?_
 ·have g:(u:Int) < n:=by have:=aA9.mp x;omega
  row_cond go
  refine ⟨n,0+(u:Int),Tied es,tl,rfl,d,o,fun u v h=>(h.in b).2,by omega,by omega,ack ⟨?_,rfl⟩⟩
  rw [Int.zero_add,av7 j (by omega) g]
 ·row_cond go
  exact k
end
@[reducible] def plD (ps:List Int):PyData:=.list (ps.map .int)
def aq0:VP:=fun ss Q=>∃ r:Int,ss=[.st (.int r)]/\-1000000000000000000000000000000<=r/\r<=1000000000000000000000000000000/\Q (.st (.int (2 * r+1)))
def al0:VP:=fun ss Q=>∃ r:Int,ss=[.st (.int r)]/\-1000000000000000000000000000000<=r/\r<=1000000000000000000000000000000/\Q (.st (.int (2 * r+2)))
section
variable {P:Program} {w:World} {K:Frag} {mg:Str->Option Value} {base:Heap}
theorem sc_need_far:FnScope ["r"] ["r"] (aan s_need_far):=by row_cond sc
theorem al1 (T:Txt K mg):Can P w K mg base "need_far" 1 ["r"] (spP K (aq0)):=by
 obtain ⟨f,fd,D⟩:=T.d_need_far
 refine D.can (D.fn.ok sc_need_far (fun vs H Q E h=>lenP h fun ss b q=>by obtain ⟨r,rfl,d,c,k⟩:=q;rfl) (fun cdv A outer s H vs Q E i h=>?_))
 have nd:=sc_need_far.nd
 refine ⟨_,(aaf (aa0 (aae aaq (aae abq aab (pv 0)) aab))),?_⟩
 refine abd h fun ss b q B g=>?_
 refine exS1 ss q fun r a=>?_
 have d:=a.1
 have c:=a.2.1
 have k:=a.2.2
 clear a q
 show EvS B _ _ [some (.st (.int r))]
 row_cond go
 exact k
theorem sc_need_places:FnScope ["k"] ["k"] (aan s_need_places):=by row_cond sc
theorem ahv (T:Txt K mg):Can P w K mg base "need_places" 1 ["k"] (spP K (al0)):=by
 obtain ⟨f,fd,D⟩:=T.d_need_places
 refine D.can (D.fn.ok sc_need_places (fun vs H Q E h=>lenP h fun ss b q=>by obtain ⟨r,rfl,d,c,k⟩:=q;rfl) (fun cdv A outer s H vs Q E i h=>?_))
 have nd:=sc_need_places.nd
 refine ⟨_,(aaf (aa0 (aae aaq (aae abq aab (pv 0)) aab))),?_⟩
 refine abd h fun ss b q B g=>?_
 refine exS1 ss q fun r a=>?_
 have d:=a.1
 have c:=a.2.1
 have k:=a.2.2
 clear a q
 show EvS B _ _ [some (.st (.int r))]
 row_cond go
 exact k
end
def ayd:VP:=fun ss Q=>∃ (r:Int) (ps:List Int),ss=[.st (.tuple [.int r,plD ps])]/\Q (.st (.bool true))
def aye:VP:=fun ss Q=>∃ (ps:List Int),ss=[.st (plD ps)]/\ps.length<=100000/\∀ b:Bool,(b=true ↔ ps.Pairwise (· < ·))->Q (.st (.bool b))
def aou:VP:=fun ss Q=>∃ (n:Nat) (m:Int->Int->Int) (least:Int) (ps:List Int),ss=[.st (.list (matD n m)),.st (.int least),.st (plD ps)]/\n<=1000/\ps.length<=900/\(∀ x∈ps,0<=x/\x < n)/\∀ b:Bool,(b=true ↔ ∀ a∈ps,∀ c∈ps,a < c->m a c ≥ least)->Q (.st (.bool b))
structure ShowOk (n:Int) (es:List (Int × Int)) (k r:Int) (ps:List Int):Prop where
 k0:0<=k
 r0:0<=r
 len:2 * k+2<=ps.length
 inn:∀ x∈ps,0<=x/\x < n
 rise:ps.Pairwise (· < ·)
 far:∀ a∈ps,∀ c∈ps,a < c->dsF es a c ≥ 2 * r+1
def av8:VP:=fun ss Q=>∃ (n:Int) (es:List (Int × Int)) (k r:Int) (ps:List Int),ss=[.st (webD n es),.st (.int k),.st (.tuple [.int r,plD ps])]/\1<=n/\n<=100/\InN n es/\es.length<=10000/\Joined n es/\-1000000000000000000000000000000<=k/\k<=1000000000000000000000000000000/\-1000000000000000000000000000000<=r/\r<=1000000000000000000000000000000/\ps.length<=900/\∀ b:Bool,(b=true ↔ ShowOk n es k r ps)->Q (.st (.bool b))
theorem aq1 {α β:Type} (xs:List α) (ys:List β) (q : α->β->Bool) (f : α->β->PyData):(xs.flatMap fun x=>(ys.filter (q x)).map (f x)).length<=xs.length * ys.length:=by
 induction xs with
 | nil=>simp
 | cons x xs ih =>
  rw [List.flatMap_cons,aA1,az3,aD0,Nat.succ_mul]
  have:=aD7 (q x) ys
  omega
section
variable {P:Program} {w:World} {K:Frag} {mg:Str->Option Value} {base:Heap}
theorem sc_is_pair:FnScope ["thing"] ["thing"] (aan s_is_pair):=by row_cond sc
theorem amn (T:Txt K mg):Can P w K mg base "is_pair" 2 ["thing"] (spP K (ayd)):=by
 obtain ⟨f,fd,D⟩:=T.d_is_pair
 refine D.can (D.fn.ok sc_is_pair (fun vs H Q E h=>lenP h fun ss b q=>by obtain ⟨r,ps,rfl,k⟩:=q;rfl) (fun cdv A outer s H vs Q E c h=>?_))
 have nd:=sc_is_pair.nd
 refine ⟨_,(aad (abo (PW.pt (adm (aek (aej (aam ad2 (by rfl) T.b_isinstance aca (aaa (pv 0) (aaa (aei (v:=.ty "tuple") rfl T.b_tuple arh rfl) aac))))) (ade (aax atg (aam aa7 (by rfl) T.b_len abu (aaa (pv 0) aac)) aab (aaw _)))))
   (aaf (aa0 ab6))
   aa5)
  (aaf (aa0 (ael (aav (afv T) c (aaa (aao aap (pv 0) aab (fun _ _=>rfl)) aac)) (afe (aam ad2 (by rfl) T.b_isinstance aca (aaa (aao aap (pv 0) aab (fun _ _=>rfl)) (aaa (aei (v:=.ty "list") rfl T.b_list af6 rfl) aac)))))))),?_⟩
 refine abd h fun ss b q B d=>?_
 refine exS2 ss q fun r ps a=>?_
 have k:=a
 clear a q
 show EvS B _ _ [some (.st (.tuple [.int r,plD ps]))]
 row_cond go
 refine aes ?_
 row_cond go
 refine acy ?_
 row_cond go
 refine ⟨_,rfl,?_⟩
 row_cond go
 rw [aD9 (show isInt (PyData.int r)=true from rfl)]
 row_cond go
 exact k
theorem sc_is_rising:FnScope ["things"] ["things"] (aan s_is_rising):=by row_cond sc
theorem ajt (T:Txt K mg):Can P w K mg base "is_rising" 1 ["things"] (spP K (aye)):=by
 obtain ⟨f,fd,D⟩:=T.d_is_rising
 refine D.can (D.fn.ok sc_is_rising (fun vs H Q E h=>lenP h fun ss o q=>by obtain ⟨ps,rfl,r,k⟩:=q;rfl) (fun cdv A outer s H vs Q E y h=>?_))
 have nd:=sc_is_rising.nd
 refine ⟨_,(aaf (aa0 (aam (afq rfl) (by rfl) T.b_all akr (aaa (ae0 rfl (N:=["at","things"]) (src:=[none,some 0]) (by exact abw rfl rfl rfl rfl rfl rfl) (abb rfl T.b_range (aaa (aae abi (aam aa7 (by rfl) T.b_len abu (aaa (pv 0) aac)) aab) aac)) (fun _ _ _ _=>(aaj (i:=0) (show List.Nodup (["at","things"]:List Str) by decide +kernel) rfl (Or.inl rfl) (hf:=Or.inr rfl))) (fun _ _ _ _=>ab4) (fun _ _ _ _=>(acu ab7 (aao (show IxR _ (ab8 K) from aap) (pv 1) (pv 0) (fun _ _=>rfl)) (aao (show IxR _ (ab8 K) from aap) (pv 1) (aae aaq (pv 0) aab) (fun _ _=>rfl)) (aaw _)))) aac)))),?_⟩
 refine abd h fun ss o q B x=>?_
 refine exS1 ss q fun ps j=>?_
 have r:=j.1
 have k:=j.2
 clear j q
 show EvS B _ _ [some (.st (plD ps))]
 row_cond go
 rw [az3]
 row_cond go
 refine auy (fun d=>match d with | .int i => .bool (match ps[i.toNat]?,ps[i.toNat+1]? with | some p,some q=>decide (p < q) | _,_=>false) | _ => .none) rfl (by rw [acd];omega) (fun d hd v u=>?_) ?_
 ·obtain ⟨i,hi⟩:=List.mem_iff_getElem?.mp hd
  obtain ⟨hi,rfl⟩:=agy hi
  have n:i < ps.length:=by omega
  have m:i+1 < ps.length:=by omega
  have z:atI (ps.map PyData.int) (0+(i:Int))=some (.int ps[i]):=adk (f:=PyData.int) (aed (by omega) (by rw [show (0+(i:Int)).toNat=i by omega];exact az0 n))
  have C:atI (ps.map PyData.int) (0+(i:Int)+1)=some (.int ps[i+1]):=adk (f:=PyData.int) (aed (by omega) (by rw [show (0+(i:Int)+1).toNat=i+1 by omega];exact az0 m))
  row_cond go
  refine ⟨?_,rfl⟩
  simp [n,m]
 ·row_cond go
  have e:(rngD 0 ((ps.length:Int) - 1).toNat).map (fun d=>match d with | .int i=>PyData.bool (match ps[i.toNat]?,ps[i.toNat+1]? with | some p,some q=>decide (p < q) | _,_=>false) | _ => .none)=((List.range (ps.length - 1)).map fun i=>match ps[i]?,ps[i+1]? with | some p,some q=>decide (p < q) | _,_=>false).map .bool:=by
   unfold rngD
   rw [aC7,aC7,show ((ps.length:Int) - 1).toNat=ps.length - 1 by omega]
   apply aD3
   intro i _
   simp
  rw [e]
  refine aic ?_
  row_cond go
  refine k _ ?_
  rw [List.all_map,aD8]
  rw [aln (· < ·) (fun {a b c} h g=>Int.lt_trans h g)]
  constructor
  ·intro h i hi
   have:=h i (aA9.mpr (by omega))
   simp [show i < ps.length by omega,hi] at this
   exact this
  ·intro h i hi
   have l:i+1 < ps.length:=by have:=aA9.mp hi;omega
   have:=h i l
   simp [show i < ps.length by omega,l,this]
theorem sc_are_apart:FnScope ["rows","least","places"] ["rows","least","places"] (aan s_are_apart):=by row_cond sc
theorem aju (T:Txt K mg):Can P w K mg base "are_apart" 1 ["rows","least","places"] (spP K (aou)):=by
 obtain ⟨f,fd,D⟩:=T.d_are_apart
 refine D.can (D.fn.ok sc_are_apart (fun vs H Q E h=>lenP h fun ss y q=>by obtain ⟨n,m,least,ps,rfl,hn,v,g,k⟩:=q;rfl) (fun cdv A outer s H vs Q E F h=>?_))
 have nd:=sc_are_apart.nd
 refine ⟨_,(aaf (aa0 (aam (afq rfl) (by rfl) T.b_all akr (aaa (aww rfl (N:=["a","b","least","rows","places"]) (src:=[none,none,some 1,some 0,some 2]) (by exact abw rfl rfl rfl rfl rfl rfl) (abk (pv 2)) (fun _ _ _ _=>(aaj (i:=0) (show List.Nodup (["a","b","least","rows","places"]:List Str) by decide +kernel) rfl (Or.inl rfl) (hf:=Or.inr rfl))) (fun _ _ _ _=>ab4) (fun _ _ _ _=>(show PI _ _ _ (anx K _) from abk (pv 4))) (fun _ _ _ _=>(aaj (i:=1) (show List.Nodup (["a","b","least","rows","places"]:List Str) by decide +kernel) rfl (Or.inl rfl) (hf:=Or.inr rfl))) (fun _ _ _ _=>amv (aax ab7 (pv 0) (pv 1) (aaw _))) (fun _ _ _ _=>(acu aj0 (aao (show IxR _ (ab8 K) from aap) (aao (show IxR _ (ab8 K) from aap) (pv 3) (pv 0) (fun _ _=>rfl)) (pv 1) (fun _ _=>rfl)) (pv 2) (aaw _)))) aac)))),?_⟩
 refine abd h fun ss y q B J=>?_
 refine exS4 ss q fun n m least ps d=>?_
 have hn:=d.1
 have v:=d.2.1
 have g:=d.2.2.1
 have k:=d.2.2.2
 clear d q
 show EvS B _ _ [some (.st (.list (matD n m))),some (.st (.int least)),some (.st (plD ps))]
 row_cond go
 refine asq (xs:=ps) (fun _=>ps) .int (fun a c => .bool (decide (m a c ≥ least))) (fun a c=>decide (a < c)) ?_ ?_ ?_ ?_ ?_
 ·exact aqn rfl
 ·refine aC0 (aq1 ps ps _ _) (aC0 (Nat.mul_le_mul v v) (by decide))
 ·intro a ha C z o
  row_cond go
  exact rfl
 ·intro a ha c j C z
  have G:=ahs (n:=n) (m:=m) (x:=a) (g a ha).1 (g a ha).2
  have I:=alx (n:=n) (r:=m a) (x:=c) (g c j).1 (g c j).2
  row_cond go
  intro _
  row_cond go
  exact rfl
 ·row_cond go
  rw [show (ps.flatMap fun x=>(ps.filter fun c=>decide (x < c)).map fun c=>PyData.bool (decide (m x c ≥ least)))=(ps.flatMap fun x=>(ps.filter fun c=>decide (x < c)).map fun c=>decide (m x c ≥ least)).map .bool by rw [List.map_flatMap];congr 1;funext x;rw [aC7];rfl]
  refine aic ?_
  row_cond go
  refine k _ ?_
  rw [aD8]
  constructor
  ·intro h a ha c j u
   have:=h (decide (m a c ≥ least)) (List.mem_flatMap.mpr ⟨a,ha,aA7.mpr ⟨c,List.mem_filter.mpr ⟨j,by simpa using u⟩,rfl⟩⟩)
   simpa using this
  ·intro h b hb
   obtain ⟨a,ha,hb⟩:=List.mem_flatMap.mp hb
   obtain ⟨c,j,rfl⟩:=aA7.mp hb
   obtain ⟨p,l⟩:=List.mem_filter.mp j
   simpa using h a ha c p (by simpa using l)
theorem sc_stay_shows:FnScope ["web","k","paper","rows","r","places"] ["web","k","paper"] (aan s_stay_shows):=by row_cond sc
theorem aik (T:Txt K mg):Can P w K mg base "stay_shows" 9 ["web","k","paper"] (spP K (av8)):=by
 obtain ⟨f,fd,D⟩:=T.d_stay_shows
 refine D.can (D.fn.ok sc_stay_shows (fun vs H Q E h=>lenP h fun ss C q=>by obtain ⟨n,es,k,r,ps,rfl,F,G,m,l,z,J,O,M,rb,I,y⟩:=q;rfl) (fun cdv A outer s H vs Q E j h=>?_))
 have nd:=sc_stay_shows.nd
 refine ⟨_,(aad (aai (i:=3) nd rfl (Or.inr rfl) (aav (alz T) j (aaa (pv 0) aac)))
  (aad (abo (PW.pt (adm (aax ab7 (pv 1) aab (aaw _)) (ade (aek (aej (aav (amn T) j (aaa (pv 2) aac)))))))
   (aaf (aa0 ab6))
   aa5)
  (aad (adx (pv 2) (acs rfl (aa2 (aaj (i:=4) nd rfl (Or.inl rfl)) (aa2 (aaj (i:=5) nd rfl (Or.inl rfl)) acb))))
  (aad (abo (PW.pt (adm (aax ab7 (pv 4) aab (aaw _)) (ade (aax ab7 (aam aa7 (by rfl) T.b_len abu (aaa (pv 5) aac)) (aav (ahv T) j (aaa (pv 1) aac)) (aaw _)))))
   (aaf (aa0 ab6))
   aa5)
  (aad (abo (aek (aej (aam (afq rfl) (by rfl) T.b_all akr (aaa (ae0 rfl (N:=["place","rows"]) (src:=[none,some 3]) (by exact abw rfl rfl rfl rfl rfl rfl) (abk (pv 5)) (fun _ _ _ _=>(aaj (i:=0) (show List.Nodup (["place","rows"]:List Str) by decide +kernel) rfl (Or.inl rfl) (hf:=Or.inr rfl))) (fun _ _ _ _=>ab4) (fun _ _ _ _=>(aav (afw T) j (aaa (aam (show abh _ (.builtin "len") (rLen K) from aa7) (by rfl) T.b_len abu (aaa (pv 1) aac)) (aaa (pv 0) aac))))) aac))))
   (aaf (aa0 ab6))
   aa5)
  (aaf (aa0 (ael (aav (ajt T) j (aaa (pv 5) aac)) (afe (aav (aju T) j (aaa (pv 3) (aaa (aav (al1 T) j (aaa (pv 4) aac)) (aaa (pv 5) aac))))))))))))),?_⟩
 refine abd h fun ss C q B Y=>?_
 refine exS5 ss q fun n es k r ps a=>?_
 have F:=a.1
 have G:=a.2.1
 have m:=a.2.2.1
 have l:=a.2.2.2.1
 have z:=a.2.2.2.2.1
 have J:=a.2.2.2.2.2.1
 have O:=a.2.2.2.2.2.2.1
 have M:=a.2.2.2.2.2.2.2.1
 have rb:=a.2.2.2.2.2.2.2.2.1
 have I:=a.2.2.2.2.2.2.2.2.2.1
 have y:=a.2.2.2.2.2.2.2.2.2.2
 clear a q
 show EvS B _ _ [some (.st (webD n es)),some (.st (.int k)),some (.st (.tuple [.int r,plD ps])),none,none,none]
 row_cond go
 refine ⟨n,es,rfl,F,G,m,l,z,agh adi ?_⟩
 row_cond go
 have p:¬ ShowOk n es k r ps->C (.st (.bool false)):=fun h=>y false ⟨fun e=>(by cases e),fun e=>absurd e h⟩
 refine aba (fun S=>?_) (fun S=>?_)
 ·row_cond go
  exact p fun h=>by have:=h.k0;omega
 ·row_cond go
  refine ⟨r,ps,rfl,?_⟩
  row_cond go
  refine aba (fun L=>?_) (fun L=>?_)
  ·row_cond go
   exact p fun h=>by have:=h.r0;omega
  ·row_cond go
   refine ⟨k,rfl,by omega,by omega,?_⟩
   row_cond go
   rw [az3]
   refine aba (fun U=>?_) (fun U=>?_)
   ·row_cond go
    exact p fun h=>by have:=h.len;omega
   ·refine acy ?_
    row_cond go
    refine ad5 (fun o:Int => .bool (btwD 0 (n - 1) (.int o))) rfl (by omega) (fun o Z X W=>?_) ?_
    ·row_cond go
     refine ⟨n,.int o,?_,?_⟩
     ·rw [aij]
      simp
      omega
     ·row_cond go
      exact rfl
    ·row_cond go
     rw [show (ps.map fun o=>PyData.bool (btwD 0 (n - 1) (.int o)))=(ps.map fun o=>btwD 0 (n - 1) (.int o)).map .bool by rw [aC7];rfl]
     refine aic ?_
     row_cond go
     have d:(ps.map fun o=>btwD 0 (n - 1) (.int o)).all id=true ↔ ∀ x∈ps,0<=x/\x < n:=by
      rw [List.all_map,aD8]
      constructor
      ·intro h x v;have:=h x v;simp [btwD] at this;omega
      ·intro h x v;have:=h x v;simp [btwD];omega
     cases hb:(ps.map fun o=>btwD 0 (n - 1) (.int o)).all id with
     | false =>
      row_cond go
      exact p fun h=>by have:=d.mpr h.inn;rw [hb] at this;cases this
     | true =>
      have c:=d.mp hb
      row_cond go
      refine ⟨ps,rfl,by omega,fun b hb=>?_⟩
      row_cond go
      cases b with
      | false =>
       row_cond go
       exact p fun h=>by have:=hb.mpr h.rise;cases this
      | true =>
       have g:=hb.mp rfl
       row_cond go
       refine ⟨r,rfl,by omega,by omega,?_⟩
       row_cond go
       refine ⟨n.toNat,dsF es,2 * r+1,ps,rfl,by omega,I,fun x v=>by have:=c x v;omega,fun R u=>?_⟩
       row_cond go
       exact y R ⟨fun e=>⟨by omega,by omega,by omega,c,g,u.mp e⟩,fun h=>u.mpr h.far⟩
end
def DrawsOk (ds:List Int):Prop:=∀ x∈ds,0<=x/\x < 10007
theorem DrawsOk.snoc {ds:List Int} {x:Int} (h:DrawsOk ds) (c:0<=x) (b:x < 10007):DrawsOk (ds ++ [x]):=fun y a=>by
 rcases az7.mp a with a | a
 ·exact h y a
 ·have:y=x:=by simpa using a
  subst this;exact ⟨c,b⟩
theorem asz {xs:List PyData} {lo hi:Option Int} {d:PyData} (h:d∈cutD xs lo hi):d∈xs:=aB4 (aB0 h)
theorem as0 {xs:List PyData} {lo hi:Option Int}:(cutD xs lo hi).length<=xs.length:=by unfold cutD;simp;omega
theorem afa (ds:List Int) (x:Int):ds.map PyData.int ++ [.int x]=(ds ++ [x]).map .int:=by simp
def av9:VP:=fun ss Q=>∃ (ns:List Int) (many:Int),ss=[.scr ns,.st (.int many)]/\ns.length<=63/\0<=many/\many<=1000/\∀ ds:List Int,many<=ds.length->ds.length<=3000->DrawsOk ds->Q (.own (OL (ds.map .int)))
section
variable {P:Program} {w:World} {K:Frag} {mg:Str->Option Value} {base:Heap}
theorem sc_law_draws:FnScope ["script","many","drawn","base","k","cell","number","one"] ["script","many"] (aan s_law_draws):=by row_cond sc
theorem ajv (T:Txt K mg):Can P w K mg base "_law_draws" 1 ["script","many"] (spP K (av9)):=by
 obtain ⟨f,fd,D⟩:=T.d_law_draws
 refine D.can (D.fn.ok sc_law_draws (fun vs H Q E h=>lenP h fun ss R q=>by obtain ⟨ns,many,rfl,v,Y,O,k⟩:=q;rfl) (fun cdv A outer s H vs Q E hr h=>?_))
 have nd:=sc_law_draws.nd
 refine ⟨_,(aad (aai (i:=2) nd rfl (Or.inl rfl) (aa3 aac))
  (aad (aai (i:=3) nd rfl (Or.inl rfl) aab)
  (aad (abf aH8 rfl (avr rfl T.b_enumerate (aaa (acw adr (pv 0) adq (acv aab)) aac)) (acs rfl (aa2 (aaj (i:=4) nd rfl (Or.inl rfl)) (aa2 (aaj (i:=5) nd rfl (Or.inl rfl)) acb)))
   (aad (aai (i:=6) nd rfl (Or.inl rfl) (aam ap9 (by rfl) T.b_abs axz (aaa (pv 5) aac)))
    (aad (aai (i:=3) nd rfl (Or.inl rfl) (aae aas (aae aaq (aae abq (pv 3) aab) (pv 6)) aab))
    (aaf (abo (aax aj0 (pv 6) (aeq (n:=1000000000000000000) (by decide) (by refine ⟨by decide,by decide,by decide⟩)) (aaw _))
     (aaf (ago aH8 (PW.pt (ag4 (aax ajz (pv 6) aab (aaw _)) (afz (aax ab7 (aam aa7 (by rfl) T.b_len abu (aaa (pv 2) aac)) (pv 1) (aaw _)))))
       (aad (abj (ab2 PySem.F.plainAttrs_list PySem.F.slot_list_append PySem.F.type_list_append aa6 (pv 2) (aaa (aae aas (pv 6) aab) aac)))
        (aaf (aai (i:=6) nd rfl (Or.inl rfl) (aae aa8 (pv 6) aab))))))
     (aad (aai (i:=7) nd rfl (Or.inl rfl) (aae aas (aae abq (aae aaq (aae aaq (aae aas (pv 6) aab) (pv 4)) aab) aab) aab))
      (aad (aai (i:=7) nd rfl (Or.inl rfl) (aae aas (aae abq (pv 7) (pv 7)) aab))
      (aad (abj (ab2 PySem.F.plainAttrs_list PySem.F.slot_list_append PySem.F.type_list_append aa6 (pv 2) (aaa (aae aas (aae aa8 (pv 7) aab) aab) aac)))
      (aad (aai (i:=7) nd rfl (Or.inl rfl) (aae aas (aae aaq (aae aaq (aae abq (pv 7) aab) (aae abq aab (pv 4))) aab) aab))
      (aad (aai (i:=7) nd rfl (Or.inl rfl) (aae aas (aae abq (pv 7) (pv 7)) aab))
      (aaf (abj (ab2 PySem.F.plainAttrs_list PySem.F.slot_list_append PySem.F.type_list_append aa6 (pv 2) (aaa (aae aas (aae aa8 (pv 7) aab) aab) aac))))))))))))))
  (aad (abf aH8 rfl (abb rfl T.b_range (aaa (aae abi (pv 1) (aam aa7 (by rfl) T.b_len abu (aaa (pv 2) aac))) aac)) (aaj (i:=4) nd rfl (Or.inl rfl))
   (aad (aai (i:=7) nd rfl (Or.inl rfl) (aae aas (aae aaq (aae aaq (pv 3) (aae abq aab (pv 4))) aab) aab))
    (aad (aai (i:=7) nd rfl (Or.inl rfl) (aae aas (aae abq (pv 7) (pv 7)) aab))
    (aad (aai (i:=7) nd rfl (Or.inl rfl) (aae aas (aae aaq (aae abq (pv 7) aab) (pv 4)) aab))
    (aaf (abj (ab2 PySem.F.plainAttrs_list PySem.F.slot_list_append PySem.F.type_list_append aa6 (pv 2) (aaa (aae aas (aae aa8 (aae aas (aae abq (pv 7) (pv 7)) aab) aab) aab) aac))))))))
  (aaf (aa0 (pv 2))))))),?_⟩
 refine abd h fun ss R q B Z=>?_
 refine exS2 ss q fun ns many a=>?_
 have v:=a.1
 have Y:=a.2.1
 have O:=a.2.2.1
 have k:=a.2.2.2
 clear a q
 show EvS B _ _ [some (.scr ns),some (.st (.int many)),none,none,none,none,none,none]
 row_cond go
 have G:(cutD (ns.map PyData.int) none (some 63)).length<=63:=aC0 as0 (by simpa using v)
 refine ⟨fun i e=>∃ r p u o ds bs,e=[some (.scr ns),some (.st (.int many)),some (.own (OL (ds.map .int))),some (.st (.int bs)),r,p,u,o]/\0<=bs/\bs < 2147483629/\DrawsOk ds/\(ds.length:Int)<=2 * i+many,
  ⟨none,none,none,none,[],7,rfl,by omega,by omega,fun x z=>by simp at z,by simp;omega⟩,?_,?_⟩
 ·rintro i d e hd b
  refine exS6 e b fun r p u o ds bs a=>?_
  have b0:=a.1
  have S:=a.2.1
  have l:=a.2.2.1
  have j:=a.2.2.2
  clear a b
  obtain ⟨x,z,rfl⟩:=anh hd
  have hi:i < 63:=aB5 (az1.mp z).1 G
  obtain ⟨c,_,rfl⟩:=aA7.mp (asz (az2 z))
  row_cond go
  have y:0<=(if c < 0 then -c else c):=by split <;> omega
  generalize (if c < 0 then -c else c)=num0 at y
  refine aba (fun L=>?_) (fun M=>?_)
  ·row_cond go
   refine afo (fun m e=>∃ g ds,e=[some (.scr ns),some (.st (.int many)),some (.own (OL (ds.map .int))),some (.st (.int ((bs * 31+num0) % 2147483629))),some (.st (.int (i:Int))),some (.st (.int c)),some (.st (.int g)),o]/\0<=g/\DrawsOk ds/\(ds.length:Int)<=2 * i+many/\m=g.toNat) ⟨_,num0,ds,rfl,y,l,j,rfl⟩ ?_
   rintro m e b
   refine exS2 e b fun g ds a=>?_
   have n0:=a.1
   have l:=a.2.1
   have j:=a.2.2.1
   have I:=a.2.2.2
   clear a b
   subst I
   row_cond go
   refine aba (fun W=>?_) (fun W=>?_)
   ·row_cond go
    rw [az3]
    refine aba (fun U=>?_) (fun U=>?_)
    ·row_cond go
     refine ⟨(g / 10007).toNat,by omega,g / 10007,ds ++ [g % 10007],by simp,by omega,l.snoc (by omega) (by omega),by simp;omega,rfl⟩
    ·row_cond go
     exact ⟨_,_,_,_,ds,_,rfl,by omega,by omega,l,by push_cast;omega⟩
   ·row_cond go
    exact ⟨_,_,_,_,ds,_,rfl,by omega,by omega,l,by push_cast;omega⟩
  ·row_cond go
   rw [afa,afa]
   refine ⟨_,_,_,_,_,_,rfl,by omega,by omega,(l.snoc (by omega) (by omega)).snoc (by omega) (by omega),by simp;omega⟩
 ·rintro e b
  refine exS6 e b fun r p u o ds bs a=>?_
  have b0:=a.1
  have S:=a.2.1
  have l:=a.2.2.1
  have j:=a.2.2.2
  clear a b
  rw [ae8] at j
  row_cond go
  rw [az3]
  have N:(ds.length:Int)<=1126:=by omega
  row_cond go
  refine ab1 (fun i e=>∃ r p u o es,e=[some (.scr ns),some (.st (.int many)),some (.own (OL (es.map .int))),some (.st (.int bs)),r,p,u,o]/\DrawsOk es/\es.length=ds.length+i) ⟨_,_,_,_,ds,rfl,l,rfl⟩ ?_ ?_
  ·rintro i e hi b
   refine exS5 e b fun r p u o es a=>?_
   have C:=a.1
   have J:=a.2
   clear a b
   have X:(i:Int) < 1000:=by omega
   row_cond go
   rw [afa]
   exact ⟨_,_,_,_,_,rfl,C.snoc (by omega) (by omega),by simp;omega⟩
  ·rintro e b
   refine exS5 e b fun r p u o es a=>?_
   have C:=a.1
   have J:=a.2
   clear a b
   row_cond go
   exact k es (by omega) (by omega) C
end
theorem DrawsOk.at {ds:List Int} (h:DrawsOk ds) {i:Int} (a:0<=i) (c:i < ds.length):∃ x,atI (ds.map PyData.int) i=some (.int x)/\0<=x/\x < 10007:=by
 have b:i.toNat < ds.length:=by omega
 have e:ds[i.toNat]?=some ds[i.toNat]:=az0 b
 have:=h _ (az2 e)
 exact ⟨_,adk (f:=PyData.int) (aed a e),this.1,this.2⟩
def azh:VP:=fun ss Q=>∃ (ds:List Int) (spot most:Int),ss=[.st (.list (ds.map .int)),.st (.int spot),.st (.int most)]/\DrawsOk ds/\0<=spot/\spot+50<=ds.length/\ds.length<=3000/\1<=most/\most<=60/\∀ n es,WebOk n es->n<=most->Joined n es->Q (.st (webD n es))
theorem at5 {a b c d e:Int} {i:Int} (g:0<=i) (f:i < 5):∃ y,atI [PyData.int a,PyData.int b,PyData.int c,PyData.int d,PyData.int e] i=some (PyData.int y)/\(y=a\/y=b\/y=c\/y=d\/y=e):=by
 rcases (show i=0\/i=1\/i=2\/i=3\/i=4 by omega) with rfl | rfl | rfl | rfl | rfl
 ·exact ⟨a,rfl,by simp⟩
 ·exact ⟨b,rfl,by simp⟩
 ·exact ⟨c,rfl,by simp⟩
 ·exact ⟨d,rfl,by simp⟩
 ·exact ⟨e,rfl,by simp⟩
theorem ayf {a r n:Int} (a0:0<=a) (c:a < n) (r0:0<=r) (b:r < n - 1):(a+1+r) % n ≠ a:=by
 by_cases h:a+1+r < n
 ·rw [Int.emod_eq_of_lt (by omega) h];omega
 ·have e:a+1+r=(a+1+r - n)+n * 1:=by omega
  rw [e,Int.add_mul_emod_self_left,Int.emod_eq_of_lt (by omega) (by omega)];omega
theorem ai7 {α β:Type} (f : α->β):∀ (l:List α) (k:Nat),(l.map f).eraseIdx k=(l.eraseIdx k).map f
 | [],_=>rfl
 | _ :: _,0=>rfl
 | a :: l,k+1=>by simp [ai7 f l k]
theorem ayg {j:Int} {n:Nat} (a:0<=j) (b:j < n):seqIndex? j n=some j.toNat:=by unfold seqIndex?;simp;omega
theorem ayh {left:List Int} {k:Nat} {y:Int} (a:left[k]?=some y):(left.map PyData.int)[k]?=some (.int y):=by rw [az5,a];rfl
theorem azi {x y:Int} {ns:List Int} (d:ns.Perm [x,y]) (hs:ns.Pairwise (·<=·)):ns=if x < y then [x,y] else [y,x]:=by
 have c:(if x < y then [x,y] else [y,x]).Perm [x,y]:=by
  split
  ·exact List.Perm.refl _
  ·exact List.Perm.swap _ _ _
 have f:(if x < y then [x,y] else [y,x]).Pairwise (·<=·):=by
  split <;> simp <;> omega
 exact (d.trans c.symm).eq_of_pairwise (fun a b _ _ h g=>Int.le_antisymm h g) hs f
section
variable {P:Program} {w:World} {K:Frag} {mg:Str->Option Value} {base:Heap}
theorem sc_law_web:FnScope ["d","spot","most","n","way","ties","k","x","head","a","b","kind","cut","two","order","left","at","turned"] ["d","spot","most"] (aan s_law_web):=by row_cond sc
theorem amo (T:Txt K mg):Can P w K mg base "_law_web" 1 ["d","spot","most"] (spP K (azh)):=by
 obtain ⟨f,fd,D⟩:=T.d_law_web
 refine D.can (D.fn.ok sc_law_web (fun vs H Q E h=>lenP h fun ss Q' q=>by obtain ⟨ds,spot,most,rfl,X,s0,s1,hl,m0,m1,k⟩:=q;rfl) (fun cdv A outer s H vs Q E hr h=>?_))
 have nd:=sc_law_web.nd
 refine ⟨_,(aad (aai (i:=3) nd rfl (Or.inl rfl) (aae aaq aab (aae aas (aao aap (pv 0) (pv 1) (fun _ _=>rfl)) (pv 2))))
  (aad (aai (i:=4) nd rfl (Or.inl rfl) (aae aas (aae aa8 (aao aap (pv 0) (pv 1) (fun _ _=>rfl)) aab) aab))
  (aad (aai (i:=5) nd rfl (Or.inl rfl) aq9)
  (aad (abf aH8 rfl (ao3 rfl T.b_range (aaa aab (aaa (pv 3) aac))) (aaj (i:=6) nd rfl (Or.inl rfl))
   (aad (aai (i:=7) nd rfl (Or.inl rfl) (aao aap (pv 0) (aae aaq (aae aaq (pv 1) aab) (aae aas (pv 6) aab)) (fun _ _=>rfl)))
    (aad (aai (i:=8) nd rfl (Or.inl rfl) (aao aap (aa3 (aaa (aae abi (pv 6) aab) (aaa aab (aaa (aae aas (pv 7) (pv 6)) (aaa (aam (adn rfl) (by rfl) T.b_max aep (aaa aab (aaa (aae abi (aae abi (pv 6) aab) (aae aas (pv 7) aab)) aac))) (aaa (aae abi (pv 6) aab) aac)))))) (pv 4) (fun _ _=>rfl)))
    (aaf (aen (ad7 hr) (pv 5) (ace (aaa (pv 8) (aaa (pv 6) aac))) ab6 rfl)))))
  (aad (abo (PW.pt (ag4 (aax ajy (pv 4) aab (aaw _)) (afz (aax ajz (pv 3) aab (aaw _)))))
   (aaf (aen (ad7 hr) (pv 5) (ace (aaa aab (aaa (aae abi (pv 3) aab) aac))) ab6 rfl))
   aa5)
  (aad (abf aH8 rfl (abb rfl T.b_range (aaa (aae abq (aao aap (aa3 (aaa aab (aaa aab (aaa aab (aaa aab (aaa (aae aa8 (pv 3) aab) aac)))))) (aae aas (aao aap (pv 0) (aae aaq (pv 1) aab) (fun _ _=>rfl)) aab) (fun _ _=>rfl)) (adf an6 (by rfl) T.b_int apq (aaa (acu ajz (pv 3) aab (aaw _)) aac))) aac)) (aaj (i:=6) nd rfl (Or.inl rfl))
   (aad (aai (i:=9) nd rfl (Or.inl rfl) (aae aas (aao aap (pv 0) (aae aaq (aae aaq (pv 1) aab) (aae aas (pv 6) aab)) (fun _ _=>rfl)) (pv 3)))
    (aad (aai (i:=10) nd rfl (Or.inl rfl) (aae aas (aae aaq (aae aaq (pv 9) aab) (aae aas (aao aap (pv 0) (aae aaq (aae aaq (pv 1) aab) (aae aas (pv 6) aab)) (fun _ _=>rfl)) (aae abi (pv 3) aab))) (pv 3)))
    (aaf (aen (ad7 hr) (pv 5) (ace (aaa (aam (ahb rfl) (by rfl) T.b_min apo (aaa (pv 9) (aaa (pv 10) aac))) (aaa (aam (adn rfl) (by rfl) T.b_max aep (aaa (pv 9) (aaa (pv 10) aac))) aac))) ab6 rfl)))))
  (aad (aai (i:=11) nd rfl (Or.inl rfl) (aae aas (aae aa8 (aao aap (pv 0) (aae aaq (pv 1) aab) (fun _ _=>rfl)) aab) aab))
  (aad (aai (i:=12) nd rfl (Or.inl rfl) (aae aaq aab (aae aas (aae aa8 (aao aap (pv 0) (aae aaq (pv 1) aab) (fun _ _=>rfl)) aab) (aam (ahb rfl) (by rfl) T.b_min apo (aaa (pv 3) (aaa aab aac))))))
  (aad (abf aH8 rfl (abb rfl T.b_range (aaa (pv 3) aac)) (aaj (i:=10) nd rfl (Or.inl rfl))
   (aaf (abf aH8 rfl (abb rfl T.b_range (aaa (pv 10) aac)) (aaj (i:=9) nd rfl (Or.inl rfl))
     (aad (aai (i:=13) nd rfl (Or.inl rfl) (ael (acu ajy (pv 11) aab (aaw _)) (ael (acu aj0 (pv 9) (pv 12) (aaw _)) (afe (acu ab7 (pv 3) aab (aaw _))))))
      (aaf (abo (PW.pt (ag4 (aax ab7 (pv 11) aab (aaw _)) (afz (PW.pt (adm (aax ab7 (pv 10) (pv 12) (aaw _)) (ade (apw (pv 13))))))))
       (aaf (aen (ad7 hr) (pv 5) (ace (aaa (pv 9) (aaa (pv 10) aac))) ab6 rfl))
       aa5))))))
  (aad (aai (i:=14) nd rfl (Or.inr rfl) (alj rfl T.b_list rfl T.b_range rfl (aaa (pv 3) aac)))
  (aad (abo (aax ajz (aae aas (aae aa8 (aao aap (pv 0) (aae aaq (pv 1) aab) (fun _ _=>rfl)) aab) aab) aab (aaw _))
   (aad (aai (i:=15) nd rfl (Or.inl rfl) (alj rfl T.b_list rfl T.b_range rfl (aaa (pv 3) aac)))
    (aad (aai (i:=14) nd rfl (Or.inr rfl) (aa3 aac))
    (aaf (abf aH8 rfl (abb rfl T.b_range (aaa (pv 3) aac)) (aaj (i:=6) nd rfl (Or.inl rfl))
     (aad (aai (i:=16) nd rfl (Or.inl rfl) (aae aa8 (aao aap (pv 0) (aae aaq (aae aaq (pv 1) aab) (aae aas (pv 6) aab)) (fun _ _=>rfl)) (aae aaq aab (aae aa8 (pv 6) aab))))
      (aaf (abj (ab2 PySem.F.plainAttrs_list PySem.F.slot_list_append PySem.F.type_list_append aa6 (pv 14) (aaa (ab2 PySem.F.plainAttrs_list PySem.F.slot_list_pop PySem.F.type_list_pop akk (pv 15) (aaa (aae aas (pv 16) (aam aa7 (by rfl) T.b_len abu (aaa (pv 15) aac))) aac)) aac)))))))))
   aa5)
  (aad (ae1 (i:=17) nd rfl (Or.inl rfl) rfl (N:=["a","b","order"]) (src:=[none,none,some 14]) (by exact abw rfl rfl rfl rfl rfl rfl) (ay4 (pv 5)) (fun _ _ _ _=>(show PG _ _ (gTup K 2 (ac1 (aa1 0) (ac1 (aa1 1) gNil))) from (acs rfl (aa2 (aaj (i:=0) (show List.Nodup (["a","b","order"]:List Str) by decide +kernel) rfl (Or.inl rfl) (hf:=Or.inr rfl)) (aa2 (aaj (i:=1) (show List.Nodup (["a","b","order"]:List Str) by decide +kernel) rfl (Or.inl rfl) (hf:=Or.inr rfl)) acb))))) (fun _ _ _ _=>ab4) (fun _ _ _ _=>(aam (show abh _ (.builtin "sorted") (ahf K) from ae3) (by rfl) T.b_sorted acq (aaa (aa3 (aaa (aao (show IxR _ (ab8 K) from aap) (pv 2) (pv 0) (fun _ _=>rfl)) (aaa (aao (show IxR _ (ab8 K) from aap) (pv 2) (pv 1) (fun _ _=>rfl)) aac))) aac))))
  (aaf (aa0 (ace (aaa (pv 3) (aaa (aam aoe (by rfl) T.b_sorted acq (aaa (ae0 rfl (N:=["a","b"]) (src:=[none,none]) (by exact abw rfl rfl rfl rfl rfl rfl) (abk (pv 17)) (fun _ _ _ _=>(show PG _ _ (gLst K 2 (ac1 (aa1 0) (ac1 (aa1 1) gNil))) from (aw4 rfl (aa2 (aaj (i:=0) (show List.Nodup (["a","b"]:List Str) by decide +kernel) rfl (Or.inl rfl) (hf:=Or.inr rfl)) (aa2 (aaj (i:=1) (show List.Nodup (["a","b"]:List Str) by decide +kernel) rfl (Or.inl rfl) (hf:=Or.inr rfl)) acb))))) (fun _ _ _ _=>ab4) (fun _ _ _ _=>(ace (aaa (pv 0) (aaa (pv 1) aac))))) aac)) aac))))))))))))))))),?_⟩
 refine abd h fun ss Q' q B hK=>?_
 refine exS3 ss q fun ds spot most g=>?_
 have X:=g.1
 have s0:=g.2.1
 have s1:=g.2.2.1
 have hl:=g.2.2.2.1
 have m0:=g.2.2.2.2.1
 have m1:=g.2.2.2.2.2.1
 have k:=g.2.2.2.2.2.2
 clear g q
 show EvS B _ _ [some (.st (.list (ds.map .int))),some (.st (.int spot)),some (.st (.int most)),none,none,none,none,none,none,none,none,none,none,none,none,none,none,none]
 obtain ⟨Y,a0,b7,b4⟩:=X.at (i:=spot) s0 (by omega)
 obtain ⟨d1,a1,b5,b8⟩:=X.at (i:=spot+1) (by omega) (by omega)
 row_cond go
 have a2:1<=1+Y % most:=by have:=aD1 Y (show most ≠ 0 by omega);omega
 have a3:1+Y % most<=most:=by have:=aD2 Y (show 0 < most by omega);omega
 generalize 1+Y % most=n at a2 a3
 generalize hw:Y / 64 % 5=way
 have a6:0<=way:=by omega
 have b2:way < 5:=by omega
 have b6:(spot:Int)<=2950:=by omega
 row_cond go
 refine ab1 (fun i e=>∃ r G I ps,e=[some (.st (.list (ds.map .int))),some (.st (.int spot)),some (.st (.int most)),some (.st (.int n)),some (.st (.int way)),some (.own (OT (kE ps))),r,G,I,none,none,none,none,none,none,none,none,none]/\PsOk n ps/\Tr (1+i) ps) ⟨_,_,_,[],rfl,PsOk.nil n,fun k _ _=>by omega⟩ ?_ ?_
 ·rintro i e hi l
  refine exS4 e l fun r G I ps g=>?_
  have o:=g.1
  have C:=g.2
  clear g l
  have c0:(i:Int) < n - 1:=by omega
  obtain ⟨x,ax,xl,xh⟩:=X.at (i:=spot+2+(1+(i:Int)) % 20) (by omega) (by omega)
  have x0:=aD1 x (show 1+(i:Int) ≠ 0 by omega)
  have x1:=aD2 x (show 0 < 1+(i:Int) by omega)
  obtain ⟨hd,ah,hh⟩:=at5 (a:=1+(i:Int) - 1) (b:=0) (c:=x % (1+(i:Int))) (d:=if 1+(i:Int) - 1 - x % 3 > 0 then 1+(i:Int) - 1 - x % 3 else 0) (e:=1+(i:Int) - 1) a6 b2
  have h0:0<=hd/\hd < 1+(i:Int):=by
   generalize x % (1+(i:Int))=z at *
   split at hh <;> omega
  clear hh
  have hL:(kE ps).length<=999999:=by rw [aee];exact aC0 (o.len (by omega)) (by decide)
  row_cond go
  rw [ahp]
  refine ⟨_,_,_,_,rfl,o.add h0.1 h0.2 (by omega),fun k k1 k2=>?_⟩
  by_cases hk:k=1+(i:Int)
  ·subst hk;exact ⟨hd,h0.1,h0.2,addP_mem.mpr (.inr rfl)⟩
  ·obtain ⟨h,z0,z1,z2⟩:=C k k1 (by push_cast at k2;omega);exact ⟨h,z0,z1,addP_mem.mpr (.inl z2)⟩
 ·rintro e l
  refine exS4 e l fun r G I ps g=>?_
  have o:=g.1
  have C:=g.2
  clear g l
  replace C:Tr n ps:=fun k k1 k2=>C k k1 (by omega)
  row_cond go
  refine' cutR (R:=∀ ps,PsOk n ps->Tr n ps->EvS B _ _ [some (.st (.list (ds.map .int))),some (.st (.int spot)),some (.st (.int most)),some (.st (.int n)),some (.st (.int way)),some (.own (OT (kE ps))),r,G,I,none,none,none,none,none,none,none,none,none]) (fun R=>?K1) ?K2
  case K1 =>
   refine aba (fun _=>?_) (fun _=>?_)
   ·row_cond go
    refine aba (fun hn=>?_) (fun hn=>?_)
    ·refine alo (fun e=>∃ ps,e=[some (.st (.list (ds.map .int))),some (.st (.int spot)),some (.st (.int most)),some (.st (.int n)),some (.st (.int way)),some (.own (OT (kE ps))),r,G,I,none,none,none,none,none,none,none,none,none]/\PsOk n ps/\Tr n ps) ?_ ?_
     ·have hL:(kE ps).length<=999999:=by rw [aee];exact aC0 (o.len (by omega)) (by decide)
      row_cond go
      rw [ahp]
      exact ⟨_,rfl,o.add (by omega) (by omega) (by omega),C.add⟩
     ·rintro e l
      refine exS1 e l fun ps g=>?_
      have o:=g.1
      have C:=g.2
      clear g l
      exact R ps o C
    ·refine acy ?_
     exact R ps o C
   ·refine acy ?_
    exact R ps o C
  case K2 =>
   clear o C ps
   intro ps o C
   obtain ⟨Z,a5,h5⟩:=at5 (a:=0) (b:=0) (c:=1) (d:=2) (e:=n / 2) (i:=d1 % 5) (by omega) (by omega)
   have y0:0<=Z/\Z<=30:=by omega
   clear h5
   row_cond go
   have hm : -(2 ^ 62)<=Z * (if decide (1 < n)=true then 1 else 0)/\Z * (if decide (1 < n)=true then 1 else 0) < 2 ^ 62/\(0 < Z * (if decide (1 < n)=true then 1 else 0)->1 < n):=by
    by_cases hn:1 < n
    ·rw [aD9 (aC6 hn)];omega
    ·rw [aE0 (by simpa using hn)];omega
   generalize (Z * if decide (1 < n)=true then 1 else 0)=tot at hm
   obtain ⟨t0,t1,t2⟩:=hm
   row_cond go
   refine ab1 (fun i e=>∃ r G I O J ps,e=[some (.st (.list (ds.map .int))),some (.st (.int spot)),some (.st (.int most)),some (.st (.int n)),some (.st (.int way)),some (.own (OT (kE ps))),r,G,I,O,J,none,none,none,none,none,none,none]/\PsOk n ps/\Tr n ps) ⟨_,_,_,_,_,ps,rfl,o,C⟩ ?_ ?_
   ·clear o C r G I ps
    rintro i e hi l
    refine exS6 e l fun r G I O J ps g=>?_
    have o:=g.1
    have C:=g.2
    clear g l
    have hn:1 < n:=t2 (by omega)
    obtain ⟨x,ax,xl,xh⟩:=X.at (i:=spot+22+(0+(i:Int)) % 8) (by omega) (by omega)
    obtain ⟨y,ay,yl,yh⟩:=X.at (i:=spot+30+(0+(i:Int)) % 8) (by omega) (by omega)
    have hL:(kE ps).length<=999999:=by rw [aee];exact aC0 (o.len (by omega)) (by decide)
    have u0:=aD1 x (show n ≠ 0 by omega)
    have u1:=aD2 x (show 0 < n by omega)
    have w0:=aD1 y (show n - 1 ≠ 0 by omega)
    have w1:=aD2 y (show 0 < n - 1 by omega)
    have z0:=aD1 (x % n+1+y % (n - 1)) (show n ≠ 0 by omega)
    have z1:=aD2 (x % n+1+y % (n - 1)) (show 0 < n by omega)
    have zn:=ayf u0 u1 w0 w1
    row_cond go
    rw [ahp]
    generalize (x % n+1+y % (n - 1)) % n=q at *
    generalize x % n=p at *
    refine ⟨_,_,_,_,_,_,rfl,o.add ?_ ?_ ?_,C.add⟩ <;> (by_cases hb:q < p) <;> simp [hb] <;> omega
   ·clear o C r G I ps
    rintro e l
    refine exS6 e l fun r G I O J ps g=>?_
    have o:=g.1
    have C:=g.2
    clear g l
    row_cond go
    generalize d1 / 15 % 8=kind
    generalize (2+d1 / 120 % _:Int)=cut
    refine ab1 (fun i e=>∃ r G I O J L ps,e=[some (.st (.list (ds.map .int))),some (.st (.int spot)),some (.st (.int most)),some (.st (.int n)),some (.st (.int way)),some (.own (OT (kE ps))),r,G,I,O,J,some (.st (.int kind)),some (.st (.int cut)),L,none,none,none,none]/\PsOk n ps/\Tr n ps) ⟨_,_,_,_,_,_,ps,rfl,o,C⟩ ?_ ?_
    ·clear o C r G I O J ps
     rintro b e hb l
     refine exS7 e l fun r G I O J L ps g=>?_
     have o:=g.1
     have C:=g.2
     clear g l
     have b3:0+(b:Int) < n:=by omega
     row_cond go
     refine ab1 (fun i e=>∃ r G I O L ps,e=[some (.st (.list (ds.map .int))),some (.st (.int spot)),some (.st (.int most)),some (.st (.int n)),some (.st (.int way)),some (.own (OT (kE ps))),r,G,I,O,some (.st (.int (0+(b:Int)))),some (.st (.int kind)),some (.st (.int cut)),L,none,none,none,none]/\PsOk n ps/\Tr n ps) ⟨_,_,_,_,_,ps,rfl,o,C⟩ ?_ ?_
     ·clear o C r G I O L ps
      rintro a e ha l
      refine exS6 e l fun r G I O L ps g=>?_
      have o:=g.1
      have C:=g.2
      clear g l
      have b0:0+(a:Int) < 0+b:=by omega
      have hL:(kE ps).length<=999999:=by rw [aee];exact aC0 (o.len (by omega)) (by decide)
      row_cond go
      refine' cutR (R:=∀ bb:Bool,EvS B _ _ [some (.st (.list (ds.map .int))),some (.st (.int spot)),some (.st (.int most)),some (.st (.int n)),some (.st (.int way)),some (.own (OT (kE ps))),r,G,I,some (.st (.int (0+(a:Int)))),some (.st (.int (0+(b:Int)))),some (.st (.int kind)),some (.st (.int cut)),some (.st (.bool bb)),none,none,none,none]) (fun R=>?K1) ?K2
      case K1 =>
       refine aba (fun _=>?_) (fun _=>?_)
       ·repeat (first | exact R _ | row_cond st)
        refine aba (fun _=>?_) (fun _=>?_)
        ·repeat (first | exact R _ | row_cond st)
        ·repeat (first | exact R _ | row_cond st)
       ·repeat (first | exact R _ | row_cond st)
      case K2 =>
       have W:PsOk n (addP ps (0+(a:Int),0+(b:Int)))/\Tr n (addP ps (0+(a:Int),0+(b:Int))):=⟨o.add (by omega) b0 b3,C.add⟩
       rintro (_ | _) <;> row_cond go <;> refine aba (fun _=>?_) (fun _=>?_) <;> row_cond go <;> first | exact ⟨_,_,_,_,_,_,rfl,o,C⟩ | (refine aba (fun _=>?_) (fun _=>?_) <;> row_cond go <;> first | exact ⟨_,_,_,_,_,_,rfl,o,C⟩ | (rw [ahp];exact ⟨_,_,_,_,_,_,rfl,W.1,W.2⟩))
     ·rintro e l
      refine exS6 e l fun r G I O L ps g=>?_
      have o:=g.1
      have C:=g.2
      clear g l
      exact ⟨_,_,_,_,_,_,ps,rfl,o,C⟩
    ·clear o C r G I O J ps
     rintro e l
     refine exS7 e l fun r G I O J L ps g=>?_
     have o:=g.1
     have C:=g.2
     clear g l
     row_cond go
     refine' cutR (R:=∀ m r S M,Order n m->EvS B _ _ [some (.st (.list (ds.map .int))),some (.st (.int spot)),some (.st (.int most)),some (.st (.int n)),some (.st (.int way)),some (.own (OT (kE ps))),r,G,I,O,J,some (.st (.int kind)),some (.st (.int cut)),L,some (.own (OL (m.map .int))),S,M,none]) (fun R=>?K1) ?K2
     case K1 =>
      rw [anj]
      refine aba (fun _=>?_) (fun _=>?_)
      ·refine alo (fun e=>∃ m r S M,e=[some (.st (.list (ds.map .int))),some (.st (.int spot)),some (.st (.int most)),some (.st (.int n)),some (.st (.int way)),some (.own (OT (kE ps))),r,G,I,O,J,some (.st (.int kind)),some (.st (.int cut)),L,some (.own (OL (m.map .int))),S,M,none]/\Order n m) ?_ ?_
       ·row_cond go
        refine ab1 (fun i e=>∃ m left r M,e=[some (.st (.list (ds.map .int))),some (.st (.int spot)),some (.st (.int most)),some (.st (.int n)),some (.st (.int way)),some (.own (OT (kE ps))),r,G,I,O,J,some (.st (.int kind)),some (.st (.int cut)),L,some (.own (OL (m.map .int))),some (.own (OL (left.map .int))),M,none]/\Order n (m ++ left)/\m.length=i) ⟨[],_,_,_,by rw [anj];rfl,Order.id n,rfl⟩ ?_ ?_
        ·rintro i e hi l
         refine exS4 e l fun m left r M g=>?_
         have U:=g.1
         have a7:=g.2
         clear g l
         have a4:left.length=n.toNat - i:=by have:=U.len;simp at this;omega
         obtain ⟨x,ax,xl,xh⟩:=X.at (i:=spot+38+(0+(i:Int)) % 12) (by omega) (by omega)
         iterate 30 (row_cond st)
         have b1:1<=1+(0+(i:Int)) / 12/\1+(0+(i:Int)) / 12<=100:=by omega
         row_cond st
         (generalize 1+(0+(i:Int)) / 12=z12 at b1)
         row_cond st
         row_cond st
         (generalize x / z12=q)
         row_cond go
         rw [az3]
         have q0:=aD1 q (show (left.length:Int) ≠ 0 by omega)
         have q1:=aD2 q (show 0 < (left.length:Int) by omega)
         row_cond go
         (generalize q % (left.length:Int)=j at q0 q1)
         obtain ⟨y,hy⟩:∃ y,left[j.toNat]?=some y:=⟨_,az0 (show j.toNat < left.length by omega)⟩
         refine ⟨_,left.map .int,j,j.toNat,.int y,rfl,rfl,.inl rfl,by omega,by omega,ayg q0 (by rw [az3];exact q1),ayh hy,?_⟩
         rw [ai7]
         dsimp only [List.set_cons_zero,List.set_cons_succ,reS]
         row_cond go
         refine ⟨_,rfl,by rw [az3];omega,?_⟩
         refine ⟨m ++ [y],left.eraseIdx j.toNat,_,_,by rw [afa],aop U hy,by simp;omega⟩
        ·rintro e l
         refine exS4 e l fun m left r M g=>?_
         have U:=g.1
         have a7:=g.2
         clear g l
         have a4:left=[]:=by have:=U.len;simp at this;exact List.length_eq_zero_iff.mp (by omega)
         subst a4
         rw [aD4] at U
         exact ⟨m,_,_,_,rfl,U⟩
       ·rintro e l
        refine exS4 e l fun m r S M g=>?_
        have U:=g
        clear g l
        exact R m r S M U
      ·refine acy ?_
       exact R _ _ _ _ (Order.id n)
     case K2 =>
      clear r
      intro m r S M U
      refine agd 14 rfl adi ?_
      row_cond go
      rw [avx]
      refine ar5 (xs:=ps) (fa:=fun p => .int p.1) (fb:=fun p => .int p.2) (fun p => .list [.int (reP m p).1,.int (reP m p).2]) (fun _=>true) rfl (aC0 (o.len (by omega)) (by decide)) ?_ ?_
      ·intro p hp B' hB
       have hq:=o.inn p hp
       have r1:=adk (f:=PyData.int) (U.atI (a:=p.1) (by omega) (by omega))
       have r2:=adk (f:=PyData.int) (U.atI (a:=p.2) (by omega) (by omega))
       refine ads ⟨rfl,rfl,fun _=>?_⟩
       refine abr (afr ?_)
       row_cond go
       refine ⟨[abe m p.1,abe m p.2],rfl,by simp,fun b9 a8 a9=>ack ⟨?_,rfl⟩⟩
       rw [azi a8 a9]
       unfold reP
       split <;> rfl
      ·rw [ae6]
       row_cond go
       refine aqk (ps:=ps.map (reP m)) ?_
       row_cond go
       refine aqm (xs:=ps) (fa:=fun p => .int (reP m p).1) (fb:=fun p => .int (reP m p).2) (fun p=>prD (reP m p)) (fun _=>true) rfl (aC0 (o.len (by omega)) (by decide)) ?_ ?_
       ·intro p hp B' hB
        refine ads ⟨rfl,rfl,fun _=>?_⟩
        row_cond go
        exact rfl
       ·rw [ae6]
        row_cond go
        refine ⟨by rw [aC7];rfl,fun qs hq hs=>ack ?_⟩
        row_cond go
        refine k n qs (aso a2 (by omega) (o.re U) hq hs) a3 ?_
        exact Conn.joined ((C.conn.re U).mono fun u v h=>(Tied.perm hq).mpr h) (by omega)
end
def ayi:VP:=fun ss Q=>∃ (n:Int) (es:List (Int × Int)),ss=[.st (webD n es)]/\es.length<=10000/\Q (.st (webD n es))
section
variable {P:Program} {w:World} {K:Frag} {mg:Str->Option Value} {base:Heap}
theorem sc_law_copy:FnScope ["web"] ["web"] (aan s_law_copy):=by row_cond sc
theorem al2 (T:Txt K mg):Can P w K mg base "_law_copy" 1 ["web"] (spP K (ayi)):=by
 obtain ⟨f,fd,D⟩:=T.d_law_copy
 refine D.can (D.fn.ok sc_law_copy (fun vs H Q E h=>lenP h fun ss b q=>by obtain ⟨n,es,rfl,c,k⟩:=q;rfl) (fun cdv A outer s H vs Q E g h=>?_))
 have nd:=sc_law_copy.nd
 refine ⟨_,(aaf (aa0 (ace (aaa (aao aap (pv 0) aab (fun _ _=>rfl)) (aaa (adf ahm (by rfl) T.b_list af6 (aaa (aao aap (pv 0) aab (fun _ _=>rfl)) aac)) aac))))),?_⟩
 refine abd h fun ss b q B d=>?_
 refine exS2 ss q fun n es a=>?_
 have c:=a.1
 have k:=a.2
 clear a q
 show EvS B _ _ [some (.st (webD n es))]
 row_cond go
 exact k
end
def rowE (line:List Int) (ds:List Nat):List (Key × PyData):=(line.zip ds).map fun p=>(Sum.inl p.1,.int (p.2:Int))
theorem ag3 {line:List Int} {ds:List Nat} (j:ds.length=line.length) (nd:line.Nodup) {i:Nat} {v:Int} {d:Nat} (f:line[i]?=some v) (hd:ds[i]?=some d):valD (rowE line ds) (Sum.inl v)=some (.int (d:Int)):=by
 induction line generalizing ds i with
 | nil=>simp at f
 | cons a line ih =>
  cases ds with
  | nil=>simp at j
  | cons b ds =>
   unfold rowE valD
   simp only [List.zip_cons_cons,aC1,List.find?_cons]
   cases i with
   | zero =>
    simp at f hd
    subst f hd
    simp
   | succ i =>
    have c:line[i]?=some v:=by simpa using f
    have g:a ≠ v:=fun e=>(aG8.mp nd).1 (e ▸ az2 c)
    rw [show decide ((Sum.inl a:Key)=Sum.inl v)=false from aC5 fun h=>g (Sum.inl.inj h)]
    exact ih (by simpa using j) (aG8.mp nd).2 c (by simpa using hd)
theorem aq2 {line:List Int} {ds:List Nat} {v:Int} (h:v ∉ line):valD (rowE line ds) (Sum.inl v)=none:=by
 induction line generalizing ds with
 | nil=>simp [rowE,valD]
 | cons a line ih =>
  cases ds with
  | nil=>simp [rowE,valD]
  | cons b ds =>
   unfold rowE valD
   simp only [List.zip_cons_cons,aC1,List.find?_cons]
   have c:a ≠ v:=fun e=>h (e ▸ aA8)
   rw [show decide ((Sum.inl a:Key)=Sum.inl v)=false from aC5 fun h=>c (Sum.inl.inj h)]
   exact ih fun hm=>h (aA5 _ hm)
theorem as4 {line:List Int} {ds:List Nat} {v:Int} {d:Nat} (f:ds.length=line.length) (h:v ∉ line):putD (rowE line ds) (Sum.inl v) (.int (d:Int))=rowE (line ++ [v]) (ds ++ [d]):=by
 have:(rowE line ds).any (fun e=>decide (e.1=(Sum.inl v:Key)))=false:=by
  rw [List.any_eq_false]
  intro e c hd
  obtain ⟨p,b,rfl⟩:=aA7.mp c
  have:p.1=v:=by
   have a:(Sum.inl p.1:Key)=Sum.inl v:=of_decide_eq_true hd
   exact Sum.inl.inj a
  exact h (this ▸ (List.of_mem_zip b).1)
 unfold putD
 rw [aE0 (by rw [this];simp)]
 unfold rowE
 rw [List.zip_append f.symm,aC9]
 rfl
theorem al3 {line:List Int} {ds:List Nat} (a:ds.length=line.length):(rowE line ds).length=line.length:=by simp [rowE,a]
theorem ahw:∀ (ns:List Int),aar (.list (ns.map .int))=true
 | []=>rfl
 | a :: ns=>by have:=ahw ns;simp only [aar,aC1,plainDs] at *;simp [this]
theorem aov (ns:List Int):(PyData.list (ns.map .int)).depth<=60:=by
 have:PyData.depthAll (ns.map .int)<=1:=ada fun d hd=>by
  obtain ⟨_,_,rfl⟩:=aA7.mp hd
  simp [PyData.depth]
 simp only [PyData.depth]
 omega
theorem al4 {n:Int} {line:List Int} (nd:line.Nodup) (h:∀ v∈line,0<=v/\v < n):line.length<=n.toNat * n.toNat:=by
 have:=afs (n:=n.toNat) (es:=line.map fun v=>(v,(0:Int))) (aE5.mpr (nd.imp fun a e=>a (by simpa using e))) fun p b=>by
  obtain ⟨v,c,rfl⟩:=aA7.mp b
  have:=h v c
  simp only
  omega
 simpa using this
theorem azj {n:Int} (h:n<=100):n.toNat * n.toNat<=10000:=Nat.mul_le_mul (show n.toNat<=100 by omega) (show n.toNat<=100 by omega)
section
variable {P:Program} {w:World} {K:Frag} {mg:Str->Option Value} {base:Heap}
theorem sc_law_rows:FnScope ["web","n","ties","beside","a","b","found","first","row","waiting","here","there"] ["web"] (aan s_law_rows):=by row_cond sc
theorem al5 (T:Txt K mg):Can P w K mg base "_law_rows" 1 ["web"] (spP K (ai6)):=by
 obtain ⟨f,fd,D⟩:=T.d_law_rows
 refine D.can (D.fn.ok sc_law_rows (fun vs H Q E h=>lenP h fun ss Q' q=>by obtain ⟨n,es,rfl,n0,n1,O,a6,hJ,k⟩:=q;rfl) (fun cdv A outer s H vs Q E hr h=>?_))
 have nd:=sc_law_rows.nd
 refine ⟨_,(aad (adx (pv 0) (acs rfl (aa2 (aaj (i:=1) nd rfl (Or.inl rfl)) (aa2 (aaj (i:=2) nd rfl (Or.inl rfl)) acb))))
  (aad (ae1 (i:=3) nd rfl (Or.inl rfl) rfl (N:=["k"]) (src:=[none]) (by exact abw rfl rfl rfl rfl rfl rfl) (abb rfl T.b_range (aaa (pv 1) aac)) (fun _ _ _ _=>(aaj (i:=0) (show List.Nodup (["k"]:List Str) by decide +kernel) rfl (Or.inl rfl) (hf:=Or.inr rfl))) (fun _ _ _ _=>ab4) (fun _ _ _ _=>(aa3 aac)))
  (aad (abf aH8 rfl (abk (pv 2)) (acs rfl (aa2 (aaj (i:=4) nd rfl (Or.inl rfl)) (aa2 (aaj (i:=5) nd rfl (Or.inl rfl)) acb)))
   (aad (abj (ab2 PySem.F.plainAttrs_list PySem.F.slot_list_append PySem.F.type_list_append aa6 (aao aap (pv 3) (pv 4) (fun _ _=>rfl)) (aaa (pv 5) aac)))
    (aaf (abj (ab2 PySem.F.plainAttrs_list PySem.F.slot_list_append PySem.F.type_list_append aa6 (aao aap (pv 3) (pv 5) (fun _ _=>rfl)) (aaa (pv 4) aac))))))
  (aad (aai (i:=6) nd rfl (Or.inl rfl) (aa3 aac))
  (aad (abf aH8 rfl (abb rfl T.b_range (aaa (pv 1) aac)) (aaj (i:=7) nd rfl (Or.inl rfl))
   (aad (aai (i:=8) nd rfl (Or.inr rfl) (aua (ara (pv 7) aab at9) rfl rfl (by simp) (by decide)))
    (aad (aai (i:=9) nd rfl (Or.inl rfl) (aa3 (aaa (pv 7) aac)))
    (aad (ago aH8 (aax (ahe hr.units) (pv 9) (aa3 aac) (aaw _))
     (aad (aai (i:=10) nd rfl (Or.inl rfl) (ab2 PySem.F.plainAttrs_list PySem.F.slot_list_pop PySem.F.type_list_pop akk (pv 9) (aaa aab aac)))
      (aaf (abf aH8 rfl (abk (aao aap (pv 3) (pv 10) (fun _ _=>rfl))) (aaj (i:=11) nd rfl (Or.inl rfl))
       (aaf (abo (awj (apf (ad7 hr) (pv 11) (pv 8)))
         (aad (aen (ad7 hr) (pv 8) (pv 11) (aae aaq (at8 (ad7 hr) (pv 8) (pv 10) (fun _ _=>rfl)) aab) rfl)
          (aaf (abj (ab2 PySem.F.plainAttrs_list PySem.F.slot_list_append PySem.F.type_list_append aa6 (pv 9) (aaa (pv 11) aac)))))
         aa5))))))
    (aaf (abj (ab2 PySem.F.plainAttrs_list PySem.F.slot_list_append PySem.F.type_list_append aa6 (pv 6) (aaa (ae0 rfl (N:=["place","row"]) (src:=[none,some 8]) (by exact abw rfl rfl rfl rfl rfl rfl) (abb rfl T.b_range (aaa (pv 1) aac)) (fun _ _ _ _=>(aaj (i:=0) (show List.Nodup (["place","row"]:List Str) by decide +kernel) rfl (Or.inl rfl) (hf:=Or.inr rfl))) (fun _ _ _ _=>ab4) (fun _ _ _ _=>(arb (ad7 hr) (pv 1) (pv 0) ⟨rfl,rfl,rfl,rfl⟩))) aac))))))))
  (aaf (aa0 (pv 6)))))))),?_⟩
 refine abd h fun ss Q' q B hK=>?_
 refine exS2 ss q fun n es c=>?_
 have n0:=c.1
 have n1:=c.2.1
 have O:=c.2.2.1
 have a6:=c.2.2.2.1
 have hJ:=c.2.2.2.2.1
 have k:=c.2.2.2.2.2
 clear c q
 show EvS B _ _ [some (.st (webD n es)),none,none,none,none,none,none,none,none,none,none,none]
 row_cond go
 rw [acd]
 refine ⟨by omega,?_⟩
 row_cond go
 refine ach (fun i e=>∃ Z Y tl,e=[some (.st (webD n es)),some (.st (.int n)),some (.st (.list (es.map prD))),some (.own (OLL (tlD tl))),Z,Y,none,none,none,none,none,none]/\TiedL n (Tied (es.take i)) tl/\∀ r∈tl,r.length<=2 * i)
  ⟨none,none,List.replicate n.toNat [],by simp [tlD],⟨by simp;omega,fun i r hi w=>?_⟩,fun r hw=>?_⟩ ?_ ?_
 ·rw [aG1] at hi
  split at hi
  ·cases hi;simp [Tied]
  ·cases hi
 ·have:=List.eq_of_mem_replicate hw
  subst this;simp
 ·rintro i ⟨a,b⟩ e p g
  refine exS3 e g fun Z Y tl c=>?_
  have X:=c.1
  have G:=c.2
  clear c g
  have hi:i < es.length:=(az1.mp p).1
  obtain ⟨a0,a1,b0,b1⟩:=O _ (az2 p)
  dsimp only at a0 a1 b0 b1
  row_cond go
  obtain ⟨r,y,_⟩:=X.get a0 a1
  have l1:=G r (az2 y)
  refine adp (n:=a.toNat) (ds:=r.map .int) rfl rfl rfl (by rw [az3];exact aew a0 (by rw [X.1];exact a1)) (adw y) (by rw [az3];omega) ?_
  dsimp only [List.set_cons_zero,List.set_cons_succ]
  have t2:=X.put (q:=b) a0 a1 y
  rw [show r.map PyData.int ++ [.int b]=(r ++ [b]).map .int by simp,agf]
  have z:∀ us∈tl.set a.toNat (r ++ [b]),us.length<=2 * i+1:=fun us hu=>by
   rcases List.mem_or_eq_of_mem_set hu with h | h
   ·have:=G us h;omega
   ·subst h;simp;omega
  generalize tl.set a.toNat (r ++ [b])=tl2 at t2 z
  row_cond go
  obtain ⟨r,y,_⟩:=t2.get b0 b1
  have l1:=z r (az2 y)
  refine adp (n:=b.toNat) (ds:=r.map .int) rfl rfl rfl (by rw [az3];exact aew b0 (by rw [t2.1];exact b1)) (adw y) (by rw [az3];omega) ?_
  dsimp only [List.set_cons_zero,List.set_cons_succ]
  rw [show r.map PyData.int ++ [.int a]=(r ++ [a]).map .int by simp,agf]
  refine ⟨_,_,_,rfl,(t2.put (q:=a) b0 b1 y).iff fun u v=>(Tied.snoc p u v).symm,fun us hu=>?_⟩
  rcases List.mem_or_eq_of_mem_set hu with h | h
  ·have:=z us h;omega
  ·subst h;simp;omega
 ·rintro e g
  refine exS3 e g fun Z Y tl c=>?_
  have X:=c.1
  have G:=c.2
  clear c g
  rw [aF2] at X
  row_cond go
  have a4:∀ u v:Int,Tied es u v->0<=v/\v < n:=fun u v h=>(h.in O).2
  refine ab1 (fun i e=>∃ s3 v7 v8 v9 C o,e=[some (.st (webD n es)),some (.st (.int n)),some (.st (.list (es.map prD))),some s3,Z,Y,some (.own (OL ((List.range i).map fun (u:Nat)=>PyData.list (rowD n.toNat (dsF es (u:Int)))))),v7,v8,v9,C,o]/\(s3=.own (OLL (tlD tl))\/s3=.st (.list ((tlD tl).map .list)))) ⟨_,_,_,_,_,_,rfl,.inl rfl⟩ ?_ ?_
  ·rintro i e hi g
   refine exS6 e g fun s3 v7 v8 v9 C o c=>?_
   have h3:=c
   clear c g
   refine aau ?_
   dsimp only [List.set_cons_zero,List.set_cons_succ]
   refine asp 3 h3 rfl age ?_
   dsimp only [List.set_cons_zero,List.set_cons_succ]
   row_cond go
   refine aqo rfl ?_
   row_cond go
   refine afo (fun mm e=>∃ line ds at_ C o,e=[some (.st (webD n es)),some (.st (.int n)),some (.st (.list (es.map prD))),some (.st (.list ((tlD tl).map .list))),Z,Y,some (.own (OL ((List.range i).map fun (u:Nat)=>PyData.list (rowD n.toNat (dsF es (u:Int)))))),some (.st (.int (0+(i:Int)))),some (.own (OD (rowE line ds))),some (.own (OL ((line.drop at_).map .int))),C,o]/\Gr.Bfs (Tied es) (0+(i:Int)) line ds at_/\(∀ v∈line,0<=v/\v < n)/\mm=n.toNat * n.toNat - at_) ⟨_,[0+(i:Int)],[0],0,_,_,rfl,Gr.Bfs.start _ _,fun v J=>?_,rfl⟩ ?_
   ·have:v=0+(i:Int):=by simpa using J
    omega
   rintro mm e g
   refine exS5 e g fun line ds at_ C o c=>?_
   have m:=c.1
   have W:=c.2.1
   have a7:=c.2.2
   clear c g
   subst a7
   row_cond go
   refine agc (ahw _) rfl (aov _) ?_
   cases hdr:line.drop at_ with
   | nil =>
    rw [show PyData.eqv (.list (([]:List Int).map .int)) (.list [])=true from rfl]
    repeat (first | (refine agd 8 rfl apy ?_) | row_cond st)
    dsimp only [List.set_cons_zero,List.set_cons_succ]
    have l:at_=line.length:=by have:=List.drop_eq_nil_iff.mp hdr;have:=m.le;omega
    subst l
    have a5:rowE line ds ≠ []:=by
     have:=al3 m.len
     intro e0
     rw [e0] at this
     have h0:=(az1.mp m.fst).1
     simp at this
     omega
    unfold rngD
    refine ad5 (fun u:Nat => .int (dsF es (i:Int) (u:Int))) rfl (by simp;omega) (fun u hu B' U=>?_) ?_
    ·have b4:(u:Int) < n:=by have:=aA9.mp hu;omega
     refine aqq a5 rfl ?_
     row_cond go
     refine ⟨.inl (0+(u:Int)),rfl,?_⟩
     obtain ⟨q,hw⟩:=hJ.conn (0+(i:Int)) (0+(u:Int)) (by omega) (by omega) (by omega) (by omega)
     obtain ⟨j,hj,ej⟩:=aG0.mp (m.fin q _ hw)
     have e1:line[j]?=some (0+(u:Int)):=by rw [az0 hj,ej]
     obtain ⟨dd,e2⟩:∃ dd,ds[j]?=some dd:=⟨_,az0 (by rw [m.len];exact hj)⟩
     have hd:=m.dist j _ _ e1 e2
     rw [ag3 m.len m.nd e1 e2]
     refine ⟨?_,rfl⟩
     rw [Int.zero_add,Int.zero_add] at hd
     simp only [Option.getD_some,dsF,Gr.farO_some.mpr hd]
    ·refine ⟨_,rfl,by simp;omega,?_⟩
     dsimp only [List.set_cons_zero,List.set_cons_succ]
     rw [show ((List.range i).map fun (u:Nat)=>PyData.list (rowD n.toNat (dsF es (u:Int)))) ++ [PyData.list ((List.range n.toNat).map fun (u:Nat)=>PyData.int (dsF es (i:Int) (u:Int)))]=(List.range (i+1)).map fun (u:Nat)=>PyData.list (rowD n.toNat (dsF es (u:Int))) by rw [List.range_succ,aC9];rfl]
     exact ⟨_,_,_,_,_,_,rfl,.inr rfl⟩
   | cons here rest =>
    rw [show PyData.eqv (.list ((here :: rest).map .int)) (.list [])=false from rfl]
    row_cond go
    refine ⟨_,(here :: rest).map .int,0,0,.int here,rfl,rfl,.inl rfl,by decide,by decide,by simp [seqIndex?],rfl,?_⟩
    dsimp only [List.set_cons_zero,List.set_cons_succ,reS,List.map_cons,List.eraseIdx_cons_zero]
    have l:line[at_]?=some here:=by
     have:=congrArg (·[0]?) hdr
     simpa using this
    have R:rest=line.drop (at_+1):=by
     have:=congrArg List.tail hdr
     simpa using this.symm
    have hh:=W here (az2 l)
    obtain ⟨r,y,L⟩:=X.get hh.1 hh.2
    have b5:atI ((tlD tl).map PyData.list) here=some (.list (r.map .int)):=adk (f:=PyData.list) (aed hh.1 (adw y))
    subst R
    row_cond go
    refine ach (fun j e=>∃ line ds o,e=[some (.st (webD n es)),some (.st (.int n)),some (.st (.list (es.map prD))),some (.st (.list ((tlD tl).map .list))),Z,Y,some (.own (OL ((List.range i).map fun (u:Nat)=>PyData.list (rowD n.toNat (dsF es (u:Int)))))),some (.st (.int (0+(i:Int)))),some (.own (OD (rowE line ds))),some (.own (OL ((line.drop (at_+1)).map .int))),some (.st (.int here)),o]/\Gr.Bfs (Tied es) (0+(i:Int)) line ds at_/\(∀ v∈line,0<=v/\v < n)/\line[at_]?=some here/\∀ x∈r.take j,x∈line) ⟨line,ds,_,rfl,m,W,l,fun x p=>by simp at p⟩ ?_ ?_
    ·clear m W l hdr
     rintro j there e hj g
     refine exS3 e g fun line ds o c=>?_
     have m:=c.1
     have W:=c.2.1
     have l:=c.2.2.1
     have htk:=c.2.2.2
     clear c g
     have hT:Tied es here there:=(L there).mp (az2 hj)
     have a2:r.take (j+1)=r.take j ++ [there]:=by rw [aF8,hj];rfl
     have a8:=aC0 (al4 m.nd W) (azj n1)
     have b3:=al3 m.len
     have S:at_ < line.length:=(az1.mp l).1
     obtain ⟨d,hd⟩:∃ d,ds[at_]?=some d:=⟨_,az0 (by rw [m.len];exact S)⟩
     have J:=ag3 m.len m.nd l hd
     have b6:((line.drop (at_+1)).map PyData.int).length<=999999:=by simp;omega
     have b2:(rowE line ds).length<=999999:=by omega
     row_cond go
     by_cases hm:there∈line
     ·obtain ⟨q,hq,eq⟩:=aG0.mp hm
      have e1:line[q]?=some there:=by rw [az0 hq,eq]
      obtain ⟨dd,e2⟩:∃ dd,ds[q]?=some dd:=⟨_,az0 (by rw [m.len];exact hq)⟩
      rw [ag3 m.len m.nd e1 e2]
      refine aes ?_
      row_cond go
      refine ⟨line,ds,_,rfl,m,W,l,fun x p=>?_⟩
      rw [a2] at p
      rcases az7.mp p with p | p
      ·exact htk x p
      ·have:x=there:=by simpa using p
       rw [this];exact hm
     ·rw [aq2 hm]
      refine am7 ?_
      row_cond go
      rw [show ((d:Int)+1)=((d+1:Nat):Int) by push_cast;rfl,as4 m.len hm,show (line.drop (at_+1)).map PyData.int ++ [PyData.int there]=((line ++ [there]).drop (at_+1)).map .int by rw [List.drop_append_of_le_length (by omega),aC9];rfl]
      refine ⟨line ++ [there],ds ++ [d+1],_,rfl,m.add l hd hT hm,fun v J=>?_,by rw [aB3 S];exact l,fun x p=>?_⟩
      ·rcases az7.mp J with J | J
       ·exact W v J
       ·have:v=there:=by simpa using J
        rw [this];exact a4 here there hT
      ·rw [a2] at p
       rcases az7.mp p with p | p
       ·exact az7.mpr (.inl (htk x p))
       ·exact az7.mpr (.inr p)
    ·rintro e g
     refine exS3 e g fun I a9 o c=>?_
     have U:=c.1
     have a3:=c.2.1
     have M:=c.2.2.1
     have htk:=c.2.2.2
     clear c g
     rw [aF2] at htk
     have S:at_ < I.length:=(az1.mp M).1
     have a8:=al4 U.nd a3
     exact ⟨n.toNat * n.toNat - (at_+1),by omega,I,a9,at_+1,_,_,rfl,U.next M fun x p=>htk x ((L x).mpr p),a3,rfl⟩
  ·rintro e g
   refine exS6 e g fun s3 v7 v8 v9 C o c=>?_
   have h3:=c
   clear c g
   row_cond go
   exact k
end
theorem aex (ns:List Int):aar (.list (ns.map .int))=true:=(aeh _).mpr fun d hd=>by
 obtain ⟨x,_,rfl⟩:=aA7.mp hd
 rfl
theorem al6 (ns:List Int):(PyData.list (ns.map PyData.int)).depth<=60:=by
 have h:PyData.depthAll (ns.map PyData.int)<=1:=ada fun d hd=>by
  obtain ⟨x,_,rfl⟩:=aA7.mp hd
  simp [PyData.depth]
 simp only [PyData.depth]
 omega
theorem awa {xs ys:List Int} (h:xs.map PyData.int=ys.map PyData.int):xs=ys:=(List.map_inj_right fun a b e=>by cases e;rfl).mp h
theorem as6 (xs ys:List Int):PyData.eqv (.list (xs.map .int)) (.list (ys.map .int))=decide (xs=ys):=by
 have h:=afm _ _ (aex xs) (aex ys)
 by_cases e:xs=ys
 ·subst e;rw [aC6 rfl];exact h.mpr rfl
 ·rw [aC5 e]
  cases q:PyData.eqv (.list (xs.map .int)) (.list (ys.map .int)) with
  | false=>rfl
  | true=>exact absurd (awa (by have:=h.mp q;simpa using this)) e
theorem ai8:∀ {xs ys:List Int},xs.Pairwise (· < ·)->ys.Pairwise (· < ·)->(∀ x,x∈xs ↔ x∈ys)->xs=ys
 | [],[],_,_,_=>rfl
 | [],y :: ys,_,_,h=>absurd ((h y).mpr aA8) aG7
 | x :: xs,[],_,_,h=>absurd ((h x).mp aA8) aG7
 | x :: xs,y :: ys,hx,hy,h=>by
  obtain ⟨b,d⟩:=aG9.mp hx
  obtain ⟨a,c⟩:=aG9.mp hy
  have e:x=y:=by
   rcases az9.mp ((h x).mp aA8) with z | z
   ·exact z
   ·rcases az9.mp ((h y).mpr aA8) with w | w
    ·exact w.symm
    ·have:=a x z
     have:=b y w
     omega
  subst e
  refine congrArg _ (ai8 d c fun z=>?_)
  constructor
  ·intro hz
   rcases az9.mp ((h z).mp (aA5 _ hz)) with w | w
   ·have:=b z hz;omega
   ·exact w
  ·intro hz
   rcases az9.mp ((h z).mpr (aA5 _ hz)) with w | w
   ·have:=a z hz;omega
   ·exact w
theorem awb {ps:List Int} (h:ps ≠ []):atI (ps.map PyData.int) (-1)=some (.int (ps.getLast h)):=by
 have b:0 < ps.length:=aE3.mpr h
 unfold atI
 rw [az3]
 have a:ixN ps.length (-1)=some (ps.length - 1):=by unfold ixN;rw [aE0 (by omega),aD9 (by omega)];congr 1;omega
 rw [a]
 show (ps.map PyData.int)[ps.length - 1]?=_
 rw [az5,az0 (by omega),List.getLast_eq_getElem]
 rfl
def as7:VP:=fun ss Q=>∃ (n:Int) (es:List (Int × Int)) (k r:Int) (ps:List Int),ss=[.st (webD n es),.st (.list (matD n.toNat (dsF es))),.st (.int k),.st (.tuple [.int r,plD ps])]/\1<=n/\n<=100/\0<=k/\k<=1000000000000000000000000000000/\-1000000000000000000000000000000<=r/\r<=1000000000000000000000000000000/\ps.length < 64/\∀ b:Bool,(b=true ↔ ShowOk n es k r ps)->Q (.st (.bool b))
section
variable {P:Program} {w:World} {K:Frag} {mg:Str->Option Value} {base:Heap}
theorem sc_law_shows:FnScope ["web","rows","k","paper","r","places","a","b"] ["web","rows","k","paper"] (aan s_law_shows):=by row_cond sc
theorem ajw (T:Txt K mg):Can P w K mg base "_law_shows" 1 ["web","rows","k","paper"] (spP K (as7)):=by
 obtain ⟨f,fd,D⟩:=T.d_law_shows
 refine D.can (D.fn.ok sc_law_shows (fun vs H Q E h=>lenP h fun ss Q' q=>by obtain ⟨n,es,k,r,ps,rfl,n0,n1,k0,k1,r0,r1,v,W⟩:=q;rfl) (fun cdv A outer s H vs Q E hr h=>?_))
 have nd:=sc_law_shows.nd
 refine ⟨_,(aad (adx (pv 3) (acs rfl (aa2 (aaj (i:=4) nd rfl (Or.inl rfl)) (aa2 (aaj (i:=5) nd rfl (Or.inl rfl)) acb))))
  (aad (abo (PW.pt (adm (aax ab7 (pv 4) aab (aaw _)) (adm (aax ab7 (aam aa7 (by rfl) T.b_len abu (aaa (pv 5) aac)) (aae aaq (aae abq aab (pv 2)) aab) (aaw _)) (ade (aax (ahe hr.units) (pv 5) (aam (afu rfl) (by rfl) T.b_sorted acq (aaa (adf (ai5 rfl) (by rfl) T.b_set apr (aaa (pv 5) aac)) aac)) (aaw _))))))
   (aaf (aa0 ab6))
   aa5)
  (aad (abo (PW.pt (adm (aax ab7 (aao aap (pv 5) aab (fun _ _=>rfl)) aab (aaw _)) (ade (aax aj0 (aao aap (pv 5) (ag5 aff aab) (fun _ _=>rfl)) (aao aap (pv 0) aab (fun _ _=>rfl)) (aaw _)))))
   (aaf (aa0 ab6))
   aa5)
  (aad (abf aH8 rfl (abk (pv 5)) (aaj (i:=6) nd rfl (Or.inl rfl))
   (aaf (abf aH8 rfl (abk (pv 5)) (aaj (i:=7) nd rfl (Or.inl rfl))
     (aaf (abo (PW.pt (ag4 (aax ab7 (pv 6) (pv 7) (aaw _)) (afz (aax ab7 (aao aap (aao aap (pv 1) (pv 6) (fun _ _=>rfl)) (pv 7) (fun _ _=>rfl)) (aae aaq (aae abq aab (pv 4)) aab) (aaw _)))))
       (aaf (aa0 ab6))
       aa5)))))
  (aaf (aa0 ab6)))))),?_⟩
 refine abd h fun ss Q' q B O=>?_
 refine exS5 ss q fun n es k r ps b=>?_
 have n0:=b.1
 have n1:=b.2.1
 have k0:=b.2.2.1
 have k1:=b.2.2.2.1
 have r0:=b.2.2.2.2.1
 have r1:=b.2.2.2.2.2.1
 have v:=b.2.2.2.2.2.2.1
 have W:=b.2.2.2.2.2.2.2
 clear b q
 show EvS B _ _ [some (.st (webD n es)),some (.st (.list (matD n.toNat (dsF es)))),some (.st (.int k)),some (.st (.tuple [.int r,plD ps])),none,none,none,none]
 have M:¬ ShowOk n es k r ps->Q' (.st (.bool false)):=fun h=>W false ⟨fun e=>(by cases e),fun e=>absurd e h⟩
 row_cond go
 refine aba (fun h1=>?_) (fun h1=>?_)
 ·row_cond go
  exact M fun h=>by have:=h.r0;omega
 ·row_cond go
  rw [az3]
  refine aba (fun h2=>?_) (fun h2=>?_)
  ·row_cond go
   exact M fun h=>by have:=h.len;omega
  ·repeat (first | (refine abr (agn ?_)) | row_cond st)
   refine ⟨ps,rfl,v,fun ms S R=>ack ?_⟩
   row_cond go
   refine agc (aex ps) (aex ms) (al6 ps) ?_
   rw [as6]
   by_cases hpm:ps=ms
   ·rw [aC6 hpm]
    have o:ps.Pairwise (· < ·):=hpm ▸ S
    have p:ps ≠ []:=fun z=>by rw [z] at h2;simp at h2;omega
    have a1:0 < ps.length:=aE3.mpr p
    obtain ⟨p0,I⟩:∃ p0,ps[0]?=some p0:=⟨_,az0 a1⟩
    have a0:atI (ps.map PyData.int) 0=some (.int p0):=adk (f:=PyData.int) (aed (by omega) I)
    have al:=awb p
    (generalize hpl:ps.getLast p=pl at al)
    have Z:∀ x∈ps,p0<=x:=fun x L=>by
     cases ps with
     | nil=>exact absurd rfl p
     | cons y ys =>
      have:y=p0:=by simpa using I
      subst this
      rcases az9.mp L with z | z
      ·omega
      ·have:=(aG9.mp o).1 x z;omega
    have a3:∀ x∈ps,x<=pl:=fun x L=>by
     obtain ⟨i,hi,rfl⟩:=aG0.mp L
     rw [← hpl,List.getLast_eq_getElem]
     by_cases e:i=ps.length - 1
     ·subst e;exact Int.le_refl _
     ·have:=aF1.mp o i (ps.length - 1) hi (by omega) (by omega);omega
    have U:p0∈ps:=az2 I
    have a4:pl∈ps:=hpl ▸ List.getLast_mem p
    row_cond go
    refine aba (fun h3=>?_) (fun h3=>?_)
    ·row_cond go
     exact M fun h=>by have:=h.inn p0 U;omega
    ·row_cond go
     refine aba (fun h4=>?_) (fun h4=>?_)
     ·row_cond go
      exact M fun h=>by have:=h.inn pl a4;omega
     ·have u:∀ x∈ps,0<=x/\x < n:=fun x L=>by have:=Z x L;have:=a3 x L;omega
      row_cond go
      refine ach (fun i e=>∃ X F,e=[some (.st (webD n es)),some (.st (.list (matD n.toNat (dsF es)))),some (.st (.int k)),some (.st (.tuple [.int r,plD ps])),some (.st (.int r)),some (.st (plD ps)),X,F]/\∀ j a,j < i->ps[j]?=some a->∀ c∈ps,a < c->dsF es a c ≥ 2 * r+1) ⟨_,_,rfl,fun j a hj=>by omega⟩ ?_ ?_
      ·rintro i a e ha g
       refine exS2 e g fun X F b=>?_
       have Y:=b
       clear b g
       have a5:=u a (az2 ha)
       row_cond go
       refine ach (fun j e=>∃ F,e=[some (.st (webD n es)),some (.st (.list (matD n.toNat (dsF es)))),some (.st (.int k)),some (.st (.tuple [.int r,plD ps])),some (.st (.int r)),some (.st (plD ps)),some (.st (.int a)),F]/\∀ l c,l < j->ps[l]?=some c->a < c->dsF es a c ≥ 2 * r+1) ⟨_,rfl,fun l c v=>by omega⟩ ?_ ?_
       ·rintro j c e C g
        refine exS1 e g fun F b=>?_
        have O:=b
        clear b g
        have a6:=u c (az2 C)
        have q1:=ahs (n:=n.toNat) (m:=dsF es) (x:=a) (by omega) (by omega)
        have q2:=alx (n:=n.toNat) (r:=dsF es a) (x:=c) (by omega) (by omega)
        row_cond go
        refine aba (fun h5=>?_) (fun h5=>?_)
        ·row_cond go
         refine aba (fun h6=>?_) (fun h6=>?_)
         ·row_cond go
          exact M fun h=>by have:=h.far a (az2 ha) c (az2 C) h5;omega
         ·row_cond go
          refine ⟨_,rfl,fun l d v hd G=>?_⟩
          by_cases e:l=j
          ·subst e;rw [C] at hd;cases hd;omega
          ·exact O l d (by omega) hd G
        ·row_cond go
         refine ⟨_,rfl,fun l d v hd G=>?_⟩
         by_cases e:l=j
         ·subst e;rw [C] at hd;cases hd;omega
         ·exact O l d (by omega) hd G
       ·rintro e g
        refine exS1 e g fun F b=>?_
        have O:=b
        clear b g
        refine ⟨_,_,rfl,fun j d hj hd c C N=>?_⟩
        by_cases e:j=i
        ·subst e;rw [ha] at hd;cases hd
         obtain ⟨l,v,J⟩:=aG0.mp C
         exact O l c v (by rw [az0 v,J]) N
        ·exact Y j d (by omega) hd c C N
      ·rintro e g
       refine exS2 e g fun X F b=>?_
       have Y:=b
       clear b g
       row_cond go
       refine W true ⟨fun _=>⟨k0,by omega,by omega,u,o,fun a ha c C a2=>?_⟩,fun _=>rfl⟩
       obtain ⟨l,v,J⟩:=aG0.mp ha
       exact Y l a v (by rw [az0 v,J]) c C a2
   ·rw [aC5 hpm]
    row_cond go
    exact M fun h=>hpm (ai8 h.rise S fun x=>(R x).symm)
end
def as8:VP:=fun ss Q=>∃ (n far begin:Int) (m:Int->Int->Int),ss=[.st (.list (matD n.toNat m)),.st (.int far),.st (.int begin)]/\1<=n/\n<=60/\∀ ps:List Int,ps.length<=60->Q (.own (OL (ps.map .int)))
def ayj:VP:=fun ss Q=>∃ (n r x:Int) (ps:List Int),ss=[.st (.tuple [.int r,plD ps]),.st (.int x),.st (.int n)]/\1<=n/\n<=60/\0<=x/\x < 10007/\0<=r/\r<=1000/\ps.length<=60/\∀ (r':Int) (qs:List Int),-1000000<=r'->r'<=10000000000000000000000000->qs.length<=61->Q (.st (.tuple [.int r',plD qs]))
theorem as9 (xs:List Int):∃ ys:List Int,cutD (xs.map PyData.int) (some (-1)) none=ys.map .int/\ys.length<=1:=by
 have h:=HT.clip_eq (-1) xs.length 0
 rw [aD9 (by decide)] at h
 refine ⟨(xs.drop (HT.sIx xs.length 0 (some (-1)))).take (xs.length - HT.sIx xs.length 0 (some (-1))),?_,by rw [aF4,List.length_drop];omega⟩
 unfold cutD
 rw [az3,HT.sIx_none,← List.map_drop,← List.map_take]
theorem awc (xs:List Int) {p:Int} (a:0<=p):∃ as bs:List Int,cutD (xs.map PyData.int) none (some p)=as.map .int/\cutD (xs.map PyData.int) (some (p+1)) none=bs.map .int/\as.length+bs.length<=xs.length:=by
 obtain ⟨k,rfl⟩:=Int.eq_ofNat_of_zero_le a
 refine ⟨(xs.drop 0).take (min k xs.length - 0),(xs.drop (min (k+1) xs.length)).take (xs.length - min (k+1) xs.length),?_,?_,by simp;omega⟩
 ·unfold cutD
  rw [az3,HT.sIx_none,HT.sIx_nat,← List.map_drop,← List.map_take]
 ·unfold cutD
  rw [az3,HT.sIx_none,show ((k:Int)+1)=((k+1:Nat):Int) from rfl,HT.sIx_nat,← List.map_drop,← List.map_take]
section
variable {P:Program} {w:World} {K:Frag} {mg:Str->Option Value} {base:Heap}
theorem sc_law_apart:FnScope ["rows","far","begin","found","k","place"] ["rows","far","begin"] (aan s_law_apart):=by row_cond sc
theorem ajx (T:Txt K mg):Can P w K mg base "_law_apart" 1 ["rows","far","begin"] (spP K (as8)):=by
 obtain ⟨f,fd,D⟩:=T.d_law_apart
 refine D.can (D.fn.ok sc_law_apart (fun vs H Q E h=>lenP h fun ss I q=>by obtain ⟨n,far,begin,m,rfl,O,W,u⟩:=q;rfl) (fun cdv A outer s H vs Q E R h=>?_))
 have nd:=sc_law_apart.nd
 refine ⟨_,(aad (aai (i:=3) nd rfl (Or.inl rfl) (aa3 aac))
  (aad (abf aH8 rfl (abb rfl T.b_range (aaa (aam aa7 (by rfl) T.b_len abu (aaa (pv 0) aac)) aac)) (aaj (i:=4) nd rfl (Or.inl rfl))
   (aad (aai (i:=5) nd rfl (Or.inr rfl) (aae aas (aae aaq (pv 2) (pv 4)) (aam aa7 (by rfl) T.b_len abu (aaa (pv 0) aac))))
    (aaf (abo (aax (aw3 R.units) (ae0 rfl (N:=["other","far","rows","place"]) (src:=[none,some 1,some 0,some 5]) (by exact abw rfl rfl rfl rfl rfl rfl) (abk (pv 3)) (fun _ _ _ _=>(aaj (i:=0) (show List.Nodup (["other","far","rows","place"]:List Str) by decide +kernel) rfl (Or.inl rfl) (hf:=Or.inr rfl))) (fun _ _ _ _=>amv (aax ab7 (aao (show IxR _ (ab8 K) from aap) (aao (show IxR _ (ab8 K) from aap) (pv 2) (pv 3) (fun _ _=>rfl)) (pv 0) (fun _ _=>rfl)) (pv 1) (aaw _))) (fun _ _ _ _=>(pv 0))) (aa3 aac) (aaw _))
     (aaf (abj (ab2 PySem.F.plainAttrs_list PySem.F.slot_list_append PySem.F.type_list_append aa6 (pv 3) (aaa (pv 5) aac))))
     aa5))))
  (aaf (aa0 (aam ae3 (by rfl) T.b_sorted acq (aaa (pv 3) aac)))))),?_⟩
 refine abd h fun ss I q B hK=>?_
 refine exS4 ss q fun n far begin m b=>?_
 have O:=b.1
 have W:=b.2.1
 have u:=b.2.2
 clear b q
 show EvS B _ _ [some (.st (.list (matD n.toNat m))),some (.st (.int far)),some (.st (.int begin)),none,none,none]
 row_cond go
 rw [aij]
 row_cond go
 refine ab1 (fun i e=>∃ a l j,e=[some (.st (.list (matD n.toNat m))),some (.st (.int far)),some (.st (.int begin)),some (.own (OL (a.map .int))),l,j]/\a.length<=i/\∀ x∈a,0<=x/\x < n) ⟨[],none,none,rfl,az6 _,fun x h=>absurd h aG7⟩ ?_ ?_
 ·rintro i e hi c
  refine exS3 e c fun a l j b=>?_
  have g:=b.1
  have d:=b.2
  clear b c
  have Y:i < 60:=by omega
  have p:=aD1 (begin+(0+(i:Int))) (show ((n.toNat:Nat):Int) ≠ 0 by omega)
  have C:=aD2 (begin+(0+(i:Int))) (show 0 < ((n.toNat:Nat):Int) by omega)
  have U:(0:Int) < ((n.toNat:Nat):Int):=by omega
  row_cond go
  rw [aij]
  repeat (first | (refine agw (aqy (i:=3) (.inl rfl) adi fun L J=>?_)) | row_cond st)
  (generalize v:(begin+(0+(i:Int))) % ((n.toNat:Nat):Int)=place at p C)
  refine aqx (xs:=a) (f:=PyData.int) PyData.int (fun o=>decide (m place o < far)) rfl (by omega) (fun o S L J=>?_) ?_
  ·have G:=d o S
   have q2:=ahs (n:=n.toNat) (m:=m) (x:=place) (by omega) (by omega)
   have Z:=alx (n:=n.toNat) (r:=m place) (x:=o) (by omega) (by omega)
   row_cond go
   intro _
   row_cond go
   exact rfl
  ·row_cond go
   refine au5 (aex _) rfl (al6 _) ?_
   generalize (a.filter fun o=>decide (m place o < far))=ys
   cases ys with
   | nil =>
    rw [show PyData.eqv (.list (List.map PyData.int [])) (.list [])=true from rfl]
    row_cond go
    refine ⟨a ++ [place],_,_,by rw [aC9];rfl,by simp;omega,fun x X=>?_⟩
    rcases az7.mp X with z | z
    ·exact d x z
    ·cases aB2.mp z
     exact ⟨p,by omega⟩
   | cons y ys =>
    rw [show PyData.eqv (.list (List.map PyData.int (y :: ys))) (.list [])=false from rfl]
    row_cond go
    exact ⟨a,_,_,rfl,by omega,d⟩
 ·rintro e c
  refine exS3 e c fun a l j b=>?_
  have g:=b.1
  have d:=b.2
  clear b c
  repeat (first | (refine afr ?_) | row_cond st)
  exact ⟨a,rfl,by omega,fun M v _=>u M (by rw [v.length_eq];omega)⟩
theorem sc_law_bent:FnScope ["paper","x","n","r","places","at","other","instead","rows","some"] ["paper","x","n"] (aan s_law_bent):=by row_cond sc
theorem al7 (T:Txt K mg):Can P w K mg base "_law_bent" 1 ["paper","x","n"] (spP K (ayj)):=by
 obtain ⟨f,fd,D⟩:=T.d_law_bent
 refine D.can (D.fn.ok sc_law_bent (fun vs H Q E h=>lenP h fun ss G q=>by obtain ⟨n,r,x,ps,rfl,O,Y,U,X,r0,W,hl,I⟩:=q;rfl) (fun cdv A outer s H vs Q E hr h=>?_))
 have nd:=sc_law_bent.nd
 refine ⟨_,(aad (adx (pv 0) (acs rfl (aa2 (aaj (i:=3) nd rfl (Or.inr rfl)) (aa2 (aaj (i:=4) nd rfl (Or.inr rfl)) acb))))
  (aad (aai (i:=5) nd rfl (Or.inl rfl) (aae aas (pv 1) (aae aaq (aam aa7 (by rfl) T.b_len abu (aaa (pv 4) aac)) aab)))
  (aad (aai (i:=6) nd rfl (Or.inl rfl) (aao aap (aa3 (aaa (pv 2) (aaa (ag5 aff aab) (aaa (aae aaq (pv 2) aab) (aaa (aae abi (ag5 aff aab) (aae aas (pv 1) (pv 2))) (aaa (aeq (n:=100000000000000000000) (by decide) (by refine ⟨by decide,by decide,by decide⟩)) (aaa (aae abi aab (aeq (n:=100000000000000000000) (by decide) (by refine ⟨by decide,by decide,by decide⟩))) aac))))))) (aae aas (aae aa8 (pv 1) aab) aab) (fun _ _=>rfl)))
  (aad (abo (aax ajy (aae aas (pv 1) aab) aab (aaw _))
   (aaf (aai (i:=6) nd rfl (Or.inl rfl) (aae aas (aae aa8 (pv 1) aab) (pv 2))))
   aa5)
  (aad (aai (i:=7) nd rfl (Or.inl rfl) (aae adz (aae adz (acw adr (pv 4) adq (acv (pv 5))) (aa3 (aaa (pv 6) aac))) (acw adr (pv 4) (acv (aae aaq (pv 5) aab)) adq)))
  (aad (aai (i:=8) nd rfl (Or.inl rfl) (aa3 (aaa (aae adz (acw adr (pv 4) adq (acv (pv 5))) (acw adr (pv 4) (acv (aae aaq (pv 5) aab)) adq)) (aaa (aam ae3 (by rfl) T.b_sorted acq (aaa (aae adz (pv 4) (aa3 (aaa (pv 6) aac))) aac)) aac))))
  (aad (aai (i:=8) nd rfl (Or.inl rfl) (aae adz (pv 8) (aa3 (aaa (pv 7) (aaa (aam (afu rfl) (by rfl) T.b_sorted acq (aaa (adf (ai5 rfl) (by rfl) T.b_set apr (aaa (pv 7) aac)) aac)) (aaa (aae adz (pv 4) (acw adr (pv 4) (acv (ag5 aff aab)) adq)) (aaa (ax7 (pv 4) (acv (ag5 aff aab))) (aaa (aa3 aac) aac))))))))
  (aad (ae1 (i:=9) nd rfl (Or.inl rfl) rfl (N:=["row","r"]) (src:=[none,some 3]) (by exact abw rfl rfl rfl rfl rfl rfl) (abk (pv 8)) (fun _ _ _ _=>(aaj (i:=0) (show List.Nodup (["row","r"]:List Str) by decide +kernel) rfl (Or.inl rfl) (hf:=Or.inr rfl))) (fun _ _ _ _=>ab4) (fun _ _ _ _=>(ace (aaa (pv 1) (aaa (pv 0) aac)))))
  (aad (aai (i:=9) nd rfl (Or.inl rfl) (aae adz (pv 9) (ae0 rfl (N:=["one","places"]) (src:=[none,some 4]) (by exact abw rfl rfl rfl rfl rfl rfl) (abk (aa3 (aaa (aae aaq (pv 3) aab) (aaa (aae abi (pv 3) aab) (aaa (aae abi (aae abi aab aab) (pv 3)) (aaa aab (aaa (aeq (n:=10000000000000000000000000) (by decide) (by refine ⟨by decide,by decide,by decide⟩)) aac))))))) (fun _ _ _ _=>(aaj (i:=0) (show List.Nodup (["one","places"]:List Str) by decide +kernel) rfl (Or.inl rfl) (hf:=Or.inr rfl))) (fun _ _ _ _=>ab4) (fun _ _ _ _=>(ace (aaa (pv 0) (aaa (pv 1) aac)))))))
  (aaf (aa0 (aao aap (pv 9) (aae aas (aae aa8 (pv 1) aab) aab) (fun _ _=>rfl))))))))))))),?_⟩
 refine abd h fun ss G q B hK=>?_
 refine exS4 ss q fun n r x ps c=>?_
 have O:=c.1
 have Y:=c.2.1
 have U:=c.2.2.1
 have X:=c.2.2.2.1
 have r0:=c.2.2.2.2.1
 have W:=c.2.2.2.2.2.1
 have hl:=c.2.2.2.2.2.2.1
 have I:=c.2.2.2.2.2.2.2
 clear c q
 show EvS B _ _ [some (.st (.tuple [.int r,plD ps])),some (.st (.int x)),some (.st (.int n)),none,none,none,none,none,none,none]
 have y0:=aD1 x (show n ≠ 0 by omega)
 have y1:=aD2 x (show 0 < n by omega)
 obtain ⟨o,ho⟩:∃ o,atI [PyData.int n,.int (-1),.int (n+3),.int (-2 - x % n),.int 100000000000000000000,.int (0 - 100000000000000000000)] (x / 64 % 6)=some (.int o):=by
  rcases (show x / 64 % 6=0\/x / 64 % 6=1\/x / 64 % 6=2\/x / 64 % 6=3\/x / 64 % 6=4\/x / 64 % 6=5 by omega) with h | h | h | h | h | h <;> rw [h] <;> exact ⟨_,rfl⟩
 row_cond go
 rw [az3]
 (generalize hp:x % ((ps.length:Int)+1)=p)
 obtain ⟨as,bs,has,g,a0⟩:=awc ps (show 0<=p by rw [← hp];exact aD1 _ (by omega))
 obtain ⟨cs,v,a2⟩:=as9 ps
 rename_i c_ hc_
 refine' cutR (R:=∀ o:Int,EvS B c_ { nx:=fun x=>G (.st .none),rt:=fun s x=>G s } [some (.st (.tuple [.int r,plD ps])),some (.st (.int x)),some (.st (.int n)),some (.st (.int r)),some (.st (plD ps)),some (.st (.int p)),some (.st (.int o)),none,none,none]) (fun R=>?K1) ?K2
 case K1 =>
  refine aba (fun h=>?_) (fun h=>?_) <;> repeat (first | exact R _ | row_cond st)
 case K2 =>
  intro o
  row_cond go
  rw [has]
  row_cond go
  rw [g]
  row_cond go
  rw [has,g]
  repeat (first | (refine afr ?_) | row_cond st)
  refine ⟨ps ++ [o],by rw [aC9];rfl,by simp;omega,fun y F _=>ack ?_⟩
  have l:=F.length_eq
  repeat (first | (refine abr (agn ?_)) | row_cond st)
  refine ⟨as ++ [o] ++ bs,by simp,by simp;omega,fun m C z=>ack ?_⟩
  have a1:m.length<=61:=by
   have:=List.Nodup.length_le_of_subset (C.imp fun {a b} a3 e=>by omega) fun x Z=>(z x).mp Z
   simp at this
   omega
  row_cond go
  rw [v]
  repeat (first | (refine abr (anl ?_)) | row_cond st)
  rw [show [PyData.list (List.map PyData.int as ++ List.map PyData.int bs),PyData.list (List.map PyData.int y)] ++ [PyData.list (List.map PyData.int as ++ [PyData.int o] ++ List.map PyData.int bs),PyData.list (List.map PyData.int m),PyData.list (List.map PyData.int ps ++ List.map PyData.int cs),PyData.list (List.map PyData.int ps).reverse,PyData.list []]=[as ++ bs,y,as ++ [o] ++ bs,m,ps ++ cs,ps.reverse,[]].map plD by simp [plD]]
  refine ad5 (fun u:List Int => .tuple [.int r,plD u]) rfl (by simp) (fun u hu M hB=>?_) ?_
  ·row_cond go
   exact rfl
  row_cond go
  refine ad5 (xs:=[r+1,r - 1,0 - 1 - r,0,10000000000000000000000000]) (f:=PyData.int) (fun u:Int => .tuple [.int u,plD ps]) rfl (by simp) (fun u hu M hB=>?_) ?_
  ·row_cond go
   exact rfl
  rw [aA1] at l
  obtain ⟨j,d,J,S,L,g3⟩:∃ (j:Int) (d:List Int),atI (([as ++ bs,y,as ++ [o] ++ bs,m,ps ++ cs,ps.reverse,[]].map fun u=>PyData.tuple [PyData.int r,plD u]) ++ ([r+1,r - 1,0 - 1 - r,0,10000000000000000000000000].map fun u=>PyData.tuple [PyData.int u,plD ps])) (x / 512 % 12)=some (.tuple [.int j,plD d])/\-1000000<=j/\j<=10000000000000000000000000/\d.length<=61:=by
   rcases (show x / 512 % 12=0\/x / 512 % 12=1\/x / 512 % 12=2\/x / 512 % 12=3\/x / 512 % 12=4\/x / 512 % 12=5\/x / 512 % 12=6\/x / 512 % 12=7\/x / 512 % 12=8\/x / 512 % 12=9\/x / 512 % 12=10\/x / 512 % 12=11 by omega) with h | h | h | h | h | h | h | h | h | h | h | h <;> rw [h] <;> refine ⟨_,_,rfl,?_,?_,?_⟩ <;> first | omega | (simp;done) | (simp;omega) | (simp at l;omega)
  row_cond go
  exact I j d S L g3
end
def aow (K:Frag):Sp:=fun vs H Q _=>∃ (a:Addr) (ns:List Int),vs=[.ref a]/\SqL K H a (ns.map V.int)/\ns.length<=63/\∀ H',Q (.bl true) H'
def atu:VP:=fun ss Q=>∃ ns:List Int,ss=[.scr ns]/\ns.length<=63/\Q (.st (.bool true))
theorem ata {K:Frag} {vs:List V} {H:Hp} {Q:VK} {E:XK} (h:aow K vs H Q E):spP K atu vs H Q E:=by
 obtain ⟨a,ns,rfl,b,c,k⟩:=h
 refine ⟨H,[.scr ns],fun s=>s=.st (.bool true),Same.refl _,fun a d h=>h,.cons ⟨a,rfl,b⟩ .nil,⟨ns,rfl,c,rfl⟩,fun s e v G' H' Fv o=>?_⟩
 subst e
 have r:=o.ok.1
 cases r
 exact k _
theorem webP (n:Int) (es:List (Int × Int)):aar (webD n es)=true:=by
 have:=aoo es
 simp only [webD,aar,plainDs,this,Bool.and_self]
theorem azk (n:Int) (es:List (Int × Int)):(webD n es).depth<=60:=by
 have h:PyData.depthAll (es.map prD)<=1:=ada fun d hd=>by
  obtain ⟨p,_,rfl⟩:=aA7.mp hd
  exact aql p
 simp only [webD,PyData.depth,PyData.depthAll]
 omega
theorem atb {ns:List Int} {k:Int} (h:k∈ns):∃ j:Nat,ns[j]?=some k/\∀ m:Nat,m < j->ns[m]? ≠ some k:=by
 induction ns with
 | nil=>simp at h
 | cons n ns ih =>
  by_cases e:n=k
  ·exact ⟨0,by rw [e];rfl,fun m hm=>by omega⟩
  ·obtain ⟨j,a,b⟩:=ih ((az9.mp h).resolve_left fun z=>e z.symm)
   refine ⟨j+1,a,fun m hm=>?_⟩
   cases m with
   | zero=>simpa using e
   | succ m=>exact b m (by omega)
def optD:Option Int->PyData
 | none => .none
 | some x => .int x
theorem azl {n u v:Int} {es:List (Int × Int)} (a:InN n es) (b:Joined n es) (f:0<=u) (h:u < n) (g:0<=v) (c:v < n):0<=dsF es u v/\dsF es u v < n:=by
 obtain ⟨d,e⟩:=aht b f h g c
 have:=(Gr.farO_some.mp e).lt (n:=n.toNat) (fun x y t=>by have:=(t.in a).2;omega) (by omega)
 simp only [dsF,e,Option.getD_some]
 omega
section
variable {P:Program} {w:World} {K:Frag} {mg:Str->Option Value} {base:Heap}
theorem sc_law:FnScope ["script","d","turn","web","handed","rows","k","r","begin","paper","x","one","many","given","found"] ["script"] (aan s_law):=by row_cond sc
theorem awd (T:Txt K mg) {f:Addr} {fd:FuncData} (D:DefAt K mg "law" s_law ["script"] f fd):FnOk P w K mg base CX0 12 f fd ["script"] (spP K (atu)):=by
 refine D.fn.ok sc_law (fun vs H Q E h=>lenP h fun ss Q' q=>by obtain ⟨ns,rfl,W,kk⟩:=q;rfl) (fun cdv A outer s H vs Q E C h=>?_)
 have nd:=sc_law.nd
 refine ⟨_,(aad (aai (i:=1) nd rfl (Or.inl rfl) (aav (ajv T) C (aaa (pv 0) (aaa aab aac))))
  (aad (abf aH8 rfl (abb rfl T.b_range (aaa aab aac)) (aaj (i:=2) nd rfl (Or.inl rfl))
   (aad (aai (i:=3) nd rfl (Or.inl rfl) (aav (amo T) C (aaa (pv 1) (aaa (aae abq aab (pv 2)) (aaa (aao aap (aa3 (aaa aab (aaa aab aac))) (aae aas (aao aap (pv 1) (aae aaq aab (pv 2)) (fun _ _=>rfl)) aab) (fun _ _=>rfl)) aac)))))
    (aad (aai (i:=4) nd rfl (Or.inl rfl) (aav (al2 T) C (aaa (pv 3) aac)))
    (aad (aai (i:=5) nd rfl (Or.inl rfl) (aav (al5 T) C (aaa (pv 3) aac)))
    (aaf (abf aH8 rfl (abb rfl T.b_range (aaa aab aac)) (aaj (i:=6) nd rfl (Or.inl rfl))
     (aad (aai (i:=7) nd rfl (Or.inl rfl) (aae aas (aao aap (pv 1) (aae aaq aab (pv 6)) (fun _ _=>rfl)) aab))
      (aad (aai (i:=8) nd rfl (Or.inl rfl) (aae aas (aao aap (pv 1) (aae aaq aab (pv 6)) (fun _ _=>rfl)) (aao aap (pv 3) aab (fun _ _=>rfl))))
      (aad (abo (aax ajy (aae aas (aae aa8 (aao aap (pv 1) (aae aaq aab (pv 6)) (fun _ _=>rfl)) aab) aab) aab (aaw _))
       (aad (aai (i:=7) nd rfl (Or.inl rfl) (aam (adn rfl) (by rfl) T.b_max aep (aaa aab (aaa (aae abi (aae aaq (aae aa8 (aae abi (aam (aiw rfl) (by rfl) T.b_max aep (aaa (aao aap (pv 5) (pv 8) (fun _ _=>rfl)) aac)) aab) aab) (aae aas (aae aa8 (aao aap (pv 1) (aae aaq aab (pv 6)) (fun _ _=>rfl)) aab) aab)) aab) aac))))
        (aaf (aai (i:=8) nd rfl (Or.inl rfl) (ab2 PySem.F.plainAttrs_list PySem.F.slot_list_index PySem.F.type_list_index asr (aao aap (pv 5) (pv 8) (fun _ _=>rfl)) (aaa (aam (aiw rfl) (by rfl) T.b_max aep (aaa (aao aap (pv 5) (pv 8) (fun _ _=>rfl)) aac)) aac)))))
       aa5)
      (aad (aai (i:=9) nd rfl (Or.inl rfl) (ace (aaa (pv 7) (aaa (aav (ajx T) C (aaa (pv 5) (aaa (aae abi (aae aaq (aae abq aab (pv 7)) aab) (aae aas (aao aap (pv 1) (aae aaq aab (pv 6)) (fun _ _=>rfl)) aab)) (aaa (pv 8) aac)))) aac))))
      (aaf (abf aH8 rfl (abk (aa3 (by (refine' aaa (hs:=?C3) ?A3 ?B3;(case C3=>exact rfl);(case A3=>exact afd);(case B3=>refine' aaa (hs:=?C2) ?A2 ?B2;(case C2=>exact rfl);(case A2=>exact (aao aap (pv 1) (aae aaq aab (pv 6)) (fun _ _=>rfl)));(case B2=>refine' aaa (hs:=?C1) ?A1 ?B1;(case C1=>exact rfl);(case A1=>exact (aao aap (pv 1) (aae aaq aab (pv 6)) (fun _ _=>rfl)));(case B1=>exact aac))))))) (aaj (i:=10) nd rfl (Or.inl rfl))
       (aad (aai (i:=11) nd rfl (Or.inl rfl) (pv 9))
        (aad (abo (aax arp (pv 10) afd (aaw _))
         (aaf (aai (i:=11) nd rfl (Or.inl rfl) (aav (al7 T) C (aaa (pv 9) (aaa (pv 10) (aaa (aao aap (pv 3) aab (fun _ _=>rfl)) aac))))))
         aa5)
        (aad (aai (i:=12) nd rfl (Or.inl rfl) (aao aap (aa3 (aaa (pv 6) (aaa (aam (adn rfl) (by rfl) T.b_max aep (aaa aab (aaa (aae abi (aae aa8 (aam aa7 (by rfl) T.b_len abu (aaa (aao aap (pv 11) aab (fun _ _=>rfl)) aac)) aab) aab) aac))) (aaa (aae aa8 (aam aa7 (by rfl) T.b_len abu (aaa (aao aap (pv 11) aab (fun _ _=>rfl)) aac)) aab) (aaa (aeq (n:=100000000000000000000) (by decide) (by refine ⟨by decide,by decide,by decide⟩)) aac))))) (aae aas (aae aas (aao aap (pv 1) (aae aaq aab (pv 6)) (fun _ _=>rfl)) aab) aab) (fun _ _=>rfl)))
        (aad (aai (i:=13) nd rfl (Or.inl rfl) (ace (aaa (aao aap (pv 11) aab (fun _ _=>rfl)) (aaa (adf ahm (by rfl) T.b_list af6 (aaa (aao aap (pv 11) aab (fun _ _=>rfl)) aac)) aac))))
        (aad (aai (i:=14) nd rfl (Or.inl rfl) (aav (aik T) C (aaa (pv 4) (aaa (pv 12) (aaa (pv 13) aac)))))
        (aad (abo (PW.pt (adm (aek (aej (aam ad2 (by rfl) T.b_isinstance aca (aaa (pv 14) (aaa (aei (v:=.ty "bool") rfl T.b_bool am3 rfl) aac))))) (ade (aax atg (pv 14) (aav (ajw T) C (aaa (pv 3) (aaa (pv 5) (aaa (pv 12) (aaa (pv 11) aac))))) (aaw _)))))
         (aaf (aa0 ab6))
         aa5)
        (aaf (abo (PW.pt (adm (aax (ahe C.units) (pv 13) (pv 11) (aaw _)) (ade (aax (ahe C.units) (pv 4) (pv 3) (aaw _)))))
         (aaf (aa0 ab6))
         aa5))))))))))))))))))))
  (aaf (aa0 ab6)))),?_⟩
 refine abd h fun ss Q' q B hK=>?_
 refine exS1 ss q fun ns M=>?_
 have W:=M.1
 have kk:=M.2
 clear M q
 show EvS B _ _ [some (.scr ns),none,none,none,none,none,none,none,none,none,none,none,none,none,none]
 row_cond go
 refine ⟨ns,140,rfl,W,by decide,by decide,fun ds c5 hl X=>agh adi ?_⟩
 row_cond go
 refine ab1 (fun i e=>∃ v2 v3 v4 v5 L N O I p o a c g,e=[some (.scr ns),some (.st (.list (ds.map .int))),v2,v3,v4,v5,L,N,O,I,p,o,a,c,g]) ⟨_,_,_,_,_,_,_,_,_,_,_,_,_,rfl⟩ ?_ ?_
 ·rintro i e hi ⟨v2,v3,v4,v5,L,N,O,I,p,o,a,c,g,rfl⟩
  have c6:i < 2:=hi
  obtain ⟨xm,am,_,_⟩:=X.at (i:=120+(0+(i:Int))) (by omega) (by omega)
  obtain ⟨Y,b5,a0,a8⟩:∃ Y:Int,atI [PyData.int 12,.int 60] (xm % 2)=some (.int Y)/\1<=Y/\Y<=60:=by
   rcases (show xm % 2=0\/xm % 2=1 by omega) with h | h <;> rw [h]
   ·exact ⟨12,rfl,by omega,by omega⟩
   ·exact ⟨60,rfl,by omega,by omega⟩
  row_cond go
  refine ⟨ds,60 * (0+(i:Int)),Y,rfl,X,by omega,by omega,hl,a0,a8,fun n es Z b7 hJ=>?_⟩
  have U:=Z.lo
  have n1:=Z.hi
  have c1:=Z.len
  have J:=Z.in
  row_cond go
  refine ⟨n,es,rfl,by omega,?_⟩
  row_cond go
  refine ⟨n,es,rfl,U,by omega,J,by omega,hJ,agh adi ?_⟩
  row_cond go
  refine ab1 (fun j e=>∃ L N O I p o a c g,e=[some (.scr ns),some (.st (.list (ds.map .int))),some (.st (.int (0+(i:Int)))),some (.st (webD n es)),some (.st (webD n es)),some (.st (.list (matD n.toNat (dsF es)))),L,N,O,I,p,o,a,c,g]) ⟨_,_,_,_,_,_,_,_,_,rfl⟩ ?_ ?_
  ·rintro j e hj u
   refine exE9 e u fun L N O I p o a c g=>?_
   clear u
   have b4:j < 6:=hj
   obtain ⟨x1,a1,c3,c4⟩:=X.at (i:=122+(0+(j:Int))) (by omega) (by omega)
   obtain ⟨x2,a2,b8,c2⟩:=X.at (i:=128+(0+(j:Int))) (by omega) (by omega)
   obtain ⟨S,a3,b6,b9⟩:=X.at (i:=134+(0+(j:Int))) (by omega) (by omega)
   have y0:=aD1 x1 (show n ≠ 0 by omega)
   have y1:=aD2 x1 (show 0 < n by omega)
   have q2:=ahs (n:=n.toNat) (m:=dsF es) (x:=x1 % n) (by omega) (by omega)
   row_cond go
   rename_i c_ hc_
   refine' cutR (R:=∀ r b:Int,0<=r->r<=1000->EvS B c_ ?d1 [some (.scr ns),some (.st (.list (ds.map .int))),some (.st (.int (0+(i:Int)))),some (.st (webD n es)),some (.st (webD n es)),some (.st (.list (matD n.toNat (dsF es)))),some (.st (.int (0+(j:Int)))),some (.st (.int r)),some (.st (.int b)),I,p,o,a,c,g]) (fun R=>?K1) ?K2
   case K1 =>
    refine aba (fun h=>?_) (fun h=>?_)
    ·row_cond go
     rw [ag2]
     refine alg (by simp;omega) fun mx a4=>?_
     have c0:0<=mx/\mx < n:=by
      obtain ⟨q,hq,rfl⟩:=aA7.mp a4.1
      have:=aA9.mp hq
      exact azl J hJ y0 y1 (by omega) (by omega)
     row_cond go
     refine ⟨_,by rw [ag2],?_⟩
     row_cond go
     rw [ag2]
     refine alg (by simp;omega) fun my a6=>?_
     obtain ⟨jj,b3,a9⟩:=atb a6.1
     row_cond go
     refine ⟨my,jj,rfl,b3,a9,?_⟩
     repeat (first | (refine R _ _ ?_ ?_ <;> (split <;> omega)) | row_cond st)
    ·repeat (first | (refine R _ _ ?_ ?_ <;> omega) | row_cond st)
   case K2 =>
    intro r b r0 r1
    row_cond go
    refine ⟨n,_,b,dsF es,rfl,U,n1,fun ps b0=>ack ?_⟩
    row_cond go
    rw [show [PyData.none,PyData.int x2,PyData.int S]=[none,some x2,some S].map optD from rfl]
    refine ach (fun l e=>∃ p o a c g,e=[some (.scr ns),some (.st (.list (ds.map .int))),some (.st (.int (0+(i:Int)))),some (.st (webD n es)),some (.st (webD n es)),some (.st (.list (matD n.toNat (dsF es)))),some (.st (.int (0+(j:Int)))),some (.st (.int r)),some (.st (.int b)),some (.st (.tuple [.int r,plD ps])),p,o,a,c,g]) ⟨_,_,_,_,_,rfl⟩ ?_ ?_
    ·rintro l x e hx u
     refine exE5 e u fun p o a c g=>?_
     clear u
     have a7:∀ y,x=some y->0<=y/\y < 10007:=fun y e=>by
      have:=az2 hx
      subst e
      simp at this
      omega
     row_cond go
     rename_i c2_ hc2_
     refine' cutR (R:=∀ (G:Int) (z:List Int),-1000000<=G->G<=10000000000000000000000000->z.length<=61->EvS B c2_ ?d2 [some (.scr ns),some (.st (.list (ds.map .int))),some (.st (.int (0+(i:Int)))),some (.st (webD n es)),some (.st (webD n es)),some (.st (.list (matD n.toNat (dsF es)))),some (.st (.int (0+(j:Int)))),some (.st (.int r)),some (.st (.int b)),some (.st (.tuple [.int r,plD ps])),some (.st (optD x)),some (.st (.tuple [.int G,plD z])),a,c,g]) (fun R=>?K1) ?K2
     case K1 =>
      cases x with
      | none =>
       rw [aE0 (show ¬ ((!isNone (optD none))=true) from aA0)]
       repeat (first | (refine R _ _ ?_ ?_ ?_ <;> omega) | row_cond st)
      | some y =>
       have hy:=a7 y rfl
       rw [aD9 (show (!isNone (optD (some y)))=true from rfl)]
       row_cond go
       refine ⟨n,r,y,ps,rfl,U,n1,hy.1,hy.2,r0,r1,b0,fun G z g1 g2 g3=>?_⟩
       repeat (first | (refine R _ _ ?_ ?_ ?_ <;> assumption) | row_cond st)
     case K2 =>
      intro G z g1 g2 g3
      obtain ⟨many,a5,m0,m1⟩:∃ many:Int,atI [PyData.int (0+(j:Int)),PyData.int (if (((z.map PyData.int).length:Nat):Int) / 2 - 1 > 0 then (((z.map PyData.int).length:Nat):Int) / 2 - 1 else 0),PyData.int ((((z.map PyData.int).length:Nat):Int) / 2),PyData.int 100000000000000000000] (S % 7 % 4)=some (.int many)/\0<=many/\many<=100000000000000000000:=by
       rw [az3]
       rcases (show S % 7 % 4=0\/S % 7 % 4=1\/S % 7 % 4=2\/S % 7 % 4=3 by omega) with h | h | h | h <;> rw [h] <;> refine ⟨_,rfl,?_,?_⟩ <;> first | omega | (split <;> omega)
      row_cond go
      refine ⟨n,es,many,G,z,rfl,U,by omega,J,by omega,hJ,by omega,by omega,by omega,by omega,by omega,fun b1 h1=>?_⟩
      row_cond go
      refine aes ?_
      row_cond go
      refine ⟨n,es,many,G,z,rfl,U,by omega,m0,by omega,by omega,by omega,by omega,fun b2 h2=>?_⟩
      obtain rfl:b1=b2:=by
       have:=h1.trans h2.symm
       cases b1 <;> cases b2 <;> simp at this ⊢
      row_cond go
      have hP:aar (.tuple [.int G,plD z])=true:=by have:=aex z;simp only [aar] at this;simp only [aar,plainDs,plD,this,Bool.and_self]
      refine agc hP hP (by have h:PyData.depthAll (z.map PyData.int)<=1:=(ada fun d hd=>by (obtain ⟨x,_,rfl⟩:=aA7.mp hd);simp [PyData.depth]);simp only [plD,PyData.depth,PyData.depthAll];omega) ?_
      rw [show PyData.tuple [PyData.int G,PyData.list (List.map PyData.int z)]=.tuple [.int G,plD z] from rfl,alm hP]
      row_cond go
      refine agc (webP n es) (webP n es) (azk n es) ?_
      rw [alm (webP n es)]
      row_cond go
      exact ⟨_,_,_,_,_,rfl⟩
    ·rintro e u
     refine exE5 e u fun p o a c g=>?_
     clear u
     exact ⟨_,_,_,_,_,_,_,_,_,rfl⟩
  ·rintro e u
   refine exE9 e u fun L N O I p o a c g=>?_
   clear u
   exact ⟨_,_,_,_,_,_,_,_,_,_,_,_,_,rfl⟩
 ·rintro e ⟨v2,v3,v4,v5,L,N,O,I,p,o,a,c,g,rfl⟩
  row_cond go
  exact kk
theorem ayk (T:Txt K mg) {f:Addr} {fd:FuncData} (D:DefAt K mg "law" s_law ["script"] f fd):FnOk P w K mg base CX0 12 f fd ["script"] (aow K):=(awd T D).imp fun _ _ _ _ h=>ata h
end
theorem len0 {α:Type} {us:List α} (h:us.length=0):us=[]:=aF6 h
theorem len1 {α:Type} {us:List α} (h:us.length=1):∃ a0,us=[a0]:=by
 cases us with
 | nil=>cases h
 | cons a us=>exact ⟨a,by rw [len0 (Nat.succ.inj h)]⟩
theorem len2 {α:Type} {us:List α} (h:us.length=2):∃ a0 b,us=[a0,b]:=by
 cases us with
 | nil=>cases h
 | cons a us=>obtain ⟨b,e⟩:=len1 (Nat.succ.inj h);exact ⟨a,b,by rw [e]⟩
theorem len3 {α:Type} {us:List α} (h:us.length=3):∃ a0 b c,us=[a0,b,c]:=by
 cases us with
 | nil=>cases h
 | cons a us=>obtain ⟨b,c,e⟩:=len2 (Nat.succ.inj h);exact ⟨a,b,c,by rw [e]⟩
theorem len4 {α:Type} {us:List α} (h:us.length=4):∃ a0 c d b,us=[a0,c,d,b]:=by
 cases us with
 | nil=>cases h
 | cons a us=>obtain ⟨c,d,b,e⟩:=len3 (Nat.succ.inj h);exact ⟨a,c,d,b,by rw [e]⟩
def Bnd (x:Str) (st:Stmt) (ps:List Str):Prop:=∀ (kV doc pm:Value) (an:Option Addr) (cdv ct:Value) (us:List Value),us.length=ps.length->bindArgs (fnOf x x (ab3 st) (abv st) (aan st) .none kV doc pm an cdv ct) ⟨us,[]⟩=pure (ps.zip us)
def FnIn (K:Frag) (x:Str) (st:Stmt):Prop:=∃ f oc od kV dc pm an cd ct sl,nsIn K mainGlobals x=some (some (.ref f))/\K.lookup f=some ⟨oc,od,.func (fnOf x x (ab3 st) (abv st) (aan st) .none kV dc pm an cd ct),sl⟩/\codeIn K cd x=true/\keepIn K (.ref f)=true
theorem fn_in {K:Frag} {x:Str} {st:Stmt} {f:Addr} {od an:Option Addr} {sl:Array (Option Value)} {oc kV d pm b ct:Value} (a:nsIn K mainGlobals x=some (some (.ref f))) (l:K.lookup f=some ⟨oc,od,.func (fnOf x x (ab3 st) (abv st) (aan st) .none kV d pm an b ct),sl⟩) (c:codeIn K b x=true) (k:keepIn K (.ref f)=true):FnIn K x st:=⟨f,oc,od,kV,d,pm,an,b,ct,sl,a,l,c,k⟩
theorem bnd1 {st:Stmt} {x:Str} {ps:List Str} (c:ps.length=1) (h:∀ (kV doc pm:Value) (an:Option Addr) (cdv ct:Value) (a:Value),bindArgs (fnOf x x (ab3 st) (abv st) (aan st) .none kV doc pm an cdv ct) ⟨[a],[]⟩=pure (ps.zip [a])):Bnd x st ps:=by
 intro kV doc pm an cdv ct us b
 rw [c] at b
 obtain ⟨_,rfl⟩:=len1 b
 exact h _ _ _ _ _ _ _
theorem bnd2 {st:Stmt} {x:Str} {ps:List Str} (d:ps.length=2) (h:∀ (kV doc pm:Value) (an:Option Addr) (cdv ct:Value) (a b:Value),bindArgs (fnOf x x (ab3 st) (abv st) (aan st) .none kV doc pm an cdv ct) ⟨[a,b],[]⟩=pure (ps.zip [a,b])):Bnd x st ps:=by
 intro kV doc pm an cdv ct us c
 rw [d] at c
 obtain ⟨_,_,rfl⟩:=len2 c
 exact h _ _ _ _ _ _ _ _
theorem bnd3 {st:Stmt} {x:Str} {ps:List Str} (f:ps.length=3) (h:∀ (kV doc pm:Value) (an:Option Addr) (cdv ct:Value) (a c b:Value),bindArgs (fnOf x x (ab3 st) (abv st) (aan st) .none kV doc pm an cdv ct) ⟨[a,c,b],[]⟩=pure (ps.zip [a,c,b])):Bnd x st ps:=by
 intro kV doc pm an cdv ct us d
 rw [f] at d
 obtain ⟨_,_,_,rfl⟩:=len3 d
 exact h _ _ _ _ _ _ _ _ _
theorem bnd4 {st:Stmt} {x:Str} {ps:List Str} (g:ps.length=4) (h:∀ (kV doc pm:Value) (an:Option Addr) (cdv ct:Value) (c b a d:Value),bindArgs (fnOf x x (ab3 st) (abv st) (aan st) .none kV doc pm an cdv ct) ⟨[c,b,a,d],[]⟩=pure (ps.zip [c,b,a,d])):Bnd x st ps:=by
 intro kV doc pm an cdv ct us f
 rw [g] at f
 obtain ⟨_,_,_,_,rfl⟩:=len4 f
 exact h _ _ _ _ _ _ _ _ _ _
theorem aa4 {K:Frag} {h:Heap} {mg:Str->Option Value} {x:Str} {st:Stmt} {ps:List Str} (X:K.In h) (G:h.Ns mainGlobals mg) (q:FnIn K x st)
  (hb:Bnd x st ps):∃ f fd,DefAt K mg x st ps f fd:=by
 obtain ⟨f,oc,od,kV,d,pm,an,b,ct,sl,a,l,c,k⟩:=q
 exact ⟨_,_,have F:=awv (st:=st) l c k;⟨F,mg_of X G a,F.binds hb⟩⟩
theorem txt_mk {K:Frag} {h:Heap} {mg:Str->Option Value} (X:K.In h) (G:h.Ns mainGlobals mg)
  (L:FnIn K "is_whole" s_is_whole)
  (Q:FnIn K "is_between" s_is_between)
  (M:FnIn K "is_place" s_is_place)
  (S:FnIn K "is_rising" s_is_rising)
  (N:FnIn K "tied_places" s_tied_places)
  (O:FnIn K "far_from" s_far_from)
  (R:FnIn K "need_place" s_need_place)
  (J:FnIn K "all_far" s_all_far)
  (P:FnIn K "is_joined" s_is_joined)
  (I:FnIn K "need_joined" s_need_joined)
  (u:FnIn K "far_rows" s_far_rows)
  (E:FnIn K "stay_shows" s_stay_shows)
  (D:FnIn K "is_pair" s_is_pair)
  (A:FnIn K "need_places" s_need_places)
  (H:FnIn K "need_far" s_need_far)
  (y:FnIn K "are_apart" s_are_apart)
  (C:FnIn K "_law_draws" s_law_draws)
  (z:FnIn K "_law_web" s_law_web)
  (v:FnIn K "_law_copy" s_law_copy)
  (F:FnIn K "_law_rows" s_law_rows)
  (x:FnIn K "_law_shows" s_law_shows)
  (B:FnIn K "_law_apart" s_law_apart)
  (s:FnIn K "_law_bent" s_law_bent)
  (w:FnIn K "law" s_law)
  (a:nsIn K mainGlobals "ValueError" = some none)
  (m:nsIn K mainGlobals "all" = some none)
  (c:nsIn K mainGlobals "enumerate" = some none)
  (g:nsIn K mainGlobals "range" = some none)
  (j:nsIn K mainGlobals "list" = some none)
  (p:nsIn K mainGlobals "max" = some none)
  (d:nsIn K mainGlobals "sorted" = some none)
  (b:nsIn K mainGlobals "isinstance" = some none)
  (q:nsIn K mainGlobals "int" = some none)
  (o:nsIn K mainGlobals "len" = some none)
  (r:nsIn K mainGlobals "abs" = some none)
  (i:nsIn K mainGlobals "bool" = some none)
  (f:nsIn K mainGlobals "tuple" = some none)
  (l:nsIn K mainGlobals "min" = some none)
  (n:nsIn K mainGlobals "set" = some none)
  : Txt K mg where
  b_ValueError:=mg_none_of X G a
  b_all:=mg_none_of X G m
  b_enumerate:=mg_none_of X G c
  b_range:=mg_none_of X G g
  b_list:=mg_none_of X G j
  b_max:=mg_none_of X G p
  b_sorted:=mg_none_of X G d
  b_isinstance:=mg_none_of X G b
  b_int:=mg_none_of X G q
  b_len:=mg_none_of X G o
  b_abs:=mg_none_of X G r
  b_bool:=mg_none_of X G i
  b_tuple:=mg_none_of X G f
  b_min:=mg_none_of X G l
  b_set:=mg_none_of X G n
  d_is_whole:=aa4 X G L (bnd1 rfl fun _ _ _ _ _ _ _=>rfl)
  d_is_between:=aa4 X G Q (bnd3 rfl fun _ _ _ _ _ _ _ _ _=>rfl)
  d_is_place:=aa4 X G M (bnd2 rfl fun _ _ _ _ _ _ _ _=>rfl)
  d_is_rising:=aa4 X G S (bnd1 rfl fun _ _ _ _ _ _ _=>rfl)
  d_tied_places:=aa4 X G N (bnd1 rfl fun _ _ _ _ _ _ _=>rfl)
  d_far_from:=aa4 X G O (bnd2 rfl fun _ _ _ _ _ _ _ _=>rfl)
  d_need_place:=aa4 X G R (bnd2 rfl fun _ _ _ _ _ _ _ _=>rfl)
  d_all_far:=aa4 X G J (bnd2 rfl fun _ _ _ _ _ _ _ _=>rfl)
  d_is_joined:=aa4 X G P (bnd1 rfl fun _ _ _ _ _ _ _=>rfl)
  d_need_joined:=aa4 X G I (bnd1 rfl fun _ _ _ _ _ _ _=>rfl)
  d_far_rows:=aa4 X G u (bnd1 rfl fun _ _ _ _ _ _ _=>rfl)
  d_stay_shows:=aa4 X G E (bnd3 rfl fun _ _ _ _ _ _ _ _ _=>rfl)
  d_is_pair:=aa4 X G D (bnd1 rfl fun _ _ _ _ _ _ _=>rfl)
  d_need_places:=aa4 X G A (bnd1 rfl fun _ _ _ _ _ _ _=>rfl)
  d_need_far:=aa4 X G H (bnd1 rfl fun _ _ _ _ _ _ _=>rfl)
  d_are_apart:=aa4 X G y (bnd3 rfl fun _ _ _ _ _ _ _ _ _=>rfl)
  d_law_draws:=aa4 X G C (bnd2 rfl fun _ _ _ _ _ _ _ _=>rfl)
  d_law_web:=aa4 X G z (bnd3 rfl fun _ _ _ _ _ _ _ _ _=>rfl)
  d_law_copy:=aa4 X G v (bnd1 rfl fun _ _ _ _ _ _ _=>rfl)
  d_law_rows:=aa4 X G F (bnd1 rfl fun _ _ _ _ _ _ _=>rfl)
  d_law_shows:=aa4 X G x (bnd4 rfl fun _ _ _ _ _ _ _ _ _ _=>rfl)
  d_law_apart:=aa4 X G B (bnd3 rfl fun _ _ _ _ _ _ _ _ _=>rfl)
  d_law_bent:=aa4 X G s (bnd3 rfl fun _ _ _ _ _ _ _ _ _=>rfl)
  d_law:=aa4 X G w (bnd1 rfl fun _ _ _ _ _ _ _=>rfl)
theorem walk {l:PySem.W.OpenLaw} {q:Program} {b:List Str} {o:(Str->Option Value)->Heap->Prop} {j:World->Heap->Prop} {d:DefRec} {K:Params->Frag} (hn:l.most=some 63) (c:d.params.defaults=[]) (g:d.name = "law")
  (p:∀ (w:World) (h:Heap),j w h->(K w.params).In h)
  (F:∀ (w:World) (mg:Str->Option Value) (h:Heap),(K w.params).In h->h.Ns mainGlobals mg->Txt (K w.params) mg) :
  PySem.W.WalkO q b o j l.row.toRowW d [] (fun f vs=>PySem.call f vs):=by
 refine L2.walk_of (n:=63) (k:=12) (x:="script") (CX:=fun _=>CX0) (sp:=fun w=>aow (K w.params)) hn (by decide) c ⟨rfl,by decide,by decide⟩ p (fun w mg fa h X G e=>?_) (fun _ _ a ns y _ v=>⟨a,ns,rfl,v,y,fun _=>rfl⟩) fun _ _ _ _ _ z=>z
 have T:=F w mg h X G
 rw [g] at e
 obtain ⟨f1,i,D⟩:=T.d_law
 have m:=e.symm.trans D.mgx
 cases m
 refine ⟨i,fun s u=>?_,fun base _ _=>?_⟩
 ·obtain ⟨oc,od,kV,doc,pm,an,cdv,ct,osl,rfl,A,r⟩:=D.fn.ex
  exact .of_eq rfl
 ·exact ayk T D
end G
end
theorem PySem.W.Fast.tw11818837529306123259 : True := trivial
theorem PySem.W.Fast.tw4714765520218496790 : True := trivial
theorem PySem.W.Fast.tw1163590651465510171 : True := trivial
theorem PySem.W.Fast.tw11016759637343310832 : True := trivial
theorem PySem.W.Fast.tw16628615153965708038 : True := trivial
theorem PySem.W.Fast.tw11500369129917200395 : True := trivial
theorem PySem.W.Fast.tw18297005328987874851 : True := trivial
theorem PySem.W.Fast.tw4738659007726822585 : True := trivial
theorem PySem.W.Fast.tw6465992811782667529 : True := trivial
theorem PySem.W.Fast.tw3810107029553473593 : True := trivial
theorem PySem.W.Fast.tw9643313622729412244 : True := trivial
theorem PySem.W.Fast.tw5903369891230950771 : True := trivial
theorem PySem.W.Fast.tw17469194732927589935 : True := trivial
theorem PySem.W.Fast.tw10264400471149921963 : True := trivial
theorem PySem.W.Fast.tw14684795173364817013 : True := trivial
theorem PySem.W.Fast.tw17565447023047761903 : True := trivial
theorem PySem.W.Fast.tw1021153862634693807 : True := trivial
theorem PySem.W.Fast.tw10928776437425518035 : True := trivial
theorem PySem.W.Fast.tw11834051749131555855 : True := trivial
theorem PySem.W.Fast.tw4313528178814563660 : True := trivial
theorem PySem.W.Fast.tw16996091978171921799 : True := trivial
theorem PySem.W.Fast.tw617689228495099053 : True := trivial
theorem PySem.W.Fast.tw15369306234294784067 : True := trivial
theorem PySem.W.Fast.tw16093251216991963915 : True := trivial
theorem PySem.W.Fast.tw4782958970426420674 : True := trivial
theorem PySem.W.Fast.tw14728619584224273394 : True := trivial
theorem PySem.W.Fast.tw18275595445189759759 : True := trivial
theorem PySem.W.Fast.tw2037189007625589232 : True := trivial
theorem PySem.W.Fast.tw16326855782431771609 : True := trivial
theorem PySem.W.Fast.tw6513901466882803920 : True := trivial
theorem PySem.W.Fast.tw1625410815786934966 : True := trivial
theorem PySem.W.Fast.tw7458488789363411043 : True := trivial
theorem PySem.W.Fast.tw13903144485836513837 : True := trivial
theorem PySem.W.Fast.tw4817321772153041930 : True := trivial
theorem PySem.W.Fast.tw10104504075732049666 : True := trivial
theorem PySem.W.Fast.tw15953599613201402643 : True := trivial
theorem PySem.W.Fast.tw3147631171551316202 : True := trivial
theorem PySem.W.Fast.tw9643681218598449617 : True := trivial
theorem PySem.W.Fast.tw10518940959694383610 : True := trivial
theorem PySem.W.Fast.tw8673304559755791191 : True := trivial
theorem PySem.W.Fast.tw15596383134289402159 : True := trivial
theorem PySem.W.Fast.tw13229667843398052233 : True := trivial
theorem PySem.W.Fast.tw11242752757899852077 : True := trivial
theorem PySem.W.Fast.tw13829502252930487160 : True := trivial
theorem PySem.W.Fast.tw16334147465167143099 : True := trivial
theorem PySem.W.Fast.tw3340816687462275260 : True := trivial
theorem PySem.W.Fast.tw4838548607236998351 : True := trivial
theorem PySem.W.Fast.tw9122672975289503998 : True := trivial
theorem PySem.W.Fast.tw1263476251627058073 : True := trivial
theorem PySem.W.Fast.tw15359435867895465652 : True := trivial
theorem PySem.W.Fast.tw6194248804666761855 : True := trivial
theorem PySem.W.Fast.tw16878617959253580329 : True := trivial
theorem PySem.W.Fast.tw9773130308087642876 : True := trivial
theorem PySem.W.Fast.tw15572279863614980913 : True := trivial
theorem PySem.W.Fast.tw3773596713286371020 : True := trivial
theorem PySem.W.Fast.tw5656753572049695763 : True := trivial
theorem PySem.W.Fast.tw10869479215914598234 : True := trivial
theorem PySem.W.Fast.tw6141912335746949394 : True := trivial
theorem PySem.W.Fast.tw15341231637844345457 : True := trivial
theorem PySem.W.Fast.tw6535536788895504843 : True := trivial
theorem PySem.W.Fast.tw6852479313871036606 : True := trivial
theorem PySem.W.Fast.tw16216839325212341514 : True := trivial
theorem PySem.W.Fast.tw10590232901076678965 : True := trivial
theorem PySem.W.Fast.tw2502359008656474885 : True := trivial
theorem PySem.W.Fast.tw10126562857161467760 : True := trivial
theorem PySem.W.Fast.tw15268919214854486383 : True := trivial
theorem PySem.W.Fast.tw9432421065094933969 : True := trivial
theorem PySem.W.Fast.tw12084778708812767427 : True := trivial
theorem PySem.W.Fast.tw11865613125626463941 : True := trivial
theorem PySem.W.Fast.tw2169985743774540753 : True := trivial
theorem PySem.W.Fast.tw10316337679522998818 : True := trivial
theorem PySem.W.Fast.tw5551397087623388977 : True := trivial
theorem PySem.W.Fast.tw3791147654718724918 : True := trivial
theorem PySem.W.Fast.tw10041877955228802068 : True := trivial
theorem PySem.W.Fast.tw1969904651009065025 : True := trivial
theorem PySem.W.Fast.tw1254960701774386859 : True := trivial
theorem PySem.W.Fast.tw10419744639282102204 : True := trivial
theorem PySem.W.Fast.tw11644684685911814367 : True := trivial
theorem PySem.W.Fast.tw16559287568362775854 : True := trivial
theorem PySem.W.Fast.tw10218679649856388924 : True := trivial
theorem PySem.W.Fast.tw2477220495169230635 : True := trivial
theorem PySem.W.Fast.tw11710906244552728297 : True := trivial
theorem PySem.W.Fast.tw13378696562370137282 : True := trivial
theorem PySem.W.Fast.tw7993492827334701768 : True := trivial
theorem PySem.W.Fast.tw47442399021988806 : True := trivial
theorem PySem.W.Fast.tw6166634791990814821 : True := trivial
theorem PySem.W.Fast.tw15522555053797028833 : True := trivial
theorem PySem.W.Fast.tw490198100761940728 : True := trivial
theorem PySem.W.Fast.tw11048692055626039483 : True := trivial
theorem PySem.W.Fast.tw4359848781858799245 : True := trivial
theorem PySem.W.Fast.tw14770138142310915979 : True := trivial
theorem PySem.W.Fast.tw11357015970582927112 : True := trivial
theorem PySem.W.Fast.tw9520158315232676200 : True := trivial
theorem PySem.W.Fast.tw13589085805118587569 : True := trivial
theorem PySem.W.Fast.tw1596497275567973086 : True := trivial
theorem PySem.W.Fast.tw15332777441071073348 : True := trivial
theorem PySem.W.Fast.tw4624272547274057569 : True := trivial
theorem PySem.W.Fast.tw10967139743087312146 : True := trivial
theorem PySem.W.Fast.tw11734753397717173136 : True := trivial
theorem PySem.W.Fast.tw6390299472057224978 : True := trivial
theorem PySem.W.Fast.tw18150202059011796917 : True := trivial
theorem PySem.W.Fast.tw1040909107741566170 : True := trivial
theorem PySem.W.Fast.tw10407422756309791122 : True := trivial
theorem PySem.W.Fast.tw7235895404218290557 : True := trivial
theorem PySem.W.Fast.tw7022833989854386341 : True := trivial
theorem PySem.W.Fast.tw13615761995595896166 : True := trivial
theorem PySem.W.Fast.tw1476296056390824638 : True := trivial
theorem PySem.W.Fast.tw2723262814700472926 : True := trivial
theorem PySem.W.Fast.tw1249002658880071861 : True := trivial
theorem PySem.W.Fast.tw3248169102217742607 : True := trivial
theorem PySem.W.Fast.tw7980369790421867628 : True := trivial
theorem PySem.W.Fast.tw16812708168786522276 : True := trivial
theorem PySem.W.Fast.tw4579971431561943958 : True := trivial
theorem PySem.W.Fast.tw10928209971102499821 : True := trivial
theorem PySem.W.Fast.tw13421902696777118601 : True := trivial
theorem PySem.W.Fast.tw9989149254306460191 : True := trivial
open PySem PySem.W PyProof.Rows
set_option maxRecDepth 100000 in
set_option maxHeartbeats 0 in
theorem PySem.Challenge.cw_fewties_k19_papers_that_stay_holds : PySem.Challenge.rw_fewties_k19_papers_that_stay.Holds := by
 w_on;o_law;k_head;(case hw=>w_witness2)
 k_fill
 refine G.walk (l:=PySem.Challenge.rw_fewties_k19_papers_that_stay) rfl rfl rfl (fun w h Y=>PySem.W.kIn_of Y) ?F
 case F =>
  intro w mg h KX GG
  refine' G.txt_mk KX GG ..
  all_goals try (refine' G.fn_in ?a_ ?l_ ?c_ ?k_;(case a_=>k_is);(case l_=>k_is);(case c_=>k_is);(case k_=>k_is))
  all_goals try k_is
#print axioms PySem.Challenge.cw_fewties_k19_papers_that_stay_holds
