import PyProof.Rows.All
import Wide.All
import OpenK.AllK
import Wide.FinOn
import PyProof.EqAt
import PyProof.EqKinds
import PyProof.TupleCall
import PyProof.NeData
import PyProof.P3In
import PyProof.WalkInts
import PyProof.Rows.SortWalk
import PyProof.SumWalkG
import PyProof.Rows.CallKwBuiltin
import KE.KDictList
import PyProof.WalksEnum
import PyProof.ZipIter
import PyProof.ConsumeWalk
import PyProof.ListRange
import PyProof.TupleOfSeq
import PyProof.Rows.RuleN_abs
import KE.KDictOf
import PyProof.AttrMissHeap
import PySem.Challenge.RW_fewties_k10_papers_of_the_farthest
open PySem.W (Frag kitOne mg_of nsIn mg_none_of excIn fnOf mroIn keepIn codeIn)
set_option Elab.async false
set_option linter.all false
set_option compiler.extract_closed false
set_option maxRecDepth 100000
set_option maxHeartbeats 4000000
noncomputable section
abbrev aA0:=@List.getElem?_eq_getElem
abbrev aA1:=@List.getElem?_eq_some_iff
abbrev aA2:=@List.mem_of_getElem?
abbrev aA3:=@List.length_map
abbrev aA4:=@Array.getElem?_eq_getElem
abbrev aA5:=@List.getElem?_map
abbrev aA6:=@Nat.le_refl
abbrev aA7:=@List.mem_append
abbrev aA8:=@List.mem_cons
abbrev aA9:=@Bool.false_ne_true
abbrev aB0:=@List.length_append
abbrev aB1:=@List.size_toArray
abbrev aB2:=@List.mem_append_right
abbrev aB3:=@List.append_assoc
abbrev aB4:=@List.mem_cons_of_mem
abbrev aB5:=@Nat.ne_of_lt
abbrev aB6:=@List.mem_map
abbrev aB7:=@List.mem_cons_self
abbrev aB8:=@List.mem_range
abbrev aB9:=@List.mem_of_mem_take
abbrev aC0:=@List.take_append_drop
abbrev aC1:=@List.mem_singleton
abbrev aC2:=@List.getElem?_append_left
abbrev aC3:=@List.mem_of_mem_drop
abbrev aC4:=@Nat.lt_of_lt_of_le
abbrev aC5:=@Option.some.inj
abbrev aC6:=@List.mem_append_left
abbrev aC7:=@List.getElem?_append_right
abbrev aC8:=@List.pairwise_append
abbrev aC9:=@Nat.le_trans
abbrev aD0:=@List.map_cons
abbrev aD1:=@List.getElem?_set
abbrev aD2:=@List.getD_eq_getElem?_getD
abbrev aD3:=@Array.getElem?_toList
abbrev aD4:=@decide_eq_false
abbrev aD5:=@decide_eq_true
abbrev aD6:=@List.getElem?_range
abbrev aD7:=@List.map_map
abbrev aD8:=@List.length_range
abbrev aD9:=@List.getElem?_eq_none
abbrev aE0:=@Nat.lt_of_le_of_lt
abbrev aE1:=@List.map_append
abbrev aE2:=@List.length_cons
abbrev aE3:=@Int.emod_lt_of_pos
abbrev aE4:=@List.nodup_append
abbrev aE5:=@List.map_congr_left
abbrev aE6:=@List.append_nil
abbrev aE7:=@List.take_of_length_le
abbrev aE8:=@List.getElem_mem
abbrev aE9:=@List.any_eq_true
abbrev aF0:=@List.all_eq_true
abbrev aF1:=@if_pos
abbrev aF2:=@if_neg
abbrev aF3:=@List.getElem?_eq_none_iff
abbrev aF4:=@Nat.lt_succ_of_lt
abbrev aF5:=@List.length_pos_iff
abbrev aF6:=@Nat.zero_le
abbrev aF7:=@List.pairwise_map
abbrev aF8:=@List.ext_getElem?
abbrev aF9:=@beq_iff_eq
abbrev aG0:=@Nat.lt_irrefl
abbrev aG1:=@Nat.le_of_lt
abbrev aG2:=@Array.toList_append
abbrev aG3:=@List.pairwise_iff_getElem
abbrev aG4:=@List.take_length
abbrev aG5:=@List.lookup_cons
abbrev aG6:=@List.length_take
abbrev aG7:=@Bool.and_eq_true
abbrev aG8:=@List.eq_nil_of_length_eq_zero
abbrev aG9:=@List.replicate_succ
abbrev aH0:=@List.take_add_one
abbrev aH1:=@List.getElem?_take_of_lt
abbrev aH2:=@List.mem_iff_getElem
abbrev aH3:=@List.getElem?_replicate
abbrev aH4:=@Bool.eq_iff_iff
abbrev aH5:=@Array.size_push
abbrev aH6:=@List.Pairwise.imp_of_mem
abbrev aH7:=@List.getElem?_cons_succ
abbrev aH8:=@Option.map_some
abbrev aH9:=@List.getElem?_drop
abbrev aI0:=@List.nodup_cons
abbrev aI1:=@Nat.sub_self
abbrev aI2:=@Int.zero_add
abbrev aI3:=@Nat.lt_succ_self
abbrev aI4:=@List.length_nil
open PySem PySem.Spec in
abbrev aI5:=@wpAny_bind
open PySem PySem.Spec in
abbrev aI6:=@wpAny_pure
open PySem PySem.Spec in
abbrev aI7:=@Heap.get?_push_of_some
open PySem PySem.Spec in
abbrev aI8:=@Heap.lt_size
open PySem PySem.Spec in
abbrev aI9:=@Heap.get?_push_size
open PySem PySem.Spec in
abbrev aJ0:=@wpAny_holding
open PySem PySem.Spec in
abbrev aJ1:=@PassesOwn.never
open PySem PySem.Spec in
abbrev aJ2:=@wpAny_mono
open PySem PySem.Spec in
abbrev aJ3:=@wpAny_newObj_type
open PySem PySem.Spec in
abbrev aJ4:=@Around.under_plainId
open PySem PySem.Spec in
abbrev aJ5:=@Heap.size_push
open PySem PySem.Spec in
abbrev aJ6:=@wpAny_call_entry
open PySem PySem.Spec in
abbrev aJ7:=@wpAny_truthy_bool
open PySem PySem.Spec in
abbrev aJ8:=@wpAny_pyIter_list
open PySem PySem.Spec in
abbrev aJ9:=@codeAny_builtin
namespace L2
open PySem PySem.Spec PyProof.Rows
abbrev Key:=Sum Int Str
def agi:Key->Value->Bool
 | .inl k,v=>Value.isInt k v
 | .inr x,v=>Value.isStrOf x v
def keyH (w:World):Key->Int
 | .inl k=>hashInt k
 | .inr x=>hashStr w x
theorem abn:∀ {k:Key} {v:Value},agi k v=true->(∃ i t,k=Sum.inl i/\v=Value.int i t)\/(∃ x t,k=Sum.inr x/\v=Value.str x t)
 | .inl i,v,h=>by
  obtain ⟨t,e⟩:=Value.isInt_shape (k:=i) (v:=v) h
  exact .inl ⟨i,t,rfl,e⟩
 | .inr x,v,h=>by
  obtain ⟨t,e⟩:=Value.isStrOf_shape (x:=x) (v:=v) h
  exact .inr ⟨x,t,rfl,e⟩
theorem ap7 (i:Int) (t:Tok):agi (.inl i) (.int i t)=true:=by simp [agi,Value.isInt]
theorem ap8 (x:Str) (t:Tok):agi (.inr x) (.str x t)=true:=by simp [agi,Value.isStrOf]
theorem axd (a b:Int):decide ((Sum.inl a:Key)=Sum.inl b)=(a == b):=by
 by_cases e:a=b
 ·subst e;simp
 ·have h:¬ (Sum.inl a:Key)=Sum.inl b:=fun q=>e (Sum.inl.inj q)
  rw [aD4 h]
  exact (beq_eq_false_iff_ne.mpr e).symm
theorem axe (a b:Str):decide ((Sum.inr a:Key)=Sum.inr b)=decide (a=b):=by
 by_cases e:a=b
 ·subst e;simp
 ·have h:¬ (Sum.inr a:Key)=Sum.inr b:=fun q=>e (Sum.inr.inj q)
  rw [aD4 h,aD4 e]
theorem axf (a:Int) (b:Str):decide ((Sum.inl a:Key)=Sum.inr b)=false:=aD4 (fun q=>nomatch q)
theorem axg (a:Str) (b:Int):decide ((Sum.inr a:Key)=Sum.inl b)=false:=aD4 (fun q=>nomatch q)
def aa4 (prog:Program) (w:World):PySem.KeyKind prog w Key where
 is:=agi
 hash:=keyH w
 inj:=fun v a b ha hb=>by
  rcases abn ha with ⟨i,t,rfl,rfl⟩ | ⟨x,t,rfl,rfl⟩
  ·rcases abn hb with ⟨j,u,rfl,e⟩ | ⟨y,u,rfl,e⟩
   ·injection e with e1 _;rw [e1]
   ·exact nomatch e
  ·rcases abn hb with ⟨j,u,rfl,e⟩ | ⟨y,u,rfl,e⟩
   ·exact nomatch e
   ·injection e with e1 _;rw [e1]
 byValue:=fun k v h=>by
  rcases abn h with ⟨i,t,rfl,rfl⟩ | ⟨x,t,rfl,rfl⟩ <;> rfl
 pyHash:=fun hv h=>by
  rcases abn hv with ⟨i,t,rfl,rfl⟩ | ⟨x,t,rfl,rfl⟩
  ·exact wpAny_pyHash_int h
  ·exact wpAny_pyHash_str h
 eqBool:=fun hu hv h=>by
  rcases abn hu with ⟨i,t,rfl,rfl⟩ | ⟨x,t,rfl,rfl⟩
  ·rcases abn hv with ⟨j,u,rfl,rfl⟩ | ⟨y,u,rfl,rfl⟩
   ·rw [axd] at h;exact wpAny_eqBool_int h
   ·rw [axf] at h;exact SeqAt.EqAt.int_str i t y u _ _ _ _ h
  ·rcases abn hv with ⟨j,u,rfl,rfl⟩ | ⟨y,u,rfl,rfl⟩
   ·rw [axg] at h;exact SeqAt.EqAt.str_int x t j u _ _ _ _ h
   ·rw [axe] at h;exact wpAny_eqBool_str h
 «strs»:=fun k x t v h=>by
  rcases abn h with ⟨i,u,rfl,e⟩ | ⟨y,u,rfl,e⟩
  ·exact nomatch e
  ·injection e with e1 _
   subst e1
   cases v <;> rfl
theorem ag5 (prog:Program) (w:World) (i:Int) (t:Tok):(aa4 prog w).is (.inl i) (.int i t)=true:=ap7 i t
theorem am1 (prog:Program) (w:World) (x:Str) (t:Tok):(aa4 prog w).is (.inr x) (.str x t)=true:=ap8 x t
inductive V where
 | non | bl (b:Bool) | int (i:Int) | str (x:Str) | byt (b:Array UInt8) | flt (b:UInt64) | ref (a:Addr) | ty (n:String)
 deriving DecidableEq
def RelV:V->Value->Prop
 | .non,u=>u=Value.none
 | .bl b,u=>u=Value.bool b
 | .int i,u=>∃ t,u=Value.int i t
 | .str x,u=>∃ t,u=Value.str x t
 | .byt b,u=>∃ t,u=Value.bytes b t
 | .flt b,u=>∃ t,u=Value.float b t
 | .ref a,u=>u=Value.ref a
 | .ty n,u=>u=Value.type n
abbrev Vals:List V->List Value->Prop:=Paired RelV
theorem Vals.length {xs:List V} {us:List Value} (r:Vals xs us):xs.length=us.length:=Paired.length r
theorem Vals.get:∀ {xs:List V} {us:List Value} {i:Nat} {x:V},Vals xs us->xs[i]?=some x->∃ u,us[i]?=some u/\RelV x u
 | _,_,_,_,.nil,e=>by simp at e
 | _,_,0,_,.cons r _,e=>by simp at e;subst e;exact ⟨_,rfl,r⟩
 | _,_,i+1,x,.cons _ t,e=>by
  obtain ⟨u,b,a⟩:=Vals.get (i:=i) (x:=x) t (by simpa using e)
  exact ⟨u,by simpa using b,a⟩
theorem Vals.set {x:V} {u:Value} (r:RelV x u):∀ {xs:List V} {us:List Value} (i:Nat),Vals xs us->Vals (xs.set i x) (us.set i u)
 | _,_,_,.nil => .nil
 | _,_,0,.cons _ t => .cons r t
 | _,_,i+1,.cons q t => .cons q (Vals.set r i t)
theorem Vals.append:∀ {xs ys:List V} {us a:List Value},Vals xs us->Vals ys a->Vals (xs ++ ys) (us ++ a)
 | _,_,_,_,.nil,s=>s
 | _,_,_,_,.cons r t,s => .cons r (Vals.append t s)
theorem Vals.take:∀ {xs:List V} {us:List Value} (n:Nat),Vals xs us->Vals (xs.take n) (us.take n)
 | _,_,0,_ => .nil
 | _,_,_+1,.nil => .nil
 | _,_,n+1,.cons r t => .cons r (Vals.take n t)
theorem Vals.drop:∀ {xs:List V} {us:List Value} (n:Nat),Vals xs us->Vals (xs.drop n) (us.drop n)
 | _,_,0,r=>r
 | _,_,_+1,.nil => .nil
 | _,_,n+1,.cons _ t=>Vals.drop n t
def RelO:Option V->Option Value->Prop
 | some v,some u=>RelV v u
 | none,none=>True
 | _,_=>False
def KV {κ:Type}:List (κ × V)->List (κ × Value)->Prop:=Paired fun (p : κ × V) (q : κ × Value)=>p.1=q.1/\RelV p.2 q.2
def kV:Key->V
 | .inl i => .int i
 | .inr x => .str x
inductive HO where
 /-- a list -/
 | lst (xs:List V)
 /-- a tuple (never changes) -/
 | tup (xs:List V)
 /-- a dict whose keys are ints and texts; one whose keys are tuples of ints and texts (the empty one is both) -/
 | dK (kvs:List (Key × V)) | dT (kvs:List (List Key × V))
 /-- a set of ints: its members, its size -/
 | set (S:Int->Bool) (n:Nat)
 /-- an instance of the class at C, its dict at dx, its attributes -/
 | ins (C dx:Addr) (fs:List (Str × V))
 /-- the dict of the instance at x -/
 | own (x:Addr)
 /-- the dict of an exception -/
 | xd (fs:List (Str × V))
 /-- a bound method, f of x -/
 | met (f x:Addr)
 /-- a range object lo, lo + 1, .. below hi -/
 | rng (lo hi:Int)
 /-- a thing that is known to the object (the script; a dict while a loop walks it): read, never written while it is so -/
 | frz (o:Obj) (u:HO)
 /-- a code object's table -/
 | tbl (ps:Array Value)
 /-- any other thing, by what is true of its one object (a def of one's own: SetO a S n:=HO.ext fun h => ..) -/
 | ext (φ:Heap->Prop)
abbrev Hp:=Addr->Option HO
def upd (H:Hp) (a:Addr) (o:HO):Hp:=fun b=>if b=a then some o else H b
theorem aaf {H:Hp} {a:Addr} {o:HO}:upd H a o a=some o:=by unfold upd;rw [aF1 rfl]
theorem aad {H:Hp} {a b:Addr} {o:HO} (h:b ≠ a):upd H a o b=H b:=by unfold upd;rw [aF2 h]
theorem aue {H:Hp} {a b:Addr} {o u:HO} (h:H a=some o) (h':H b=some u) (d:o ≠ u):a ≠ b:=by
 intro e;subst e;rw [h] at h';exact d (aC5 h')
theorem aaj {H:Hp} {a b:Addr} {o:HO} (h:H a=some o) (h':H b=none):a ≠ b:=by
 intro e;subst e;rw [h] at h';cases h'
section
variable (P:Program) (w:World)
def ObjOk (H:Hp) (h:Heap) (a:Addr):HO->Prop
 | .lst xs=>xs.length<=sizeLine/\∃ (its:List Value) (n:Nat),Vals xs its/\h.get? a=some { cls:=.type "list",data:=.seq its.toArray n }
 | .tup xs=>xs.length<=sizeLine/\∃ its:List Value,Vals xs its/\IsTup h a its.toArray
 | .dK kvs=>kvs.length<=sizeLine/\(a == sysModules)=false/\∃ vs,KV kvs vs/\h.DictOf (aa4 P w) a vs
 | .dT kvs=>kvs.length<=sizeLine/\(a == sysModules)=false/\∃ xs:List (List Key × Addr × Value),
   Paired (fun (p:List Key × V) (q:List Key × Addr × Value)=>p.1=q.1/\H q.2.1=some (.tup (p.1.map kV))/\RelV p.2 q.2.2) kvs xs /\
   ∃ o es ep,h.get? a=some o/\o.ExactDict/\o.data=.dict es ep/\es.toList=xs.map (entryOfKey (tupleKind (aa4 P w)))/\(xs.map (·.1)).Nodup
 | .set S n=>h.SetOf (intKind P w) a S n
 | .ins C dx fs=>H dx=some (.own a)/\fs.length<=1000/\dx ≠ a/\h.get? a=some (PySem.W.instObj C dx) /\
   ∃ mA,h.Ns1 dx mA/\(∀ f,RelO (fs.lookup f) (mA f))/\PySem.Within mA (fs.map (·.1))
 | .own _=>∃ o,h.get? a=some o
 | .xd fs=>∃ mA,h.Ns1 a mA/\∀ f,RelO (fs.lookup f) (mA f)
 | .rng lo hi=>∃ t u v,h.get? a=some { cls:=.type "range",data:=.fields #[.int lo t,.int hi u,.int 1 v] }
 | .frz o u=>h.get? a=some o/\ObjOk H h a u
 | .tbl ps=>h.get? a=some { cls:=.none,data:=.fields ps }
 | .met f x=>h.get? a=some (PySem.W.methodObj (.ref f) (.ref x))
 | .ext φ => φ h/\(∃ o,h.get? a=some o)/\∀ h1 h2:Heap,φ h1->(∀ o,h1.get? a=some o->h2.get? a=some o)->φ h2
def HOk (H:Hp) (h:Heap):Prop:=∀ a o,H a=some o->ObjOk P w H h a o
end
section
variable {P:Program} {w:World} {H H':Hp} {h h':Heap} {a:Addr} {o:HO}
theorem ObjOk.lt (x:ObjOk P w H h a o):a < h.objs.size:=by
 cases o with
 | lst xs=>obtain ⟨_,_,_,_,e⟩:=x;exact aI8 e
 | tup xs=>obtain ⟨_,_,_,p⟩:=x;exact p.lt
 | dK kvs=>obtain ⟨_,_,_,_,o,_,_,e,_⟩:=x;exact aI8 e
 | dT kvs=>obtain ⟨_,_,_,_,o,_,_,e,_⟩:=x;exact aI8 e
 | set S n=>obtain ⟨o,_,_,_,e,_⟩:=x;exact aI8 e
 | ins C dx fs=>obtain ⟨_,_,_,e,_⟩:=x;exact aI8 e
 | own y=>obtain ⟨_,e⟩:=x;exact aI8 e
 | xd fs=>obtain ⟨_,⟨_,_,_,e,_⟩,_⟩:=x;exact aI8 e
 | rng lo hi=>obtain ⟨_,_,_,e⟩:=x;exact aI8 e
 | frz ob u=>obtain ⟨e,_⟩:=x;exact aI8 e
 | tbl ps=>exact aI8 (show h.get? a=some _ from x)
 | met f y=>exact aI8 (show h.get? a=some _ from x)
 | ext φ=>obtain ⟨_,⟨_,e⟩,_⟩:=x;exact aI8 e
theorem Paired.mapP {α β:Type} {F G : α->β->Prop}:∀ {c:List α} {d:List β},Paired F c d->(∀ a b,F a b->G a b)->Paired G c d
 | _,_,.nil,_ => .nil
 | _,_,.cons r t,f => .cons (f _ _ r) (Paired.mapP t f)
theorem ObjOk.stay (x:ObjOk P w H h a o) (k:∀ b u,(b=a\/H b=some (.own a))->h.get? b=some u->h'.get? b=some u)
  (l:∀ b,H b=some (.own a)->H' b=some (.own a)) (i:∀ b xs,H b=some (.tup xs)->H' b=some (.tup xs)):ObjOk P w H' h' a o:=by
 induction o with
 | lst xs=>obtain ⟨z,its,n,r,e⟩:=x;exact ⟨z,its,n,r,k _ _ (.inl rfl) e⟩
 | tup xs=>obtain ⟨z,its,r,g,e,c⟩:=x;exact ⟨z,its,r,g,k _ _ (.inl rfl) e,c⟩
 | dK kvs=>obtain ⟨z,y,vs,r,g,es,ep,e,c⟩:=x;exact ⟨z,y,vs,r,g,es,ep,k _ _ (.inl rfl) e,c⟩
 | dT kvs =>
  obtain ⟨z,y,xs,r,g,es,ep,e,c⟩:=x
  exact ⟨z,y,xs,Paired.mapP r fun p q z=>⟨z.1,i _ _ z.2.1,z.2.2⟩,g,es,ep,k _ _ (.inl rfl) e,c⟩
 | set S n=>obtain ⟨g,es,ep,t,e,c⟩:=x;exact ⟨g,es,ep,t,k _ _ (.inl rfl) e,c⟩
 | ins C dx fs =>
  obtain ⟨d,z,ne,e,mA,⟨od,es,ep,j,c⟩,r⟩:=x
  exact ⟨l _ d,z,ne,k _ _ (.inl rfl) e,mA,⟨od,es,ep,k _ _ (.inr d) j,c⟩,r⟩
 | own y=>obtain ⟨g,e⟩:=x;exact ⟨g,k _ _ (.inl rfl) e⟩
 | xd fs=>obtain ⟨mA,⟨od,es,ep,e,c⟩,r⟩:=x;exact ⟨mA,⟨od,es,ep,k _ _ (.inl rfl) e,c⟩,r⟩
 | rng lo hi=>obtain ⟨t,u,v,e⟩:=x;exact ⟨t,u,v,k _ _ (.inl rfl) e⟩
 | frz g u ih=>obtain ⟨e,q⟩:=x;exact ⟨k _ _ (.inl rfl) e,ih q⟩
 | tbl ps =>
  have e:h.get? a=some { cls:=.none,data:=.fields ps }:=x
  show h'.get? a=some { cls:=.none,data:=.fields ps }
  exact k a _ (.inl rfl) e
 | met f y =>
  have e:h.get? a=some (PySem.W.methodObj (.ref f) (.ref y)):=x
  show h'.get? a=some (PySem.W.methodObj (.ref f) (.ref y))
  exact k a _ (.inl rfl) e
 | ext φ=>obtain ⟨p,⟨o,e⟩,st⟩:=x;exact ⟨st _ _ p fun o q=>k _ _ (.inl rfl) q,⟨o,k _ _ (.inl rfl) e⟩,st⟩
theorem HOk.lt (x:HOk P w H h) (e:H a=some o):a < h.objs.size:=(x a o e).lt
theorem HOk.fresh (x:HOk P w H h) (e:h.objs.size<=a):H a=none:=by
 cases q:H a with
 | none=>rfl
 | some u=>exact absurd (aC4 (x.lt q) e) (aG0 _)
theorem HOk.kept (x:HOk P w H h) (k:∀ b u,h.get? b=some u->h'.get? b=some u):HOk P w H h':=fun a o e =>
 (x a o e).stay (fun b u _ q=>k b u q) (fun _ q=>q) fun _ _ q=>q
theorem HOk.laid (x:HOk P w H h) (k:∀ b u,h.get? b=some u->h'.get? b=some u) (d:h.objs.size<=a) (new:ObjOk P w (upd H a o) h' a o):HOk P w (upd H a o) h':=fun b u e=>by
 have hn:=x.fresh d
 by_cases hb:b=a
 ·subst hb;rw [aaf] at e;cases e;exact new
 ·rw [aad hb] at e
  exact (x b u e).stay (fun c v _ q=>k c v q) (fun c q=>by rw [aad (aaj q hn)];exact q) fun c xs q=>by rw [aad (aaj q hn)];exact q
end
def Rd (H:Hp) (a:Addr) (u:HO):Prop:=H a=some u\/∃ o,H a=some (.frz o u)
theorem Rd.of {H:Hp} {a:Addr} {u:HO} (h:H a=some u):Rd H a u:=.inl h
theorem Rd.ok {P:Program} {w:World} {H:Hp} {h:Heap} {a:Addr} {u:HO} (r:Rd H a u) (x:HOk P w H h):ObjOk P w H h a u:=by
 rcases r with r | ⟨o,r⟩
 ·exact x a u r
 ·obtain ⟨_,q⟩:=x a _ r
  exact q
def Mut:Option HO->Prop
 | some (.lst _)=>True
 | some (.dK _)=>True
 | some (.dT _)=>True
 | some (.set _ _)=>True
 | some (.ins _ _ _)=>True
 | some (.ext _)=>True
 | _=>False
section
variable {P:Program} {w:World} {H:Hp} {h h':Heap} {x e:Addr} {o':HO}
theorem HOk.write (ok:HOk P w H h) (g:Mut (H x)) (l:e=x\/H e=some (.own x)) (k:∀ b u,b ≠ e->h.get? b=some u->h'.get? b=some u) (i:∃ u,h'.get? e=some u)
  (new:ObjOk P w (upd H x o') h' x o'):HOk P w (upd H x o') h':=fun b u q=>by
 have a:∀ c y,H c=some (.own y)->c ≠ x:=fun c y r z=>by subst z;rw [r] at g;exact g
 have d:∀ c xs,H c=some (.tup xs)->c ≠ x:=fun c xs r z=>by subst z;rw [r] at g;exact g
 by_cases hb:b=x
 ·subst hb;rw [aaf] at q;cases q;exact new
 ·rw [aad hb] at q
  by_cases hbe:b=e
  ·have j:H b=some (.own x):=by
    rcases l with z | z
    ·exact absurd (hbe.trans z) hb
    ·rw [hbe];exact z
   rw [q] at j;cases j
   obtain ⟨v,m⟩:=i
   exact ⟨v,by rw [hbe];exact m⟩
  ·refine (ok b u q).stay (fun c v f r=>k c v ?_ r) (fun c r=>by rw [aad (a c b r)];exact r) fun c xs r=>by rw [aad (d c xs r)];exact r
   rcases f with rfl | f
   ·exact hbe
   ·rintro rfl
    rcases l with z | z
    ·exact a c b f z
    ·rw [f] at z;cases z;exact hb rfl
end
structure Un (fs ex:List Addr) (H H':Hp) (h h':Heap):Prop where
 keep:∀ b o,h.get? b=some o->H b=none->b ∉ fs->b ∉ ex->h'.get? b=some o
 slot:∀ b o,h.get? b=some o->H b=none->b∈fs->b ∉ ex->∃ sl,h'.get? b=some { o with slots:=sl }
 free:∀ b o,h.get? b=some o->H b=none->b ∉ ex->H' b=none
 there:∀ b o,h.get? b=some o->b ∉ ex->∃ o',h'.get? b=some o'
 tups:∀ b xs,H b=some (.tup xs)->H' b=some (.tup xs)
 frzs:∀ b o u,H b=some (.frz o u)->H' b=some (.frz o u)
 tbls:∀ b ps,H b=some (.tbl ps)->∃ more,H' b=some (.tbl (ps ++ more))
section
variable {fs fs' ex ex':List Addr} {H H1 H2:Hp} {h h1 h2 h':Heap} {a x e:Addr} {o:HO}
theorem Un.any (u:Un fs ex H H1 h h1) {b:Addr} {a:Obj} (q:h.get? b=some a) (n:H b=none) (c:b ∉ ex):∃ sl,h1.get? b=some { a with slots:=sl }:=by
 by_cases hb:b∈fs
 ·exact u.slot b a q n hb c
 ·exact ⟨a.slots,u.keep b a q n hb c⟩
theorem Un.trans (a:Un fs ex H H1 h h1) (b:Un fs ex H1 H2 h1 h2):Un fs ex H H2 h h2 where
 keep:=fun c f q n i d=>b.keep c f (a.keep c f q n i d) (a.free c f q n d) i d
 slot:=fun c f q n i d=>by
  obtain ⟨sl,g⟩:=a.slot c f q n i d
  obtain ⟨l,j⟩:=b.slot c _ g (a.free c f q n d) i d
  exact ⟨l,j⟩
 free:=fun c f q n d=>by
  obtain ⟨o',g⟩:=a.there c f q d
  exact b.free c o' g (a.free c f q n d) d
 there:=fun c f q d=>by
  obtain ⟨o',g⟩:=a.there c f q d
  exact b.there c o' g d
 tups:=fun c xs q=>b.tups c xs (a.tups c xs q)
 frzs:=fun c f xs q=>b.frzs c f xs (a.frzs c f xs q)
 tbls:=fun c ps q=>by
  obtain ⟨o,g⟩:=a.tbls c ps q
  obtain ⟨m,j⟩:=b.tbls c _ g
  exact ⟨o ++ m,by rw [j,Array.append_assoc]⟩
theorem Un.kept (k:∀ b u,h.get? b=some u->h'.get? b=some u):Un fs ex H H h h' :=
 ⟨fun b a q _ _ _=>k b a q,fun b a q _ _ _=>⟨a.slots,k b a q⟩,fun _ _ _ n _=>n,fun b a q _=>⟨a,k b a q⟩,fun _ _ q=>q,fun _ _ _ q=>q,fun _ ps q=>⟨#[],by rw [q];simp⟩⟩
theorem Un.refl:Un fs ex H H h h:=Un.kept fun _ _ q=>q
theorem Un.laid (k:∀ b u,h.get? b=some u->h'.get? b=some u) (c:h.objs.size<=a) (hn:H a=none):Un fs ex H (upd H a o) h h' where
 keep:=fun b u q _ _ _=>k b u q
 slot:=fun b u q _ _ _=>⟨u.slots,k b u q⟩
 free:=fun b u q n _=>by rw [aad (aB5 (aC4 (aI8 q) c))];exact n
 there:=fun b u q _=>⟨u,k b u q⟩
 tups:=fun b xs q=>by rw [aad (aaj q hn)];exact q
 frzs:=fun b u xs q=>by rw [aad (aaj q hn)];exact q
 tbls:=fun b ps q=>⟨#[],by rw [aad (aaj q hn),q];simp⟩
theorem Un.write (a:Mut (H x)) (g:e=x\/H e=some (.own x)) (k:∀ b u,b ≠ e->h.get? b=some u->h'.get? b=some u) (c:∃ u,h'.get? e=some u):Un fs ex H (upd H x o) h h':=by
 have d:∀ b,H b=none->b ≠ x:=fun b n z=>by subst z;rw [n] at a;exact a
 have hb:∀ b,H b=none->b ≠ e:=fun b n z=>by
  subst z
  rcases g with r | r
  ·exact d b n r
  ·rw [n] at r;cases r
 have hm:∀ b u,H b=some u->¬ Mut (some u)->b ≠ x:=fun b u q f z=>by subst z;rw [q] at a;exact f a
 refine ⟨fun b u q n _ _=>k b u (hb b n) q,fun b u q n _ _=>⟨u.slots,k b u (hb b n) q⟩,fun b u q n _=>by rw [aad (d b n)];exact n,fun b u q _=>?_,
  fun b xs q=>by rw [aad (hm b _ q fun z=>z)];exact q,fun b u xs q=>by rw [aad (hm b _ q fun z=>z)];exact q,fun b ps q=>⟨#[],by rw [aad (hm b _ q fun z=>z),q];simp⟩⟩
 by_cases hbe:b=e
 ·subst hbe;exact c
 ·exact ⟨u,k b u hbe q⟩
theorem Un.mono (u:Un fs ex H H1 h h1) (f:∀ b∈fs,b∈fs') (d:∀ b∈ex,b∈ex'):Un fs' ex' H H1 h h1 :=
 ⟨fun b c q n hb a=>u.keep b c q n (fun z=>hb (f b z)) fun z=>a (d b z),fun _ _ q n _ a=>u.any q n fun z=>a (d _ z),fun b c q n a=>u.free b c q n fun z=>a (d b z),fun b c q a=>u.there b c q fun z=>a (d b z),u.tups,u.frzs,u.tbls⟩
end
def trk (h:Heap) (H:Hp):List Addr:=(List.range h.objs.size).filter fun a=>(H a).isSome
def hidT (h:Heap) (H:Hp):Heap:=PySem.W.hideAll h (trk h H)
theorem ap9 (h:Heap) (H:Hp):(hidT h H).objs.size=h.objs.size:=PySem.W.hideAll_size _ _
theorem asg {h:Heap} {H:Hp} {b:Addr} {o:Obj} (e:h.get? b=some o) (n:H b=none):(hidT h H).get? b=some o :=
 PySem.W.hideAll_get _ e fun hm=>by
  have q:(H b).isSome=true:=(List.mem_filter.mp hm).2
  rw [n] at q;simp at q
theorem auy {h:Heap} {H:Hp} {b:Addr} {o:Obj} (e:(hidT h H).get? b=some o):h.get? b=some o/\H b=none:=by
 have a:h.get? b=some o:=PySem.W.of_hideAll (trk h H) e
 refine ⟨a,?_⟩
 cases q:H b with
 | none=>rfl
 | some x =>
  have hm:b∈trk h H:=List.mem_filter.mpr ⟨aB8.mpr (aI8 a),by simp [q]⟩
  have z:(hidT h H).get? b=none:=PySem.W.hideAll_none (trk h H) hm
  rw [z] at e;cases e
def auz (g h:Heap) (L:Addr):List (Addr × Obj):=(List.range h.objs.size).filterMap fun a=>if a=L\/(g.get? a).isSome=true then none else (h.get? a).map fun o=>(a,o)
def rest (g h:Heap) (L d:Addr):List (Addr × Obj):=(auz g h L).filter fun p=>decide (p.1 ≠ d)
structure Mod (K:Frag) (mg:Str->Option Value) (base:Heap):Prop where
 kin:K.In base
 glob:base.Ns mainGlobals mg
 blt:∃ mb,base.Ns builtinsNs mb/\∀ x:Str,x ≠ "__name__"->mb x=bootBuiltins x
 nolimit:base.NoLimit
/-- the context: a def's body (or a comprehension's block) running. base: fixed through the whole law; s₀, H₀: the entry; outer: the frames whose slots others may change (a def's callers); stack: all frames that run;
  ex: iterators that were made ahead of the entry and are walked here (a comprehension's);fn: the names whose cells were made at the entry (a def: all;a comprehension's block: its own);calm: not within an except suite;pn: pins that every state bears;xe: what is wanted of an exception that leaves the code -/
structure Cx where
 prog:Program
 w:World
 K:Frag
 mg:Str->Option Value
 base:Heap
 A:Around
 N:List Str
 s₀:Shared
 H₀:Hp
 env:Env
 outer:List Env
 stack:List Env
 ex:List Addr
 fn:Str->Bool
 calm:Bool
 pn:List (Addr × Obj)
 xe:Value->Shared->Prop
def frs (l:List Env):List Addr:=l.filterMap (·.frame)
abbrev Cx.fs (X:Cx):List Addr:=frs X.outer
def Vis (sc:Scope) (x:Str):Prop:=sc.names.lookup x=some .local\/sc.names.lookup x=some .cell\/sc.names.lookup x=some .free
def Loc (sc:Scope) (x:Str):Prop:=sc.names.lookup x=some .local\/sc.names.lookup x=some .cell
def Look (env:Env) (h:Heap) (m:Str->Option Value) (x:Str) (u:Value):Prop :=
 (env.kindOf x=some .local/\m x=some u)\/((env.kindOf x=some .cell\/env.kindOf x=some .free)/\∃ c,env.cells.lookup x=some c/\h.IsCell c (some u))
structure Cx.Ok (X:Cx):Prop where
 mod:Mod X.K X.mg X.base
 kind:X.env.scope.kind=.function
 glob:X.env.globals=mainGlobals
 blt:X.env.builtins=builtinsNs
 above:X.s₀.heap.objs.size<=X.env.locals
 inj:∀ x y c,X.env.cells.lookup x=some c->X.env.cells.lookup y=some c->x=y
 has:∀ x,(X.env.kindOf x=some .cell\/X.env.kindOf x=some .free)->∃ c,X.env.cells.lookup x=some c
 cab:∀ x c,X.fn x=true->X.env.cells.lookup x=some c->X.s₀.heap.objs.size<=c
 hd:X.calm=true->X.A.handled=none
 frames:X.A.frames=some X.stack
 stk:X.stack=X.outer\/(X.stack=X.env :: X.outer/\X.env.frame=some X.env.locals)
 exf:∀ b∈X.ex,b ≠ X.env.locals/\∀ x c,X.env.cells.lookup x=some c->c ≠ b
 bs:∀ b o,X.base.get? b=some o->X.s₀.heap.get? b=some o/\X.H₀ b=none
 bsz:X.base.objs.size<=X.s₀.heap.objs.size
 noex:∀ b o,X.base.get? b=some o->b ∉ X.ex
 exfs:∀ b∈X.ex,b ∉ X.fs
 funs:X.s₀.heap.FunFrames X.base X.outer
 frf:∀ b∈X.fs,X.H₀ b=none
structure Inv (X:Cx) (pins:List (Addr × Obj)) (σ:List (Option V)) (H:Hp) (s:Shared):Prop where
 ok:X.Ok
 os:s.os=X.s₀.os
 bare:AllBare s.gens
 base:Un X.fs X.ex X.H₀ H X.s₀.heap s.heap
 loc:∃ m,s.heap.Ns X.env.locals m/\∀ (i:Nat) (x:Str) (v:V),X.N[i]?=some x->σ[i]?=some (some v)->Vis X.env.scope x->∃ u,RelV v u/\Look X.env s.heap m x u
 cell:∀ x c,X.env.cells.lookup x=some c->∃ v,s.heap.IsCell c v
 free:H X.env.locals=none
 freeC:∀ x c,X.env.cells.lookup x=some c->H c=none
 pin:∀ p∈X.pn ++ pins,s.heap.get? p.1=some p.2/\H p.1=none/\p.1 ≠ X.env.locals/\p.1 ∉ X.fs/\∀ v,p.2.data ≠ .cell v
 hok:HOk X.prog X.w H s.heap
 len : σ.length=X.N.length
section
variable {X:Cx} {pins:List (Addr × Obj)} {σ:List (Option V)} {H H':Hp} {s:Shared} {h':Heap}
theorem Cx.Ok.nofr (ok:X.Ok) {b:Addr} {o:Obj} (e:X.base.get? b=some o):b ∉ X.fs:=fun hb=>by
 have:=(ok.funs.mem hb).1
 rw [e] at this;cases this
theorem Inv.bs (I:Inv X pins σ H s):∀ b o,X.base.get? b=some o->s.heap.get? b=some o/\H b=none:=fun b o e =>
 ⟨I.base.keep b o (I.ok.bs b o e).1 (I.ok.bs b o e).2 (I.ok.nofr e) (I.ok.noex b o e),I.base.free b o (I.ok.bs b o e).1 (I.ok.bs b o e).2 (I.ok.noex b o e)⟩
theorem Inv.bk (I:Inv X pins σ H s):∀ b o,X.base.get? b=some o->s.heap.get? b=some o:=fun b o e=>(I.bs b o e).1
theorem Inv.mod (I:Inv X pins σ H s):Mod X.K X.mg X.base:=I.ok.mod
theorem Inv.kIn (I:Inv X pins σ H s):X.K.In s.heap:=I.ok.mod.kin.keeps I.bk
theorem Inv.fr (I:Inv X pins σ H s):∃ m,Fr X.base X.env.locals s.heap m :=
 let ⟨m,hn,_⟩:=I.loc
 ⟨m,hn,I.bk,aC9 I.ok.bsz I.ok.above⟩
theorem Inv.lt (I:Inv X pins σ H s):X.env.locals < s.heap.objs.size:=let ⟨_,hn,_⟩:=I.loc;hn.lt
theorem Inv.sz (I:Inv X pins σ H s):X.s₀.heap.objs.size<=s.heap.objs.size:=aC9 I.ok.above (aG1 I.lt)
theorem Inv.nofs (I:Inv X pins σ H s) {a:Addr} (h:s.heap.objs.size<=a):a ∉ X.fs:=fun hb=>by
 obtain ⟨_,o,b,_⟩:=I.ok.funs.mem hb
 exact absurd (aC4 (aI8 b) (aC9 I.sz h)) (aG0 _)
theorem Inv.cne (I:Inv X pins σ H s):∀ x c,X.env.cells.lookup x=some c->c ≠ X.env.locals:=fun x c e z=>by
 obtain ⟨v,o,d,hd⟩:=I.cell x c e
 obtain ⟨m,⟨o',es,ep,b,a,_⟩,_⟩:=I.loc
 rw [z,b] at d;cases d;rw [a] at hd;cases hd
theorem Inv.funs (I:Inv X pins σ H s):s.heap.FunFrames X.base X.outer:=by
 have all:∀ (l:List Env),(∀ b∈frs l,b∈X.fs)->X.s₀.heap.FunFrames X.base l->s.heap.FunFrames X.base l:=by
  intro l
  induction l with
  | nil=>intro _ _;trivial
  | cons env r ih =>
   intro c g
   obtain ⟨f,⟨L,o,hf,hn,h,hd⟩,d⟩:=g
   have a:L∈X.fs:=c L (by unfold frs;rw [List.filterMap_cons,hf];exact aB7)
   obtain ⟨sl,e⟩:=I.base.slot L o h (I.ok.frf L a) a fun z=>I.ok.exfs L z a
   exact ⟨f,⟨L,_,hf,hn,e,hd⟩,ih (fun b hb=>c b (by unfold frs;rw [List.filterMap_cons,hf];exact aB4 _ hb)) d⟩
 exact all X.outer (fun _ hb=>hb) I.ok.funs
theorem Inv.stack (I:Inv X pins σ H s):s.heap.FunFrames X.base X.stack:=by
 rcases I.ok.stk with e | ⟨e,hf⟩
 ·rw [e];exact I.funs
 ·rw [e]
  obtain ⟨m,hn,_⟩:=I.loc
  refine .cons (by rw [I.ok.kind];decide) hf hn ?_ I.funs
  exact Heap.get?_none_of_le (aC9 I.ok.bsz I.ok.above)
theorem Inv.stkSub (I:Inv X pins σ H s):∀ b∈frs X.stack,b∈X.env.locals :: X.fs:=fun b hb=>by
 rcases I.ok.stk with e | ⟨e,hf⟩
 ·rw [e] at hb;exact aB4 _ hb
 ·rw [e] at hb
  unfold frs at hb
  rw [List.filterMap_cons,hf] at hb
  exact hb
theorem Inv.stkFree (I:Inv X pins σ H s):∀ b∈frs X.stack,H b=none:=fun b hb=>by
 rcases aA8.mp (I.stkSub b hb) with e | hb
 ·rw [e];exact I.free
 ·obtain ⟨_,o,a,_⟩:=I.ok.funs.mem hb
  exact I.base.free b o a (I.ok.frf b hb) fun z=>I.ok.exfs b z hb
theorem Inv.step {g':Array GenState} {t':Nat} {d':Drawn} {ch:List Addr} (I:Inv X pins σ H s)
  (f:∀ b∈ch,(b∈X.ex\/X.s₀.heap.objs.size<=b)/\b ≠ X.env.locals/\(∀ x c,X.env.cells.lookup x=some c->c ≠ b)/\∀ p∈X.pn ++ pins,p.1 ≠ b)
  (keep:∀ b o,b ≠ X.env.locals->b ∉ X.fs->b ∉ ch->s.heap.get? b=some o->H b=none->h'.get? b=some o)
  (slot:∀ b o,b ≠ X.env.locals->b∈X.fs->b ∉ ch->s.heap.get? b=some o->H b=none->∃ sl,h'.get? b=some { o with slots:=sl }) (free:∀ b o,b ∉ ch->s.heap.get? b=some o->H b=none->H' b=none)
  (there:∀ b o,b ∉ ch->s.heap.get? b=some o->∃ o',h'.get? b=some o')
  (tups:∀ b xs,H b=some (.tup xs)->H' b=some (.tup xs)) (frzs:∀ b o u,H b=some (.frz o u)->H' b=some (.frz o u)) (tbls:∀ b ps,H b=some (.tbl ps)->∃ more,H' b=some (.tbl (ps ++ more)))
  (ns:∀ m,s.heap.Ns X.env.locals m->h'.Ns X.env.locals m) (hok:HOk X.prog X.w H' h') (N:AllBare g') :
  Inv X pins σ H' { s with heap:=h',gens:=g',drawn:=d',toks:=t' }:=by
 have B:∀ b o,X.s₀.heap.get? b=some o->b ≠ X.env.locals:=fun b o e=>aB5 (aC4 (aI8 e) I.ok.above)
 have j:∀ b o,X.s₀.heap.get? b=some o->b ∉ X.ex->b ∉ ch:=fun b o e a hb=>by
  rcases (f b hb).1 with z | z
  ·exact a z
  ·exact absurd (aC4 (aI8 e) z) (aG0 _)
 have h:∀ x c,X.env.cells.lookup x=some c->∀ v,s.heap.IsCell c v->h'.IsCell c v:=fun x c e v L=>by
  obtain ⟨o,A,hd⟩:=L
  have g:c ∉ ch:=fun z=>(f c z).2.2.1 x c e rfl
  by_cases hc:c∈X.fs
  ·obtain ⟨sl,q⟩:=slot c o (I.cne x c e) hc g A (I.freeC x c e)
   exact ⟨_,q,hd⟩
  ·exact ⟨o,keep c o (I.cne x c e) hc g A (I.freeC x c e),hd⟩
 refine ⟨I.ok,I.os,N,⟨fun b o e n hb a=>?_,fun b o e n hb a=>?_,fun b o e n a=>?_,fun b o e a=>?_,fun b xs e=>tups b xs (I.base.tups b xs e),fun b o xs e=>frzs b o xs (I.base.frzs b o xs e),fun b ps e=>?_⟩,?_,fun x c e=>?_,?_,fun x c e=>?_,fun p F=>?_,hok,I.len⟩
 ·exact keep b o (B b o e) hb (j b o e a) (I.base.keep b o e n hb a) (I.base.free b o e n a)
 ·obtain ⟨sl,y⟩:=I.base.slot b o e n hb a
  obtain ⟨D,C⟩:=slot b _ (B b o e) hb (j b o e a) y (I.base.free b o e n a)
  exact ⟨D,C⟩
 ·obtain ⟨o',y⟩:=I.base.there b o e a
  exact free b o' (j b o e a) y (I.base.free b o e n a)
 ·obtain ⟨o',y⟩:=I.base.there b o e a
  exact there b o' (j b o e a) y
 ·obtain ⟨K,y⟩:=I.base.tbls b ps e
  obtain ⟨G,C⟩:=tbls b _ y
  exact ⟨K ++ G,by rw [C,Array.append_assoc]⟩
 ·obtain ⟨m,hn,M⟩:=I.loc
  refine ⟨m,ns m hn,fun i x v y C J=>?_⟩
  obtain ⟨u,r,l⟩:=M i x v y C J
  refine ⟨u,r,?_⟩
  rcases l with l | ⟨k,c,e,z⟩
  ·exact .inl l
  ·exact .inr ⟨k,c,e,h x c e _ z⟩
 ·obtain ⟨v,z⟩:=I.cell x c e
  exact ⟨v,h x c e v z⟩
 ·obtain ⟨m,⟨o,_,_,A,_⟩,_⟩:=I.loc
  exact free _ o (fun z=>(f _ z).2.1 rfl) A I.free
 ·obtain ⟨v,o,A,hd⟩:=I.cell x c e
  exact free c o (fun z=>(f c z).2.2.1 x c e rfl) A (I.freeC x c e)
 ·obtain ⟨e,n,ne,E,d⟩:=I.pin p F
  have g:p.1 ∉ ch:=fun z=>(f p.1 z).2.2.2 p F rfl
  exact ⟨keep p.1 p.2 ne E g e n,free p.1 p.2 g e n,ne,E,d⟩
theorem Inv.un {t':Nat} (I:Inv X pins σ H s) (u:Un X.fs [] H H' s.heap h') (hok:HOk X.prog X.w H' h'):Inv X pins σ H' { s with heap:=h',toks:=t' }:=by
 obtain ⟨m,⟨o,es,ep,f,r⟩,_⟩:=id I.loc
 obtain ⟨sl,h⟩:=u.any f I.free (by simp)
 exact I.step (g':=s.gens) (d':=s.drawn) (ch:=[]) (fun _ z=>nomatch z) (fun b o _ hb _ e n=>u.keep b o e n hb (by simp)) (fun b o _ hb _ e n=>u.slot b o e n hb (by simp)) (fun b o _ e n=>u.free b o e n (by simp)) (fun b o _ e=>u.there b o e (by simp)) u.tups u.frzs u.tbls (fun i hm=>by
  obtain ⟨o',c,d,a,g⟩:=hm
  rw [f] at a;cases a
  exact ⟨_,c,d,h,g⟩) hok I.bare
theorem Inv.call {g':Array GenState} {t':Nat} {d':Drawn} {ch:List Addr} (I:Inv X pins σ H s) (u:Un (frs X.stack) ch H H' s.heap h') (hok:HOk X.prog X.w H' h') (q:AllBare g')
  (f:∀ b∈ch,(b∈X.ex\/X.s₀.heap.objs.size<=b)/\b ≠ X.env.locals/\(∀ x c,X.env.cells.lookup x=some c->c ≠ b)/\∀ p∈X.pn ++ pins,p.1 ≠ b) :
  Inv X pins σ H' { s with heap:=h',gens:=g',drawn:=d',toks:=t' }:=by
 obtain ⟨m,⟨o,es,ep,j,r⟩,_⟩:=id I.loc
 obtain ⟨sl,i⟩:=u.any j I.free fun z=>(f _ z).2.1 rfl
 exact I.step (ch:=ch) f (fun b o i hb a e n=>u.keep b o e n (fun z=>(aA8.mp (I.stkSub b z)).elim i hb) a) (fun b o _ _ a e n=>u.any e n a) (fun b o a e n=>u.free b o e n a) (fun b o a e=>u.there b o e a) u.tups u.frzs u.tbls (fun v hm=>by
  obtain ⟨o',g,h,d,l⟩:=hm
  rw [j] at d;cases d
  exact ⟨_,g,h,i,l⟩) hok q
theorem Inv.turned {t':Nat} {it:Addr} (I:Inv X pins σ H s) (k:∀ b o,b ≠ it->s.heap.get? b=some o->h'.get? b=some o) (hn:H it=none) (f:it ≠ X.env.locals)
  (h:it∈X.ex\/X.s₀.heap.objs.size<=it) (g:∀ x c,X.env.cells.lookup x=some c->c ≠ it) (i:∀ p∈X.pn ++ pins,p.1 ≠ it):Inv X pins σ H { s with heap:=h',toks:=t' }:=by
 have d:∀ b u,H b=some u->b ≠ it:=fun b u e z=>by rw [z,hn] at e;cases e
 refine I.step (g':=s.gens) (d':=s.drawn) (ch:=[it]) (fun b hb=>?_) (fun b o _ _ a e _=>k b o (fun z=>a (by simp [z])) e) (fun b o _ _ a e _=>⟨o.slots,k b o (fun z=>a (by simp [z])) e⟩) (fun _ _ _ _ n=>n)
  (fun b o a e=>⟨o,k b o (fun z=>a (by simp [z])) e⟩) (fun _ _ e=>e) (fun _ _ _ e=>e) (fun b ps e=>⟨#[],by rw [e];simp⟩) (fun m hm=>?_) (fun b u e=>?_) I.bare
 ·have e:b=it:=by simpa using hb
  subst e
  exact ⟨h,f,g,i⟩
 ·obtain ⟨o,es,ep,j,r⟩:=hm
  exact ⟨o,es,ep,k _ o (Ne.symm f) j,r⟩
 ·refine (I.hok b u e).stay (fun c v a q=>k c v ?_ q) (fun _ q=>q) fun _ _ q=>q
  rcases a with z | z
  ·rw [z];exact d b u e
  ·exact d c _ z
theorem Inv.tok (I:Inv X pins σ H s) (t:Nat):Inv X pins σ H { s with toks:=t }:=I.un (h':=s.heap) (t':=t) Un.refl I.hok
theorem Inv.kept {t':Nat} (I:Inv X pins σ H s) (k:∀ b u,s.heap.get? b=some u->h'.get? b=some u):Inv X pins σ H { s with heap:=h',toks:=t' }:=I.un (Un.kept k) (I.hok.kept k)
theorem Inv.laid {a:Addr} {o:HO} {t':Nat} (I:Inv X pins σ H s) (k:∀ b u,s.heap.get? b=some u->h'.get? b=some u) (c:s.heap.objs.size<=a) (new:ObjOk X.prog X.w (upd H a o) h' a o) :
  Inv X pins σ (upd H a o) { s with heap:=h',toks:=t' }:=I.un (Un.laid k c (I.hok.fresh c)) (I.hok.laid k c new)
theorem Inv.write {x e:Addr} {o:HO} {t':Nat} (I:Inv X pins σ H s) (c:Mut (H x)) (d:e=x\/H e=some (.own x)) (k:∀ b u,b ≠ e->s.heap.get? b=some u->h'.get? b=some u) (a:∃ u,h'.get? e=some u)
  (new:ObjOk X.prog X.w (upd H x o) h' x o):Inv X pins σ (upd H x o) { s with heap:=h',toks:=t' }:=I.un (Un.write c d k a) (I.hok.write c d k a new)
theorem Inv.pins_of {a:List (Addr × Obj)} (I:Inv X pins σ H s) (h:∀ p∈a,s.heap.get? p.1=some p.2/\H p.1=none/\p.1 ≠ X.env.locals/\p.1 ∉ X.fs/\∀ v,p.2.data ≠ .cell v):Inv X a σ H s :=
 ⟨I.ok,I.os,I.bare,I.base,I.loc,I.cell,I.free,I.freeC,fun p b=>(aA7.mp b).elim (fun z=>I.pin p (aC6 _ z)) (h p),I.hok,I.len⟩
theorem nodup_ix {N:List Str} (d:N.Nodup) {i j:Nat} {x:Str} (a:N[i]?=some x) (b:N[j]?=some x):i=j:=by
 obtain ⟨h,c⟩:=aA1.mp a
 obtain ⟨g,f⟩:=aA1.mp b
 exact (List.getElem_inj d).mp (c.trans f.symm)
theorem ajb {M:Model} {A:Around} {E:Value->Shared->Prop} {i:Nat} {x:Str} {v:V} {u:Value} {Q:Unit->Shared->Prop} (I:Inv X pins σ H s) (hN:X.N.Nodup) (hi:X.N[i]?=some x) (C:Loc X.env.scope x) (r:RelV v u)
  (h:∀ s',Inv X pins (σ.set i (some v)) H s'->(∃ a,Heap.SameBut a s.heap s'.heap/\(a=X.env.locals\/X.env.cells.lookup x=some a))->Q () s') (hf:X.fn x=true\/X.env.scope.names.lookup x=some .local:=by first | exact .inl rfl | exact .inr rfl | assumption):wpAny M A (storeName X.env x u) Q E s:=by
 obtain ⟨m,hn,hl⟩:=id I.loc
 have R:(X.env.scope.kind == .class || (X.env.scope.kind == .module && X.env.locals != X.env.globals))=false:=by rw [I.ok.kind];rfl
 have G:i < σ.length:=by rw [I.len];exact (aA1.mp hi).1
 have cne:=I.cne
 have g:∀ {a:Addr} {h':Heap},(∃ o,s.heap.get? a=some o/\H a=none)->Heap.SameBut a s.heap h'->HOk X.prog X.w H h':=fun {a h'} ha f b ob e=>by
  obtain ⟨_,_,D⟩:=ha
  refine (I.hok b ob e).stay (fun c T B q=>(f.2 c ?_).trans q) (fun _ q=>q) fun _ _ q=>q
  rintro rfl
  rcases B with rfl | B
  ·rw [D] at e;cases e
  ·rw [D] at B;cases B
 rcases C with J | J
 ·refine wpAny_storeName_local J hn (fun h' a1 f=>?_) R
  obtain ⟨oL,_,_,a0,_⟩:=id hn
  refine h _ ⟨I.ok,I.os,I.bare,⟨fun b o e n hb C=>?_,fun b o e n hb C=>?_,I.base.free,fun b o e C=>?_,I.base.tups,I.base.frzs,I.base.tbls⟩,⟨_,a1,fun j y v' l F e3=>?_⟩,fun y c e=>?_,I.free,I.freeC,fun p Y=>?_,g ⟨oL,a0,I.free⟩ f,by simpa using I.len⟩ ⟨_,f,.inl rfl⟩
  ·exact (f.2 b (aB5 (aC4 (aI8 e) I.ok.above))).trans (I.base.keep b o e n hb C)
  ·obtain ⟨sl,l⟩:=I.base.slot b o e n hb C
   exact ⟨sl,(f.2 b (aB5 (aC4 (aI8 e) I.ok.above))).trans l⟩
  ·obtain ⟨o',l⟩:=I.base.there b o e C
   exact ⟨o',(f.2 b (aB5 (aC4 (aI8 e) I.ok.above))).trans l⟩
  ·by_cases hj:j=i
   ·subst hj
    rw [hi] at l;cases l
    rw [List.getElem?_set_self G] at F
    cases F
    exact ⟨u,r,.inl ⟨J,by simp⟩⟩
   ·rw [List.getElem?_set_ne (Ne.symm hj)] at F
    obtain ⟨Z,U,q⟩:=hl j y v' l F e3
    refine ⟨Z,U,?_⟩
    rcases q with ⟨k,e⟩ | ⟨k,c,e,z⟩
    ·refine .inl ⟨k,?_⟩
     have:y ≠ x:=fun e=>hj (nodup_ix hN l (e ▸ hi))
     simp [this,e]
    ·exact .inr ⟨k,c,e,z.sameBut f (cne y c e)⟩
  ·obtain ⟨T,z⟩:=I.cell y c e
   exact ⟨T,z.sameBut f (cne y c e)⟩
  ·obtain ⟨e,n,ne,W,d⟩:=I.pin p Y
   exact ⟨(f.2 p.1 ne).trans e,n,ne,W,d⟩
 ·have K:X.fn x=true:=by
   rcases hf with z | z
   ·exact z
   ·rw [z] at J;cases J
  obtain ⟨c,B⟩:=I.ok.has x (.inl J)
  obtain ⟨T,z⟩:=I.cell x c B
  refine wpAny_storeName_cell I.ok.kind J B z (fun h' L f=>?_)
  obtain ⟨oc,O,P⟩:=id z
  refine h { s with heap:=h' } ⟨I.ok,I.os,I.bare,⟨fun b o e n hb C=>?_,fun b o e n hb C=>?_,I.base.free,fun b o e C=>?_,I.base.tups,I.base.frzs,I.base.tbls⟩,⟨m,hn.sameBut f (Ne.symm (cne x c B)),fun j y v' l F e3=>?_⟩,fun y S e=>?_,I.free,I.freeC,fun p Y=>?_,g ⟨oc,O,I.freeC x c B⟩ f,by simpa using I.len⟩ ⟨c,f,.inr B⟩
  ·exact (f.2 b (aB5 (aC4 (aI8 e) (I.ok.cab x c K B)))).trans (I.base.keep b o e n hb C)
  ·obtain ⟨sl,l⟩:=I.base.slot b o e n hb C
   exact ⟨sl,(f.2 b (aB5 (aC4 (aI8 e) (I.ok.cab x c K B)))).trans l⟩
  ·obtain ⟨o',l⟩:=I.base.there b o e C
   exact ⟨o',(f.2 b (aB5 (aC4 (aI8 e) (I.ok.cab x c K B)))).trans l⟩
  ·by_cases hj:j=i
   ·subst hj
    rw [hi] at l;cases l
    rw [List.getElem?_set_self G] at F
    cases F
    exact ⟨u,r,.inr ⟨.inl J,c,B,L⟩⟩
   ·rw [List.getElem?_set_ne (Ne.symm hj)] at F
    obtain ⟨Z,U,q⟩:=hl j y v' l F e3
    refine ⟨Z,U,?_⟩
    rcases q with q | ⟨k,S,e,z'⟩
    ·exact .inl q
    ·refine .inr ⟨k,S,e,z'.sameBut f ?_⟩
     rintro rfl
     exact hj (nodup_ix hN l (I.ok.inj _ _ _ e B ▸ hi))
  ·by_cases hcc:S=c
   ·subst hcc;exact ⟨_,L⟩
   ·obtain ⟨w2,z2⟩:=I.cell y S e
    exact ⟨w2,z2.sameBut f hcc⟩
  ·obtain ⟨e,n,ne,W,d⟩:=I.pin p Y
   refine ⟨(f.2 p.1 ?_).trans e,n,ne,W,d⟩
   intro q
   rw [q,O] at e
   have q':oc=p.2:=aC5 e
   exact d T (by rw [← q'];exact P)
theorem akz {M:Model} {A:Around} {E:Value->Shared->Prop} {i:Nat} {x:Str} {v:V} {u:Value} {Q:Unit->Shared->Prop} (I:Inv X pins σ H s) (b:X.N.Nodup) (hi:X.N[i]?=some x) (c:Loc X.env.scope x) (r:RelV v u)
  (h:∀ a,Inv X pins (σ.set i (some v)) H a->Q () a) (hf:X.fn x=true\/X.env.scope.names.lookup x=some .local:=by first | exact .inl rfl | exact .inr rfl | assumption):wpAny M A (storeName X.env x u) Q E s :=
 ajb I b hi c r (fun a d _=>h a d) hf
theorem Inv.call' {a:Shared} {ch:List Addr} (I:Inv X pins σ H s) (f:a.os=s.os) (u:Un (frs X.stack) ch H H' s.heap a.heap) (hok:HOk X.prog X.w H' a.heap) (g:AllBare a.gens)
  (d:∀ b∈ch,(b∈X.ex\/X.s₀.heap.objs.size<=b)/\b ≠ X.env.locals/\(∀ x c,X.env.cells.lookup x=some c->c ≠ b)/\∀ p∈X.pn ++ pins,p.1 ≠ b):Inv X pins σ H' a:=by
 obtain ⟨h',g',d',t',o'⟩:=a
 have e:o'=s.os:=f
 subst e
 exact I.call (g':=g') (t':=t') (d':=d') u hok g d
end
abbrev XK:=Value->Option Addr->Hp->Prop
abbrev St:=List (Option V)
abbrev VK:=V->Hp->Prop
abbrev TE:=St->Hp->VK->Prop
abbrev TT:=St->Hp->(Bool->Hp->Prop)->Prop
abbrev TA:=St->Hp->(List V->Hp->Prop)->Prop
structure Ends where
 nx:St->Hp->Prop
 rt:VK
 bk:St->Hp->Prop:=fun _ _=>False
 ct:St->Hp->Prop:=fun _ _=>False
abbrev TS:=Ends->St->Hp->Prop
def EP (X:Cx) (pins:List (Addr × Obj)) (σ:St) (Q:VK) (u:Value) (s':Shared):Prop:=∃ v H',Inv X pins σ H' s'/\RelV v u/\Q v H'
def TP (X:Cx) (pins:List (Addr × Obj)) (σ:St) (Q:Bool->Hp->Prop) (b:Bool) (s':Shared):Prop:=∃ H',Inv X pins σ H' s'/\Q b H'
def AP (X:Cx) (pins:List (Addr × Obj)) (σ:St) (Q:List V->Hp->Prop) (us:List Value) (s':Shared):Prop:=∃ vs H',Inv X pins σ H' s'/\Vals vs us/\Q vs H'
def SP (X:Cx) (pins:List (Addr × Obj)) (D:Ends) (f:Flow) (s':Shared):Prop :=
 match f with
 | .next=>∃ σ' H',Inv X pins σ' H' s'/\D.nx σ' H'
 | .brk=>∃ σ' H',Inv X pins σ' H' s'/\D.bk σ' H'
 | .cont=>∃ σ' H',Inv X pins σ' H' s'/\D.ct σ' H'
 | .ret u=>∃ v σ' H',Inv X pins σ' H' s'/\RelV v u/\D.rt v H'
def PE (X:Cx) (e:Expr) (t:TE):Prop :=
 ∀ (pins:List (Addr × Obj)) (s:Shared) (σ:St) (H:Hp) (Q:VK),Inv X pins σ H s->t σ H Q->wpAny (model X.prog X.w) X.A (eval e X.env) (EP X pins σ Q) X.xe s
def PT (X:Cx) (e:Expr) (t:TT):Prop :=
 ∀ (pins:List (Addr × Obj)) (s:Shared) (σ:St) (H:Hp) (Q:Bool->Hp->Prop),Inv X pins σ H s->t σ H Q->wpAny (model X.prog X.w) X.A (isTrue e X.env (eval e X.env)) (TP X pins σ Q) X.xe s
def PW (X:Cx) (e:Expr) (t:TT):Prop :=
 ∀ (whole:Sem Value) (pins:List (Addr × Obj)) (s:Shared) (σ:St) (H:Hp) (Q:Bool->Hp->Prop),Inv X pins σ H s->t σ H Q->wpAny (model X.prog X.w) X.A (isTrue e X.env whole) (TP X pins σ Q) X.xe s
theorem PW.pt {X:Cx} {e:Expr} {t:TT} (h:PW X e t):PT X e t:=h _
def PA (X:Cx) (es:List Expr) (t:TA):Prop :=
 ∀ (pos:Pos) (pins:List (Addr × Obj)) (s:Shared) (σ:St) (H:Hp) (Q:List V->Hp->Prop),Inv X pins σ H s->t σ H Q->wpAny (model X.prog X.w) X.A (spliced (backTo pos (starEach es X.env))) (AP X pins σ Q) X.xe s
def PS (X:Cx) (st:Stmt) (t:TS):Prop :=
 ∀ (pins:List (Addr × Obj)) (s:Shared) (σ:St) (H:Hp) (D:Ends),Inv X pins σ H s->t D σ H->wpAny (model X.prog X.w) X.A (exec st X.env) (SP X pins D) X.xe s
def PSs (X:Cx) (st:List Stmt) (t:TS):Prop :=
 ∀ (pins:List (Addr × Obj)) (s:Shared) (σ:St) (H:Hp) (D:Ends),Inv X pins σ H s->t D σ H->wpAny (model X.prog X.w) X.A (execs st X.env) (SP X pins D) X.xe s
theorem thn {α:Type} {t:Sem α} {Q b : α->Shared->Prop} {M:Model} {A:Around} {E:Value->Shared->Prop} {s:Shared} (h:wpAny M A t Q E s) (c:∀ a s,Q a s->b a s):wpAny M A t b E s:=aJ2 h c fun _ _ x=>x
section
variable {X:Cx}
def tVar (i:Nat):TE:=fun σ H Q=>∃ v,σ[i]?=some (some v)/\Q v H
def tC (v:V):TE:=fun _ H Q=>Q v H
theorem axh {i:Nat} {x:Str} {pos:Pos} (g:X.N[i]?=some x) (j:Vis X.env.scope x) (hd:(x == ("__debug__" : Str))=false:=by decide) (d:(x == ("__classdict__" : Str))=false:=by decide):PE X (.Name x pos) (tVar i):=by
 intro pins s σ H Q I h
 obtain ⟨v,e,h⟩:=h
 obtain ⟨m,hn,n⟩:=I.loc
 obtain ⟨u,r,l⟩:=n i x v g e j
 have fin:EP X pins σ Q u s:=⟨v,H,I,r,h⟩
 rcases l with ⟨b,hm⟩ | ⟨b,c,f,a⟩
 ·exact wpAny_Name (wpAny_loadName_local I.ok.kind b hn hm fin) hd
 ·rcases b with b | b
  ·exact wpAny_Name (wpAny_loadName_cell I.ok.kind b f a fin) hd
  ·exact wpAny_Name (wpAny_loadName_free I.ok.kind b f a fin d) hd
theorem aae {i j pos}:PE X (.Constant (.int i) j pos) (tC (.int i)):=fun _ _ _ H _ I h=>wpAny_Constant_int ⟨.int i,H,I.tok _,⟨_,rfl⟩,h⟩
theorem abi {b j pos}:PE X (.Constant (.bool b) j pos) (tC (.bl b)):=fun _ _ _ H _ I h=>Constant_bool ⟨.bl b,H,I,rfl,h⟩
theorem ak0 {j pos}:PE X (.Constant .none j pos) (tC .non):=fun _ _ _ H _ I h=>Constant_none ⟨.non,H,I,rfl,h⟩
def Gl (X:Cx) (x:Str):Prop:=X.env.kindOf x=some .globalImplicit
theorem au0 {E:Value->Shared->Prop} {pins:List (Addr × Obj)} {s:Shared} {σ:St} {H:Hp} {x:Str} {u:Value} {pos:Pos} {Q:Value->Shared->Prop} (I:Inv X pins σ H s) (a:Gl X x) (hm:X.mg x=some u) (h:Q u s)
  (hd:(x == ("__debug__" : Str))=false:=by decide):wpAny (model X.prog X.w) X.A (eval (.Name x pos) X.env) Q E s :=
 Calls.Name_function_global I.ok.kind a (Calls.loadGlobal_global (by rw [I.ok.glob];exact I.mod.glob.keeps I.bk) hm h) hd
theorem ad4 {E:Value->Shared->Prop} {pins:List (Addr × Obj)} {s:Shared} {σ:St} {H:Hp} {x:Str} {u:Value} {pos:Pos} {Q:Value->Shared->Prop} (I:Inv X pins σ H s) (d:Gl X x) (hm:X.mg x=none) (c:bootBuiltins x=some u) (h:Q u s)
  (hn:x ≠ "__name__":=by decide) (hd:(x == ("__debug__" : Str))=false:=by decide):wpAny (model X.prog X.w) X.A (eval (.Name x pos) X.env) Q E s:=by
 obtain ⟨mb,b,a⟩:=I.mod.blt
 exact Calls.Name_function_global I.ok.kind d (Calls.loadGlobal_builtin (by rw [I.ok.glob];exact I.mod.glob.keeps I.bk) hm (by rw [I.ok.blt];exact b.keeps I.bk) ((a x hn).trans c) h) hd
theorem adi {x:Str} {v:V} {u:Value} {pos:Pos} (b:Gl X x) (hm:X.mg x=none) (a:bootBuiltins x=some u) (r:RelV v u) (hn:x ≠ "__name__":=by decide) (hd:(x == ("__debug__" : Str))=false:=by decide):PE X (.Name x pos) (tC v) :=
 fun _ _ _ H _ I h=>ad4 I b hm a ⟨v,H,I,r,h⟩ hn hd
variable {a b:Expr} {ta tb:TE} {pos:Pos}
def PC (X:Cx) (op:CmpOp) (a b:Expr) (t:TE):Prop :=
 ∀ (pins:List (Addr × Obj)) (s:Shared) (σ:St) (H:Hp) (Q:VK),Inv X pins σ H s->t σ H Q ->
  wpAny (model X.prog X.w) X.A (eval a X.env) (fun v s₁=>wpAny (model X.prog X.w) X.A (eval b X.env) (fun u s₂=>wpAny (model X.prog X.w) X.A (compareOp op v u) (EP X pins σ Q) X.xe s₂) X.xe s₁) X.xe s
def tB (t:TE):TT:=fun σ H Q=>t σ H fun x H1=>∃ c,x=.bl c/\Q c H1
theorem aqa {op:CmpOp} {t:TE} (h:PC X op a b t) (f:behindInMarks op b=false:=by first | exact nobehind _ (by decide) (by decide) | rfl):PT X (.Compare a [op] [b] pos) (tB t):=by
 intro pins s σ H Q I g
 refine wpAny_isTrue_Compare1 (thn (h pins s σ H _ I g) fun v s1 f=>thn f fun u s2 j=>thn j fun c o ⟨x,n,i,m,l⟩=>?_) f
 obtain ⟨d,rfl,q⟩:=l
 cases m
 exact aJ7 ⟨n,i,q⟩
theorem aci {e:Expr} {t:TE} (h:PE X e t) (f:∀ whole,isTrue e X.env whole=(do let v ← whole;standAt e.pos;holding [v] (truthy v)):=by intro _;rfl):PT X e (tB t):=by
 intro pins s σ H Q I a
 refine isTrue_plain (thn (h pins s σ H _ I a) fun v s1 ⟨x,i,b,g,c⟩=>?_) (f _)
 obtain ⟨d,rfl,q⟩:=c
 cases g
 exact aJ7 ⟨i,b,q⟩
variable {tA tB':TT} {rest:List Expr}
def tAnd (t u:TT):TT:=fun σ H Q=>t σ H fun c H1=>if c=true then u σ H1 Q else Q false H1
def tOr (t u:TT):TT:=fun σ H Q=>t σ H fun c H1=>if c=true then Q true H1 else u σ H1 Q
def tNot (t:TT):TT:=fun σ H Q=>t σ H fun c H1=>Q (!c) H1
theorem aez (ha:PT X a tA):PW X (.BoolOp .And [a] pos) tA:=by
 intro b pins s σ H Q I h
 refine isTrue_and (thn (ha pins s σ H Q I h) fun c s1 e=>?_)
 cases c with
 | true=>exact isTrue_and_nil e
 | false=>exact e
theorem ad5 (ha:PT X a tA):PW X (.BoolOp .Or [a] pos) tA:=by
 intro b pins s σ H Q I h
 refine isTrue_or (thn (ha pins s σ H Q I h) fun c s1 e=>?_)
 cases c with
 | false=>exact isTrue_or_nil e
 | true=>exact e
theorem afu (ha:PT X a tA) (hb:PW X (.BoolOp .And (b :: rest) pos) tB'):PW X (.BoolOp .And (a :: b :: rest) pos) (tAnd tA tB'):=by
 intro i pins s σ H Q I h
 refine isTrue_and (thn (ha pins s σ H _ I h) fun c s1 ⟨g,f,d⟩=>?_)
 cases c with
 | true=>exact hb i pins s1 σ g Q f d
 | false=>exact ⟨g,f,d⟩
theorem afc (ha:PT X a tA) (hb:PW X (.BoolOp .Or (b :: rest) pos) tB'):PW X (.BoolOp .Or (a :: b :: rest) pos) (tOr tA tB'):=by
 intro i pins s σ H Q I h
 refine isTrue_or (thn (ha pins s σ H _ I h) fun c s1 ⟨g,f,d⟩=>?_)
 cases c with
 | true=>exact ⟨g,f,d⟩
 | false=>exact hb i pins s1 σ g Q f d
theorem acd (ha:PT X a tA):PT X (.UnaryOp .Not a pos) (tNot tA):=by
 intro pins s σ H Q I h
 exact isTrue_not (ha pins s σ H (fun c b=>Q (!c) b) I h)
def aou (ta tb:TE):TE:=fun σ H Q=>ta σ H fun x H1=>∃ c,x=.bl c/\if c=true then tb σ H1 Q else Q (.bl false) H1
def aov (ta:TE):TE:=fun σ H Q=>ta σ H fun x H1=>∃ c,x=.bl c/\Q (.bl (!c)) H1
theorem ak1 {op} {t:TE} (h:PE X a t):PE X (.BoolOp op [a] pos) t:=fun pins s σ H Q I b=>BoolOp_one (h pins s σ H Q I b)
theorem ak2 (ha:PE X a ta) (hb:PE X (.BoolOp .And (b :: rest) pos) tb):PE X (.BoolOp .And (a :: b :: rest) pos) (aou ta tb):=by
 intro pins s σ H Q I h
 refine BoolOp_and (thn (ha pins s σ H _ I h) fun v s1 ⟨x,g,f,i,d⟩=>?_)
 obtain ⟨c,rfl,d⟩:=d
 cases i
 refine aJ7 ?_
 cases c with
 | true=>exact hb pins s1 σ g Q f d
 | false=>exact ⟨.bl false,g,f,rfl,d⟩
theorem axi (ha:PE X a ta):PE X (.UnaryOp .Not a pos) (aov ta):=by
 intro pins s σ H Q I h
 refine UnaryOp_ (thn (ha pins s σ H _ I h) fun v s1 ⟨x,g,f,d,b⟩=>?_)
 obtain ⟨c,rfl,b⟩:=b
 cases d
 exact not_of (aJ7 ⟨.bl (!c),g,f,rfl,b⟩)
end
def SqL (K:Frag) (H:Hp) (a:Addr) (xs:List V):Prop :=
 Rd H a (.lst xs) ∨
  ∃ (o:Obj) (its:Array Value) (n:Nat),K.lookup a=some o/\o.cls=.type "list"/\o.dict=none/\o.data=.seq its n/\its.size<=sizeLine/\Vals xs its.toList
def SqT (K:Frag) (H:Hp) (a:Addr) (xs:List V):Prop :=
 Rd H a (.tup xs) ∨
  ∃ (o:Obj) (its:Array Value) (n:Nat),K.lookup a=some o/\o.cls=.type "tuple"/\o.data=.seq its n/\its.size<=sizeLine/\Vals xs its.toList
def absV:Value->Option V
 | .none=>some .non
 | .bool b=>some (.bl b)
 | .int i _=>some (.int i)
 | .str x _=>some (.str x)
 | .bytes b _=>some (.byt b)
 | .float b _=>some (.flt b)
 | .ref a=>some (.ref a)
 | .type n=>some (.ty n)
 | _=>none
theorem RelV.abs {x:V} {u:Value} (r:RelV x u):absV u=some x:=by
 cases x with
 | non=>cases r;rfl
 | bl _=>cases r;rfl
 | int _=>obtain ⟨t,rfl⟩:=r;rfl
 | str _=>obtain ⟨t,rfl⟩:=r;rfl
 | byt _=>obtain ⟨t,rfl⟩:=r;rfl
 | flt _=>obtain ⟨t,rfl⟩:=r;rfl
 | ref _=>cases r;rfl
 | ty _=>cases r;rfl
theorem RelV.inj {x y:V} {u:Value} (r:RelV x u) (q:RelV y u):x=y:=aC5 (r.abs.symm.trans q.abs)
theorem Vals.inj:∀ {xs ys:List V} {us:List Value},Vals xs us->Vals ys us->xs=ys
 | _,_,_,.nil,.nil=>rfl
 | _,_,_,.cons r t,.cons r' t'=>by rw [r.inj r',Vals.inj t t']
section
variable {X:Cx} {pins:List (Addr × Obj)} {σ:St} {H:Hp} {s:Shared} {a:Addr} {xs ys:List V}
theorem SqL.of {K:Frag} (h:H a=some (.lst xs)):SqL K H a xs:=.inl (.inl h)
theorem SqT.of {K:Frag} (h:H a=some (.tup xs)):SqT K H a xs:=.inl (.inl h)
theorem Inv.list (I:Inv X pins σ H s) (h:SqL X.K H a xs):∃ its:List Value,Vals xs its/\PlainL s.heap a its.toArray/\xs.length<=sizeLine:=by
 rcases h with h | ⟨o,its,n,d,c,hd,b,hz,r⟩
 ·obtain ⟨z,its,n,r,e⟩:=h.ok I.hok
  exact ⟨its,r,⟨_,n,e,rfl,rfl,rfl⟩,z⟩
 ·refine ⟨its.toList,r,⟨o,n,I.kIn a o d,c,hd,by simpa using b⟩,?_⟩
  have e:=r.length
  simp only [Array.length_toList] at e
  omega
theorem Inv.tuple (I:Inv X pins σ H s) (h:SqT X.K H a xs):∃ its:List Value,Vals xs its/\IsTup s.heap a its.toArray/\xs.length<=sizeLine:=by
 rcases h with h | ⟨o,its,n,d,c,b,hz,r⟩
 ·obtain ⟨z,its,r,p⟩:=h.ok I.hok
  exact ⟨its,r,p,z⟩
 ·refine ⟨its.toList,r,⟨o,I.kIn a o d,c,n,by simpa using b⟩,?_⟩
  have e:=r.length
  simp only [Array.length_toList] at e
  omega
theorem Inv.list_inj (I:Inv X pins σ H s) (h:SqL X.K H a xs) (h':SqL X.K H a ys):xs=ys:=by
 obtain ⟨its,r,⟨o,n,e,_,_,d⟩,_⟩:=I.list h
 obtain ⟨its',f,⟨o',g,b,_,_,d'⟩,_⟩:=I.list h'
 rw [e] at b;cases b
 rw [d] at d'
 injection d' with c _
 have:its=its':=by simpa using congrArg Array.toList c
 subst this
 exact r.inj f
end
abbrev Cx.wish (X:Cx) (E:Value->Shared->Prop):Cx:={ X with xe:=E }
abbrev Cx.nox (X:Cx):Cx:=X.wish fun _ _=>False
theorem Cx.Ok.wish {X:Cx} (ok:X.Ok) (E:Value->Shared->Prop):(X.wish E).Ok :=
 ⟨ok.mod,ok.kind,ok.glob,ok.blt,ok.above,ok.inj,ok.has,ok.cab,ok.hd,ok.frames,ok.stk,ok.exf,ok.bs,ok.bsz,ok.noex,ok.exfs,ok.funs,ok.frf⟩
theorem Cx.Ok.unwish {X:Cx} {E:Value->Shared->Prop} (ok:(X.wish E).Ok):X.Ok :=
 ⟨ok.mod,ok.kind,ok.glob,ok.blt,ok.above,ok.inj,ok.has,ok.cab,ok.hd,ok.frames,ok.stk,ok.exf,ok.bs,ok.bsz,ok.noex,ok.exfs,ok.funs,ok.frf⟩
section
variable {X:Cx} {pins:List (Addr × Obj)} {σ:St} {H:Hp} {s:Shared} {E:Value->Shared->Prop}
theorem Inv.wish (I:Inv X pins σ H s) (E:Value->Shared->Prop):Inv (X.wish E) pins σ H s:=⟨I.ok.wish E,I.os,I.bare,I.base,I.loc,I.cell,I.free,I.freeC,I.pin,I.hok,I.len⟩
theorem Inv.unwish (I:Inv (X.wish E) pins σ H s):Inv X pins σ H s:=⟨I.ok.unwish,I.os,I.bare,I.base,I.loc,I.cell,I.free,I.freeC,I.pin,I.hok,I.len⟩
theorem SP.unwish {D:Ends} {f:Flow} {b:Shared} (h:SP (X.wish E) pins D f b):SP X pins D f b:=by
 cases f with
 | next=>obtain ⟨a,H',I,q⟩:=h;exact ⟨a,H',I.unwish,q⟩
 | brk=>obtain ⟨a,H',I,q⟩:=h;exact ⟨a,H',I.unwish,q⟩
 | cont=>obtain ⟨a,H',I,q⟩:=h;exact ⟨a,H',I.unwish,q⟩
 | ret u=>obtain ⟨v,a,H',I,r,q⟩:=h;exact ⟨v,a,H',I.unwish,r,q⟩
theorem PSs.nox {st:List Stmt} {t:TS} (h:PSs X.nox st t):PSs X st t:=fun pins s σ H D I a =>
 aJ2 (h pins s σ H D (I.wish _) a) (fun _ _ q=>q.unwish) fun _ _ z=>False.elim z
end
section
variable {X:Cx} {st:Stmt} {rest:List Stmt} {t u:TS} {e:Expr} {te:TE} {pos:Pos}
def aow:TS:=fun D σ H=>D.nx σ H
def tSeq (t u:TS):TS:=fun D σ H=>t { D with nx:=u D } σ H
theorem aaz:PSs X [] aow:=fun _ _ σ H _ I h=>wpAny_execs_nil ⟨σ,H,I,h⟩
theorem aac (c:PS X st t) (b:PSs X rest u):PSs X (st :: rest) (tSeq t u):=by
 intro pins s σ H D I h
 refine wpAny_execs_cons (thn (c pins s σ H { D with nx:=u D } I h) fun f s1 q=>?_)
 cases f with
 | next =>
  obtain ⟨a,H',d,q⟩:=q
  exact b pins s1 a H' D d q
 | ret v=>exact q
 | brk=>exact q
 | cont=>exact q
theorem aag (a:PS X st t):PSs X [st] t:=by
 intro pins s σ H D I h
 refine wpAny_execs_cons (thn (a pins s σ H D I h) fun f s1 q=>?_)
 cases f with
 | next=>exact wpAny_execs_nil q
 | ret v=>exact q
 | brk=>exact q
 | cont=>exact q
theorem Inv.quiet {pins:List (Addr × Obj)} {σ:St} {H:Hp} {s:Shared} (I:Inv X pins σ H s):interactive X.env=false:=by simp [interactive,I.ok.kind]
def aox (te:TE):TS:=fun D σ H=>te σ H fun _ H1=>D.nx σ H1
theorem abk (b:PE X e te) (c:swapsWith e none pos.line X.env=pure false:=by rfl):PS X (.Expr e pos) (aox te):=by
 intro pins s σ H D I h
 exact wpAny_Expr_any (thn (b pins s σ H _ I h) fun v s1 ⟨x,f,d,g,a⟩=>⟨σ,f,d,a⟩) I.quiet c
def tRet (te:TE):TS:=fun D σ H=>te σ H D.rt
theorem aat (b:PE X e te):PS X (.Return (some e) pos) (tRet te):=by
 intro pins s σ H D I h
 exact wpAny_Return_some (thn (b pins s σ H _ I h) fun v s1 ⟨x,f,d,c,a⟩=>⟨x,σ,f,d,c,a⟩)
def tIfS (c:TT) (t u:TS):TS:=fun D σ H=>c σ H fun b H1=>if b=true then t D σ H1 else u D σ H1
theorem aa8 {c:Expr} {a b:List Stmt} {f:TT} (l:PT X c f) (ha:PSs X a t) (hb:PSs X b u):PS X (.If c a b pos) (tIfS f t u):=by
 intro pins s σ H D I h
 refine wpAny_If (thn (l pins s σ H _ I h) fun d s1 ⟨j,g,i⟩=>?_)
 cases d with
 | true=>exact ha pins s1 σ j D g i
 | false=>exact hb pins s1 σ j D g i
def axj:TS:=fun _ _ _=>False
theorem ak3:PS X st axj:=fun _ _ _ _ _ _ h=>h.elim
end
abbrev TG:=V->St->Hp->(St->Hp->Prop)->Prop
abbrev TGs:=List V->St->Hp->(St->Hp->Prop)->Prop
def PG (X:Cx) (target:Expr) (t:TG):Prop :=
 ∀ (pins:List (Addr × Obj)) (s:Shared) (σ:St) (H:Hp) (v:V) (u:Value) (Q:St->Hp->Prop),Inv X pins σ H s->RelV v u->t v σ H Q ->
  wpAny (model X.prog X.w) X.A (assign target X.env u) (fun _ s'=>∃ σ' H',Inv X pins σ' H' s'/\Q σ' H') X.xe s
def PGs (X:Cx) (ts:List Expr) (t:TGs):Prop :=
 ∀ (pins:List (Addr × Obj)) (s:Shared) (σ:St) (H:Hp) (vs:List V) (us:List Value) (Q:St->Hp->Prop),Inv X pins σ H s->Vals vs us->t vs σ H Q ->
  wpAny (model X.prog X.w) X.A (assignInOrder ((assignEach ts X.env).map (·.2)) us) (fun _ s'=>∃ σ' H',Inv X pins σ' H' s'/\Q σ' H') X.xe s
abbrev TSet:=V->V->V->Hp->(Hp->Prop)->Prop
def PSet (X:Cx) (t:TSet):Prop :=
 ∀ (pins:List (Addr × Obj)) (s:Shared) (σ:St) (H:Hp) (o i v:V) (ov iv u:Value) (Q:Hp->Prop),Inv X pins σ H s->RelV o ov->RelV i iv->RelV v u->t o i v H Q ->
  wpAny (model X.prog X.w) X.A (setItem ov iv u) (fun _ s'=>∃ H',Inv X pins σ H' s'/\Q H') X.xe s
section
variable {X:Cx} {pos:Pos}
def abf (i:Nat):TG:=fun v σ H Q=>Q (σ.set i (some v)) H
theorem aak {i:Nat} {x:Str} (a:X.N.Nodup) (hi:X.N[i]?=some x) (b:Loc X.env.scope x) (hf:X.fn x=true\/X.env.scope.names.lookup x=some .local:=by first | exact .inl rfl | exact .inr rfl | assumption):PG X (.Name x pos) (abf i):=by
 intro pins s σ H v u Q I r h
 exact wpAny_assign_Name (akz I a hi b r (fun d c=>⟨_,H,c,h⟩) hf)
def gNil:TGs:=fun vs σ H Q=>vs=[]/\Q σ H
def auf (t:TG) (u:TGs):TGs:=fun vs σ H Q=>∃ v r,vs=v :: r/\t v σ H fun σ' H'=>u r σ' H' Q
theorem agj:PGs X [] gNil:=by
 intro pins s σ H vs us Q I r h
 obtain ⟨e,h⟩:=h
 subst e
 cases r
 exact assignInOrder_nil ⟨σ,H,I,h⟩
theorem acj {e:Expr} {es:List Expr} {t:TG} {u:TGs} (d:PG X e t) (c:PGs X es u)
  (g:(assignEach (e :: es) X.env).map (·.2)=assign e X.env :: (assignEach es X.env).map (·.2):=by rfl):PGs X (e :: es) (auf t u):=by
 intro pins s σ H vs us Q I r h
 obtain ⟨v,l,i,h⟩:=h
 subst i
 cases r with
 | cons r rr =>
  rw [g]
  refine assignInOrder_cons (thn (d pins s σ H _ _ _ I r h) fun _ s1 ⟨a,j,b,f⟩=>?_)
  exact c pins s1 a j _ _ Q b rr f
def gTup (K:Frag) (n:Nat) (t:TGs):TG:=fun v σ H Q=>∃ a xs,v=.ref a/\SqT K H a xs/\xs.length=n/\t xs σ H Q
theorem aho {es:List Expr} {k:Nat} {t:TGs} {n:Nat} (p:X.calm=true) (h:PGs X es t)
  (hn:(assignEach es X.env).length=n:=by rfl) (d:(assignEach es X.env).findIdx? (·.1)=none:=by rfl):PG X (.Tuple es k pos) (gTup X.K n t):=by
 intro pins s σ H v u Q I r c
 obtain ⟨a,xs,q,i,l,c⟩:=c
 subst q
 cases r
 obtain ⟨its,f,j,hz⟩:=I.tuple i
 refine assign_Tuple_tuple (I.ok.hd p) j (by simp [hn,← l,f.length]) d fun h' m=>?_
 have g:Inv X pins σ H { s with heap:=h' }:=I.kept (t':=s.toks) fun b o e=>m b o (aB5 (aI8 e)) e
 exact h pins _ σ H xs _ Q g (by simpa using f) c
def gSub (to ti:TE) (t:TSet):TG:=fun v σ H Q=>to σ H fun o H1=>ti σ H1 fun i H2=>t o i v H2 fun H3=>Q σ H3
theorem afv {o i:Expr} {to c:TE} {t:TSet} (w:PE X o to) (hi:PE X i c) (n:PSet X t)
  (ha:∀ v,assign (.Subscript o i pos) X.env v=(do
   let a ← holding [v] (eval o X.env)
   let b ← holding [v,a] (eval i X.env)
   standAt pos
   holding [v,a,b] (setItem a b v)
   release [v,a,b] []):=by intro _;rfl):PG X (.Subscript o i pos) (gSub to c t):=by
 intro pins s σ H v u Q I r h
 rw [ha]
 refine aI5 (aJ0 (thn (w pins s σ H _ I h) fun a s1 ⟨x,z,g,q,l⟩=>?_))
 refine aI5 (aJ0 (thn (hi pins s1 σ z _ g l) fun b s2 ⟨y,H2,j,p,m⟩=>?_))
 refine aI5 (wpAny_standAt (aI5 (aJ0 (thn (n pins s2 σ H2 x y v a b u _ j q p r m) fun _ A ⟨H3,f,d⟩=>?_))))
 exact wpAny_release ⟨σ,H3,f,d⟩
def tAsg (te:TE) (g:TG):TS:=fun D σ H=>te σ H fun x H1=>g x σ H1 D.nx
theorem ad6 {tg e:Expr} {te:TE} {g:TG} (j:PE X e te) (i:PG X tg g) (f:swapsWithSole [tg] e pos.line X.env=pure false:=by rfl) (a:swappedStores [tg] e X.env=pure none:=by rfl)
  (c:(assignEach [tg] X.env).map (·.2)=[assign tg X.env]:=by rfl):PS X (.Assign [tg] e pos) (tAsg te g):=by
 intro pins s σ H D I h
 refine wpAny_Assign_stores (thn (j pins s σ H _ I h) fun v s1 ⟨x,m,b,l,d⟩=>?_) f a
 rw [c]
 exact thn (i pins s1 σ m x v _ b l d) fun _ s2 q=>q
theorem aaq {i:Nat} {x:Str} {e:Expr} {te:TE} {a:Pos} (b:X.N.Nodup) (hi:X.N[i]?=some x) (j:Loc X.env.scope x) (l:PE X e te) (g:swapsWith e (some (.Name x a)) pos.line X.env=pure false:=by rfl) (hf:X.fn x=true\/X.env.scope.names.lookup x=some .local:=by first | exact .inl rfl | exact .inr rfl | assumption) :
  PS X (.Assign [.Name x a] e pos) (tAsg te (abf i)):=by
 intro pins s σ H D I h
 refine wpAny_Assign_Name (thn (l pins s σ H _ I h) fun v s1 ⟨y,n,c,m,f⟩=>?_) g
 exact akz c b hi j m (fun s2 d=>⟨_,n,d,f⟩) hf
end
section
variable {X:Cx} {pos:Pos}
def aqb (c:TT) (tb:TS):TS:=fun D σ H=>∃ W:Nat->St->Hp->Prop,(∃ m,W m σ H)/\∀ m σ H,W m σ H ->
 c σ H fun b H1=>if b=true then ∃ N:St->Hp->Prop,(∀ σ' H',N σ' H'->∃ m',m' < m/\W m' σ' H')/\tb { D with nx:=N,ct:=N,bk:=D.nx } σ H1 else D.nx σ H1
theorem ak4 {c:Expr} {body:List Stmt} {u:TT} {r:TS} (z:PassesOwn (model X.prog X.w) X.A X.env X.xe) (K:PT X c u) (hb:PSs X body r):PS X (.While c body [] pos) (aqb u r):=by
 intro pins s σ H D I h
 obtain ⟨W,⟨G,E⟩,g⟩:=h
 refine wpAny_While (codeAny_whileLoop (fun n J=>∃ i H',Inv X pins i H' J/\W n i H') ?_ G ⟨σ,H,I,E⟩)
 rintro n s1 ⟨d,B,F,C⟩
 refine wpAny_passesOwn z (thn (K pins s1 d B _ F (g n d B C)) fun b s2 ⟨H2,y,l⟩=>?_)
 cases b with
 | true =>
  obtain ⟨N,x,l⟩:=l
  rw [aF1 rfl]
  refine wpAny_passesOwn z (thn (hb pins s2 d H2 _ y l) fun f L j=>?_)
  cases f with
  | next =>
   obtain ⟨a,H3,m,p⟩:=j
   obtain ⟨q,hm,o⟩:=x a H3 p
   exact ⟨q,hm,a,H3,m,o⟩
  | cont =>
   obtain ⟨a,H3,m,p⟩:=j
   obtain ⟨q,hm,o⟩:=x a H3 p
   exact ⟨q,hm,a,H3,m,o⟩
  | brk=>exact j
  | ret v=>exact j
 | false =>
  rw [aF2 aA9]
  exact wpAny_execs_nil ⟨d,H2,y,l⟩
end
structure It where
 go:Nat->Hp->Prop
 yld:Nat->Hp->V->Hp->Prop
 stop:Nat->Hp->Prop
def FpOk (X:Cx) (pins:List (Addr × Obj)) (H:Hp) (b:Addr):Prop :=
 H b=none/\b ≠ X.env.locals/\b ∉ X.fs/\(b∈X.ex\/X.s₀.heap.objs.size<=b)/\(∀ x c,X.env.cells.lookup x=some c->c ≠ b)/\∀ p∈X.pn ++ pins,p.1 ≠ b
theorem Inv.fpOk {X:Cx} {pins:List (Addr × Obj)} {σ:St} {H H':Hp} {s:Shared} {b:Addr} (I:Inv X pins σ H s) (hb:s.heap.objs.size<=b) (hn:H' b=none):FpOk X pins H' b:=by
 refine ⟨hn,Nat.ne_of_gt (aC4 I.lt hb),I.nofs hb,.inr (aC9 I.sz hb),fun x c e z=>?_,fun p a z=>?_⟩
 ·obtain ⟨v,q⟩:=I.cell x c e
  exact absurd (aC4 q.lt (by rw [z];exact hb)) (aG0 _)
 ·exact absurd (aC4 (aI8 (I.pin p a).1) (by rw [z];exact hb)) (aG0 _)
structure Turn (P:Program) (w:World) (K:Frag) (tg:Expr) (J:It) (fp:List Addr) (it:Addr) (tn:Nat->Heap->Prop):Prop where
 mem:it∈fp
 obj:∀ i h,tn i h->∀ b∈fp,∃ o,h.get? b=some o/\∀ v,o.data ≠ .cell v
 keep:∀ i h h',tn i h->(∀ b∈fp,∀ o,h.get? b=some o->h'.get? b=some o)->tn i h'
 item:∀ (X:Cx),X.prog=P->X.w=w->X.K=K->X.calm=true->∀ (i:Nat) (pins:List (Addr × Obj)) (s:Shared) (σ:St) (H:Hp) (E:Value->Shared->Prop),Inv X pins σ H s->(∀ b∈fp,FpOk X pins H b)->tn i s.heap->J.go i H ->
  wpAny (model P w) X.A (pyNext (.ref it)) (fun r s1=>∃ u,r=some u /\
   wpAny (model P w) X.A (letOwnedTupleGo tg (.ref it) u) (fun _ s2=>∃ x H',Inv X pins σ H' s2/\RelV x u/\J.yld i H x H'/\tn (i+1) s2.heap/\∀ b∈fp,H' b=none) E s1) E s
 done:∀ (X:Cx),X.prog=P->X.w=w->X.K=K->X.calm=true->∀ (i:Nat) (pins:List (Addr × Obj)) (s:Shared) (σ:St) (H:Hp) (E:Value->Shared->Prop),Inv X pins σ H s->(∀ b∈fp,FpOk X pins H b)->tn i s.heap->J.stop i H ->
  wpAny (model P w) X.A (pyNext (.ref it)) (fun r s1=>r=none/\Inv X pins σ H s1) E s
 self:∀ (A:Around) (i:Nat) (s:Shared) (Q:Value->Shared->Prop) (E:Value->Shared->Prop),tn i s.heap->Q (.ref it) s->wpAny (model P w) A (pyIter (.ref it)) Q E s
abbrev TI:=St->Hp->(It->Hp->Prop)->Prop
def PIE (X:Cx) (pins:List (Addr × Obj)) (σ:St) (tg:Expr) (R:It->Hp->Prop) (itv:Value) (s2:Shared):Prop :=
 ∃ (it:Addr) (fp:List Addr) (tn:Nat->Heap->Prop) (J:It) (H':Hp),itv=.ref it/\Inv X pins σ H' s2/\Turn X.prog X.w X.K tg J fp it tn/\tn 0 s2.heap/\(∀ b∈fp,FpOk X pins H' b)/\R J H'
def PI (X:Cx) (tg iter:Expr) (wi:TI):Prop :=
 ∀ (pins:List (Addr × Obj)) (s:Shared) (σ:St) (H:Hp) (R:It->Hp->Prop),Inv X pins σ H s->wi σ H R ->
  wpAny (model X.prog X.w) X.A (eval iter X.env) (fun v s1=>wpAny (model X.prog X.w) X.A (pyIter v) (PIE X pins σ tg R) X.xe s1) X.xe s
theorem aug {M:Model} {A:Around} {E:Value->Shared->Prop} {s:Shared} {tg:Expr} {it:Addr} {u:Value} {o:Obj} {n:String} {vs:Array Value} {Q:Unit->Shared->Prop} (b:s.heap.get? it=some o) (c:o.cls=.type n) (hd:o.data=.fields vs)
  (hn:["enumerate","zip","dict_itemiterator","dict_reverseitemiterator","odict_iterator","itertools.zip_longest","itertools.pairwise"].contains n=false) (a:Q () s):wpAny M A (letOwnedTupleGo tg (.ref it) u) Q E s:=by
 unfold letOwnedTupleGo
 cases tg <;> first
  | exact aI6 a
  | (cases u <;> first
    | exact aI6 a
    | (refine aI5 (wpAny_load b ?_)
       rw [c,hd]
       show wpAny M A (if (["enumerate","zip","dict_itemiterator","dict_reverseitemiterator","odict_iterator","itertools.zip_longest","itertools.pairwise"].contains n && vs[0]? == some (rawInt _))=true then _ else _) Q E s
       rw [aF2 (by intro h;rw [hn,Bool.false_and] at h;cases h)]
       exact aI6 a))
def Itl (K:Frag) (a:Addr):It :=
 ⟨fun i H=>∃ xs x,SqL K H a xs/\xs[i]?=some x,fun i H x H'=>H'=H/\∀ xs,SqL K H a xs->xs[i]?=some x,fun i H=>∃ xs,SqL K H a xs/\xs.length<=i⟩
def Itr (lo:Int) (n:Nat):It:=⟨fun i _=>i < n,fun i H x H'=>H'=H/\x=.int (lo+i),fun i _=>n<=i⟩
theorem aqc {P:Program} {w:World} {K:Frag} {tg:Expr} (a it:Addr):Turn P w K tg (Itl K a) [it] it (fun i h=>h.IsListIter it a i) where
 mem:=by simp
 obj:=fun i h st b hb=>by
  have e:b=it:=by simpa using hb
  subst e
  obtain ⟨o,e,c,d⟩:=st
  exact ⟨o,e,fun v z=>by rw [d] at z;cases z⟩
 keep:=fun i h h' st k=>st.at fun o e=>k it (by simp) o e
 item:=by
  intro X q g n C i pins s σ H E I hf st y
  subst q g n
  obtain ⟨xs,x,f,r⟩:=y
  obtain ⟨its,j,p,hz⟩:=I.list f
  obtain ⟨u,D,G⟩:=j.get r
  obtain ⟨B,f1,M,l,A,m⟩:=hf it (by simp)
  refine wpAny_pyNext_list_item st p.isList (x:=u) (by simpa using D) fun h' st' sb=>?_
  have F:Inv X pins σ H { s with heap:=h' }:=I.turned (t':=s.toks) (fun b o hb e=>(sb.2 b hb).trans e) B f1 l A m
  obtain ⟨o,e,c,d⟩:=id st'
  exact ⟨u,rfl,aug (s:={ s with heap:=h' }) e c d (by decide) ⟨x,H,F,G,⟨rfl,fun ys J=>by rw [I.list_inj J f];exact r⟩,st',fun b hb=>(hf b hb).1⟩⟩
 done:=by
  intro X q g n C i pins s σ H E I hf st y
  subst q g n
  obtain ⟨xs,f,r⟩:=y
  obtain ⟨its,j,p,hz⟩:=I.list f
  obtain ⟨B,f1,M,l,A,m⟩:=hf it (by simp)
  have N:=j.length
  exact wpAny_pyNext_list_end (I.ok.hd C) st p.isList (by simp;omega) fun h' L=>⟨rfl,I.turned (t':=s.toks) (fun b o hb e=>L b o hb e) B f1 l A m⟩
 self:=fun _ _ _ _ _ st h=>wpAny_pyIter_listiter st h
theorem aoy {P:Program} {w:World} {K:Frag} {tg:Expr} (it:Addr) (lo:Int) (n:Nat):Turn P w K tg (Itr lo n) [it] it (fun i h=>IsRangeIter h it (lo+(i:Nat) * 1) ((n:Int) - (i:Nat)) 1) where
 mem:=by simp
 obj:=fun i h st b hb=>by
  have e:b=it:=by simpa using hb
  subst e
  exact ⟨_,st,fun v z=>by
   have y:Data.fields _=Data.cell v:=z
   cases y⟩
 keep:=fun i h h' st k=>k it (by simp) _ st
 item:=by
  intro X g a f j i pins s σ H E I hf st l
  subst g a f
  obtain ⟨p,f1,B,c,m,d⟩:=hf it (by simp)
  have W:=Walks.range (prog:=X.prog) (w:=X.w) (I.ok.hd j) it lo 1 n
  refine W.item i s _ _ l st fun v h' q u st' A=>?_
  obtain ⟨t,rfl⟩:=u
  have r:Inv X pins σ H { s with heap:=h',toks:=q }:=I.turned (fun b o hb e=>A b o (by simpa using hb) e) p f1 c m d
  refine ⟨_,rfl,aug (s:={ s with heap:=h',toks:=q }) (n:="range_iterator") st' rfl rfl (by decide) ⟨.int (lo+i),H,r,⟨t,?_⟩,⟨rfl,rfl⟩,st',fun b hb=>(hf b hb).1⟩⟩
  rw [Int.mul_one]
 done:=by
  intro X g a f j i pins s σ H E I hf st l
  subst g a f
  obtain ⟨p,f1,B,c,m,d⟩:=hf it (by simp)
  exact wpAny_pyNext_range_end (I.ok.hd j) st (by have:n<=i:=l;omega) fun h' x=>⟨rfl,I.turned (t':=s.toks) (fun b o hb e=>x b o hb e) p f1 c m d⟩
 self:=fun _ _ _ _ _ st h=>wpAny_pyIter_rangeiter st h
section
variable {X:Cx} {tg:Expr}
def aoz (K:Frag) (tl:TE):TI:=fun σ H R=>tl σ H fun x H1=>∃ a,x=.ref a/\(∃ xs,SqL K H1 a xs)/\R (Itl K a) H1
theorem aa5 {l:Expr} {tl:TE} (g:PE X l tl):PI X tg l (aoz X.K tl):=by
 intro pins s σ H R I h
 refine thn (g pins s σ H _ I h) fun v s1 ⟨x,j,c,i,f⟩=>?_
 obtain ⟨a,e,⟨xs,d⟩,q⟩:=f
 subst e
 cases i
 obtain ⟨its,m,p,hz⟩:=c.list d
 refine aJ8 p.isList ?_
 refine ⟨s1.heap.objs.size,[s1.heap.objs.size],_,_,j,rfl,c.kept (t':=s1.toks) fun b o e=>aI7 _ e,aqc a _,⟨_,aI9 _ rfl,rfl,rfl⟩,fun b hb=>?_,q⟩
 have e:b=s1.heap.objs.size:=by simpa using hb
 subst e
 exact c.fpOk (aA6 _) (c.hok.fresh (aA6 _))
theorem ak5 {pins:List (Addr × Obj)} {σ:St} {H:Hp} {s:Shared} {R:It->Hp->Prop} {E:Value->Shared->Prop} {lo hi:Int} {t u v:Tok} {c:Nat} (I:Inv X pins σ H s) (g : -(2 ^ 62)<=lo) (f:lo < 2 ^ 62) (i : -(2 ^ 62)<=hi) (d:hi < 2 ^ 62)
  (q:R (Itr lo (hi - lo).toNat) H):wpAny (model X.prog X.w) X.A (pyIter (.ref s.heap.objs.size)) (PIE X pins σ tg R) E { s with heap:=s.heap.push { cls:=.type "range",data:=.fields #[.int lo t,.int hi u,.int 1 v] },toks:=c }:=by
 refine wpAny_pyIter_range (IsRange.new ..) (small_one g f i d) ?_
 have a:Inv X pins σ H { s with heap:=s.heap.push { cls:=.type "range",data:=.fields #[.int lo t,.int hi u,.int 1 v] },toks:=c }:=I.kept fun b o e=>aI7 _ e
 refine ⟨(s.heap.push { cls:=.type "range",data:=.fields #[.int lo t,.int hi u,.int 1 v] }).objs.size,[(s.heap.push { cls:=.type "range",data:=.fields #[.int lo t,.int hi u,.int 1 v] }).objs.size],_,_,H,rfl,
  a.kept (t':=c) fun b o e=>aI7 _ e,aoy _ lo (hi - lo).toNat,?_,fun b hb=>?_,q⟩
 ·have j:lo+((0:Nat):Int) * 1=lo:=by simp
  have h:(((hi - lo).toNat:Nat):Int) - ((0:Nat):Int)=Builtin.Range.rangeSize lo hi 1:=by rw [rangeSize_one];split <;> omega
  show IsRangeIter _ _ (lo+((0:Nat):Int) * 1) ((((hi - lo).toNat:Nat):Int) - ((0:Nat):Int)) 1
  rw [j,h]
  exact aI9 _ rfl
 ·have e:b=(s.heap.push { cls:=.type "range",data:=.fields #[.int lo t,.int hi u,.int 1 v] }).objs.size:=by simpa using hb
  subst e
  exact a.fpOk (aA6 _) (a.hok.fresh (aA6 _))
def ao0 (ta:TA):TI:=fun σ H R=>ta σ H fun vs H1=>∃ j:Int,vs=[.int j]/\-(2 ^ 62)<=j/\j < 2 ^ 62/\R (Itr 0 j.toNat) H1
def auh (ta:TA):TI:=fun σ H R=>ta σ H fun vs H1=>∃ i j:Int,vs=[.int i,.int j]/\(-(2 ^ 62)<=i/\i < 2 ^ 62/\-(2 ^ 62)<=j/\j < 2 ^ 62)/\R (Itr i (j - i).toNat) H1
theorem aa6 {a:Expr} {c:TA} {p pos:Pos} (i:Gl X "range") (hm:X.mg "range" = none) (ha:PA X [a] c) (g:starEach [a] X.env=[(false,eval a X.env)]:=by rfl):PI X tg (.Call (.Name "range" p) [a] [] pos) (ao0 c):=by
 intro pins s σ H R I h
 refine Call_ (ad4 I i hm boot_range (PyProof.Rows.callWith_type1 (thn (ha pos pins s σ H _ I h) fun us s1 ⟨vs,m,d,l,b⟩=>?_) g rfl))
 obtain ⟨j,e,b,f,q⟩:=b
 subst e
 cases l with
 | cons r rr =>
  cases rr
  obtain ⟨t,rfl⟩:=r
  exact call_range_1 (ak5 d (by omega) (by omega) b f (by simpa using q))
theorem adt {a b:Expr} {f:TA} {p pos:Pos} (u:Gl X "range") (hm:X.mg "range" = none) (ha:PA X [a,b] f) (o:starEach [a,b] X.env=[(false,eval a X.env),(false,eval b X.env)]:=by rfl) (c:starEach [b] X.env=[(false,eval b X.env)]:=by rfl) :
  PI X tg (.Call (.Name "range" p) [a,b] [] pos) (auh f):=by
 intro pins s σ H R I h
 refine Call_ (ad4 I u hm boot_range (PyProof.Rows.callWith_type1 (thn (ha pos pins s σ H _ I h) fun us s1 ⟨vs,w,l,v,d⟩=>?_) (by rw [o,c]) (by rw [c];rfl)))
 obtain ⟨i,j,e,⟨d,n,g,m⟩,q⟩:=d
 subst e
 cases v with
 | cons r rr =>
  cases rr with
  | cons r' rr =>
   cases rr
   obtain ⟨t,rfl⟩:=r
   obtain ⟨t',rfl⟩:=r'
   exact call_range_2 (ak5 l d n g m q)
def tFor (wi:TI) (g:TG) (tb:TS):TS:=fun D σ H=>wi σ H fun J H1=>∃ W:Nat->Nat->St->Hp->Prop,(∃ m,W 0 m σ H1)/\∀ i m σ H,W i m σ H ->
 (J.stop i H/\D.nx σ H)\/(J.go i H/\∃ N:St->Hp->Prop,(∀ σ' H',N σ' H'->∃ m',m' < m/\W (i+1) m' σ' H')/\∀ x H',J.yld i H x H'->g x σ H' fun σ2 H2=>tb { D with nx:=N,ct:=N,bk:=D.nx } σ2 H2)
def ad7 (fp:List Addr) (h:Heap):List (Addr × Obj):=fp.filterMap fun b=>(h.get? b).map fun o=>(b,o)
theorem ab0 {fp:List Addr} {h:Heap} {b:Addr} {o:Obj} (hb:b∈fp) (e:h.get? b=some o):(b,o)∈ad7 fp h:=List.mem_filterMap.mpr ⟨b,hb,by rw [e];rfl⟩
theorem aqd {fp:List Addr} {h:Heap} {p:Addr × Obj} (a:p∈ad7 fp h):p.1∈fp/\h.get? p.1=some p.2:=by
 obtain ⟨b,hb,e⟩:=List.mem_filterMap.mp a
 cases q:h.get? b with
 | none=>rw [q] at e;cases e
 | some o =>
  rw [q] at e
  have c:(b,o)=p:=aC5 e
  subst c
  exact ⟨hb,q⟩
theorem Inv.pinned {pins:List (Addr × Obj)} {σ:St} {H:Hp} {s:Shared} {fp:List Addr} (I:Inv X pins σ H s) (hf:∀ b∈fp,FpOk X pins H b) (g:∀ b∈fp,∃ o,s.heap.get? b=some o/\∀ v,o.data ≠ .cell v):Inv X (pins ++ ad7 fp s.heap) σ H s :=
 I.pins_of fun p f=>(aA7.mp f).elim (fun z=>I.pin p (aB2 _ z)) fun z=>by
  obtain ⟨hb,e⟩:=aqd z
  obtain ⟨h,f1,c,_⟩:=hf p.1 hb
  obtain ⟨o,a,d⟩:=g p.1 hb
  rw [e] at a;cases a
  exact ⟨e,h,f1,c,d⟩
theorem Inv.unpinned {pins b:List (Addr × Obj)} {σ:St} {H:Hp} {s:Shared} (I:Inv X (pins ++ b) σ H s):Inv X pins σ H s:=I.pins_of fun p a=>I.pin p (aB2 _ (aC6 _ a))
theorem abc {iter:Expr} {body:List Stmt} {wi:TI} {g:TG} {S:TS} {pos:Pos} (G:PassesOwn (model X.prog X.w) X.A X.env X.xe) (hc:X.calm=true) (hi:PI X tg iter wi) (hg:PG X tg g) (hb:PSs X body S)
  (hs:∀ x,foldedSetIterable iter X.env x=pure x:=by intro _;rfl):PS X (.For tg iter body [] pos) (tFor wi g S):=by
 intro pins s σ H D I h
 refine wpAny_For (thn (hi pins s σ H _ I h) fun v s1 h1=>thn h1 fun a0 s2 h2=>?_) hs
 obtain ⟨it,fp,tn,J,H2,e,I2,T,O,f2,W,⟨m0,w0⟩,F⟩:=h2
 subst e
 -- what stays true of the iterator's objects through the loop
 have j:∀ {H':Hp},(∀ b∈fp,H' b=none)->∀ b∈fp,FpOk X pins H' b:=fun hn b hb=>⟨hn b hb,(f2 b hb).2⟩
 refine codeAny_forLoop_any (fun n s'=>∃ i l H',Inv X pins l H' s'/\tn i s'.heap/\(∀ b∈fp,H' b=none)/\W i n l H') ?_ m0 ⟨0,σ,H2,I2,O,fun b hb=>(f2 b hb).1,w0⟩
 rintro n Z ⟨i,y,H3,I3,E,C,w3⟩
 rcases F i n y H3 w3 with ⟨stop,qn⟩ | ⟨go,N,hN,step⟩
 ·refine wpAny_passesOwn G (thn (T.done X rfl rfl rfl hc i pins Z y H3 X.xe I3 (j C) E stop) fun r s4 ⟨M,I4⟩=>?_)
  subst M
  exact wpAny_execs_nil ⟨y,H3,I4,qn⟩
 ·refine wpAny_passesOwn G (thn (T.item X rfl rfl rfl hc i pins Z y H3 X.xe I3 (j C) E go) fun r s4 ⟨u,M,h4⟩=>?_)
  subst M
  refine wpAny_passesOwn G (thn h4 fun _ U ⟨x,Y,I5,r5,y5,B,R⟩=>?_)
  have L:=I5.pinned (j R) (T.obj _ _ B)
  refine wpAny_passesOwn G (thn (hg _ U y Y x u _ L r5 (step x Y y5)) fun _ s6 ⟨Q,H6,I6,q6⟩=>?_)
  refine wpAny_passesOwn G (thn (hb _ s6 Q H6 _ I6 q6) fun f P z=>?_)
  have q:∀ {a:St} {p:Hp},Inv X (pins ++ ad7 fp U.heap) a p P->N a p->∃ m,m < n/\∃ i l H',Inv X pins l H' P/\tn i P.heap/\(∀ b∈fp,H' b=none)/\W i m l H':=fun {a p} c K=>by
   obtain ⟨m',hm,w7⟩:=hN a p K
   refine ⟨m',hm,i+1,a,p,c.unpinned,T.keep _ _ _ B fun b hb o e=>(c.pin (b,o) (aB2 _ (aB2 _ (ab0 hb e)))).1,fun b hb=>?_,w7⟩
   obtain ⟨o,e,d⟩:=T.obj _ _ B b hb
   exact (c.pin (b,o) (aB2 _ (aB2 _ (ab0 hb e)))).2.1
  cases f with
  | next=>obtain ⟨a,p,c,K⟩:=z;exact q c K
  | cont=>obtain ⟨a,p,c,K⟩:=z;exact q c K
  | brk=>obtain ⟨a,p,c,z⟩:=z;exact ⟨a,p,c.unpinned,z⟩
  | ret v=>obtain ⟨x7,a,p,c,r7,z⟩:=z;exact ⟨x7,a,p,c.unpinned,r7,z⟩
end
theorem aqe {lo:Int} {n:Nat} {g:TG} {d:TS} {D:Ends} {σ:St} {H:Hp} (b:Nat->St->Hp->Prop) (j:b 0 σ H)
  (l:∀ i σ H,i < n->b i σ H->g (.int (lo+i)) σ H fun c H2=>d { D with nx:=b (i+1),ct:=b (i+1),bk:=D.nx } c H2) (hd:∀ σ H,b n σ H->D.nx σ H) :
  ∃ W:Nat->Nat->St->Hp->Prop,(∃ m,W 0 m σ H)/\∀ i m σ H,W i m σ H ->
   ((Itr lo n).stop i H/\D.nx σ H)\/((Itr lo n).go i H/\∃ N:St->Hp->Prop,(∀ a H',N a H'->∃ f,f < m/\W (i+1) f a H')/\∀ x H',(Itr lo n).yld i H x H'->g x σ H' fun c H2=>d { D with nx:=N,ct:=N,bk:=D.nx } c H2):=by
 refine ⟨fun i m σ H=>m=n - i/\i<=n/\b i σ H,⟨n,by simp,aF6 _,j⟩,?_⟩
 rintro i m σ H ⟨rfl,hi,p⟩
 by_cases hlt:i < n
 ·refine .inr ⟨hlt,b (i+1),fun a H' h=>⟨n - (i+1),by omega,rfl,hlt,h⟩,fun x H' y=>?_⟩
  obtain ⟨e,y⟩:=y
  subst e y
  exact l i σ _ hlt p
 ·have e:i=n:=by omega
  subst e
  exact .inl ⟨aA6 _,hd σ H p⟩
abbrev R2:=V->V->Hp->VK->Prop
def OpR (X:Cx) (f:Value->Value->Sem Value) (r:R2):Prop :=
 ∀ (pins:List (Addr × Obj)) (s:Shared) (σ:St) (H:Hp) (x y:V) (v u:Value) (Q:VK),Inv X pins σ H s->RelV x v->RelV y u->r x y H Q ->
  wpAny (model X.prog X.w) X.A (f v u) (EP X pins σ Q) X.xe s
def UnR (X:Cx) (f:Value->Sem Value) (r:V->Hp->VK->Prop):Prop :=
 ∀ (pins:List (Addr × Obj)) (s:Shared) (σ:St) (H:Hp) (x:V) (v:Value) (Q:VK),Inv X pins σ H s->RelV x v->r x H Q ->
  wpAny (model X.prog X.w) X.A (f v) (EP X pins σ Q) X.xe s
def aa1 (X:Cx) (f:Value) (r:List V->Hp->VK->Prop):Prop :=
 ∀ (pins:List (Addr × Obj)) (s:Shared) (σ:St) (H:Hp) (xs:List V) (us:List Value) (Q:VK),Inv X pins σ H s->Vals xs us->r xs H Q ->
  wpAny (model X.prog X.w) X.A (call f us) (EP X pins σ Q) X.xe s
def TruR (X:Cx) (r:V->Hp->(Bool->Hp->Prop)->Prop):Prop :=
 ∀ (pins:List (Addr × Obj)) (s:Shared) (σ:St) (H:Hp) (x:V) (v:Value) (Q:Bool->Hp->Prop),Inv X pins σ H s->RelV x v->r x H Q ->
  wpAny (model X.prog X.w) X.A (truthy v) (TP X pins σ Q) X.xe s
def tOp (r:R2) (ta tb:TE):TE:=fun σ H Q=>ta σ H fun x H1=>tb σ H1 fun y H2=>r x y H2 Q
def tUn (r:V->Hp->VK->Prop) (ta:TE):TE:=fun σ H Q=>ta σ H fun x H1=>r x H1 Q
def rI (C:Int->Int->Prop) (g:Int->Int->V):R2:=fun x y H Q=>∃ i j,x=.int i/\y=.int j/\C i j/\Q (g i j) H
def rI0 (g:Int->Int->V):R2:=fun x y H Q=>∃ i j,x=.int i/\y=.int j/\Q (g i j) H
def rU (g:Int->V):V->Hp->VK->Prop:=fun x H Q=>∃ i,x=.int i/\Q (g i) H
section
variable {X:Cx} {a b c:Expr} {ta tb tc:TE} {pos:Pos}
theorem binT (ha:PE X a ta) (hb:PE X b tb) {pins:List (Addr × Obj)} {s:Shared} {σ:St} {H:Hp} {R:V->V->Hp->Prop} (I:Inv X pins σ H s)
  (h:ta σ H fun x g=>tb σ g fun y H2=>R x y H2) {Q:Value->Shared->Prop} {f:Value->Value->Sem Value}
  (hf:∀ v u s2 x y H2,Inv X pins σ H2 s2->RelV x v->RelV y u->R x y H2->wpAny (model X.prog X.w) X.A (f v u) Q X.xe s2) :
  wpAny (model X.prog X.w) X.A (eval a X.env) (fun v d=>wpAny (model X.prog X.w) X.A (eval b X.env) (fun u c=>wpAny (model X.prog X.w) X.A (f v u) Q X.xe c) X.xe d) X.xe s:=by
 refine thn (ha pins s σ H _ I h) fun v s1 ⟨x,g,i,o,l⟩=>?_
 refine thn (hb pins s1 σ g _ i l) fun u s2 ⟨y,H2,j,n,m⟩=>?_
 exact hf v u s2 x y H2 j o n m
theorem aau {op:Operator} {r:R2} (g:OpR X (binaryOp op) r) (ha:PE X a ta) (hb:PE X b tb):PE X (.BinOp a op b pos) (tOp r ta tb):=by
 intro pins s σ H Q I h
 exact wpAny_BinOp (binT ha hb I h fun v u s2 x y H2 c f d q=>g pins s2 σ H2 x y v u Q c f d q)
theorem aui {op:UnaryOp} {r:V->Hp->VK->Prop} (f:UnR X (unaryOp op) r) (ha:PE X a ta):PE X (.UnaryOp op a pos) (tUn r ta):=by
 intro pins s σ H Q I h
 exact UnaryOp_ (thn (ha pins s σ H _ I h) fun v s1 ⟨x,g,d,c,b⟩=>f pins s1 σ g x v Q d c b)
theorem opI {f:Value->Value->Sem Value} {C:Int->Int->Prop} {g:Int->Int->Int}
  (a:∀ (i j:Int) (t u:Tok) (s:Shared) (Q:Value->Shared->Prop) (E:Value->Shared->Prop),C i j->Q (.int (g i j) s.toks) { s with toks:=s.toks+1 }->wpAny (model X.prog X.w) X.A (f (.int i t) (.int j u)) Q E s) :
  OpR X f (rI C fun i j => .int (g i j)):=by
 intro pins s σ H x y v u Q I c b h
 obtain ⟨i,j,rfl,rfl,d,q⟩:=h
 obtain ⟨t,rfl⟩:=c
 obtain ⟨t',rfl⟩:=b
 exact a i j t t' s _ _ d ⟨.int (g i j),H,I.tok _,⟨_,rfl⟩,q⟩
theorem opI0 {f:Value->Value->Sem Value} {g:Int->Int->Int}
  (a:∀ (i j:Int) (t u:Tok) (s:Shared) (Q:Value->Shared->Prop) (E:Value->Shared->Prop),Q (.int (g i j) s.toks) { s with toks:=s.toks+1 }->wpAny (model X.prog X.w) X.A (f (.int i t) (.int j u)) Q E s) :
  OpR X f (rI0 fun i j => .int (g i j)):=by
 intro pins s σ H x y v u Q I c b h
 obtain ⟨i,j,rfl,rfl,q⟩:=h
 obtain ⟨t,rfl⟩:=c
 obtain ⟨t',rfl⟩:=b
 exact a i j t t' s _ _ ⟨.int (g i j),H,I.tok _,⟨_,rfl⟩,q⟩
theorem opB0 {f:Value->Value->Sem Value} {g:Int->Int->Bool}
  (a:∀ (i j:Int) (t u:Tok) (s:Shared) (Q:Value->Shared->Prop) (E:Value->Shared->Prop),Q (.bool (g i j)) s->wpAny (model X.prog X.w) X.A (f (.int i t) (.int j u)) Q E s) :
  OpR X f (rI0 fun i j => .bl (g i j)):=by
 intro pins s σ H x y v u Q I c b h
 obtain ⟨i,j,rfl,rfl,q⟩:=h
 obtain ⟨t,rfl⟩:=c
 obtain ⟨t',rfl⟩:=b
 exact a i j t t' s _ _ ⟨.bl (g i j),H,I,rfl,q⟩
def CDiv (i j:Int):Prop:=0 < j/\j < 1073741824
def CPow (i j:Int):Prop:=0<=j/\j<=1000000/\i.natAbs < 2 ^ 64
def CMul (i j:Int):Prop:=(-(2 ^ 64) < i/\i < 2 ^ 64)\/(-(2 ^ 64) < j/\j < 2 ^ 64)
theorem CMul.ok {i j:Int} (h:CMul i j):IntMulOk i j:=by
 rcases h with ⟨b,a⟩ | ⟨b,a⟩
 ·exact .of_left (intBits_le_64 b a)
 ·exact .of_right (intBits_le_64 b a)
theorem abp:OpR X (binaryOp .Add) (rI0 fun i j => .int (i+j)):=opI0 fun _ _ _ _ _ _ _ q=>add_int q
theorem ad8:OpR X (binaryOp .Sub) (rI0 fun i j => .int (i - j)):=opI0 fun _ _ _ _ _ _ _ q=>sub_int q
theorem afw:OpR X (binaryOp .Mult) (rI CMul fun i j => .int (i * j)):=opI fun _ _ _ _ _ _ _ a q=>mul_int q a.ok
theorem aik:OpR X (binaryOp .FloorDiv) (rI CDiv fun i j => .int (i / j)):=opI fun i j _ _ _ _ _ a q=>by
 have c:(0:Int) < j:=a.1
 have b:j < 1073741824:=a.2
 exact floordiv_int (by omega) (by rw [Int.fdiv_eq_ediv_of_nonneg i (by omega)];exact q) (.inl (PyProof.noPylong_small (by omega)))
theorem ad9:OpR X (binaryOp .Mod) (rI (fun _ j=>0 < j) fun i j => .int (i % j)):=opI fun i j _ _ _ _ _ a q=>by
 have b:(0:Int) < j:=a
 exact mod_int' (by omega) (by rw [Int.fmod_eq_emod_of_nonneg i (by omega)];exact q)
theorem axk:OpR X (binaryOp .Pow) (rI CPow fun i j => .int (i ^ j.toNat)):=opI fun _ _ _ _ _ _ _ a q=>pow_int_small a.1 a.2.1 a.2.2 q
theorem unI {f:Value->Sem Value} {g:Int->Int}
  (a:∀ (i:Int) (t:Tok) (s:Shared) (Q:Value->Shared->Prop) (E:Value->Shared->Prop),Q (.int (g i) s.toks) { s with toks:=s.toks+1 }->wpAny (model X.prog X.w) X.A (f (.int i t)) Q E s) :
  UnR X f (rU fun i => .int (g i)):=by
 intro pins s σ H x v Q I b h
 obtain ⟨i,rfl,q⟩:=h
 obtain ⟨t,rfl⟩:=b
 exact a i t s _ _ ⟨.int (g i),H,I.tok _,⟨_,rfl⟩,q⟩
theorem aqf:UnR X (unaryOp .USub) (rU fun i => .int (-i)):=unI fun _ _ _ _ _ q=>neg_int q
end
def scal:V->V->Bool
 | .non,.non=>true | .non,.int _=>true | .int _,.non=>true | .non,.bl _=>true | .bl _,.non=>true | .non,.str _=>true | .str _,.non=>true
 | .int _,.int _=>true | .bl _,.bl _=>true | .str _,.str _=>true | .byt _,.byt _=>true
 | .int _,.str _=>true | .str _,.int _=>true | .bl _,.str _=>true | .str _,.bl _=>true
 | _,_=>false
def rEq:R2:=fun x y H Q=>scal x y=true/\Q (.bl (decide (x=y))) H
def rNe:R2:=fun x y H Q=>scal x y=true/\Q (.bl (!decide (x=y))) H
theorem agk {i j:Int}:decide (V.int i=V.int j)=(i == j):=by
 rw [aH4]
 simp
theorem aqg {i j:Bool}:decide (V.bl i=V.bl j)=(i == j):=by
 rw [aH4]
 simp
theorem anf {i j:Str}:decide (V.str i=V.str j)=(i == j):=by
 rw [aH4]
 simp
theorem ang {i j:Array UInt8}:decide (V.byt i=V.byt j)=(i.toList == j.toList):=by
 rw [aH4]
 cases i
 cases j
 simp
section
variable {X:Cx} {a b c:Expr} {ta tb tc:TE} {pos:Pos}
theorem aax {pins:List (Addr × Obj)} {σ:St} {H:Hp} {s:Shared} {Q:VK} {k a:Bool} (I:Inv X pins σ H s) (q:Q (.bl k) H) (e:k=a):EP X pins σ Q (.bool a) s:=by
 subst e
 exact ⟨.bl k,H,I,rfl,q⟩
theorem aek:OpR X (compareOp .Eq) rEq:=by
 intro pins s σ H x y v u Q I c a h
 obtain ⟨b,q⟩:=h
 cases x with
 | non =>
  cases c
  cases y with
  | non=>cases a;exact PySem.EqNone.eq_none_none (aax I q (by simp))
  | bl j=>cases a;exact PySem.EqNone.eq_none_bool (aax I q (by simp))
  | int j=>obtain ⟨t',rfl⟩:=a;exact PySem.EqNone.eq_none_int (aax I q (by simp))
  | str j=>obtain ⟨t',rfl⟩:=a;exact PySem.EqNone.eq_none_str (aax I q (by simp))
  | _=>exact absurd (show false=true from b) aA9
 | bl i =>
  cases c
  cases y with
  | non=>cases a;exact PySem.EqNone.eq_bool_none (aax I q (by simp))
  | bl j=>cases a;exact eq_bool (aax I q aqg)
  | str j=>obtain ⟨t',rfl⟩:=a;exact PySem.EqMixed.eq_bool_str (aax I q (by simp))
  | _=>exact absurd (show false=true from b) aA9
 | int i =>
  obtain ⟨t,rfl⟩:=c
  cases y with
  | non=>cases a;exact PySem.EqNone.eq_int_none (aax I q (by simp))
  | int j=>obtain ⟨t',rfl⟩:=a;exact eq_int (aax I q agk)
  | str j=>obtain ⟨t',rfl⟩:=a;exact PySem.EqMixed.eq_int_str (aax I q (by simp))
  | _=>exact absurd (show false=true from b) aA9
 | str i =>
  obtain ⟨t,rfl⟩:=c
  cases y with
  | non=>cases a;exact PySem.EqNone.eq_str_none (aax I q (by simp))
  | bl j=>cases a;exact PySem.EqMixed.eq_str_bool (aax I q (by simp))
  | int j=>obtain ⟨t',rfl⟩:=a;exact PySem.EqMixed.eq_str_int (aax I q (by simp))
  | str j=>obtain ⟨t',rfl⟩:=a;exact eq_str (aax I q anf)
  | _=>exact absurd (show false=true from b) aA9
 | byt i =>
  obtain ⟨t,rfl⟩:=c
  cases y with
  | byt j=>obtain ⟨t',rfl⟩:=a;exact PySem.W.eq_bytes (aax I q ang)
  | _=>exact absurd (show false=true from b) aA9
 | _=>cases y <;> exact absurd (show false=true from b) aA9
theorem agl:OpR X (compareOp .NotEq) rNe:=by
 intro pins s σ H x y v u Q I c a h
 obtain ⟨b,q⟩:=h
 cases x with
 | non =>
  cases c
  cases y with
  | non=>cases a;exact PySem.EqNone.ne_none_none (aax I q (by simp))
  | bl j=>cases a;exact PySem.EqNone.ne_none_bool (aax I q (by simp))
  | int j=>obtain ⟨t',rfl⟩:=a;exact PySem.EqNone.ne_none_int (aax I q (by simp))
  | str j=>obtain ⟨t',rfl⟩:=a;exact PySem.EqNone.ne_none_str (aax I q (by simp))
  | _=>exact absurd (show false=true from b) aA9
 | bl i =>
  cases c
  cases y with
  | non=>cases a;exact PySem.EqNone.ne_bool_none (aax I q (by simp))
  | bl j=>cases a;exact ne_bool (aax I q (congrArg not aqg))
  | str j=>obtain ⟨t',rfl⟩:=a;exact PySem.EqMixed.ne_bool_str (aax I q (by simp))
  | _=>exact absurd (show false=true from b) aA9
 | int i =>
  obtain ⟨t,rfl⟩:=c
  cases y with
  | non=>cases a;exact PySem.EqNone.ne_int_none (aax I q (by simp))
  | int j=>obtain ⟨t',rfl⟩:=a;exact ne_int (aax I q (congrArg not agk))
  | str j=>obtain ⟨t',rfl⟩:=a;exact PySem.EqMixed.ne_int_str (aax I q (by simp))
  | _=>exact absurd (show false=true from b) aA9
 | str i =>
  obtain ⟨t,rfl⟩:=c
  cases y with
  | non=>cases a;exact PySem.EqNone.ne_str_none (aax I q (by simp))
  | bl j=>cases a;exact PySem.EqMixed.ne_str_bool (aax I q (by simp))
  | int j=>obtain ⟨t',rfl⟩:=a;exact PySem.EqMixed.ne_str_int (aax I q (by simp))
  | str j=>obtain ⟨t',rfl⟩:=a;exact ne_str (aax I q (congrArg not anf))
  | _=>exact absurd (show false=true from b) aA9
 | byt i =>
  obtain ⟨t,rfl⟩:=c
  cases y with
  | byt j=>obtain ⟨t',rfl⟩:=a;exact PySem.W.ne_bytes (aax I q (congrArg not ang))
  | _=>exact absurd (show false=true from b) aA9
 | _=>cases y <;> exact absurd (show false=true from b) aA9
theorem auj:OpR X (compareOp .Lt) (rI0 fun i j => .bl (decide (i < j))):=opB0 fun _ _ _ _ _ _ _ q=>lt_int q
theorem agm:OpR X (compareOp .LtE) (rI0 fun i j => .bl (decide (i<=j))):=opB0 fun _ _ _ _ _ _ _ q=>le_int q
theorem ao1:OpR X (compareOp .Gt) (rI0 fun i j => .bl (decide (j < i))):=opB0 fun _ _ _ _ _ _ _ q=>gt_int q
theorem azh:OpR X (compareOp .GtE) (rI0 fun i j => .bl (decide (j<=i))):=opB0 fun _ _ _ _ _ _ _ q=>ge_int q
theorem axl:OpR X (compareOp .Is) (fun x y H Q=>y=.non/\Q (.bl (decide (x=.non))) H):=by
 intro pins s σ H x y v u Q I a b h
 obtain ⟨rfl,q⟩:=h
 cases b
 refine is_none_gen (aax I q ?_)
 cases x <;> first
  | (cases a;rfl)
  | (obtain ⟨t,rfl⟩:=a;rfl)
theorem aa0 (b:Expr) {op:CmpOp} (h:op ≠ .In:=by decide) (c:op ≠ .NotIn:=by decide):behindInMarks op b=false:=by
 have a:(op == CmpOp.In)=false:=by cases op <;> first | rfl | exact absurd rfl h
 have d:(op == CmpOp.NotIn)=false:=by cases op <;> first | rfl | exact absurd rfl c
 cases b <;> simp [behindInMarks,a,d]
theorem ae0 {op:CmpOp} {r:R2} (g:OpR X (compareOp op) r) (ha:PE X a ta) (hb:PE X b tb) (hm:behindInMarks op b=false):PE X (.Compare a [op] [b] pos) (tOp r ta tb):=by
 intro pins s σ H Q I h
 exact wpAny_Compare1 (binT ha hb I h fun v u s2 x y H2 c f d q=>g pins s2 σ H2 x y v u Q c f d q) hm
def akm (t:TE):TT:=fun σ H Q=>t σ H fun x H'=>∃ k,x=.bl k/\Q k H'
theorem aay {op:CmpOp} {r:R2} (p:OpR X (compareOp op) r) (ha:PE X a ta) (hb:PE X b tb) (hm:behindInMarks op b=false):PT X (.Compare a [op] [b] pos) (akm (tOp r ta tb)):=by
 intro pins s σ H Q I h
 refine wpAny_isTrue_Compare1 (thn (ha pins s σ H _ I h) fun v s1 ⟨x,q,g,o,j⟩=>thn (hb pins s1 σ q _ g j) fun u s2 ⟨y,H2,i,n,l⟩ =>
  thn (p pins s2 σ H2 x y v u _ i o n l) fun c w ⟨z,H3,f,m,k,e,d⟩=>?_) hm
 subst e
 cases m
 exact aJ7 ⟨H3,f,d⟩
def ahp (r r':R2) (ta tb tc:TE):TE:=fun σ H Q=>ta σ H fun x H1=>tb σ H1 fun y H2=>r x y H2 fun z H3=>∃ k,z=.bl k /\
 (if k=true then tc σ H3 fun w' H4=>r' y w' H4 Q else Q (.bl false) H3)
theorem ash {op f:CmpOp} {r l:R2} (M:OpR X (compareOp op) r) (g:OpR X (compareOp f) l) (ha:PE X a ta) (hb:PE X b tb) (G:PE X c tc)
  (hm:lastMarks [op,f] [b,c]=false:=by with_unfolding_all rfl):PE X (.Compare a [op,f] [b,c] pos) (ahp r l ta tb tc):=by
 intro pins s σ H Q I h
 refine Compare_chain (thn (ha pins s σ H _ I h) fun v s1 ⟨x,N,o,K,B⟩=>chain_link (thn (hb pins s1 σ N _ o B) fun u s2 ⟨y,H2,q,m,D⟩ =>
  thn (M pins s2 σ H2 x y v u _ q K m D) fun d C ⟨z,H3,j,E,k,e,i⟩=>?_)) hm
 subst e
 cases E
 refine aJ7 ?_
 cases k with
 | false=>exact ite_ff ⟨.bl false,H3,j,rfl,i⟩
 | true=>exact ite_tt (chain_last (thn (G pins C σ H3 _ j i) fun p J ⟨L,F,n,A,w⟩=>g pins J σ F y L u p Q n m A w))
theorem ak6 {op f:CmpOp} {r l:R2} (U:OpR X (compareOp op) r) (g:OpR X (compareOp f) l) (ha:PE X a ta) (hb:PE X b tb) (O:PE X c tc)
  (hm:lastMarks [op,f] [b,c]=false:=by with_unfolding_all rfl):PT X (.Compare a [op,f] [b,c] pos) (akm (ahp r l ta tb tc)):=by
 intro pins s σ H Q I h
 refine isTrue_chain (thn (ha pins s σ H _ I h) fun v s1 ⟨x,W,o,S,F⟩=>test_link (thn (hb pins s1 σ W _ o F) fun u s2 ⟨y,H2,q,m,K⟩ =>
  thn (U pins s2 σ H2 x y v u _ q S m K) fun d G ⟨z,H3,j,L,k,e,i⟩=>?_)) hm
 subst e
 cases L
 refine aJ7 ?_
 cases k with
 | false =>
  obtain ⟨k',w,J⟩:=i
  cases w
  exact ite_ff ⟨H3,j,J⟩
 | true =>
  refine ite_tt (test_last (thn (O pins G σ H3 _ j i) fun p R ⟨T,M,n,C,A⟩=>thn (g pins R σ M y T u p _ n m C A) fun d' s5 ⟨Z,B,P,E,Y,N,D⟩=>?_))
  subst N
  cases E
  exact aJ7 ⟨B,P,D⟩
def TruV (K:Frag) (x:V) (H:Hp) (k:Bool):Prop :=
 match x with
 | .non=>k=false
 | .bl b=>k=b
 | .int i=>k=(i != 0)
 | .str y=>y.length<=sizeLine/\k=((y.length:Int) != 0)
 | .byt y=>y.size<=sizeLine/\k=((y.size:Int) != 0)
 | .ref p=>(∃ xs,SqL K H p xs/\k = !xs.isEmpty)\/(∃ xs,SqT K H p xs/\k = !xs.isEmpty)\/∃ kvs,H p=some (.dK kvs)/\k = !kvs.isEmpty
 | _=>False
theorem ao2 {κ:Type} {kvs:List (κ × V)} {vs:List (κ × Value)} (r:KV kvs vs):(!vs.isEmpty) = !kvs.isEmpty:=by
 cases r <;> rfl
theorem ahq {xs:List V} {its:List Value} (r:Vals xs its):(!its.toArray.isEmpty) = !xs.isEmpty:=by
 cases r <;> simp
theorem afx:(sizeLine:Nat) < 2 ^ 63:=by rw [sizeLine_eq];decide
theorem axm:TruR X (fun x H Q=>∃ k,TruV X.K x H k/\Q k H):=by
 intro pins s σ H x v Q I d h
 obtain ⟨k,e,q⟩:=h
 have o:=afx
 have n:sizeLine=16777216:=sizeLine_eq
 cases x with
 | non =>
  cases d
  have a:k=false:=e
  subst a
  exact truthy_none ⟨H,I,q⟩
 | bl b =>
  cases d
  have a:k=b:=e
  subst a
  exact aJ7 ⟨H,I,q⟩
 | int i =>
  obtain ⟨t,rfl⟩:=d
  have a:k=(i != 0):=e
  subst a
  exact PySem.P.truthy_int ⟨H,I,q⟩
 | str y =>
  obtain ⟨t,rfl⟩:=d
  obtain ⟨l,a⟩:y.length<=sizeLine/\k=((y.length:Int) != 0):=e
  subst a
  exact PySem.P.truthy_str (by omega) ⟨H,I.tok _,q⟩
 | byt y =>
  obtain ⟨t,rfl⟩:=d
  obtain ⟨l,a⟩:y.size<=sizeLine/\k=((y.size:Int) != 0):=e
  subst a
  exact PySem.W.truthy_bytes (by omega) ⟨H,I.tok _,q⟩
 | ref p =>
  cases d
  have a:(∃ xs,SqL X.K H p xs/\k = !xs.isEmpty)\/(∃ xs,SqT X.K H p xs/\k = !xs.isEmpty)\/∃ kvs,H p=some (.dK kvs)/\k = !kvs.isEmpty:=e
  rcases a with ⟨xs,f,a⟩ | ⟨xs,f,a⟩ | ⟨kvs,f,a⟩
  ·subst a
   obtain ⟨its,r,g,hz⟩:=I.list f
   have c:=r.length
   exact wpAny_truthy_list g.isList (by simp only [aB1];omega) ⟨H,I.tok _,by rw [ahq r];exact q⟩
  ·subst a
   obtain ⟨its,r,g,hz⟩:=I.tuple f
   have c:=r.length
   exact truthy_tuple g (by simp only [aB1];omega) ⟨H,I.tok _,by rw [ahq r];exact q⟩
  ·subst a
   obtain ⟨hz,j,vs,r,m⟩:kvs.length<=sizeLine/\(p == sysModules)=false/\∃ vs,KV kvs vs/\s.heap.DictOf (aa4 X.prog X.w) p vs:=I.hok p _ f
   have c:kvs.length=vs.length:=Paired.length r
   exact wpAny_truthy_dict j m (by omega) ⟨H,I.tok _,by rw [ao2 r];exact q⟩
 | _=>exact (show False from e).elim
theorem asi (ha:PE X a ta) (d:∀ whole,isTrue a X.env whole=(do let v ← whole;standAt a.pos;holding [v] (truthy v))) :
  PT X a (fun σ H Q=>ta σ H fun x H'=>∃ k,TruV X.K x H' k/\Q k H'):=by
 intro pins s σ H Q I h
 exact isTrue_plain (thn (ha pins s σ H _ I h) fun v s1 ⟨x,g,b,f,c⟩=>axm pins s1 σ g x v Q b f c) (d _)
theorem ab6 {x:V} {us:List Value} (r:Vals [x] us):∃ u,us=[u]/\RelV x u:=by
 cases r with
 | cons r1 r2=>cases r2;exact ⟨_,rfl,r1⟩
theorem ao3 {x y:V} {us:List Value} (r:Vals [x,y] us):∃ u a,us=[u,a]/\RelV x u/\RelV y a:=by
 cases r with
 | cons r1 r2 =>
  cases r2 with
  | cons r3 r4=>cases r4;exact ⟨_,_,rfl,r1,r3⟩
theorem aqh (a:X.calm=true):aa1 X (.builtin "max") (fun xs H Q=>∃ i j,xs=[.int i,.int j]/\Q (.int (if j > i then j else i)) H):=by
 intro pins s σ H xs us Q I r h
 obtain ⟨i,j,rfl,q⟩:=h
 obtain ⟨u,b,rfl,⟨t,rfl⟩,⟨t',rfl⟩⟩:=ao3 r
 refine max_two_ints (I.ok.hd a) fun h' c k=>⟨_,H,I.kept k,?_,q⟩
 by_cases hj:j > i
 ·rw [aF1 hj,aF1 hj];exact ⟨_,rfl⟩
 ·rw [aF2 hj,aF2 hj];exact ⟨_,rfl⟩
theorem aqi (a:X.calm=true):aa1 X (.builtin "min") (fun xs H Q=>∃ i j,xs=[.int i,.int j]/\Q (.int (if j < i then j else i)) H):=by
 intro pins s σ H xs us Q I r h
 obtain ⟨i,j,rfl,q⟩:=h
 obtain ⟨u,b,rfl,⟨t,rfl⟩,⟨t',rfl⟩⟩:=ao3 r
 refine min_two_ints (I.ok.hd a) fun h' c k=>⟨_,H,I.kept k,?_,q⟩
 by_cases hj:j < i
 ·rw [aF1 hj,aF1 hj];exact ⟨_,rfl⟩
 ·rw [aF2 hj,aF2 hj];exact ⟨_,rfl⟩
theorem aqj:aa1 X (.type "int") (fun xs H Q=>(∃ i,xs=[.int i]/\Q (.int i) H)\/∃ k,xs=[.bl k]/\Q (.int (if k then 1 else 0)) H):=by
 intro pins s σ H xs us Q I r h
 rcases h with ⟨i,rfl,q⟩ | ⟨k,rfl,q⟩
 ·obtain ⟨u,rfl,t,rfl⟩:=ab6 r
  exact call_int_int ⟨.int i,H,I,⟨_,rfl⟩,q⟩
 ·obtain ⟨u,rfl,a⟩:=ab6 r
  cases a
  exact call_int_bool ⟨.int (if k then 1 else 0),H,I.tok _,⟨_,rfl⟩,q⟩
end
structure ObjM (h:Heap) (x dx C:Addr) (mA:Str->Option Value):Prop where
 obj:h.get? x=some (PySem.W.instObj C dx)
 ns:h.Ns1 dx mA
 ne:dx ≠ x
theorem aqk {h:Heap} {dx:Addr} {mA:Str->Option Value} (n:h.Ns1 dx mA):∃ od,h.get? dx=some od/\∀ name,PySem.W.lookIn name od=some (mA name):=by
 obtain ⟨o,es,ep,g,hd,c,_,hm⟩:=n
 refine ⟨o,g,fun name=>?_⟩
 have e:=hm name
 unfold nsFind findBy at e
 rw [← Array.find?_toList] at e
 unfold PySem.W.lookIn
 rw [hd]
 dsimp only
 split
 ·rename_i y q
  rw [q] at e
  exact congrArg some e
 ·rename_i q
  rw [q] at e
  have a:es.toList.any (·.refKey)=false:=by
   rw [List.any_eq_false]
   intro y d
   obtain ⟨z,t,b⟩:=c y (Array.mem_toList_iff.mp d)
   simp [DictEntry.refKey,b]
  have f:¬ es.toList.any (·.refKey)=true:=by rw [a];exact aA9
  rw [aF2 f]
  exact congrArg some e
theorem ObjM.look {h:Heap} {x dx C:Addr} {mA:Str->Option Value} (I:ObjM h x dx C mA):∃ od,PySem.W.InstAt h x (PySem.W.instObj C dx) C (some od)/\∀ name,PySem.W.lookIn name od=some (mA name) :=
 let ⟨od,b,a⟩:=aqk I.ns
 ⟨od,⟨I.obj,rfl,rfl,b⟩,a⟩
section
variable {prog:Program} {w:World} {A:Around} {E:Value->Shared->Prop} {s:Shared} {K:Frag} {x dx C f:Addr} {mA:Str->Option Value} {name:Str} {v:Value}
end
def putF (f:Str) (v:V):List (Str × V)->List (Str × V)
 | []=>[(f,v)]
 | (g,x) :: r=>if g=f then (g,v) :: r else (g,x) :: putF f v r
theorem RelO.some_of {v:V} {o:Option Value} (r:RelO (some v) o):∃ u,o=some u/\RelV v u:=by
 cases o with
 | none=>exact (show False from r).elim
 | some u=>exact ⟨u,rfl,r⟩
section
variable {P:Program} {w:World} {H H':Hp} {h h':Heap} {a C dx:Addr} {fs fs':List (Str × V)}
theorem au1 (hok:HOk P w H h) (e:H a=some (.ins C dx fs)):∃ mA,ObjM h a dx C mA/\(∀ f,RelO (fs.lookup f) (mA f))/\PySem.Within mA (fs.map (·.1))/\fs.length<=1000/\H dx=some (.own a):=by
 obtain ⟨d,z,ne,b,mA,n,r,q⟩:=(show ObjOk P w H h a (.ins C dx fs) from hok a _ e)
 exact ⟨mA,⟨b,n,ne⟩,r,q,z,d⟩
end
structure Cls (K:Frag) (C:Addr):Prop where
 pg:PySem.W.plainGet K C Str.empty=true
 hd:PySem.W.hasDictIn K C=true
 po:PySem.W.plainOver K C=true
 sa:PySem.W.findIn K (.ref C) "__setattr__" = some (some (.builtin "object.__setattr__"))
theorem Cls.get {K:Frag} {C:Addr} (c:Cls K C) (f:Str):PySem.W.plainGet K C f=true:=c.pg
section
variable {X:Cx} {pins:List (Addr × Obj)} {σ:St} {H:Hp} {s:Shared} {a C dx:Addr} {fs:List (Str × V)} {f:Str} {v:V} {A:Around} {E:Value->Shared->Prop}
end
section
variable {X:Cx} {o e value:Expr} {f:Str} {pos pos' tpos:Pos} {ta tv:TE}
end
section
variable {X:Cx} {pins:List (Addr × Obj)} {σ:St} {H:Hp} {s:Shared} {A:Around} {E:Value->Shared->Prop} {Q:Value->Shared->Prop} {c:Value} {b:Bool}
inductive TyOf (K:Frag) (H:Hp):V->Value->Prop where
 | non:TyOf K H .non (.type "NoneType")
 | bl (x:Bool):TyOf K H (.bl x) (.type "bool")
 | int (i:Int):TyOf K H (.int i) (.type "int")
 | str (x:Str):TyOf K H (.str x) (.type "str")
 | flt (x:UInt64):TyOf K H (.flt x) (.type "float")
 | lst {a:Addr} {xs:List V} (e:H a=some (.lst xs)):TyOf K H (.ref a) (.type "list")
 | frz {a:Addr} {o:Obj} {xs:List V} (e:H a=some (.frz o (.lst xs))):TyOf K H (.ref a) (.type "list")
 | tup {a:Addr} {xs:List V} (e:H a=some (.tup xs)):TyOf K H (.ref a) (.type "tuple")
 | dK {a:Addr} {kvs:List (Key × V)} (e:H a=some (.dK kvs)):TyOf K H (.ref a) (.type "dict")
 | dT {a:Addr} {kvs:List (List Key × V)} (e:H a=some (.dT kvs)):TyOf K H (.ref a) (.type "dict")
 | ins {a C dx:Addr} {fs:List (Str × V)} (e:H a=some (.ins C dx fs)) (cl:Cls K C) (ha:PySem.W.findIn K (.ref C) "__class__" = some (some (.builtin "object.__class__")))
   (hn:PySem.W.specialIn K (.builtin "object.__class__") "__get__" = some (some (.builtin "getset_descriptor.__get__"))) (htk:PySem.W.takesIn K (.builtin "object.__class__")=some true)
   (hm:mroIn K C (.type "object")=some true):TyOf K H (.ref a) (.ref C)
theorem aql {x:V} {u t:Value} (I:Inv X pins σ H s) (d:RelV x u) (ty:TyOf X.K H x t) (e:kitOne X.K t c=some b) (h:∀ j,Q (.bool b) { s with toks:=j }) :
  wpAny (model X.prog X.w) A (call (.builtin "isinstance") [u,c]) Q E s:=by
 cases ty with
 | non=>cases (show u=Value.none from d);exact PySem.W.kia_one PySem.W.kitx_none I.kIn True.intro e (fun z=>nomatch z) h
 | bl y=>cases (show u=Value.bool y from d);exact PySem.W.kia_one PySem.W.kitx_bool I.kIn True.intro e (fun z=>nomatch z) h
 | int i=>obtain ⟨t,q⟩:=(show ∃ t,u=Value.int i t from d);cases q;exact PySem.W.kia_one PySem.W.kitx_int I.kIn True.intro e (fun z=>nomatch z) h
 | str y=>obtain ⟨t,q⟩:=(show ∃ t,u=Value.str y t from d);cases q;exact PySem.W.kia_one PySem.W.kitx_str I.kIn True.intro e (fun z=>nomatch z) h
 | flt y=>obtain ⟨t,q⟩:=(show ∃ t,u=Value.float y t from d);cases q;exact PySem.W.kia_one PySem.W.kitx_float I.kIn True.intro e (fun z=>nomatch z) h
 | @lst a xs ea =>
  cases (show u=Value.ref a from d)
  obtain ⟨_,_,n,_,f⟩:=(show ObjOk X.prog X.w H s.heap a (.lst xs) from I.hok a _ ea)
  exact PySem.W.kia_one PySem.W.kitx_list I.kIn ⟨_,f,rfl⟩ e (fun z=>nomatch z) h
 | @frz a ob xs ea =>
  cases (show u=Value.ref a from d)
  obtain ⟨_,_,_,n,_,f⟩:=(show ObjOk X.prog X.w H s.heap a (.frz ob (.lst xs)) from I.hok a _ ea)
  exact PySem.W.kia_one PySem.W.kitx_list I.kIn ⟨_,f,rfl⟩ e (fun z=>nomatch z) h
 | @tup a xs ea =>
  cases (show u=Value.ref a from d)
  obtain ⟨_,_,_,p⟩:=(show ObjOk X.prog X.w H s.heap a (.tup xs) from I.hok a _ ea)
  obtain ⟨o,f,g,_⟩:=p
  exact PySem.W.kia_one PySem.W.kitx_tuple I.kIn ⟨o,f,g⟩ e (fun z=>nomatch z) h
 | @dK a kvs ea =>
  cases (show u=Value.ref a from d)
  obtain ⟨_,_,vs,_,p⟩:=(show ObjOk X.prog X.w H s.heap a (.dK kvs) from I.hok a _ ea)
  obtain ⟨o,es,ep,f,g,_⟩:=p
  exact PySem.W.kia_one PySem.W.kitx_dict I.kIn ⟨o,f,g.1⟩ e (fun z=>nomatch z) h
 | @dT a kvs ea =>
  cases (show u=Value.ref a from d)
  obtain ⟨_,_,xs,_,o,es,ep,f,g,_⟩:=(show ObjOk X.prog X.w H s.heap a (.dT kvs) from I.hok a _ ea)
  exact PySem.W.kia_one PySem.W.kitx_dict I.kIn ⟨o,f,g.1⟩ e (fun z=>nomatch z) h
 | @ins a C dx fs ea cl ha hn htk hm =>
  cases (show u=Value.ref a from d)
  obtain ⟨mA,O,_⟩:=au1 I.hok ea
  obtain ⟨od,J,_⟩:=O.look
  exact PySem.W.kia_one (PySem.W.kitx_own (cl.get _) cl.hd ha hn htk hm) I.kIn J e (fun z=>nomatch z) h
end
structure Room (k:Nat) (A:Around):Prop where
 hd:A.handled=none
 dp:A.depth+3 * k+5 < recursionLimit
 un:A.units+16 * k+200 < cLine
theorem Room.mono {j k:Nat} {A:Around} (r:Room k A) (h:j<=k):Room j A:=⟨r.hd,by have:=r.dp;omega,by have:=r.un;omega⟩
theorem Room.deeper {k:Nat} {A:Around} (r:Room (k+1) A) (env:Env):Room k (A.deeper env) :=
 ⟨r.hd,by have:=r.dp;show A.depth+1+3 * k+5 < _;omega,by have:=r.un;show A.units+3+16 * k+200 < _;omega⟩
theorem Room.in1 {k:Nat} {A:Around} (r:Room (k+1) A):Room k A.in1 :=
 ⟨r.hd,by have:=r.dp;show A.depth+3 * k+5 < _;omega,by have:=r.un;show A.units+1+16 * k+200 < _;omega⟩
theorem Room.depth {k:Nat} {A:Around} (r:Room k A):A.depth < recursionLimit:=by have:=r.dp;omega
theorem Room.units {k:Nat} {A:Around} (r:Room k A):A.units+64 < cLine:=by have:=r.un;omega
def tNil:TA:=fun _ H Q=>Q [] H
def aba (ta:TE) (tr:TA):TA:=fun σ H Q=>ta σ H fun x H1=>tr σ H1 fun xs H2=>Q (x :: xs) H2
section
variable {X:Cx} {e:Expr} {es:List Expr} {te:TE} {t:TA} {pos:Pos}
theorem aab:PA X [] tNil:=fun _ _ _ _ H Q I h=>Calls.spliced_nil ⟨[],H,I,.nil,h⟩
theorem aaa (ha:PE X e te) (a:PA X es t) (g:starEach (e :: es) X.env=(false,eval e X.env) :: starEach es X.env:=by rfl):PA X (e :: es) (aba te t):=by
 intro pos pins s σ H Q I h
 rw [g]
 show wpAny _ _ (spliced ((false,eval e X.env) :: backTo pos (starEach es X.env))) _ _ s
 refine Calls.spliced_cons (thn (ha pins s σ H _ I h) fun u s1 ⟨x,l,b,j,d⟩=>?_)
 exact thn (a pos pins s1 σ l _ b d) fun us s2 ⟨xs,H2,c,i,f⟩=>⟨x :: xs,H2,c,.cons j i,f⟩
def tTup (t:TA):TE:=fun σ H Q=>t σ H fun xs H1=>xs.length<=sizeLine/\∀ p,H1 p=none->Q (.ref p) (upd H1 p (.tup xs))
def tLst (t:TA):TE:=fun σ H Q=>t σ H fun xs H1=>xs.length<=sizeLine/\∀ p,H1 p=none->Q (.ref p) (upd H1 p (.lst xs))
theorem ab1 {x1} (h:PA X es t):PE X (.Tuple es x1 pos) (tTup t):=by
 intro pins s σ H Q I d
 refine wpAny_Tuple_spliced (thn (h pos pins s σ H _ I d) fun us s1 ⟨xs,c,a,r,z,q⟩=>⟨by rw [← r.length];exact z,?_⟩)
 have hf:c s1.heap.objs.size=none:=a.hok.fresh (aA6 _)
 refine ⟨.ref s1.heap.objs.size,upd c s1.heap.objs.size (.tup xs),a.laid (t':=s1.toks) (fun b u e=>aI7 _ e) (aA6 _) ?_,rfl,q _ hf⟩
 exact ⟨z,us,r,⟨_,aI9 _ rfl,rfl,_,rfl⟩⟩
theorem aa2 (h:PA X es t):PE X (.List es pos) (tLst t):=by
 intro pins s σ H Q I d
 refine wpAny_List_spliced (thn (h pos pins s σ H _ I d) fun us s1 ⟨xs,c,a,r,z,q⟩=>⟨by rw [← r.length];exact z,?_⟩)
 have hf:c s1.heap.objs.size=none:=a.hok.fresh (aA6 _)
 refine ⟨.ref s1.heap.objs.size,upd c s1.heap.objs.size (.lst xs),a.laid (t':=s1.toks) (fun b u e=>aI7 _ e) (aA6 _) ?_,rfl,q _ hf⟩
 exact ⟨z,us,0,r,aI9 _ rfl⟩
end
abbrev Sp:=List V->Hp->VK->XK->Prop
abbrev CXT:=List Env->Hp->Shared->XK->Value->Shared->Prop
structure Env0 (P:Program) (w:World) (K:Frag) (mg:Str->Option Value) (base:Heap) (A:Around) (outer:List Env) (s:Shared) (H:Hp):Prop where
 frames:A.frames=some outer
 mod:Mod K mg base
 bs:∀ b o,base.get? b=some o->s.heap.get? b=some o/\H b=none
 bsz:base.objs.size<=s.heap.objs.size
 funs:s.heap.FunFrames base outer
 frf:∀ b∈frs outer,H b=none
 hok:HOk P w H s.heap
 bare:AllBare s.gens
def CE (outer:List Env) (P:Program) (w:World) (H:Hp) (s:Shared) (Q:VK) (u:Value) (s':Shared):Prop :=
 ∃ v H',s'.os=s.os/\AllBare s'.gens/\Un (frs outer) [] H H' s.heap s'.heap/\HOk P w H' s'.heap/\RelV v u/\Q v H'
def CR (CX:CXT) (outer:List Env) (P:Program) (w:World) (H:Hp) (s:Shared) (Q:VK) (E:XK) (r:Result) (s':Shared):Prop :=
 match r with
 | .ok (.ret u)=>CE outer P w H s Q u s'
 | .ok _=>False
 | .error e=>CX outer H s E e s'
structure FnOk (P:Program) (w:World) (K:Frag) (mg:Str->Option Value) (base:Heap) (CX:CXT) (k:Nat) (f:Addr) (fd:FuncData) (ps:List Str) (sp:Sp):Prop where
 len:∀ vs H Q E,sp vs H Q E->vs.length=ps.length
 run:∀ (A:Around) (outer:List Env) (s:Shared) (H:Hp) (args:Args) (us:List Value) (vs:List V) (Q:VK) (E:XK),Room k A->Env0 P w K mg base A outer s H->BindsTo s fd args (ps.zip us)->Vals vs us->sp vs H Q E ->
  codeAny (model P w) A (.call (.ref f) args) (CR CX outer P w H s Q E) s
theorem FnOk.mono {P:Program} {w:World} {K:Frag} {mg:Str->Option Value} {base:Heap} {CX:CXT} {j k:Nat} {f:Addr} {fd:FuncData} {ps:List Str} {sp:Sp} (F:FnOk P w K mg base CX j f fd ps sp) (h:j<=k) :
  FnOk P w K mg base CX k f fd ps sp:=⟨F.len,fun A outer s H args us vs Q E a=>F.run A outer s H args us vs Q E (a.mono h)⟩
theorem FnOk.imp {P:Program} {w:World} {K:Frag} {mg:Str->Option Value} {base:Heap} {CX:CXT} {k:Nat} {f:Addr} {fd:FuncData} {ps:List Str} {sp a:Sp} (F:FnOk P w K mg base CX k f fd ps sp)
  (h:∀ vs H Q E,a vs H Q E->sp vs H Q E):FnOk P w K mg base CX k f fd ps a :=
 ⟨fun vs H Q E q=>F.len vs H Q E (h _ _ _ _ q),fun A outer s H args us vs Q E b g hb c d=>F.run A outer s H args us vs Q E b g hb c (h _ _ _ _ d)⟩
theorem Env0.in1 {P:Program} {w:World} {K:Frag} {mg:Str->Option Value} {base:Heap} {A:Around} {outer:List Env} {s:Shared} {H:Hp} (e:Env0 P w K mg base A outer s H) :
  Env0 P w K mg base A.in1 outer s H:=⟨e.frames,e.mod,e.bs,e.bsz,e.funs,e.frf,e.hok,e.bare⟩
section
variable {X:Cx} {pins:List (Addr × Obj)} {σ:St} {H:Hp} {s s':Shared}
theorem Inv.env0 (I:Inv X pins σ H s):Env0 X.prog X.w X.K X.mg X.base X.A X.stack s H :=
 ⟨I.ok.frames,I.ok.mod,I.bs,aC9 I.ok.bsz I.sz,I.stack,I.stkFree,I.hok,I.bare⟩
theorem Inv.after {Q:VK} {u:Value} (I:Inv X pins σ H s) (h:CE X.stack X.prog X.w H s Q u s'):EP X pins σ Q u s':=by
 obtain ⟨v,H',os,bare,un,hok,r,q⟩:=h
 obtain ⟨hh,g,d,t,os'⟩:=s'
 obtain rfl:os'=s.os:=os
 exact ⟨v,H',I.call (h':=hh) (g':=g) (d':=d) (t':=t) (ch:=[]) un hok bare (fun b z=>absurd z (by simp)),r,q⟩
end
def acf (sp:Sp) (dvs:List V) (E:XK) (t:TA):TE:=fun σ H Q=>t σ H fun vs H1=>sp (vs ++ dvs) H1 Q E
def Binds (K:Frag) (fd:FuncData) (ps:List Str) (ds:List Value):Prop :=
 ∀ (s:Shared) (us:List Value),K.In s.heap->(us ++ ds).length=ps.length->BindsTo s fd ⟨us,[]⟩ (ps.zip (us ++ ds))
theorem Binds.all {K:Frag} {fd:FuncData} {ps:List Str} (h:∀ us:List Value,us.length=ps.length->bindArgs fd ⟨us,[]⟩=pure (ps.zip us)):Binds K fd ps []:=fun s us _ a=>by
 rw [aE6] at a ⊢
 exact .of_eq (h us a)
def ak7 (CX:CXT) (X:Cx) (E:XK):Prop:=∀ (pins:List (Addr × Obj)) (σ:St) (H:Hp) (s:Shared) (e:Value) (s':Shared),Inv X pins σ H s->CX X.stack H s E e s'->X.xe e s'
section
variable {X:Cx} {CX:CXT} {k:Nat} {f C:Addr} {fd:FuncData} {ps:List Str} {sp:Sp} {dvs:List V} {ds:List Value} {E:XK} {x m:Str} {p pos apos:Pos} {e o:Expr} {es:List Expr} {ta:TE} {t:TA}
theorem axn {pins:List (Addr × Obj)} {σ:St} {H:Hp} {s:Shared} {Q:VK} {us:List Value} {vs:List V} (F:FnOk X.prog X.w X.K X.mg X.base CX k f fd ps sp) (c:Room k X.A) (hb:Binds X.K fd ps ds) (hd:Vals dvs ds) (i:ak7 CX X E)
  (I:Inv X pins σ H s) (r:Vals vs us) (h:sp (vs ++ dvs) H Q E):wpAny (model X.prog X.w) X.A (call (.ref f) us) (EP X pins σ Q) X.xe s:=by
 have b:Vals (vs ++ dvs) (us ++ ds):=r.append hd
 have g:(us ++ ds).length=ps.length:=by rw [← b.length];exact F.len _ _ _ _ h
 refine wpAny_call (codeAny_mono (F.run X.A X.stack s H ⟨us,[]⟩ (us ++ ds) (vs ++ dvs) Q E c I.env0 (hb s us I.kIn g) b h) fun r d a=>?_)
 cases r with
 | error e=>exact i pins σ H s e d I a
 | ok fl =>
  cases fl with
  | ret u=>exact I.after a
  | next=>exact False.elim a
  | brk=>exact False.elim a
  | cont=>exact False.elim a
theorem au2 (F:FnOk X.prog X.w X.K X.mg X.base CX k f fd ps sp) (d:Room k X.A) (j:Gl X x) (hm:X.mg x=some (.ref f)) (g:keepIn X.K (.ref f)=true) (hb:Binds X.K fd ps ds) (hd:Vals dvs ds) (i:ak7 CX X E)
  (ha:PA X (e :: es) t) (b:(x == ("__debug__" : Str))=false:=by decide) (l:starEach (e :: es) X.env=(false,eval e X.env) :: starEach es X.env:=by rfl) (a:(backTo pos (starEach es X.env)).any (·.1)=false:=by rfl) :
  PE X (.Call (.Name x p) (e :: es) [] pos) (acf sp dvs E t):=by
 intro pins s σ H Q I h
 refine wpAny_Call_Name_kw (au0 I j hm ?_ b)
 refine PySem.W.callWith_K (h₀:=X.base) I.ok.mod.kin g (thn (ha pos pins s σ H _ I h) fun us s1 ⟨vs,m,c,r,q⟩=>⟨c.kIn,?_⟩) l a
 exact axn F d hb hd i c r q
end
section
variable {X:Cx} {CX:CXT} {k:Nat} {f C:Addr} {fd:FuncData} {ps ks:List Str} {sp:Sp} {E:XK} {x m:Str} {p pos apos kpos:Pos} {e o:Expr} {es:List Expr} {kws:List Keyword} {te ta:TE} {t tk:TA} {nm:Option Str}
variable {g:List Value->List Value->List Value} {gV:List V->List V->List V}
end
structure FnScope (N P:List Str) (sc:Scope):Prop where
 kind:sc.kind=.function
 co:sc.isCoroutine=false
 gen:sc.isGenerator=false
 nd:N.Nodup
 pre:N.take P.length=P
 par:∀ x∈P,sc.names.lookup x=some .local\/sc.names.lookup x=some .cell
 nofree:∀ y∈sc.names,y.2 ≠ .free
theorem ajc {kindOf:Str->Option NameKind} {x:Str}:∀ {binds:List (Str × Value)} {m:Str->Option Value},(∀ v,(x,v) ∉ binds)->bindL kindOf binds m x=m x
 | [],_,_=>rfl
 | (n,v) :: r,m,h=>by
  unfold bindL
  rw [ajc fun w a=>h w (aB4 _ a)]
  split
  ·have:x ≠ n:=by rintro rfl;exact h v aB7
   simp [this]
  ·rfl
theorem ajd {kindOf:Str->Option NameKind} {x:Str}:∀ {binds:List (Str × Value)} {m:Str->Option Value},(∀ v,(x,v) ∉ binds)->bindC kindOf binds m x=m x
 | [],_,_=>rfl
 | (n,v) :: r,m,h=>by
  unfold bindC
  rw [ajd fun w a=>h w (aB4 _ a)]
  split
  ·rfl
  ·have:x ≠ n:=by rintro rfl;exact h v aB7
   simp [this]
theorem aje {kindOf:Str->Option NameKind} {x:Str} {v:Value}:∀ {P:List Str} {vs:List Value} {i:Nat} {m:Str->Option Value},P.Nodup->P[i]?=some x->vs[i]?=some v->kindOf x=some .local ->
  bindL kindOf (P.zip vs) m x=some v
 | [],_,_,_,_,h,_,_=>by simp at h
 | _ :: _,[],_,_,_,_,h,_=>by simp at h
 | p :: P,w :: vs,0,m,nd,h1,h2,hk=>by
  simp at h1 h2;subst h1;subst h2
  show bindL kindOf ((p,w) :: P.zip vs) m p=_
  unfold bindL
  rw [ajc fun v a=>(aI0.mp nd).1 (List.of_mem_zip a).1,aF1 hk]
  simp
 | p :: P,w :: vs,i+1,m,nd,h1,h2,hk=>by
  show bindL kindOf ((p,w) :: P.zip vs) m x=_
  unfold bindL
  exact aje (i:=i) (aI0.mp nd).2 (by simpa using h1) (by simpa using h2) hk
theorem ajf {kindOf:Str->Option NameKind} {x:Str} {v:Value}:∀ {P:List Str} {vs:List Value} {i:Nat} {m:Str->Option Value},P.Nodup->P[i]?=some x->vs[i]?=some v->kindOf x ≠ some .local ->
  bindC kindOf (P.zip vs) m x=some v
 | [],_,_,_,_,h,_,_=>by simp at h
 | _ :: _,[],_,_,_,_,h,_=>by simp at h
 | p :: P,w :: vs,0,m,nd,h1,h2,hk=>by
  simp at h1 h2;subst h1;subst h2
  show bindC kindOf ((p,w) :: P.zip vs) m p=_
  unfold bindC
  rw [ajd fun v a=>(aI0.mp nd).1 (List.of_mem_zip a).1,aF2 hk]
  simp
 | p :: P,w :: vs,i+1,m,nd,h1,h2,hk=>by
  show bindC kindOf ((p,w) :: P.zip vs) m x=_
  unfold bindC
  exact ajf (i:=i) (aI0.mp nd).2 (by simpa using h1) (by simpa using h2) hk
def start (N:List Str) (vs:List V):St:=vs.map some ++ List.replicate (N.length - vs.length) none
def cxOf (CX:CXT) (P:Program) (w:World) (K:Frag) (mg:Str->Option Value) (base:Heap) (N:List Str) (qual:Str) (scope:Scope) (f:Addr) (cd:Value) (A:Around) (outer:List Env) (s:Shared) (H:Hp) (E:XK):Cx where
 prog:=P
 w:=w
 K:=K
 mg:=mg
 base:=base
 A:=A.deeper (envOfC qual scope s.heap.objs.size f cd)
 N:=N
 s₀:=s
 H₀:=H
 env:=envOfC qual scope s.heap.objs.size f cd
 outer:=outer
 stack:=envOfC qual scope s.heap.objs.size f cd :: outer
 ex:=[]
 calm:=true
 fn:=fun _=>true
 pn:=[]
 xe:=fun e s'=>wpAny (model P w) (A.deeper (envOfC qual scope s.heap.objs.size f cd)) (leaving (envOfC qual scope s.heap.objs.size f cd) e) (fun _ s''=>CX outer H s E e s'') (fun e' s''=>CX outer H s E e' s'') s'
theorem ak8 {sc:Scope} {n:Nat} {x:Str} (h:sc.names.lookup x=some .cell):∃ c,(cellsFrom n sc.names []).lookup x=some c:=by
 have q:=PySem.W.cellsFrom_some sc.names n [] (.inl h)
 exact Option.isSome_iff_exists.mp q
theorem aqm {CX:CXT} {P:Program} {w:World} {K:Frag} {mg:Str->Option Value} {base:Heap} {N ps:List Str} {qual:Str} {scope:Scope} {f:Addr} {C:Value} {A:Around} {outer:List Env} {s s1:Shared} {H:Hp} {E:XK} {us:List Value} {vs:List V}
  (S:FnScope N ps scope) (hd:A.handled=none) (g:Env0 P w K mg base A outer s H) (L:vs.length=ps.length) (r:Vals vs us)
  (x:InCallC s s.heap.objs.size (bindL (envOfC qual scope s.heap.objs.size f C).kindOf (ps.zip us) fun _=>none) (cellsFrom (s.heap.objs.size+1) scope.names []) (bindC (envOfC qual scope s.heap.objs.size f C).kindOf (ps.zip us) fun _=>none) s1) :
  Inv (cxOf CX P w K mg base N qual scope f C A outer s H E) [] (start N vs) H s1:=by
 have I:ps.length<=N.length:=by have:=congrArg List.length S.pre;rw [aG6] at this;omega
 obtain ⟨B,J,rfl,F⟩:=x.done
 have l:∀ b:Addr,b ∉ (cxOf CX P w K mg base N qual scope f C A outer s H E).ex:=fun b z=>absurd (show b∈([]:List Addr) from z) (by simp)
 refine ⟨⟨g.mod,S.kind,rfl,rfl,aA6 _,fun y z c B d=>?_,fun y j=>?_,fun y c _ h=>?_,fun _=>hd,Around.frames_deeper g.frames,.inr ⟨rfl,rfl⟩,fun b z=>absurd z (l b),g.bs,g.bsz,fun b _ _=>l b,fun b z=>absurd z (l b),g.funs,g.frf⟩,
  rfl,g.bare,Un.kept F,⟨_,x.toInCall.ns,fun i y v B d M=>?_⟩,fun y c h=>⟨_,x.cell y c h⟩,g.hok.fresh (aA6 _),fun y c h=>?_,fun p o=>absurd (show p∈([]:List (Addr × Obj)) from o) (by simp),g.hok.kept F,?_⟩
 ·exact name_of_addr x.apart (PySem.mem_of_lookup B) (PySem.mem_of_lookup d)
 ·have j:scope.names.lookup y=some .cell\/scope.names.lookup y=some .free:=j
  rcases j with j | j
  ·exact ak8 j
  ·exact absurd rfl (S.nofree _ (PySem.mem_of_lookup j))
 ·exact aG1 (x.above y c (PySem.mem_of_lookup h))
 ·have hi:i < vs.length:=by
   unfold start at d
   by_cases hi:i < vs.length
   ·exact hi
   ·rw [aC7 (by simpa using hi)] at d
    rw [aH3] at d
    split at d <;> cases d
  have ha:vs[i]?=some v:=by
   unfold start at d
   rw [aC2 (by simpa using hi),aA5] at d
   cases e:vs[i]? with
   | none=>rw [e] at d;cases d
   | some a=>rw [e] at d;cases d;rfl
  obtain ⟨u,D,G⟩:=r.get ha
  have o:ps[i]?=some y:=by
   rw [← S.pre,aH1 (by omega)];exact B
  have m:ps.Nodup:=by rw [← S.pre];exact S.nd.sublist (List.take_sublist _ _)
  refine ⟨u,G,?_⟩
  rcases S.par y (aA2 o) with k | k
  ·exact .inl ⟨k,aje m o D k⟩
  ·obtain ⟨c,e⟩:=ak8 (n:=s.heap.objs.size+1) k
   refine .inr ⟨.inl k,c,e,?_⟩
   have q:=x.cell y c e
   rw [ajf m o D (by show scope.names.lookup y ≠ _;rw [k];decide)] at q
   exact q
 ·exact g.hok.fresh (aG1 (x.above y c (PySem.mem_of_lookup h)))
 ·unfold start
  show _=N.length
  rw [aB0,aA3,List.length_replicate]
  omega
theorem azi {CX:CXT} {P:Program} {w:World} {K:Frag} {mg:Str->Option Value} {base:Heap} {k:Nat} {f:Addr} {name qual:Str} {a:Arguments} {body:List Stmt} {scope:Scope} {D kV doc pm cdv ct oc:Value} {an od:Option Addr}
  {osl:Array (Option Value)} {N ps:List Str} {sp:Sp} (R:K.lookup f=some ⟨oc,od,.func (fnOf name qual a body scope D kV doc pm an cdv ct),osl⟩) (m:codeIn K cdv qual=true) (S:FnScope N ps scope)
  (len:∀ vs H Q E,sp vs H Q E->vs.length=ps.length)
  (d:∀ (A:Around) (outer:List Env) (s:Shared) (H:Hp) (vs:List V) (Q:VK) (E:XK),Room k (A.deeper (envOfC qual scope s.heap.objs.size f cdv))->sp vs H Q E ->
   ∃ t,PSs (cxOf CX P w K mg base N qual scope f cdv A outer s H E) body t/\t { nx:=fun _ H'=>Q .non H',rt:=Q } (start N vs) H) :
  FnOk P w K mg base CX (k+1) f (fnOf name qual a body scope D kV doc pm an cdv ct) ps sp:=by
 refine ⟨len,fun A outer s H args us vs Q E l j hb r i=>?_⟩
 have O:=len _ _ _ _ i
 have C:K.In s.heap:=j.mod.kin.keeps fun b o e=>(j.bs b o e).1
 have B:s.heap.NoLimit:=j.mod.nolimit.keeps fun b o e=>(j.bs b o e).1
 have g:∀ y∈ps.zip us,scope.names.lookup y.1=some .local\/(scope.names.lookup y.1=some .cell/\((cellsFrom (s.heap.objs.size+1) scope.names []).lookup y.1).isSome=true):=fun ⟨n,v⟩ M=>by
  rcases S.par n (List.of_mem_zip M).1 with q | q
  ·exact .inl q
  ·exact .inr ⟨q,PySem.W.cellsFrom_some _ _ _ (.inl q)⟩
 refine codeAny_call_function l.depth (C _ _ R) rfl S.co S.gen rfl (PySem.W.codeRec_of C m) (hb _ _ _ _ ?_)
 refine wpAny_newFunctionEnv_cells S.kind g fun env T s1 x=>?_
 subst T
 refine ⟨B.keeps x.toInCall.keep,codeAny_func ?_⟩
 obtain ⟨t,L,G⟩:=d A outer s H vs Q E (l.deeper _) i
 have I:Inv (cxOf CX P w K mg base N qual scope f cdv A outer s H E) [] (start N vs) H s1:=aqm S l.hd j O r x
 refine aJ2 (L [] s1 (start N vs) H _ I G) (fun F z h=>?_) fun e z h=>h
 have fin:∀ {c:St} {H':Hp} {v:V} {u:Value},Inv (cxOf CX P w K mg base N qual scope f cdv A outer s H E) [] c H' z->RelV v u->Q v H'->CE outer P w H s Q u z :=
  fun {c H' v u} J p q=>⟨v,H',J.os,J.bare,J.base,J.hok,p,q⟩
 cases F with
 | ret u =>
  obtain ⟨v,c,H',J,p,q⟩:=h
  exact fin J p q
 | next =>
  obtain ⟨c,H',J,q⟩:=h
  exact fin (v:=V.non) (u:=Value.none) J rfl q
 | brk =>
  obtain ⟨_,_,_,q⟩:=h
  exact False.elim q
 | cont =>
  obtain ⟨_,_,_,q⟩:=h
  exact False.elim q
section
variable {X:Cx} {x:Str} {p pos:Pos} {e:Expr} {es:List Expr} {t:TA} {id T:String} {r:List V->Hp->VK->Prop}
def tCB (r:List V->Hp->VK->Prop) (t:TA):TE:=fun σ H Q=>t σ H fun vs H1=>r vs H1 Q
theorem aai (g:aa1 X (.builtin id) r) (i:Gl X x) (hm:X.mg x=none) (f:bootBuiltins x=some (.builtin id)) (ha:PA X (e :: es) t) (hn:x ≠ "__name__":=by decide) (b:(x == ("__debug__" : Str))=false:=by decide)
  (j:starEach (e :: es) X.env=(false,eval e X.env) :: starEach es X.env:=by rfl) (a:(backTo pos (starEach es X.env)).any (·.1)=false:=by rfl):PE X (.Call (.Name x p) (e :: es) [] pos) (tCB r t):=by
 intro pins s σ H Q I h
 refine wpAny_Call_Name_kw (ad4 I i hm f ?_ hn b)
 exact PyProof.Rows.callWith_builtin1 (thn (ha pos pins s σ H _ I h) fun us s1 ⟨vs,m,c,l,d⟩=>g pins s1 σ m vs us Q c l d) j a
theorem acv (g:aa1 X (.type T) r) (i:Gl X x) (hm:X.mg x=none) (f:bootBuiltins x=some (.type T)) (ha:PA X (e :: es) t) (hn:x ≠ "__name__":=by decide) (b:(x == ("__debug__" : Str))=false:=by decide)
  (j:starEach (e :: es) X.env=(false,eval e X.env) :: starEach es X.env:=by rfl) (a:(backTo pos (starEach es X.env)).any (·.1)=false:=by rfl):PE X (.Call (.Name x p) (e :: es) [] pos) (tCB r t):=by
 intro pins s σ H Q I h
 refine wpAny_Call_Name_kw (ad4 I i hm f ?_ hn b)
 exact PyProof.Rows.callWith_type1 (thn (ha pos pins s σ H _ I h) fun us s1 ⟨vs,m,c,l,d⟩=>g pins s1 σ m vs us Q c l d) j a
end
end L2
namespace HT
open PySem PyProof.Rows
def lexLt:List Int->List Int->Bool
 | [],[]=>false
 | [],_ :: _=>true
 | _ :: _,[]=>false
 | x :: xs,y :: ys=>if x=y then lexLt xs ys else decide (x < y)
theorem afd (x y:Int) (xs ys:List Int):lexLt (x :: xs) (y :: ys)=if x=y then lexLt xs ys else decide (x < y):=rfl
section
open PySem.SeqAt
open PySem.AutoSeq1 (wpAny_loadPart')
open PySem.MeetsSeq PySem.MeetsSeq2 PySem.MeetsSeq3
end
section
variable {prog:Program} {w:World} {A:Around} {E:Value->Shared->Prop} {s:Shared}
end
end HT
namespace L2
open PySem PySem.Spec PyProof.Rows
abbrev TO:=St->Hp->(Option Int->Hp->Prop)->Prop
theorem acm {ns:List Int}:∀ {us:List Value},Vals (ns.map V.int) us->IntsAre us ns:=by
 induction ns with
 | nil=>intro us r;rw [List.map_nil] at r;cases r;exact .nil
 | cons n ns ih =>
  intro us r
  rw [aD0] at r
  cases r with
  | cons r1 r2 =>
   obtain ⟨t,e⟩:=r1
   subst e
   exact .cons n t (ih r2)
section
variable {X:Cx} {e:Expr} {te:TE} {lo hi:Option Expr} {tl th:TO} {pos p2:Pos}
def SlR (X:Cx) (r:V->Option Int->Option Int->Hp->VK->Prop):Prop :=
 ∀ (pins:List (Addr × Obj)) (s:Shared) (σ:St) (H:Hp) (x:V) (v vl vu:Value) (lo hi:Option Int) (sl:Addr) (Q:VK),Inv X pins σ H s->RelV x v->s.heap.IsSliceOf sl vl vu .none->IsPart vl lo->IsPart vu hi->r x lo hi H Q ->
  ∃ T id,typeLookup (.type T) "__getitem__" = pure (some (.builtin id))/\s.TypeIs v T/\wpAny (model X.prog X.w) X.A (getItem v (.ref sl)) (EP X pins σ Q) X.xe s
end
def ixN (n:Nat) (i:Int):Option Nat:=if 0<=i then (if i < n then some i.toNat else none) else if -(n:Int)<=i then some (i+n).toNat else none
def atI {α:Type} (xs:List α) (i:Int):Option α:=(ixN xs.length i).bind fun j=>xs[j]?
theorem anh {n:Nat} {i:Int} {j:Nat} (h:ixN n i=some j):seqIndex? i n=some j/\j < n/\-(n:Int)<=i/\i < n:=by
 unfold ixN at h
 by_cases h0:0<=i
 ·rw [aF1 h0] at h
  by_cases h1:i < n
  ·rw [aF1 h1] at h
   have e:i.toNat=j:=aC5 h
   exact ⟨by rw [seqIndex_of h0 h1,e],by omega,by omega,h1⟩
  ·rw [aF2 h1] at h;cases h
 ·rw [aF2 h0] at h
  by_cases h1 : -(n:Int)<=i
  ·rw [aF1 h1] at h
   have e:(i+n).toNat=j:=aC5 h
   exact ⟨by rw [seqIndex_neg (by omega) h1,e],by omega,h1,by omega⟩
  ·rw [aF2 h1] at h;cases h
theorem ani {α:Type} {xs:List α} {i:Int} {v : α} (h:atI xs i=some v):∃ j,seqIndex? i xs.length=some j/\xs[j]?=some v/\j < xs.length/\-(xs.length:Int)<=i/\i < xs.length:=by
 unfold atI at h
 cases e:ixN xs.length i with
 | none=>rw [e] at h;cases h
 | some j =>
  rw [e] at h
  obtain ⟨d,c,a,b⟩:=anh e
  exact ⟨j,d,h,c,a,b⟩
theorem adj {α:Type} {xs:List α} {j:Nat} {v : α} (h:xs[j]?=some v):atI xs (j:Int)=some v:=by
 have a:j < xs.length:=(aA1.mp h).1
 have e:ixN xs.length (j:Int)=some j:=by
  unfold ixN
  rw [aF1 (by omega),aF1 (by omega)];simp
 unfold atI;rw [e];exact h
def au3 (b:Expr):Prop:=∀ o i,subscripted b false o i=operate [o,i] (getItem o i)
def IxR (X:Cx) (r:R2):Prop :=
 ∀ (value slice:Expr) (pins:List (Addr × Obj)) (s:Shared) (σ:St) (H:Hp) (x y:V) (v u:Value) (Q:VK),Inv X pins σ H s->RelV x v->RelV y u->r x y H Q ->
  subscripted slice false v u=operate [v,u] (getItem v u)->wpAny (model X.prog X.w) X.A (subscriptTail value slice v u) (EP X pins σ Q) X.xe s
def MtR (X:Cx) (id:String) (r:V->List V->Hp->VK->Prop):Prop :=
 ∀ (pins:List (Addr × Obj)) (s:Shared) (σ:St) (H:Hp) (x:V) (xs:List V) (v:Value) (us:List Value) (Q:VK),Inv X pins σ H s->RelV x v->Vals xs us->r x xs H Q ->
  wpAny (model X.prog X.w) X.A (call (.builtin id) (v :: us)) (EP X pins σ Q) X.xe s
section
variable {X:Cx} {a b:Expr} {ta tb:TE} {pos:Pos}
theorem IxR.or {r f:R2} (h:IxR X r) (h':IxR X f):IxR X (fun x y H Q=>r x y H Q\/f x y H Q):=by
 intro a b pins s σ H x y v u Q I d c q g
 rcases q with q | q
 ·exact h a b pins s σ H x y v u Q I d c q g
 ·exact h' a b pins s σ H x y v u Q I d c q g
theorem aao {r:R2} (c:IxR X r) (ha:PE X a ta) (hb:PE X b tb) (i:au3 b):PE X (.Subscript a b pos) (tOp r ta tb):=by
 intro pins s σ H Q I h
 exact Subscript_ (binT ha hb I h fun v u s2 x y H2 d g f q=>c a b pins s2 σ H2 x y v u Q d g f q (i _ _))
def rIxL (K:Frag):R2:=fun x y H Q=>∃ p xs i v,x=.ref p/\y=.int i/\SqL K H p xs/\atI xs i=some v/\Q v H
def rIxT (K:Frag):R2:=fun x y H Q=>∃ p xs i v,x=.ref p/\y=.int i/\SqT K H p xs/\atI xs i=some v/\Q v H
theorem ix_list:IxR X (rIxL X.K):=by
 intro f g pins s σ H x y v u Q I C o h m
 obtain ⟨p,xs,i,z,rfl,rfl,A,G,q⟩:=h
 cases C
 obtain ⟨t,rfl⟩:=o
 obtain ⟨its,r,d,hz⟩:=I.list A
 obtain ⟨j,a,D,J,B,n⟩:=ani G
 obtain ⟨w,l,b⟩:=r.get D
 have F:=r.length
 have hn:=afx
 have fin:EP X pins σ Q w s:=⟨z,H,I,b,q⟩
 by_cases h0:0<=i
 ·have c:i.toNat=j:=by
   rw [seqIndex_of h0 n] at a
   exact aC5 a
  exact item_listR d.isList h0 (by omega) (by rw [c];simpa using l) fin m
 ·have c:(i+(its.toArray.size:Int)).toNat=j:=by
   rw [seqIndex_neg (by omega) B] at a
   rw [aB1,← F]
   exact aC5 a
  exact subscriptTail_builtinR (x:=w) d.isList.typeIs slot_list_getitem.lookup
   (wpAny_getItem_list_neg (Q:=fun r E=>r=w/\EP X pins σ Q r E) d.isList (by omega) (by rw [aB1] <;> omega) (by omega) (by rw [c];simpa using l) ⟨rfl,fin⟩) m
theorem axo:IxR X (rIxT X.K):=by
 intro b c pins s σ H x y v u Q I l f h B
 obtain ⟨p,xs,i,z,rfl,rfl,g,D,q⟩:=h
 cases l
 obtain ⟨t,rfl⟩:=f
 obtain ⟨its,r,d,hz⟩:=I.tuple g
 obtain ⟨j,A,m,G,F,E⟩:=ani D
 obtain ⟨w,n,a⟩:=r.get m
 have C:=r.length
 have hn:=afx
 have fin:EP X pins σ Q w s:=⟨z,H,I,a,q⟩
 exact subscriptTail_builtinR (x:=w) d.typeIs slot_tuple_getitem.lookup
  (getItem_tuple (j:=j) (Q:=fun r o=>r=w/\EP X pins σ Q r o) d (by omega) (by omega) (by rw [aB1,← C];exact A) (by simpa using n) ⟨rfl,fin⟩) B
theorem ao4 (its:List Value) (n j:Nat) (u:Value):Obj.mapSeq (·.setIfInBounds j u) { cls:=.type "list",data:=.seq its.toArray n }={ cls:=.type "list",data:=.seq (its.set j u).toArray n }:=by
 simp [Obj.mapSeq]
theorem Inv.lst {pins:List (Addr × Obj)} {σ:St} {H:Hp} {s:Shared} {p:Addr} {xs:List V} (I:Inv X pins σ H s) (h:H p=some (.lst xs)) :
  ∃ (its:List Value) (n:Nat),Vals xs its/\s.heap.get? p=some { cls:=.type "list",data:=.seq its.toArray n }/\xs.length<=sizeLine:=by
 obtain ⟨z,its,n,r,e⟩:=I.hok p _ h
 exact ⟨its,n,r,e,z⟩
theorem Inv.lstUpd {pins:List (Addr × Obj)} {σ:St} {H:Hp} {s:Shared} {p:Addr} {xs ys:List V} {its its':List Value} {n a:Nat} {f:Obj->Obj} (I:Inv X pins σ H s) (h:H p=some (.lst xs))
  (c:s.heap.get? p=some { cls:=.type "list",data:=.seq its.toArray n }) (hf:f { cls:=.type "list",data:=.seq its.toArray n }={ cls:=.type "list",data:=.seq its'.toArray a }) (r:Vals ys its') (hz:ys.length<=sizeLine) (t:Nat) :
  Inv X pins σ (upd H p (.lst ys)) { s with heap:=s.heap.update p f,toks:=t }:=by
 have e:(s.heap.update p f).get? p=some { cls:=.type "list",data:=.seq its'.toArray a }:=by
  rw [Heap.get?_update_self f c (by rw [hf] <;> rfl),hf]
 refine I.write (x:=p) (e:=p) (by rw [h];trivial) (.inl rfl) (fun b u hb q=>(Heap.get?_update_other _ _ (Ne.symm hb)).trans q) ⟨_,e⟩ ?_
 exact ⟨hz,its',a,r,e⟩
def ao5:V->V->V->Hp->(Hp->Prop)->Prop:=fun o i v H Q=>∃ p xs k j,o=.ref p/\i=.int k/\H p=some (.lst xs)/\ixN xs.length k=some j/\Q (upd H p (.lst (xs.set j v)))
theorem aea:PSet X ao5:=by
 intro pins s σ H o i v A C u Q I x z w h
 obtain ⟨p,xs,k,j,rfl,rfl,m,y,q⟩:=h
 cases x
 obtain ⟨t,rfl⟩:=z
 obtain ⟨its,n,r,d,hz⟩:=I.lst m
 obtain ⟨a,B,l,g⟩:=anh y
 have c:=r.length
 have hn:=afx
 have f:Inv X pins σ (upd H p (.lst (xs.set j v))) { s with heap:=s.heap.update p (Obj.mapSeq (·.setIfInBounds j u)) } :=
  I.lstUpd m d (ao4 its n j u) (r.set w j) (by rw [List.length_set];exact hz) s.toks
 by_cases h0:0<=k
 ·have b:k.toNat=j:=by
   rw [seqIndex_of h0 g] at a
   exact aC5 a
  exact PySem.W.ki_setAt d h0 (by omega) (by rw [aB1,← c];exact g) (by rw [b];exact ⟨_,f,q⟩)
 ·have b:(k+(its.toArray.size:Int)).toNat=j:=by
   rw [seqIndex_neg (by omega) l] at a
   rw [aB1,← c]
   exact aC5 a
  exact PySem.W.ki_setBack d (by omega) (by rw [aB1,← c];exact l) (by omega) (by rw [b];exact ⟨_,f,q⟩)
theorem ak9:aa1 X (.builtin "len") (fun xs H Q=>∃ p ys,xs=[.ref p]/\(SqL X.K H p ys\/SqT X.K H p ys)/\Q (.int ys.length) H):=by
 intro pins s σ H xs us Q I r h
 obtain ⟨p,ys,rfl,b,q⟩:=h
 obtain ⟨u,rfl,f⟩:=ab6 r
 cases f
 have hn:=afx
 rcases b with b | b
 ·obtain ⟨its,d,c,hz⟩:=I.list b
  have a:=d.length
  exact Calls.call_len_list c.isList (by simp only [aB1] <;> omega) ⟨.int ys.length,H,I.tok _,⟨s.toks+1,by rw [aB1,a]⟩,q⟩
 ·obtain ⟨its,d,c,hz⟩:=I.tuple b
  have a:=d.length
  exact len_tuple c (by simp only [aB1] <;> omega) ⟨.int ys.length,H,I.tok _,⟨s.toks+1,by rw [aB1,a]⟩,q⟩
theorem ala:aa1 X (.type "list") (fun xs H Q=>∃ p ys,xs=[.ref p]/\(SqL X.K H p ys\/SqT X.K H p ys)/\∀ l,H l=none->Q (.ref l) (upd H l (.lst ys))):=by
 intro pins s σ H xs us Q I r h
 obtain ⟨p,ys,rfl,f,q⟩:=h
 obtain ⟨u,rfl,m⟩:=ab6 r
 cases m
 have fin:∀ (its:List Value),Vals ys its->ys.length<=sizeLine->∀ (h':Heap) (a:Nat),(∀ b o',s.heap.get? b=some o'->h'.get? b=some o') ->
   h'.get? s.heap.objs.size=some { cls:=.type "list",dict:=none,data:=.seq its.toArray a,slots:=#[] }->EP X pins σ Q (.ref s.heap.objs.size) { s with heap:=h' }:=fun its c hz h' a kp e =>
  ⟨.ref s.heap.objs.size,_,I.laid (t':=s.toks) kp (aA6 _) (show ObjOk X.prog X.w _ h' _ (.lst ys) from ⟨hz,its,a,c,e⟩),rfl,q _ (I.hok.fresh (aA6 _))⟩
 rcases f with f | f
 ·obtain ⟨its,c,g,hz⟩:=I.list f
  have d:=c.length
  obtain ⟨o,j,i,n,hd⟩:=g.isList
  exact call_list_seq p (.inl rfl) j i hd (fun h' a kp e=>fin its c hz h' a kp e) (by simp only [aB1] <;> omega)
 ·obtain ⟨its,c,g,hz⟩:=I.tuple f
  have d:=c.length
  obtain ⟨o,j,i,n,hd⟩:=g
  exact call_list_seq p (.inr rfl) j i hd (fun h' a kp e=>fin its c hz h' a kp e) (by simp only [aB1] <;> omega)
def tyV (K:Frag) (T:String) (x:V) (H:Hp):Prop:=match x with
 | .str _=>T = "str"
 | .int _=>T = "int"
 | .ref p=>(T = "list"/\∃ xs,SqL K H p xs)\/(T = "tuple"/\∃ o,K.lookup p=some o/\o.cls=.type "tuple"/\o.dict=none) ∨
   (T = "dict"/\((∃ kvs,H p=some (.dK kvs))\/∃ kvs,H p=some (.dT kvs)))\/(T = "set"/\∃ S n,H p=some (.set S n))
 | _=>False
theorem aqn {pins:List (Addr × Obj)} {σ:St} {H:Hp} {s:Shared} {T:String} {x:V} {v:Value} (I:Inv X pins σ H s) (r:RelV x v) (ty:tyV X.K T x H) :
  s.TypeIs v T/\∀ a,v=.ref a->∃ f,s.heap.get? a=some f/\f.dict=none:=by
 cases x with
 | str z =>
  obtain ⟨t,rfl⟩:=r
  cases (show T = "str" from ty)
  exact ⟨typeIs_str s z t,fun _ e=>nomatch e⟩
 | int i =>
  obtain ⟨t,rfl⟩:=r
  cases (show T = "int" from ty)
  exact ⟨typeIs_int s i t,fun _ e=>nomatch e⟩
 | ref p =>
  cases r
  rcases ty with ⟨rfl,xs,h⟩ | ⟨rfl,o,b,j,hd⟩ | ⟨rfl,b⟩ | ⟨rfl,S,n,b⟩
  ·obtain ⟨its,_,g,_⟩:=I.list h
   refine ⟨g.isList.typeIs,fun a e=>?_⟩
   cases e
   obtain ⟨o,n,e,c,hd,_⟩:=g
   exact ⟨o,e,hd⟩
  ·refine ⟨⟨o,I.kIn p o b,j⟩,fun a e=>?_⟩
   cases e
   exact ⟨o,I.kIn _ o b,hd⟩
  ·have z:∃ o,s.heap.get? p=some o/\o.ExactDict:=by
    rcases b with ⟨kvs,b⟩ | ⟨kvs,b⟩
    ·obtain ⟨_,_,_,_,o,_,_,e,ex,_⟩:=I.hok p _ b
     exact ⟨o,e,ex⟩
    ·obtain ⟨_,_,_,_,o,_,_,e,ex,_⟩:=I.hok p _ b
     exact ⟨o,e,ex⟩
   obtain ⟨o,e,ex⟩:=z
   refine ⟨⟨o,e,ex.1⟩,fun a d=>?_⟩
   cases d
   exact ⟨o,e,ex.2.1⟩
  ·obtain ⟨o,_,_,_,e,ex,_⟩:=I.hok p _ b
   refine ⟨⟨o,e,ex.1⟩,fun a d=>?_⟩
   cases d
   exact ⟨o,e,ex.2.1⟩
 | _=>exact False.elim ty
def tBM0 (K:Frag) (T:String) (r:V->List V->Hp->VK->Prop) (to:TE):TE:=fun σ H Q=>to σ H fun x H1=>tyV K T x H1/\r x [] H1 Q
def tBM (K:Frag) (T:String) (r:V->List V->Hp->VK->Prop) (to:TE) (t:TA):TE:=fun σ H Q=>to σ H fun x H1=>tyV K T x H1/\t σ H1 fun xs H2=>r x xs H2 Q
variable {o e:Expr} {es:List Expr} {to:TE} {t:TA} {name:Str} {apos cpos:Pos} {T id:String} {r:V->List V->Hp->VK->Prop}
theorem axp (m:PlainAttrs T) (slot:Slot T name id) (c:typeOf (.builtin id)=pure (.type "method_descriptor")) (hm:MtR X id r) (l:PE X o to)
  (a:attributeBase o name X.env (eval o X.env)=eval o X.env:=by rfl) (b:(apos.endLine == cpos.line)=true:=by rfl):PE X (.Call (.Attribute o name apos) [] [] cpos) (tBM0 X.K T r to):=by
 intro pins s σ H Q I h
 refine wpAny_Call_method0_late a b (thn (l pins s σ H _ I h) fun v s1 ⟨x,n,d,f,ty,j⟩=>?_)
 obtain ⟨i,g⟩:=aqn d f ty
 exact ⟨T,id,m,slot,c,i,g,Calls.callWith_builtin rfl (PySem.evalArgs_none (hm pins s1 σ n x [] v [] Q d f .nil j))⟩
theorem acp (A:PlainAttrs T) (slot:Slot T name id) (g:typeOf (.builtin id)=pure (.type "method_descriptor")) (hm:MtR X id r) (z:PE X o to) (ha:PA X (e :: es) t)
  (c:attributeBase o name X.env (eval o X.env)=eval o X.env:=by rfl)
  (f:((backTo cpos (starEach (e :: es) X.env)).all (fun x => !x.1) && (backToKw cpos (keywordEach [] X.env)).all (fun x=>x.1.isSome)
   && decide ((e :: es).length+([]:List Keyword).length+(if ([]:List Keyword).isEmpty then 0 else 1) < 30))=true:=by rfl)
  (d:(apos.endLine == cpos.line)=true:=by rfl) (w:starEach (e :: es) X.env=(false,eval e X.env) :: starEach es X.env:=by rfl) (b:(backTo cpos (starEach es X.env)).any (·.1)=false:=by rfl) :
  PE X (.Call (.Attribute o name apos) (e :: es) [] cpos) (tBM X.K T r to t):=by
 intro pins s σ H Q I h
 refine wpAny_Call_method_late c f d rfl (thn (z pins s σ H _ I h) fun v s1 ⟨x,B,i,l,ty,q⟩=>?_)
 obtain ⟨p,n⟩:=aqn i l ty
 refine ⟨T,id,A,slot,g,p,n,?_⟩
 have j:=ha cpos pins s1 σ B _ i q
 rw [w] at j ⊢
 refine Calls.callWith_builtin (by show (false || (backTo cpos (starEach es X.env)).any (·.1))=false;rw [b] <;> rfl) (Calls.evalArgs_plain ?_)
 exact thn j fun us s2 ⟨vs,H2,m,y,u⟩=>hm pins s2 σ H2 x vs v us Q m l y u
/- xs.append(e), list.index on a module's tuple .. are MtR facts of 06m -/
end
def MtM (X:Cx) (id:String) (r:V->List V->Hp->VK->Prop):Prop :=
 ∀ (pins:List (Addr × Obj)) (s:Shared) (σ:St) (H:Hp) (x:V) (xs:List V) (v:Value) (us:List Value) (Q:VK),Inv X pins σ H s->RelV x v->Vals xs us->r x xs H Q ->
  wpAny (model X.prog X.w) X.A (call (.builtin id) (v :: us)) (EP X pins σ Q) X.xe s
theorem Vals.one:∀ {x:V} {us:List Value},Vals [x] us->∃ u,us=[u]/\RelV x u
 | _,_,.cons r .nil=>⟨_,rfl,r⟩
theorem Vals.eraseIdx:∀ {xs:List V} {us:List Value} (i:Nat),Vals xs us->Vals (xs.eraseIdx i) (us.eraseIdx i)
 | _,_,_,.nil => .nil
 | _,_,0,.cons _ t=>t
 | _,_,i+1,.cons r t => .cons r (Vals.eraseIdx i t)
theorem Vals.reverse {xs:List V} {us:List Value} (h:Vals xs us):Vals xs.reverse us.reverse:=by
 induction h with
 | nil=>exact .nil
 | cons r t ih=>rw [List.reverse_cons,List.reverse_cons];exact Vals.append ih (.cons r .nil)
theorem Vals.rep {xs:List V} {us:List Value} (h:Vals xs us):∀ k:Nat,Vals (List.replicate k xs).flatten (List.replicate k us).flatten
 | 0 => .nil
 | k+1=>by
  rw [aG9,aG9,List.flatten_cons,List.flatten_cons]
  exact Vals.append h (Vals.rep h k)
theorem ajg {α:Type}:∀ (l:List α) (i:Nat),(l.eraseIdx i).length<=l.length
 | [],_=>aA6 _
 | _ :: _,0=>Nat.le_succ _
 | _ :: r,i+1=>Nat.succ_le_succ (ajg r i)
theorem ajh (its:List Value):∀ (k:Nat) (a:List Value),
  List.foldl (fun b c=>b ++ c) a.toArray (List.replicate k its.toArray)=(a ++ (List.replicate k its).flatten).toArray
 | 0,a=>by simp
 | k+1,a=>by
  have e:a.toArray ++ its.toArray=(a ++ its).toArray:=by simp
  have d:(a ++ its) ++ (List.replicate k its).flatten=a ++ (List.replicate (k+1) its).flatten:=by
   rw [aG9,List.flatten_cons,aB3]
  rw [← d,← ajh its k (a ++ its),← e,aG9,List.foldl_cons]
section
variable {X:Cx} {pins:List (Addr × Obj)} {σ:St} {H:Hp} {s:Shared} {l b:Addr} {xs ys zs:List V}
theorem Inv.lset {its its':List Value} {n:Nat} {f:Array Value->Array Value} {t':Nat} (I:Inv X pins σ H s) (c:H l=some (.lst xs))
  (e:s.heap.get? l=some { cls:=.type "list",data:=.seq its.toArray n }) (hf:f its.toArray=its'.toArray) (b:Vals ys its') (hz:ys.length<=sizeLine) :
  Inv X pins σ (upd H l (.lst ys)) { s with heap:=s.heap.update l (Obj.mapSeq f),toks:=t' }:=by
 have q:=PySem.IsL.update e f
 rw [hf] at q
 refine I.write (x:=l) (e:=l) (by rw [c];exact trivial) (.inl rfl) (fun d u hb a=>(Heap.get?_update_other s.heap (Obj.mapSeq f) (Ne.symm hb)).trans a) ⟨_,q⟩ ?_
 exact ⟨hz,its',_,b,q⟩
theorem Inv.lnew {its:List Value} {t':Nat} (I:Inv X pins σ H s) (a:Vals ys its) (hz:ys.length<=sizeLine) :
  Inv X pins σ (upd H s.heap.objs.size (.lst ys)) { s with heap:=s.heap.push { cls:=.type "list",data:=.seq its.toArray },toks:=t' } :=
 I.laid (fun _ _ q=>aI7 _ q) (aA6 _) ⟨hz,its,0,a,aI9 _ rfl⟩
theorem Inv.fresh (I:Inv X pins σ H s):H s.heap.objs.size=none:=I.hok.fresh (aA6 _)
theorem Inv.lstM (I:Inv X pins σ H s) (a:H l=some (.lst xs)):xs.length<=sizeLine/\∃ (its:List Value) (n:Nat),Vals xs its/\xs.length=its.length/\s.heap.get? l=some { cls:=.type "list",data:=.seq its.toArray n }:=by
 obtain ⟨z,its,n,r,e⟩:=I.hok l _ a
 exact ⟨z,its,n,r,r.length,e⟩
theorem alb {n:Nat} (h:n<=sizeLine):Builtin.List.listTooLong n=false:=by
 unfold Builtin.List.listTooLong
 exact aD4 (by omega)
end
section
variable {X:Cx}
def ad2:V->List V->Hp->VK->Prop:=fun x vs H Q=>∃ l xs y,x=.ref l/\vs=[y]/\H l=some (.lst xs)/\xs.length < sizeLine/\Q .non (upd H l (.lst (xs ++ [y])))
theorem abh:MtM X "list.append" ad2:=by
 intro pins s σ H x vs v us Q I d b h
 obtain ⟨l,xs,y,rfl,rfl,a,hz,q⟩:=h
 cases d
 obtain ⟨u,rfl,c⟩:=b.one
 obtain ⟨z,its,n,r,f,e⟩:=I.lstM a
 refine call_meets F.slot_list_append ⟨_,e,rfl⟩ F.entry_list_append (F.args_list_append_2 _ _) (PySem.list_append l its.toArray n u (by rw [aB1];omega)) ⟨e,?_⟩
 refine ⟨.non,_,I.lset (its':=its ++ [u]) a e (by simp) (r.append (.cons c .nil)) ?_,rfl,q⟩
 rw [aB0,List.length_singleton]
 omega
def ail:V->List V->Hp->VK->Prop:=fun x vs H Q=>∃ l b xs zs,x=.ref l/\vs=[.ref b]/\H l=some (.lst xs)/\H b=some (.lst zs)/\xs.length+zs.length<=sizeLine/\Q .non (upd H l (.lst (xs ++ zs)))
theorem aqo:MtM X "list.extend" ail:=by
 intro pins s σ H x vs v us Q I j g h
 obtain ⟨l,b,xs,B,rfl,rfl,d,o,hz,q⟩:=h
 cases j
 obtain ⟨u,rfl,i⟩:=g.one
 cases i
 obtain ⟨z,its,n,r,A,e⟩:=I.lstM d
 obtain ⟨y,a,m,w,f,p⟩:=I.lstM o
 have hsz:its.toArray.size+a.toArray.size<=sizeLine:=by rw [aB1,aB1];omega
 have c:¬ (!its.toArray.isEmpty && Builtin.List.listTooLong (its.toArray.size+a.toArray.size))=true:=by
  rw [alb hsz,Bool.and_false]
  exact aA9
 refine call_meets F.slot_list_extend ⟨_,e,rfl⟩ F.entry_list_extend (F.args_list_extend_2 _ _)
  (AutoSeq1.list_extend_list_list_0 l its.toArray n b a.toArray m c (by rw [aB1];omega) (by omega)) ⟨e,p,?_⟩
 refine ⟨.non,_,I.lset (its':=its ++ a) d e (by simp) (r.append w) ?_,rfl,q⟩
 rw [aB0]
 omega
def alc:V->List V->Hp->VK->Prop:=fun x vs H Q=>∃ l xs i k y,x=.ref l/\vs=[.int i]/\H l=some (.lst xs)/\-(2 ^ 63)<=i/\i < 2 ^ 63/\seqIndex? i xs.length=some k/\xs[k]?=some y/\Q y (upd H l (.lst (xs.eraseIdx k)))
theorem asj:MtM X "list.pop" alc:=by
 intro pins s σ H x vs v us Q I j d h
 obtain ⟨l,xs,i,k,y,rfl,rfl,b,o,m,f,p,q⟩:=h
 cases j
 obtain ⟨u,rfl,g⟩:=d.one
 obtain ⟨t,rfl⟩:=g
 obtain ⟨z,its,n,r,A,e⟩:=I.lstM b
 obtain ⟨w,c,a⟩:=r.get p
 refine call_meets F.slot_list_pop ⟨_,e,rfl⟩ F.entry_list_pop (F.args_list_pop_2 _ _)
  (MeetsSeq.list_pop_at l its.toArray n i t k w (fitsIndex_both o m) (by rw [aB1,← A];exact f) (by rw [← aD3];exact c) (by rw [aB1];omega)) ⟨e,?_⟩
 refine ⟨y,_,I.lset (its':=its.eraseIdx k) b e ?_ (r.eraseIdx k) ?_,a,q⟩
 ·show its.toArray.eraseIdxIfInBounds k=(its.eraseIdx k).toArray
  rw [List.eraseIdxIfInBounds_toArray]
 ·have:=ajg xs k
  omega
def rCat:R2:=fun x y H Q=>∃ l b xs zs,x=.ref l/\y=.ref b/\H l=some (.lst xs)/\H b=some (.lst zs)/\xs.length+zs.length<=sizeLine/\∀ p,H p=none->Q (.ref p) (upd H p (.lst (xs ++ zs)))
theorem aqp:OpR X (binaryOp .Add) rCat:=by
 intro pins s σ H x y v u Q I i g h
 obtain ⟨l,b,xs,B,rfl,rfl,d,j,hz,q⟩:=h
 cases i
 cases g
 obtain ⟨z,its,n,r,A,e⟩:=I.lstM d
 obtain ⟨w,a,p,o,c,m⟩:=I.lstM j
 refine PySem.P.add_list e m ?_ (by rw [aB1,aB1];omega)
 have f:its.toArray ++ a.toArray=(its ++ a).toArray:=by simp
 rw [f]
 exact ⟨.ref _,_,I.lnew (t':=s.toks) (r.append o) (by rw [aB0];omega),rfl,q _ I.fresh⟩
def rRep:R2:=fun x y H Q=>∃ l k xs,x=.ref l/\y=.int k/\H l=some (.lst xs)/\-(2 ^ 63)<=k/\k < 2 ^ 63/\xs.length * k.toNat<=sizeLine /\
 ∀ p,H p=none->Q (.ref p) (upd H p (.lst (List.replicate k.toNat xs).flatten))
theorem anj {α:Type} (xs:List α) (k:Nat):(List.replicate k xs).flatten.length=k * xs.length:=by
 induction k with
 | zero=>simp
 | succ k ih=>rw [aG9,List.flatten_cons,aB0,ih,Nat.succ_mul,Nat.add_comm]
theorem axq:OpR X (binaryOp .Mult) rRep:=by
 intro pins s σ H x y v u Q I w p h
 obtain ⟨l,k,xs,rfl,rfl,o,C,A,hz,q⟩:=h
 cases w
 obtain ⟨t,rfl⟩:=p
 obtain ⟨z,its,n,r,D,e⟩:=I.lstM o
 have d:its.toArray.size * k.toNat<=sizeLine:=by rw [aB1,← D];exact hz
 have c:¬ its.toArray.size * k.toNat > (2 ^ 63 - 1) / 8:=by
  have:(sizeLine:Nat)<=(2 ^ 63 - 1) / 8:=by decide
  omega
 have f:¬ (!Builtin.List.listFitsIndex k)=true:=by
  rw [fitsIndex_both C A]
  exact aA9
 have b:¬ Builtin.List.listTooLong (its.toArray.size * k.toNat)=true:=by
  rw [alb d]
  exact aA9
 have g:List.foldl (fun i j=>i ++ j) #[] (List.replicate (if its.toArray.isEmpty=true then 0 else k.toNat) its.toArray)=(List.replicate k.toNat its).flatten.toArray:=by
  have E:∀ m:Nat,List.foldl (fun i j=>i ++ j) #[] (List.replicate m its.toArray)=(List.replicate m its).flatten.toArray:=fun m=>by
   have:=ajh its m []
   rw [List.nil_append] at this
   exact this
  rw [E]
  cases its with
  | nil=>simp
  | cons a r'=>rw [aF2 (by simp)]
 refine wpAny_binaryOp_repeat_ref (T:="list") (U:="int") (by decide) ⟨_,e,rfl⟩ (fun B=>typeIs_int B k t) noFill_list_mul F.fills_int_mul F.slot_int_rmul repeat_list F.slot_int_index.lookup
  (call_meets F.slot_int_rmul (typeIs_int s k t) F.entry_int_rmul (F.args_int_rmul_2 _ _) (int___rmul___int_list k t l its.toArray n)
   ⟨e,rfl,⟨_,e,rfl⟩,call_meets F.slot_list_mul ⟨_,e,rfl⟩ F.entry_list_mul (F.args_list_mul_2 _ _) (AutoListH.list___mul___list_int_3 l its.toArray n k t f c b) ⟨e,?_⟩⟩)
 rw [g]
 exact ⟨.ref _,_,I.lnew (t':=s.toks) (r.rep k.toNat) (by rw [anj,Nat.mul_comm];exact hz),rfl,q _ I.fresh⟩
end
section
variable {prog:Program} {w:World} {A:Around} {E:Value->Shared->Prop} {s:Shared}
end
section
variable {X:Cx}
end
section
variable {κ:Type} [DecidableEq κ]
def valV (kvs:List (κ × V)) (k : κ):Option V:=(kvs.find? fun kv=>decide (kv.1=k)).map (·.2)
def putK (kvs:List (κ × V)) (k : κ) (v:V):List (κ × V) :=
 if (kvs.any fun kv=>decide (kv.1=k))=true then kvs.map (fun kv=>if kv.1=k then (kv.1,v) else kv) else kvs ++ [(k,v)]
def auk (kvs:List (κ × V)) (k : κ):List (κ × V):=kvs.filter fun kv=>decide (kv.1 ≠ k)
theorem afe {p : κ × V} {r:List (κ × V)} {k : κ} (e:p.1=k):valV (p :: r) k=some p.2:=by simp [valV,List.find?_cons,e]
theorem aff {p : κ × V} {r:List (κ × V)} {k : κ} (e:¬ p.1=k):valV (p :: r) k=valV r k:=by simp [valV,List.find?_cons,e]
theorem ald (k : κ):∀ kvs:List (κ × V),(kvs.any fun a=>decide (a.1=k))=(valV kvs k).isSome
 | []=>rfl
 | p :: r=>by
  rw [List.any_cons]
  by_cases e:p.1=k
  ·simp only [afe e,aD5 e,Bool.true_or,Option.isSome_some]
  ·rw [aff e,aD4 e,Bool.false_or];exact ald k r
theorem aew (kvs:List (κ × V)) (k : κ) (v:V):(putK kvs k v).length<=kvs.length+1:=by
 unfold putK
 split
 ·rw [aA3];omega
 ·rw [aB0,aE2,aI4];omega
theorem RelO.isSome_eq {o:Option V} {u:Option Value} (r:RelO o u):o.isSome=u.isSome:=by
 cases o with
 | none=>cases u with
  | none=>rfl
  | some _=>exact (show False from r).elim
 | some _=>cases u with
  | none=>exact (show False from r).elim
  | some _=>rfl
theorem RelO.getD {o:Option V} {u:Option Value} {d:V} {d':Value} (r:RelO o u) (a:RelV d d'):RelV (o.getD d) (u.getD d'):=by
 cases o with
 | none=>cases u with
  | none=>exact a
  | some _=>exact (show False from r).elim
 | some _=>cases u with
  | none=>exact (show False from r).elim
  | some _=>exact r
theorem KV.val {kvs:List (κ × V)} {vs:List (κ × Value)} (r:KV kvs vs) (k : κ):RelO (valV kvs k) (valueAt vs k):=by
 unfold KV at r
 induction r with
 | nil=>exact True.intro
 | @cons p q ps qs h t ih =>
  obtain ⟨c,d⟩:=h
  by_cases e:p.1=k
  ·have a:q.1=k:=c.symm.trans e
   have b:valueAt (q :: qs) k=some q.2:=by simp [valueAt,List.find?_cons,a]
   rw [afe e,b];exact d
  ·have a:¬ q.1=k:=fun z=>e (c.trans z)
   have b:valueAt (q :: qs) k=valueAt qs k:=by simp [valueAt,List.find?_cons,a]
   rw [aff e,b];exact ih
theorem KV.any {kvs:List (κ × V)} {vs:List (κ × Value)} (r:KV kvs vs) (k : κ):(kvs.any fun a=>decide (a.1=k))=vs.any fun a=>decide (a.1=k):=by
 unfold KV at r
 induction r with
 | nil=>rfl
 | cons h t ih=>rw [List.any_cons,List.any_cons,ih,h.1]
theorem KV.repl {kvs:List (κ × V)} {vs:List (κ × Value)} (r:KV kvs vs) (k : κ) {y:V} {u:Value} (c:RelV y u) :
  KV (kvs.map fun a=>if a.1=k then (a.1,y) else a) (vs.map fun a=>if a.1=k then (a.1,u) else a):=by
 unfold KV at r ⊢
 induction r with
 | nil=>exact .nil
 | @cons p q ps qs h t ih =>
  rw [aD0,aD0]
  refine .cons ?_ ih
  obtain ⟨b,d⟩:=h
  by_cases e:p.1=k
  ·rw [aF1 e,aF1 (b.symm.trans e)];exact ⟨b,c⟩
  ·rw [aF2 e,aF2 (fun z=>e (b.trans z))];exact ⟨b,d⟩
theorem KV.put {kvs:List (κ × V)} {vs:List (κ × Value)} (r:KV kvs vs) (k : κ) {y:V} {u:Value} (a:RelV y u):KV (putK kvs k y) (stored vs k u):=by
 unfold putK stored
 rw [r.any k]
 by_cases e:(vs.any fun b=>decide (b.1=k))=true
 ·rw [aF1 e,aF1 e];exact r.repl k a
 ·rw [aF2 e,aF2 e];exact Paired.snoc r ⟨rfl,a⟩
theorem KV.drop {kvs:List (κ × V)} {vs:List (κ × Value)} (r:KV kvs vs) (k : κ):KV (auk kvs k) (without vs k):=by
 unfold KV at r ⊢
 unfold auk without
 induction r with
 | nil=>exact .nil
 | @cons p q ps qs h t ih =>
  obtain ⟨c,f⟩:=h
  rw [List.filter_cons,List.filter_cons]
  by_cases e:p.1=k
  ·have a:¬ decide (p.1 ≠ k)=true:=by simp [e]
   have b:¬ decide (q.1 ≠ k)=true:=by simp [c.symm.trans e]
   rw [aF2 a,aF2 b];exact ih
  ·have d:¬ q.1=k:=fun z=>e (c.trans z)
   have a:decide (p.1 ≠ k)=true:=by simp [e]
   have b:decide (q.1 ≠ k)=true:=by simp [d]
   rw [aF1 a,aF1 b];exact .cons ⟨c,f⟩ ih
theorem KV.length {kvs:List (κ × V)} {vs:List (κ × Value)} (r:KV kvs vs):kvs.length=vs.length:=Paired.length r
end
theorem ahr {P:Program} {w:World} {k:Key} {u:Value} (r:RelV (kV k) u):(aa4 P w).is k u=true:=by
 cases k with
 | inl i=>obtain ⟨t,e⟩:=(show ∃ t,u=Value.int i t from r);subst e;exact ag5 P w i t
 | inr x=>obtain ⟨t,e⟩:=(show ∃ t,u=Value.str x t from r);subst e;exact am1 P w x t
theorem aji {P:Program} {w:World}:∀ {a:List Key} {us:List Value},Vals (a.map kV) us->ItemsAre (aa4 P w) a us
 | [],_,r=>by rw [List.map_nil] at r;cases r;exact .nil
 | k :: a,_,r=>by
  rw [aD0] at r
  cases r with
  | cons h t=>exact .cons (ahr h) (aji t)
abbrev KT (H:Hp):List (List Key × V)->List (List Key × Addr × Value)->Prop:=Paired fun p q=>p.1=q.1/\H q.2.1=some (.tup (p.1.map kV))/\RelV p.2 q.2.2
theorem KT.val {H:Hp} {kvs:List (List Key × V)} {xs:List (List Key × Addr × Value)} (r:KT H kvs xs) (k:List Key):RelO (valV kvs k) ((atKey xs k).map (·.2)):=by
 induction r with
 | nil=>exact True.intro
 | @cons p q ps qs h t ih =>
  obtain ⟨c,_,d⟩:=h
  by_cases e:p.1=k
  ·have a:q.1=k:=c.symm.trans e
   have b:atKey (q :: qs) k=some q.2:=by simp [atKey,List.find?_cons,a]
   rw [afe e,b];exact d
  ·have a:¬ q.1=k:=fun z=>e (c.trans z)
   have b:atKey (q :: qs) k=atKey qs k:=by simp [atKey,List.find?_cons,a]
   rw [aff e,b];exact ih
theorem KT.repl {H:Hp} {kvs:List (List Key × V)} {xs:List (List Key × Addr × Value)} (r:KT H kvs xs) (k:List Key) {y:V} {u:Value} (f:RelV y u) :
  KT H (kvs.map fun b=>if b.1=k then (b.1,y) else b) (xs.map (putAt k u)):=by
 induction r with
 | nil=>exact .nil
 | @cons p q ps qs h t ih =>
  rw [aD0,aD0]
  refine .cons ?_ ih
  obtain ⟨a,c,d⟩:=h
  unfold putAt
  by_cases e:p.1=k
  ·rw [aF1 e,aF1 (a.symm.trans e)];exact ⟨a,c,f⟩
  ·rw [aF2 e,aF2 (fun z=>e (a.trans z))];exact ⟨a,c,d⟩
theorem KT.put {H:Hp} {kvs:List (List Key × V)} {xs:List (List Key × Addr × Value)} (r:KT H kvs xs) (k:List Key) {b:Addr} {y:V} {u:Value} (hb:H b=some (.tup (k.map kV))) (a:RelV y u) :
  KT H (putK kvs k y) (storedH xs k b u):=by
 have e:(kvs.any fun c=>decide (c.1=k))=(atKey xs k).isSome:=by
  rw [ald,(r.val k).isSome_eq,Option.isSome_map]
 unfold putK storedH
 rw [e]
 by_cases q:(atKey xs k).isSome=true
 ·rw [aF1 q,aF1 q];exact r.repl k a
 ·rw [aF2 q,aF2 q];exact Paired.snoc r ⟨rfl,hb,a⟩
theorem KT.keeps {H H':Hp} {kvs:List (List Key × V)} {xs:List (List Key × Addr × Value)} (r:KT H kvs xs) (a:∀ b ys,H b=some (.tup ys)->H' b=some (.tup ys)):KT H' kvs xs :=
 Paired.mapP r fun _ _ z=>⟨z.1,a _ _ z.2.1,z.2.2⟩
section
variable {P:Program} {w:World} {H:Hp} {h:Heap} {a:Addr}
theorem aul {u:HO} (ok:HOk P w H h) (e:Rd H a u):ObjOk P w H h a u:=e.ok ok
theorem ahs {kvs:List (Key × V)} (ok:HOk P w H h) (e:Rd H a (.dK kvs)):kvs.length<=sizeLine/\(a == sysModules)=false/\∃ vs,KV kvs vs/\h.DictOf (aa4 P w) a vs :=
 show ObjOk P w H h a (.dK kvs) from aul ok e
theorem akn {kvs:List (Key × V)} (ok:HOk P w H h) (e:H a=some (.dK kvs)):kvs.length<=sizeLine/\(a == sysModules)=false/\∃ vs,KV kvs vs/\h.DictOf (aa4 P w) a vs:=ahs ok (.inl e)
theorem ae1 {b:List Key} (ok:HOk P w H h) (e:H a=some (.tup (b.map kV))):(tupleKind (aa4 P w)).is h b a:=by
 obtain ⟨_,its,r,o,f,d,n,c⟩:=(show ObjOk P w H h a (.tup (b.map kV)) from ok a _ e)
 exact ⟨o,its.toArray,n,f,d,c,by simpa using aji r⟩
theorem aht {kvs:List (List Key × V)} (ok:HOk P w H h) (e:Rd H a (.dT kvs)):kvs.length<=sizeLine/\(a == sysModules)=false /\
  ∃ xs,KT H kvs xs/\h.DictOfH (tupleKind (aa4 P w)) a xs:=by
 obtain ⟨z,y,xs,r,o,es,ep,g,f,i,d,c⟩:=(show ObjOk P w H h a (.dT kvs) from aul ok e)
 refine ⟨z,y,xs,r,o,es,ep,g,f,i,d,fun x b=>?_,c⟩
 have all:∀ {l:List (List Key × V)} {m:List (List Key × Addr × Value)},KT H l m->∀ x∈m,(tupleKind (aa4 P w)).is h x.1 x.2.1:=by
  intro l m q
  induction q with
  | nil=>intro x b;exact nomatch b
  | @cons p q ps qs hq t ih =>
   intro x b
   rcases aA8.mp b with e | b
   ·subst e
    exact ae1 ok (by rw [← hq.1];exact hq.2.1)
   ·exact ih x b
 exact all r x b
theorem ahu {kvs:List (List Key × V)} (ok:HOk P w H h) (e:H a=some (.dT kvs)):kvs.length<=sizeLine/\(a == sysModules)=false /\
  ∃ xs,KT H kvs xs/\h.DictOfH (tupleKind (aa4 P w)) a xs:=aht ok (.inl e)
end
def DGet (H:Hp) (a:Addr) (y:V) (r:Option V):Prop :=
 (∃ kvs k,Rd H a (.dK kvs)/\y=kV k/\r=valV kvs k)\/∃ kvs k b,Rd H a (.dT kvs)/\y=.ref b/\H b=some (.tup (k.map kV))/\r=valV kvs k
def DPut (H:Hp) (a:Addr) (y v:V) (H':Hp):Prop :=
 (∃ kvs k,H a=some (.dK kvs)/\y=kV k/\kvs.length < sizeLine/\H'=upd H a (.dK (putK kvs k v))) ∨
 ∃ kvs k b,H a=some (.dT kvs)/\y=.ref b/\H b=some (.tup (k.map kV))/\kvs.length < sizeLine/\H'=upd H a (.dT (putK kvs k v))
theorem DGet.k {H:Hp} {a:Addr} {kvs:List (Key × V)} {k:Key} (e:H a=some (.dK kvs)):DGet H a (kV k) (valV kvs k):=.inl ⟨kvs,k,.inl e,rfl,rfl⟩
theorem DGet.t {H:Hp} {a b:Addr} {kvs:List (List Key × V)} {k:List Key} (e:H a=some (.dT kvs)) (c:H b=some (.tup (k.map kV))):DGet H a (.ref b) (valV kvs k):=.inr ⟨kvs,k,b,.inl e,rfl,c,rfl⟩
theorem DPut.k {H:Hp} {a:Addr} {kvs:List (Key × V)} {k:Key} {v:V} (e:H a=some (.dK kvs)) (b:kvs.length < sizeLine):DPut H a (kV k) v (upd H a (.dK (putK kvs k v))):=.inl ⟨kvs,k,e,rfl,b,rfl⟩
theorem DPut.t {H:Hp} {a b:Addr} {kvs:List (List Key × V)} {k:List Key} {v:V} (e:H a=some (.dT kvs)) (c:H b=some (.tup (k.map kV))) (d:kvs.length < sizeLine) :
  DPut H a (.ref b) v (upd H a (.dT (putK kvs k v))):=.inr ⟨kvs,k,b,e,rfl,c,d,rfl⟩
section
variable {X:Cx} {pins:List (Addr × Obj)} {σ:St} {H:Hp} {s:Shared} {a:Addr} {y v:V} {u r:Value} {o:Option V} {A:Around} {E:Value->Shared->Prop}
theorem Inv.big (I:Inv X pins σ H s):sysModules < s.heap.objs.size:=by
 have h:mainGlobals < s.heap.objs.size:=(I.mod.glob.keeps I.bk).lt
 exact Nat.lt_trans (by decide) h
theorem aqq {Q:Value->Shared->Prop} (r:A.units+1 < cLine) (I:Inv X pins σ H s) (g:DGet H a y (some v)) (n:RelV y u) (h:∀ f q,Inv X pins σ H q->RelV v f->Q f q) :
  wpAny (model X.prog X.w) A (getItem (.ref a) u) Q E s:=by
 rcases g with ⟨kvs,k,e,j,l⟩ | ⟨kvs,k,b,e,j,x,l⟩
 ·subst j
  obtain ⟨z,hd,vs,d,dd⟩:=ahs I.hok e
  obtain ⟨f,i,c⟩:=RelO.some_of (v:=v) (o:=valueAt vs k) (by rw [l];exact d.val k)
  exact wpAny_getItem_of (ahr n) dd.mapOf i (h f _ (I.tok _) c)
 ·subst j
  cases (show u=Value.ref b from n)
  obtain ⟨z,hd,xs,d,dd⟩:=aht I.hok e
  obtain ⟨f,i,c⟩:=RelO.some_of (v:=v) (o:=(atKey xs k).map (·.2)) (by rw [l];exact d.val k)
  obtain ⟨p,B,m⟩:=Option.map_eq_some_iff.mp i
  refine wpAny_getItem_heap (tupleKind_room_in1 r) (ae1 I.hok x) dd B ?_
  rw [m]
  exact h f _ (I.tok _) c
theorem au4 {Q:Value->Shared->Prop} (j:A.units+1 < cLine) (I:Inv X pins σ H s) (g:DGet H a y o) (f:RelV y u) (h:∀ i,Inv X pins σ H i->Q (.bool (!o.isSome)) i) :
  wpAny (model X.prog X.w) A (compareOp .NotIn u (.ref a)) Q E s:=by
 rcases g with ⟨kvs,k,e,d,l⟩ | ⟨kvs,k,b,e,d,m,l⟩
 ·subst d
  obtain ⟨z,hd,vs,c,dd⟩:=ahs I.hok e
  refine wpAny_notIn_of (ahr f) hd dd.mapOf ?_
  rw [← (c.val k).isSome_eq,← l]
  exact h _ (I.tok _)
 ·subst d
  cases (show u=Value.ref b from f)
  obtain ⟨z,hd,xs,c,dd⟩:=aht I.hok e
  refine wpAny_notIn_heap (tupleKind_room_in1 j) (ae1 I.hok m) hd dd ?_
  have q:=(c.val k).isSome_eq
  rw [Option.isSome_map] at q
  rw [← q,← l]
  exact h _ (I.tok _)
theorem agn {h':Heap} {t':Nat} {c:HO} (I:Inv X pins σ H s) (d:Mut (H a)) (g:Heap.SameBut a s.heap h') (f:∃ q,h'.get? a=some q) (new:ObjOk X.prog X.w (upd H a c) h' a c) :
  Inv X pins σ (upd H a c) { s with heap:=h',toks:=t' } :=
 I.write (x:=a) (e:=a) d (.inl rfl) (fun b q hb z=>(g.2 b hb).trans z) f new
theorem aqr {P:Program} {w:World} {H':Hp} {h':Heap} {kvs:List (Key × V)} {vs:List (Key × Value)} (z:kvs.length<=sizeLine) (hd:(a == sysModules)=false) (b:KV kvs vs) (dd:h'.DictOf (aa4 P w) a vs) :
  ObjOk P w H' h' a (.dK kvs):=⟨z,hd,vs,b,dd⟩
theorem aqs {H':Hp} {Q:Unit->Shared->Prop} (F:A.units+1 < cLine) (I:Inv X pins σ H s) (g:DPut H a y v H') (B:RelV y u) (x:RelV v r) (h:∀ C,Inv X pins σ H' C->Q () C) :
  wpAny (model X.prog X.w) A (setItem (.ref a) u r) Q E s:=by
 rcases g with ⟨kvs,k,e,m,l,j⟩ | ⟨kvs,k,b,e,m,D,l,j⟩
 ·subst m j
  obtain ⟨z,hd,vs,d,dd⟩:=akn I.hok e
  have hz:vs.length<=sizeLine:=by rw [← d.length];exact z
  have o:(putK kvs k v).length<=sizeLine:=by have:=aew kvs k v;omega
  refine wpAny_setItem_pairs (hsz:=hz) (ahr B) dd fun h' f n=>h _ ?_
  have M:∃ q,h'.get? a=some q:=let ⟨q,_,_,i,_⟩:=f;⟨q,i⟩
  exact agn I (by rw [e];exact True.intro) n M (aqr o hd (d.put k x) f)
 ·subst m j
  cases (show u=Value.ref b from B)
  obtain ⟨z,hd,xs,d,dd⟩:=ahu I.hok e
  have hz:xs.length<=sizeLine:=by rw [← Paired.length d];exact z
  have o:(putK kvs k v).length<=sizeLine:=by have:=aew kvs k v;omega
  refine wpAny_setItem_heap (hsz:=hz) (tupleKind_room_in1 F) (ae1 I.hok D) dd fun h' f n=>h _ ?_
  obtain ⟨q,es,ep,i,K,L,J,_,G⟩:=f
  refine agn I (by rw [e];exact True.intro) n ⟨q,i⟩ ⟨o,hd,_,(d.put k D x).keeps fun c ys p=>?_,q,es,ep,i,K,L,J,G⟩
  rw [aad (aue p e (fun z=>nomatch z))]
  exact p
end
section
variable {X:Cx} {pins:List (Addr × Obj)} {σ:St} {H:Hp} {s:Shared} {a:Addr} {kvs:List (Key × V)} {k:Key} {u:Value} {A:Around} {E:Value->Shared->Prop}
end
def NoSl (i:Expr):Prop:=∀ ov iv,subscripted i false ov iv=operate [ov,iv] (getItem ov iv)
theorem au5 {prog:Program} {w:World} {A:Around} {E:Value->Shared->Prop} {s:Shared} {env:Env} {b a:Expr} {pos:Pos} {T id:String} {Q:Value->Shared->Prop}
  (p:typeLookup (.type T) "__getitem__" = pure (some (.builtin id))) (n:NoSl a)
  (h:wpAny (model prog w) A (eval b env) (fun o g=>wpAny (model prog w) A (eval a env) (fun i c=>c.TypeIs o T/\wpAny (model prog w) A (getItem o i) Q E c) E g) E s) :
  wpAny (model prog w) A (eval (.Subscript b a pos) env) Q E s:=by
 refine Subscript_ (aJ2 h (fun o g l=>aJ2 l (fun i c d=>?_) fun _ _ x=>x) fun _ _ x=>x)
 obtain ⟨m,d⟩:=d
 unfold subscriptTail
 refine aI5 ?_
 rw [getitemInPython_of_ne m.not_modules]
 refine aI5 (wpAny_specialOf m p ?_)
 have fin:wpAny (model prog w) A (subscripted a false o i) (fun r f=>wpAny (model prog w) A (letTemporaryGo b o r >>= fun _=>pure r) Q E f) E c:=by
  rw [n o i]
  exact wpAny_operating (aJ2 d (fun r f j=>aI5 (wpAny_letTemporaryGo (aI6 j))) fun _ _ x=>x)
 first
  | exact aI6 (aI5 fin)
  | exact aI5 (aI6 (aI5 fin))
  | exact aI5 fin
theorem am2 {X:Cx} {pins:List (Addr × Obj)} {σ:St} {H:Hp} {s:Shared} {a:Addr} {y:V} {o:Option V} (I:Inv X pins σ H s) (g:DGet H a y o):s.TypeIs (.ref a) "dict":=by
 rcases g with ⟨kvs,k,e,_,_⟩ | ⟨kvs,k,b,e,_,_,_⟩
 ·obtain ⟨_,_,vs,_,dd⟩:=ahs I.hok e
  exact dd.typeIs
 ·obtain ⟨_,_,xs,_,dd⟩:=aht I.hok e
  exact dd.typeIs
def ako (td ty:TE):TE:=fun σ H Q=>td σ H fun x H1=>ty σ H1 fun y H2=>∃ a v,x=.ref a/\DGet H2 a y (some v)/\Q v H2
def ae2 (ty td:TE):TE:=fun σ H Q=>ty σ H fun y H1=>td σ H1 fun x H2=>∃ a o,x=.ref a/\DGet H2 a y o/\Q (.bl (!o.isSome)) H2
def ahv (td ty tv:TE):TS:=fun D σ H=>tv σ H fun v H1=>td σ H1 fun x H2=>ty σ H2 fun y H3=>∃ a H4,x=.ref a/\DPut H3 a y v H4/\D.nx σ H4
section
variable {X:Cx} {o i e value:Expr} {pos pos' tpos:Pos} {td ty tv:TE}
theorem ago (d:X.A.units+1 < cLine) (r:PE X o td) (hi:PE X i ty) (q:NoSl i):PE X (.Subscript o i pos) (ako td ty):=by
 intro pins s σ H Q I h
 refine au5 PySem.F.slot_dict_getitem.lookup q (thn (r pins s σ H _ I h) fun u s1 ⟨x,w,f,m,n⟩=>thn (hi pins s1 σ w _ f n) fun C s2 ⟨y,H2,c,l,a,v,ex,g,p⟩=>?_)
 subst ex
 obtain rfl:u=Value.ref a:=m
 exact ⟨am2 c g,aqq d c g l fun z B j b=>⟨v,H2,j,b,p⟩⟩
theorem ajj (b:X.A.units+1 < cLine) (hi:PE X i ty) (q:PE X o td):PC X .NotIn i o (ae2 ty td):=by
 intro pins s σ H Q I h
 refine thn (hi pins s σ H _ I h) fun w s1 ⟨y,r,f,l,n⟩=>thn (q pins s1 σ r _ f n) fun u s2 ⟨x,H2,j,m,a,c,ex,g,p⟩=>?_
 subst ex
 obtain rfl:u=Value.ref a:=m
 exact au4 b j g l fun v d=>⟨.bl (!c.isSome),H2,d,rfl,p⟩
theorem ae3 (b:X.A.units+1 < cLine) (E:PE X o td) (hi:PE X i ty) (w:PE X value tv) (C:swapsWith value (some (.Subscript o i pos')) pos.line X.env=pure false) :
  PS X (.Assign [.Subscript o i pos'] value pos) (ahv td ty tv):=by
 intro pins s σ H D I h
 refine wpAny_Assign_Subscript (thn (w pins s σ H _ I h) fun r s1 ⟨v,F,l,d,q⟩=>thn (E pins s1 σ F _ l q) fun u s2 ⟨x,H2,m,p,z⟩=>thn (hi pins s2 σ H2 _ m z) fun K G ⟨y,H3,j,n,a,B,ex,g,c⟩=>?_) C
 subst ex
 obtain rfl:u=Value.ref a:=p
 exact aqs b j g n d fun J f=>⟨σ,B,f,c⟩
end
theorem asl {P:Program} {w:World} {H:Hp} (h:Heap) (hb:sysModules < h.objs.size):ObjOk P w H (h.push { cls:=.type "dict",data:=.dict #[] }) h.objs.size (.dK []) :=
 ⟨aF6 _,beq_eq_false_iff_ne.mpr (Ne.symm (aB5 hb)),[],.nil,Heap.DictOf.new h⟩
theorem asm {P:Program} {w:World} {H:Hp} (h:Heap) (hb:sysModules < h.objs.size):ObjOk P w H (h.push { cls:=.type "dict",data:=.dict #[] }) h.objs.size (.dT []) :=
 ⟨aF6 _,beq_eq_false_iff_ne.mpr (Ne.symm (aB5 hb)),[],.nil,_,#[],0,aI9 _ rfl,⟨rfl,rfl,rfl⟩,rfl,rfl,List.nodup_nil⟩
def ale:TE:=fun _ H Q=>∀ p,H p=none->Q (.ref p) (upd H p (.dT []))
section
variable {X:Cx} {pos:Pos}
theorem alf:PE X (.Dict [] [] pos) ale:=fun pins s σ H Q I h =>
 wpAny_Dict_empty ⟨.ref s.heap.objs.size,_,I.laid (a:=s.heap.objs.size) (o:=.dT []) (t':=s.toks) (fun _ _ q=>aI7 _ q) (aA6 _) (asm s.heap I.big),rfl,h _ (I.hok.fresh (aA6 _))⟩
end
def alg:List (TE × TE)->St->Hp->(List (V × V)->Hp->Prop)->Prop
 | [],_,H,Q=>Q [] H
 | (tk,tv) :: r,σ,H,Q=>tk σ H fun x H1=>tv σ H1 fun y H2=>alg r σ H2 fun ps H3=>Q ((x,y) :: ps) H3
abbrev VV:List (V × V)->List (Value × Value)->Prop:=Paired fun p q=>RelV p.1 q.1/\RelV p.2 q.2
def PPs (X:Cx) (pos:Pos) (keys:List (Option Expr)) (values:List Expr) (trs:List (TE × TE)):Prop :=
 ∀ (pins:List (Addr × Obj)) (s:Shared) (σ:St) (H:Hp) (Q:List (V × V)->Hp->Prop),Inv X pins σ H s->alg trs σ H Q ->
  wpAny (model X.prog X.w) X.A (evalPairs (pairTrees keys values X.env pos)) (fun vs s'=>∃ ps H',Inv X pins σ H' s'/\VV ps vs/\Q ps H') X.xe s
theorem au6 {X:Cx} {pos:Pos}:PPs X pos [] [] []:=fun pins s σ H Q I h=>pairTrees_nil_walk ⟨[],H,I,.nil,h⟩
theorem asn {X:Cx} {pos:Pos} {k v:Expr} {c:List (Option Expr)} {vs:List Expr} {d f:TE} {a:List (TE × TE)} (m:PE X k d) (r:PE X v f) (g:PPs X pos c vs a) :
  PPs X pos (some k :: c) (v :: vs) ((d,f) :: a):=fun pins s σ H Q I h =>
 pairTrees_cons_walk (thn (m pins s σ H _ I h) fun u s1 ⟨x,z,j,p,q⟩=>thn (r pins s1 σ z _ j q) fun C s2 ⟨y,H2,n,o,w⟩ =>
  thn (g pins s2 σ H2 _ n w) fun A B ⟨ps,H3,l,b,i⟩=>⟨(x,y) :: ps,H3,l,.cons ⟨p,o⟩ b,i⟩)
def ae4 (kvs more:List (Key × V)):List (Key × V):=more.foldl (fun acc kv=>putK acc kv.1 kv.2) kvs
theorem KV.merge:∀ {more:List (Key × V)} {rs:List (Key × Value)} {kvs:List (Key × V)} {vs:List (Key × Value)},KV more rs->KV kvs vs->KV (ae4 kvs more) (merged vs rs):=by
 intro more rs kvs vs r
 unfold KV at r
 induction r generalizing kvs vs with
 | nil=>intro q;exact q
 | @cons p q ps qs h t ih =>
  intro a
  have e:KV (putK kvs p.1 p.2) (stored vs q.1 q.2):=by
   have:=a.put p.1 h.2
   rw [← h.1];exact this
  exact ih e
theorem afo:∀ (more kvs:List (Key × V)),(ae4 kvs more).length<=kvs.length+more.length
 | [],kvs=>by show kvs.length<=kvs.length+0;omega
 | p :: r,kvs=>by
  have b:=afo r (putK kvs p.1 p.2)
  have a:=aew kvs p.1 p.2
  show (ae4 (putK kvs p.1 p.2) r).length<=_
  rw [aE2];omega
theorem ahw {P:Program} {w:World}:∀ {kvs:List (Key × V)} {d:List (Value × Value)},VV (kvs.map fun f=>(kV f.1,f.2)) d->∃ rs,Carries (aa4 P w) d rs/\KV kvs rs
 | [],_,r=>by rw [List.map_nil] at r;cases r;exact ⟨[],True.intro,.nil⟩
 | p :: kvs,_,r=>by
  rw [aD0] at r
  cases r with
  | @cons a b as bs h t =>
   obtain ⟨rs,c,q⟩:=ahw (P:=P) (w:=w) t
   obtain ⟨i,g⟩:=b
   exact ⟨(p.1,g) :: rs,⟨ahr h.1,rfl,c⟩,.cons ⟨rfl,h.2⟩ q⟩
def aum (trs:List (TE × TE)):TE:=fun σ H Q=>∀ p,H p=none->alg trs σ (upd H p (.dK [])) fun ps H2=>H2 p=some (.dK [])/\∃ kvs:List (Key × V),ps=kvs.map (fun kv=>(kV kv.1,kv.2))/\kvs.length<=15/\Q (.ref p) (upd H2 p (.dK (ae4 [] kvs)))
theorem au7 {X:Cx} {pos:Pos} {keys:List (Option Expr)} {b:List Expr} {f:List (TE × TE)} (h:PPs X pos keys b f) (d:keys.all (·.isSome)=true) (A:keys.length=b.length) (v:keys ≠ [])
  (j:keys.length<=15):PE X (.Dict keys b pos) (aum f):=by
 intro pins s σ H Q I q
 have hn:=I.hok.fresh (aA6 s.heap.objs.size)
 have n:=I.laid (a:=s.heap.objs.size) (o:=.dK []) (h':=s.heap.push { cls:=.type "dict",data:=.dict #[] }) (t':=s.toks) (fun _ _ q=>aI7 _ q) (aA6 _) (asl s.heap I.big)
 refine wpAny_Dict_walk (knd:=aa4 X.prog X.w) d A v j (thn (h pins _ σ _ _ n (q _ hn)) fun D s2 ⟨ps,H2,l,i,e,kvs,ep,E,x⟩=>?_)
 subst ep
 obtain ⟨rs,c,r⟩:=ahw (P:=X.prog) (w:=X.w) i
 obtain ⟨z,hd,C,m,dd⟩:=akn l.hok e
 cases m
 refine ⟨rs,c,dd,fun h' g y=>⟨.ref s.heap.objs.size,_,?_,rfl,x⟩⟩
 have hz:(ae4 [] kvs).length<=sizeLine:=by
  have u:=afo kvs []
  rw [aI4] at u
  rw [sizeLine_eq];omega
 have B:∃ q,h'.get? s.heap.objs.size=some q:=let ⟨q,_,_,p,_⟩:=g;⟨q,p⟩
 exact agn l (by rw [e];exact True.intro) y B (aqr hz hd (r.merge .nil) g)
structure M1 (X:Cx) (o:Expr) (m:Str) (apos:Pos) (e:Expr) (cpos:Pos):Prop where
 base:attributeBase o m X.env (eval o X.env)=eval o X.env
 few:((backTo cpos (starEach [e] X.env)).all (fun x => !x.1) && (backToKw cpos (keywordEach [] X.env)).all (fun x=>x.1.isSome)
  && decide (([e]:List Expr).length+([]:List Keyword).length+(if ([]:List Keyword).isEmpty then 0 else 1) < 30))=true
 line:(apos.endLine == cpos.line)=true
 trees:backTo cpos (starEach [e] X.env)=[(false,eval e X.env)]
def IsD (H:Hp) (a:Addr):Prop:=(∃ kvs,Rd H a (.dK kvs))\/∃ kvs,Rd H a (.dT kvs)
theorem axr {X:Cx} {pins:List (Addr × Obj)} {σ:St} {H:Hp} {s:Shared} {a:Addr} (I:Inv X pins σ H s) (d:IsD H a) :
  s.TypeIs (.ref a) "dict"/\(∀ b,Value.ref a=.ref b->∃ c,s.heap.get? b=some c/\c.dict=none)/\(a == sysModules)=false:=by
 rcases d with ⟨kvs,e⟩ | ⟨kvs,e⟩
 ·obtain ⟨_,hd,vs,_,dd⟩:=ahs I.hok e
  refine ⟨dd.typeIs,fun b q=>?_,hd⟩
  cases q
  obtain ⟨c,_,_,g,f,_⟩:=dd
  exact ⟨c,g,f.2.1⟩
 ·obtain ⟨_,hd,xs,_,dd⟩:=aht I.hok e
  refine ⟨dd.typeIs,fun b q=>?_,hd⟩
  cases q
  obtain ⟨c,_,_,g,f,_⟩:=dd
  exact ⟨c,g,f.2.1⟩
section
variable {X:Cx} {pins:List (Addr × Obj)} {σ:St} {H:Hp} {s:Shared} {a:Addr} {y d:V} {u r:Value} {o:Option V} {A:Around} {E:Value->Shared->Prop}
end
section
variable {X:Cx} {o e f:Expr} {apos cpos:Pos} {td ty tx:TE}
end
section
variable {X:Cx} {pins:List (Addr × Obj)} {σ:St} {H:Hp} {s:Shared} {a:Addr} {kvs:List (Key × V)} {A:Around} {E:Value->Shared->Prop}
end
section
variable {X:Cx} {pins:List (Addr × Obj)} {σ:St} {H:Hp} {s:Shared} {a:Addr} {y:V} {u:Value} {A:Around} {E:Value->Shared->Prop}
end
end L2
namespace Att
open PySem PySem.W PySem.Calls PyProof.Rows
theorem ahx {P:Params} {h:Heap}:∀ (ns:List Int) (vs:List Value),WellAll P h vs (ns.map WData.int)->IntsAre vs ns:=by
 intro ns
 induction ns with
 | nil =>
  intro vs w
  rw [List.map_nil] at w
  cases w
  exact .nil
 | cons n ns ih =>
  intro vs w
  rw [aD0] at w
  cases w with
  | cons a b =>
   cases a
   exact .cons _ _ (ih _ b)
theorem aqt {l:OpenLaw} {n:Nat} (hn:l.most=some n) {P:Params} {h:Heap} {args:List WData} {vals:List Value}
  (b:l.row.toRowW.claim.pre args=true) (j:WellAll P h vals args) :
  ∃ a vs ns,vals=[Value.ref a]/\args=[WData.list (ns.map WData.int)]/\h.get? a=some { cls:=.type "list",data:=.seq vs.toArray }/\IntsAre vs ns/\ns.length<=n:=by
 have i:WShape.hasAll [] args [.list .int]=true:=(pre_splitW b).1
 have m:l.pre.holds [] { args:=args }=true:=(pre_splitW b).2
 obtain ⟨d,r,rfl,p,o⟩:=hasAllW_cons i
 obtain rfl:=hasAllW_nil o
 obtain ⟨xs,rfl,u⟩:=hasW_list p
 obtain ⟨ns,rfl⟩:=items_int u
 have c:ns.length<=n:=by
  unfold OpenLaw.pre at m
  have g:(WTm.not (.lt (.lit (.int (n:Int))) (.len (.arg 0)))).holds [] { args:=[.list (ns.map .int)] }=true:=by
   have g:=(holds_andW m).1
   rw [hn] at g
   exact g
  have f:=condW_of g (w_not (w_lt w_lit (w_len_list (w_arg rfl))))
  rw [aA3] at f
  refine Nat.le_of_not_lt fun q=>?_
  have s:(n:Int) < ((ns.length:Nat):Int):=by omega
  first
   | (rw [aD5 s] at f;exact absurd f (by decide))
   | (simp at f;omega)
 cases j with
 | cons w1 w2 =>
  cases w2
  cases w1 with
  | list ho hall=>exact ⟨_,_,ns,rfl,rfl,ho,ahx ns _ hall,c⟩
theorem aqu (l:OpenLaw) (args:List WData):l.row.toRowW.claim.post args (.bool true) args=true :=
 postW_of (r:=l.row.toRowW) (X:=(true == true))
  (show WShape.has [] (.bool true) .bool=true by first | rfl | decide | simp [WShape.has,WShape.arms,WShape.armsAll])
  (show (WTm.eq .res (.lit (.bool true))).value [] { args:=args,res:=some (.bool true),after:=args }=some (.bool (true == true)) from w_eq_bool (w_res rfl) w_lit) rfl
theorem attach_call {l:OpenLaw} {n:Nat} {q:Program} {c:List Str} {C:(Str->Option Value)->Heap->Prop} {A:World->Heap->Prop} {d:DefRec}
  (hn:l.most=some n) (x:d.params.defaults=[])
  (call:∀ (w:World) (s₀ b:Shared) (mg mb:Str->Option Value) (j:Addr) (o:Obj) (pm s doc:Value) (a:Addr) (vs:List Value) (ns:List Int),
   Ground q c [] C w s₀ mg mb b.heap->A w b.heap ->
   b.heap.get? j=some o->o.data=.func (docDef d.name d.params d.body d.scope pm s doc)->b.heap.CodeRec s d.name->mg d.name=some (.ref j) ->
   b.heap.get? a=some { cls:=.type "list",data:=.seq vs.toArray }->IntsAre vs ns->ns.length<=n->b.gens = #[] ->
   codeAny (model l.prog w) callerA (.call (.ref j) ⟨[.ref a],[]⟩) (fun r p=>r=.ok (.ret (.bool true))/\OldK b.heap p.heap/\p.os=b.os/\AllBare p.gens) b) :
  WalkO q c C A l.row.toRowW d [] (fun f vs=>PySem.call f vs):=by
 intro w s₀ b mg mb G Y j o pm s doc M kV L hd u z v J args vals as m B H y I
 obtain rfl:M=.none:=Dflts.none z x
 obtain rfl:kV=.none:=Dflts.noKw z
 obtain ⟨a,vs,ns,rfl,rfl,i,g,h⟩:=aqt hn m y
 refine enter_call (codeAny_mono (call w s₀ b mg mb j o pm s doc a vs ns G Y L (fd_plain hd) u v i g h J) fun r p D=>?_)
 obtain ⟨rfl,F,K,E⟩:=D
 exact ⟨.inl ⟨.bool true,.bool true,[],rfl,fun _=>rfl,.bool true,aqu l _,fun _=>⟨List.Pairwise.nil,fun _ hm=>(nomatch hm)⟩⟩,F,K,E⟩
section
variable {prog:Program} {w:World} {A:Around} {E:Value->Shared->Prop} {s:Shared} {K:Frag}
end
end Att
namespace L2
open PySem PySem.Spec PyProof.Rows
theorem ajk:∀ {vs:List Value} {ns:List Int},IntsAre vs ns->Vals (ns.map V.int) vs
 | _,_,.nil => .nil
 | _,_,.cons n t h => .cons ⟨t,rfl⟩ (ajk h)
def Only (H:Hp):Prop:=∀ b,H b=none\/∃ o xs,H b=some (.frz o (.lst xs))
theorem aso {P:Program} {w:World} {K:Frag} {mg mb:Str->Option Value} {CX:CXT} {k:Nat} {L a:Addr} {fd:FuncData} {x:Str} {sp:Sp} {c:Shared} {vs:List Value} {ns:List Int}
  (T:K.In c.heap) (D:c.heap.Ns mainGlobals mg) (hb:c.heap.Ns builtinsNs mb) (M:∀ x:Str,x ≠ "__name__"->mb x=bootBuiltins x) (p:c.heap.NoLimit) (hg:c.gens = #[])
  (ha:c.heap.get? a=some { cls:=.type "list",data:=.seq vs.toArray }) (hi:IntsAre vs ns) (R:ns.length<=sizeLine) (hr:Room k callerA)
  (F:∀ base:Heap,K.In base->base.Ns mainGlobals mg->FnOk P w K mg base CX k L fd [x] sp) (l:∀ (s:Shared) (u:Value),BindsTo s fd ⟨[u],[]⟩ [(x,u)])
  (I:∀ H:Hp,Only H->SqL K H a (ns.map V.int)->sp [.ref a] H (fun v _=>v=.bl true) fun _ _ _=>False)
  (J:∀ H e g,CX [] H c (fun _ _ _=>False) e g->False) :
  codeAny (model P w) callerA (.call (.ref L) ⟨[.ref a],[]⟩) (fun r g=>r=.ok (.ret (.bool true))/\OldK c.heap g.heap/\g.os=c.os/\AllBare g.gens) c:=by
 have N:=ajk hi
 have y:=hi.length
 -- from an abstract heap in which nothing but the script may be tracked
 have j:∀ H:Hp,Only H->SqL K H a (ns.map V.int)->HOk P w H c.heap->(∀ b,H b ≠ none->b=a)->(H a ≠ none->K.lookup a=none) ->
   codeAny (model P w) callerA (.call (.ref L) ⟨[.ref a],[]⟩) (fun r g=>r=.ok (.ret (.bool true))/\OldK c.heap g.heap/\g.os=c.os/\AllBare g.gens) c:=by
  intro H Q hS hok O X
  have f:∀ {b:Addr} {o:Obj},c.heap.get? b=some o->H b=none->(hidT c.heap H).get? b=some o:=fun e n=>asg e n
  have E:∀ {b:Addr} {o:Obj} {es:Array DictEntry} {ep:Nat},c.heap.get? b=some o->o.data=.dict es ep->H b=none:=fun {b o es ep} e d=>by
   cases q:H b with
   | none=>rfl
   | some u =>
    have G:b=a:=O b (by rw [q];simp)
    subst G
    rw [ha] at e;cases e
    have d':Data.seq vs.toArray _=Data.dict es ep:=d
    cases d'
  have i:∀ {b:Addr} {m:Str->Option Value},c.heap.Ns b m->(hidT c.heap H).Ns b m:=fun {b m} ⟨o,es,ep,e,d,r⟩=>⟨o,es,ep,f e (E e d),d,r⟩
  have A:K.In (hidT c.heap H):=fun b o e=>f (T b o e) (by
   cases q:H b with
   | none=>rfl
   | some u =>
    have G:b=a:=O b (by rw [q];simp)
    subst G
    rw [X (by rw [q];simp)] at e;cases e)
  have U:Mod K mg (hidT c.heap H):=⟨A,i D,⟨mb,i hb,M⟩,let ⟨mc,h1,h2⟩:=p;⟨mc,i h1,h2⟩⟩
  have e0:Env0 P w K mg (hidT c.heap H) callerA [] c H:=⟨rfl,U,fun b o e=>auy e,Nat.le_of_eq (ap9 _ _),trivial,fun b hb=>absurd (show b∈([]:List Addr) from hb) (by simp),hok,.of_eq hg⟩
  refine codeAny_mono ((F _ A (i D)).run callerA [] c H ⟨[.ref a],[]⟩ [.ref a] [.ref a] _ _ hr e0 (l c (.ref a)) (.cons rfl .nil) (I H Q hS)) fun r g h=>?_
  cases r with
  | error e=>exact (J H e g h).elim
  | ok fl =>
   cases fl with
   | next=>exact False.elim h
   | brk=>exact False.elim h
   | cont=>exact False.elim h
   | ret u =>
    obtain ⟨v,H',os,bare,un,B,Z,q⟩:=h
    have q':v=.bl true:=q
    subst q'
    obtain rfl:u=Value.bool true:=Z
    refine ⟨rfl,OldK.of_keep fun b o e=>?_,os,bare⟩
    cases q:H b with
    | none=>exact un.keep b o e q (by intro z;exact absurd (show b∈([]:List Addr) from z) (by simp)) (by simp)
    | some u =>
     rcases Q b with z | ⟨W,xs,z⟩
     ·rw [q] at z;cases z
     ·have z2:=un.frzs b W _ z
      obtain ⟨S,_⟩:=hok b _ z
      obtain ⟨Y,_⟩:=B b _ z2
      rw [e] at S;cases S
      exact Y
 cases hk:K.lookup a with
 | some o =>
  -- the script is one of the module's own objects
  have e:=T a o hk
  rw [ha] at e
  cases e
  refine j (fun _=>none) (fun _ => .inl rfl) (.inr ⟨_,vs.toArray,_,hk,rfl,rfl,rfl,by rw [aB1,y];exact R,by simpa using N⟩) (fun b u z=>by have C:(none:Option HO)=some u:=z;cases C) (fun b z=>absurd rfl z) fun z=>absurd rfl z
 | none =>
  refine j (fun b=>if b=a then some (.frz { cls:=.type "list",data:=.seq vs.toArray } (.lst (ns.map V.int))) else none) (fun b=>?_) (.inl (.inr ⟨{ cls:=.type "list",data:=.seq vs.toArray },aF1 rfl⟩)) (fun b u z=>?_) (fun b z=>?_) fun _=>hk
  ·by_cases hb:b=a
   ·exact .inr ⟨_,_,aF1 hb⟩
   ·exact .inl (aF2 hb)
  ·by_cases hb:b=a
   ·have C:=(aF1 hb).symm.trans z
    cases C
    subst hb
    exact ⟨ha,by rw [aA3];exact R,vs,_,N,ha⟩
   ·have C:=(aF2 hb).symm.trans z
    cases C
  ·by_cases hb:b=a
   ·exact hb
   ·exact absurd (aF2 hb) z
abbrev KOf {K:Frag} {h:Heap} (_:K.In h):Frag:=K
theorem walk_of {l:PySem.W.OpenLaw} {n k:Nat} {q:Program} {i:List Str} {R:(Str->Option Value)->Heap->Prop} {E:World->Heap->Prop} {d:DefRec} {K:Params->Frag} {CX:World->CXT} {sp:World->Sp} {x:Str}
  (hn:l.most=some n) (C:n<=sizeLine) (A:d.params.defaults=[]) (J:Room k callerA)
  (O:∀ (w:World) (h:Heap),E w h->(K w.params).In h)
  (F:∀ (w:World) (mg:Str->Option Value) (r:Addr) (h:Heap),(K w.params).In h->h.Ns mainGlobals mg->mg d.name=some (.ref r) ->
   ∃ fd:FuncData,(∀ (s:Shared) (u:Value),BindsTo s fd ⟨[u],[]⟩ [(x,u)]) /\
    ∀ base:Heap,(K w.params).In base->base.Ns mainGlobals mg->FnOk l.prog w (K w.params) mg base (CX w) k r fd [x] (sp w))
  (B:∀ (w:World) (H:Hp) (a:Addr) (ns:List Int),ns.length<=n->Only H->SqL (K w.params) H a (ns.map V.int)->sp w [.ref a] H (fun v _=>v=.bl true) fun _ _ _=>False)
  (D:∀ (w:World) (H:Hp) (s:Shared) (e:Value) (z:Shared),CX w [] H s (fun _ _ _=>False) e z->False) :
  PySem.W.WalkO q i R E l.row.toRowW d [] (fun f vs=>PySem.call f vs):=by
 refine Att.attach_call hn A fun w s₀ p mg mb r o pm U doc a vs ns G Y S hd L y m j c P=>?_
 have I:=O w _ Y
 obtain ⟨fd,hb,M⟩:=F w mg r _ I G.T.g y
 exact aso I G.T.g G.T.b G.T.builtins G.T.nolimit P m j (aC9 c C) J M hb (fun H Q N=>B w H a ns c Q N) fun H e z=>D w H p e z
end L2
/- THE LAST THEOREM (shape; LID, My.* are yours):
  My.Adr: a structure of the addresses that your layer names (classes,functions);My.Txt K t: a structure (Prop) of the equations over K;
  My.txt_mk:{K} {implicit addresses ..} (e1:nsIn K mainGlobals "law" = some (some (.ref f))) (e2:K.lookup f=some ⟨oc,od,.func (fnOf "law" "law" params body scope dV kV doc pm an cdv ct),sl⟩) (e3:codeIn K cdv "law" = true) .. : ∃ t,My.Txt K t
set_option maxRecDepth 100000 in
set_option maxHeartbeats 0 in
theorem PySem.Challenge.cw_LID_holds : PySem.Challenge.rw_LID.Holds := by
 w_on;o_law;k_head;(case hw=>w_witness2)
 k_fill
 refine L2.walk_of (l:=PySem.Challenge.rw_LID) (n:=63) (k:=40) (x:="script") (CX:=fun w => ..) (sp:=fun _=>My.sp_law) rfl (by decide) rfl ⟨rfl,by decide,by decide⟩ (fun w h Y=>PySem.W.kIn_of Y) ?F ?S ?C
 case F =>
  intro w mg fa h KX G hmg
  have T:∃ t,My.Txt (L2.KOf KX) t:=by
   dsimp only [L2.KOf]                          -- K must stand as «<heap const> w.params» for k_is
   refine' My.txt_mk ?e1 ?e2 ?e3 ..
   (case e1=>PySem.W.k_is)                    -- in the order: a name -> its address -> its object -> its parts
   (case e2=>PySem.W.k_is)
   ..
  obtain ⟨t,T⟩:=T
  have e0:=hmg.symm.trans (mg_of KX G T.law)
  cases e0                                       -- fa is the law's own address
  exact ⟨_,fun s u => .of_eq rfl,fun base kb nb=>My.law_fn T kb nb⟩     -- if «.of_eq rfl» comes too early: refine' ⟨_,?b,fun base kb nb=>My.law_fn T kb nb⟩;exact fun s u => .of_eq rfl
 case S=>exact fun w H a ns hl hO hS => ..
 case C=>exact ..
(the tactic k_is has no namespace: write k_is) -/
namespace L2
open PySem PySem.Spec PyProof.Rows
def ab7 (s:Stmt):Arguments:=match s with
 | .FunctionDef _ a _ _ _ _ _ _ _ _=>a
 | _=>{ posonlyargs:=[],args:=[],vararg:=none,kwonlyargs:=[],kw_defaults:=[],kwarg:=none,defaults:=[] }
def aby (s:Stmt):List Stmt:=match s with
 | .FunctionDef _ _ b _ _ _ _ _ _ _=>b
 | _=>[]
def aal (s:Stmt):Scope:=match s with
 | .FunctionDef _ _ _ _ _ _ sc _ _ _=>sc
 | _=>{ kind:=.function,names:=[],isGenerator:=false,isCoroutine:=false }
abbrev CX0:CXT:=fun _ _ _ _ _ _=>False
abbrev E0:XK:=fun _ _ _=>False
theorem azj {X:Cx}:ak7 CX0 X E0:=fun _ _ _ _ _ _ _ h=>h.elim
structure Fun (K:Frag) (x qual:Str) (st:Stmt) (f:Addr) (fd:FuncData):Prop where
 ex:∃ (oc:Value) (od:Option Addr) (kV doc pm:Value) (an:Option Addr) (cdv ct:Value) (osl:Array (Option Value)),
  fd=fnOf x qual (ab7 st) (aby st) (aal st) .none kV doc pm an cdv ct/\K.lookup f=some ⟨oc,od,.func fd,osl⟩/\codeIn K cdv qual=true
 kp:keepIn K (.ref f)=true
section
variable {P:Program} {w:World} {K:Frag} {mg:Str->Option Value} {base:Heap}
theorem Fun.ok {x qual:Str} {st:Stmt} {f:Addr} {fd:FuncData} {N ps:List Str} {k:Nat} {sp:Sp} (F:Fun K x qual st f fd) (S:FnScope N ps (aal st)) (len:∀ vs H Q E,sp vs H Q E->vs.length=ps.length)
  (a:∀ (cdv:Value) (A:Around) (outer:List Env) (s:Shared) (H:Hp) (vs:List V) (Q:VK) (E:XK),Room k (A.deeper (envOfC qual (aal st) s.heap.objs.size f cdv))->sp vs H Q E ->
   ∃ t,PSs (cxOf CX0 P w K mg base N qual (aal st) f cdv A outer s H E).nox (aby st) t/\t { nx:=fun _ H'=>Q .non H',rt:=Q } (start N vs) H):FnOk P w K mg base CX0 (k+1) f fd ps sp:=by
 obtain ⟨oc,od,kV,doc,pm,an,cdv,ct,osl,rfl,g,b⟩:=F.ex
 refine azi g b S len fun A outer s H vs Q E d c=>?_
 obtain ⟨t,h,q⟩:=a cdv A outer s H vs Q E d c
 exact ⟨t,h.nox,q⟩
theorem Fun.binds {x qual:Str} {st:Stmt} {f:Addr} {fd:FuncData} {ps:List Str} (F:Fun K x qual st f fd)
  (h:∀ (kV doc pm:Value) (an:Option Addr) (cdv ct:Value) (us:List Value),us.length=ps.length->bindArgs (fnOf x qual (ab7 st) (aby st) (aal st) .none kV doc pm an cdv ct) ⟨us,[]⟩=pure (ps.zip us)):Binds K fd ps []:=by
 obtain ⟨oc,od,kV,doc,pm,an,cdv,ct,osl,rfl,b,a⟩:=F.ex
 exact .all (h kV doc pm an cdv ct)
theorem axs {x qual:Str} {st:Stmt} {f:Addr} {oc:Value} {od an:Option Addr} {osl:Array (Option Value)} {kV doc pm cdv ct:Value} (l:K.lookup f=some ⟨oc,od,.func (fnOf x qual (ab7 st) (aby st) (aal st) .none kV doc pm an cdv ct),osl⟩)
  (c:codeIn K cdv qual=true) (k:keepIn K (.ref f)=true):Fun K x qual st f (fnOf x qual (ab7 st) (aby st) (aal st) .none kV doc pm an cdv ct):=⟨⟨oc,od,kV,doc,pm,an,cdv,ct,osl,rfl,l,c⟩,k⟩
end
theorem acq {A:Around} {k:Nat} (a:Room k A):A.units+1 < cLine:=aE0 (Nat.add_le_add_left (by decide:1<=64) _) a.units
theorem ael {n:Nat} (h:n<=1000):n < sizeLine:=aE0 h (by decide)
section
variable {X:Cx}
theorem pv (i:Nat) {x:Str} {pos:Pos} (c:X.N[i]?=some x:=by rfl) (b:Vis X.env.scope x:=by first | exact Or.inl rfl | exact Or.inr (Or.inl rfl) | exact Or.inr (Or.inr rfl)) (hd:(x == ("__debug__" : Str))=false:=by decide)
  (a:(x == ("__classdict__" : Str))=false:=by decide):PE X (.Name x pos) (tVar i):=axh c b hd a
end
theorem iteF {A B:Prop} (h:B):if false=true then A else B:=by
 rw [aF2 aA9]
 exact h
theorem iteT {A B:Prop} (h:A):if true=true then A else B:=by
 rw [aF1 rfl]
 exact h
def Same (H H':Hp):Prop:=∀ b o,H b=some o->H' b=some o
theorem Same.refl (H:Hp):Same H H:=fun _ _ h=>h
theorem Same.trans {H d H2:Hp} (a:Same H d) (b:Same d H2):Same H H2:=fun c o h=>b c o (a c o h)
theorem Same.free {H H':Hp} (e:Same H H') {l:Addr} (h:H' l=Option.none):H l=Option.none:=by
 cases q:H l with
 | none=>rfl
 | some o =>
  rw [e l o q] at h
  cases h
theorem Same.seq {K:Frag} {H H':Hp} {a:Addr} {xs:List V} (e:Same H H') (h:SqL K H a xs):SqL K H' a xs:=by
 rcases h with (h | ⟨o,h⟩) | h
 ·exact .inl (.inl (e _ _ h))
 ·exact .inl (.inr ⟨o,e _ _ h⟩)
 ·exact .inr h
section
variable {X:Cx}
end
section
variable {κ:Type} [DecidableEq κ]
end
def clos (env:Env):List (Str × NameKind)->List (Str × Addr)->List (Str × Addr)
 | [],cs=>cs
 | (n,k) :: r,cs=>if k == NameKind.free then (match env.cells.lookup n with | some a=>clos env r ((n,a) :: cs) | none=>clos env r cs) else clos env r cs
theorem ahy {env:Env} {sc:Scope} (h:∀ n,(n,NameKind.free)∈sc.names->∃ a,env.cells.lookup n=some a):closureFor sc env=pure (clos env sc.names []):=by
 have all:∀ (l:List (Str × NameKind)) (cs:List (Str × Addr)),(∀ n,(n,NameKind.free)∈l->∃ a,env.cells.lookup n=some a) ->
   (forIn l cs fun (x:Str × NameKind) (cs:List (Str × Addr))=>match x with | (name,kind)=>if kind == NameKind.free then (do let a ← cellOf env name;pure (ForInStep.yield ((name,a) :: cs))) else pure (ForInStep.yield cs))=(pure (clos env l cs):Sem _):=by
  intro l
  induction l with
  | nil=>intro cs _;rfl
  | cons p r ih =>
   intro cs c
   obtain ⟨n,k⟩:=p
   rw [List.forIn_cons]
   unfold clos
   dsimp only
   cases hk:(k == NameKind.free) with
   | false =>
    simp only [Bool.false_eq_true,if_false,pure_bind]
    exact ih cs fun m hm=>c m (aB4 _ hm)
   | true =>
    have f:k=NameKind.free:=by simpa using hk
    subst f
    obtain ⟨a,ha⟩:=c n aB7
    have d:cellOf env n=pure a:=by unfold cellOf;rw [ha]
    simp only [if_true,d,pure_bind,ha]
    exact ih _ fun m hm=>c m (aB4 _ hm)
 have e:=all sc.names [] h
 unfold closureFor
 refine Eq.trans (b:=(pure (clos env sc.names []):Sem _) >>= fun cs=>pure cs) ?_ (pure_bind _ _)
 exact congrArg (fun z:Sem (List (Str × Addr))=>z >>= fun cs=>pure cs) e
theorem aem {env:Env} {x:Str} {c:Addr}:∀ {l:List (Str × NameKind)} {cs:List (Str × Addr)},(clos env l cs).lookup x=some c->env.cells.lookup x=some c\/cs.lookup x=some c
 | [],cs,h => .inr h
 | (n,k) :: r,cs,h=>by
  unfold clos at h
  by_cases hk:(k == NameKind.free)=true
  ·rw [aF1 hk] at h
   cases ha:env.cells.lookup n with
   | none=>rw [ha] at h;exact aem h
   | some a =>
    rw [ha] at h
    rcases aem h with e | e
    ·exact .inl e
    ·rw [aG5] at e
     cases hx:(x == n) with
     | true =>
      rw [hx] at e
      have:x=n:=by simpa using hx
      subst this
      cases e
      exact .inl ha
     | false=>rw [hx] at e;exact .inr e
  ·rw [aF2 hk] at h
   exact aem h
theorem aen {env:Env} {x:Str}:∀ {l:List (Str × NameKind)} {cs:List (Str × Addr)},(∃ c,cs.lookup x=some c)->∃ c,(clos env l cs).lookup x=some c
 | [],cs,h=>h
 | (n,k) :: r,cs,h=>by
  unfold clos
  by_cases hk:(k == NameKind.free)=true
  ·rw [aF1 hk]
   cases ha:env.cells.lookup n with
   | none=>exact aen h
   | some a =>
    refine aen ?_
    rw [aG5]
    cases hx:(x == n) with
    | true=>exact ⟨_,rfl⟩
    | false=>exact h
  ·rw [aF2 hk]
   exact aen h
theorem aeb {env:Env} {x:Str} (h:∃ a,env.cells.lookup x=some a):∀ {l:List (Str × NameKind)} {cs:List (Str × Addr)},(x,NameKind.free)∈l->∃ c,(clos env l cs).lookup x=some c
 | [],_,hm=>absurd hm (by simp)
 | (n,k) :: r,cs,hm=>by
  rcases aA8.mp hm with e | hm
  ·cases e
   obtain ⟨a,ha⟩:=h
   unfold clos
   rw [aF1 (by rfl),ha]
   refine aen ⟨a,?_⟩
   rw [aG5]
   simp
  ·unfold clos
   by_cases hk:(k == NameKind.free)=true
   ·rw [aF1 hk]
    cases ha:env.cells.lookup n with
    | none=>exact aeb h hm
    | some a=>exact aeb h hm
   ·rw [aF2 hk]
    exact aeb h hm
theorem afy {env:Env} {x:Str}:∀ {names:List (Str × NameKind)},(∀ y∈names,y.2 ≠ .cell) ->
  ((names.map fun (n,k)=>if (k == NameKind.free && env.scope.kind == .function && env.kindOf n == some .cell) then (n,NameKind.cell) else (n,k)).lookup x=some .cell ∨
   (names.map fun (n,k)=>if (k == NameKind.free && env.scope.kind == .function && env.kindOf n == some .cell) then (n,NameKind.cell) else (n,k)).lookup x=some .free)->names.lookup x=some .free
 | [],_,h=>by rcases h with h | h <;> simp at h
 | (n,k) :: r,hc,h=>by
  have a:=@afy env x r fun y b=>hc y (aB4 _ b)
  rw [aG5]
  simp only [aD0] at h
  by_cases hq:(k == NameKind.free && env.scope.kind == .function && env.kindOf n == some .cell)=true
  ·rw [aF1 hq] at h
   have c:k=NameKind.free:=by
    have:=hq;simp only [aG7] at this;simpa using this.1.1
   subst c
   cases hx:(x == n) with
   | true=>rfl
   | false=>simp only [aG5,hx] at h;exact a h
  ·rw [aF2 hq] at h
   cases hx:(x == n) with
   | true =>
    simp only [aG5,hx] at h
    rcases h with h | h
    ·cases h;exact absurd rfl (hc (n,NameKind.cell) aB7)
    ·exact h
   | false=>simp only [aG5,hx] at h;exact a h
theorem aeo {env:Env} {x:Str}:∀ {names:List (Str × NameKind)},names.lookup x=some .free ->
  ((names.map fun (n,k)=>if (k == NameKind.free && env.scope.kind == .function && env.kindOf n == some .cell) then (n,NameKind.cell) else (n,k)).lookup x=some .cell ∨
   (names.map fun (n,k)=>if (k == NameKind.free && env.scope.kind == .function && env.kindOf n == some .cell) then (n,NameKind.cell) else (n,k)).lookup x=some .free)
 | [],h=>by simp at h
 | (n,k) :: r,h=>by
  have a:=@aeo env x r
  rw [aG5] at h
  simp only [aD0]
  by_cases hq:(k == NameKind.free && env.scope.kind == .function && env.kindOf n == some .cell)=true
  ·rw [aF1 hq]
   cases hx:(x == n) with
   | true=>left;simp [aG5,hx]
   | false=>rw [hx] at h;simp only [aG5,hx];exact a h
  ·rw [aF2 hq]
   cases hx:(x == n) with
   | true=>rw [hx] at h;right;simp only [aG5,hx];exact h
   | false=>rw [hx] at h;simp only [aG5,hx];exact a h
def Cx.comp (X:Cx) (N:List Str) (sc:Scope) (C:Addr) (s0:Shared) (H0:Hp) (ex:List Addr):Cx where
 prog:=X.prog
 w:=X.w
 K:=X.K
 mg:=X.mg
 base:=X.base
 A:=X.A
 N:=N
 s₀:=s0
 H₀:=H0
 env:=compEnvC sc (clos X.env sc.names []) C X.env
 outer:=X.stack
 stack:=X.stack
 ex:=ex
 fn:=fun _=>false
 calm:=X.calm
 pn:=[]
 xe:=fun _ _=>False
def pick (src:List (Option Nat)) (σ:St):St:=src.map fun o=>match o with | some j=>(σ[j]?).getD none | none=>none
structure LcOk (X:Cx) (N:List Str) (sc:Scope) (src:List (Option Nat)):Prop where
 kind:sc.kind=.function
 nocell:∀ y∈sc.names,y.2 ≠ .cell
 own:∀ y∈sc.names,y.2=.local->sc.names.lookup y.1=some .local
 outs:∀ y∈sc.names,y.2=.free->X.env.kindOf y.1=some .cell\/X.env.kindOf y.1=some .free
 len:src.length=N.length
 from':∀ (i j:Nat),src[i]?=some (some j)->∃ x,N[i]?=some x/\X.N[j]?=some x/\sc.names.lookup x=some .free
theorem LcOk.clo {X:Cx} {N:List Str} {sc:Scope} {src:List (Option Nat)} (L:LcOk X N sc src) (ok:X.Ok):closureFor sc X.env=pure (clos X.env sc.names []) :=
 ahy fun n hn=>ok.has n (L.outs (n,.free) hn rfl)
theorem alh {X:Cx} {pins:List (Addr × Obj)} {σ:St} {H:Hp} {s:Shared} {N:List Str} {sc:Scope} {src:List (Option Nat)} {fp:List Addr} {n:Heap} {t':Nat}
  (L:LcOk X N sc src) (I:Inv X pins σ H s) (hf:∀ b∈fp,FpOk X pins H b) (g:∀ b∈fp,b < s.heap.objs.size)
  (hn:n.Ns s.heap.objs.size fun _=>none) (f:∀ b o,s.heap.get? b=some o->n.get? b=some o) :
  Inv (X.comp N sc s.heap.objs.size s H fp) [] (pick src σ) H { s with heap:=n,toks:=t' }:=by
 have look:∀ {x c},(clos X.env sc.names []).lookup x=some c->X.env.cells.lookup x=some c:=fun {x c} e=>by
  rcases aem e with z | z
  ·exact z
  ·simp at z
 refine ⟨⟨I.ok.mod,L.kind,I.ok.glob,I.ok.blt,aA6 _,fun x y c B a=>?_,fun x K=>?_,fun x c z _=>?_,I.ok.hd,I.ok.frames,.inl rfl,fun b hb=>⟨?_,fun x c e=>?_⟩,I.bs,aC9 I.ok.bsz I.sz,fun b o e hb=>?_,fun b hb z=>?_,I.stack,I.stkFree⟩,
  rfl,I.bare,Un.kept f,⟨_,hn,fun i x v B a P=>?_⟩,fun x c e=>?_,I.hok.fresh (aA6 _),fun x c e=>I.freeC x c (look e),fun p M=>?_,I.hok.kept f,?_⟩
 ·exact I.ok.inj x y c (look B) (look a)
 ·have q:=afy (env:=X.env) (x:=x) L.nocell K
  exact aeb (I.ok.has x (L.outs (x,.free) (PySem.mem_of_lookup q) rfl)) (PySem.mem_of_lookup q)
 ·exact Bool.noConfusion z
 ·exact aB5 (g b hb)
 ·exact (hf b hb).2.2.2.2.1 x c (look e)
 ·rcases (hf b hb).2.2.2.1 with z | z
  ·exact I.ok.noex b o e z
  ·exact absurd (aC4 (aI8 e) (aC9 I.ok.bsz z)) (aG0 _)
 ·rcases aA8.mp (I.stkSub b z) with q | q
  ·exact (hf b hb).2.1 q
  ·exact (hf b hb).2.2.1 q
 ·unfold pick at a
  rw [aA5] at a
  cases q:src[i]? with
  | none=>rw [q] at a;cases a
  | some o =>
   rw [q] at a
   cases o with
   | none=>cases a
   | some j =>
    obtain ⟨y,C,G,h⟩:=L.from' i j q
    have w:N[i]?=some x:=B
    rw [w] at C
    cases C
    have O : σ[j]?=some (some v):=by
     cases q2 : σ[j]? with
     | none=>simp [q2] at a
     | some z=>simp [q2] at a;rw [a]
    have g:=L.outs (x,.free) (PySem.mem_of_lookup h) rfl
    have A:Vis X.env.scope x:=by
     rcases g with z | z
     ·exact .inr (.inl z)
     ·exact .inr (.inr z)
    obtain ⟨m,_,J⟩:=I.loc
    obtain ⟨u,r,l⟩:=J j x v G O A
    refine ⟨u,r,.inr ⟨?_,?_⟩⟩
    ·exact aeo (env:=X.env) h
    ·rcases l with ⟨z,_⟩ | ⟨_,c,E,oc,d,hd⟩
     ·rcases g with F | F <;> (rw [F] at z;cases z)
     ·obtain ⟨Q,D⟩:=aeb (env:=X.env) ⟨c,E⟩ (PySem.mem_of_lookup h) (cs:=[])
      have:=look D
      rw [E] at this;cases this
      exact ⟨c,D,oc,f c oc d,hd⟩
 ·obtain ⟨v,oc,d,hd⟩:=I.cell x c (look e)
  exact ⟨v,oc,f c oc d,hd⟩
 ·exact absurd (show p∈([]:List (Addr × Obj)) from M) (by simp)
 ·show (pick src σ).length=N.length
  unfold pick
  rw [aA3]
  exact L.len
def PIf (X:Cx) (ifs:List Expr) (t:TT):Prop :=
 ∀ (pins:List (Addr × Obj)) (s:Shared) (σ:St) (H:Hp) (Q:Bool->Hp->Prop),Inv X pins σ H s->t σ H Q ->
  wpAny (model X.prog X.w) X.A (forIn ifs true fun c r=>if r=true then do let ok ← isTrue c X.env (eval c X.env);pure (ForInStep.yield ok) else pure (ForInStep.yield r)) (TP X pins σ Q) X.xe s
def tYes:TT:=fun _ H Q=>Q true H
theorem abd {X:Cx}:PIf X [] tYes:=fun _ _ _ H _ I h=>wpAny_tests_nil ⟨H,I,h⟩
theorem aim {X:Cx} {c:Expr} {t:TT} (h:PT X c t):PIf X [c] t:=fun pins s σ H Q I q=>wpAny_tests_one (h pins s σ H Q I q)
abbrev LW:=Nat->Nat->List V->St->Hp->Prop
def afz (J:It) (g:TG) (tif:TT) (te:TE) (acc:Addr) (Qd:List V->Hp->Prop) (W:LW):Prop:=∀ (i m:Nat) (ys:List V) (σ:St) (H:Hp),W i m ys σ H->H acc=some (.lst ys)/\((J.stop i H/\Qd ys H)\/(J.go i H /\
 ∃ Nx:List V->St->Hp->Prop,(∀ ys' σ' H',Nx ys' σ' H'->∃ m',m' < m/\W (i+1) m' ys' σ' H')/\∀ x H2,J.yld i H x H2 ->
 g x σ H2 fun σ3 H3=>tif σ3 H3 fun b H4=>if b=true then te σ3 H4 fun y H5=>H5 acc=some (.lst ys)/\ys.length < sizeLine/\Nx (ys ++ [y]) σ3 (upd H5 acc (.lst (ys ++ [y]))) else Nx ys σ3 H4))
theorem aqv {X:Cx} {tg iter D:Expr} {B:List Expr} {sc:Scope} {pos:Pos} {J:It} {fp:List Addr} {it:Addr} {tn:Nat->Heap->Prop} {g:TG} {G:TT} {te:TE} {a:Addr} {Qd:List V->Hp->Prop} {W:LW} {R:Result->Shared->Prop}
  (T:Turn X.prog X.w X.K tg J fp it tn) (hc:X.calm=true) (p:∀ e s,¬ X.xe e s) (hg:PG X tg g) (Z:PIf X B G) (he:PE X D te)
  (M:afz J g G te a Qd W) (hR:∀ ys σ H s,Inv X [] σ H s->Qd ys H->R (.ok .next) s)
  {i m:Nat} {ys:List V} {σ:St} {H:Hp} {s:Shared} (I:Inv X [] σ H s) (st:tn i s.heap) (hf:∀ b∈fp,FpOk X [] H b) (w:W i m ys σ H) :
  codeAny (model X.prog X.w) X.A (.compLoop (.ListComp D [⟨tg,iter,B,0⟩] sc pos) 0 (.ref it) (.ref a) X.env) R s:=by
 have c:∀ {H':Hp},(∀ b∈fp,H' b=none)->∀ b∈fp,FpOk X [] H' b:=fun hn b hb=>⟨hn b hb,(hf b hb).2⟩
 refine codeAny_loop rfl (fun n j=>∃ i ys f H',Inv X [] f H' j/\tn i j.heap/\(∀ b∈fp,H' b=none)/\W i n ys f H') ?_ m ⟨i,ys,σ,H,I,st,fun b hb=>(hf b hb).1,w⟩
 rintro n s1 ⟨i,ys,h,Q,I1,O,F,w1⟩
 show wpAny _ X.A ((compTurn (.ListComp D [⟨tg,iter,B,0⟩] sc pos) 0 (.ref it) (.ref a) X.env).onRaise (fun x=>do noteFrame x X.env;theTreesLotGoes x)) _ _ s1
 refine wpAny_noted ?_
 rw [compTurn_list]
 refine aI5 (wpAny_standAt (aI5 ?_))
 obtain ⟨a1,⟨stop,qd⟩ | ⟨go,Nx,L,step⟩⟩:=M i n ys h Q w1
 ·refine thn (T.done X rfl rfl rfl hc i [] s1 h Q _ I1 (c F) O stop) fun r s2 ⟨hr,I2⟩=>?_
  subst hr
  exact aI6 (hR ys h Q s2 I2 qd)
 ·refine thn (T.item X rfl rfl rfl hc i [] s1 h Q _ I1 (c F) O go) fun r s2 ⟨u,hr,h2⟩=>?_
  subst hr
  refine aI5 (thn h2 fun _ s3 ⟨x,H3,I3,r3,y3,v,Y⟩=>?_)
  have a0:=I3.pinned (c Y) (T.obj _ _ v)
  refine aI5 (aJ2 (hg _ s3 h H3 x u _ a0 r3 (step x H3 y3)) (fun _ s4 ⟨C,H4,I4,q4⟩=>?_) fun e j z=>(p e j z).elim)
  have q:∀ {l:St} {N:Hp} {P:Shared} {zs:List V},Inv X ([] ++ ad7 fp s3.heap) l N P->(∃ U,U < n/\W (i+1) U zs l N)->∃ m,m < n/\∃ i ys f H',Inv X [] f H' P/\tn i P.heap/\(∀ b∈fp,H' b=none)/\W i m ys f H':=fun {l N P zs} E w7=>by
   obtain ⟨U,hm,w7⟩:=w7
   refine ⟨U,hm,i+1,zs,l,N,E.unpinned,T.keep _ _ _ v fun b hb o e=>(E.pin (b,o) (aB2 _ (aB2 _ (ab0 hb e)))).1,fun b hb=>?_,w7⟩
   obtain ⟨o,e,d⟩:=T.obj _ _ v b hb
   exact (E.pin (b,o) (aB2 _ (aB2 _ (ab0 hb e)))).2.1
  refine aI5 (aJ2 (Z _ s4 C H4 _ I4 q4) (fun b s5 ⟨H5,I5,S⟩=>?_) fun e j z=>(p e j z).elim)
  cases b with
  | false =>
   rw [aF2 aA9] at S
   exact aI6 ⟨rfl,q I5 (L _ _ _ S)⟩
  | true =>
   rw [aF1 rfl] at S
   refine aI5 (aI5 (aJ2 (he _ s5 C H5 _ I5 S) (fun yv s6 ⟨y,H6,I6,r6,a6,l6,w6⟩=>?_) fun e j z=>(p e j z).elim))
   have ap:=abh (X:=X) _ s6 C H6 (.ref a) [y] (.ref a) [yv] (fun _ H'=>H'=upd H6 a (.lst (ys ++ [y]))) I6 rfl (.cons r6 .nil) ⟨a,ys,y,rfl,rfl,a6,l6,rfl⟩
   refine aI5 (aJ2 ap (fun _ P ⟨v7,N,E,_,e7⟩=>?_) fun e j z=>(p e j z).elim)
   subst e7
   exact aI6 (aI6 ⟨rfl,q E (L _ _ _ w6)⟩)
def tLC (src:List (Option Nat)) (wi:TI) (g:TG) (tif:TT) (te:TE):TE:=fun σ H Q=>wi σ H fun J H1=>∀ acc,H1 acc=none->∃ W:LW,(∃ m,W 0 m [] (pick src σ) (upd H1 acc (.lst [])))/\afz J g tif te acc (fun _ H'=>Q (.ref acc) H') W
section
variable {X:Cx} {N:List Str} {tg iter elt:Expr} {ifs:List Expr} {sc:Scope} {src:List (Option Nat)} {wi:TI} {g:TG} {tif:TT} {te:TE} {pos:Pos}
theorem au8 (hc:X.calm=true) (L:LcOk X N sc src) (Z:∀ C E u ex,PG (X.comp N sc C E u ex) tg g) (O:∀ C E u ex,PIf (X.comp N sc C E u ex) ifs tif) (he:∀ C E u ex,PE (X.comp N sc C E u ex) elt te)
  {pins:List (Addr × Obj)} {d:Shared} {σ:St} {H3:Hp} {Q:VK} (j:Inv X pins σ H3 d) {it a:Addr} {fp:List Addr} {J:It} {tn:Nat->Heap->Prop} (T:Turn X.prog X.w X.K tg J fp it tn) (F:tn 0 d.heap) (i:∀ b∈fp,FpOk X pins H3 b)
  {W:LW} {m0:Nat} (w0:W 0 m0 [] (pick src σ) H3) (n:afz J g tif te a (fun _ H'=>Q (.ref a) H') W) (use:Option (Value->Sem Unit)) (P:Value->Shared->Prop)
  (Y:∀ C H' f m,Inv X pins σ H' f->Q (.ref a) H'->f.heap.Ns C m->H' C=none->C ≠ X.env.locals->(C∈X.ex\/X.s₀.heap.objs.size<=C)->(∀ x c,X.env.cells.lookup x=some c->c ≠ C)->(∀ p∈X.pn ++ pins,p.1 ≠ C) ->
   compPost (model X.prog X.w) X.A X.xe use P (.ref a) C (.ok .next) f) :
  wpAny (model X.prog X.w) X.A (newFunctionEnv sc X.env.globals (clos X.env sc.names []) [] X.env.qual none .none (some X.env)) (fun h B =>
    codeAny (model X.prog X.w) X.A (.compStart (.ListComp elt [⟨tg,iter,ifs,0⟩] sc pos) 0 (.ref it) (.ref a) { h with scope:=relabel sc X.env }) (compPost (model X.prog X.w) X.A X.xe use P (.ref a) h.locals) B) X.xe d:=by
 refine wpAny_newFunctionEnv L.nocell (by intro y U;simp at U) (fun S s r=>?_) L.kind
 have M:∀ b∈fp,b < d.heap.objs.size:=fun b hb=>by
  obtain ⟨o,R,_⟩:=T.obj _ _ F b hb
  exact aI8 R
 have G:∀ b o,d.heap.get? b=some o->S.get? b=some o:=fun b o e=>r.extBut b o (aB5 (aI8 e)) (aI7 _ e)
 have H:=alh (t':=d.toks+([]:List (Str × Value)).length) L j i M (by simpa using s) G
 have D:tn 0 S:=T.keep _ _ _ F fun b _ o e=>G b o e
 have f4:∀ b∈fp,FpOk (X.comp N sc d.heap.objs.size d H3 fp) [] H3 b:=fun b hb =>
  ⟨(i b hb).1,(H.ok.exf b hb).1,H.ok.exfs b hb,.inl hb,(H.ok.exf b hb).2,fun p I=>absurd (show p∈([]:List (Addr × Obj)) from I) (by simp)⟩
 have fin:∀ (ys:List V) q H' f,Inv (X.comp N sc d.heap.objs.size d H3 fp) [] q H' f->Q (.ref a) H'->compPost (model X.prog X.w) X.A X.xe use P (.ref a) d.heap.objs.size (.ok .next) f:=fun ys q H' f l q'=>by
  have Jo:Inv X pins σ H' f:=j.call' (ch:=fp) l.os l.base l.hok l.bare fun b hb=>⟨(i b hb).2.2.2.1,(i b hb).2.1,(i b hb).2.2.2.2.1,(i b hb).2.2.2.2.2⟩
  obtain ⟨m,hn,_⟩:=l.loc
  refine Y _ H' f m Jo q' hn l.free (Nat.ne_of_gt j.lt) (.inr j.sz) (fun x c e z=>?_) fun p I z=>?_
  ·obtain ⟨v,o,R,_⟩:=j.cell x c e
   exact absurd (aI8 R) (by rw [z];exact aG0 _)
  ·exact absurd (aI8 (j.pin p I).1) (by rw [z];exact aG0 _)
 have loop:codeAny (model X.prog X.w) X.A (.compLoop (.ListComp elt [⟨tg,iter,ifs,0⟩] sc pos) 0 (.ref it) (.ref a) (X.comp N sc d.heap.objs.size d H3 fp).env)
   (compPost (model X.prog X.w) X.A X.xe use P (.ref a) d.heap.objs.size) { d with heap:=S,toks:=d.toks+([]:List (Str × Value)).length } :=
  aqv (X:=X.comp N sc d.heap.objs.size d H3 fp) T hc (fun _ _ z=>z) (Z _ _ _ _) (O _ _ _ _) (he _ _ _ _) n fin H D f4 w0
 exact codeAny_compStart_list loop (T.self _ 0 _ _ _ D loop)
theorem ali (O:X.calm=true) (L:LcOk X N sc src) (hi:PI X tg iter wi) (R:∀ C a i ex,PG (X.comp N sc C a i ex) tg g) (r:∀ C a i ex,PIf (X.comp N sc C a i ex) ifs tif) (S:∀ C a i ex,PE (X.comp N sc C a i ex) elt te)
  {pins:List (Addr × Obj)} {s:Shared} {σ:St} {H:Hp} {Q:VK} (I:Inv X pins σ H s) (h:tLC src wi g tif te σ H Q) (use:Option (Value->Sem Unit)) (P:Value->Shared->Prop)
  (G:∀ l C H' n m,Inv X pins σ H' n->Q (.ref l) H'->n.heap.Ns C m->H' C=none->C ≠ X.env.locals->(C∈X.ex\/X.s₀.heap.objs.size<=C)->(∀ x c,X.env.cells.lookup x=some c->c ≠ C)->(∀ p∈X.pn ++ pins,p.1 ≠ C) ->
   compPost (model X.prog X.w) X.A X.xe use P (.ref l) C (.ok .next) n)
  (M:∀ x,foldedSetIterable iter X.env x=pure x) :
  wpAny (model X.prog X.w) X.A (comprehension (.ListComp elt [⟨tg,iter,ifs,0⟩] sc pos) sc X.env (firstIterPos [⟨tg,iter,ifs,0⟩] pos) (newList []) false (eval iter X.env) use) P X.xe s:=by
 refine wpAny_comprehension_free rfl M (L.clo I.ok) L.kind L.own (thn (hi pins s σ H _ I h) fun v s1 E=>thn E fun F s2 D=>?_)
 obtain ⟨it,fp,tn,J,H2,e,y,T,f,z,K⟩:=D
 subst e
 have j:H2 s2.heap.objs.size=none:=y.hok.fresh (aA6 _)
 obtain ⟨W,⟨Y,B⟩,d⟩:=K s2.heap.objs.size j
 have q:∀ b∈fp,b < s2.heap.objs.size:=fun b hb=>by
  obtain ⟨o,U,_⟩:=T.obj _ _ f b hb
  exact aI8 U
 refine aJ3 ?_
 refine au8 O L R r S (H3:=upd H2 s2.heap.objs.size (.lst [])) ?_ T ?_ ?_ B d use P (G _)
 ·exact y.laid (t':=s2.toks) (fun b u e=>aI7 _ e) (aA6 _) ⟨aF6 _,[],0,.nil,aI9 _ rfl⟩
 ·exact T.keep _ _ _ f fun b _ o e=>aI7 _ e
 ·exact fun b hb=>⟨by rw [aad (aB5 (q b hb))];exact (z b hb).1,(z b hb).2⟩
theorem acg (r:X.calm=true) (L:LcOk X N sc src) (hi:PI X tg iter wi) (u:∀ C a c ex,PG (X.comp N sc C a c ex) tg g) (i:∀ C a c ex,PIf (X.comp N sc C a c ex) ifs tif) (w:∀ C a c ex,PE (X.comp N sc C a c ex) elt te)
  (n:∀ x,foldedSetIterable iter X.env x=pure x:=by intro _;rfl):PE X (.ListComp elt [⟨tg,iter,ifs,0⟩] sc pos) (tLC src wi g tif te):=by
 intro pins s σ H Q I h
 rw [eval_ListComp]
 refine ali r L hi u i w I h none _ (fun f C H' l m J q hn j y p d v=>?_) n
 refine ⟨m,hn,fun h' sb=>⟨.ref f,H',?_,rfl,q⟩⟩
 exact J.turned (t':=l.toks) (fun b o hb e=>sb.extBut b o hb e) j y p d v
end
section
variable {X:Cx} {N:List Str} {tg iter elt:Expr} {ifs:List Expr} {sc:Scope} {src:List (Option Nat)} {wi:TI} {g:TG} {tif:TT} {te:TE} {pos spos px:Pos}
theorem alj {i:Nat} {x:Str} (E:X.N.Nodup) (n:X.N[i]?=some x) (O:Loc X.env.scope x) (P:X.calm=true) (L:LcOk X N sc src) (hi:PI X tg iter wi) (Q:∀ C c f ex,PG (X.comp N sc C c f ex) tg g)
  (y:∀ C c f ex,PIf (X.comp N sc C c f ex) ifs tif) (S:∀ C c f ex,PE (X.comp N sc C c f ex) elt te)
  (l:swapsWith (.ListComp elt [⟨tg,iter,ifs,0⟩] sc pos) (some (.Name x px)) spos.line X.env=pure true:=by rfl)
  (hf:X.fn x=true\/X.env.scope.names.lookup x=some .local:=by first | exact .inl rfl | exact .inr rfl | assumption)
  (M:∀ x,foldedSetIterable iter X.env x=pure x:=by intro _;rfl):PS X (.Assign [.Name x px] (.ListComp elt [⟨tg,iter,ifs,0⟩] sc pos) spos) (tAsg (tLC src wi g tif te) (abf i)):=by
 intro pins s σ H D I h
 rw [exec_Assign_Name_used _ _ _ _ l]
 refine aI5 (wpAny_standAt (aI5 ?_))
 show wpAny _ X.A (do let _ ← comprehension (.ListComp elt [⟨tg,iter,ifs,0⟩] sc pos) sc X.env _ (newList []) false (eval iter X.env) (some (assign (.Name x px) X.env))) _ _ s
 refine aI5 (aJ2 (ali P L hi Q y S I h (some (assign (.Name x px) X.env)) (fun _ p=>SP X pins D .next p) (fun j C H' p m J q hn F B w d R=>?_) M) (fun _ p K=>aI6 (aI6 K)) fun _ _ e=>e)
 show wpAny _ X.A (assign (.Name x px) X.env (.ref j)) _ _ _
 refine wpAny_assign_Name (ajb J E n O (v:=.ref j) rfl (fun s2 G ⟨a,sb,ha⟩=>?_) hf)
 have r:C ≠ a:=by
  rcases ha with z | z
  ·rw [z];exact B
  ·exact (d x a z).symm
 refine ⟨m,hn.sameBut sb r,fun h' u=>⟨_,H',?_,q⟩⟩
 exact G.turned (t':=s2.toks) (fun b o hb e=>u.extBut b o hb e) F B w d R
end
section
variable {g:TG} {tif:TT} {te:TE} {acc:Addr} {Qd:List V->Hp->Prop} {σ0:St} {H0:Hp}
theorem asp {lo:Int} {n:Nat} (c:Nat->List V->St->Hp->Prop) (o:c 0 [] σ0 H0) (ha:∀ i ys σ H,c i ys σ H->H acc=some (.lst ys))
  (q:∀ i ys σ H,i < n->c i ys σ H->g (.int (lo+i)) σ H fun a H3=>tif a H3 fun b f=>if b=true then te a f fun y d=>d acc=some (.lst ys)/\ys.length < sizeLine/\c (i+1) (ys ++ [y]) a (upd d acc (.lst (ys ++ [y]))) else c (i+1) ys a f)
  (hd:∀ ys σ H,c n ys σ H->Qd ys H):∃ W:LW,(∃ m,W 0 m [] σ0 H0)/\afz (Itr lo n) g tif te acc Qd W:=by
 refine ⟨fun i m ys σ H=>m=n - i/\i<=n/\c i ys σ H,⟨n,by simp,aF6 _,o⟩,?_⟩
 rintro i m ys σ H ⟨rfl,hi,p⟩
 refine ⟨ha i ys σ H p,?_⟩
 by_cases hlt:i < n
 ·refine .inr ⟨hlt,c (i+1),fun j l H' h=>⟨n - (i+1),by omega,rfl,hlt,h⟩,fun x H' y=>?_⟩
  obtain ⟨e,y⟩:=y
  subst e y
  exact q i ys σ _ hlt p
 ·have e:i=n:=by omega
  subst e
  exact .inl ⟨aA6 _,hd ys σ H p⟩
end
def ank (J:It) (g:TG) (tif:TT) (te:TE) (acc:Addr) (Qd:List V->St->Hp->Prop) (W:LW):Prop:=∀ (i m:Nat) (ys:List V) (σ:St) (H:Hp),W i m ys σ H->H acc=some (.lst ys)/\((J.stop i H/\Qd ys σ H)\/(J.go i H /\
 ∃ Nx:List V->St->Hp->Prop,(∀ ys' σ' H',Nx ys' σ' H'->∃ m',m' < m/\W (i+1) m' ys' σ' H')/\∀ x H2,J.yld i H x H2 ->
 g x σ H2 fun σ3 H3=>tif σ3 H3 fun b H4=>if b=true then te σ3 H4 fun y H5=>H5 acc=some (.lst ys)/\ys.length < sizeLine/\Nx (ys ++ [y]) σ3 (upd H5 acc (.lst (ys ++ [y]))) else Nx ys σ3 H4))
def ain (J:It) (g:TG) (tif:TT) (wi2:TI) (g2:TG) (tif2:TT) (te:TE) (acc:Addr) (Qd:List V->Hp->Prop) (W:LW):Prop:=∀ (i m:Nat) (ys:List V) (σ:St) (H:Hp),W i m ys σ H->((J.stop i H/\Qd ys H)\/(J.go i H /\
 ∃ Nx:List V->St->Hp->Prop,(∀ ys' σ' H',Nx ys' σ' H'->∃ m',m' < m/\W (i+1) m' ys' σ' H')/\∀ x H2,J.yld i H x H2 ->
 g x σ H2 fun σ3 H3=>tif σ3 H3 fun b H4=>if b=true then wi2 σ3 H4 fun J2 H5=>∃ W2:LW,(∃ m2,W2 0 m2 ys σ3 H5)/\ank J2 g2 tif2 te acc Nx W2 else Nx ys σ3 H4))
theorem aj3 (b t1 i1 f d:Expr) (f1 g:List Expr) (sc:Scope) (pos:Pos) (it a:Value) (env:Env) :
  compTurn (.ListComp b [⟨t1,i1,f1,0⟩,⟨f,d,g,0⟩] sc pos) 0 it a env=(do
   standAt i1.pos
   match ← pyNext it with
   | none=>pure (.done .next)
   | some v =>
    letOwnedTupleGo t1 it v
    assign t1 env v
    let mut ok:=true
    for c in f1 do
     if ok then ok ← isTrue c env (eval c env)
    if ok then
     let x ← eval d env
     standAt d.pos
     let x ← foldedSetIterable d env x
     let _ ← runOwn (.compStart (.ListComp b [⟨t1,i1,f1,0⟩,⟨f,d,g,0⟩] sc pos) 1 (← holding [x] (pyIter x)) a env) env
    again (.compLoop (.ListComp b [⟨t1,i1,f1,0⟩,⟨f,d,g,0⟩] sc pos) 0 it a env)):=by rfl
theorem aj4 (b t1 i1 d f:Expr) (f1 g:List Expr) (sc:Scope) (pos:Pos) (it a:Value) (env:Env) :
  compTurn (.ListComp b [⟨t1,i1,f1,0⟩,⟨d,f,g,0⟩] sc pos) 1 it a env=(do
   standAt f.pos
   match ← pyNext it with
   | none=>pure (.done .next)
   | some v =>
    letOwnedTupleGo d it v
    assign d env v
    let mut ok:=true
    for c in g do
     if ok then ok ← isTrue c env (eval c env)
    if ok then
     (do let _ ← call (.builtin "list.append") [a,← eval b env])
    again (.compLoop (.ListComp b [⟨t1,i1,f1,0⟩,⟨d,f,g,0⟩] sc pos) 1 it a env)):=by rfl
theorem aqw {prog:Program} {w:World} {A:Around} {R:Result->Shared->Prop} {s:Shared} {c t1 i1 i g:Expr} {f1 j:List Expr} {sc:Scope} {pos:Pos} {it d:Value} {env:Env}
  (l:codeAny (model prog w) A (.compLoop (.ListComp c [⟨t1,i1,f1,0⟩,⟨i,g,j,0⟩] sc pos) 1 it d env) R s)
  (h:wpAny (model prog w) A (pyIter it) (fun a b=>codeAny (model prog w) A (.compLoop (.ListComp c [⟨t1,i1,f1,0⟩,⟨i,g,j,0⟩] sc pos) 1 a d env) R b) (notedBy (model prog w) A env fun x b=>R (.error x) b) s) :
  codeAny (model prog w) A (.compStart (.ListComp c [⟨t1,i1,f1,0⟩,⟨i,g,j,0⟩] sc pos) 1 it d env) R s:=by
 refine codeAny_of_tree ?_
 show wpAny _ _ ((compStart (.ListComp c [⟨t1,i1,f1,0⟩,⟨i,g,j,0⟩] sc pos) 1 it d env).onRaise (fun x=>do noteFrame x env;standAt theWindowsPlace)) _ _ s
 refine wpAny_notedAt ?_
 unfold compStart
 show wpAny _ _ (ask >>= _) _ _ s
 apply aI5;apply wpAny_askSetting;apply wpAny_ite;split
 ·first | exact aI5 (aI6 (aI6 ⟨rfl,l⟩)) | exact aI6 ⟨rfl,l⟩
 ·have q:wpAny (model prog w) A (pyIter it >>= fun a=>again (.compLoop (.ListComp c [⟨t1,i1,f1,0⟩,⟨i,g,j,0⟩] sc pos) 1 a d env)) (fun fin b=>match fin with | .done f=>R (.ok f) b | .again c'=>c'.quiet=true/\codeAny (model prog w) A c' R b) (notedBy (model prog w) A env fun x b=>R (.error x) b) s :=
   aI5 (aJ2 h (fun a b h'=>aI6 ⟨rfl,h'⟩) fun _ _ x=>x)
  first
   | exact aI5 (wpAny_rule (aI5 (wpAny_standAt (aI5 (aJ2 h (fun a b h'=>aI6 ⟨rfl,h'⟩) fun _ _ x=>x)))))
   | (apply aI5;apply wpAny_rule;show wpAny _ _ (standAt g.pos >>= _) _ _ s;exact aI5 (wpAny_standAt (aI5 (aJ2 h (fun a b h'=>aI6 ⟨rfl,h'⟩) fun _ _ x=>x))))
theorem ao6 {X:Cx} {D t1 i1 tg iter:Expr} {f1 B:List Expr} {sc:Scope} {pos:Pos} {J:It} {fp:List Addr} {it:Addr} {tn:Nat->Heap->Prop} {g:TG} {G:TT} {te:TE} {a:Addr} {Qd:List V->St->Hp->Prop} {W:LW} {R:Result->Shared->Prop} {pins:List (Addr × Obj)}
  (T:Turn X.prog X.w X.K tg J fp it tn) (hc:X.calm=true) (p:∀ e s,¬ X.xe e s) (hg:PG X tg g) (Z:PIf X B G) (he:PE X D te)
  (M:ank J g G te a Qd W) (hR:∀ ys σ H s,Inv X pins σ H s->Qd ys σ H->R (.ok .next) s)
  {i m:Nat} {ys:List V} {σ:St} {H:Hp} {s:Shared} (I:Inv X pins σ H s) (st:tn i s.heap) (hf:∀ b∈fp,FpOk X pins H b) (w:W i m ys σ H) :
  codeAny (model X.prog X.w) X.A (.compLoop (.ListComp D [⟨t1,i1,f1,0⟩,⟨tg,iter,B,0⟩] sc pos) 1 (.ref it) (.ref a) X.env) R s:=by
 have c:∀ {H':Hp},(∀ b∈fp,H' b=none)->∀ b∈fp,FpOk X pins H' b:=fun hn b hb=>⟨hn b hb,(hf b hb).2⟩
 refine codeAny_loop rfl (fun n j=>∃ i ys f H',Inv X pins f H' j/\tn i j.heap/\(∀ b∈fp,H' b=none)/\W i n ys f H') ?_ m ⟨i,ys,σ,H,I,st,fun b hb=>(hf b hb).1,w⟩
 rintro n s1 ⟨i,ys,h,Q,I1,O,F,w1⟩
 show wpAny _ X.A ((compTurn (.ListComp D [⟨t1,i1,f1,0⟩,⟨tg,iter,B,0⟩] sc pos) 1 (.ref it) (.ref a) X.env).onRaise (fun x=>do noteFrame x X.env;theTreesLotGoes x)) _ _ s1
 refine wpAny_noted ?_
 rw [aj4]
 refine aI5 (wpAny_standAt (aI5 ?_))
 obtain ⟨a1,⟨stop,qd⟩ | ⟨go,Nx,L,step⟩⟩:=M i n ys h Q w1
 ·refine thn (T.done X rfl rfl rfl hc i pins s1 h Q _ I1 (c F) O stop) fun r s2 ⟨hr,I2⟩=>?_
  subst hr
  exact aI6 (hR ys h Q s2 I2 qd)
 ·refine thn (T.item X rfl rfl rfl hc i pins s1 h Q _ I1 (c F) O go) fun r s2 ⟨u,hr,h2⟩=>?_
  subst hr
  refine aI5 (thn h2 fun _ s3 ⟨x,H3,I3,r3,y3,v,Y⟩=>?_)
  have a0:=I3.pinned (c Y) (T.obj _ _ v)
  refine aI5 (aJ2 (hg _ s3 h H3 x u _ a0 r3 (step x H3 y3)) (fun _ s4 ⟨C,H4,I4,q4⟩=>?_) fun e j z=>(p e j z).elim)
  have q:∀ {l:St} {N:Hp} {P:Shared} {zs:List V},Inv X (pins ++ ad7 fp s3.heap) l N P->(∃ U,U < n/\W (i+1) U zs l N)->∃ m,m < n/\∃ i ys f H',Inv X pins f H' P/\tn i P.heap/\(∀ b∈fp,H' b=none)/\W i m ys f H':=fun {l N P zs} E w7=>by
   obtain ⟨U,hm,w7⟩:=w7
   refine ⟨U,hm,i+1,zs,l,N,E.unpinned,T.keep _ _ _ v fun b hb o e=>(E.pin (b,o) (aB2 _ (aB2 _ (ab0 hb e)))).1,fun b hb=>?_,w7⟩
   obtain ⟨o,e,d⟩:=T.obj _ _ v b hb
   exact (E.pin (b,o) (aB2 _ (aB2 _ (ab0 hb e)))).2.1
  refine aI5 (aJ2 (Z _ s4 C H4 _ I4 q4) (fun b s5 ⟨H5,I5,S⟩=>?_) fun e j z=>(p e j z).elim)
  cases b with
  | false =>
   rw [aF2 aA9] at S
   exact aI6 ⟨rfl,q I5 (L _ _ _ S)⟩
  | true =>
   rw [aF1 rfl] at S
   refine aI5 (aI5 (aJ2 (he _ s5 C H5 _ I5 S) (fun yv s6 ⟨y,H6,I6,r6,a6,l6,w6⟩=>?_) fun e j z=>(p e j z).elim))
   have ap:=abh (X:=X) _ s6 C H6 (.ref a) [y] (.ref a) [yv] (fun _ H'=>H'=upd H6 a (.lst (ys ++ [y]))) I6 rfl (.cons r6 .nil) ⟨a,ys,y,rfl,rfl,a6,l6,rfl⟩
   refine aI5 (aJ2 ap (fun _ P ⟨v7,N,E,_,e7⟩=>?_) fun e j z=>(p e j z).elim)
   subst e7
   exact aI6 (aI6 ⟨rfl,q E (L _ _ _ w6)⟩)
theorem ao7 {X:Cx} {E t1 i1 t2 i2:Expr} {f1 f2:List Expr} {sc:Scope} {pos:Pos} {J:It} {fp:List Addr} {it:Addr} {tn:Nat->Heap->Prop} {g:TG} {M:TT} {F:TI} {g2:TG} {y:TT} {te:TE} {B:Addr} {Qd:List V->Hp->Prop} {W:LW} {R:Result->Shared->Prop}
  (T:Turn X.prog X.w X.K t1 J fp it tn) (hc:X.calm=true) (p:∀ e s,¬ X.xe e s) (hg:PG X t1 g) (a1:PIf X f1 M) (a4:PI X t2 i2 F) (a5:PG X t2 g2) (O:PIf X f2 y) (he:PE X E te)
  (a3:∀ x,foldedSetIterable i2 X.env x=pure x)
  (P:ain J g M F g2 y te B Qd W) (hR:∀ ys σ H s,Inv X [] σ H s->Qd ys H->R (.ok .next) s)
  {i m:Nat} {ys:List V} {σ:St} {H:Hp} {s:Shared} (I:Inv X [] σ H s) (st:tn i s.heap) (hf:∀ b∈fp,FpOk X [] H b) (w:W i m ys σ H) :
  codeAny (model X.prog X.w) X.A (.compLoop (.ListComp E [⟨t1,i1,f1,0⟩,⟨t2,i2,f2,0⟩] sc pos) 0 (.ref it) (.ref B) X.env) R s:=by
 have j:∀ {H':Hp},(∀ b∈fp,H' b=none)->∀ b∈fp,FpOk X [] H' b:=fun hn b hb=>⟨hn b hb,(hf b hb).2⟩
 refine codeAny_loop rfl (fun n c=>∃ i ys a H',Inv X [] a H' c/\tn i c.heap/\(∀ b∈fp,H' b=none)/\W i n ys a H') ?_ m ⟨i,ys,σ,H,I,st,fun b hb=>(hf b hb).1,w⟩
 rintro n s1 ⟨i,ys,l,H1,I1,S,L,w1⟩
 show wpAny _ X.A ((compTurn (.ListComp E [⟨t1,i1,f1,0⟩,⟨t2,i2,f2,0⟩] sc pos) 0 (.ref it) (.ref B) X.env).onRaise (fun x=>do noteFrame x X.env;theTreesLotGoes x)) _ _ s1
 refine wpAny_noted ?_
 rw [aj3]
 refine aI5 (wpAny_standAt (aI5 ?_))
 obtain ⟨stop,qd⟩ | ⟨go,Nx,N,step⟩:=P i n ys l H1 w1
 ·refine thn (T.done X rfl rfl rfl hc i [] s1 l H1 _ I1 (j L) S stop) fun r s2 ⟨hr,I2⟩=>?_
  subst hr
  exact aI6 (hR ys l H1 s2 I2 qd)
 ·refine thn (T.item X rfl rfl rfl hc i [] s1 l H1 _ I1 (j L) S go) fun r s2 ⟨u,hr,h2⟩=>?_
  subst hr
  refine aI5 (thn h2 fun _ s3 ⟨x,H3,I3,r3,y3,D,a0⟩=>?_)
  have a2:=I3.pinned (j a0) (T.obj _ _ D)
  refine aI5 (aJ2 (hg _ s3 l H3 x u _ a2 r3 (step x H3 y3)) (fun _ s4 ⟨U,H4,I4,q4⟩=>?_) fun e c z=>(p e c z).elim)
  have v:∀ {q:St} {Q:Hp} {Z:Shared} {zs:List V},Inv X ([] ++ ad7 fp s3.heap) q Q Z->(∃ m',m' < n/\W (i+1) m' zs q Q)->∃ m,m < n/\∃ i ys a H',Inv X [] a H' Z/\tn i Z.heap/\(∀ b∈fp,H' b=none)/\W i m ys a H':=fun {q Q Z zs} G w7=>by
   obtain ⟨m',hm,w7⟩:=w7
   refine ⟨m',hm,i+1,zs,q,Q,G.unpinned,T.keep _ _ _ D fun b hb o e=>(G.pin (b,o) (aB2 _ (aB2 _ (ab0 hb e)))).1,fun b hb=>?_,w7⟩
   obtain ⟨o,e,d⟩:=T.obj _ _ D b hb
   exact (G.pin (b,o) (aB2 _ (aB2 _ (ab0 hb e)))).2.1
  refine aI5 (aJ2 (a1 _ s4 U H4 _ I4 q4) (fun b s5 ⟨H5,I5,q5⟩=>?_) fun e c z=>(p e c z).elim)
  cases b with
  | false =>
   rw [aF2 aA9] at q5
   exact aI6 ⟨rfl,v I5 (N _ _ _ q5)⟩
  | true =>
   rw [aF1 rfl] at q5
   refine aI5 (aJ2 (a4 _ s5 U H5 _ I5 q5) (fun xv s6 h6=>?_) fun e c z=>(p e c z).elim)
   refine aI5 (wpAny_standAt (aI5 ?_))
   rw [a3 xv]
   refine aI6 (aI5 (aJ0 (aJ2 h6 (fun a9 Z h7=>?_) fun e c z=>(p e c z).elim)))
   obtain ⟨b1,b0,a8,J2,Q,e,G,T2,Y,a6,W2,⟨m2,w2⟩,C⟩:=h7
   subst e
   refine aI5 (wpAny_runOwn ?_)
   have loop:=ao6 (R:=fun r c=>match r with | .ok f=>(∃ m,m < n/\∃ i ys a H',Inv X [] a H' c/\tn i c.heap/\(∀ b∈fp,H' b=none)/\W i m ys a H') | .error e=>False) (t1:=t1) (i1:=i1) (f1:=f1) (iter:=i2) (sc:=sc) (pos:=pos) T2 hc p a5 O he C (fun a7 b2 H8 s8 I8 q8=>v I8 (N _ _ _ q8)) G Y a6 w2
   have st:=aqw loop (T2.self _ 0 _ _ _ Y loop)
   refine codeAny_mono st fun r c h=>?_
   cases r with
   | error e=>exact h.elim
   | ok f=>exact aI6 ⟨rfl,h⟩
def tLC2 (src:List (Option Nat)) (wi:TI) (g:TG) (tif:TT) (wi2:TI) (g2:TG) (tif2:TT) (te:TE):TE:=fun σ H Q=>wi σ H fun J H1=>∀ acc,H1 acc=none->∃ W:LW,(∃ m,W 0 m [] (pick src σ) (upd H1 acc (.lst [])))/\ain J g tif wi2 g2 tif2 te acc (fun _ H'=>Q (.ref acc) H') W
section
variable {X:Cx} {N:List Str} {t1 i1 t2 i2 elt:Expr} {f1 f2:List Expr} {sc:Scope} {src:List (Option Nat)} {wi wi2:TI} {g g2:TG} {tif tif2:TT} {te:TE} {pos:Pos}
theorem asq (hc:X.calm=true) (L:LcOk X N sc src) (hg:∀ C h f ex,PG (X.comp N sc C h f ex) t1 g) (U:∀ C h f ex,PIf (X.comp N sc C h f ex) f1 tif) (O:∀ C h f ex,PI (X.comp N sc C h f ex) t2 i2 wi2) (a0:∀ C h f ex,PG (X.comp N sc C h f ex) t2 g2) (F:∀ C h f ex,PIf (X.comp N sc C h f ex) f2 tif2) (he:∀ C h f ex,PE (X.comp N sc C h f ex) elt te)
  (M:∀ C h f ex x,foldedSetIterable i2 (X.comp N sc C h f ex).env x=pure x)
  {pins:List (Addr × Obj)} {d:Shared} {σ:St} {H3:Hp} {Q:VK} (n:Inv X pins σ H3 d) {it a:Addr} {fp:List Addr} {J:It} {tn:Nat->Heap->Prop} (T:Turn X.prog X.w X.K t1 J fp it tn) (G:tn 0 d.heap) (l:∀ b∈fp,FpOk X pins H3 b)
  {W:LW} {m0:Nat} (w0:W 0 m0 [] (pick src σ) H3) (r:ain J g tif wi2 g2 tif2 te a (fun _ H'=>Q (.ref a) H') W) (use:Option (Value->Sem Unit)) (P:Value->Shared->Prop)
  (hP:∀ C H' i m,Inv X pins σ H' i->Q (.ref a) H'->i.heap.Ns C m->H' C=none->C ≠ X.env.locals->(C∈X.ex\/X.s₀.heap.objs.size<=C)->(∀ x c,X.env.cells.lookup x=some c->c ≠ C)->(∀ p∈X.pn ++ pins,p.1 ≠ C) ->
   compPost (model X.prog X.w) X.A X.xe use P (.ref a) C (.ok .next) i) :
  wpAny (model X.prog X.w) X.A (newFunctionEnv sc X.env.globals (clos X.env sc.names []) [] X.env.qual none .none (some X.env)) (fun j D =>
    codeAny (model X.prog X.w) X.A (.compStart (.ListComp elt [⟨t1,i1,f1,0⟩,⟨t2,i2,f2,0⟩] sc pos) 0 (.ref it) (.ref a) { j with scope:=relabel sc X.env }) (compPost (model X.prog X.w) X.A X.xe use P (.ref a) j.locals) D) X.xe d:=by
 refine wpAny_newFunctionEnv L.nocell (by intro y hy;simp at hy) (fun Z B u=>?_) L.kind
 have S:∀ b∈fp,b < d.heap.objs.size:=fun b hb=>by
  obtain ⟨o,Y,_⟩:=T.obj _ _ G b hb
  exact aI8 Y
 have H:∀ b o,d.heap.get? b=some o->Z.get? b=some o:=fun b o e=>u.extBut b o (aB5 (aI8 e)) (aI7 _ e)
 have I:=alh (t':=d.toks+([]:List (Str × Value)).length) L n l S (by simpa using B) H
 have E:tn 0 Z:=T.keep _ _ _ G fun b _ o e=>H b o e
 have f4:∀ b∈fp,FpOk (X.comp N sc d.heap.objs.size d H3 fp) [] H3 b:=fun b hb =>
  ⟨(l b hb).1,(I.ok.exf b hb).1,I.ok.exfs b hb,.inl hb,(I.ok.exf b hb).2,fun p R=>absurd (show p∈([]:List (Addr × Obj)) from R) (by simp)⟩
 have fin:∀ (ys:List V) s H' i,Inv (X.comp N sc d.heap.objs.size d H3 fp) [] s H' i->Q (.ref a) H'->compPost (model X.prog X.w) X.A X.xe use P (.ref a) d.heap.objs.size (.ok .next) i:=fun ys s H' i q q'=>by
  have Jo:Inv X pins σ H' i:=n.call' (ch:=fp) q.os q.base q.hok q.bare fun b hb=>⟨(l b hb).2.2.2.1,(l b hb).2.1,(l b hb).2.2.2.2.1,(l b hb).2.2.2.2.2⟩
  obtain ⟨m,hn,_⟩:=q.loc
  refine hP _ H' i m Jo q' hn q.free (Nat.ne_of_gt n.lt) (.inr n.sz) (fun x c e z=>?_) fun p R z=>?_
  ·obtain ⟨v,o,Y,_⟩:=n.cell x c e
   exact absurd (aI8 Y) (by rw [z];exact aG0 _)
  ·exact absurd (aI8 (n.pin p R).1) (by rw [z];exact aG0 _)
 have loop:codeAny (model X.prog X.w) X.A (.compLoop (.ListComp elt [⟨t1,i1,f1,0⟩,⟨t2,i2,f2,0⟩] sc pos) 0 (.ref it) (.ref a) (X.comp N sc d.heap.objs.size d H3 fp).env)
   (compPost (model X.prog X.w) X.A X.xe use P (.ref a) d.heap.objs.size) { d with heap:=Z,toks:=d.toks+([]:List (Str × Value)).length } :=
  ao7 (X:=X.comp N sc d.heap.objs.size d H3 fp) T hc (fun _ _ z=>z) (hg _ _ _ _) (U _ _ _ _) (O _ _ _ _) (a0 _ _ _ _) (F _ _ _ _) (he _ _ _ _) (M _ _ _ _) r fin I E f4 w0
 exact codeAny_compStart_list loop (T.self _ 0 _ _ _ E loop)
theorem aqx (R:X.calm=true) (L:LcOk X N sc src) (hi:PI X t1 i1 wi) (S:∀ C a c ex,PG (X.comp N sc C a c ex) t1 g) (z:∀ C a c ex,PIf (X.comp N sc C a c ex) f1 tif) (w:∀ C a c ex,PI (X.comp N sc C a c ex) t2 i2 wi2) (r:∀ C a c ex,PG (X.comp N sc C a c ex) t2 g2) (d:∀ C a c ex,PIf (X.comp N sc C a c ex) f2 tif2) (Y:∀ C a c ex,PE (X.comp N sc C a c ex) elt te)
  (O:∀ x,foldedSetIterable i1 X.env x=pure x:=by intro _;rfl) (n:∀ C a c ex x,foldedSetIterable i2 (X.comp N sc C a c ex).env x=pure x:=by intros;rfl):PE X (.ListComp elt [⟨t1,i1,f1,0⟩,⟨t2,i2,f2,0⟩] sc pos) (tLC2 src wi g tif wi2 g2 tif2 te):=by
 intro pins s σ H Q I h
 rw [eval_ListComp]
 refine wpAny_comprehension_free rfl O (L.clo I.ok) L.kind L.own (thn (hi pins s σ H _ I h) fun v s1 G=>thn G fun K s2 E=>?_)
 obtain ⟨it,fp,tn,J,H2,e,A,T,i,j,M⟩:=E
 subst e
 have l:H2 s2.heap.objs.size=none:=A.hok.fresh (aA6 _)
 obtain ⟨W,⟨m0,B⟩,f⟩:=M s2.heap.objs.size l
 have y:∀ b∈fp,b < s2.heap.objs.size:=fun b hb=>by
  obtain ⟨o,ho,_⟩:=T.obj _ _ i b hb
  exact aI8 ho
 refine aJ3 ?_
 refine asq (pins:=pins) R L S z w r d Y n (H3:=upd H2 s2.heap.objs.size (.lst [])) ?_ T ?_ ?_ B f none _ ?_
 ·exact A.laid (t':=s2.toks) (fun b u e=>aI7 _ e) (aA6 _) ⟨aF6 _,[],0,.nil,aI9 _ rfl⟩
 ·exact T.keep _ _ _ i fun b _ o e=>aI7 _ e
 ·exact fun b hb=>⟨by rw [aad (aB5 (y b hb))];exact (j b hb).1,(j b hb).2⟩
 ·intro C H' F m J q hn D Z P p U
  refine ⟨m,hn,fun h' sb=>⟨.ref s2.heap.objs.size,H',?_,rfl,q⟩⟩
  exact J.turned (t':=F.toks) (fun b o hb e=>sb.extBut b o hb e) D Z P p U
end
def rLen (K:Frag):List V->Hp->VK->Prop:=fun xs H Q=>∃ p ys,xs=[.ref p]/\(SqL K H p ys\/SqT K H p ys)/\Q (.int ys.length) H
theorem abq {X:Cx}:aa1 X (.builtin "len") (rLen X.K):=ak9
def akp:List V->Hp->VK->Prop:=fun xs H Q=>∃ i j,xs=[.int i,.int j]/\Q (.int (if j > i then j else i)) H
def akq:List V->Hp->VK->Prop:=fun xs H Q=>∃ i j,xs=[.int i,.int j]/\Q (.int (if j < i then j else i)) H
theorem acy {X:Cx} (a:X.calm=true):aa1 X (.builtin "max") akp:=aqh a
theorem acz {X:Cx} (a:X.calm=true):aa1 X (.builtin "min") akq:=aqi a
def ao8:List V->Hp->VK->Prop:=fun xs H Q=>(∃ i,xs=[.int i]/\Q (.int i) H)\/∃ k,xs=[.bl k]/\Q (.int (if k then 1 else 0)) H
theorem ao9 {X:Cx}:aa1 X (.type "int") ao8:=aqj
section
variable {σ:St} {H:Hp} {D:Ends} {K:Frag}
theorem axt {t u:TS} (h:t { D with nx:=u D } σ H):tSeq t u D σ H:=h
theorem axu {te:TE} {g:TG} (h:te σ H fun x a=>g x σ a D.nx):tAsg te g D σ H:=h
theorem axv {te:TE} (h:te σ H D.rt):tRet te D σ H:=h
theorem au9 {te:TE} (h:te σ H fun _ a=>D.nx σ a):aox te D σ H:=h
theorem ava (h:D.nx σ H):aow D σ H:=h
theorem axw {c:TT} {t u:TS} (h:c σ H fun b a=>if b=true then t D σ a else u D σ a):tIfS c t u D σ H:=h
theorem ae5 {i:Nat} {v:V} {Q:St->Hp->Prop} (h:Q (σ.set i (some v)) H):abf i v σ H Q:=h
theorem avb {to a:TE} {t:TSet} {v:V} {Q:St->Hp->Prop} (h:to σ H fun o b=>a σ b fun i H2=>t o i v H2 fun H3=>Q σ H3):gSub to a t v σ H Q:=h
theorem alk {i:Nat} {v:V} {Q:VK} (a : σ[i]?=some (some v)) (h:Q v H):tVar i σ H Q:=⟨v,a,h⟩
theorem go_c {v:V} {Q:VK} (h:Q v H):tC v σ H Q:=h
theorem azk {r:R2} {b a:TE} {Q:VK} (h:b σ H fun x c=>a σ c fun y H2=>r x y H2 Q):tOp r b a σ H Q:=h
theorem avc {t:TE} {Q:Bool->Hp->Prop} (h:t σ H fun x H'=>∃ k,x=.bl k/\Q k H'):akm t σ H Q:=h
theorem azl {k:Bool} {Q:Bool->Prop} (h:Q k):∃ a,V.bl k=.bl a/\Q a:=⟨k,rfl,h⟩
theorem axx {t u:TT} {Q:Bool->Hp->Prop} (h:t σ H fun c a=>if c=true then u σ a Q else Q false a):tAnd t u σ H Q:=h
theorem ae6 {a:TE} {tr:TA} {Q:List V->Hp->Prop} (h:a σ H fun x b=>tr σ b fun xs H2=>Q (x :: xs) H2):aba a tr σ H Q:=h
theorem aec {Q:List V->Hp->Prop} (h:Q [] H):tNil σ H Q:=h
theorem aqy {t:TA} {Q:VK} (h:t σ H fun xs a=>xs.length<=sizeLine/\∀ p,a p=none->Q (.ref p) (upd a p (.tup xs))):tTup t σ H Q:=h
theorem aqz {t:TA} {Q:VK} (h:t σ H fun xs a=>xs.length<=sizeLine/\∀ p,a p=none->Q (.ref p) (upd a p (.lst xs))):tLst t σ H Q:=h
theorem azm {r:List V->Hp->VK->Prop} {t:TA} {Q:VK} (h:t σ H fun vs a=>r vs a Q):tCB r t σ H Q:=h
theorem avd {sp:Sp} {E:XK} {t:TA} {Q:VK} (h:t σ H fun vs a=>sp vs a Q E):acf sp [] E t σ H Q:=by
 unfold acf
 simp only [aE6]
 exact h
theorem go_I {C:Int->Int->Prop} {g:Int->Int->V} {i j:Int} {Q:VK} (a:C i j) (h:Q (g i j) H):rI C g (.int i) (.int j) H Q:=⟨i,j,rfl,rfl,a,h⟩
theorem azn {g:Int->Int->V} {i j:Int} {Q:VK} (h:Q (g i j) H):rI0 g (.int i) (.int j) H Q:=⟨i,j,rfl,rfl,h⟩
theorem aq0 {i j:Int} {Q:VK} (h:Q (.bl (decide (i=j))) H):rEq (.int i) (.int j) H Q:=by
 have e:decide (V.int i=V.int j)=decide (i=j):=by rw [agk];exact Bool.beq_eq_decide_eq i j
 exact ⟨rfl,by rw [e];exact h⟩
theorem axy {i j:Int} {Q:VK} (h:Q (.bl (!decide (i=j))) H):rNe (.int i) (.int j) H Q:=by
 have e:decide (V.int i=V.int j)=decide (i=j):=by rw [agk];exact Bool.beq_eq_decide_eq i j
 exact ⟨rfl,by rw [e];exact h⟩
theorem axz {a:Addr} {xs:List V} {i:Int} {v:V} {Q:VK} (ha:H a=some (.lst xs)) (b:atI xs i=some v) (h:Q v H):rIxL K (.ref a) (.int i) H Q:=⟨a,xs,i,v,rfl,rfl,SqL.of ha,b,h⟩
theorem ax0 {a:Addr} {xs:List V} {i:Int} {v:V} {Q:VK} (ha:H a=some (.tup xs)) (b:atI xs i=some v) (h:Q v H):rIxT K (.ref a) (.int i) H Q:=⟨a,xs,i,v,rfl,rfl,SqT.of ha,b,h⟩
theorem anl {a:Addr} {xs:List V} {k:Int} {j:Nat} {v:V} {Q:Hp->Prop} (ha:H a=some (.lst xs)) (b:ixN xs.length k=some j) (h:Q (upd H a (.lst (xs.set j v)))):ao5 (.ref a) (.int k) v H Q:=⟨a,xs,k,j,rfl,rfl,ha,b,h⟩
theorem aep {a:Addr} {xs:List V} {y:V} {Q:VK} (ha:H a=some (.lst xs)) (b:xs.length < sizeLine) (h:Q .non (upd H a (.lst (xs ++ [y])))):ad2 (.ref a) [y] H Q:=⟨a,xs,y,rfl,rfl,ha,b,h⟩
theorem aq1 {a b:Addr} {xs c:List V} {Q:VK} (ha:H a=some (.lst xs)) (hb:H b=some (.lst c)) (d:xs.length+c.length<=sizeLine) (h:Q .non (upd H a (.lst (xs ++ c)))):ail (.ref a) [.ref b] H Q:=⟨a,b,xs,c,rfl,rfl,ha,hb,d,h⟩
theorem ax1 {r:V->List V->Hp->VK->Prop} {to:TE} {t:TA} {Q:VK} (h:to σ H fun x a=>tyV K "list" x a/\t σ a fun xs H2=>r x xs H2 Q):tBM K "list" r to t σ H Q:=h
theorem ax2 {a b:Addr} {xs c:List V} {Q:VK} (ha:H a=some (.lst xs)) (hb:H b=some (.lst c)) (d:xs.length+c.length<=sizeLine) (h:∀ p,H p=none->Q (.ref p) (upd H p (.lst (xs ++ c)))):rCat (.ref a) (.ref b) H Q:=⟨a,b,xs,c,rfl,rfl,ha,hb,d,h⟩
theorem anm {a:Addr} {xs:List V} {Q:VK} (ha:H a=some (.lst xs)) (h:Q (.int xs.length) H):rLen K [.ref a] H Q:=⟨a,xs,rfl,.inl (SqL.of ha),h⟩
theorem ann {i j:Int} {Q:VK} (h:Q (.int (if j > i then j else i)) H):akp [.int i,.int j] H Q:=⟨i,j,rfl,h⟩
theorem ano {i j:Int} {Q:VK} (h:Q (.int (if j < i then j else i)) H):akq [.int i,.int j] H Q:=⟨i,j,rfl,h⟩
theorem ave {k:Bool} {Q:VK} (h:Q (.int (if k then 1 else 0)) H):ao8 [.bl k] H Q:=.inr ⟨k,rfl,h⟩
theorem aio {c:Prop} [Decidable c] {A B:Prop} (a:c) (h:A):if decide c=true then A else B:=by rw [aD5 a];exact iteT h
theorem aip {c:Prop} [Decidable c] {A B:Prop} (a:¬ c) (h:B):if decide c=true then A else B:=by rw [aD4 a];exact iteF h
theorem ac0 {c:Prop} [Decidable c] {A B:Prop} (b:c->A) (a:¬ c->B):if decide c=true then A else B:=by
 by_cases hc:c
 ·exact aio hc (b hc)
 ·exact aip hc (a hc)
theorem avf {c:Prop} [Decidable c] {A B:Prop} (b:¬ c->A) (a:c->B):if (!decide c)=true then A else B:=by
 by_cases hc:c
 ·rw [aD5 hc];exact iteF (a hc)
 ·rw [aD4 hc];exact iteT (b hc)
theorem at0 {x:V} {xs:List V}:atI (x :: xs) 0=some x:=adj (j:=0) rfl
theorem at1 {x y:V} {xs:List V}:atI (x :: y :: xs) 1=some y:=adj (j:=1) rfl
theorem at2 {x y z:V} {xs:List V}:atI (x :: y :: z :: xs) 2=some z:=adj (j:=2) rfl
theorem ixN0 {n:Nat}:ixN (n+1) 0=some 0:=by unfold ixN;rw [aF1 (by decide),aF1 (by omega)];rfl
theorem ixN1 {n:Nat}:ixN (n+2) 1=some 1:=by unfold ixN;rw [aF1 (by decide),aF1 (by omega)];rfl
theorem ixN2 {n:Nat}:ixN (n+3) 2=some 2:=by unfold ixN;rw [aF1 (by decide),aF1 (by omega)];rfl
end
structure CallOk (P:Program) (w:World) (K:Frag) (mg:Str->Option Value) (base:Heap) (x:Str) (k:Nat) (ps:List Str) (sp:Sp) (f:Addr) (fd:FuncData):Prop where
 ok:FnOk P w K mg base CX0 k f fd ps sp
 mgx:mg x=some (.ref f)
 kp:keepIn K (.ref f)=true
 bd:Binds K fd ps []
def Can (P:Program) (w:World) (K:Frag) (mg:Str->Option Value) (base:Heap) (x:Str) (k:Nat) (ps:List Str) (sp:Sp):Prop:=∃ f fd,CallOk P w K mg base x k ps sp f fd
structure DefAt (K:Frag) (mg:Str->Option Value) (x:Str) (st:Stmt) (ps:List Str) (f:Addr) (fd:FuncData):Prop where
 fn:Fun K x x st f fd
 mgx:mg x=some (.ref f)
 bd:Binds K fd ps []
theorem DefAt.can {P:Program} {w:World} {K:Frag} {mg:Str->Option Value} {base:Heap} {x:Str} {st:Stmt} {k:Nat} {ps:List Str} {sp:Sp} {f:Addr} {fd:FuncData} (D:DefAt K mg x st ps f fd) (ok:FnOk P w K mg base CX0 k f fd ps sp):Can P w K mg base x k ps sp :=
 ⟨f,fd,ok,D.mgx,D.fn.kp,D.bd⟩
section
variable {X:Cx} {k j:Nat} {ps:List Str} {sp:Sp} {x:Str} {p pos:Pos} {e:Expr} {es:List Expr} {t:TA}
theorem aah (F:Can X.prog X.w X.K X.mg X.base x k ps sp) (c:Room j X.A) (ha:PA X (e :: es) t) (g:k<=j:=by decide) (h:Gl X x:=by rfl) (b:(x == ("__debug__" : Str))=false:=by decide)
  (d:starEach (e :: es) X.env=(false,eval e X.env) :: starEach es X.env:=by rfl) (a:(backTo pos (starEach es X.env)).any (·.1)=false:=by rfl) :
  PE X (.Call (.Name x p) (e :: es) [] pos) (acf sp [] E0 t):=by
 obtain ⟨f,fd,C⟩:=F
 exact au2 C.ok (c.mono g) h C.mgx C.kp C.bd .nil azj ha b d a
end
theorem aa9 {X:Cx} {N:List Str} {sc:Scope} {src:List (Option Nat)} (l:sc.kind=.function) (h:sc.names.all (fun y=>y.2 != .cell)=true) (d:sc.names.all (fun y=>y.2 != .local || sc.names.lookup y.1 == some .local)=true)
  (f:sc.names.all (fun y=>y.2 != .free || X.env.kindOf y.1 == some .cell || X.env.kindOf y.1 == some .free)=true) (b:src.length=N.length)
  (c:(List.range src.length).all (fun i=>match src[i]? with | some (some j)=>(match N[i]?,X.N[j]? with | some x,some y=>x == y && sc.names.lookup x == some .free | _,_=>false) | _=>true)=true):LcOk X N sc src:=by
 refine ⟨l,fun y a e=>?_,fun y a e=>?_,fun y a e=>?_,b,fun i j e=>?_⟩
 ·have:=aF0.mp h y a
  rw [e] at this
  exact absurd this (by decide)
 ·have:=aF0.mp d y a
  rw [e] at this
  simpa using this
 ·have:=aF0.mp f y a
  rw [e] at this
  simpa using this
 ·have hi:i < src.length:=(aA1.mp e).1
  have:=aF0.mp c i (aB8.mpr hi)
  rw [e] at this
  dsimp only at this
  cases h7:N[i]? with
  | none=>rw [h7] at this;cases this
  | some x =>
   cases h8:X.N[j]? with
   | none=>rw [h7,h8] at this;cases this
   | some y =>
    rw [h7,h8] at this
    simp only [aG7] at this
    have g:x=y:=by simpa using this.1
    subst g
    exact ⟨x,rfl,rfl,by simpa using this.2⟩
section
variable {σ:St} {H:Hp} {D:Ends} {K:Frag}
def ForW (J:It) (g:TG) (tb:TS) (D:Ends) (σ:St) (H1:Hp):Prop:=∃ W:Nat->Nat->St->Hp->Prop,(∃ m,W 0 m σ H1)/\∀ i m σ H,W i m σ H ->
 (J.stop i H/\D.nx σ H)\/(J.go i H/\∃ N:St->Hp->Prop,(∀ σ' H',N σ' H'->∃ m',m' < m/\W (i+1) m' σ' H')/\∀ x H',J.yld i H x H'->g x σ H' fun σ2 H2=>tb { D with nx:=N,ct:=N,bk:=D.nx } σ2 H2)
theorem ax3 {b:TI} {g:TG} {a:TS} (h:b σ H fun J c=>ForW J g a D σ c):tFor b g a D σ H:=h
def LcW (J:It) (g:TG) (tif:TT) (te:TE) (σ0:St) (Q:VK) (H1:Hp):Prop:=∀ acc,H1 acc=none->∃ W:LW,(∃ m,W 0 m [] σ0 (upd H1 acc (.lst [])))/\afz J g tif te acc (fun _ H'=>Q (.ref acc) H') W
theorem azo {src:List (Option Nat)} {b:TI} {g:TG} {a:TT} {te:TE} {Q:VK} (h:b σ H fun J c=>LcW J g a te (pick src σ) Q c):tLC src b g a te σ H Q:=h
def aun (R:It->Hp->Prop):List V->Hp->Prop:=fun vs H1=>∃ j:Int,vs=[.int j]/\-(2 ^ 62)<=j/\j < 2 ^ 62/\R (Itr 0 j.toNat) H1
theorem asr {a:TA} {R:It->Hp->Prop} (h:a σ H (aun R)):ao0 a σ H R:=h
theorem anp {R:It->Hp->Prop} {j:Int} (b:0<=j) (a:j < 2 ^ 62) (h:R (Itr 0 j.toNat) H):aun R [.int j] H:=⟨j,rfl,by omega,a,h⟩
theorem ax4 {a:Addr} {xs:List V} {i:Int} {v:V} {Q:VK} (ha:SqL K H a xs) (b:atI xs i=some v) (h:Q v H):rIxL K (.ref a) (.int i) H Q:=⟨a,xs,i,v,rfl,rfl,ha,b,h⟩
theorem anq {a:Addr} {xs:List V} {Q:VK} (ha:SqL K H a xs) (h:Q (.int xs.length) H):rLen K [.ref a] H Q:=⟨a,xs,rfl,.inl ha,h⟩
theorem ax5 {a:Addr} {xs:List V} {R:Prop} (ha:H a=some (.lst xs)) (h:R):tyV K "list" (.ref a) H/\R:=⟨.inl ⟨rfl,_,SqL.of ha⟩,h⟩
theorem af0 {Q:Bool->Hp->Prop} (h:Q true H):tYes σ H Q:=h
theorem ass {a:Addr} {xs:List V} {i:Int} {k:Nat} {y:V} {Q:VK} (ha:H a=some (.lst xs)) (f : -(2 ^ 63)<=i) (d:i < 2 ^ 63) (b:seqIndex? i xs.length=some k) (c:xs[k]?=some y) (h:Q y (upd H a (.lst (xs.eraseIdx k)))):alc (.ref a) [.int i] H Q :=
 ⟨a,xs,i,k,y,rfl,rfl,ha,f,d,b,c,h⟩
end
end L2
namespace L2
open PySem
theorem ace:bootBuiltins "len" = some (.builtin "len"):=by decide +kernel
theorem adu:bootBuiltins "max" = some (.builtin "max"):=by decide +kernel
theorem ae7:bootBuiltins "min" = some (.builtin "min"):=by decide +kernel
theorem aq2:bootBuiltins "sum" = some (.builtin "sum"):=by decide +kernel
theorem aeq:bootBuiltins "sorted" = some (.builtin "sorted"):=by decide +kernel
theorem abu:bootBuiltins "isinstance" = some (.builtin "isinstance"):=by decide +kernel
theorem alm:bootBuiltins "all" = some (.builtin "all"):=by decide +kernel
theorem ax6:bootBuiltins "any" = some (.builtin "any"):=by decide +kernel
theorem aln:bootBuiltins "int" = some (.type "int"):=by decide +kernel
theorem adk:bootBuiltins "list" = some (.type "list"):=by decide +kernel
theorem anr:bootBuiltins "dict" = some (.type "dict"):=by decide +kernel
theorem ans:bootBuiltins "bool" = some (.type "bool"):=by decide +kernel
end L2
namespace TS
open PySem PyProof.Rows
def aiq:Bool->Keyed->Array Keyed->Nat->Nat->Nat->StateT SortSt Sem (Option Nat):=sortPriv% PySem.Builtin.gallop
def ast:Array Keyed->Array Keyed->StateT SortSt Sem (Array Keyed):=sortPriv% PySem.Builtin.mergeLo
def asu:Array Keyed->Array Keyed->StateT SortSt Sem (Array Keyed):=sortPriv% PySem.Builtin.mergeHi
def alo:Nat->StateT SortSt Sem Bool:=sortPriv% PySem.Builtin.mergeAt
def avg:Nat->Nat->StateT SortSt Sem (Option Nat):=sortPriv% PySem.Builtin.countRun
def asv:Nat->Nat->Nat->StateT SortSt Sem Bool:=sortPriv% PySem.Builtin.binarySort
def azp:StateT SortSt Sem Unit:=sortPriv% PySem.Builtin.sortRuns
structure Cmp (M:Model) (A:Around) (E:Value->Shared->Prop) (s:Shared) (κ:SortKind) (S:Keyed->Prop) (R:Keyed->Keyed->Bool):Prop where
 ask:∀ x y,S x->S y->∀ (Q:Option Bool->SortSt->Prop) (st:SortSt),kindOf st = κ->Q (some (R x y)) st->wpS M A E s (lt' x y) Q st
 asy:∀ x y,S x->S y->R x y=true->R y x=false
 tr:∀ x y z,S x->S y->S z->R y x=false->R z y=false->R z x=false
section
variable {M:Model} {A:Around} {E:Value->Shared->Prop} {s:Shared} {κ:SortKind} {S:Keyed->Prop} {R:Keyed->Keyed->Bool}
theorem aaw {arr:Array Keyed} {i:Nat} {x:Keyed} {Q:Keyed->SortSt->Prop} {st:SortSt} (a:arr[i]?=some x) (h:Q x st):wpS M A E s (elem' arr i) Q st:=by
 rw [elem'_eq,a]
 exact wpS_pure h
theorem adl {x:String} {Q:Unit->SortSt->Prop} {st:SortSt} (h:Q () st):wpS M A E s (liftM (PySem.rule x):StateT SortSt Sem Unit) Q st :=
 wpS_lift (wpAny_rule ⟨rfl,h⟩)
def bey (left:Bool) (key:Keyed) (arr:Array Keyed) (base i:Nat):StateT SortSt Sem (Option Bool):=do
 let x ← elem' arr (base+i)
 if left=true then lt' x key else do
  let r ← lt' key x
  pure (Option.map (fun b => !b) r)
theorem ajl {left:Bool} {p:Keyed} {arr:Array Keyed} {base n a:Nat} {B:Nat->Bool}
  (hb:∀ i,i < n->∀ (Q:Option Bool->SortSt->Prop) (st:SortSt),kindOf st = κ->Q (some (B i)) st->wpS M A E s (bey left p arr base i) Q st)
  (mono:∀ i j,i < j->j < n->B j=true->B i=true) (hh:a < n) {Q:Option Nat->SortSt->Prop} {st:SortSt} (x:kindOf st = κ)
  (h:∀ k,k<=n->(∀ i,i < k->B i=true)->(∀ i,k<=i->i < n->B i=false)->Q (some k) st):wpS M A E s (aiq left p arr base n a) Q st:=by
 have c:∀ i j,i < j->j < n->B i=false->B j=false:=fun i j y H hi=>by
  cases e:B j with
  | false=>rfl
  | true=>rw [mono i j y H e] at hi;cases hi
 -- the last loop
 have last:∀ (lo hi:Nat) (F:Option (Option Nat) × Nat × Nat->StateT SortSt Sem (Option Nat)),lo<=hi->hi<=n->(∀ i,i < lo->B i=true)->(∀ i,hi<=i->i < n->B i=false) ->
   (∀ lo hi,F (none,lo,hi)=pure (some hi)) ->
   wpS M A E s (forIn [:n] ((none,lo,hi):Option (Option Nat) × Nat × Nat) (fun (_:Nat) z=>if z.2.1 ≥ z.2.2 then pure (ForInStep.done (none,z.2.1,z.2.2)) else bey left p arr base (z.2.1+(z.2.2 - z.2.1) / 2) >>= fun r=>match r with
    | some more=>if more=true then pure (ForInStep.yield (none,z.2.1+(z.2.2 - z.2.1) / 2+1,z.2.2)) else pure (ForInStep.yield (none,z.2.1,z.2.1+(z.2.2 - z.2.1) / 2))
    | _=>pure (ForInStep.done (some none,z.2.1,z.2.2))) >>= F) Q st:=by
  intro lo hi F K J L I C
  refine wpS_bind (wpS_forRange (fun t z st'=>st'=st/\z.1=none/\z.2.1<=z.2.2/\z.2.2<=n/\z.2.2 - z.2.1+t<=n/\(∀ i,i < z.2.1->B i=true)/\(∀ i,z.2.2<=i->i < n->B i=false)) ?_ ?_ ⟨rfl,rfl,K,J,by dsimp only;omega,L,I⟩)
  ·rintro t ⟨o,l,u⟩ st' _ D ⟨rfl,e,q,d,b,g,w⟩
   dsimp only at e q d b g w ⊢
   subst e
   by_cases hlu:l ≥ u
   ·rw [aF1 hlu]
    have:l=u:=by omega
    subst this
    exact wpS_pure (by dsimp only;rw [C];exact wpS_pure (h l d g w))
   ·rw [aF2 hlu]
    have hm:l+(u - l) / 2 < u:=by omega
    refine wpS_bind (hb _ (by omega) _ _ x ?_)
    dsimp only
    cases e:B (l+(u - l) / 2) with
    | true =>
     rw [aF1 rfl]
     refine wpS_pure ⟨rfl,rfl,by dsimp only;omega,d,by dsimp only;omega,fun i hi=>?_,w⟩
     dsimp only at hi
     by_cases hi2:i=l+(u - l) / 2
     ·rw [hi2];exact e
     ·exact mono i _ (by omega) (by omega) e
    | false =>
     rw [aF2 (by simp)]
     refine wpS_pure ⟨rfl,rfl,by dsimp only;omega,by dsimp only;omega,by dsimp only;omega,g,fun i hi hn=>?_⟩
     dsimp only at hi
     by_cases hi2:i=l+(u - l) / 2
     ·rw [hi2];exact e
     ·exact c _ i (by omega) hn e
  ·rintro ⟨o,l,u⟩ st' ⟨rfl,e,q,d,b,g,w⟩
   dsimp only at e q d b g w ⊢
   subst e
   have : l = u := by have:n ≤ max 0 n := by omega
                      omega
   subst this
   rw [C]
   exact wpS_pure (h l d g w)
 refine wpS_bind (f:=fun G=>_) (m:=bey left p arr base a) (hb a hh _ st x ?_)
 dsimp only
 cases e0:B a with
 | true =>
  rw [aF1 rfl]
  refine wpS_bind ?_
  refine wpS_forRange (fun t (z:Option (Option Nat) × Nat × Nat) st'=>st'=st/\z.1=none/\z.2.1 < z.2.2/\a+z.2.1 < n/\B (a+z.2.1)=true/\t+1<=z.2.2) ?_ ?_ ⟨rfl,rfl,by decide,by dsimp only;omega,e0,Nat.le_refl _⟩
  ·rintro t ⟨o,l,u⟩ st' _ D ⟨rfl,e,q,d,b,g⟩
   dsimp only at e q d b g ⊢
   subst e
   by_cases hu:u ≥ n - a
   ·rw [aF1 hu]
    refine wpS_pure ?_
    dsimp only
    refine last _ _ _ (by omega) (by omega) (fun i hi=>?_) (fun i hi hn=>by omega) (fun _ _=>rfl)
    by_cases hi2:i=a+l
    ·rw [hi2];exact b
    ·exact mono i _ (by omega) d b
   ·rw [aF2 hu]
    refine wpS_bind (m:=bey left p arr base (a+u)) (hb _ (by omega) _ _ x ?_)
    dsimp only
    cases e1:B (a+u) with
    | true =>
     rw [aF2 (by decide)]
     exact wpS_pure ⟨rfl,rfl,by dsimp only;omega,by dsimp only;omega,e1,by dsimp only;omega⟩
    | false =>
     rw [aF1 (by decide)]
     refine wpS_pure ?_
     dsimp only
     refine last _ _ _ (by omega) (by omega) (fun i hi=>?_) (fun i hi hn=>?_) (fun _ _=>rfl)
     ·by_cases hi2:i=a+l
      ·rw [hi2];exact b
      ·exact mono i _ (by omega) d b
     ·by_cases hi2:i=a+u
      ·rw [hi2];exact e1
      ·exact c _ i (by omega) hn e1
  ·rintro ⟨o,l,u⟩ st' ⟨rfl,e,q,d,b,g⟩
   dsimp only at e q d b g ⊢
   subst e
   dsimp only
   refine last _ _ _ (by omega) (by omega) (fun i hi=>?_) (fun i hi hn=>by omega) (fun _ _=>rfl)
   by_cases hi2:i=a+l
   ·rw [hi2];exact b
   ·exact mono i _ (by omega) d b
 | false =>
  rw [aF2 (by decide)]
  refine wpS_bind ?_
  refine wpS_forRange (fun t (z:Option (Option Nat) × Nat × Nat) st'=>st'=st/\z.1=none/\z.2.1 < z.2.2/\z.2.1<=a/\B (a - z.2.1)=false/\t+1<=z.2.2) ?_ ?_ ⟨rfl,rfl,by decide,aF6 _,e0,aA6 _⟩
  ·rintro t ⟨o,l,u⟩ st' _ D ⟨rfl,e,q,d,b,g⟩
   dsimp only at e q d b g ⊢
   subst e
   have v:∀ i,a - l<=i->i < n->B i=false:=fun i hi hn=>by
    by_cases hi2:i=a - l
    ·rw [hi2];exact b
    ·exact c _ i (by omega) hn b
   by_cases hu:u ≥ a+1
   ·rw [aF1 hu]
    refine wpS_pure ?_
    dsimp only
    exact last _ _ _ (by omega) (by omega) (fun i hi=>by omega) v (fun _ _=>rfl)
   ·rw [aF2 hu]
    refine wpS_bind (m:=bey left p arr base (a - u)) (hb _ (by omega) _ _ x ?_)
    dsimp only
    cases e1:B (a - u) with
    | true =>
     rw [aF1 rfl]
     refine wpS_pure ?_
     dsimp only
     refine last _ _ _ (by omega) (by omega) (fun i hi=>?_) v (fun _ _=>rfl)
     by_cases hi2:i=a - u
     ·rw [hi2];exact e1
     ·exact mono i _ (by omega) (by omega) e1
    | false =>
     rw [aF2 (by decide)]
     exact wpS_pure ⟨rfl,rfl,by dsimp only;omega,by dsimp only;omega,e1,by dsimp only;omega⟩
  ·rintro ⟨o,l,u⟩ st' ⟨rfl,e,q,d,b,g⟩
   dsimp only at e q d b g ⊢
   subst e
   dsimp only
   refine last _ _ _ (by omega) (by omega) (fun i hi=>by omega) (fun i hi hn=>?_) (fun _ _=>rfl)
   by_cases hi2:i=a - l
   ·rw [hi2];exact b
   ·exact c _ i (by omega) hn b
end
def Srt (R:Keyed->Keyed->Bool) (l:List Keyed):Prop:=l.Pairwise fun x y=>R y x=false
structure Mid (R:Keyed->Keyed->Bool) (L out a b:List Keyed):Prop where
 perm:(out ++ a ++ b).Perm L
 so:Srt R out
 le:∀ x∈out,∀ y∈a ++ b,R y x=false
 sa:Srt R a
 sb:Srt R b
section
variable {R:Keyed->Keyed->Bool} {L out a b p:List Keyed}
theorem Mid.takeA (m:Mid R L out (p ++ a) b) (h:∀ x∈p,∀ y∈b,R y x=false):Mid R L (out ++ p) a b:=by
 have sp:=aC8.mp m.sa
 refine ⟨by have:=m.perm;rw [← aB3] at this;exact this,aC8.mpr ⟨m.so,sp.1,fun x d y c=>m.le x d y (aC6 _ (aC6 _ c))⟩,fun x d y c=>?_,sp.2.1,m.sb⟩
 rcases aA7.mp d with d | d
 ·refine m.le x d y ?_
  rcases aA7.mp c with c | c
  ·exact aC6 _ (aB2 _ c)
  ·exact aB2 _ c
 ·rcases aA7.mp c with c | c
  ·exact sp.2.2 x d y c
  ·exact h x d y c
theorem Mid.takeB (m:Mid R L out a (p ++ b)) (h:∀ x∈p,∀ y∈a,R y x=false):Mid R L (out ++ p) a b:=by
 have sp:=aC8.mp m.sb
 refine ⟨List.Perm.trans ?_ m.perm,aC8.mpr ⟨m.so,sp.1,fun x d y c=>m.le x d y (aB2 _ (aC6 _ c))⟩,fun x d y c=>?_,m.sa,sp.2.1⟩
 ·rw [← aB3 (out ++ a) p b]
  refine List.Perm.append_right b ?_
  rw [aB3,aB3]
  exact List.Perm.append_left out List.perm_append_comm
 ·rcases aA7.mp d with d | d
  ·refine m.le x d y ?_
   rcases aA7.mp c with c | c
   ·exact aC6 _ c
   ·exact aB2 _ (aB2 _ c)
  ·rcases aA7.mp c with c | c
   ·exact h x d y c
   ·exact sp.2.2 x d y c
theorem Mid.done (m:Mid R L out a b) (h:a=[]\/b=[]):(out ++ a ++ b).Perm L/\Srt R (out ++ a ++ b):=by
 refine ⟨m.perm,?_⟩
 rw [aB3]
 refine aC8.mpr ⟨m.so,?_,m.le⟩
 rcases h with h | h
 ·subst h;exact m.sb
 ·subst h;rw [aE6];exact m.sa
theorem Mid.last (m:Mid R L out a b) (h:∀ y∈b,∀ x∈a,R x y=false):(out ++ b ++ a).Perm L/\Srt R (out ++ b ++ a):=by
 refine ⟨List.Perm.trans ?_ m.perm,?_⟩
 ·rw [aB3,aB3]
  exact List.Perm.append_left out List.perm_append_comm
 ·rw [aB3]
  refine aC8.mpr ⟨m.so,aC8.mpr ⟨m.sb,m.sa,h⟩,fun x d y c=>m.le x d y ?_⟩
  rcases aA7.mp c with c | c
  ·exact aB2 _ c
  ·exact aC6 _ c
end
structure Eqv (st st':SortSt):Prop where
 k:kindOf st'=kindOf st
 a:arrOf st'=arrOf st
 p:pendingOf st'=pendingOf st
 f:failedOf st'=failedOf st
theorem Eqv.refl (st:SortSt):Eqv st st:=⟨rfl,rfl,rfl,rfl⟩
theorem Eqv.trans {a b c:SortSt} (h:Eqv a b) (g:Eqv b c):Eqv a c:=⟨g.k.trans h.k,g.a.trans h.a,g.p.trans h.p,g.f.trans h.f⟩
theorem agp (a:Array Keyed) (i:Nat):(a.extract i a.size).toList=a.toList.drop i:=by
 rw [Array.toList_extract];simp only [List.extract_eq_take_drop];exact aE7 (by simp)
theorem air (a:Array Keyed) (i k:Nat):(a.extract i (i+k)).toList=(a.toList.drop i).take k:=by
 rw [Array.toList_extract];simp [List.extract]
theorem abl {a:Array Keyed} {i:Nat} (h:i < a.size):a.toList.drop i=a[i] :: a.toList.drop (i+1):=by
 rw [List.drop_eq_getElem_cons (by simpa using h)];simp
section
variable {M:Model} {A:Around} {E:Value->Shared->Prop} {s:Shared} {κ:SortKind} {S:Keyed->Prop} {R:Keyed->Keyed->Bool}
theorem Cmp.irr {x:Keyed} (C:Cmp M A E s κ S R) (a:S x):R x x=false:=by
 cases e:R x x with
 | false=>rfl
 | true=>have:=C.asy x x a a e;rw [e] at this;cases this
theorem af1 (C:Cmp M A E s κ S R) {b:Keyed} {arr:Array Keyed} {base n l:Nat} (g:S b) (J:∀ x∈arr.toList,S x) (hn:base+n<=arr.size) (P:Srt R ((arr.toList.drop base).take n)) (hh:l < n)
  {Q:Option Nat->SortSt->Prop} {st:SortSt} (H:kindOf st = κ)
  (h:∀ k,k<=n->(∀ x∈(arr.toList.drop base).take k,R b x=false)->(∀ x∈((arr.toList.drop base).take n).drop k,R b x=true)->Q (some k) st) :
  wpS M A E s (aiq false b arr base n l) Q st:=by
 have a:∀ i,i < n->∃ x,arr[base+i]?=some x/\S x/\((arr.toList.drop base).take n)[i]?=some x:=fun i hi=>by
  have p:base+i < arr.size:=by omega
  refine ⟨arr[base+i],aA4 p,J _ (by simp),?_⟩
  rw [aH1 hi,aH9]
  simp [p]
 have m:∀ i j x y,i < j->j < n->arr[base+i]?=some x->arr[base+j]?=some y->R y x=false:=fun i j x y o r ex N=>by
  obtain ⟨Y,d,_,c⟩:=a i (by omega)
  obtain ⟨X,F,_,D⟩:=a j r
  rw [ex] at d;cases d
  rw [N] at F;cases F
  obtain ⟨W,c⟩:=aA1.mp c
  obtain ⟨I,D⟩:=aA1.mp D
  have:=aG3.mp P i j W I o
  rw [c,D] at this
  exact this
 refine ajl (κ:=κ) (B:=fun i=>match arr[base+i]? with | some x => !(R b x) | none=>false) (fun i hi Z st' z G=>?_) (fun i j o r q=>?_) hh H fun k u L K=>h k u (fun x w=>?_) fun x w=>?_
 ·obtain ⟨x,d,v,_⟩:=a i hi
  unfold bey
  refine wpS_bind (aaw d ?_)
  rw [aF2 (by decide)]
  refine wpS_bind (C.ask _ _ g v _ _ z ?_)
  refine wpS_pure ?_
  simp only [d] at G
  exact G
 ·obtain ⟨x,d,v,_⟩:=a i (by omega)
  obtain ⟨y,c,O,_⟩:=a j r
  simp only [d,c] at q ⊢
  have U:=m i j x y o r d c
  have T:R b y=false:=by simpa using q
  have:=C.tr x y b v O g U T
  simp [this]
 ·obtain ⟨i,hi,e⟩:=List.getElem_of_mem w
  have f:i < k:=by rw [aG6] at hi;omega
  obtain ⟨y,d,_,c⟩:=a i (by omega)
  have hb:=L i f
  simp only [d] at hb
  have ex:x=y:=by
   have:((arr.toList.drop base).take k)[i]?=some x:=by rw [aA0 hi,e]
   rw [aH1 f] at this
   rw [aH1 (by omega)] at c
   rw [this] at c;exact aC5 c
  subst ex
  simpa using hb
 ·obtain ⟨i,hi,e⟩:=List.getElem_of_mem w
  have f:k+i < n:=by rw [List.length_drop,aG6] at hi;omega
  obtain ⟨y,d,_,c⟩:=a (k+i) f
  have hb:=K (k+i) (by omega) f
  simp only [d] at hb
  have ex:x=y:=by
   have:(((arr.toList.drop base).take n).drop k)[i]?=some x:=by rw [aA0 hi,e]
   rw [aH9] at this
   rw [this] at c;exact aC5 c
  subst ex
  simpa using hb
theorem aha (C:Cmp M A E s κ S R) {b:Keyed} {arr:Array Keyed} {base n l:Nat} (g:S b) (J:∀ x∈arr.toList,S x) (hn:base+n<=arr.size) (P:Srt R ((arr.toList.drop base).take n)) (hh:l < n)
  {Q:Option Nat->SortSt->Prop} {st:SortSt} (H:kindOf st = κ)
  (h:∀ k,k<=n->(∀ x∈(arr.toList.drop base).take k,R x b=true)->(∀ x∈((arr.toList.drop base).take n).drop k,R x b=false)->Q (some k) st) :
  wpS M A E s (aiq true b arr base n l) Q st:=by
 have a:∀ i,i < n->∃ x,arr[base+i]?=some x/\S x/\((arr.toList.drop base).take n)[i]?=some x:=fun i hi=>by
  have q:base+i < arr.size:=by omega
  refine ⟨arr[base+i],aA4 q,J _ (by simp),?_⟩
  rw [aH1 hi,aH9]
  simp [q]
 have m:∀ i j x y,i < j->j < n->arr[base+i]?=some x->arr[base+j]?=some y->R y x=false:=fun i j x y o r ex N=>by
  obtain ⟨X,d,_,c⟩:=a i (by omega)
  obtain ⟨W,F,_,D⟩:=a j r
  rw [ex] at d;cases d
  rw [N] at F;cases F
  obtain ⟨U,c⟩:=aA1.mp c
  obtain ⟨I,D⟩:=aA1.mp D
  have:=aG3.mp P i j U I o
  rw [c,D] at this
  exact this
 refine ajl (κ:=κ) (B:=fun i=>match arr[base+i]? with | some x=>R x b | none=>false) (fun i hi Y st' z G=>?_) (fun i j o r p=>?_) hh H fun k u L K=>h k u (fun x w=>?_) fun x w=>?_
 ·obtain ⟨x,d,v,_⟩:=a i hi
  unfold bey
  refine wpS_bind (aaw d ?_)
  rw [aF1 rfl]
  simp only [d] at G
  exact C.ask _ _ v g _ _ z G
 ·obtain ⟨x,d,v,_⟩:=a i (by omega)
  obtain ⟨y,c,O,_⟩:=a j r
  simp only [d,c] at p ⊢
  have T:=m i j x y o r d c
  cases e:R x b with
  | true=>rfl
  | false =>
   have:=C.tr b x y g v O e T
   rw [this] at p;cases p
 ·obtain ⟨i,hi,e⟩:=List.getElem_of_mem w
  have f:i < k:=by rw [aG6] at hi;omega
  obtain ⟨y,d,_,c⟩:=a i (by omega)
  have hb:=L i f
  simp only [d] at hb
  have ex:x=y:=by
   have:((arr.toList.drop base).take k)[i]?=some x:=by rw [aA0 hi,e]
   rw [aH1 f] at this
   rw [aH1 (by omega)] at c
   rw [this] at c;exact aC5 c
  subst ex
  exact hb
 ·obtain ⟨i,hi,e⟩:=List.getElem_of_mem w
  have f:k+i < n:=by rw [List.length_drop,aG6] at hi;omega
  obtain ⟨y,d,_,c⟩:=a (k+i) f
  have hb:=K (k+i) (by omega) f
  simp only [d] at hb
  have ex:x=y:=by
   have:(((arr.toList.drop base).take n).drop k)[i]?=some x:=by rw [aA0 hi,e]
   rw [aH9] at this
   rw [this] at c;exact aC5 c
  subst ex
  exact hb
end
section
variable {M:Model} {A:Around} {E:Value->Shared->Prop} {s:Shared} {κ:SortKind} {S:Keyed->Prop} {R:Keyed->Keyed->Bool}
structure Two (S:Keyed->Prop) (R:Keyed->Keyed->Bool) (a b:Array Keyed):Prop where
 ha:∀ x∈a.toList,S x
 hb:∀ x∈b.toList,S x
 sa:Srt R a.toList
 sb:Srt R b.toList
 a0:0 < a.size
 b0:0 < b.size
 first:∀ x∈a.toList,∀ y,b[0]?=some y->R x y=false
 last:∀ y∈b.toList,∀ x,a[a.size - 1]?=some x->R x y=false
def Fin2 (R:Keyed->Keyed->Bool) (a b m:Array Keyed):Prop:=m.toList.Perm (a.toList ++ b.toList)/\Srt R m.toList
structure Lo (S:Keyed->Prop) (R:Keyed->Keyed->Bool) (a b out:Array Keyed) (ia ib:Nat):Prop where
 mid:Mid R (a.toList ++ b.toList) out.toList (a.toList.drop ia) (b.toList.drop ib)
 ia:ia<=a.size
 ib:ib<=b.size
theorem Lo.len {a b out:Array Keyed} {ia ib:Nat} (l:Lo S R a b out ia ib):out.size+(a.size - ia)+(b.size - ib)=a.size+b.size:=by
 have:=l.mid.perm.length_eq
 simp at this
 omega
theorem Lo.doneA {a b out:Array Keyed} {ia ib:Nat} (l:Lo S R a b out ia ib) (h:ib=b.size\/ia=a.size):Fin2 R a b (out ++ a.extract ia ++ b.extract ib):=by
 have:=l.mid.done (by
  rcases h with h | h
  ·right;rw [h];simp
  ·left;rw [h];simp)
 unfold Fin2
 rw [aG2,aG2,agp,agp]
 exact this
theorem aq3 {a:Array Keyed} {i:Nat} (h:i+1=a.size):a.toList.drop i=[a[a.size - 1]'(by omega)]:=by
 have hi:i < a.size:=by omega
 rw [abl hi]
 have:i=a.size - 1:=by omega
 subst this
 have e:a.toList.drop (a.size - 1+1)=[]:=by
  apply List.drop_eq_nil_of_le
  simp;omega
 rw [e]
theorem Lo.lastA {a b out:Array Keyed} {ia ib:Nat} (T:Two S R a b) (l:Lo S R a b out ia ib) (h:ia+1=a.size):Fin2 R a b (out ++ b.extract ib ++ a.extract ia):=by
 have:=l.mid.last (by
  intro y d x c
  rw [aq3 h] at c
  have ex:x=a[a.size - 1]'(by omega):=by simpa using c
  refine T.last y (aC3 d) x ?_
  rw [ex]
  exact aA4 _)
 unfold Fin2
 rw [aG2,aG2,agp,agp]
 exact this
theorem aed {x:Keyed} {l:List Keyed} (C:Cmp M A E s κ S R) (h:Srt R (x :: l)) (b:S x):∀ y∈x :: l,R y x=false:=by
 intro y a
 rcases aA8.mp a with e | a
 ·rw [e];exact C.irr b
 ·exact (List.pairwise_cons.mp h).1 y a
theorem Lo.pushB {a b out:Array Keyed} {ia ib:Nat} (C:Cmp M A E s κ S R) (T:Two S R a b) (l:Lo S R a b out ia ib) (hb:ib < b.size) (h:∀ x∈a.toList.drop ia,R x b[ib]=false):Lo S R a b (out.push b[ib]) ia (ib+1):=by
 refine ⟨?_,l.ia,hb⟩
 have m:=l.mid
 rw [abl hb] at m
 rw [Array.toList_push]
 exact m.takeB (p:=[b[ib]]) (fun x c y d=>by
  have:x=b[ib]:=by simpa using c
  rw [this];exact h y d)
theorem Lo.pushA {a b out:Array Keyed} {ia ib:Nat} (l:Lo S R a b out ia ib) (ha:ia < a.size) (h:∀ y∈b.toList.drop ib,R y a[ia]=false):Lo S R a b (out.push a[ia]) (ia+1) ib:=by
 refine ⟨?_,ha,l.ib⟩
 have m:=l.mid
 rw [abl ha] at m
 rw [Array.toList_push]
 exact m.takeA (p:=[a[ia]]) (fun x c y d=>by
  have:x=a[ia]:=by simpa using c
  rw [this];exact h y d)
theorem Lo.runA {a b out:Array Keyed} {ia ib k:Nat} (l:Lo S R a b out ia ib) (d:ia+k<=a.size) (h:∀ x∈(a.toList.drop ia).take k,∀ y∈b.toList.drop ib,R y x=false):Lo S R a b (out ++ a.extract ia (ia+k)) (ia+k) ib:=by
 refine ⟨?_,d,l.ib⟩
 have m:=l.mid
 rw [← aC0 k (a.toList.drop ia)] at m
 rw [aG2,air]
 have c:=m.takeA h
 rw [List.drop_drop] at c
 exact c
theorem Lo.runB {a b out:Array Keyed} {ia ib k:Nat} (l:Lo S R a b out ia ib) (d:ib+k<=b.size) (h:∀ x∈(b.toList.drop ib).take k,∀ y∈a.toList.drop ia,R y x=false):Lo S R a b (out ++ b.extract ib (ib+k)) ia (ib+k):=by
 refine ⟨?_,l.ia,d⟩
 have m:=l.mid
 rw [← aC0 k (b.toList.drop ib)] at m
 rw [aG2,air]
 have c:=m.takeB h
 rw [List.drop_drop] at c
 exact c
theorem ack {l:List Keyed} {i:Nat} (h:Srt R l):Srt R (l.drop i):=List.Pairwise.sublist (List.drop_sublist i l) h
theorem jpn {α β:Type} {prog : β->StateT SortSt Sem α} {P : β->Prop} {Q : α->SortSt->Prop} {st:SortSt} {G:Prop} (use:(∀ m,P m->wpS M A E s (prog m) Q st)->G) (a:∀ m,P m->wpS M A E s (prog m) Q st):G:=use a
theorem jpn2 {α:Type} {prog:Array Keyed->Nat->StateT SortSt Sem α} {P:Array Keyed->Nat->Prop} {Q : α->SortSt->Prop} {st:SortSt} {G:Prop} (use:(∀ o i,P o i->wpS M A E s (prog o i) Q st)->G) (a:∀ o i,P o i->wpS M A E s (prog o i) Q st):G:=use a
section
variable {ρ β γ δ ε ζ η:Type}
@[elab_as_elim] theorem un5 {J : β->γ->δ->ε->Prop} {G:Option ρ × β × γ × δ × ε->Prop} (z:Option ρ × β × γ × δ × ε) (h:z.1=none/\J z.2.1 z.2.2.1 z.2.2.2.1 z.2.2.2.2) (k:∀ x y u v,J x y u v->G (none,x,y,u,v)):G z:=by
 have e:z=(none,z.2.1,z.2.2.1,z.2.2.2.1,z.2.2.2.2):=by rw [← h.1]
 rw [e];exact k _ _ _ _ h.2
@[elab_as_elim] theorem un6 {J : β->γ->δ->ε->ζ->Prop} {G:Option ρ × β × γ × δ × ε × ζ->Prop} (z:Option ρ × β × γ × δ × ε × ζ) (h:z.1=none/\J z.2.1 z.2.2.1 z.2.2.2.1 z.2.2.2.2.1 z.2.2.2.2.2) (k:∀ x y u v a,J x y u v a->G (none,x,y,u,v,a)):G z:=by
 have e:z=(none,z.2.1,z.2.2.1,z.2.2.2.1,z.2.2.2.2.1,z.2.2.2.2.2):=by rw [← h.1]
 rw [e];exact k _ _ _ _ _ h.2
@[elab_as_elim] theorem un7 {J : β->γ->δ->ε->ζ->η->Prop} {G:Option ρ × β × γ × δ × ε × ζ × η->Prop} (z:Option ρ × β × γ × δ × ε × ζ × η) (h:z.1=none/\J z.2.1 z.2.2.1 z.2.2.2.1 z.2.2.2.2.1 z.2.2.2.2.2.1 z.2.2.2.2.2.2) (k:∀ x y u v a b,J x y u v a b->G (none,x,y,u,v,a,b)):G z:=by
 have e:z=(none,z.2.1,z.2.2.1,z.2.2.2.1,z.2.2.2.2.1,z.2.2.2.2.2.1,z.2.2.2.2.2.2):=by rw [← h.1]
 rw [e];exact k _ _ _ _ _ _ h.2
@[elab_as_elim] theorem unR {κ:Type} {F : ρ->Prop} {J : κ->Prop} {G:Option ρ × κ->Prop} (z:Option ρ × κ) (h:(∃ r,z.1=some r/\F r)\/(z.1=none/\J z.2)) (b:∀ r x,F r->G (some r,x)) (c:z.1=none/\J z.2->G z):G z:=by
 rcases h with ⟨r,e,a⟩ | h
 ·have e:z=(some r,z.2):=by rw [← e]
  rw [e];exact b _ _ a
 ·exact c h
end
theorem aan {c:Prop} [Decidable c] {α:Type} {a b:StateT SortSt Sem α} {Q : α->SortSt->Prop} {st:SortSt} (f:c->wpS M A E s a Q st) (d:¬ c->wpS M A E s b Q st):wpS M A E s (if c then a else b) Q st:=by
 by_cases h:c
 ·rw [aF1 h];exact f h
 ·rw [aF2 h];exact d h
theorem apa (C:Cmp M A E s κ S R) {a b:Array Keyed} (T:Two S R a b) {Q:Array Keyed->SortSt->Prop} {st:SortSt} (hk:kindOf st = κ)
  (h:∀ m st',Eqv st st'->Fin2 R a b m->Q m st'):wpS M A E s (ast a b) Q st:=by
 have L:∀ i (h:i < a.size),S a[i]:=fun i h=>T.ha _ (by simp)
 have O:∀ i (h:i < b.size),S b[i]:=fun i h=>T.hb _ (by simp)
 have b0:=T.b0
 have a0:=T.a0
 refine wpS_bind (adl ?_)
 refine wpS_bind (aaw (x:=b[0]'b0) (aA4 b0) ?_)
 have l1:Lo S R a b #[b[0]'b0] 0 1:=by
  have l0:Lo S R a b #[] 0 0:=⟨⟨by simp,List.Pairwise.nil,fun x w=>by simp at w,T.sa,T.sb⟩,aF6 _,aF6 _⟩
  exact l0.pushB C T b0 fun x w=>T.first x (by simpa using w) _ (aA4 b0)
 refine aan (fun e1=>wpS_pure (h _ _ (Eqv.refl _) (l1.doneA (.inl (aF9.mp e1))))) (fun e1=>?_)
 refine aan (fun e2=>wpS_pure (h _ _ (Eqv.refl _) (l1.lastA T (aF9.mp e2)))) (fun e2=>?_)
 replace e1:1 ≠ b.size:=fun q=>e1 (aF9.mpr q)
 replace e2:0+1 ≠ a.size:=fun q=>e2 (aF9.mpr q)
 refine wpS_bind (wpS_get ?_)
 refine wpS_bind (wpS_mono (Q:=fun (z:Option (Array Keyed) × Array Keyed × Nat × Nat × Nat) st'=>Eqv st st'/\∃ r,z.1=some r/\Fin2 R a b r) ?_ ?_)
 ·refine wpS_forRange (fun t (z:Option (Array Keyed) × Array Keyed × Nat × Nat × Nat) st'=>Eqv st st'/\z.1=none/\Lo S R a b z.2.1 z.2.2.1 z.2.2.2.1/\z.2.2.1+1 < a.size/\z.2.2.2.1 < b.size/\t+1<=z.2.1.size) ?_ ?_ ⟨Eqv.refl _,rfl,l1,by dsimp only;omega,by dsimp only;omega,by simp⟩
  ·intro t z b1 _ ht n
   have q1:=n.1
   refine un5 (J:=fun out ia ib _=>Lo S R a b out ia ib/\ia+1 < a.size/\ib < b.size/\t+1<=out.size) z n.2 fun out ia ib mg v=>?_
   dsimp only
   refine wpS_bind (wpS_mono (Q:=fun (z:Option (Array Keyed) × Array Keyed × Nat × Nat × Nat × Nat) st'=>Eqv st st'/\((∃ r,z.1=some r/\Fin2 R a b r)\/(z.1=none/\Lo S R a b z.2.1 z.2.2.1 z.2.2.2.1/\z.2.2.1+1 < a.size/\z.2.2.2.1 < b.size/\t+2<=z.2.1.size))) ?_ ?_)
   ·refine wpS_forRange (fun i (z:Option (Array Keyed) × Array Keyed × Nat × Nat × Nat × Nat) st'=>Eqv st st'/\z.1=none/\Lo S R a b z.2.1 z.2.2.1 z.2.2.2.1/\z.2.2.1+1 < a.size/\z.2.2.2.1 < b.size/\t+1+min i 1<=z.2.1.size) ?_ ?_ ⟨q1,rfl,v.1,v.2.1,v.2.2.1,v.2.2.2⟩
    ·intro i z o _ hi n
     have q:=n.1
     refine un6 (J:=fun out ia ib _ _=>Lo S R a b out ia ib/\ia+1 < a.size/\ib < b.size/\t+1+min i 1<=out.size) z n.2 fun out ia ib ac bc v=>?_
     have l:=v.1
     have H:=v.2.1
     have d:=v.2.2.1
     have hsz:=v.2.2.2
     have g:ia < a.size:=Nat.lt_of_succ_lt H
     refine wpS_bind (aaw (x:=b[ib]) (aA4 d) ?_)
     refine wpS_bind (aaw (x:=a[ia]) (aA4 g) ?_)
     refine wpS_bind (C.ask _ _ (O ib d) (L ia g) _ _ (q.k.trans hk) ?_)
     dsimp only
     refine aan (fun er=>?_) (fun er=>?_)
     ·refine wpS_bind (aaw (x:=b[ib]) (aA4 d) ?_)
      have F:Lo S R a b (out.push b[ib]) ia (ib+1):=l.pushB C T d fun x w=>by
       rw [abl g] at w
       have hd:Srt R (a[ia] :: a.toList.drop (ia+1)):=by rw [← abl g];exact ack T.sa
       have sx:S x:=T.ha x (aC3 (i:=ia) (by rw [abl g];exact w))
       exact C.tr _ _ _ (O ib d) (L ia g) sx (C.asy _ _ (O ib d) (L ia g) er) (aed C hd (L ia g) x w)
      refine aan (fun D=>wpS_pure ⟨q,.inl ⟨_,rfl,F.doneA (.inl (aF9.mp D))⟩⟩) (fun D=>?_)
      have hf:ib+1 < b.size/\t+2<=(out.push b[ib]).size:=by
       have a2:ib+1 ≠ b.size:=fun q=>D (aF9.mpr q)
       rw [aH5];omega
      refine aan (fun _=>wpS_pure ⟨q,.inr ⟨rfl,F,H,hf⟩⟩) (fun _=>wpS_pure ⟨q,rfl,F,H,hf.1,aC9 (by omega) hf.2⟩)
     ·refine wpS_bind (aaw (x:=a[ia]) (aA4 g) ?_)
      have F:Lo S R a b (out.push a[ia]) (ia+1) ib:=l.pushA g fun y G=>by
       rw [abl d] at G
       have hd:Srt R (b[ib] :: b.toList.drop (ib+1)):=by rw [← abl d];exact ack T.sb
       have Y:S y:=T.hb y (aC3 (i:=ib) (by rw [abl d];exact G))
       exact C.tr _ _ _ (L ia g) (O ib d) Y (eq_false_of_ne_true er) (aed C hd (O ib d) y G)
      refine aan (fun D=>wpS_pure ⟨q,.inl ⟨_,rfl,F.lastA T (aF9.mp D)⟩⟩) (fun D=>?_)
      have hf:ia+1+1 < a.size/\ib < b.size/\t+2<=(out.push a[ia]).size:=by
       have a2:ia+1+1 ≠ a.size:=fun q=>D (aF9.mpr q)
       rw [aH5];omega
      refine aan (fun _=>wpS_pure ⟨q,.inr ⟨rfl,F,hf⟩⟩) (fun _=>wpS_pure ⟨q,rfl,F,hf.1,d,aC9 (by omega) hf.2.2⟩)
    ·exact fun z o n=>⟨n.1,.inr ⟨n.2.1,n.2.2.1,n.2.2.2.1,n.2.2.2.2.1,aC9 (by omega) n.2.2.2.2.2⟩⟩
   ·intro z o n
    have X:=n.1
    refine unR (J:=fun y:Array Keyed × Nat × Nat × Nat × Nat=>Lo S R a b y.1 y.2.1 y.2.2.1/\y.2.1+1 < a.size/\y.2.2.1 < b.size/\t+2<=y.1.size) z n.2 (fun r x hr=>wpS_pure ⟨X,r,rfl,hr⟩) fun Z=>?_
    refine un6 (J:=fun out ia ib _ _=>Lo S R a b out ia ib/\ia+1 < a.size/\ib < b.size/\t+2<=out.size) z Z fun out ia ib ac bc v=>?_
    dsimp only
    refine wpS_bind (adl ?_)
    refine wpS_bind (wpS_mono (Q:=fun (z:Option (Array Keyed) × Array Keyed × Nat × Nat × Nat × Nat × Nat) st'=>Eqv st st'/\((∃ r,z.1=some r/\Fin2 R a b r)\/(z.1=none/\Lo S R a b z.2.1 z.2.2.1 z.2.2.2.1/\z.2.2.1+1 < a.size/\z.2.2.2.1 < b.size/\t+2<=z.2.1.size))) ?_ ?_)
    ·refine wpS_forRange (fun i (z:Option (Array Keyed) × Array Keyed × Nat × Nat × Nat × Nat × Nat) st'=>Eqv st st'/\z.1=none/\Lo S R a b z.2.1 z.2.2.1 z.2.2.2.1/\z.2.2.1+1 < a.size/\z.2.2.2.1 < b.size/\t+2<=z.2.1.size) ?_ (fun z o n=>⟨n.1,.inr n.2⟩) ⟨X,rfl,v⟩
     intro i z o _ hi n
     have q:=n.1
     refine un7 (J:=fun out ia ib _ _ _=>Lo S R a b out ia ib/\ia+1 < a.size/\ib < b.size/\t+2<=out.size) z n.2 fun out ia ib mg ac bc v=>?_
     have l:=v.1
     have H:=v.2.1
     have d:=v.2.2.1
     have hsz:=v.2.2.2
     dsimp only
     refine' jpn (M:=M) (A:=A) (E:=E) (s:=s) (st:=o) (β:=Nat) (P:=fun _=>True) (prog:=?prog) (fun U=>?use) (fun a8 _=>?pf)
     case use =>
      refine aan (fun hm=>?_) (fun hm=>?_)
      ·generalize mg - 1=m
       exact U m trivial
      ·exact U mg trivial
     refine wpS_bind (wpS_mono (Q:=fun _ N=>Eqv o N) (wpS_modify ⟨rfl,rfl,rfl,rfl⟩) fun _ N K=>?_)
     replace K:=q.trans K
     refine wpS_bind (aaw (x:=b[ib]) (aA4 d) ?_)
     refine wpS_bind (af1 C (O ib d) T.ha (by omega) (by rw [aE7 (by simp)];exact ack T.sa) (by omega) (K.k.trans hk) fun k a6 h1 h2=>?_)
     rw [aE7 (by simp),List.drop_drop] at h2
     dsimp only
     refine' jpn2 (M:=M) (A:=A) (E:=E) (s:=s) (st:=N) (P:=fun j c=>Lo S R a b j c ib/\c+1 < a.size/\(∀ x∈a.toList.drop c,R x b[ib]=false)/\t+2<=j.size) (prog:=?prog2) (fun U=>?use2) (fun j c h5=>?pf2)
     case use2 =>
      have u:∀ x∈a.toList.drop (ia+k),R x b[ib]=false:=fun x w=>C.asy _ _ (O ib d) (T.ha x (aC3 w)) (h2 x w)
      refine aan (fun k0=>?_) (fun k0=>?_)
      ·have F:Lo S R a b (out ++ a.extract ia (ia+k)) (ia+k) ib:=l.runA (by omega) fun x w y G=>by
        rw [abl d] at G
        have hd:Srt R (b[ib] :: b.toList.drop (ib+1)):=by rw [← abl d];exact ack T.sb
        have Y:S y:=T.hb y (aC3 (i:=ib) (by rw [abl d];exact G))
        exact C.tr _ _ _ (T.ha x (aC3 (aB9 w))) (O ib d) Y (h1 x w) (aed C hd (O ib d) y G)
       refine aan (fun D=>wpS_pure ⟨K,.inl ⟨_,rfl,F.lastA T (aF9.mp D)⟩⟩) (fun D=>?_)
       refine aan (fun e4=>wpS_pure ⟨K,.inl ⟨_,rfl,F.doneA (.inr (aF9.mp e4))⟩⟩) (fun e4=>?_)
       have W:Lo S R a b (out ++ a.extract ia (ia+k)) (ia+k) ib/\ia+k+1 < a.size/\(∀ x∈a.toList.drop (ia+k),R x b[ib]=false)/\t+2<=(out ++ a.extract ia (ia+k)).size:=by
        have a2:ia+k+1 ≠ a.size:=fun q=>D (aF9.mpr q)
        have a7:ia+k ≠ a.size:=fun q=>e4 (aF9.mpr q)
        exact ⟨F,by omega,u,by rw [Array.size_append];omega⟩
       revert W
       clear D e4 F u
       generalize out ++ a.extract ia (ia+k)=j
       generalize ia+k=c
       intro W
       exact U j c W
      ·have:k=0:=by omega
       rw [this] at u
       exact U out ia ⟨l,H,u,hsz⟩
     have l3:=h5.1
     have a1:=h5.2.1
     have a3:=h5.2.2.1
     have a4:=h5.2.2.2
     have f:c < a.size:=Nat.lt_of_succ_lt a1
     refine wpS_bind (aaw (x:=b[ib]) (aA4 d) ?_)
     have l4:=l3.pushB C T d a3
     refine aan (fun e5=>wpS_pure ⟨K,.inl ⟨_,rfl,l4.doneA (.inl (aF9.mp e5))⟩⟩) (fun e5=>?_)
     replace e5:ib+1 ≠ b.size:=fun q=>e5 (aF9.mpr q)
     refine wpS_bind (aaw (x:=a[c]) (aA4 f) ?_)
     refine wpS_bind (aha C (L c f) T.hb (by omega) (by rw [aE7 (by simp)];exact ack T.sb) (by omega) (K.k.trans hk) fun I a9 h3 h4=>?_)
     rw [aE7 (by simp),List.drop_drop] at h4
     dsimp only
     refine' jpn2 (M:=M) (A:=A) (E:=E) (s:=s) (st:=N) (P:=fun p B=>Lo S R a b p c B/\B < b.size/\(∀ y∈b.toList.drop B,R y a[c]=false)/\t+2<=p.size) (prog:=?prog3) (fun U=>?use3) (fun p B h6=>?pf3)
     case use3 =>
      refine aan (fun k0=>?_) (fun k0=>?_)
      ·have hd:Srt R (a[c] :: a.toList.drop (c+1)):=by rw [← abl f];exact ack T.sa
       have l5:Lo S R a b (j.push b[ib] ++ b.extract (ib+1) (ib+1+I)) c (ib+1+I):=l4.runB (by omega) fun x w y G=>by
        rw [abl f] at G
        have Y:S y:=T.ha y (aC3 (i:=c) (by rw [abl f];exact G))
        have sx:S x:=T.hb x (aC3 (aB9 w))
        exact C.tr _ _ _ sx (L c f) Y (C.asy _ _ sx (L c f) (h3 x w)) (aed C hd (L c f) y G)
       refine aan (fun e6=>wpS_pure ⟨K,.inl ⟨_,rfl,l5.doneA (.inl (aF9.mp e6))⟩⟩) (fun e6=>?_)
       have W:Lo S R a b (j.push b[ib] ++ b.extract (ib+1) (ib+1+I)) c (ib+1+I)/\ib+1+I < b.size/\(∀ y∈b.toList.drop (ib+1+I),R y a[c]=false)/\t+2<=(j.push b[ib] ++ b.extract (ib+1) (ib+1+I)).size:=by
        have a5:ib+1+I ≠ b.size:=fun q=>e6 (aF9.mpr q)
        exact ⟨l5,by omega,h4,by rw [Array.size_append,aH5];omega⟩
       revert W
       clear e6 l5 hd
       generalize j.push b[ib] ++ b.extract (ib+1) (ib+1+I)=p
       generalize ib+1+I=B
       intro W
       exact U p B W
      ·have:I=0:=by omega
       rw [this] at h4
       exact U (j.push b[ib]) (ib+1) ⟨l4,by omega,h4,by rw [aH5];omega⟩
     refine wpS_bind (aaw (x:=a[c]) (aA4 f) ?_)
     have l7:=h6.1.pushA f h6.2.2.1
     refine aan (fun e7=>wpS_pure ⟨K,.inl ⟨_,rfl,l7.lastA T (aF9.mp e7)⟩⟩) (fun e7=>?_)
     have hf:c+1+1 < a.size/\B < b.size/\t+2<=(p.push a[c]).size:=by
      have b2:c+1+1 ≠ a.size:=fun q=>e7 (aF9.mpr q)
      have h7:=h6.2.2.2
      exact ⟨by omega,h6.2.1,by rw [aH5];omega⟩
     exact aan (fun _=>wpS_pure ⟨K,.inr ⟨rfl,l7,hf⟩⟩) (fun _=>wpS_pure ⟨K,rfl,l7,hf⟩)
    ·intro z o n
     have X:=n.1
     refine unR (J:=fun y:Array Keyed × Nat × Nat × Nat × Nat × Nat=>Lo S R a b y.1 y.2.1 y.2.2.1/\y.2.1+1 < a.size/\y.2.2.1 < b.size/\t+2<=y.1.size) z n.2 (fun r x hr=>wpS_pure ⟨X,r,rfl,hr⟩) fun Z=>?_
     refine un7 (J:=fun out ia ib _ _ _=>Lo S R a b out ia ib/\ia+1 < a.size/\ib < b.size/\t+2<=out.size) z Z fun out ia ib mg ac bc v=>?_
     dsimp only
     refine wpS_bind (wpS_modify ?_)
     exact wpS_pure ⟨X.trans ⟨rfl,rfl,rfl,rfl⟩,rfl,v⟩
  ·intro z o n
   exfalso
   have h1:=n.2.2.1.len
   have h2:=n.2.2.2
   have:a.size+b.size<=max 0 (a.size+b.size):=by omega
   omega
 ·intro z o n
  have X:=n.1
  exact unR (J:=fun _=>False) z (.inl n.2) (fun r x hr=>wpS_pure (h r o X hr)) fun Z=>Z.2.elim
end
structure MidH (R:Keyed->Keyed->Bool) (L a b tl:List Keyed):Prop where
 perm:(a ++ b ++ tl).Perm L
 so:Srt R tl
 le:∀ x∈a ++ b,∀ y∈tl,R y x=false
 sa:Srt R a
 sb:Srt R b
section
variable {R:Keyed->Keyed->Bool} {L tl a b p:List Keyed}
theorem MidH.takeA (m:MidH R L (a ++ p) b tl) (h:∀ x∈b,∀ y∈p,R y x=false):MidH R L a b (p ++ tl):=by
 have sp:=aC8.mp m.sa
 refine ⟨List.Perm.trans ?_ m.perm,aC8.mpr ⟨sp.2.1,m.so,fun x c y d=>m.le x (aC6 _ (aB2 _ c)) y d⟩,fun x c y d=>?_,sp.1,m.sb⟩
 ·rw [← aB3,aB3 a p b,aB3 a b p]
  exact List.Perm.append_right tl (List.Perm.append_left a List.perm_append_comm)
 ·rcases aA7.mp d with d | d
  ·rcases aA7.mp c with c | c
   ·exact sp.2.2 x c y d
   ·exact h x c y d
  ·refine m.le x ?_ y d
   rcases aA7.mp c with c | c
   ·exact aC6 _ (aC6 _ c)
   ·exact aB2 _ c
theorem MidH.takeB (m:MidH R L a (b ++ p) tl) (h:∀ x∈a,∀ y∈p,R y x=false):MidH R L a b (p ++ tl):=by
 have sp:=aC8.mp m.sb
 refine ⟨by have:=m.perm;simp only [aB3] at this ⊢;exact this,aC8.mpr ⟨sp.2.1,m.so,fun x c y d=>m.le x (aB2 _ (aB2 _ c)) y d⟩,fun x c y d=>?_,m.sa,sp.1⟩
 rcases aA7.mp d with d | d
 ·rcases aA7.mp c with c | c
  ·exact h x c y d
  ·exact sp.2.2 x c y d
 ·refine m.le x ?_ y d
  rcases aA7.mp c with c | c
  ·exact aC6 _ c
  ·exact aB2 _ (aC6 _ c)
theorem MidH.done (m:MidH R L a b tl) (h:a=[]\/b=[]):(a ++ b ++ tl).Perm L/\Srt R (a ++ b ++ tl):=by
 refine ⟨m.perm,aC8.mpr ⟨?_,m.so,m.le⟩⟩
 rcases h with h | h
 ·subst h;exact m.sb
 ·subst h;rw [aE6];exact m.sa
theorem MidH.first (m:MidH R L a b tl) (h:∀ y∈b,∀ x∈a,R x y=false):(b ++ a ++ tl).Perm L/\Srt R (b ++ a ++ tl):=by
 refine ⟨List.Perm.trans (List.Perm.append_right tl List.perm_append_comm) m.perm,aC8.mpr ⟨aC8.mpr ⟨m.sb,m.sa,h⟩,m.so,fun x c y d=>m.le x ?_ y d⟩⟩
 rcases aA7.mp c with c | c
 ·exact aB2 _ c
 ·exact aC6 _ c
end
theorem ab8 {a:Array Keyed} {i:Nat} (c:0 < i) (h:i<=a.size):a.toList.take i=a.toList.take (i - 1) ++ [a[i - 1]'(by omega)]:=by
 obtain ⟨j,rfl⟩:∃ j,i=j+1:=⟨i - 1,by omega⟩
 rw [List.take_succ]
 have b:j < a.size:=by omega
 simp [b]
theorem akr (a:Array Keyed) (k:Nat):(a.extract 0 k).toList=a.toList.take k:=by
 rw [Array.toList_extract];simp [List.extract]
theorem alp (a:Array Keyed) (k n:Nat):(a.extract k n).toList=(a.toList.take n).drop k:=by
 rw [Array.toList_extract];simp [List.extract,List.drop_take]
section
variable {M:Model} {A:Around} {E:Value->Shared->Prop} {s:Shared} {κ:SortKind} {S:Keyed->Prop} {R:Keyed->Keyed->Bool}
structure Hi (S:Keyed->Prop) (R:Keyed->Keyed->Bool) (a b out:Array Keyed) (na nb:Nat):Prop where
 mid:MidH R (a.toList ++ b.toList) (a.toList.take na) (b.toList.take nb) out.toList.reverse
 na:na<=a.size
 nb:nb<=b.size
theorem Hi.len {a b out:Array Keyed} {na nb:Nat} (l:Hi S R a b out na nb):out.size+na+nb=a.size+b.size:=by
 have:=l.mid.perm.length_eq
 have d:=l.na
 have c:=l.nb
 simp at this
 omega
theorem Hi.doneA {a b out:Array Keyed} {na nb:Nat} (l:Hi S R a b out na nb) (h:na=0\/nb=0):Fin2 R a b (a.extract 0 na ++ b.extract 0 nb ++ out.reverse):=by
 have:=l.mid.done (by
  rcases h with h | h
  ·left;rw [h];simp
  ·right;rw [h];simp)
 unfold Fin2
 rw [aG2,aG2,akr,akr,Array.toList_reverse]
 exact this
theorem Hi.firstB {a b out:Array Keyed} {na nb:Nat} (T:Two S R a b) (l:Hi S R a b out na nb) (h:nb=1):Fin2 R a b (b.extract 0 nb ++ a.extract 0 na ++ out.reverse):=by
 subst h
 have:=l.mid.first (by
  intro y c x d
  rw [ab8 (by decide) l.nb] at c
  have f:y=b[0]'T.b0:=by simpa using c
  exact T.first x (aB9 d) y (by rw [f];exact aA4 _))
 unfold Fin2
 rw [aG2,aG2,akr,akr,Array.toList_reverse]
 exact this
theorem ab3 {l:List Keyed} {i:Nat} (h:Srt R l):Srt R (l.take i):=List.Pairwise.sublist (List.take_sublist i l) h
theorem adv {x:Keyed} {l:List Keyed} (C:Cmp M A E s κ S R) (h:Srt R (l ++ [x])) (b:S x):∀ y∈l ++ [x],R x y=false:=by
 intro y a
 rcases aA7.mp a with a | a
 ·exact (aC8.mp h).2.2 y a x (by simp)
 ·have:y=x:=by simpa using a
  rw [this];exact C.irr b
theorem Hi.pushA {a b out:Array Keyed} {na nb:Nat} (l:Hi S R a b out na nb) (c:0 < na) (h:∀ x∈b.toList.take nb,R (a[na - 1]'(by have:=l.na;omega)) x=false):Hi S R a b (out.push (a[na - 1]'(by have:=l.na;omega))) (na - 1) nb:=by
 refine ⟨?_,by have:=l.na;omega,l.nb⟩
 have m:=l.mid
 rw [ab8 c l.na] at m
 rw [Array.toList_push,List.reverse_append]
 exact m.takeA (p:=[_]) (fun x d y f=>by
  rw [aC1.mp f];exact h x d)
theorem Hi.pushB {a b out:Array Keyed} {na nb:Nat} (l:Hi S R a b out na nb) (c:0 < nb) (h:∀ x∈a.toList.take na,R (b[nb - 1]'(by have:=l.nb;omega)) x=false):Hi S R a b (out.push (b[nb - 1]'(by have:=l.nb;omega))) na (nb - 1):=by
 refine ⟨?_,l.na,by have:=l.nb;omega⟩
 have m:=l.mid
 rw [ab8 c l.nb] at m
 rw [Array.toList_push,List.reverse_append]
 exact m.takeB (p:=[_]) (fun x d y f=>by
  rw [aC1.mp f];exact h x d)
theorem Hi.runA {a b out:Array Keyed} {na nb k:Nat} (l:Hi S R a b out na nb) (d:k<=na) (h:∀ x∈b.toList.take nb,∀ y∈(a.toList.take na).drop k,R y x=false):Hi S R a b (out ++ (a.extract k na).reverse) k nb:=by
 refine ⟨?_,by have:=l.na;omega,l.nb⟩
 have m:=l.mid
 rw [← aC0 k (a.toList.take na)] at m
 rw [aG2,Array.toList_reverse,alp,List.reverse_append,List.reverse_reverse]
 have c:=m.takeA h
 rw [List.take_take,Nat.min_eq_left d] at c
 exact c
theorem Hi.runB {a b out:Array Keyed} {na nb k:Nat} (l:Hi S R a b out na nb) (d:k<=nb) (h:∀ x∈a.toList.take na,∀ y∈(b.toList.take nb).drop k,R y x=false):Hi S R a b (out ++ (b.extract k nb).reverse) na k:=by
 refine ⟨?_,l.na,by have:=l.nb;omega⟩
 have m:=l.mid
 rw [← aC0 k (b.toList.take nb)] at m
 rw [aG2,Array.toList_reverse,alp,List.reverse_append,List.reverse_reverse]
 have c:=m.takeB h
 rw [List.take_take,Nat.min_eq_left d] at c
 exact c
theorem apb (C:Cmp M A E s κ S R) {a b:Array Keyed} (T:Two S R a b) {Q:Array Keyed->SortSt->Prop} {st:SortSt} (hk:kindOf st = κ)
  (h:∀ m st',Eqv st st'->Fin2 R a b m->Q m st'):wpS M A E s (asu a b) Q st:=by
 have I:∀ i (h:i < a.size),S a[i]:=fun i h=>T.ha _ (by simp)
 have N:∀ i (h:i < b.size),S b[i]:=fun i h=>T.hb _ (by simp)
 have b0:=T.b0
 have a0:=T.a0
 have la:a.size - 1 < a.size:=by omega
 refine wpS_bind (adl ?_)
 refine wpS_bind (aaw (x:=a[a.size - 1]'la) (aA4 la) ?_)
 have l1:Hi S R a b #[a[a.size - 1]'la] (a.size - 1) b.size:=by
  have l0:Hi S R a b #[] a.size b.size:=⟨⟨by simp [aE7],List.Pairwise.nil,fun x g y hy=>by simp at hy,ab3 T.sa,ab3 T.sb⟩,aA6 _,aA6 _⟩
  exact l0.pushA a0 fun x g=>T.last x (aB9 g) _ (aA4 la)
 refine aan (fun e1=>wpS_pure (h _ _ (Eqv.refl _) (l1.doneA (.inl (aF9.mp e1))))) (fun e1=>?_)
 refine aan (fun e2=>wpS_pure (h _ _ (Eqv.refl _) (l1.firstB T (aF9.mp e2)))) (fun e2=>?_)
 replace e1:a.size - 1 ≠ 0:=fun q=>e1 (aF9.mpr q)
 replace e2:b.size ≠ 1:=fun q=>e2 (aF9.mpr q)
 refine wpS_bind (wpS_get ?_)
 have a5:∀ {na nb:Nat} (F:0 < na) (L:na<=a.size) (Y:0 < nb) (W:nb<=b.size),R (b[nb - 1]'(by omega)) (a[na - 1]'(by omega))=true->∀ x∈b.toList.take nb,R (a[na - 1]'(by omega)) x=false:=fun {na nb} F L Y W er x g=>by
  have Z:S x:=T.hb x (aB9 g)
  have hs:Srt R (b.toList.take (nb - 1) ++ [b[nb - 1]'(by omega)]):=by rw [← ab8 Y W];exact ab3 T.sb
  rw [ab8 Y W] at g
  exact C.tr _ _ _ Z (N _ _) (I _ _) (adv C hs (N _ _) x g) (C.asy _ _ (N _ _) (I _ _) er)
 have a8:∀ {na nb:Nat} (F:0 < na) (L:na<=a.size) (Y:0 < nb) (W:nb<=b.size),R (b[nb - 1]'(by omega)) (a[na - 1]'(by omega))=false->∀ x∈a.toList.take na,R (b[nb - 1]'(by omega)) x=false:=fun {na nb} F L Y W er x g=>by
  have Z:S x:=T.ha x (aB9 g)
  have hs:Srt R (a.toList.take (na - 1) ++ [a[na - 1]'(by omega)]):=by rw [← ab8 F L];exact ab3 T.sa
  rw [ab8 F L] at g
  exact C.tr _ _ _ Z (I _ _) (N _ _) (adv C hs (I _ _) x g) er
 refine wpS_bind (wpS_mono (Q:=fun (z:Option (Array Keyed) × Nat × Nat × Array Keyed × Nat) st'=>Eqv st st'/\∃ r,z.1=some r/\Fin2 R a b r) ?_ ?_)
 ·refine wpS_forRange (fun t (z:Option (Array Keyed) × Nat × Nat × Array Keyed × Nat) st'=>Eqv st st'/\z.1=none/\Hi S R a b z.2.2.2.1 z.2.1 z.2.2.1/\0 < z.2.1/\1 < z.2.2.1/\t+1<=z.2.2.2.1.size) ?_ ?_ ⟨Eqv.refl _,rfl,l1,by dsimp only;omega,by dsimp only;omega,by simp⟩
  ·intro t z b7 _ ht f
   have q1:=f.1
   refine un5 (J:=fun na nb out _=>Hi S R a b out na nb/\0 < na/\1 < nb/\t+1<=out.size) z f.2 fun na nb out mg o=>?_
   dsimp only
   refine wpS_bind (wpS_mono (Q:=fun (z:Option (Array Keyed) × Nat × Nat × Array Keyed × Nat × Nat) st'=>Eqv st st'/\((∃ r,z.1=some r/\Fin2 R a b r)\/(z.1=none/\Hi S R a b z.2.2.2.1 z.2.1 z.2.2.1/\0 < z.2.1/\1 < z.2.2.1/\t+2<=z.2.2.2.1.size))) ?_ ?_)
   ·refine wpS_forRange (fun i (z:Option (Array Keyed) × Nat × Nat × Array Keyed × Nat × Nat) st'=>Eqv st st'/\z.1=none/\Hi S R a b z.2.2.2.1 z.2.1 z.2.2.1/\0 < z.2.1/\1 < z.2.2.1/\t+1+min i 1<=z.2.2.2.1.size) ?_ ?_ ⟨q1,rfl,o.1,o.2.1,o.2.2.1,o.2.2.2⟩
    ·intro i z j _ hi f
     have q:=f.1
     refine un6 (J:=fun na nb out _ _=>Hi S R a b out na nb/\0 < na/\1 < nb/\t+1+min i 1<=out.size) z f.2 fun na nb out ac bc o=>?_
     have l:=o.1
     have p:=o.2.1
     have a2:=o.2.2.1
     have hsz:=o.2.2.2
     have ia:na - 1 < a.size:=by have:=l.na;omega
     have ib:nb - 1 < b.size:=by have:=l.nb;omega
     refine wpS_bind (aaw (x:=b[nb - 1]) (aA4 ib) ?_)
     refine wpS_bind (aaw (x:=a[na - 1]) (aA4 ia) ?_)
     refine wpS_bind (C.ask _ _ (N _ ib) (I _ ia) _ _ (q.k.trans hk) ?_)
     dsimp only
     refine aan (fun er=>?_) (fun er=>?_)
     ·refine wpS_bind (aaw (x:=a[na - 1]) (aA4 ia) ?_)
      have D:=l.pushA p (a5 p l.na (by omega) l.nb er)
      refine aan (fun w=>wpS_pure ⟨q,.inl ⟨_,rfl,D.doneA (.inl (aF9.mp w))⟩⟩) (fun w=>?_)
      have hf:0 < na - 1/\1 < nb/\t+2<=(out.push a[na - 1]).size:=by
       have a3:na - 1 ≠ 0:=fun q=>w (aF9.mpr q)
       rw [aH5];omega
      exact aan (fun _=>wpS_pure ⟨q,.inr ⟨rfl,D,hf⟩⟩) (fun _=>wpS_pure ⟨q,rfl,D,hf.1,a2,aC9 (by omega) hf.2.2⟩)
     ·refine wpS_bind (aaw (x:=b[nb - 1]) (aA4 ib) ?_)
      have D:=l.pushB (by omega) (a8 p l.na (by omega) l.nb (eq_false_of_ne_true er))
      refine aan (fun w=>wpS_pure ⟨q,.inl ⟨_,rfl,D.firstB T (aF9.mp w)⟩⟩) (fun w=>?_)
      have hf:1 < nb - 1/\t+2<=(out.push b[nb - 1]).size:=by
       have a3:nb - 1 ≠ 1:=fun q=>w (aF9.mpr q)
       rw [aH5];omega
      exact aan (fun _=>wpS_pure ⟨q,.inr ⟨rfl,D,p,hf⟩⟩) (fun _=>wpS_pure ⟨q,rfl,D,p,hf.1,aC9 (by omega) hf.2⟩)
    ·exact fun z j f=>⟨f.1,.inr ⟨f.2.1,f.2.2.1,f.2.2.2.1,f.2.2.2.2.1,aC9 (by omega) f.2.2.2.2.2⟩⟩
   ·intro z j f
    have q2:=f.1
    refine unR (J:=fun y:Nat × Nat × Array Keyed × Nat × Nat=>Hi S R a b y.2.2.1 y.1 y.2.1/\0 < y.1/\1 < y.2.1/\t+2<=y.2.2.1.size) z f.2 (fun r x hr=>wpS_pure ⟨q2,r,rfl,hr⟩) fun hN=>?_
    refine un6 (J:=fun na nb out _ _=>Hi S R a b out na nb/\0 < na/\1 < nb/\t+2<=out.size) z hN fun na nb out ac bc o=>?_
    dsimp only
    refine wpS_bind (adl ?_)
    refine wpS_bind (wpS_mono (Q:=fun (z:Option (Array Keyed) × Nat × Nat × Array Keyed × Nat × Nat × Nat) st'=>Eqv st st'/\((∃ r,z.1=some r/\Fin2 R a b r)\/(z.1=none/\Hi S R a b z.2.2.2.1 z.2.1 z.2.2.1/\0 < z.2.1/\1 < z.2.2.1/\t+2<=z.2.2.2.1.size))) ?_ ?_)
    ·refine wpS_forRange (fun i (z:Option (Array Keyed) × Nat × Nat × Array Keyed × Nat × Nat × Nat) st'=>Eqv st st'/\z.1=none/\Hi S R a b z.2.2.2.1 z.2.1 z.2.2.1/\0 < z.2.1/\1 < z.2.2.1/\t+2<=z.2.2.2.1.size) ?_ (fun z j f=>⟨f.1,.inr f.2⟩) ⟨q2,rfl,o⟩
     intro i z j _ hi f
     have q:=f.1
     refine un7 (J:=fun na nb out _ _ _=>Hi S R a b out na nb/\0 < na/\1 < nb/\t+2<=out.size) z f.2 fun na nb out mg ac bc o=>?_
     have l:=o.1
     have p:=o.2.1
     have a2:=o.2.2.1
     have hsz:=o.2.2.2
     have b3:=l.na
     have O:=l.nb
     have ib:nb - 1 < b.size:=by omega
     dsimp only
     refine' jpn (M:=M) (A:=A) (E:=E) (s:=s) (st:=j) (β:=Nat) (P:=fun _=>True) (prog:=?prog) (fun U=>?use) (fun b6 _=>?pf)
     case use =>
      refine aan (fun hm=>?_) (fun hm=>?_)
      ·generalize mg - 1=m
       exact U m trivial
      ·exact U mg trivial
     refine wpS_bind (wpS_mono (Q:=fun _ K=>Eqv j K) (wpS_modify ⟨rfl,rfl,rfl,rfl⟩) fun _ K B=>?_)
     replace B:=q.trans B
     refine wpS_bind (aaw (x:=b[nb - 1]) (aA4 ib) ?_)
     refine wpS_bind (af1 C (N _ ib) T.ha (by omega) (by rw [List.drop_zero];exact ab3 T.sa) (by omega) (B.k.trans hk) fun k a7 F L=>?_)
     rw [List.drop_zero] at F L
     dsimp only
     generalize hac:na - k=ac2
     refine' jpn2 (M:=M) (A:=A) (E:=E) (s:=s) (st:=K) (P:=fun d c=>Hi S R a b d c nb/\0 < c/\(∀ x∈a.toList.take c,R b[nb - 1] x=false)/\t+2<=d.size) (prog:=?prog2) (fun U=>?use2) (fun d c h5=>?pf2)
     case use2 =>
      refine aan (fun k0=>?_) (fun k0=>?_)
      ·have b1:Srt R (b.toList.take (nb - 1) ++ [b[nb - 1]]):=by rw [← ab8 (by omega) O];exact ab3 T.sb
       have D:Hi S R a b (out ++ (a.extract k na).reverse) k nb:=l.runA a7 fun x g y hy=>by
        have Z:S x:=T.hb x (aB9 g)
        have sy:S y:=T.ha y (aB9 (aC3 hy))
        rw [ab8 (by omega) O] at g
        exact C.tr _ _ _ Z (N _ ib) sy (adv C b1 (N _ ib) x g) (C.asy _ _ (N _ ib) sy (L y hy))
       refine aan (fun w=>wpS_pure ⟨B,.inl ⟨_,rfl,D.doneA (.inl (aF9.mp w))⟩⟩) (fun w=>?_)
       have hP:Hi S R a b (out ++ (a.extract k na).reverse) k nb/\0 < k/\(∀ x∈a.toList.take k,R b[nb - 1] x=false)/\t+2<=(out ++ (a.extract k na).reverse).size:=by
        have a3:k ≠ 0:=fun q=>w (aF9.mpr q)
        exact ⟨D,by omega,F,by rw [Array.size_append];omega⟩
       revert hP
       clear w D
       generalize out ++ (a.extract k na).reverse=d
       generalize k=c
       intro hP
       exact U d c hP
      ·have:k=na:=by omega
       rw [this] at F
       exact U out na ⟨l,p,F,hsz⟩
     have l3:=h5.1
     have G:=h5.2.1
     have a6:=h5.2.2.1
     have b4:=h5.2.2.2
     have H:=l3.na
     have ia:c - 1 < a.size:=by omega
     refine wpS_bind (aaw (x:=b[nb - 1]) (aA4 ib) ?_)
     have l4:=l3.pushB (by omega) a6
     refine aan (fun e5=>wpS_pure ⟨B,.inl ⟨_,rfl,l4.firstB T (aF9.mp e5)⟩⟩) (fun e5=>?_)
     replace e5:nb - 1 ≠ 1:=fun q=>e5 (aF9.mpr q)
     refine wpS_bind (aaw (x:=a[c - 1]) (aA4 ia) ?_)
     refine wpS_bind (aha C (I _ ia) T.hb (by omega) (by rw [List.drop_zero];exact ab3 T.sb) (by omega) (B.k.trans hk) fun v a9 Y W=>?_)
     rw [List.drop_zero] at Y W
     dsimp only
     generalize hbc:nb - 1 - v=bc2
     refine' jpn2 (M:=M) (A:=A) (E:=E) (s:=s) (st:=K) (P:=fun n u=>Hi S R a b n c u/\1 < u/\(∀ x∈b.toList.take u,R a[c - 1] x=false)/\t+2<=n.size) (prog:=?prog3) (fun U=>?use3) (fun n u h6=>?pf3)
     case use3 =>
      have a1:∀ x∈b.toList.take v,R a[c - 1] x=false:=fun x g=>C.asy _ _ (T.hb x (aB9 g)) (I _ ia) (Y x g)
      refine aan (fun k0=>?_) (fun k0=>?_)
      ·have a4:Srt R (a.toList.take (c - 1) ++ [a[c - 1]]):=by rw [← ab8 G H];exact ab3 T.sa
       have l5:Hi S R a b (d.push b[nb - 1] ++ (b.extract v (nb - 1)).reverse) c v:=l4.runB a9 fun x g y hy=>by
        have Z:S x:=T.ha x (aB9 g)
        have sy:S y:=T.hb y (aB9 (aC3 hy))
        rw [ab8 G H] at g
        exact C.tr _ _ _ Z (I _ ia) sy (adv C a4 (I _ ia) x g) (W y hy)
       refine aan (fun e6=>wpS_pure ⟨B,.inl ⟨_,rfl,l5.firstB T (aF9.mp e6)⟩⟩) (fun e6=>?_)
       refine aan (fun X=>wpS_pure ⟨B,.inl ⟨_,rfl,l5.doneA (.inr (aF9.mp X))⟩⟩) (fun X=>?_)
       have hP:Hi S R a b (d.push b[nb - 1] ++ (b.extract v (nb - 1)).reverse) c v/\1 < v/\(∀ x∈b.toList.take v,R a[c - 1] x=false)/\t+2<=(d.push b[nb - 1] ++ (b.extract v (nb - 1)).reverse).size:=by
        have b5:v ≠ 1:=fun q=>e6 (aF9.mpr q)
        have b2:v ≠ 0:=fun q=>X (aF9.mpr q)
        exact ⟨l5,by omega,a1,by rw [Array.size_append,aH5];omega⟩
       revert hP
       clear e6 X l5
       generalize d.push b[nb - 1] ++ (b.extract v (nb - 1)).reverse=n
       generalize v=u
       intro hP
       exact U n u hP
      ·have:v=nb - 1:=by omega
       rw [this] at a1
       exact U (d.push b[nb - 1]) (nb - 1) ⟨l4,by omega,a1,by rw [aH5];omega⟩
     refine wpS_bind (aaw (x:=a[c - 1]) (aA4 ia) ?_)
     have l7:=h6.1.pushA G h6.2.2.1
     refine aan (fun X=>wpS_pure ⟨B,.inl ⟨_,rfl,l7.doneA (.inl (aF9.mp X))⟩⟩) (fun X=>?_)
     have hf:0 < c - 1/\1 < u/\t+2<=(n.push a[c - 1]).size:=by
      have b2:c - 1 ≠ 0:=fun q=>X (aF9.mpr q)
      have h7:=h6.2.2.2
      exact ⟨by omega,h6.2.1,by rw [aH5];omega⟩
     exact aan (fun _=>wpS_pure ⟨B,.inr ⟨rfl,l7,hf⟩⟩) (fun _=>wpS_pure ⟨B,rfl,l7,hf⟩)
    ·intro z j f
     have q2:=f.1
     refine unR (J:=fun y:Nat × Nat × Array Keyed × Nat × Nat × Nat=>Hi S R a b y.2.2.1 y.1 y.2.1/\0 < y.1/\1 < y.2.1/\t+2<=y.2.2.1.size) z f.2 (fun r x hr=>wpS_pure ⟨q2,r,rfl,hr⟩) fun hN=>?_
     refine un7 (J:=fun na nb out _ _ _=>Hi S R a b out na nb/\0 < na/\1 < nb/\t+2<=out.size) z hN fun na nb out mg ac bc o=>?_
     dsimp only
     refine wpS_bind (wpS_modify ?_)
     exact wpS_pure ⟨q2.trans ⟨rfl,rfl,rfl,rfl⟩,rfl,o⟩
  ·intro z j f
   exfalso
   have F:=f.2.2.1.len
   have L:=f.2.2.2
   have:a.size+b.size<=max 0 (a.size+b.size):=by omega
   omega
 ·intro z j f
  have q2:=f.1
  exact unR (J:=fun _=>False) z (.inl f.2) (fun r x hr=>wpS_pure (h r j q2 hr)) fun hN=>hN.2.elim
end
theorem ajm (base:Nat):∀ (b v u w:List Keyed) (j:Nat) (xs:Array Keyed),xs.toList=u ++ v ++ w->v.length=b.length->u.length=base+j ->
  ((b.zipIdx j).foldl (fun a x=>match x with | (p,j)=>a.setIfInBounds (base+j) p) xs).toList=u ++ b ++ w
 | [],v,u,w,j,xs,h1,h2,h3=>by
  have:v=[]:=aG8 h2
  subst this
  exact h1
 | m :: b,v,u,w,j,xs,h1,h2,h3=>by
  cases v with
  | nil=>cases h2
  | cons y v =>
   rw [List.zipIdx_cons,List.foldl_cons]
   have c:=ajm base b v (u ++ [m]) w (j+1) (xs.setIfInBounds (base+j) m) (by
    rw [Array.toList_setIfInBounds,h1,← h3]
    simp [List.set_append]) (by simpa using h2) (by simp [h3];omega)
   rw [c]
   simp
section
variable {M:Model} {A:Around} {E:Value->Shared->Prop} {s:Shared} {κ:SortKind} {S:Keyed->Prop} {R:Keyed->Keyed->Bool}
theorem avh {σ:Type} {st st' : σ} {Q:PUnit->σ->Prop} (h:Q ⟨⟩ st'):wpS M A E s (set st':StateT σ Sem PUnit) Q st:=by
 unfold wpS
 rw [StateT.run_set]
 exact aI6 ⟨rfl,h⟩
theorem apc (C:Cmp M A E s κ S R) {st:SortSt} {i pw pw2:Nat} {pre a b g:List Keyed} (G:(arrOf st).toList=pre ++ a ++ b ++ g) (hS:∀ x∈(arrOf st).toList,S x)
  (a9:(pendingOf st)[i]?=some (pre.length,a.length,pw)) (b1:(pendingOf st)[i+1]?=some (pre.length+a.length,b.length,pw2)) (na:a ≠ []) (nb:b ≠ []) (W:Srt R a) (O:Srt R b) (hk:kindOf st = κ) (hf:failedOf st=none)
  {Q:Bool->SortSt->Prop}
  (h:∀ st' m,kindOf st' = κ->failedOf st'=none->pendingOf st'=((pendingOf st).setIfInBounds i (pre.length,a.length+b.length,pw)).eraseIdxIfInBounds (i+1)->(arrOf st').toList=pre ++ m ++ g->m.Perm (a ++ b)->Srt R m->Q true st') :
  wpS M A E s (alo i) Q st:=by
 have la:0 < a.length:=aF5.mpr na
 have lb:0 < b.length:=aF5.mpr nb
 have J:∀ x∈a,S x:=fun x c=>hS x (by rw [G];simp [c])
 have N:∀ x∈b,S x:=fun x c=>hS x (by rw [G];simp [c])
 have lx:(arrOf st).size=pre.length+a.length+b.length+g.length:=by
  have:=congrArg List.length G
  simp at this
  omega
 have B:((arrOf st).toList.drop pre.length).take a.length=a:=by rw [G];simp [aB3]
 have F:((arrOf st).toList.drop (pre.length+a.length)).take b.length=b:=by
  rw [show pre.length+a.length=(pre ++ a).length by simp,G,aB3 (pre ++ a),List.drop_left,List.take_left]
 refine wpS_bind (wpS_get ?_)
 rw [a9,b1]
 refine wpS_bind (wpS_mono (Q:=fun _ o=>kindOf o = κ/\failedOf o=none/\arrOf o=arrOf st/\pendingOf o=((pendingOf st).setIfInBounds i (pre.length,a.length+b.length,pw)).eraseIdxIfInBounds (i+1)) (avh ⟨hk,hf,rfl,rfl⟩) fun _ o ⟨Z,f1,a1,p1⟩=>?_)
 obtain ⟨b0,bt,eb⟩:∃ b0 bt,b=b0 :: bt:=by cases b with | nil=>exact absurd rfl nb | cons x r=>exact ⟨x,r,rfl⟩
 have a5:(arrOf st)[pre.length+a.length]?=some b0:=by
  rw [← aD3,G,eb]
  simp [List.getElem?_append]
 have v:S b0:=N b0 (by rw [eb];simp)
 have w:∀ y∈b,R y b0=false:=fun y d=>by rw [eb] at d O;exact aed C O v y d
 -- nothing is laid together: the two stand in order already
 have D:(∀ x∈a,∀ y∈b,R y x=false)->∀ st',Eqv o st'->Q true st':=fun hc st' q=>by
  refine h st' (a ++ b) (q.k.trans Z) (q.f.trans f1) (q.p.trans p1) ?_ (List.Perm.refl _) (aC8.mpr ⟨W,O,hc⟩)
  rw [q.a,a1,G]
  simp [aB3]
 refine wpS_bind (aaw a5 ?_)
 refine wpS_bind (af1 C v hS (by omega) (by rw [B];exact W) la Z fun k a3 h1 h2=>?_)
 rw [B] at h2
 have I:∀ x∈a.take k,R b0 x=false:=fun x c=>h1 x (by
  have:((arrOf st).toList.drop pre.length).take k=a.take k:=by rw [← B,List.take_take,Nat.min_eq_left a3]
  rw [this];exact c)
 dsimp only
 refine aan (fun e=>?_) (fun e=>?_)
 ·have e':a.length - k=0:=by simpa using e
  refine wpS_pure (D (fun x c y d=>?_) o (Eqv.refl _))
  have:a.take k=a:=aE7 (by omega)
  rw [this] at I
  exact C.tr x b0 y (J x c) v (N y d) (I x c) (w y d)
 ·have e':a.length - k ≠ 0:=by simpa using e
  -- the last of a
  have P:pre.length+k+(a.length - k) - 1=pre.length+(a.length - 1):=by omega
  have n:a.length - 1 < a.length:=by omega
  have a4:(arrOf st)[pre.length+k+(a.length - k) - 1]?=some (a[a.length - 1]'n):=by
   rw [← aD3,G,P]
   simp [List.getElem?_append,n,aB3]
  have Sl:S (a[a.length - 1]'n):=J _ (aE8 n)
  have u:a=a.take (a.length - 1) ++ [a[a.length - 1]'n]:=by
   have:=List.take_succ (l:=a) (i:=a.length - 1)
   rw [show a.length - 1+1=a.length by omega,aG4] at this
   simpa [n] using this
  have L:∀ x∈a,R (a[a.length - 1]'n) x=false:=fun x c=>by
   have hs:Srt R (a.take (a.length - 1) ++ [a[a.length - 1]'n]):=by rw [← u];exact W
   exact adv C hs Sl x (by rw [← u];exact c)
  refine wpS_bind (aaw a4 ?_)
  refine wpS_bind (aha C Sl hS (by omega) (by rw [F];exact O) (by omega) Z fun j a6 h3 h4=>?_)
  rw [F] at h4
  have a0:((arrOf st).toList.drop (pre.length+a.length)).take j=b.take j:=by rw [← F,List.take_take,Nat.min_eq_left a6]
  rw [a0] at h3
  dsimp only
  refine aan (fun e2=>?_) (fun e2=>?_)
  ·have a2:j=0:=by simpa using e2
   subst a2
   refine wpS_pure (D (fun x c y d=>?_) o (Eqv.refl _))
   exact C.tr x _ y (J x c) Sl (N y d) (L x c) (h4 y (by simpa using d))
  ·have a2:j ≠ 0:=by simpa using e2
   have ex:((arrOf st).extract (pre.length+k) (pre.length+a.length)).toList=a.drop k:=by
    rw [alp,G]
    simp [aB3,List.take_append,List.drop_append]
   have U:((arrOf st).extract (pre.length+a.length) (pre.length+a.length+j)).toList=b.take j:=by
    rw [air,a0]
   generalize hX:(arrOf st).extract (pre.length+k) (pre.length+a.length)=X at ex
   generalize hY:(arrOf st).extract (pre.length+a.length) (pre.length+a.length+j)=Y at U
   have sX:X.size=a.length - k:=by have:=congrArg List.length ex;simpa using this
   have sY:Y.size=j:=by have:=congrArg List.length U;simp at this;omega
   have T:Two S R X Y:=by
    refine ⟨fun x c=>J x (aC3 (by rw [← ex];exact c)),fun x c=>N x (aB9 (by rw [← U];exact c)),by rw [ex];exact ack W,by rw [U];exact ab3 O,by omega,by omega,fun x c y d=>?_,fun y d x c=>?_⟩
    ·rw [← aD3,U,eb] at d
     have:y=b0:=by
      obtain ⟨j',rfl⟩:∃ j',j=j'+1:=⟨j - 1,by omega⟩
      simpa using d.symm
     rw [this]
     rw [ex] at c
     exact C.asy _ _ v (J x (aC3 c)) (h2 x c)
    ·rw [← aD3,ex,sX] at c
     rw [aH9,show k+(a.length - k - 1)=a.length - 1 by omega,aA0 n] at c
     cases c
     rw [U] at d
     exact C.asy _ _ (N y (aB9 d)) Sl (h3 y d)
   have fin:∀ (m:Array Keyed) (st':SortSt),Eqv o st'->Fin2 R X Y m->wpS M A E s (do
     modify fun (z:SortSt)=>setArr z (List.foldl (fun a x=>match x with | (p,j)=>a.setIfInBounds (pre.length+k+j) p) (arrOf z) m.toList.zipIdx)
     let z ← get
     pure (failedOf z).isNone) Q st':=by
    intro m st' q ⟨H,ms⟩
    rw [ex,U] at H
    refine wpS_bind (wpS_modify ?_)
    refine wpS_bind (wpS_get ?_)
    refine wpS_pure ?_
    show Q (failedOf st').isNone _
    rw [q.f,f1]
    have lm:m.toList.length=(a.drop k).length+(b.take j).length:=by rw [H.length_eq,aB0]
    have K:∀ z∈m.toList,z∈a.drop k\/z∈b.take j:=fun z hz=>aA7.mp (H.mem_iff.mp hz)
    refine h _ (a.take k ++ m.toList ++ b.drop j) (q.k.trans Z) (q.f.trans f1) (q.p.trans p1) ?_ ?_ ?_
    ·show (List.foldl _ (arrOf st') m.toList.zipIdx).toList=_
     have base:(arrOf st').toList=(pre ++ a.take k) ++ (a.drop k ++ b.take j) ++ (b.drop j ++ g):=by
      rw [q.a,a1,G]
      have t1:=aC0 k a
      have t2:=aC0 j b
      calc pre ++ a ++ b ++ g=pre ++ (a.take k ++ a.drop k) ++ (b.take j ++ b.drop j) ++ g:=by rw [t1,t2]
       _=_:=by simp only [aB3]
     have:=ajm (pre.length+k) m.toList (a.drop k ++ b.take j) (pre ++ a.take k) (b.drop j ++ g) 0 (arrOf st') base (by rw [aB0,lm]) (by rw [aB0,aG6];omega)
     rw [this]
     simp only [aB3]
    ·have t1:=aC0 k a
     have t2:=aC0 j b
     calc (a.take k ++ m.toList ++ b.drop j).Perm (a.take k ++ (a.drop k ++ b.take j) ++ b.drop j):=List.Perm.append_right _ (List.Perm.append_left _ H)
      _ = a ++ b:=by
       simp only [aB3]
       rw [t2,← aB3,t1]
    ·have a7:Srt R (a.take k ++ a.drop k):=by rw [aC0];exact W
     have a8:Srt R (b.take j ++ b.drop j):=by rw [aC0];exact O
     have ca:=(aC8.mp a7).2.2
     have cb:=(aC8.mp a8).2.2
     refine aC8.mpr ⟨aC8.mpr ⟨ab3 W,ms,fun x c y d=>?_⟩,ack O,fun x c y d=>?_⟩
     ·rcases K y d with d | d
      ·exact ca x c y d
      ·exact C.tr x b0 y (J x (aB9 c)) v (N y (aB9 d)) (I x c) (w y (aB9 d))
     ·have Sy:=N y (aC3 d)
      rcases aA7.mp c with c | c
      ·exact C.tr x b0 y (J x (aB9 c)) v Sy (I x c) (w y (aC3 d))
      ·rcases K x c with c | c
       ·exact C.tr x _ y (J x (aC3 c)) Sl Sy (L x (aC3 c)) (h4 y d)
       ·exact cb x c y d
   refine aan (fun e3=>?_) (fun e3=>?_)
   ·exact wpS_bind (apa C T Z fun m st' q fm=>fin m st' q fm)
   ·exact wpS_bind (apb C T Z fun m st' q fm=>fin m st' q fm)
end
def e (xs:Array Keyed) (k:Nat):Keyed:=(xs[k]?).getD (.none,.none)
theorem ahz {xs:Array Keyed} {k:Nat} (h:k < xs.size):xs[k]?=some (e xs k):=by
 unfold e;rw [aA4 h];rfl
def Asc (R:Keyed->Keyed->Bool) (xs:Array Keyed) (l h:Nat):Prop:=∀ i j,l<=i->i<=j->j < h->R (e xs j) (e xs i)=false
def Des (R:Keyed->Keyed->Bool) (xs:Array Keyed) (l h:Nat):Prop:=∀ i j,l<=i->i<=j->j < h->R (e xs i) (e xs j)=false
structure Bs (κ:SortKind) (p0:Array (Nat × Nat × Nat)) (a0:Array Keyed) (lo:Nat) (st:SortSt):Prop where
 k:kindOf st = κ
 f:failedOf st=none
 p:pendingOf st=p0
 perm:(arrOf st).toList.Perm a0.toList
 pre:∀ k,k < lo->(arrOf st)[k]?=a0[k]?
theorem asw {xs:Array Keyed} {src d:Nat} (a:src < xs.size) (hd:d<=src) (k:Nat):e (bubble xs src d) k=if k=src - d then e xs src else if src - d < k/\k<=src then e xs (k - 1) else e xs k:=by
 unfold e
 rw [getElem?_bubble a d hd]
 repeat' split
 all_goals rfl
theorem acs {xs:Array Keyed} {i j:Nat} (a:j<=xs.size) (k:Nat):e (mirror xs i j ((j - i) / 2)) k=if i<=k/\k < j then e xs (i+j - 1 - k) else e xs k:=by
 unfold e
 rw [getElem?_mirror_all a]
 split <;> rfl
section
variable {M:Model} {A:Around} {E:Value->Shared->Prop} {s:Shared} {κ:SortKind} {S:Keyed->Prop} {R:Keyed->Keyed->Bool} {p0:Array (Nat × Nat × Nat)} {a0:Array Keyed} {lo:Nat}
theorem Bs.size {st:SortSt} (B:Bs κ p0 a0 lo st):(arrOf st).size=a0.size:=by
 have:=B.perm.length_eq
 simpa using this
theorem Bs.sat {st:SortSt} (B:Bs κ p0 a0 lo st) (a:∀ x∈a0.toList,S x) {k:Nat} (b:k < a0.size):S (e (arrOf st) k):=by
 have h:=ahz (xs:=arrOf st) (k:=k) (by rw [B.size];exact b)
 refine a _ (B.perm.mem_iff.mp ?_)
 rw [← aD3] at h
 exact aA2 h
theorem af2 (C:Cmp M A E s κ S R) (a:∀ x∈a0.toList,S x) {st:SortSt} (B:Bs κ p0 a0 lo st) {i j:Nat} (hi:i < a0.size) (b:j < a0.size) {Q:Option Bool->SortSt->Prop} (h:Q (some (R (e (arrOf st) i) (e (arrOf st) j))) st) :
  wpS M A E s (ltAt' i j) Q st:=by
 rw [ltAt'_eq]
 refine wpS_bind (wpS_get ?_)
 refine wpS_bind (aaw (ahz (by rw [B.size];exact hi)) ?_)
 refine wpS_bind (aaw (ahz (by rw [B.size];exact b)) ?_)
 exact C.ask _ _ (B.sat a hi) (B.sat a b) _ _ B.k h
theorem asx (C:Cmp M A E s κ S R) {xs:Array Keyed} {l h:Nat} (b:∀ k,k<=h->S (e xs k)) (g:l < h) (a:Asc R xs l h) (n:R (e xs h) (e xs (h - 1))=false):Asc R xs l (h+1):=by
 intro i j c d f
 by_cases hj:j=h
 ·subst hj
  by_cases hi:i=j
  ·subst hi;exact C.irr (b _ (aA6 _))
  ·exact C.tr _ (e xs (j - 1)) _ (b _ (by omega)) (b _ (by omega)) (b _ (by omega)) (a i (j - 1) c (by omega) (by omega)) n
 ·exact a i j c d (by omega)
theorem afg (C:Cmp M A E s κ S R) {xs:Array Keyed} {l h:Nat} (b:∀ k,k<=h->S (e xs k)) (g:l < h) (a:Des R xs l h) (n:R (e xs (h - 1)) (e xs h)=false):Des R xs l (h+1):=by
 intro i j c d f
 by_cases hj:j=h
 ·subst hj
  by_cases hi:i=j
  ·subst hi;exact C.irr (b _ (aA6 _))
  ·exact C.tr _ (e xs (j - 1)) _ (b _ (by omega)) (b _ (by omega)) (b _ (by omega)) n (a i (j - 1) c (by omega) (by omega))
 ·exact a i j c d (by omega)
theorem Bs.set {st:SortSt} (B:Bs κ p0 a0 lo st) {xs:Array Keyed} (b:xs.Perm (arrOf st)) (c:∀ k,k < lo->xs[k]?=(arrOf st)[k]?):Bs κ p0 a0 lo (setArr st xs) :=
 ⟨B.k,B.f,B.p,b.toList.trans B.perm,fun k a=>(c k a).trans (B.pre k a)⟩
theorem apd (C:Cmp M A E s κ S R) (v:∀ x∈a0.toList,S x) {st:SortSt} (B:Bs κ p0 a0 lo st) {n ok:Nat} (hn:lo+n<=a0.size) (hok:ok<=n) (O:1<=n) (N:Asc R (arrOf st) lo (lo+ok)) {Q:Bool->SortSt->Prop}
  (h:∀ st',Bs κ p0 a0 lo st'->Asc R (arrOf st') lo (lo+n)->Q true st'):wpS M A E s (asv lo n ok) Q st:=by
 refine wpS_bind (wpS_mono (Q:=fun (z:Option Bool × Unit) st'=>z.1=none/\Bs κ p0 a0 lo st'/\Asc R (arrOf st') lo (lo+n)) ?_ ?_)
 ·refine wpS_forRange (fun k (z:Option Bool × Unit) st'=>z.1=none/\Bs κ p0 a0 lo st'/\Asc R (arrOf st') lo (lo+k)) ?_ ?_ ⟨rfl,B,fun i j m p u=>?_⟩
  ·rintro k ⟨o,_⟩ b J I ⟨rfl,q,as⟩
   have d:∀ j,j < lo+n->S (e (arrOf b) j):=fun j w=>q.sat v (by omega)
   refine wpS_bind (wpS_mono (Q:=fun (z:Option Bool × Nat × Nat) st'=>st'=b/\z.1=none/\z.2.1<=k/\(∀ i,i < z.2.1->R (e (arrOf b) (lo+k)) (e (arrOf b) (lo+i))=false)/\(∀ i,z.2.1<=i->i < k->R (e (arrOf b) (lo+k)) (e (arrOf b) (lo+i))=true)) ?_ ?_)
   ·refine wpS_forRange (fun t (z:Option Bool × Nat × Nat) st'=>st'=b/\z.1=none/\z.2.1<=z.2.2/\z.2.2<=k/\z.2.2 - z.2.1+t<=k/\(∀ i,i < z.2.1->R (e (arrOf b) (lo+k)) (e (arrOf b) (lo+i))=false)/\(∀ i,z.2.2<=i->i < k->R (e (arrOf b) (lo+k)) (e (arrOf b) (lo+i))=true)) ?_ ?_
     ⟨rfl,rfl,Nat.zero_le _,Nat.le_refl _,by dsimp only;omega,fun i hi=>absurd hi (Nat.not_lt_zero _),fun i m p=>by dsimp only at m;omega⟩
    ·rintro t ⟨o,l,r⟩ a _ P ⟨rfl,c,m,p,u,f,g⟩
     dsimp only at c m p u f g ⊢
     subst c
     refine aan (fun y=>?_) (fun y=>?_)
     ·have:l=r:=by omega
      subst this
      exact wpS_pure ⟨rfl,rfl,p,f,g⟩
     ·have hm:(l+r) / 2 < r:=by omega
      have F:l<=(l+r) / 2:=by omega
      refine wpS_bind (af2 C v q (by omega) (by omega) ?_)
      dsimp only
      cases er:R (e (arrOf a) (lo+k)) (e (arrOf a) (lo+(l+r) / 2)) with
      | true =>
       rw [aF1 rfl]
       refine wpS_pure ⟨rfl,rfl,F,by dsimp only;omega,by dsimp only;omega,f,fun i i1 D=>?_⟩
       dsimp only at i1
       cases e2:R (e (arrOf a) (lo+k)) (e (arrOf a) (lo+i)) with
       | true=>rfl
       | false =>
        have:=C.tr _ _ _ (d _ (by omega)) (d _ (by omega)) (d _ (by omega)) (as (lo+(l+r) / 2) (lo+i) (by omega) (by omega) (by omega)) e2
        rw [this] at er;cases er
      | false =>
       rw [aF2 (by decide)]
       refine wpS_pure ⟨rfl,rfl,by dsimp only;omega,p,by dsimp only;omega,fun i i1=>?_,g⟩
       dsimp only at i1
       exact C.tr _ _ _ (d _ (by omega)) (d _ (by omega)) (d _ (by omega)) (as (lo+i) (lo+(l+r) / 2) (by omega) (by omega) (by omega)) er
    ·rintro ⟨o,l,r⟩ a ⟨rfl,c,m,p,u,f,g⟩
     dsimp only at c m p u f g ⊢
     have : l = r := by have:k ≤ max 0 k := by omega
                        omega
     subst this
     exact ⟨rfl,c,p,f,g⟩
   ·rintro ⟨o,l,r⟩ a ⟨rfl,c,m,f,g⟩
    dsimp only at c m f g ⊢
    subst c
    dsimp only
    have hsz:lo+k < (arrOf a).size:=by rw [q.size];omega
    have hd:(lo+k) - (lo+l)=k - l:=by omega
    refine wpS_bind (wpS_modify ?_)
    have G:∀ j,e (bubble (arrOf a) (lo+k) (lo+k - (lo+l))) j=if j=lo+l then e (arrOf a) (lo+k) else if lo+l < j/\j<=lo+k then e (arrOf a) (j - 1) else e (arrOf a) j:=fun j=>by
     rw [asw hsz (by omega),show lo+k - (lo+k - (lo+l))=lo+l by omega]
    refine wpS_pure ⟨rfl,q.set (bubble_perm _ _ _) (fun j w=>?_),fun i j i1 D K=>?_⟩
    ·show (bubble (arrOf a) (lo+k) (lo+k - (lo+l)))[j]?=_
     rw [getElem?_bubble hsz _ (by omega),aF2 (by omega),aF2 (by omega)]
    ·show R (e (bubble (arrOf a) (lo+k) (lo+k - (lo+l))) j) (e (bubble (arrOf a) (lo+k) (lo+k - (lo+l))) i)=false
     rw [G,G]
     have L:∀ j,j < lo+n->S (e (arrOf a) j):=d
     by_cases j1:j=lo+l
     ·rw [aF1 j1]
      by_cases i4:i=lo+l
      ·rw [aF1 i4];exact C.irr (d _ (by omega))
      ·rw [aF2 i4,aF2 (by omega)]
       have:=f (i - lo) (by omega)
       rw [show lo+(i - lo)=i by omega] at this
       exact this
     ·rw [aF2 j1]
      by_cases j2:lo+l < j/\j<=lo+k
      ·rw [aF1 j2]
       have H:=g (j - 1 - lo) (by omega) (by omega)
       rw [show lo+(j - 1 - lo)=j - 1 by omega] at H
       by_cases i4:i=lo+l
       ·rw [aF1 i4];exact C.asy _ _ (d _ (by omega)) (d _ (by omega)) H
       ·rw [aF2 i4]
        by_cases i5:lo+l < i/\i<=lo+k
        ·rw [aF1 i5];exact as (i - 1) (j - 1) (by omega) (by omega) (by omega)
        ·rw [aF2 i5];exact as i (j - 1) (by omega) (by omega) (by omega)
      ·rw [aF2 j2,aF2 (by omega),aF2 (by omega)]
       exact as i j (by omega) (by omega) (by omega)
  ·rintro ⟨o,_⟩ b ⟨c,q,as⟩
   exact ⟨c,q,fun i j i1 D K=>as i j i1 D (by omega)⟩
  ·by_cases w:j < lo+ok
   ·exact N i j m p w
   ·have:i=j:=by omega
    subst this
    exact C.irr (B.sat v (by omega))
 ·rintro ⟨o,_⟩ b ⟨c,q,as⟩
  dsimp only at c ⊢
  subst c
  exact wpS_pure (h b q as)
end
def Eqb (R:Keyed->Keyed->Bool) (xs:Array Keyed) (l h:Nat):Prop:=∀ i j,l<=i->i < h->l<=j->j < h->R (e xs i) (e xs j)=false
section
variable {M:Model} {A:Around} {E:Value->Shared->Prop} {s:Shared} {κ:SortKind} {S:Keyed->Prop} {R:Keyed->Keyed->Bool} {p0:Array (Nat × Nat × Nat)} {a0:Array Keyed} {lo:Nat}
theorem ant {α:Type} {prog:StateT SortSt Sem α} {P:SortSt->Prop} {Q : α->SortSt->Prop} {G:Prop} (use:(∀ st,P st->wpS M A E s prog Q st)->G) (a:∀ st,P st->wpS M A E s prog Q st):G:=use a
theorem alq (C:Cmp M A E s κ S R) (f:∀ x∈a0.toList,S x) {st:SortSt} (B:Bs κ p0 a0 lo st) {a nrem:Nat} (l:1<=a) (g:a<=nrem) (hn:lo+nrem<=a0.size) (as:Asc R (arrOf st) lo (lo+a)) {Q:Option (Option Nat) × Nat->SortSt->Prop}
  (h:∀ n,a<=n->n<=nrem->Asc R (arrOf st) lo (lo+n)->(n < nrem->R (e (arrOf st) (lo+n)) (e (arrOf st) (lo+n - 1))=true)->Q (none,n) st) :
  wpS M A E s (forIn [a:nrem] ((none,a):Option (Option Nat) × Nat) (fun (_:Nat) z=>ltAt' (lo+z.2) (lo+z.2 - 1) >>= fun x=>match x with
   | some smaller=>if smaller=true then pure (ForInStep.done (none,z.2)) else pure (ForInStep.yield (none,z.2+1))
   | _=>pure (ForInStep.done (some none,z.2)))) Q st:=by
 refine wpS_forRange (fun t (z:Option (Option Nat) × Nat) st'=>st'=st/\z=(none,t)/\Asc R (arrOf st) lo (lo+t)) ?_ ?_ ⟨rfl,rfl,as⟩
 ·rintro t ⟨o,n⟩ c t1 i ⟨rfl,d,b⟩
  cases d
  dsimp only
  refine wpS_bind (af2 C f B (by omega) (by omega) ?_)
  dsimp only
  cases er:R (e (arrOf c) (lo+t)) (e (arrOf c) (lo+t - 1)) with
  | true =>
   rw [aF1 rfl]
   exact wpS_pure (h t t1 (by omega) b fun _=>er)
  | false =>
   rw [aF2 (by decide)]
   exact wpS_pure ⟨rfl,rfl,asx C (h:=lo+t) (fun k j=>B.sat f (by omega)) (by omega) b er⟩
 ·rintro ⟨o,n⟩ c ⟨rfl,d,b⟩
  cases d
  rw [show max a nrem=nrem by omega] at b ⊢
  exact h nrem g (aA6 _) b fun z=>absurd z (aG0 _)
theorem asz (C:Cmp M A E s κ S R) {st:SortSt} (B:Bs κ p0 a0 lo st) {n:Nat} (hn:lo+n<=a0.size) (a:Des R (arrOf st) lo (lo+n)) :
  Bs κ p0 a0 lo (setArr st (mirror (arrOf st) lo (lo+n) ((lo+n - lo) / 2)))/\Asc R (mirror (arrOf st) lo (lo+n) ((lo+n - lo) / 2)) lo (lo+n):=by
 have hz:lo+n<=(arrOf st).size:=by rw [B.size];exact hn
 refine ⟨B.set (mirror_perm _ _ _ _) (fun k f=>by rw [getElem?_mirror_all hz,aF2 (by omega)]),fun i j d c b=>?_⟩
 rw [acs hz,acs hz,aF1 (by omega),aF1 (by omega)]
 exact a _ _ (by omega) (by omega) (by omega)
theorem ais (C:Cmp M A E s κ S R) (c:∀ x∈a0.toList,S x) {st:SortSt} (B:Bs κ p0 a0 lo st) {l h m:Nat} (n:lo<=l) (hh:h<=a0.size) (hm:h<=m) (d:m<=a0.size) (a:Des R (arrOf st) lo m) (eq:Eqb R (arrOf st) l h) :
  Bs κ p0 a0 lo (setArr st (mirror (arrOf st) l h ((h - l) / 2)))/\Des R (mirror (arrOf st) l h ((h - l) / 2)) lo m:=by
 have hz:h<=(arrOf st).size:=by rw [B.size];exact hh
 refine ⟨B.set (mirror_perm _ _ _ _) (fun k b=>by rw [getElem?_mirror_all hz,aF2 (by omega)]),fun i j g f o=>?_⟩
 rw [acs hz,acs hz]
 have p:∀ k,k < m->S (e (arrOf st) k):=fun k b=>B.sat c (by omega)
 by_cases c1:l<=i/\i < h
 ·rw [aF1 c1]
  by_cases c2:l<=j/\j < h
  ·rw [aF1 c2]
   exact eq _ _ (by omega) (by omega) (by omega) (by omega)
  ·rw [aF2 c2]
   exact a _ _ (by omega) (by omega) (by omega)
 ·rw [aF2 c1]
  by_cases c2:l<=j/\j < h
  ·rw [aF1 c2]
   exact a _ _ (by omega) (by omega) (by omega)
  ·rw [aF2 c2]
   exact a _ _ (by omega) (by omega) (by omega)
theorem aq4 (C:Cmp M A E s κ S R) (p:∀ x∈a0.toList,S x) {st:SortSt} (B:Bs κ p0 a0 lo st) {nrem:Nat} (h1:1<=nrem) (hn:lo+nrem<=a0.size) {Q:Option Nat->SortSt->Prop}
  (h:∀ st' n,Bs κ p0 a0 lo st'->1<=n->n<=nrem->Asc R (arrOf st') lo (lo+n)->Q (some n) st'):wpS M A E s (avg lo nrem) Q st:=by
 refine wpS_bind (alq C p B (aA6 1) h1 hn (fun i j i1 r T=>?_) fun n n1 n2 as br=>?_)
 ·have:i=j:=by omega
  subst this
  exact C.irr (B.sat p (by omega))
 dsimp only
 refine aan (fun en=>wpS_pure (h st n B n1 n2 as)) (fun en=>?_)
 have a3:n ≠ nrem:=by simpa using en
 have W:n < nrem:=by omega
 have F:=br W
 refine ant (M:=M) (A:=A) (E:=E) (s:=s) (α:=Option Nat) (Q:=Q) (P:=fun u=>Bs κ p0 a0 lo u/\Des R (arrOf u) lo (lo+n)/\R (e (arrOf u) (lo+n)) (e (arrOf u) (lo+n - 1))=true) (prog:=?prog) (fun L=>?use) (fun u ⟨K,de,X⟩=>?pf)
 case use =>
  refine aan (fun g1=>?_) (fun g1=>?_)
  ·refine wpS_bind (af2 C p B (by omega) (by omega) ?_)
   dsimp only
   cases er:R (e (arrOf st) lo) (e (arrOf st) (lo+n - 1)) with
   | true=>rw [aF1 rfl];exact wpS_pure (h st n B n1 n2 as)
   | false =>
    rw [aF2 (by decide)]
    -- all of them are equal
    have c:∀ k,k < lo+n->S (e (arrOf st) k):=fun k J=>B.sat p (by omega)
    have all:Eqb R (arrOf st) lo (lo+n):=fun i j i1 r y w=>by
     -- j<=last<=first<=i
     have a1:=as j (lo+n - 1) y (by omega) (by omega)
     have a2:=as lo i (aA6 _) i1 r
     exact C.tr _ _ _ (c j w) (c lo (by omega)) (c i r) (C.tr _ _ _ (c j w) (c (lo+n - 1) (by omega)) (c lo (by omega)) a1 er) a2
    have de:Des R (arrOf st) lo (lo+n):=fun i j i1 r T=>all i j i1 (by omega) (by omega) T
    have hz:lo+n<=(arrOf st).size:=by rw [B.size];omega
    obtain ⟨q,a⟩:=ais C p B (aA6 lo) (show lo+n<=a0.size by omega) (aA6 _) (by omega) de all
    refine wpS_bind (wpS_modify ?_)
    refine L _ ⟨q,a,?_⟩
    show R (e (mirror (arrOf st) lo (lo+n) ((lo+n - lo) / 2)) (lo+n)) (e (mirror (arrOf st) lo (lo+n) ((lo+n - lo) / 2)) (lo+n - 1))=true
    rw [acs hz,acs hz,aF2 (by omega),aF1 (by omega)]
    rw [show lo+(lo+n) - 1 - (lo+n - 1)=lo by omega]
    cases e2:R (e (arrOf st) (lo+n)) (e (arrOf st) lo) with
    | true=>rfl
    | false =>
     have:=C.tr _ _ _ (c (lo+n - 1) (by omega)) (c lo (by omega)) (B.sat p (show lo+n < a0.size by omega)) er e2
     rw [this] at F;cases F
  ·have:n=1:=by omega
   subst this
   refine L st ⟨B,fun i j i1 r T=>?_,F⟩
   have:i=j:=by omega
   subst this
   exact C.irr (B.sat p (by omega))
 case pf =>
  -- the falling part
  refine wpS_bind (adl ?_)
  refine wpS_bind (wpS_mono (Q:=fun (z:Option (Option Nat) × Nat × Nat) st'=>z.1=none/\Bs κ p0 a0 lo st'/\z.2.1<=nrem/\z.2.2+1<=z.2.1/\Des R (arrOf st') lo (lo+z.2.1)/\Eqb R (arrOf st') (lo+z.2.1 - (z.2.2+1)) (lo+z.2.1)) ?_ ?_)
  ·refine wpS_forRange (fun t (z:Option (Option Nat) × Nat × Nat) st'=>z.1=none/\z.2.1=t/\Bs κ p0 a0 lo st'/\z.2.2+1<=z.2.1/\Des R (arrOf st') lo (lo+z.2.1)/\Eqb R (arrOf st') (lo+z.2.1 - (z.2.2+1)) (lo+z.2.1)) ?_ ?_ ⟨rfl,rfl,K,by dsimp only;omega,?_,fun i j i1 r y w=>?_⟩
   ·rintro t ⟨o,m,b⟩ d t1 t2 ⟨D,O,q,G,a,f⟩
    dsimp only at D O G a f ⊢
    subst D O
    have c:∀ k,k < a0.size->S (e (arrOf d) k):=fun k J=>q.sat p J
    refine wpS_bind (af2 C p q (by omega) (by omega) ?_)
    dsimp only
    cases er:R (e (arrOf d) (lo+m)) (e (arrOf d) (lo+m - 1)) with
    | true =>
     rw [aF1 rfl]
     refine aan (fun g=>?_) (fun g=>?_)
     ·have hz:lo+m<=(arrOf d).size:=by rw [q.size];omega
      obtain ⟨H,v⟩:=ais C p q (l:=lo+m - (b+1)) (h:=lo+m) (by omega) (by omega) (aA6 _) (by omega) a f
      have N:∀ k,e (mirror (arrOf d) (lo+m - (b+1)) (lo+m) ((lo+m - (lo+m - (b+1))) / 2)) k=if lo+m - (b+1)<=k/\k < lo+m then e (arrOf d) (lo+m - (b+1)+(lo+m) - 1 - k) else e (arrOf d) k:=fun k=>acs hz k
      refine wpS_bind (wpS_modify ?_)
      refine wpS_pure ⟨rfl,rfl,H,by dsimp only;omega,?_,fun i j i1 r y w=>?_⟩
      ·show Des R (mirror (arrOf d) (lo+m - (b+1)) (lo+m) ((lo+m - (lo+m - (b+1))) / 2)) lo (lo+(m+1))
       refine afg C (h:=lo+m) (fun k J=>H.sat p (by omega)) (by omega) v ?_
       rw [N,N,aF1 (by omega),aF2 (by omega)]
       rw [show lo+m - (b+1)+(lo+m) - 1 - (lo+m - 1)=lo+m - (b+1) by omega]
       exact C.tr _ _ _ (c _ (by omega)) (c (lo+m - 1) (by omega)) (c _ (by omega)) (C.asy _ _ (c _ (by omega)) (c _ (by omega)) er) (a _ _ (by omega) (by omega) (by omega))
      ·dsimp only at i1 r y w
       have:i=j:=by omega
       subst this
       exact C.irr (H.sat p (by omega))
     ·have:b=0:=by omega
      subst this
      refine wpS_pure ⟨rfl,rfl,q,by dsimp only;omega,afg C (h:=lo+m) (fun k J=>c k (by omega)) (by omega) a (C.asy _ _ (c _ (by omega)) (c _ (by omega)) er),fun i j i1 r y w=>?_⟩
      dsimp only at i1 r y w
      have:i=j:=by omega
      subst this
      exact C.irr (c _ (by omega))
    | false =>
     rw [aF2 (by decide)]
     refine wpS_bind (af2 C p q (by omega) (by omega) ?_)
     dsimp only
     cases er2:R (e (arrOf d) (lo+m - 1)) (e (arrOf d) (lo+m)) with
     | true =>
      rw [aF1 rfl]
      exact wpS_pure ⟨rfl,q,by dsimp only;omega,G,a,f⟩
     | false =>
      rw [aF2 (by decide)]
      refine wpS_pure ⟨rfl,rfl,q,by dsimp only;omega,afg C (h:=lo+m) (fun k J=>c k (by omega)) (by omega) a er2,fun i j i1 r y w=>?_⟩
      dsimp only at i1 r y w
      by_cases ci:i=lo+m
      ·by_cases cj:j=lo+m
       ·rw [ci,cj];exact C.irr (c _ (by omega))
       ·rw [ci]
        exact C.tr _ _ _ (c j (by omega)) (c (lo+m - 1) (by omega)) (c _ (by omega)) (f (lo+m - 1) j (by omega) (by omega) (by omega) (by omega)) er
      ·by_cases cj:j=lo+m
       ·rw [cj]
        exact C.tr _ _ _ (c _ (by omega)) (c (lo+m - 1) (by omega)) (c i (by omega)) er2 (f i (lo+m - 1) (by omega) (by omega) (by omega) (by omega))
       ·exact f i j (by omega) (by omega) (by omega) (by omega)
   ·rintro ⟨o,m,b⟩ d ⟨D,O,q,G,a,f⟩
    dsimp only at D O G a f ⊢
    exact ⟨D,q,by omega,G,a,f⟩
   ·exact afg C (h:=lo+n) (fun k J=>K.sat p (by omega)) (by omega) de (C.asy _ _ (K.sat p (by omega)) (K.sat p (by omega)) X)
   ·dsimp only at i1 r y w
    have:i=j:=by omega
    subst this
    exact C.irr (K.sat p (by omega))
  ·rintro ⟨o,m,b⟩ d ⟨D,q,hm,G,a,f⟩
   dsimp only at D hm G a f ⊢
   subst D
   dsimp only
   refine ant (M:=M) (A:=A) (E:=E) (s:=s) (α:=Option Nat) (Q:=Q) (P:=fun I=>Bs κ p0 a0 lo I/\Des R (arrOf I) lo (lo+m)) (prog:=?prog2) (fun L=>?use2) (fun I ⟨H,v⟩=>?pf2)
   case use2 =>
    refine aan (fun g=>?_) (fun g=>?_)
    ·obtain ⟨H,v⟩:=ais C p q (l:=lo+m - (b+1)) (h:=lo+m) (by omega) (by omega) (aA6 _) (by omega) a f
     refine wpS_bind (wpS_modify ?_)
     exact L _ ⟨H,v⟩
    ·exact L _ ⟨q,a⟩
   case pf2 =>
    obtain ⟨B5,Y⟩:=asz C H (n:=m) (by omega) v
    refine wpS_bind (wpS_modify ?_)
    refine wpS_bind (alq C p B5 (by omega) hm hn Y fun n' a4 U Z _=>?_)
    exact wpS_pure (h _ n' B5 (by omega) U Z)
end
def flat (rs:List (List Keyed × Nat)):List Keyed:=(rs.map (·.1)).flatten
def pend:Nat->List (List Keyed × Nat)->List (Nat × Nat × Nat)
 | _,[]=>[]
 | k,(r,pw) :: t=>(k,r.length,pw) :: pend (k+r.length) t
theorem ahb:flat []=[]:=rfl
theorem abw (r:List Keyed × Nat) (t:List (List Keyed × Nat)):flat (r :: t)=r.1 ++ flat t:=rfl
theorem abo (p q:List (List Keyed × Nat)):flat (p ++ q)=flat p ++ flat q:=by simp [flat]
theorem ab4:∀ (k:Nat) (p q:List (List Keyed × Nat)),pend k (p ++ q)=pend k p ++ pend (k+(flat p).length) q
 | k,[],q=>by simp [pend,ahb]
 | k,(r,pw) :: t,q=>by
  simp only [List.cons_append,pend,abw,aB0,List.cons.injEq,true_and]
  rw [ab4 (k+r.length) t q,Nat.add_assoc]
theorem ado:∀ (k:Nat) (p:List (List Keyed × Nat)),(pend k p).length=p.length
 | _,[]=>rfl
 | k,(r,pw) :: t=>by simp [pend,ado _ t]
section
variable {M:Model} {A:Around} {E:Value->Shared->Prop} {s:Shared} {κ:SortKind} {S:Keyed->Prop} {R:Keyed->Keyed->Bool} {a0:Array Keyed}
structure Rn (κ:SortKind) (R:Keyed->Keyed->Bool) (a0:Array Keyed) (rs:List (List Keyed × Nat)) (rest:List Keyed) (st:SortSt):Prop where
 k:kindOf st = κ
 f:failedOf st=none
 arr:(arrOf st).toList=flat rs ++ rest
 pn:(pendingOf st).toList=pend 0 rs
 ok:∀ r∈rs,r.1 ≠ []/\Srt R r.1
 perm:(arrOf st).toList.Perm a0.toList
theorem avi {α:Type} (a b:List α) (x c y : α):((a ++ x :: y :: b).set a.length c).eraseIdx (a.length+1)=a ++ c :: b:=by
 rw [List.set_append_right _ _ (aA6 _),aI1,List.set_cons_zero,List.eraseIdx_append_of_length_le (by omega)]
 rw [show a.length+1 - a.length=1 by omega]
 rfl
theorem ah0 (C:Cmp M A E s κ S R) (y:∀ x∈a0.toList,S x) {st:SortSt} {rs:List (List Keyed × Nat)} {rest:List Keyed} (N:Rn κ R a0 rs rest st) {i:Nat} (hi:i+1 < rs.length) {Q:Bool->SortSt->Prop}
  (h:∀ st' o,Rn κ R a0 o rest st'->o.length+1=rs.length->(flat o).length=(flat rs).length->Q true st'):wpS M A E s (alo i) Q st:=by
 obtain ⟨p,a,pw,b,pw2,q,e,F⟩:∃ p a pw b pw2 q,rs=p ++ (a,pw) :: (b,pw2) :: q/\p.length=i:=by
  have H:rs=rs.take i ++ rs.drop i:=(aC0 i rs).symm
  have hd:rs.drop i=rs[i] :: rs[i+1] :: rs.drop (i+2):=by
   rw [List.drop_eq_getElem_cons (by omega),List.drop_eq_getElem_cons hi]
  exact ⟨rs.take i,rs[i].1,rs[i].2,rs[i+1].1,rs[i+1].2,rs.drop (i+2),by rw [← hd];exact H,by simp;omega⟩
 subst F
 have d:=N.ok (a,pw) (by rw [e];simp)
 have j:=N.ok (b,pw2) (by rw [e];simp)
 have n:(pendingOf st).toList=pend 0 p ++ ((flat p).length,a.length,pw) :: ((flat p).length+a.length,b.length,pw2) :: pend ((flat p).length+a.length+b.length) q:=by
  rw [N.pn,e,ab4];simp [pend]
 have c:(pend 0 p).length=p.length:=ado 0 p
 have g:(arrOf st).toList=flat p ++ a ++ b ++ (flat q ++ rest):=by
  rw [N.arr,e,abo,abw,abw];simp [aB3]
 refine apc C (i:=p.length) (pw:=pw) (pw2:=pw2) g (fun x D=>y x (N.perm.mem_iff.mp D)) ?_ ?_ d.1 j.1 d.2 j.2 N.k N.f fun st' m G v w u pm B=>?_
 ·rw [← aD3,n,aC7 (by omega),c,aI1];rfl
 ·rw [← aD3,n,aC7 (by omega),c,show p.length+1 - p.length=1 by omega];rfl
 ·refine h st' (p ++ (m,pw) :: q) ⟨G,v,?_,?_,fun r l=>?_,?_⟩ (by rw [e];simp;omega) ?_
  ·rw [u,abo,abw];simp [aB3]
  ·rw [w,Array.toList_eraseIdxIfInBounds,Array.toList_setIfInBounds,n,← c,avi,ab4]
   simp [pend,pm.length_eq,Nat.add_assoc]
  ·rcases aA7.mp l with l | l
   ·exact N.ok r (by rw [e];simp [l])
   ·rcases aA8.mp l with rfl | l
    ·refine ⟨?_,B⟩
     intro z
     have:=pm.length_eq
     have I:m=[]:=z
     rw [I] at this
     have:=aF5.mpr d.1
     simp at *
     omega
    ·exact N.ok r (by rw [e];simp [l])
  ·rw [u]
   refine List.Perm.trans ?_ N.perm
   rw [g]
   have:(flat p ++ a ++ b ++ (flat q ++ rest))=flat p ++ (a ++ b) ++ (flat q ++ rest):=by simp [aB3]
   rw [this]
   exact (pm.append_left (flat p)).append_right _
  ·rw [e,abo,abo,abw,abw,abw]
   simp [pm.length_eq]
   omega
theorem Rn.run {rs:List (List Keyed × Nat)} {rest:List Keyed} {st st':SortSt} {n:Nat} (N:Rn κ R a0 rs rest st) (B:Bs κ (pendingOf st) (arrOf st) (flat rs).length st') (u:1<=n) (hn:(flat rs).length+n<=(arrOf st).size) (as:Asc R (arrOf st') (flat rs).length ((flat rs).length+n)) :
  ∃ r a,r.length=n/\r ≠ []/\Srt R r/\Rn κ R a0 rs (r ++ a) st':=by
 have hsz:=B.size
 have d:(arrOf st').toList.take (flat rs).length=flat rs:=by
  have s:(arrOf st').toList.take (flat rs).length=(arrOf st).toList.take (flat rs).length:=by
   apply aF8
   intro k
   rw [List.getElem?_take,List.getElem?_take]
   split
   ·rename_i c
    have:=B.pre k c
    simpa using this
   ·rfl
  rw [s,N.arr,List.take_left]
 refine ⟨((arrOf st').toList.drop (flat rs).length).take n,((arrOf st').toList.drop (flat rs).length).drop n,?_,?_,?_,B.k,B.f,?_,?_,N.ok,B.perm.trans N.perm⟩
 ·simp;omega
 ·intro z
  have:=congrArg List.length z
  simp at this
  omega
 ·unfold Srt
  rw [aG3]
  intro i j hi h q
  have b:j < n:=by simp at h;omega
  have get:∀ k,k < n->∀ (c:k < (((arrOf st').toList.drop (flat rs).length).take n).length),(((arrOf st').toList.drop (flat rs).length).take n)[k]=e (arrOf st') ((flat rs).length+k):=by
   intro k c l
   rw [List.getElem_take,List.getElem_drop]
   have o:=ahz (xs:=arrOf st') (k:=(flat rs).length+k) (by omega)
   have m:(flat rs).length+k < (arrOf st').toList.length:=by simp;omega
   have g:(arrOf st').toList[(flat rs).length+k]?=some (e (arrOf st') ((flat rs).length+k)):=by simpa using o
   rw [aA0 m] at g
   exact aC5 g
  rw [get i (by omega) hi,get j b h]
  exact as _ _ (by omega) (by omega) (by omega)
 ·rw [aC0]
  conv=>lhs;rw [← aC0 (flat rs).length (arrOf st').toList,d]
 ·rw [B.p];exact N.pn
theorem Rn.bs {rs:List (List Keyed × Nat)} {rest:List Keyed} {st:SortSt} (N:Rn κ R a0 rs rest st):Bs κ (pendingOf st) (arrOf st) (flat rs).length st:=⟨N.k,N.f,rfl,List.Perm.refl _,fun _ _=>rfl⟩
theorem Rn.size {rs:List (List Keyed × Nat)} {rest:List Keyed} {st:SortSt} (N:Rn κ R a0 rs rest st):(arrOf st).size=a0.size:=by
 have:=N.perm.length_eq;simpa using this
theorem Rn.len {rs:List (List Keyed × Nat)} {rest:List Keyed} {st:SortSt} (N:Rn κ R a0 rs rest st):(flat rs).length+rest.length=a0.size:=by
 have:=congrArg List.length N.arr
 have a:=N.size
 simp at this
 omega
theorem as0 {rs:List (List Keyed × Nat)} (h:∀ r∈rs,r.1 ≠ []):rs.length<=(flat rs).length:=by
 induction rs with
 | nil=>simp [flat]
 | cons r t ih =>
  rw [abw,aB0,aE2]
  have:=ih fun q a=>h q (aB4 _ a)
  have:=aF5.mpr (h r aB7)
  omega
theorem alr {α:Type} (f : α->α):∀ (l:List α) (x : α),(l ++ [x]).modify l.length f=l ++ [f x]
 | [],x=>rfl
 | y :: l,x=>by
  show (y :: (l ++ [x])).modify (l.length+1) f=_
  rw [List.modify_succ_cons,alr f l x];rfl
theorem am3 {α:Type} (arr:Array α) (f : α->α) {l:List α} {x : α} (h:arr.toList=l ++ [x]):(arr.modify (arr.size - 1) f).toList=l ++ [f x]:=by
 have a:arr.size=l.length+1:=by have:=congrArg List.length h;simpa using this
 rw [Array.toList_modify,h,a,show l.length+1 - 1=l.length by omega]
 exact alr f l x
theorem avj {α:Type} (arr:Array α) {l:List α} {x : α} (h:arr.toList=l ++ [x]):arr.back?=some x:=by
 have a:arr.size=l.length+1:=by have:=congrArg List.length h;simpa using this
 rw [Array.back?_eq_getElem?,← aD3,h,a]
 simp
theorem anu:∀ (rs:List (List Keyed × Nat)),rs ≠ []->∃ p x,rs=p ++ [x]
 | rs,h=>⟨rs.dropLast,rs.getLast h,(List.dropLast_concat_getLast h).symm⟩
theorem Rn.push {rs:List (List Keyed × Nat)} {r rest:List Keyed} {st st':SortSt} (N:Rn κ R a0 rs (r ++ rest) st) (d:r ≠ []) (c:Srt R r) (k:kindOf st'=kindOf st) (f:failedOf st'=failedOf st) (a:arrOf st'=arrOf st)
  (p:pendingOf st'=(pendingOf st).push ((flat rs).length,r.length,0)):Rn κ R a0 (rs ++ [(r,0)]) rest st':=by
 refine ⟨k.trans N.k,f.trans N.f,?_,?_,fun q b=>?_,by rw [a];exact N.perm⟩
 ·rw [a,N.arr,abo];simp [flat,aB3]
 ·rw [p,Array.toList_push,N.pn,ab4];simp [pend]
 ·rcases aA7.mp b with b | b
  ·exact N.ok q b
  ·have:q=(r,0):=by simpa using b
   subst this;exact ⟨d,c⟩
theorem Rn.pow {rs:List (List Keyed × Nat)} {rest:List Keyed} {st st':SortSt} {pw:Nat} (N:Rn κ R a0 rs rest st) (hz:rs ≠ []) (k:kindOf st'=kindOf st) (f:failedOf st'=failedOf st) (a:arrOf st'=arrOf st)
  (p:pendingOf st'=(pendingOf st).modify ((pendingOf st).size - 1) fun x=>(x.1,x.2.1,pw)):∃ g,Rn κ R a0 g rest st'/\(flat g).length=(flat rs).length:=by
 obtain ⟨q,⟨b,c⟩,e⟩:=anu rs hz
 subst e
 have h:(pendingOf st).toList=pend 0 q ++ [((flat q).length,b.length,c)]:=by rw [N.pn,ab4];simp [pend]
 refine ⟨q ++ [(b,pw)],⟨k.trans N.k,f.trans N.f,?_,?_,fun x d=>?_,by rw [a];exact N.perm⟩,by simp [abo,abw,ahb]⟩
 ·rw [a,N.arr];simp [abo,abw,ahb]
 ·rw [p,am3 _ _ h,ab4];simp [pend]
 ·rcases aA7.mp d with d | d
  ·exact N.ok x (by simp [d])
  ·have:x=(b,pw):=by simpa using d
   subst this
   exact N.ok (b,c) (by simp)
theorem ax7 {c:Prop} [Decidable c] {x y z:Nat} (b:x+1 < z) (a:y+1 < z):(if c then x else y)+1 < z:=by
 split
 ·exact b
 ·exact a
theorem Rn.powK {rs:List (List Keyed × Nat)} {rest:List Keyed} {st st':SortSt} {pw:Nat} {G:SortSt->Prop} (N:Rn κ R a0 rs rest st) (hz:rs ≠ []) (h:∀ b,Rn κ R a0 b rest st'->(flat b).length=(flat rs).length->G st') (k:kindOf st'=kindOf st) (f:failedOf st'=failedOf st) (a:arrOf st'=arrOf st)
  (p:pendingOf st'=(pendingOf st).modify ((pendingOf st).size - 1) fun x=>(x.1,x.2.1,pw)):G st':=by
 obtain ⟨b,c,d⟩:=N.pow hz k f a p
 exact h b c d
theorem avk (C:Cmp M A E s κ S R) (hS:∀ x∈a0.toList,S x) {st:SortSt} (h0:arrOf st=a0) (hk:kindOf st = κ) (hf:failedOf st=none) (hp:pendingOf st = #[]) {Q:Unit->SortSt->Prop}
  (h:∀ st',failedOf st'=none->(arrOf st').toList.Perm a0.toList->Srt R (arrOf st').toList->Q () st'):wpS M A E s azp Q st:=by
 have o:(arrOf st).size=a0.size:=by rw [h0]
 refine wpS_bind (wpS_get ?_)
 dsimp only
 refine wpS_bind (wpS_mono (Q:=fun (c:Option Unit × Nat) v=>c.1=none/\∃ rs,Rn κ R a0 rs [] v) ?_ ?_)
 ·refine wpS_forRange (fun i (c:Option Unit × Nat) v=>c.1=none/\∃ rs rest,Rn κ R a0 rs rest v/\c.2=(flat rs).length/\i<=c.2) ?_ ?_ ⟨rfl,[],a0.toList,⟨hk,hf,by rw [h0];rfl,by rw [hp];rfl,fun r J=>(by cases J),by rw [h0]⟩,rfl,aA6 _⟩
  ·rintro i ⟨c1,lo⟩ v _ hi ⟨F,rs,rest,N,Y,D⟩
   dsimp only at F Y D ⊢
   subst F Y
   have U:=N.len
   have b2:i < a0.size:=by rw [← o];exact hi
   refine aan (fun a6=>?_) (fun a4=>?_)
   ·have b0:a0.size<=(flat rs).length:=by rw [← o];exact a6
    refine wpS_pure ⟨rfl,rs,?_⟩
    have:rest=[]:=aG8 (by omega)
    subst this
    exact N
   ·have a9:(flat rs).length < a0.size:=by
     have:¬ (flat rs).length ≥ (arrOf st).size:=a4
     omega
    refine wpS_bind (aq4 C (fun x hx=>hS x (N.perm.mem_iff.mp hx)) N.bs (nrem:=(arrOf st).size - (flat rs).length) (by omega) (by rw [N.size];omega) fun b4 n B2 n1 n2 T=>?_)
    dsimp only
    have y:=N.size
    refine aan (fun m=>?g1) (fun m=>?g2)
    case' g1 =>
     refine wpS_bind (adl ?_)
     generalize hmr:min (_:Nat) _=nn
     refine wpS_bind (apd C (fun x hx=>hS x (N.perm.mem_iff.mp hx)) B2 (n:=nn) (ok:=n) ?_ ?_ ?_ T fun b1 B3 a7=>?_)
     ·have:nn<=(arrOf st).size - (flat rs).length:=by rw [← hmr];exact Nat.min_le_left _ _
      rw [y];omega
     ·rw [← hmr];exact Nat.le_min.mpr ⟨n2,aG1 m⟩
     ·have:n<=nn:=by rw [← hmr];exact Nat.le_min.mpr ⟨n2,aG1 m⟩
      omega
     rw [aF2 (by decide)]
     have O:1<=nn:=by
      have:n<=nn:=by rw [← hmr];exact Nat.le_min.mpr ⟨n2,aG1 m⟩
      omega
     have a8:nn<=(arrOf st).size - (flat rs).length:=by rw [← hmr];exact Nat.min_le_left _ _
     obtain ⟨r,g,J,B,H,L⟩:=N.run B3 O (by rw [y];omega) a7
     clear hmr
     subst J
    case' g2 =>
     obtain ⟨r,g,J,B,H,L⟩:=N.run B2 n1 (by rw [y];omega) T
     clear m
     subst J
    all_goals
     refine wpS_bind (wpS_get ?_)
     rcases Classical.em (rs=[]) with hz | hz
     ·have w:=L.pn
      rw [hz] at w
      have hb:=Array.back?_eq_none_iff.mpr (Array.toList_eq_nil_iff.mp w)
      rw [hb]
      dsimp only
      refine wpS_bind (wpS_modify (wpS_pure ⟨rfl,rs ++ [(r,0)],g,L.push B H rfl rfl rfl rfl,?_,?_⟩))
      ·rw [abo,aB0];simp [flat]
      ·have:=aF5.mpr B
       show i+1<=(flat rs).length+r.length
       omega
     ·obtain ⟨q,⟨b,P⟩,eq⟩:=anu rs hz
      have w:=L.pn
      rw [eq,ab4,show pend (0+(flat q).length) [(b,P)]=[((flat q).length,b.length,P)] by simp [pend]] at w
      have hb:=avj _ w
      rw [hb]
      dsimp only
      refine wpS_bind (wpS_mono (Q:=fun (c:Option Unit × Unit) d=>c.1=none/\∃ a,Rn κ R a0 a (r ++ g) d/\a ≠ []/\(flat a).length=(flat rs).length) ?_ ?_)
      ·refine wpS_forRange (fun _ (c:Option Unit × Unit) d=>c.1=none/\∃ a,Rn κ R a0 a (r ++ g) d/\a ≠ []/\(flat a).length=(flat rs).length) ?_ (fun c d h4=>h4) ⟨rfl,rs,L,hz,rfl⟩
       rintro i4 ⟨c4,Z⟩ d _ _ ⟨u,a,l,X,p⟩
       dsimp only at u
       subst u
       refine wpS_bind (wpS_get ?_)
       have W:(pendingOf d).size=a.length:=by
        have:=congrArg List.length l.pn
        rw [ado] at this
        simpa using this
       by_cases K:(pendingOf d).size > 1
       ·rw [aF1 K]
        obtain ⟨x4,a1⟩:∃ x4,(pendingOf d)[(pendingOf d).size - 2]?=some x4:=⟨_,aA4 (by omega)⟩
        obtain ⟨y1,y2,y3⟩:=x4
        rw [a1]
        dsimp only
        refine aan (fun _=>wpS_pure ⟨rfl,a,l,X,p⟩) (fun _=>?_)
        rw [W]
        refine wpS_bind (ah0 C hS l (i:=a.length - 2) (by omega) fun a2 I N5 l5 f5=>?_)
        rw [aF2 (by decide)]
        refine wpS_pure ⟨rfl,I,N5,?_,by omega⟩
        rintro rfl
        simp at l5
        omega
       ·rw [aF2 K]
        exact wpS_pure ⟨rfl,a,l,X,p⟩
      ·rintro ⟨c4,Z⟩ d ⟨u,a,l,X,p⟩
       dsimp only at u ⊢
       subst u
       dsimp only
       refine wpS_bind (wpS_modify ?_)
       refine l.powK (G:=fun z=>wpS M A E s _ _ z) X (fun a3 N6 l6=>?_) rfl rfl rfl rfl
       refine wpS_bind (wpS_modify (wpS_pure ⟨rfl,a3 ++ [(r,0)],g,N6.push B H rfl rfl rfl ?_,?_,?_⟩))
       ·rw [l6,p]
       ·rw [abo,aB0,l6,p];simp [flat]
       ·have:=aF5.mpr B
        show i+1<=(flat rs).length+r.length
        omega
  ·rintro ⟨c1,lo⟩ v ⟨F,rs,rest,N,Y,D⟩
   dsimp only at F Y D ⊢
   refine ⟨F,rs,?_⟩
   have U:=N.len
   have a5:(arrOf st).size<=lo:=aC9 (Nat.le_max_right 0 _) D
   have:rest=[]:=aG8 (by rw [o] at a5;omega)
   subst this
   exact N
 ·rintro ⟨c1,lo⟩ v ⟨F,rs,N⟩
  dsimp only at F ⊢
  subst F
  dsimp only
  refine wpS_bind (wpS_mono (Q:=fun (c:Option Unit × Unit) d=>c.1=none/\∃ a,Rn κ R a0 a [] d/\a.length<=1) ?_ ?_)
  ·refine wpS_forRange (fun j (c:Option Unit × Unit) d=>c.1=none/\∃ a,Rn κ R a0 a [] d/\(a.length<=1\/a.length+j<=a0.size)) ?_ ?_ ⟨rfl,rs,N,.inr ?_⟩
   ·rintro j ⟨c4,Z⟩ d _ _ ⟨u,a,l,p⟩
    dsimp only at u
    subst u
    refine wpS_bind (wpS_get ?_)
    have W:(pendingOf d).size=a.length:=by
     have:=congrArg List.length l.pn
     rw [ado] at this
     simpa using this
    refine aan (fun K=>wpS_pure ⟨rfl,a,l,?_⟩) (fun K=>?_)
    ·have:(pendingOf d).size<=1:=K
     omega
    ·have b3:¬ (pendingOf d).size<=1:=K
     refine wpS_bind (ah0 C hS l (i:=_) ?_ fun a2 I N5 l5 f5=>?_)
     ·refine ax7 ?_ ?_
      ·show (pendingOf d).size - 2 - 1+1 < a.length
       omega
      ·show (pendingOf d).size - 2+1 < a.length
       omega
     rw [aF2 (by decide)]
     exact wpS_pure ⟨rfl,I,N5,by omega⟩
   ·rintro ⟨c4,Z⟩ d ⟨u,a,l,p⟩
    refine ⟨u,a,l,?_⟩
    rcases p with p | p
    ·exact p
    ·have:(arrOf st).size<=max 0 (arrOf st).size:=Nat.le_max_right _ _
     have h3:a.length+max 0 (arrOf st).size<=a0.size:=p
     omega
   ·have:=as0 fun r J=>(N.ok r J).1
    have:=N.len
    omega
  ·rintro ⟨c4,Z⟩ d ⟨u,a,l,p⟩
   dsimp only at u ⊢
   subst u
   dsimp only
   refine wpS_pure (h d l.f l.perm ?_)
   rw [l.arr]
   match a,p with
   | [],_=>exact List.Pairwise.nil
   | [x],_=>simpa [flat] using (l.ok x (by simp)).2
end
end TS
namespace L2
open PySem PySem.Spec PyProof.Rows
mutual
inductive Rep (H:Hp):V->PyData->Prop
 | non:Rep H .non .none
 | bl (b:Bool):Rep H (.bl b) (.bool b)
 | int (i:Int):Rep H (.int i) (.int i)
 | str (x:Str):Rep H (.str x) (.str x)
 | lst {a:Addr} {xs:List V} {ds:List PyData}:H a=some (.lst xs)->Reps H xs ds->Rep H (.ref a) (.list ds)
 | tup {a:Addr} {xs:List V} {ds:List PyData}:H a=some (.tup xs)->Reps H xs ds->Rep H (.ref a) (.tuple ds)
inductive Reps (H:Hp):List V->List PyData->Prop
 | nil:Reps H [] []
 | cons {v:V} {vs:List V} {d:PyData} {ds:List PyData}:Rep H v d->Reps H vs ds->Reps H (v :: vs) (d :: ds)
end
mutual
theorem Rep.same {H H':Hp} (s:Same H H'):∀ {v:V} {d:PyData},Rep H v d->Rep H' v d
 | _,_,.non => .non
 | _,_,.bl b => .bl b
 | _,_,.int i => .int i
 | _,_,.str x => .str x
 | _,_,.lst h r => .lst (s _ _ h) (Reps.same s r)
 | _,_,.tup h r => .tup (s _ _ h) (Reps.same s r)
theorem Reps.same {H H':Hp} (s:Same H H'):∀ {vs:List V} {ds:List PyData},Reps H vs ds->Reps H' vs ds
 | _,_,.nil => .nil
 | _,_,.cons r t => .cons (Rep.same s r) (Reps.same s t)
end
theorem Reps.length {H:Hp}:∀ {vs:List V} {ds:List PyData},Reps H vs ds->vs.length=ds.length
 | _,_,.nil=>rfl
 | _,_,.cons _ t=>by simp [Reps.length t]
theorem Reps.get {H:Hp}:∀ {vs:List V} {ds:List PyData} {i:Nat} {d:PyData},Reps H vs ds->ds[i]?=some d->∃ v,vs[i]?=some v/\Rep H v d
 | _,_,_,_,.nil,e=>by simp at e
 | _,_,0,_,.cons r _,e=>by simp at e;subst e;exact ⟨_,rfl,r⟩
 | _,_,i+1,d,.cons _ t,e=>by
  obtain ⟨u,b,a⟩:=Reps.get (i:=i) (d:=d) t (by simpa using e)
  exact ⟨u,by simpa using b,a⟩
theorem Reps.append {H:Hp}:∀ {vs a:List V} {ds es:List PyData},Reps H vs ds->Reps H a es->Reps H (vs ++ a) (ds ++ es)
 | _,_,_,_,.nil,s=>s
 | _,_,_,_,.cons r t,s => .cons r (Reps.append t s)
section
variable {X:Cx} {pins:List (Addr × Obj)} {σ:St} {H:Hp} {s:Shared}
mutual
theorem Rep.reads (I:Inv X pins σ H s):∀ {v:V} {d:PyData} {u:Value},Rep H v d->RelV v u->∃ as,Reads s.heap u d as
 | _,_,_,.non,r=>by cases r;exact ⟨_,.none⟩
 | _,_,_,.bl b,r=>by cases r;exact ⟨_,.bool b⟩
 | _,_,_,.int i,r=>by obtain ⟨t,rfl⟩:=r;exact ⟨_,.int i t⟩
 | _,_,_,.str x,r=>by obtain ⟨t,rfl⟩:=r;exact ⟨_,.str x t⟩
 | _,_,_,.lst (a:=a) (xs:=xs) h q,r=>by
  cases r
  obtain ⟨_,its,n,g,e⟩:=(show ObjOk X.prog X.w H s.heap a (.lst xs) from I.hok a _ h)
  obtain ⟨as,f⟩:=Reps.reads I q g
  exact ⟨_,.list e rfl rfl (by simpa using f)⟩
 | _,_,_,.tup (a:=a) (xs:=xs) h q,r=>by
  cases r
  obtain ⟨_,its,g,o,e,c,n,dd⟩:=(show ObjOk X.prog X.w H s.heap a (.tup xs) from I.hok a _ h)
  obtain ⟨as,f⟩:=Reps.reads I q g
  exact ⟨_,.tuple e c dd (by simpa using f)⟩
theorem Reps.reads (I:Inv X pins σ H s):∀ {vs:List V} {ds:List PyData} {us:List Value},Reps H vs ds->Vals vs us->∃ as,ReadsAll s.heap us ds as
 | _,_,_,.nil,.nil=>⟨_,.nil⟩
 | _,_,_,.cons r t,.cons q qs=>by
  obtain ⟨as,a⟩:=Rep.reads I r q
  obtain ⟨bs,rb⟩:=Reps.reads I t qs
  exact ⟨_,.cons a rb⟩
end
end
mutual
def aas:PyData->Bool
 | .none | .int _=>true
 | .list xs | .tuple xs=>plainDs xs
 | _=>false
def plainDs:List PyData->Bool
 | []=>true
 | x :: xs=>aas x && plainDs xs
end
mutual
theorem adw:∀ (d:PyData),aas d=true->d.canLay0=true
 | .none,_=>by simp [PyData.canLay0]
 | .int _,_=>by simp [PyData.canLay0]
 | .list xs,h=>by simp only [PyData.canLay0];exact plain_lays xs (by simpa [aas] using h)
 | .tuple xs,h=>by simp only [PyData.canLay0];exact plain_lays xs (by simpa [aas] using h)
 | .bool _,h=>by simp [aas] at h
 | .str _,h=>by simp [aas] at h
 | .dict _,h=>by simp [aas] at h
theorem plain_lays:∀ (ds:List PyData),plainDs ds=true->PyData.canLayAll0 ds=true
 | [],_=>by simp [PyData.canLayAll0]
 | x :: xs,h=>by
  have h':aas x=true/\plainDs xs=true:=by simpa [plainDs] using h
  simp only [PyData.canLayAll0,adw x h'.1,plain_lays xs h'.2,Bool.and_self]
end
mutual
theorem ajn:∀ (d e:PyData),aas d=true->aas e=true->(PyData.eqv d e=true ↔ d=e)
 | .none,e,_,h=>by cases e <;> simp_all [aas,PyData.eqv]
 | .int i,e,_,h=>by cases e <;> simp_all [aas,PyData.eqv]
 | .list xs,e,g,h=>by
  cases e with
  | list ys=>simp only [PyData.eqv,PyData.list.injEq];exact eqvAll_plain xs ys (by simpa [aas] using g) (by simpa [aas] using h)
  | _=>simp_all [aas,PyData.eqv]
 | .tuple xs,e,g,h=>by
  cases e with
  | tuple ys=>simp only [PyData.eqv,PyData.tuple.injEq];exact eqvAll_plain xs ys (by simpa [aas] using g) (by simpa [aas] using h)
  | _=>simp_all [aas,PyData.eqv]
 | .bool _,_,h,_=>by simp [aas] at h
 | .str _,_,h,_=>by simp [aas] at h
 | .dict _,_,h,_=>by simp [aas] at h
theorem eqvAll_plain:∀ (ds es:List PyData),plainDs ds=true->plainDs es=true->(PyData.eqvAll ds es=true ↔ ds=es)
 | [],[],_,_=>by simp [PyData.eqvAll]
 | [],_ :: _,_,_=>by simp [PyData.eqvAll]
 | _ :: _,[],_,_=>by simp [PyData.eqvAll]
 | x :: xs,y :: ys,g,h=>by
  have g':aas x=true/\plainDs xs=true:=by simpa [plainDs] using g
  have h':aas y=true/\plainDs ys=true:=by simpa [plainDs] using h
  simp only [PyData.eqvAll,aG7,List.cons.injEq,ajn x y g'.1 h'.1,eqvAll_plain xs ys g'.2 h'.2]
end
theorem aco (ds:List PyData):plainDs ds=true ↔ ∀ d∈ds,aas d=true:=by
 induction ds with
 | nil=>simp [plainDs]
 | cons d ds ih=>simp [plainDs,ih]
def rNeD:R2:=fun x y H Q=>∃ d e,Rep H x d/\Rep H y e/\aas d=true/\aas e=true/\d.depth<=60/\Q (.bl (!PyData.eqv d e)) H
section
variable {X:Cx}
theorem aee (j:X.A.units+64 < cLine):OpR X (compareOp .NotEq) rNeD:=by
 intro pins s σ H x y v u Q I c b h
 obtain ⟨d,e,i,a,hd,g,hz,q⟩:=h
 obtain ⟨as,f⟩:=i.reads I c
 obtain ⟨bs,rb⟩:=a.reads I b
 refine SeqAt.compareNe_reads f rb (adw _ hd) (adw _ g) ?_ ⟨.bl _,H,I,rfl,q⟩
 have:=Nat.min_le_left d.depth e.depth
 omega
def rInD (neg:Bool):R2:=fun x y H Q=>∃ d es,Rep H x d/\(Rep H y (.list es)\/Rep H y (.tuple es))/\aas d=true/\plainDs es=true/\d.depth<=60/\Q (.bl (if neg then !es.any (fun z=>PyData.eqv z d) else es.any (fun z=>PyData.eqv z d))) H
theorem ajo (j:X.A.units+64 < cLine):OpR X (compareOp .NotIn) (rInD true):=by
 intro pins s σ H x y v u Q I g b h
 obtain ⟨d,es,i,a,hd,f,hz,q⟩:=h
 obtain ⟨as,c⟩:=i.reads I g
 have hm:=Nat.min_le_right (PyData.depthAll es) d.depth
 rcases a with a | a
 ·obtain ⟨bs,rb⟩:=a.reads I b
  exact SeqAt.notIn_list_reads rb c (plain_lays _ f) (adw _ hd) (by omega) ⟨.bl _,H,I,rfl,q⟩
 ·obtain ⟨bs,rb⟩:=a.reads I b
  exact SeqAt.notIn_tuple_reads rb c (plain_lays _ f) (adw _ hd) (by omega) ⟨.bl _,H,I,rfl,q⟩
def rIsi (K:Frag):List V->Hp->VK->Prop:=fun xs H Q=>∃ (x:V) (T:String) (t:Value) (b:Bool),xs=[x,.ty T]/\TyOf K H x t/\kitOne K t (.type T)=some b/\Q (.bl b) H
theorem act:aa1 X (.builtin "isinstance") (rIsi X.K):=by
 intro pins s σ H xs us Q I r h
 obtain ⟨x,T,t,b,rfl,ty,e,q⟩:=h
 obtain ⟨u,c,rfl,a,d⟩:=ao3 r
 cases d
 exact aql I a ty e fun f=>⟨.bl b,H,I.tok _,rfl,q⟩
end
end L2
namespace HT
open PySem PyProof.Rows
section
open PySem.SeqAt
open PySem.AutoSeq1 (wpAny_loadPart')
open PySem.MeetsSeq PySem.MeetsSeq2 PySem.MeetsSeq3
end
section
variable {prog:Program} {w:World} {A:Around} {E:Value->Shared->Prop} {s:Shared}
end
end HT
namespace L2
open PySem PySem.Spec PyProof.Rows
section
variable {X:Cx}
end
end L2
namespace HT
open PySem PyProof.Rows
theorem ait (val:Nat->Int):∀ k,argBest (fun i j=>decide (val i > val j)) k<=k/\∀ i,i<=k->val i<=val (argBest (fun i j=>decide (val i > val j)) k)
 | 0 => ⟨Nat.le_refl _, fun i hi => by have:i=0 := by omega
                                       subst this;exact Int.le_refl _⟩
 | k+1=>by
  obtain ⟨b,a⟩:=ait val k
  unfold argBest
  by_cases hc:val (k+1) > val (argBest (fun i j=>decide (val i > val j)) k)
  ·rw [aF1 (aD5 hc)]
   refine ⟨aA6 _,fun i hi=>?_⟩
   by_cases e:i=k+1
   ·subst e;exact Int.le_refl _
   ·have:=a i (by omega)
    exact Int.le_trans this (Int.le_of_lt hc)
  ·rw [aF2 (by simpa using hc)]
   refine ⟨by omega,fun i hi=>?_⟩
   by_cases e:i=k+1
   ·subst e;omega
   ·exact a i (by omega)
theorem aiu (val:Nat->Int):∀ k,argBest (fun i j=>decide (val i < val j)) k<=k/\∀ i,i<=k->val (argBest (fun i j=>decide (val i < val j)) k)<=val i
 | 0 => ⟨Nat.le_refl _, fun i hi => by have:i=0 := by omega
                                       subst this;exact Int.le_refl _⟩
 | k+1=>by
  obtain ⟨b,a⟩:=aiu val k
  unfold argBest
  by_cases hc:val (k+1) < val (argBest (fun i j=>decide (val i < val j)) k)
  ·rw [aF1 (aD5 hc)]
   refine ⟨aA6 _,fun i hi=>?_⟩
   by_cases e:i=k+1
   ·subst e;exact Int.le_refl _
   ·have:=a i (by omega)
    exact Int.le_trans (Int.le_of_lt hc) this
  ·rw [aF2 (by simpa using hc)]
   refine ⟨by omega,fun i hi=>?_⟩
   by_cases e:i=k+1
   ·subst e;omega
   ·exact a i (by omega)
def val (ns:List Int) (i:Nat):Int:=(ns[i]?).getD 0
theorem ac1 {us:List Value} {ns:List Int} (hi:IntsAre us ns) (i:Nat) (v:Value) (h:us.toArray[i]?=some v):∃ t,v=.int (val ns i) t:=by
 induction hi generalizing i with
 | nil=>simp at h
 | cons n t r ih =>
  cases i with
  | zero=>simp at h;subst h;exact ⟨t,by simp [val]⟩
  | succ i =>
   obtain ⟨t',e⟩:=ih i (by simpa using h)
   exact ⟨t',by simpa [val] using e⟩
theorem agq {ns:List Int} {i:Nat} (h:i < ns.length):val ns i∈ns:=by
 unfold val
 rw [aA0 h]
 exact aE8 h
theorem ah1 {ns:List Int} {x:Int} (h:x∈ns):∃ i,i < ns.length/\val ns i=x:=by
 obtain ⟨i,hi,e⟩:=aH2.mp h
 exact ⟨i,hi,by unfold val;rw [aA0 hi];exact e⟩
section
variable {prog:Program} {w:World} {A:Around} {E:Value->Shared->Prop} {s:Shared}
theorem max_list {l:Addr} {us:List Value} {ns:List Int} {Q:Value->Shared->Prop} (hh:A.handled=none) (f:s.heap.IsList l us.toArray) (hi:IntsAre us ns) (g:ns ≠ [])
  (h:∀ m t h' c,m∈ns->(∀ x∈ns,x<=m)->(∀ b o,s.heap.get? b=some o->h'.get? b=some o)->Q (.int m t) { s with heap:=h',toks:=c }) :
  wpAny (model prog w) A (call (.builtin "max") [.ref l]) Q E s:=by
 have a:l < s.heap.objs.size:=by obtain ⟨_,e,_⟩:=f;exact aI8 e
 have hz:us.length=ns.length:=hi.length
 have z:0 < ns.length:=aF5.mpr g
 refine call_max_walk (aJ8 f ?_)
 refine ⟨_,[s.heap.objs.size,l],_,_,_,_,_,rfl,Walks.list (A:=A.in1) hh _ l (aB5 a) us.toArray,⟨⟨_,aI9 _ rfl,rfl,rfl⟩,f.push _⟩,fun b hb=>?_,by simp;omega,CmpOf.ints_gt (val ns) (fun i v=>ac1 hi i v),fun v h' c q n=>?_⟩
 ·show b < (s.heap.push _).objs.size
  rw [aJ5]
  rcases aA8.mp hb with rfl | hb
  ·exact aI3 _
  ·rcases aA8.mp hb with rfl | hb
   ·exact aF4 a
   ·cases hb
 ·obtain ⟨t,e⟩:=ac1 hi _ _ q
  obtain ⟨r,j⟩:=ait (val ns) (us.toArray.size - 1)
  have d:us.toArray.size=ns.length:=by simp [hz]
  rw [d] at r j
  subst e
  refine h _ t h' c (agq (by rw [d];omega)) (fun x u=>?_) fun b o e=>?_
  ·obtain ⟨i,p,e⟩:=ah1 u
   have:=j i (by omega)
   rw [e] at this
   rw [d]
   exact this
  ·refine n b o (fun hm=>?_) (aI7 _ e)
   rcases aA8.mp hm with y | hm
   ·exact absurd (y ▸ aI8 e) (aG0 _)
   ·cases hm
theorem min_list {l:Addr} {us:List Value} {ns:List Int} {Q:Value->Shared->Prop} (hh:A.handled=none) (f:s.heap.IsList l us.toArray) (hi:IntsAre us ns) (g:ns ≠ [])
  (h:∀ m t h' c,m∈ns->(∀ x∈ns,m<=x)->(∀ b o,s.heap.get? b=some o->h'.get? b=some o)->Q (.int m t) { s with heap:=h',toks:=c }) :
  wpAny (model prog w) A (call (.builtin "min") [.ref l]) Q E s:=by
 have a:l < s.heap.objs.size:=by obtain ⟨_,e,_⟩:=f;exact aI8 e
 have hz:us.length=ns.length:=hi.length
 have z:0 < ns.length:=aF5.mpr g
 refine call_min_walk (aJ8 f ?_)
 refine ⟨_,[s.heap.objs.size,l],_,_,_,_,_,rfl,Walks.list (A:=A.in1) hh _ l (aB5 a) us.toArray,⟨⟨_,aI9 _ rfl,rfl,rfl⟩,f.push _⟩,fun b hb=>?_,by simp;omega,CmpOf.ints_lt (val ns) (fun i v=>ac1 hi i v),fun v h' c q n=>?_⟩
 ·show b < (s.heap.push _).objs.size
  rw [aJ5]
  rcases aA8.mp hb with rfl | hb
  ·exact aI3 _
  ·rcases aA8.mp hb with rfl | hb
   ·exact aF4 a
   ·cases hb
 ·obtain ⟨t,e⟩:=ac1 hi _ _ q
  obtain ⟨r,j⟩:=aiu (val ns) (us.toArray.size - 1)
  have d:us.toArray.size=ns.length:=by simp [hz]
  rw [d] at r j
  subst e
  refine h _ t h' c (agq (by rw [d];omega)) (fun x u=>?_) fun b o e=>?_
  ·obtain ⟨i,p,e⟩:=ah1 u
   have:=j i (by omega)
   rw [e] at this
   rw [d]
   exact this
  ·refine n b o (fun hm=>?_) (aI7 _ e)
   rcases aA8.mp hm with y | hm
   ·exact absurd (y ▸ aI8 e) (aG0 _)
   ·cases hm
theorem max_tup {l:Addr} {us:List Value} {ns:List Int} {Q:Value->Shared->Prop} (hh:A.handled=none) (g:s.heap.IsTuple l us.toArray) (hi:IntsAre us ns) (j:ns ≠ [])
  (h:∀ m t h' d,m∈ns->(∀ x∈ns,x<=m)->(∀ b o,s.heap.get? b=some o->h'.get? b=some o)->Q (.int m t) { s with heap:=h',toks:=d }) :
  wpAny (model prog w) A.in1 (pyIter (.ref l)) (fun it a=>∃ I fp r n P St q,it=.ref I/\Walks prog w A.in1 I fp r n P St/\St 0 a.heap/\(∀ b∈fp,b < a.heap.objs.size)/\0 < n/\CmpOf prog w A.in1 .Gt P q /\
   ∀ v h' d,P (argBest q (n - 1)) v->(∀ b o,b ∉ r->a.heap.get? b=some o->h'.get? b=some o)->Q v { a with heap:=h',toks:=d }) E s:=by
 have c:l < s.heap.objs.size:=by obtain ⟨_,e,_⟩:=g;exact aI8 e
 have hz:us.length=ns.length:=hi.length
 have F:0 < ns.length:=aF5.mpr j
 refine wpAny_pyIter_tuple g ?_
 refine ⟨_,[s.heap.objs.size,l],[_],_,_,_,_,rfl,Walks.tuple (A:=A.in1) hh _ l (aB5 c) us.toArray,⟨⟨_,aI9 _ rfl,rfl,rfl⟩,g.push _⟩,fun b hb=>?_,by simp;omega,CmpOf.ints_gt (val ns) (fun i v=>ac1 hi i v),fun v h' d z u=>?_⟩
 ·show b < (s.heap.push _).objs.size
  rw [aJ5]
  rcases aA8.mp hb with rfl | hb
  ·exact aI3 _
  ·rcases aA8.mp hb with rfl | hb
   ·exact aF4 c
   ·cases hb
 ·obtain ⟨t,e⟩:=ac1 hi _ _ z
  obtain ⟨B,p⟩:=ait (val ns) (us.toArray.size - 1)
  have f:us.toArray.size=ns.length:=by simp [hz]
  rw [f] at B p
  subst e
  refine h _ t h' d (agq (by rw [f];omega)) (fun x C=>?_) fun b o e=>?_
  ·obtain ⟨i,y,e⟩:=ah1 C
   have:=p i (by omega)
   rw [e] at this
   rw [f]
   exact this
  ·refine u b o (fun hm=>?_) (aI7 _ e)
   rcases aA8.mp hm with D | hm
   ·exact absurd (D ▸ aI8 e) (aG0 _)
   ·cases hm
theorem min_tup {l:Addr} {us:List Value} {ns:List Int} {Q:Value->Shared->Prop} (hh:A.handled=none) (g:s.heap.IsTuple l us.toArray) (hi:IntsAre us ns) (j:ns ≠ [])
  (h:∀ m t h' d,m∈ns->(∀ x∈ns,m<=x)->(∀ b o,s.heap.get? b=some o->h'.get? b=some o)->Q (.int m t) { s with heap:=h',toks:=d }) :
  wpAny (model prog w) A.in1 (pyIter (.ref l)) (fun it a=>∃ I fp r n P St q,it=.ref I/\Walks prog w A.in1 I fp r n P St/\St 0 a.heap/\(∀ b∈fp,b < a.heap.objs.size)/\0 < n/\CmpOf prog w A.in1 .Lt P q /\
   ∀ v h' d,P (argBest q (n - 1)) v->(∀ b o,b ∉ r->a.heap.get? b=some o->h'.get? b=some o)->Q v { a with heap:=h',toks:=d }) E s:=by
 have c:l < s.heap.objs.size:=by obtain ⟨_,e,_⟩:=g;exact aI8 e
 have hz:us.length=ns.length:=hi.length
 have F:0 < ns.length:=aF5.mpr j
 refine wpAny_pyIter_tuple g ?_
 refine ⟨_,[s.heap.objs.size,l],[_],_,_,_,_,rfl,Walks.tuple (A:=A.in1) hh _ l (aB5 c) us.toArray,⟨⟨_,aI9 _ rfl,rfl,rfl⟩,g.push _⟩,fun b hb=>?_,by simp;omega,CmpOf.ints_lt (val ns) (fun i v=>ac1 hi i v),fun v h' d z u=>?_⟩
 ·show b < (s.heap.push _).objs.size
  rw [aJ5]
  rcases aA8.mp hb with rfl | hb
  ·exact aI3 _
  ·rcases aA8.mp hb with rfl | hb
   ·exact aF4 c
   ·cases hb
 ·obtain ⟨t,e⟩:=ac1 hi _ _ z
  obtain ⟨B,p⟩:=aiu (val ns) (us.toArray.size - 1)
  have f:us.toArray.size=ns.length:=by simp [hz]
  rw [f] at B p
  subst e
  refine h _ t h' d (agq (by rw [f];omega)) (fun x C=>?_) fun b o e=>?_
  ·obtain ⟨i,y,e⟩:=ah1 C
   have:=p i (by omega)
   rw [e] at this
   rw [f]
   exact this
  ·refine u b o (fun hm=>?_) (aI7 _ e)
   rcases aA8.mp hm with D | hm
   ·exact absurd (D ▸ aI8 e) (aG0 _)
   ·cases hm
end
end HT
namespace L2
open PySem PySem.Spec PyProof.Rows
section
variable {X:Cx}
def ac9 (ns:List Int) (m:Int):Prop:=m∈ns/\∀ x∈ns,x<=m
def ape (ns:List Int) (m:Int):Prop:=m∈ns/\∀ x∈ns,m<=x
def agr (K:Frag):List V->Hp->VK->Prop:=fun xs H Q=>∃ (a:Addr) (ns:List Int),xs=[.ref a]/\(SqL K H a (ns.map V.int)\/SqT K H a (ns.map V.int))/\ns ≠ []/\∀ m,ac9 ns m->Q (.int m) H
def aks (K:Frag):List V->Hp->VK->Prop:=fun xs H Q=>∃ (a:Addr) (ns:List Int),xs=[.ref a]/\(SqL K H a (ns.map V.int)\/SqT K H a (ns.map V.int))/\ns ≠ []/\∀ m,ape ns m->Q (.int m) H
theorem af3 (i:X.calm=true):aa1 X (.builtin "max") (agr X.K):=by
 intro pins s σ H xs us Q I r h
 obtain ⟨a,ns,rfl,ha,b,q⟩:=h
 obtain ⟨u,rfl,j⟩:=ab6 r
 cases j
 rcases ha with ha | ha
 ·obtain ⟨its,f,g,_⟩:=I.list ha
  have i1:IntsAre its.toArray.toList ns:=acm f
  exact HT.max_list (I.ok.hd i) g.isList (by simpa using i1) b fun m t h' l d c kp=>⟨.int m,H,I.kept kp,⟨_,rfl⟩,q m ⟨d,c⟩⟩
 ·obtain ⟨its,f,g,_⟩:=I.tuple ha
  have i1:IntsAre its.toArray.toList ns:=acm f
  refine call_max_walk (HT.max_tup (I.ok.hd i) g (by simpa using i1) b fun m t h' l d c kp=>⟨.int m,H,I.kept kp,⟨_,rfl⟩,q m ⟨d,c⟩⟩)
theorem aq5 (i:X.calm=true):aa1 X (.builtin "min") (aks X.K):=by
 intro pins s σ H xs us Q I r h
 obtain ⟨a,ns,rfl,ha,b,q⟩:=h
 obtain ⟨u,rfl,j⟩:=ab6 r
 cases j
 rcases ha with ha | ha
 ·obtain ⟨its,f,g,_⟩:=I.list ha
  have i1:IntsAre its.toArray.toList ns:=acm f
  exact HT.min_list (I.ok.hd i) g.isList (by simpa using i1) b fun m t h' l d c kp=>⟨.int m,H,I.kept kp,⟨_,rfl⟩,q m ⟨d,c⟩⟩
 ·obtain ⟨its,f,g,_⟩:=I.tuple ha
  have i1:IntsAre its.toArray.toList ns:=acm f
  refine call_min_walk (HT.min_tup (I.ok.hd i) g (by simpa using i1) b fun m t h' l d c kp=>⟨.int m,H,I.kept kp,⟨_,rfl⟩,q m ⟨d,c⟩⟩)
end
def tTru (K:Frag) (ta:TE):TT:=fun σ H Q=>ta σ H fun x H'=>∃ k,TruV K x H' k/\Q k H'
def rIsN:R2:=fun x y H Q=>y=.non/\Q (.bl (decide (x=.non))) H
section
variable {X:Cx} {a:Expr} {ta:TE}
theorem ax8 (ha:PE X a ta) (b:∀ whole,isTrue a X.env whole=(do let v ← whole;standAt a.pos;holding [v] (truthy v)):=by intro _;rfl):PT X a (tTru X.K ta):=asi ha b
def acb (K:Frag):R2:=fun x y H Q=>rIxL K x y H Q\/rIxT K x y H Q
theorem aap:IxR X (acb X.K):=ix_list.or axo
theorem avl {i j n:Int} {a b:Nat} {c p2 pos:Pos} (h:i ^ j.toNat=n) (d:CPow i j):PE X (.BinOp (.Constant (.int i) a c) .Pow (.Constant (.int j) b p2) pos) (tC (.int n)):=by
 intro pins s σ H Q I q
 subst h
 exact aau axk aae aae pins s σ H Q I ⟨i,j,rfl,rfl,d,q⟩
theorem avm:OpR X (compareOp .Is) rIsN:=axl
end
section
variable {σ:St} {H:Hp} {D:Ends} {K:Frag}
theorem afh {a:Addr} {xs:List V} {i:Int} {v:V} {Q:VK} (ha:H a=some (.lst xs)) (b:atI xs i=some v) (h:Q v H):acb K (.ref a) (.int i) H Q:=.inl (axz ha b h)
theorem as4 {a:Addr} {xs:List V} {i:Int} {v:V} {Q:VK} (ha:H a=some (.tup xs)) (b:atI xs i=some v) (h:Q v H):acb K (.ref a) (.int i) H Q:=.inr (ax0 ha b h)
theorem as6 {a:Addr} {xs:List V} {i:Int} {v:V} {Q:VK} (ha:SqL K H a xs) (b:atI xs i=some v) (h:Q v H):acb K (.ref a) (.int i) H Q:=.inl (ax4 ha b h)
theorem ab9 {A B:Prop} (h:A):if true=true then A else B:=by rw [aF1 rfl];exact h
theorem ada {A B:Prop} (h:B):if false=true then A else B:=by rw [aF2 aA9];exact h
theorem aiv {A B:Prop} (h:B):if (!true)=true then A else B:=by rw [aF2 (by decide)];exact h
theorem anv {A B:Prop} (h:A):if (!false)=true then A else B:=by rw [aF1 (by decide)];exact h
theorem as7 {c:Prop} [Decidable c] {A B:Prop} (a:c) (h:B):if (!decide c)=true then A else B:=by rw [aD5 a];exact aiv h
theorem as8 {c:Prop} [Decidable c] {A B:Prop} (a:¬ c) (h:A):if (!decide c)=true then A else B:=by rw [aD4 a];exact anv h
theorem ahc {K:Frag}:kitOne K (.type "NoneType") (.type "int")=some false:=by first | rfl | decide
theorem ag2 {K:Frag}:kitOne K (.type "NoneType") (.type "bool")=some false:=by first | rfl | decide
theorem af4 {K:Frag}:kitOne K (.type "NoneType") (.type "tuple")=some false:=by first | rfl | decide
theorem ag3 {K:Frag}:kitOne K (.type "NoneType") (.type "list")=some false:=by first | rfl | decide
theorem ahd {K:Frag}:kitOne K (.type "NoneType") (.type "str")=some false:=by first | rfl | decide
theorem ag4 {K:Frag}:kitOne K (.type "NoneType") (.type "dict")=some false:=by first | rfl | decide
theorem als {K:Frag}:kitOne K (.type "bool") (.type "int")=some true:=by first | rfl | decide
theorem aj5 {K:Frag}:kitOne K (.type "bool") (.type "bool")=some true:=by first | rfl | decide
theorem aiw {K:Frag}:kitOne K (.type "bool") (.type "tuple")=some false:=by first | rfl | decide
theorem aj6 {K:Frag}:kitOne K (.type "bool") (.type "list")=some false:=by first | rfl | decide
theorem alt {K:Frag}:kitOne K (.type "bool") (.type "str")=some false:=by first | rfl | decide
theorem aj7 {K:Frag}:kitOne K (.type "bool") (.type "dict")=some false:=by first | rfl | decide
theorem am4 {K:Frag}:kitOne K (.type "int") (.type "int")=some true:=by first | rfl | decide
theorem alu {K:Frag}:kitOne K (.type "int") (.type "bool")=some false:=by first | rfl | decide
theorem aj8 {K:Frag}:kitOne K (.type "int") (.type "tuple")=some false:=by first | rfl | decide
theorem alv {K:Frag}:kitOne K (.type "int") (.type "list")=some false:=by first | rfl | decide
theorem am5 {K:Frag}:kitOne K (.type "int") (.type "str")=some false:=by first | rfl | decide
theorem alw {K:Frag}:kitOne K (.type "int") (.type "dict")=some false:=by first | rfl | decide
theorem am6 {K:Frag}:kitOne K (.type "str") (.type "int")=some false:=by first | rfl | decide
theorem alx {K:Frag}:kitOne K (.type "str") (.type "bool")=some false:=by first | rfl | decide
theorem aj9 {K:Frag}:kitOne K (.type "str") (.type "tuple")=some false:=by first | rfl | decide
theorem aly {K:Frag}:kitOne K (.type "str") (.type "list")=some false:=by first | rfl | decide
theorem am7 {K:Frag}:kitOne K (.type "str") (.type "str")=some true:=by first | rfl | decide
theorem alz {K:Frag}:kitOne K (.type "str") (.type "dict")=some false:=by first | rfl | decide
theorem al0 {K:Frag}:kitOne K (.type "list") (.type "int")=some false:=by first | rfl | decide
theorem aka {K:Frag}:kitOne K (.type "list") (.type "bool")=some false:=by first | rfl | decide
theorem aix {K:Frag}:kitOne K (.type "list") (.type "tuple")=some false:=by first | rfl | decide
theorem akb {K:Frag}:kitOne K (.type "list") (.type "list")=some true:=by first | rfl | decide
theorem al1 {K:Frag}:kitOne K (.type "list") (.type "str")=some false:=by first | rfl | decide
theorem akc {K:Frag}:kitOne K (.type "list") (.type "dict")=some false:=by first | rfl | decide
theorem akd {K:Frag}:kitOne K (.type "tuple") (.type "int")=some false:=by first | rfl | decide
theorem aiy {K:Frag}:kitOne K (.type "tuple") (.type "bool")=some false:=by first | rfl | decide
theorem ah2 {K:Frag}:kitOne K (.type "tuple") (.type "tuple")=some true:=by first | rfl | decide
theorem aiz {K:Frag}:kitOne K (.type "tuple") (.type "list")=some false:=by first | rfl | decide
theorem ake {K:Frag}:kitOne K (.type "tuple") (.type "str")=some false:=by first | rfl | decide
theorem ai0 {K:Frag}:kitOne K (.type "tuple") (.type "dict")=some false:=by first | rfl | decide
theorem al2 {K:Frag}:kitOne K (.type "dict") (.type "int")=some false:=by first | rfl | decide
theorem akf {K:Frag}:kitOne K (.type "dict") (.type "bool")=some false:=by first | rfl | decide
theorem ai1 {K:Frag}:kitOne K (.type "dict") (.type "tuple")=some false:=by first | rfl | decide
theorem akg {K:Frag}:kitOne K (.type "dict") (.type "list")=some false:=by first | rfl | decide
theorem al3 {K:Frag}:kitOne K (.type "dict") (.type "str")=some false:=by first | rfl | decide
theorem akh {K:Frag}:kitOne K (.type "dict") (.type "dict")=some true:=by first | rfl | decide
end
end L2
namespace L2
open PySem
section
variable {σ:St} {H:Hp} {K:Frag}
theorem abg {p:Addr} {o:HO} (a:H p=none):Same H (upd H p o):=fun b u e=>by rw [aad (aaj e a)];exact e
theorem Same.new {H H':Hp} {q:Addr} {o:HO} (s:Same H H') (h:H' q=none):Same H (upd H' q o):=fun b u e=>by
 have:=s b u e
 rw [aad (aaj this h)];exact this
theorem Same.set {H H':Hp} {q:Addr} {o:HO} (s:Same H H') (h:H q=none):Same H (upd H' q o):=fun b u e=>by
 have:=s b u e
 rw [aad (aaj e h)];exact this
theorem Same.at {H H':Hp} {b:Addr} {o:HO} (s:Same H H') (h:H b=some o):H' b=some o:=s b o h
end
section
variable {σ:St} {H:Hp} {K:Frag}
abbrev NewL (Q:VK):List V->Hp->Prop:=fun xs H1=>xs.length<=sizeLine/\∀ p,H1 p=none->Q (.ref p) (upd H1 p (.lst xs))
theorem avn {t:TA} {Q:VK} (h:t σ H (NewL Q)):tLst t σ H Q:=h
end
end L2
namespace Gr
inductive Walk (T:Int->Int->Prop) (u:Int):Nat->Int->Prop
 | refl:Walk T u 0 u
 | step {k:Nat} {v w:Int}:Walk T u k v->T v w->Walk T u (k+1) w
def Dist (T:Int->Int->Prop) (u v:Int) (d:Nat):Prop:=Walk T u d v/\∀ k,Walk T u k v->d<=k
theorem Dist.uniq {T:Int->Int->Prop} {u v:Int} {d e:Nat} (h:Dist T u v d) (g:Dist T u v e):d=e:=Nat.le_antisymm (h.2 _ g.1) (g.2 _ h.1)
theorem Dist.self (T:Int->Int->Prop) (u:Int):Dist T u u 0:=⟨.refl,fun _ _=>aF6 _⟩
theorem Dist.of_walk {T:Int->Int->Prop} {u v:Int} {k:Nat} (h:Walk T u k v):∃ d,d<=k/\Dist T u v d:=by
 induction k using Nat.strongRecOn with
 | ind k ih =>
  by_cases hx:∃ j,j < k/\Walk T u j v
  ·obtain ⟨j,a,w⟩:=hx
   obtain ⟨d,hd,e⟩:=ih j a w
   exact ⟨d,by omega,e⟩
  ·refine ⟨k,aA6 _,h,fun j w=>?_⟩
   by_cases a:j < k
   ·exact absurd ⟨j,a,w⟩ hx
   ·omega
theorem Dist.pred {T:Int->Int->Prop} {u w:Int} {d:Nat} (h:Dist T u w (d+1)):∃ v,T v w/\Dist T u v d:=by
 obtain ⟨a,hm⟩:=h
 cases a with
 | step hv ht =>
  rename_i v
  refine ⟨v,ht,hv,fun k b=>?_⟩
  have:=hm (k+1) (.step b ht)
  omega
theorem Dist.next {T:Int->Int->Prop} {u v w:Int} {d:Nat} (h:Dist T u v d) (t:T v w):∃ e,e<=d+1/\Dist T u w e:=Dist.of_walk (.step h.1 t)
structure Bfs (T:Int->Int->Prop) (a:Int) (line:List Int) (ds:List Nat) (at_:Nat):Prop where
 len:ds.length=line.length
 fst:line[0]?=some a
 nd:line.Nodup
 le:at_<=line.length
 dist:∀ (i:Nat) v d,line[i]?=some v->ds[i]?=some d->Dist T a v d
 mono:∀ (i j:Nat) d e,i<=j->ds[i]?=some d->ds[j]?=some e->d<=e
 near:∀ (i j:Nat) d e,at_<=i->ds[i]?=some d->ds[j]?=some e->e<=d+1
 done:∀ (i:Nat) v w,i < at_->line[i]?=some v->T v w->w∈line
theorem Bfs.start (T:Int->Int->Prop) (a:Int):Bfs T a [a] [0] 0:=by
 refine ⟨rfl,rfl,by simp,aF6 _,fun i v d c b=>?_,fun i j d e h c b=>?_,fun i j d e h c b=>?_,fun i v w h=>absurd h (by omega)⟩
 ·match i,c,b with
  | 0,c,b=>simp at c b;subst c b;exact Dist.self T a
  | i+1,c,_=>simp at c
 ·match j,b with
  | 0,b =>
   have:i=0:=by omega
   subst this
   rw [c] at b;cases b;exact aA6 _
  | j+1,b=>simp at b
 ·match i,j,c,b with
  | 0,0,c,b=>rw [c] at b;cases b;omega
  | i+1,_,c,_=>simp at c
  | 0,j+1,_,b=>simp at b
theorem Bfs.all {T:Int->Int->Prop} {a:Int} {line:List Int} {ds:List Nat} {at_:Nat} {d:Nat} (b:Bfs T a line ds at_) (hd:ds[at_]?=some d) :
  ∀ k w,k<=d->Dist T a w k->w∈line:=by
 intro k
 induction k with
 | zero =>
  intro w _ h
  have:w=a:=by
   cases h.1;rfl
  subst this
  exact aA2 b.fst
 | succ k ih =>
  intro w n h
  obtain ⟨v,m,f⟩:=h.pred
  have l:=ih v (by omega) f
  obtain ⟨i,hi,e⟩:=aH2.mp l
  have j:line[i]?=some v:=by rw [aA0 hi,e]
  have c:i < ds.length:=by rw [b.len];exact hi
  have g:ds[i]?=some ds[i]:=aA0 c
  have o:=(b.dist i v _ j g).uniq f
  by_cases hlt:i < at_
  ·exact b.done i v w hlt j m
  ·have:=b.mono at_ i d _ (by omega) hd g
   omega
theorem Bfs.add {T:Int->Int->Prop} {a:Int} {line:List Int} {ds:List Nat} {at_:Nat} {p w:Int} {d:Nat} (b:Bfs T a line ds at_) (r:line[at_]?=some p) (hd:ds[at_]?=some d) (t:T p w) (n:w ∉ line) :
  Bfs T a (line ++ [w]) (ds ++ [d+1]) at_:=by
 have z:at_ < line.length:=(aA1.mp r).1
 have B:Dist T a w (d+1):=by
  obtain ⟨e,D,h⟩:=(b.dist _ _ _ r hd).next t
  by_cases c:e<=d
  ·exact absurd (b.all hd e w c h) n
  ·have:e=d+1:=by omega
   rw [← this];exact h
 have g:∀ (j:Nat) e,(ds ++ [d+1])[j]?=some e->(ds[j]?=some e)\/(j=ds.length/\e=d+1):=by
  intro j e h
  rw [List.getElem?_append] at h
  split at h
  ·exact .inl h
  ·rename_i hj
   right
   have:j - ds.length=0:=by
    match hz:j - ds.length,h with
    | 0,_=>rfl
    | k+1,h=>simp at h
   rw [this] at h
   simp at h
   exact ⟨by omega,h.symm⟩
 refine ⟨by simp [b.len],?_,?_,by simp;omega,fun i v e f c=>?_,fun i j x y h f c=>?_,fun i j x y h f c=>?_,fun i v u h f s=>?_⟩
 ·rw [aC2 (by omega)];exact b.fst
 ·rw [aE4]
  exact ⟨b.nd,by simp,fun x A y q=>by simp at q;subst q;intro e;subst e;exact n A⟩
 ·rcases g _ _ c with c | ⟨o,l⟩
  ·have hi:i < ds.length:=(aA1.mp c).1
   rw [aC2 (by rw [← b.len];exact hi)] at f
   exact b.dist i v e f c
  ·subst l
   rw [aC7 (by rw [← b.len];omega)] at f
   have:i - line.length=0:=by rw [← b.len];omega
   rw [this] at f
   simp at f;subst f
   exact B
 ·rcases g _ _ f with f | ⟨o,l⟩
  ·rcases g _ _ c with c | ⟨m,l⟩
   ·exact b.mono i j x y h f c
   ·subst l
    by_cases hia:at_<=i
    ·exact b.near at_ i d x (aA6 _) hd f
    ·have:=b.mono i at_ x d (by omega) f hd;omega
  ·rcases g _ _ c with c | ⟨m,C⟩
   ·have:=(aA1.mp c).1;omega
   ·omega
 ·rcases g _ _ f with f | ⟨o,l⟩
  ·rcases g _ _ c with c | ⟨m,l⟩
   ·exact b.near i j x y h f c
   ·subst l
    have:=b.mono at_ i d x h hd f;omega
  ·subst l
   rcases g _ _ c with c | ⟨m,l⟩
   ·have:=b.near at_ j d y (aA6 _) hd c;omega
   ·omega
 ·rw [aC2 (by omega)] at f
  exact aC6 _ (b.done i v u h f s)
theorem Bfs.next {T:Int->Int->Prop} {a:Int} {line:List Int} {ds:List Nat} {at_:Nat} {p:Int} (b:Bfs T a line ds at_) (g:line[at_]?=some p) (h:∀ w,T p w->w∈line):Bfs T a line ds (at_+1):=by
 have c:at_ < line.length:=(aA1.mp g).1
 refine ⟨b.len,b.fst,b.nd,c,b.dist,b.mono,fun i j d e hi=>b.near i j d e (by omega),fun i v w hi f t=>?_⟩
 by_cases e:i=at_
 ·subst e
  rw [g] at f;cases f
  exact h w t
 ·exact b.done i v w (by omega) f t
theorem Bfs.fin {T:Int->Int->Prop} {a:Int} {line:List Int} {ds:List Nat} (b:Bfs T a line ds line.length):∀ k w,Walk T a k w->w∈line:=by
 intro k w h
 induction h with
 | refl=>exact aA2 b.fst
 | step _ t ih =>
  obtain ⟨i,hi,e⟩:=aH2.mp ih
  exact b.done i _ _ hi (by rw [aA0 hi,e]) t
end Gr
namespace L2
open PySem PySem.Spec PyProof.Rows
section
variable {σ:St} {H:Hp} {D:Ends} {K:Frag}
end
theorem few_places:∀ (n:Nat) (l:List Int),l.Nodup->(∀ v∈l,0<=v/\v < (n:Int))->l.length<=n
 | 0,l,_,h=>by
  cases l with
  | nil=>simp
  | cons v r=>have:=h v (by simp);omega
 | n+1,l,hn,h=>by
  have d:=few_places n (l.erase (n:Int)) (hn.erase _) fun v a=>by
   have hm:=List.mem_of_mem_erase a
   have hb:=h v hm
   have b:v ≠ (n:Int):=by
    rintro rfl
    exact absurd a (List.Nodup.not_mem_erase hn)
   omega
  have c:l.length<=(l.erase (n:Int)).length+1:=by
   rw [List.length_erase]
   split <;> omega
  omega
end L2
namespace L2
open PySem
end L2
namespace HT
open PySem PyProof.Rows
theorem ah3 (ns:List Int):∀ k,k<=ns.length->preSum (val ns) k=(ns.take k).sum
 | 0,_=>by simp [preSum]
 | k+1,h=>by
  have a:=ah3 ns k (by omega)
  have e:ns.take (k+1)=ns.take k ++ [ns[k]]:=by rw [aH0,aA0 (by omega)];rfl
  rw [e,List.sum_append]
  unfold preSum
  rw [a]
  unfold val
  rw [aA0 (by omega)]
  simp
section
variable {prog:Program} {w:World} {A:Around} {E:Value->Shared->Prop} {s:Shared}
theorem sum_list {l:Addr} {us:List Value} {ns:List Int} {Q:Value->Shared->Prop} (hh:A.handled=none) (d:s.heap.IsList l us.toArray) (hi:IntsAre us ns)
  (h:∀ t h' c,(∀ b o,s.heap.get? b=some o->h'.get? b=some o)->Q (.int ns.sum t) { s with heap:=h',toks:=c }) :
  wpAny (model prog w) A (call (.builtin "sum") [.ref l]) Q E s:=by
 have a:l < s.heap.objs.size:=by obtain ⟨_,e,_⟩:=d;exact aI8 e
 have hz:us.length=ns.length:=hi.length
 refine call_sum_walkG (aJ8 d ?_)
 refine ⟨_,[s.heap.objs.size,l],_,_,_,_,val ns,rfl,Walks.list (A:=A.in1) hh _ l (aB5 a) us.toArray,⟨⟨_,aI9 _ rfl,rfl,rfl⟩,d.push _⟩,fun b hb=>?_,fun i v=>ac1 hi i v,fun h' c t' f=>?_⟩
 ·show b < (s.heap.push _).objs.size
  rw [aJ5]
  rcases aA8.mp hb with rfl | hb
  ·exact aI3 _
  ·rcases aA8.mp hb with rfl | hb
   ·exact aF4 a
   ·cases hb
 ·have g:us.toArray.size=ns.length:=by simp [hz]
  rw [g,ah3 ns _ (aA6 _),aG4]
  refine h t' h' c fun b o e=>?_
  refine f b o (fun hm=>?_) (aI7 _ e)
  rcases aA8.mp hm with j | hm
  ·exact absurd (j ▸ aI8 e) (aG0 _)
  ·cases hm
end
end HT
namespace L2
open PySem PySem.Spec PyProof.Rows
section
variable {X:Cx}
def apf (K:Frag):List V->Hp->VK->Prop:=fun xs H Q=>∃ (a:Addr) (ns:List Int),xs=[.ref a]/\SqL K H a (ns.map V.int)/\Q (.int ns.sum) H
theorem ajp (c:X.calm=true):aa1 X (.builtin "sum") (apf X.K):=by
 intro pins s σ H xs us Q I r h
 obtain ⟨a,ns,rfl,ha,q⟩:=h
 obtain ⟨u,rfl,b⟩:=ab6 r
 cases b
 obtain ⟨its,d,f,_⟩:=I.list ha
 have i1:IntsAre its.toArray.toList ns:=acm d
 exact HT.sum_list (I.ok.hd c) f.isList (by simpa using i1) fun t h' g kp=>⟨.int _,H,I.kept kp,⟨_,rfl⟩,q⟩
end
section
variable {X:Cx} {pins:List (Addr × Obj)} {σ:St} {H:Hp} {s:Shared} {A:Around} {E:Value->Shared->Prop} {Q:Value->Shared->Prop} {b:Bool}
end
section
variable {X:Cx}
end
end L2
namespace HT
open PySem PyProof.Rows L2
def LtAt (A:Around) (s:Shared) (y x:Value) (b:Bool):Prop :=
 ∀ (prog:Program) (w:World) (E:Value->Shared->Prop) (Q:Value->Shared->Prop),Q (.bool b) s->wpAny (model prog w) A (richCompare .Lt y x) Q E s
section
open PySem.SeqAt
open PySem.AutoSeq1 (wpAny_loadPart')
open PySem.MeetsSeq PySem.MeetsSeq2 PySem.MeetsSeq3
inductive Its (A:Around) (s:Shared):List Value->List Value->Bool->Prop
 | nn:Its A s [] [] false
 | nc {x:Value} {ys:List Value}:Its A s [] (x :: ys) true
 | cn {x:Value} {xs:List Value}:Its A s (x :: xs) [] false
 | eq {x y:Value} {xs ys:List Value} {b:Bool}:EqAt A s x y true->Its A s xs ys b->Its A s (x :: xs) (y :: ys) b
 | ne {x y:Value} {xs ys:List Value} {b:Bool}:EqAt A s x y false->LtAt A s x y b->Its A s (x :: xs) (y :: ys) b
theorem al4 (l b:Addr) (items a:Array Value) (n E:Nat) (dd u:Option Addr) (sl p:Array (Option Value)) (r:Bool) :
  Meets (Builtin.«tuple.__lt__» ⟨[.ref l,.ref b],[]⟩)
   (fun A R s=>s.heap.get? l=some { cls:=.type "tuple",dict:=dd,data:=.seq items n,slots:=sl }/\s.heap.get? b=some { cls:=.type "tuple",dict:=u,data:=.seq a E,slots:=p } /\
    Its A.in1 s items.toList a.toList r/\R (.ok (.ret (.bool r))) s) :=
 .of_wp fun prog w A R s h=>by
  obtain ⟨D,g,d,C,os⟩:=s;obtain ⟨G,hb,hi,h⟩:=h
  have J:=AutoSeq1.sub_tuple_tuple
  wp_walk using wpAny_loadPart' G,wpAny_loadPart' hb,wpAny_forIn_list _ (fun rest b v=>b.1=none/\v=⟨D,g,d,C,os⟩/\∃ (vs m:List Value),rest=vs.zip m /\
   vs.length+a.size=m.length+items.size/\Its A.in1 ⟨D,g,d,C,os⟩ vs m r) _
  case turn =>
   rintro ⟨y,x⟩ rest b v ⟨i,rfl,vs,m,hz,c,q⟩
   cases q with
   | nn=>cases hz
   | nc=>cases hz
   | cn=>cases hz
   | eq he hI' =>
    rw [List.zip_cons_cons] at hz
    injection hz with j f
    injection j with z B
    subst z B
    simp only [aE2] at c
    refine aI5 (he prog w _ _ ?_)
    wp_walk
    exact ⟨rfl,rfl,_,_,f,by omega,hI'⟩
   | ne he hlt =>
    rw [List.zip_cons_cons] at hz
    injection hz with j f
    injection j with z B
    subst z B
    refine aI5 (he prog w _ _ ?_)
    have o:=hlt prog w
    wp_walk using o
    exact ⟨_,rfl,by simpa using h⟩
  case fin =>
   rintro ⟨I,H⟩ v ⟨i,rfl,vs,m,hz,c,q⟩
   simp only at i
   subst i
   have F:r=decide (items.size < a.size):=by
    cases q with
    | nn =>
     simp only [aI4] at c
     exact (aD4 (by omega)).symm
    | nc =>
     simp only [aI4,aE2] at c
     exact (aD5 (by omega)).symm
    | cn =>
     simp only [aI4,aE2] at c
     exact (aD4 (by omega)).symm
    | eq=>cases hz
    | ne=>cases hz
   rw [F] at h
   wp_walk
   exact ⟨_,rfl,by simpa [Builtin.Tuple.tupleCompareSizes] using h⟩
  case h =>
   exact ⟨rfl,rfl,items.toList,a.toList,rfl,by simp;omega,hi⟩
end
section
variable {A:Around} {s:Shared}
theorem LtAt.tup {l b:Addr} {o f:Obj} {items a:Array Value} {n m:Nat} {r:Bool} (p:s.heap.get? l=some o) (u:o.cls=.type "tuple") (hd:o.data=.seq items n) (hb:s.heap.get? b=some f) (c:f.cls=.type "tuple") (d:f.data=.seq a m)
  (v:A.units < cLine) (hi:Its A.in1 s items.toList a.toList r):LtAt A s (.ref l) (.ref b) r:=by
 intro prog w E Q q
 obtain ⟨cls,dd,data,sl⟩:=o
 obtain ⟨j,i,g,h⟩:=f
 simp only at u hd c d
 subst u hd c d
 exact richCompare_meets_room (op:=.Lt) ⟨_,p,rfl⟩ ⟨_,hb,rfl⟩ PySem.F.slot_tuple_lt PySem.F.entry_tuple_lt (PySem.F.args_tuple_lt_2 _ _) (al4 l b items a n m dd i sl h r)
  ⟨p,hb,hi,show Value.bool r ≠ Value.notImplemented/\Q (.bool r) s from ⟨(fun x=>nomatch x),q⟩⟩ v
end
end HT
namespace L2
open PySem PySem.Spec PyProof.Rows
section
variable {X:Cx}
end
end L2
namespace L2
open PySem
end L2
namespace TS
open PySem PyProof.Rows HT
theorem anw:∀ x y:List Int,HT.lexLt x y=true->HT.lexLt y x=false
 | [],[],h=>by simp [HT.lexLt] at h
 | [],_ :: _,_=>rfl
 | _ :: _,[],h=>by simp [HT.lexLt] at h
 | a :: x,b :: y,h=>by
  rw [afd] at h ⊢
  by_cases e:a=b
  ·subst e
   rw [aF1 rfl] at h ⊢
   exact anw x y h
  ·rw [aF2 e] at h
   rw [aF2 (fun z=>e z.symm)]
   have:=of_decide_eq_true h
   exact aD4 (by omega)
theorem aq6:∀ x y z:List Int,HT.lexLt y x=false->HT.lexLt z y=false->HT.lexLt z x=false
 | _,[],[],h,_=>h
 | [],[],_ :: _,_,_=>rfl
 | _ :: _,[],_ :: _,h,_=>by simp [HT.lexLt] at h
 | _,_ :: _,[],_,h=>by simp [HT.lexLt] at h
 | [],_ :: _,_ :: _,_,_=>rfl
 | a :: x,b :: y,c :: z,h,g=>by
  rw [afd] at h g ⊢
  by_cases e:b=a
  ·subst e
   rw [aF1 rfl] at h
   by_cases e2:c=b
   ·subst e2
    rw [aF1 rfl] at g ⊢
    exact aq6 x y z h g
   ·rw [aF2 e2] at g ⊢
    exact g
  ·rw [aF2 e] at h
   have h':=of_decide_eq_false h
   by_cases e2:c=b
   ·subst e2
    rw [aF2 e]
    exact h
   ·rw [aF2 e2] at g
    have g':=of_decide_eq_false g
    rw [aF2 (by omega)]
    exact aD4 (by omega)
def TI (h:Heap) (a:Addr) (ns:List Int):Prop:=∃ o xs n,h.get? a=some o/\o.cls=.type "tuple"/\o.data=.seq xs n/\IntsAre xs.toList ns
def kfV (kf:Addr->List Int):Value->List Int
 | .ref a=>kf a
 | _=>[]
section
variable {prog:Program} {w:World} {A:Around} {E:Value->Shared->Prop} {s:Shared}
theorem ag6 {fin:Bool} {Q:Bool->Shared->Prop}:∀ {xs ys:List Value} {ns c:List Int} (i:Nat),IntsAre xs ns->IntsAre ys c->(ns.length < c.length->fin=true)->(c.length<=ns.length->fin=false)->Q (HT.lexLt ns c) s ->
  PySem.W.KatLex prog w A true fin Q (xs.zip ys) i s
 | _,_,_,_,i,.nil,.nil,_,h2,q=>by
  rw [h2 (aA6 _)];exact q
 | _,_,_,_,i,.nil,.cons b u r,h1,_,q=>by
  rw [h1 (by simp)];exact q
 | _,_,_,_,i,.cons a t r,.nil,_,h2,q=>by
  rw [List.zip_nil_right,h2 (by simp)];exact q
 | _,_,_,_,i,.cons a t r,.cons b u r2,h1,h2,q=>by
  rw [List.zip_cons_cons]
  refine PySem.W.kat_cons (SeqAt.EqAt.int_int a t b u prog w _ _ ?_)
  rw [afd] at q
  by_cases e:a=b
  ·subst e
   rw [aF1 rfl] at q
   rw [show (a == a)=true by simp]
   exact PySem.W.kat_yes (ag6 (i+1) r r2 (fun z=>h1 (by simpa using z)) (fun z=>h2 (by simpa using z)) q)
  ·rw [aF2 e] at q
   rw [show (a == b)=false by simpa using e]
   refine PySem.W.kat_no ?_
   by_cases hi:i=0
   ·subst hi
    exact oneLt_int q
   ·rw [show (true && i == 0)=false by simpa using hi]
    exact PySem.W.kat_one _ _ (PyProof.Rows.lt_int q)
def tS (h:Heap) (kf:Addr->List Int) (x:Keyed):Prop:=x.1=x.2/\∃ a,x.1=.ref a/\TI h a (kf a)
def tR (kf:Addr->List Int) (x y:Keyed):Bool:=HT.lexLt (kfV kf x.1) (kfV kf y.1)
theorem cmp_tups (i:Addr->List Int):Cmp (model prog w) A E s (tuples' true) (tS s.heap i) (tR i):=by
 refine ⟨fun x y u r Q st l q=>?_,fun x y _ _=>anw _ _,fun x y z _ _ _=>aq6 _ _ _⟩
 obtain ⟨F,H⟩:=x
 obtain ⟨D,C⟩:=y
 obtain ⟨_,a,h,o,xs,n,B,J,m,g⟩:=u
 obtain ⟨_,b,j,o',ys,G,p,I,v,c⟩:=r
 dsimp only at h j
 subst h j
 rw [lt'_eq]
 refine wpS_bind (wpS_get ?_)
 rw [l]
 refine wpS_bind (wpS_lift (wpAny_attempt (PySem.W.kat_lt B m p v (ag6 0 g c (fun z=>?_) (fun z=>?_) ⟨rfl,?_⟩))))
 ·have f:=g.length;have d:=c.length
  simp at f d
  exact aD5 (by omega)
 ·have f:=g.length;have d:=c.length
  simp at f d
  exact aD4 (by omega)
 ·exact wpS_pure q
theorem apg {vs:List Value} {ps:List Keyed} (h:ps.Perm (vs.zip vs)):(∀ p∈ps,p.1=p.2/\p.1∈vs)/\(ps.map (·.2)).Perm vs:=by
 refine ⟨fun p a=>mem_zip_self (h.mem_iff.mp a),?_⟩
 have b:=h.map (fun p=>p.2)
 have e:(vs.zip vs).map (fun p=>p.2)=vs:=List.map_snd_zip (aA6 _)
 rwa [e] at b
theorem afp {a:Addr} {vs:List Value} {n:Nat} {P:PySem.Fin->Shared->Prop} (j:s.heap.get? a=some (seqObj "list" vs.toArray n)) (c:vs.length<=sizeLine)
  (m:2<=vs.length->∀ h',(∀ b o,b ≠ a->s.heap.get? b=some o->h'.get? b=some o)->∃ κ S R,(∀ (Q:SortKind->Shared->Prop),Q κ { s with heap:=h' }->wpAny (model prog w) A (keyKind' vs.toArray) Q E { s with heap:=h' })/\Cmp (model prog w) A E { s with heap:=h' } κ S R/\(∀ v∈vs,S (v,v)) /\
   ∀ out:List Value,out.Perm vs->out.Pairwise (fun x y=>R (y,y) (x,x)=false)->P (.done (.ret .none)) { s with heap:=sortedHeap s.heap a vs out.toArray })
  (K:vs.length < 2->P (.done (.ret .none)) { s with heap:=sortedHeap s.heap a vs vs.toArray }) :
  wpAny (model prog w) A (Builtin.«list.sort» ⟨[.ref a],[]⟩) P E s:=by
 rw [list_sort_plain]
 have ha:a < s.heap.objs.size:=aI8 j
 refine aI5 (listItems_at j rfl ?_)
 refine aI5 (listUpdate_at j rfl ?_ (by rw [aB1];exact c) (aF6 _))
 obtain ⟨r,g⟩:∃ r,(s.heap.update a (Obj.mapSeq fun _ => #[])).get? a=some (seqObj "list" #[] r):=⟨_,get?_update_seq j (fun _ => #[])⟩
 refine aI5 (seqEpoch_at g rfl ?_)
 refine aI5 (wpAny_newTuple ?_ (by show vs.length<=_;exact c))
 refine aI5 (wpAny_newList ?_ (aF6 _))
 refine aJ0 ?_
 have d:(((s.heap.update a (Obj.mapSeq fun _ => #[])).push (seqObj "tuple" vs.toArray 0)).push (seqObj "list" #[] 0)).get? a=some (seqObj "list" #[] r):=by
  rw [Heap.get?_push_ne _ _ _ (by rw [size_push',Heap.size_update];exact aB5 (aF4 ha)),Heap.get?_push_ne _ _ _ (by rw [Heap.size_update];exact aB5 ha)]
  exact g
 show wpAny (model prog w) A _ P E { s with heap:=((s.heap.update a (Obj.mapSeq fun _ => #[])).push (seqObj "tuple" vs.toArray 0)).push (seqObj "list" #[] 0) }
 dsimp only
 have hsz:vs.toArray.size=vs.length:=by simp
 have kp:∀ b o,b ≠ a->s.heap.get? b=some o->(((s.heap.update a (Obj.mapSeq fun _ => #[])).push (seqObj "tuple" vs.toArray 0)).push (seqObj "list" #[] 0)).get? b=some o:=fun b o hb e=>by
  refine aI7 _ (aI7 _ ?_)
  rw [Heap.get?_update_ne _ _ _ _ hb];exact e
 by_cases h2:vs.toArray.size < 2
 ·rw [aF1 h2,aF1 h2]
  refine aI5 (aI6 ?_)
  rw [StateT.run_pure]
  refine aI5 (aI6 ?_)
  dsimp only
  have q:(arrOf (SortSt.mk' general' (vs.toArray.zip vs.toArray) #[] 7 none)).map (·.2)=vs.toArray:=by
   show (vs.toArray.zip vs.toArray).map (·.2)=vs.toArray
   apply Array.toList_inj.mp
   rw [Array.toList_map,Array.toList_zip]
   exact List.map_snd_zip (aA6 _)
  rw [q]
  refine aI5 (seqEpoch_at d rfl ?_)
  refine aI5 (listUpdate_at d rfl ?_ (aF6 _) (by rw [aB1];exact Nat.le_succ_of_le c))
  simp only [bne_self_eq_false,Bool.false_eq_true,if_false]
  exact aI6 (K (by omega))
 ·rw [aF2 h2,aF2 h2]
  obtain ⟨κ,S,R,H,C,I,i⟩:=m (by omega) _ kp
  refine aI5 (H _ ?_)
  refine aI5 (aJ2 (avk C (a0:=vs.toArray.zip vs.toArray) (st:=SortSt.mk' κ (vs.toArray.zip vs.toArray) #[] 7 none) (Q:=fun _ st'=>failedOf st'=none/\(arrOf st').toList.Perm (vs.zip vs)/\Srt R (arrOf st').toList) (fun x p=>?_) rfl rfl rfl rfl fun st' D G u=>⟨D,by simpa using G,u⟩) ?_ fun _ _ e=>e)
  ·have:x∈vs.zip vs:=by simpa using p
   obtain ⟨f,h⟩:=mem_zip_self this
   obtain ⟨F,J⟩:=x
   dsimp only at f h
   subst f
   exact I _ h
  rintro ⟨⟨⟩,st'⟩ u ⟨rfl,hf,N,M⟩
  dsimp only
  obtain ⟨f,h⟩:=apg N
  have q:(arrOf st').map (·.2)=(((arrOf st').toList.map (·.2)).toArray):=by
   apply Array.toList_inj.mp
   simp
  rw [q]
  have l:((arrOf st').toList.map (·.2)).length=vs.length:=h.length_eq
  refine aI5 (seqEpoch_at d rfl ?_)
  refine aI5 (listUpdate_at d rfl ?_ (aF6 _) (by rw [aB1,l];exact Nat.le_succ_of_le c))
  rw [hf]
  simp only [bne_self_eq_false,Bool.false_eq_true,if_false]
  refine aI6 (i _ h ?_)
  rw [aF7]
  refine aH6 ?_ M
  intro x y p L B
  have ex:=(f x p).1
  have z:=(f y L).1
  obtain ⟨F,J⟩:=x
  obtain ⟨T,O⟩:=y
  dsimp only at ex z
  subst ex z
  exact B
theorem sorted_any {l:Addr} {vs:List Value} {Q:Value->Shared->Prop} (u:s.heap.IsList l vs.toArray) (a:vs.length<=sizeLine)
  (g:2<=vs.length->∀ h',(∀ b o,s.heap.get? b=some o->h'.get? b=some o)->∃ κ S R,(∀ (Q:SortKind->Shared->Prop),Q κ { s with heap:=h' }->wpAny (model prog w) A.in1.in1 (keyKind' vs.toArray) Q E { s with heap:=h' })/\Cmp (model prog w) A.in1.in1 E { s with heap:=h' } κ S R/\(∀ v∈vs,S (v,v)) /\
   ∀ out:List Value,out.Perm vs->out.Pairwise (fun x y=>R (y,y) (x,x)=false)->Q (.ref (s.heap.objs.size+1)) { s with heap:=sortedAll s.heap vs out.toArray })
  (n:vs.length < 2->Q (.ref (s.heap.objs.size+1)) { s with heap:=sortedAll s.heap vs vs.toArray }) :
  wpAny (model prog w) A (call (.builtin "sorted") [.ref l]) Q E s:=by
 refine Calls.call_function_entry kind_sorted plain_sorted entry_sorted (args_sorted1 _) ?_
 unfold Builtin.«sorted»
 refine aI5 (m:=checkCount "sorted" 1 1 _) (aI6 ?_)
 refine aI5 (collect_list u ?_ a)
 refine aI5 (wpAny_newList ?_ a)
 have hsz:((s.heap.push (seqObj "list" #[] 0)).update s.heap.objs.size (Obj.mapSeq (· ++ vs.toArray))).objs.size=s.heap.objs.size+1:=by
  rw [Heap.size_update,size_push']
 have d:(((s.heap.push (seqObj "list" #[] 0)).update s.heap.objs.size (Obj.mapSeq (· ++ vs.toArray))).push (seqObj "list" vs.toArray 0)).get? (s.heap.objs.size+1)=some (seqObj "list" vs.toArray 0):=by
  rw [← hsz];exact aI9 _ rfl
 have keep:∀ b o,s.heap.get? b=some o->(((s.heap.push (seqObj "list" #[] 0)).update s.heap.objs.size (Obj.mapSeq (· ++ vs.toArray))).push (seqObj "list" vs.toArray 0)).get? b=some o:=fun b o q=>by
  have c:b < s.heap.objs.size:=aI8 q
  rw [Heap.get?_push_ne _ _ _ (by rw [hsz];exact aB5 (aF4 c)),Heap.get?_update_ne _ _ _ _ (aB5 c),Heap.get?_push_ne _ _ _ (aB5 c)]
  exact q
 show wpAny _ _ _ _ _ { s with heap:=((s.heap.push (seqObj "list" #[] 0)).update s.heap.objs.size (Obj.mapSeq (· ++ vs.toArray))).push (seqObj "list" vs.toArray 0) }
 rw [hsz]
 refine aI5 (aJ0 (aJ6 slot_list_sort ⟨_,d,rfl⟩ entry_list_sort ?body (args_list_sort _)))
 case body =>
  refine afp (s:={ s with heap:=((s.heap.push (seqObj "list" #[] 0)).update s.heap.objs.size (Obj.mapSeq (· ++ vs.toArray))).push (seqObj "list" vs.toArray 0) }) d a (fun h h' kp=>?_) fun c=>?_
  ·obtain ⟨κ,S,R,i,C,j,f⟩:=g h h' fun b o e=>kp b o (aB5 (aF4 (aI8 e))) (keep b o e)
   exact ⟨κ,S,R,i,C,j,fun out p r=>⟨_,rfl,aI6 ⟨_,rfl,f out p r⟩⟩⟩
  ·exact ⟨_,rfl,aI6 ⟨_,rfl,n c⟩⟩
end
end TS
namespace L2
open PySem PySem.Spec PyProof.Rows
def toI:V->Int
 | .int i=>i
 | _=>0
def kH (H:Hp):V->List Int
 | .ref t=>match H t with
  | some (.tup xs)=>xs.map toI
  | _=>[]
 | _=>[]
theorem avo (ns:List Int):(ns.map V.int).map toI=ns:=by
 rw [aD7]
 have:(toI ∘ V.int)=id:=by funext i;rfl
 rw [this,List.map_id]
theorem akt {H:Hp} {t:Addr} {ns:List Int} (h:H t=some (.tup (ns.map V.int))):kH H (.ref t)=ns:=by
 simp only [kH,h];exact avo ns
def TupI (H:Hp) (v:V):Prop:=∃ t ns,v=.ref t/\H t=some (.tup (ns.map V.int))/\ns ≠ []
def adb:Value->V
 | .ref a => .ref a
 | _ => .non
theorem af5:∀ {us:List Value},(∀ u∈us,∃ a,u=.ref a)->Vals (us.map adb) us
 | [],_ => .nil
 | u :: us,h=>by
  obtain ⟨a,e⟩:=h u aB7
  subst e
  exact .cons rfl (af5 fun v b=>h v (aB4 _ b))
theorem af6 {H:Hp}:∀ {vs:List V} {us:List Value},Vals vs us->(∀ v∈vs,TupI H v)->(∀ u∈us,∃ a,u=.ref a)/\us.map adb=vs
 | _,_,.nil,_=>⟨fun u c=>(by cases c),rfl⟩
 | v :: vs,u :: us,.cons r t,h=>by
  obtain ⟨a,ns,rfl,_,_⟩:=h v aB7
  cases r
  obtain ⟨g,f⟩:=af6 t fun v d=>h v (aB4 _ d)
  refine ⟨fun x b=>?_,by rw [aD0,f];rfl⟩
  rcases aA8.mp b with rfl | b
  ·exact ⟨_,rfl⟩
  ·exact g x b
section
variable {X:Cx}
def ah4 (K:Frag):List V->Hp->VK->Prop:=fun xs H Q=>∃ (a:Addr) (vs:List V),xs=[.ref a]/\SqL K H a vs/\(∀ v∈vs,TupI H v) /\
 ∀ (vs':List V) (p:Addr),vs'.Perm vs->vs'.Pairwise (fun x y=>HT.lexLt (kH H y) (kH H x)=false)->H p=none->Q (.ref p) (upd H p (.lst vs'))
theorem ahe {H:Hp} {pins:List (Addr × Obj)} {σ:St} {s:Shared} (I:Inv X pins σ H s) {h':Heap} (kp:∀ b o,s.heap.get? b=some o->h'.get? b=some o):∀ {vs:List V} {us:List Value},Vals vs us->(∀ v∈vs,TupI H v) ->
  (∃ fs,PySem.W.KatTups h' us fs/\fs.length=us.length/\∀ f∈fs,∃ i t,f=.int i t)/\∀ u∈us,∃ a,u=.ref a/\TS.TI h' a (kH H (.ref a))
 | _,_,.nil,_=>⟨⟨[],trivial,rfl,fun f hf=>by cases hf⟩,fun u y=>by cases y⟩
 | v :: vs,u :: us,.cons r t,h=>by
  obtain ⟨a,ns,rfl,e,l⟩:=h v aB7
  cases r
  obtain ⟨⟨fs,B,C,E⟩,G⟩:=ahe I kp t fun v D=>h v (aB4 _ D)
  obtain ⟨_,its,z,o,q,p,n,m⟩:=(show ObjOk X.prog X.w H s.heap a (.tup (ns.map V.int)) from I.hok a _ e)
  have hi:IntsAre its ns:=by simpa using (acm z:IntsAre its.toArray.toList ns)
  have F:TS.TI h' a (kH H (.ref a)):=⟨o,its.toArray,n,kp _ _ q,p,m,by rw [akt e];simpa using hi⟩
  obtain ⟨f,hf,i,c,A⟩:∃ f,its.toArray[0]?=some f/\∃ i t,f=.int i t:=by
   cases hi with
   | nil=>exact absurd rfl l
   | cons i c _=>exact ⟨_,by simp,i,c,rfl⟩
  refine ⟨⟨f :: fs,PySem.W.KatTups.cons (kp _ _ q) p m hf B,by simp [C],fun g j=>?_⟩,fun x d=>?_⟩
  ·rcases aA8.mp j with rfl | j
   ·exact ⟨i,c,A⟩
   ·exact E g j
  ·rcases aA8.mp d with rfl | d
   ·exact ⟨a,rfl,F⟩
   ·exact G x d
theorem al5 {α:Type} {R : α->α->Prop}:∀ {l:List α},l.length < 2->l.Pairwise R
 | [],_=>List.Pairwise.nil
 | [_],_=>List.pairwise_singleton _ _
 | _ :: _ :: _,h=>absurd h (by simp)
theorem aph:aa1 X (.builtin "sorted") (ah4 X.K):=by
 intro pins s σ H xs us Q I r h
 obtain ⟨a,vs,rfl,ha,w,q⟩:=h
 obtain ⟨u,rfl,D⟩:=ab6 r
 cases D
 obtain ⟨its,p,P,hz⟩:=I.list ha
 obtain ⟨l,C⟩:=af6 p w
 have c:its.length<=sizeLine:=by rw [← p.length];exact hz
 have d:H (s.heap.objs.size+1)=none:=I.hok.fresh (Nat.le_succ _)
 have fin:∀ out:List Value,out.Perm its->(out.map adb).Pairwise (fun x y=>HT.lexLt (kH H y) (kH H x)=false)->EP X pins σ Q (.ref (s.heap.objs.size+1)) { s with heap:=sortedAll s.heap its out.toArray }:=by
  intro out f m
  obtain ⟨e,O⟩:=sortedAll_at s.heap its out.toArray
  have g:Vals (out.map adb) out:=af5 fun u A=>l u (f.mem_iff.mp A)
  refine ⟨.ref (s.heap.objs.size+1),_,I.laid (t':=s.toks) (o:=.lst (out.map adb)) (fun b S q=>sortedAll_old q) (Nat.le_succ _) ?_,rfl,q _ _ ?_ m d⟩
  ·refine ⟨by rw [aA3,f.length_eq];exact c,out,e,g,by rw [O]⟩
  ·rw [← C];exact f.map adb
 refine TS.sorted_any P.isList c (fun F h' kp=>?_) fun j=>?_
 ·obtain ⟨⟨fs,B,R,G⟩,N⟩:=ahe I kp p w
  have n:(Value.type "int" != Value.type "tuple")=true:=by rfl
  refine ⟨tuples' true,TS.tS h' (fun a=>kH H (.ref a)),TS.tR (fun a=>kH H (.ref a)),fun Z E=>?_,TS.cmp_tups (s:={ s with heap:=h' }) (fun a=>kH H (.ref a)),fun v g=>?_,fun out f m=>fin out f ?_⟩
  ·refine PySem.W.kat_kind (T:=.type "int") (s:={ s with heap:=h' }) B (by omega) (fun v g=>?_) (by rfl) ?_
   ·obtain ⟨i,t,rfl⟩:=G v g
    exact .now
   ·rw [n];exact E
  ·obtain ⟨a,e,J⟩:=N v g
   exact ⟨rfl,a,e,J⟩
  ·rw [aF7]
   refine aH6 ?_ m
   intro x y M L z
   obtain ⟨U,rfl⟩:=l x (f.mem_iff.mp M)
   obtain ⟨Y,rfl⟩:=l y (f.mem_iff.mp L)
   exact z
 ·refine fin its (List.Perm.refl _) ?_
  exact al5 (by rw [aA3];exact j)
end
end L2
namespace HT
open PySem PySem.Spec PyProof.Rows L2
section
variable {prog:Program} {w:World} {A:Around} {kw:List (Str × Value)} {R:Result->Shared->Prop} {I S:Addr} {fp wr:List Addr} {n:Nat} {P:Nat->Value->Prop} {St:Nat->Heap->Prop} {Hd:Heap->Prop}
end
section
variable {prog:Program} {w:World} {A:Around} {E:Value->Shared->Prop} {s:Shared}
end
end HT
namespace L2
open PySem PySem.Spec PyProof.Rows
section
variable {X:Cx} {x:Str} {p pos kpos:Pos} {e en:Expr} {t:TA}
end
end L2
namespace HT
open PySem PySem.Spec PyProof.Rows
section
variable {prog:Program} {w:World} {A:Around} {E:Value->Shared->Prop} {s:Shared}
end
end HT
namespace L2
open PySem PySem.Spec PyProof.Rows
section
variable {X:Cx}
end
end L2
namespace VL
open PySem PySem.Spec L2
def kD:Key->PyData
 | .inl i => .int i
 | .inr x => .str x
mutual
inductive Rp (G:Hp):V->PyData->Prop
 | non:Rp G .non .none
 | bl (b:Bool):Rp G (.bl b) (.bool b)
 | int (i:Int):Rp G (.int i) (.int i)
 | str (x:Str):Rp G (.str x) (.str x)
 | lst {a:Addr} {xs:List V} {ds:List PyData}:G a=some (.lst xs)->Rps G xs ds->Rp G (.ref a) (.list ds)
 | tup {a:Addr} {xs:List V} {ds:List PyData}:G a=some (.tup xs)->Rps G xs ds->Rp G (.ref a) (.tuple ds)
 | dk {a:Addr} {kvs:List (Key × V)} {es:List (Key × PyData)} {ds:List (PyData × PyData)}:G a=some (.dK kvs)->RpK G kvs es->ds=es.map (fun p=>(kD p.1,p.2))->Rp G (.ref a) (.dict ds)
 | dt {a:Addr} {kvs:List (List Key × V)} {es:List (List Key × PyData)} {ds:List (PyData × PyData)}:G a=some (.dT kvs)->RpT G kvs es->ds=es.map (fun p=>(.tuple (p.1.map kD),p.2))->Rp G (.ref a) (.dict ds)
inductive Rps (G:Hp):List V->List PyData->Prop
 | nil:Rps G [] []
 | cons {v:V} {vs:List V} {d:PyData} {ds:List PyData}:Rp G v d->Rps G vs ds->Rps G (v :: vs) (d :: ds)
inductive RpK (G:Hp):List (Key × V)->List (Key × PyData)->Prop
 | nil:RpK G [] []
 | cons {k:Key} {v:V} {d:PyData} {r:List (Key × V)} {s:List (Key × PyData)}:Rp G v d->RpK G r s->RpK G ((k,v) :: r) ((k,d) :: s)
inductive RpT (G:Hp):List (List Key × V)->List (List Key × PyData)->Prop
 | nil:RpT G [] []
 | cons {k:List Key} {v:V} {d:PyData} {r:List (List Key × V)} {s:List (List Key × PyData)}:Rp G v d->RpT G r s->RpT G ((k,v) :: r) ((k,d) :: s)
end
mutual
theorem Rp.same {G G':Hp} (s:Same G G'):∀ {v:V} {d:PyData},Rp G v d->Rp G' v d
 | _,_,.non => .non
 | _,_,.bl b => .bl b
 | _,_,.int i => .int i
 | _,_,.str x => .str x
 | _,_,.lst h r => .lst (s _ _ h) (Rps.same s r)
 | _,_,.tup h r => .tup (s _ _ h) (Rps.same s r)
 | _,_,.dk h r e => .dk (s _ _ h) (RpK.same s r) e
 | _,_,.dt h r e => .dt (s _ _ h) (RpT.same s r) e
theorem Rps.same {G G':Hp} (s:Same G G'):∀ {vs:List V} {ds:List PyData},Rps G vs ds->Rps G' vs ds
 | _,_,.nil => .nil
 | _,_,.cons r t => .cons (Rp.same s r) (Rps.same s t)
theorem RpK.same {G G':Hp} (s:Same G G'):∀ {vs:List (Key × V)} {ds:List (Key × PyData)},RpK G vs ds->RpK G' vs ds
 | _,_,.nil => .nil
 | _,_,.cons r t => .cons (Rp.same s r) (RpK.same s t)
theorem RpT.same {G G':Hp} (s:Same G G'):∀ {vs:List (List Key × V)} {ds:List (List Key × PyData)},RpT G vs ds->RpT G' vs ds
 | _,_,.nil => .nil
 | _,_,.cons r t => .cons (Rp.same s r) (RpT.same s t)
end
theorem Rps.length {G:Hp}:∀ {vs:List V} {ds:List PyData},Rps G vs ds->vs.length=ds.length
 | _,_,.nil=>rfl
 | _,_,.cons _ t=>by simp [Rps.length t]
theorem Rps.get {G:Hp}:∀ {vs:List V} {ds:List PyData} {i:Nat} {d:PyData},Rps G vs ds->ds[i]?=some d->∃ v,vs[i]?=some v/\Rp G v d
 | _,_,_,_,.nil,e=>by simp at e
 | _,_,0,_,.cons r _,e=>by simp at e;subst e;exact ⟨_,rfl,r⟩
 | _,_,i+1,d,.cons _ t,e=>by
  obtain ⟨u,b,a⟩:=Rps.get (i:=i) (d:=d) t (by simpa using e)
  exact ⟨u,by simpa using b,a⟩
theorem Rps.append {G:Hp}:∀ {vs a:List V} {ds es:List PyData},Rps G vs ds->Rps G a es->Rps G (vs ++ a) (ds ++ es)
 | _,_,_,_,.nil,s=>s
 | _,_,_,_,.cons r t,s => .cons r (Rps.append t s)
theorem Rps.set {G:Hp} {v:V} {d:PyData} (h:Rp G v d):∀ {vs:List V} {ds:List PyData} (i:Nat),Rps G vs ds->Rps G (vs.set i v) (ds.set i d)
 | _,_,_,.nil => .nil
 | _,_,0,.cons _ t => .cons h t
 | _,_,i+1,.cons r t => .cons r (Rps.set h i t)
theorem Rps.erase {G:Hp}:∀ {vs:List V} {ds:List PyData} (i:Nat),Rps G vs ds->Rps G (vs.eraseIdx i) (ds.eraseIdx i)
 | _,_,_,.nil => .nil
 | _,_,0,.cons _ t=>t
 | _,_,i+1,.cons r t => .cons r (Rps.erase i t)
theorem Rps.take {G:Hp}:∀ {vs:List V} {ds:List PyData} (i:Nat),Rps G vs ds->Rps G (vs.take i) (ds.take i)
 | _,_,0,_ => .nil
 | _,_,_+1,.nil => .nil
 | _,_,i+1,.cons r t => .cons r (Rps.take i t)
theorem Rps.drop {G:Hp}:∀ {vs:List V} {ds:List PyData} (i:Nat),Rps G vs ds->Rps G (vs.drop i) (ds.drop i)
 | _,_,0,r=>r
 | _,_,_+1,.nil => .nil
 | _,_,i+1,.cons _ t=>Rps.drop i t
theorem Rps.rep {G:Hp} {vs:List V} {ds:List PyData} (h:Rps G vs ds):∀ (k:Nat),Rps G (List.replicate k vs).flatten (List.replicate k ds).flatten
 | 0 => .nil
 | k+1=>by
  rw [aG9,aG9,List.flatten_cons,List.flatten_cons]
  exact h.append (Rps.rep h k)
theorem Rps.ints {G:Hp}:∀ (ns:List Int),Rps G (ns.map V.int) (ns.map PyData.int)
 | [] => .nil
 | n :: ns => .cons (.int n) (Rps.ints ns)
theorem Rps.ints_inv {G:Hp}:∀ {ns:List Int} {vs:List V},Rps G vs (ns.map PyData.int)->vs=ns.map V.int
 | [],_,.nil=>rfl
 | n :: ns,_,.cons r t=>by
  cases r
  rw [Rps.ints_inv t];rfl
mutual
theorem Rp.rep {G:Hp}:∀ {v:V} {d:PyData},Rp G v d->aas d=true->Rep G v d
 | _,_,.non,_ => .non
 | _,_,.bl b,_ => .bl b
 | _,_,.int i,_ => .int i
 | _,_,.str x,_ => .str x
 | _,_,.lst h r,p => .lst h (Rps.reps r (by simpa [aas] using p))
 | _,_,.tup h r,p => .tup h (Rps.reps r (by simpa [aas] using p))
 | _,_,.dk h r e,p=>by simp [aas] at p
 | _,_,.dt h r e,p=>by simp [aas] at p
theorem Rps.reps {G:Hp}:∀ {vs:List V} {ds:List PyData},Rps G vs ds->plainDs ds=true->Reps G vs ds
 | _,_,.nil,_ => .nil
 | _,_,.cons r t,p=>by
  simp only [plainDs,aG7] at p
  exact .cons (Rp.rep r p.1) (Rps.reps t p.2)
end
structure Own where
 P:Hp->Hp->V->(Addr->Prop)->Prop
 mono:∀ {G H G' H':Hp} {v:V} {F:Addr->Prop},P G H v F->Same G G'->(∀ a o,F a->H a=some o->H' a=some o)->P G' H' v F
 dom:∀ {G H:Hp} {v:V} {F:Addr->Prop},P G H v F->∀ a,F a->∃ o,H a=some o
inductive Sl where
 | st (d:PyData) | own (A:Own) | io (A:Own) | scr (ns:List Int)
abbrev En:=List (Option Sl)
structure Bs where
 K:Frag
 G:Hp
 H:Hp
 R:Hp
 S:St
 F:Nat->Addr->Prop
def SlOk (B:Bs) (G H:Hp) (i:Nat) (v:V) (F:Addr->Prop):Sl->Prop
 | .st d=>Rp G v d/\∀ a,¬ F a
 | .own A=>A.P G H v F/\∀ a,F a->B.H a=none
 | .io A=>A.P G H v F/\(∀ a,F a->B.F i a\/B.H a=none)/\B.S[i]?=some (some v)
 | .scr ns=>(∃ a,v=.ref a/\SqL B.K G a (ns.map V.int))/\∀ a,¬ F a
def FT (G H:Hp):Prop:=∀ (a:Addr) (ks:List Key),H a=some (.tup (ks.map kV))->G a=some (.tup (ks.map kV))
structure VI (B:Bs) (G H:Hp) (σ:St) (env:En) (F:Nat->Addr->Prop):Prop where
 gh:Same G H
 g0:Same B.G G
 gn:∀ a o,G a=some o->B.G a=some o\/B.H a=none
 rs:Same B.R H
 rb:Same B.R B.H
 bh:∀ a o,B.H a=some o->∃ o',H a=some o'
 fg:∀ i a,F i a->G a=none
 fr:∀ i a,F i a->B.R a=none
 fd:∀ i j a,F i a->F j a->i=j
 fo:∀ i a,F i a->∃ o,H a=some o
 sl:∀ i s,env[i]?=some (some s)->∃ v,σ[i]?=some (some v)/\SlOk B G H i v (F i) s
 ln : σ.length=env.length
 ft:FT G H
def RsOk (G H:Hp) (v:V) (F:Addr->Prop):Sl->Prop
 | .st d=>Rp G v d/\∀ a,¬ F a
 | .own A=>A.P G H v F
 | _=>False
structure RsX (B:Bs) (G H:Hp) (v:V) (Fv:Addr->Prop) (s:Sl) (F:Nat->Addr->Prop):Prop where
 ok:RsOk G H v Fv s
 fb:∀ a,Fv a->B.H a=none
 fg:∀ a,Fv a->G a=none
 fo:∀ a,Fv a->∃ o,H a=some o
 fd:∀ j a,Fv a->¬ F j a
structure Out (G H:Hp) (v:V) (G' H':Hp) (s:Sl) (Fv:Addr->Prop):Prop where
 gg:Same G G'
 gh:Same G' H'
 hh:Same H H'
 gn:∀ a o,G' a=some o->G a=some o\/H a=none
 fn:∀ a,Fv a->H a=none
 fg:∀ a,Fv a->G' a=none
 fo:∀ a,Fv a->∃ o,H' a=some o
 ok:RsOk G' H' v Fv s
 ft:FT G H->FT G' H'
theorem ah5 {α:Type} {o:Option α} (h:o ≠ none):∃ x,o=some x:=by
 cases o with
 | none=>exact absurd rfl h
 | some x=>exact ⟨x,rfl⟩
theorem SlOk.mono {B:Bs} {G H G' H':Hp} {i:Nat} {v:V} {F:Addr->Prop} {s:Sl} (h:SlOk B G H i v F s) (g:Same G G') (hh:∀ a o,F a->H a=some o->H' a=some o):SlOk B G' H' i v F s:=by
 cases s with
 | st d=>exact ⟨h.1.same g,h.2⟩
 | own A=>exact ⟨A.mono h.1 g hh,h.2⟩
 | io A=>exact ⟨A.mono h.1 g hh,h.2⟩
 | scr ns =>
  obtain ⟨⟨a,e,q⟩,n⟩:=h
  exact ⟨⟨a,e,g.seq q⟩,n⟩
section
variable {B:Bs} {G H G' H':Hp} {σ:St} {env:En} {F:Nat->Addr->Prop} {v:V} {s:Sl} {Fv:Addr->Prop}
theorem VI.no_r (I:VI B G H σ env F) {a:Addr} (h:H a=none):B.R a=none:=by
 cases e:B.R a with
 | none=>rfl
 | some o=>rw [I.rs a o e] at h;cases h
theorem VI.no_b (I:VI B G H σ env F) {a:Addr} (h:H a=none):B.H a=none:=by
 cases e:B.H a with
 | none=>rfl
 | some o=>obtain ⟨o',b⟩:=I.bh a o e;rw [b] at h;cases h
theorem VI.no_g (I:VI B G H σ env F) {a:Addr} (h:H a=none):G a=none:=by
 cases e:G a with
 | none=>rfl
 | some o=>rw [I.gh a o e] at h;cases h
theorem VI.no_f (I:VI B G H σ env F) {a:Addr} (h:H a=none) (i:Nat):¬ F i a:=fun z=>by
 obtain ⟨o,e⟩:=I.fo i a z;rw [e] at h;cases h
theorem VI.grow (I:VI B G H σ env F) (gg:Same G G') (gh:Same G' H') (hh:Same H H') (gn:∀ a o,G' a=some o->G a=some o\/H a=none) (ft:FT G' H'):VI B G' H' σ env F where
 gh:=gh
 g0:=I.g0.trans gg
 gn:=fun a o e=>by
  rcases gn a o e with e | e
  ·exact I.gn a o e
  ·exact .inr (I.no_b e)
 rs:=I.rs.trans hh
 rb:=I.rb
 bh:=fun a o e=>by obtain ⟨o',b⟩:=I.bh a o e;exact ⟨o',hh _ _ b⟩
 fg:=fun i a z=>by
  cases e:G' a with
  | none=>rfl
  | some o =>
   rcases gn a o e with e | e
   ·rw [I.fg i a z] at e;cases e
   ·exact absurd z (I.no_f e i)
 fr:=I.fr
 fd:=I.fd
 fo:=fun i a z=>by obtain ⟨o,e⟩:=I.fo i a z;exact ⟨o,hh _ _ e⟩
 sl:=fun i s e=>by
  obtain ⟨v,d,c⟩:=I.sl i s e
  exact ⟨v,d,c.mono gg fun a o _ q=>hh _ _ q⟩
 ln:=I.ln
 ft:=ft
theorem VI.out (I:VI B G H σ env F) (o:Out G H v G' H' s Fv):VI B G' H' σ env F/\RsX B G' H' v Fv s F :=
 ⟨I.grow o.gg o.gh o.hh o.gn (o.ft I.ft),o.ok,fun a z=>I.no_b (o.fn a z),o.fg,o.fo,fun j a z y=>I.no_f (o.fn a z) j y⟩
theorem VI.b_r (I:VI B G H σ env F) {a:Addr} (h:B.H a=none):B.R a=none:=by
 cases e:B.R a with
 | none=>rfl
 | some o=>rw [I.rb a o e] at h;cases h
def putF (F:Nat->Addr->Prop) (i:Nat) (Fv:Addr->Prop):Nat->Addr->Prop:=fun j a=>if j=i then Fv a else F j a
theorem putF_same {i:Nat} {a:Addr}:putF F i Fv i a ↔ Fv a:=by unfold putF;rw [aF1 rfl]
theorem ae8 {i:Nat}:putF F i Fv i=Fv:=by funext a;unfold putF;rw [aF1 rfl]
theorem abe {i j:Nat} (h:j ≠ i):putF F i Fv j=F j:=by funext a;unfold putF;rw [aF2 h]
theorem VI.slot (I:VI B G H σ env F) (i:Nat) (o:Option V) (os:Option Sl) (fg:∀ a,Fv a->G a=none) (fr:∀ a,Fv a->B.R a=none) (fo:∀ a,Fv a->∃ o,H a=some o) (fd:∀ j a,j ≠ i->Fv a->¬ F j a)
  (ok:∀ s,os=some s->∃ v,o=some v/\SlOk B G H i v Fv s):VI B G H (σ.set i o) (env.set i os) (putF F i Fv) where
 gh:=I.gh
 g0:=I.g0
 gn:=I.gn
 rs:=I.rs
 rb:=I.rb
 bh:=I.bh
 fg:=fun j a z=>by
  by_cases h:j=i
  ·subst h;exact fg a (putF_same.mp z)
  ·rw [abe h] at z;exact I.fg j a z
 fr:=fun j a z=>by
  by_cases h:j=i
  ·subst h;exact fr a (putF_same.mp z)
  ·rw [abe h] at z;exact I.fr j a z
 fd:=fun j k a y z=>by
  by_cases h:j=i
  ·by_cases g:k=i
   ·rw [h,g]
   ·subst h;rw [abe g] at z;exact absurd z (fd k a g (putF_same.mp y))
  ·by_cases g:k=i
   ·subst g;rw [abe h] at y;exact absurd y (fd j a h (putF_same.mp z))
   ·rw [abe h] at y;rw [abe g] at z;exact I.fd j k a y z
 fo:=fun j a z=>by
  by_cases h:j=i
  ·subst h;exact fo a (putF_same.mp z)
  ·rw [abe h] at z;exact I.fo j a z
 sl:=fun j t e=>by
  by_cases h:j=i
  ·subst h
   rw [aD1,aF1 rfl] at e
   by_cases hl:j < env.length
   ·rw [aF1 hl] at e
    obtain ⟨v,b,q⟩:=ok t (aC5 e)
    refine ⟨v,by rw [aD1,aF1 rfl,aF1 (by rw [I.ln];exact hl),b],?_⟩
    rw [ae8];exact q
   ·rw [aF2 hl] at e;cases e
  ·rw [aD1,aF2 (fun z=>h z.symm)] at e
   obtain ⟨v,b,q⟩:=I.sl j t e
   refine ⟨v,by rw [aD1,aF2 (fun z=>h z.symm)];exact b,?_⟩
   rw [abe h];exact q
 ln:=by simp [I.ln]
 ft:=I.ft
theorem VI.store (I:VI B G H σ env F) (r:RsX B G H v Fv s F) (i:Nat):VI B G H (σ.set i (some v)) (env.set i (some s)) (putF F i Fv):=by
 refine I.slot i (some v) (some s) r.fg (fun a z=>I.b_r (r.fb a z)) r.fo (fun j a _ z=>r.fd j a z) fun t e=>?_
 cases e
 refine ⟨v,rfl,?_⟩
 have:=r.ok
 cases s with
 | st d=>exact this
 | own A=>exact ⟨this,r.fb⟩
 | io A=>exact this.elim
 | scr ns=>exact this.elim
theorem VI.drop (I:VI B G H σ env F) (i:Nat):VI B G H σ (env.set i none) (putF F i fun _=>False):=by
 have:=I.slot (Fv:=fun _=>False) i ((σ[i]?).getD none) none (fun a z=>z.elim) (fun a z=>z.elim) (fun a z=>z.elim) (fun j a _ z=>z.elim) (fun s e=>by cases e)
 rwa [show σ.set i ((σ[i]?).getD none) = σ from ?_] at this
 apply aF8
 intro j
 rw [aD1]
 by_cases h:i=j
 ·subst h
  rw [aF1 rfl]
  by_cases hl:i < σ.length
  ·rw [aF1 hl,aA0 hl];rfl
  ·rw [aF2 hl,aF3.mpr (by omega)]
 ·rw [aF2 h]
theorem VI.change {A:Own} (I:VI B G H σ env F) (i:Nat) {H2:Hp} {F2:Addr->Prop} {os os':Sl} (e:env[i]?=some (some os)) (g : σ[i]?=some (some v))
  (keep:∀ a o,¬ F i a->H a=some o->H2 a=some o) (m:∀ a o,H a=some o->∃ o',H2 a=some o') (c:∀ a,F2 a->(F i a\/H a=none)/\∃ o,H2 a=some o) (n:A.P G H2 v F2) (L:FT G H2)
  (N:(os'=.own A/\∃ d,os=.own d)\/(os'=.io A/\∃ d,os=.io d)):VI B G H2 σ (env.set i (some os')) (putF F i F2):=by
 obtain ⟨R,f,q⟩:=I.sl i os e
 rw [g] at f;cases f
 have p:∀ j a,j ≠ i->F j a->¬ F i a:=fun j a b y z=>b (I.fd j i a y z)
 have K:∀ a,F2 a->G a=none:=fun a z=>by
  rcases (c a z).1 with y | y
  ·exact I.fg i a y
  ·exact I.no_g y
 have J:VI B G H2 σ (env.set i none) (putF F i fun _=>False):=by
  have D:=I.drop i
  refine ⟨fun a o x=>keep a o (fun z=>by rw [I.fg i a z] at x;cases x) (I.gh a o x),D.g0,D.gn,fun a o x=>keep a o (fun z=>by rw [I.fr i a z] at x;cases x) (I.rs a o x),D.rb,fun a o x=>?_,D.fg,D.fr,D.fd,fun j a z=>?_,fun j s x=>?_,D.ln,L⟩
  ·obtain ⟨o',O⟩:=I.bh a o x
   exact m a o' O
  ·obtain ⟨o,x⟩:=D.fo j a z
   exact m a o x
  ·obtain ⟨u,C,w⟩:=D.sl j s x
   refine ⟨u,C,w.mono (Same.refl G) fun a o z y=>?_⟩
   by_cases b:j=i
   ·subst b;exact (putF_same.mp z).elim
   ·rw [abe b] at z
    exact keep a o (p j a b z) y
 have l:=J.slot (Fv:=F2) i (some v) (some os') K (fun a z=>by
   rcases (c a z).1 with y | y
   ·exact I.fr i a y
   ·exact I.no_r y) (fun a z=>(c a z).2) (fun j a b z y=>by
   rw [abe b] at y
   rcases (c a z).1 with x | x
   ·exact p j a b y x
   ·exact I.no_f x j y) fun t E=>by
   cases E
   refine ⟨v,rfl,?_⟩
   rcases N with ⟨rfl,d,rfl⟩ | ⟨rfl,d,rfl⟩
   ·refine ⟨n,fun a z=>?_⟩
    rcases (c a z).1 with y | y
    ·exact q.2 a y
    ·exact I.no_b y
   ·refine ⟨n,fun a z=>?_,q.2.2⟩
    rcases (c a z).1 with y | y
    ·exact q.2.1 a y
    ·exact .inr (I.no_b y)
 have Q : σ.set i (some v) = σ:=by
  apply aF8
  intro j
  rw [aD1]
  by_cases h:i=j
  ·subst h
   rw [aF1 rfl,g,aF1 (aA1.mp g).1]
  ·rw [aF2 h]
 have M:(env.set i none).set i (some os')=env.set i (some os'):=by simp
 have r:putF (putF F i fun _=>False) i F2=putF F i F2:=by
  funext j a
  by_cases h:j=i
  ·subst h;rw [ae8,ae8]
  ·rw [abe h,abe h,abe h]
 rw [Q,M,r] at l
 exact l
end
open Classical in
def jn (G H:Hp) (F:Addr->Prop):Hp:=fun a=>if F a then H a else G a
theorem afi {G H:Hp} {F:Addr->Prop} {a:Addr} (h:F a):jn G H F a=H a:=aF1 h
theorem aku {G H:Hp} {F:Addr->Prop} {a:Addr} (h:¬ F a):jn G H F a=G a:=aF2 h
theorem abm {G H:Hp} {F:Addr->Prop} (h:∀ a,F a->G a=none):Same G (jn G H F):=fun a o e=>by
 rw [aku (fun z=>by rw [h a z] at e;cases e)];exact e
theorem akv {G H:Hp} {F:Addr->Prop} (h:Same G H):Same (jn G H F) H:=fun a o e=>by
 by_cases z:F a
 ·rw [afi z] at e;exact e
 ·rw [aku z] at e;exact h a o e
def Frz (A:Own) (d:PyData):Prop:=∀ (G H:Hp) (v:V) (F:Addr->Prop),A.P G H v F->(∀ a,F a->G a=none)->Same G H->Rp (jn G H F) v d
def FQ:Sl->(PyData->Prop)->Prop
 | .st d,R=>R d
 | .own A,R=>∃ d,Frz A d/\R d
 | _,_=>False
def OL (ds:List PyData):Own where
 P:=fun G H v F=>∃ a vs,v=.ref a/\H a=some (.lst vs)/\Rps G vs ds/\∀ b,F b ↔ b=a
 mono:=fun ⟨a,vs,e,h,r,f⟩ g hh=>⟨a,vs,e,hh a _ ((f a).mpr rfl) h,r.same g,f⟩
 dom:=fun ⟨a,vs,e,h,r,f⟩ b z=>by rw [(f b).mp z];exact ⟨_,h⟩
def OD (es:List (Key × PyData)):Own where
 P:=fun G H v F=>∃ a kvs,v=.ref a/\H a=some (.dK kvs)/\RpK G kvs es/\∀ b,F b ↔ b=a
 mono:=fun ⟨a,vs,e,h,r,f⟩ g hh=>⟨a,vs,e,hh a _ ((f a).mpr rfl) h,r.same g,f⟩
 dom:=fun ⟨a,vs,e,h,r,f⟩ b z=>by rw [(f b).mp z];exact ⟨_,h⟩
def OT (es:List (List Key × PyData)):Own where
 P:=fun G H v F=>∃ a kvs,v=.ref a/\H a=some (.dT kvs)/\RpT G kvs es/\∀ b,F b ↔ b=a
 mono:=fun ⟨a,vs,e,h,r,f⟩ g hh=>⟨a,vs,e,hh a _ ((f a).mpr rfl) h,r.same g,f⟩
 dom:=fun ⟨a,vs,e,h,r,f⟩ b z=>by rw [(f b).mp z];exact ⟨_,h⟩
theorem aef {ds:List PyData}:Frz (OL ds) (.list ds):=fun G H v F ⟨a,vs,e,h,r,f⟩ n g=>by
 subst e
 exact .lst (by rw [afi ((f a).mpr rfl)];exact h) (r.same (abm n))
theorem ax9 {es:List (Key × PyData)}:Frz (OD es) (.dict (es.map fun p=>(kD p.1,p.2))):=fun G H v F ⟨a,vs,e,h,r,f⟩ n g=>by
 subst e
 exact .dk (by rw [afi ((f a).mpr rfl)];exact h) (r.same (abm n)) rfl
theorem azq {d:PyData} {R:PyData->Prop} (h:R d):FQ (.st d) R:=h
theorem adc {ds:List PyData} {R:PyData->Prop} (h:R (.list ds)):FQ (.own (OL ds)) R:=⟨_,aef,h⟩
section
variable {B:Bs} {G H G' H':Hp} {σ:St} {env:En} {F:Nat->Addr->Prop} {v:V} {s:Sl} {Fv:Addr->Prop}
theorem VI.freeze (I:VI B G H σ env F) (fb:∀ a,Fv a->B.H a=none) (fd:∀ j a,Fv a->¬ F j a) (fg:∀ a,Fv a->G a=none):VI B (jn G H Fv) H σ env F where
 gh:=akv I.gh
 g0:=I.g0.trans (abm fg)
 gn:=fun a o e=>by
  by_cases z:Fv a
  ·exact .inr (fb a z)
  ·rw [aku z] at e;exact I.gn a o e
 rs:=I.rs
 rb:=I.rb
 bh:=I.bh
 fg:=fun i a z=>by
  rw [aku (fun y=>fd i a y z)];exact I.fg i a z
 fr:=I.fr
 fd:=I.fd
 fo:=I.fo
 sl:=fun i s e=>by
  obtain ⟨v,b,c⟩:=I.sl i s e
  exact ⟨v,b,c.mono (abm fg) fun a o _ q=>q⟩
 ln:=I.ln
 ft:=fun a d e=>abm fg _ _ (I.ft a d e)
theorem VI.frz {A:Own} {d:PyData} {i:Nat} (I:VI B G H σ env F) (e:env[i]?=some (some (.own A))) (f:Frz A d) :
  ∃ v,σ[i]?=some (some v)/\Rp (jn G H (F i)) v d/\Same G (jn G H (F i))/\VI B (jn G H (F i)) H σ (env.set i (some (.st d))) (putF F i fun _=>False):=by
 obtain ⟨v,b,q⟩:=I.sl i _ e
 have c:=f G H v (F i) q.1 (I.fg i) I.gh
 refine ⟨v,b,c,abm (I.fg i),?_⟩
 have D:=(I.drop i).freeze (Fv:=F i) q.2 (fun j a z y=>by
  by_cases h:j=i
  ·subst h;exact (putF_same.mp y).elim
  ·rw [abe h] at y;exact h (I.fd j i a y z)) (I.fg i)
 have J:=D.slot (Fv:=fun _=>False) i (some v) (some (.st d)) (fun a z=>z.elim) (fun a z=>z.elim) (fun a z=>z.elim) (fun j a _ z=>z.elim) (fun t l=>by cases l;exact ⟨v,rfl,c,fun a z=>z⟩)
 have m : σ.set i (some v) = σ:=by
  apply aF8
  intro j
  rw [aD1]
  by_cases h:i=j
  ·subst h
   rw [aF1 rfl,b,aF1 (aA1.mp b).1]
  ·rw [aF2 h]
 have g:putF (putF F i fun _=>False) i (fun _=>False)=putF F i fun _=>False:=by
  funext j a
  by_cases h:j=i
  ·subst h;rw [ae8,ae8]
  ·rw [abe h,abe h]
 rw [m,g,List.set_set] at J
 exact J
theorem Out.refl {d:PyData} (g:Same G H) (r:Rp G v d):Out G H v G H (.st d) (fun _=>False):=⟨Same.refl _,g,Same.refl _,fun a o e => .inl e,fun a z=>z.elim,fun a z=>z.elim,fun a z=>z.elim,⟨r,fun a z=>z⟩,fun t=>t⟩
theorem avp {p:Addr} {o:HO} (g:Same G H) (h:H p=none):Same (upd G p o) (upd H p o):=fun a u e=>by
 by_cases z:a=p
 ·subst z;rw [aaf] at e ⊢;exact e
 ·rw [aad z] at e ⊢;exact g a u e
theorem aav {p:Addr} (g:Same G H) (h:H p=none):G p=none:=by
 cases e:G p with
 | none=>rfl
 | some o=>rw [g p o e] at h;cases h
theorem Out.newT {p:Addr} {xs:List V} {ds:List PyData} (g:Same G H) (h:H p=none) (r:Rps G xs ds):Out G H (.ref p) (upd G p (.tup xs)) (upd H p (.tup xs)) (.st (.tuple ds)) (fun _=>False) where
 gg:=abg (aav g h)
 gh:=avp g h
 hh:=abg h
 gn:=fun a o e=>by
  by_cases z:a=p
  ·subst z;exact .inr h
  ·rw [aad z] at e;exact .inl e
 fn:=fun a z=>z.elim
 fg:=fun a z=>z.elim
 fo:=fun a z=>z.elim
 ok:=⟨.tup aaf (r.same (abg (aav g h))),fun a z=>z⟩
 ft:=fun t a b e=>by
  by_cases z:a=p
  ·subst z;rw [aaf] at e ⊢;exact e
  ·rw [aad z] at e ⊢;exact t a b e
theorem Out.newO {p:Addr} {o:HO} {A:Own} (g:Same G H) (h:H p=none) (c:∀ xs,o ≠ .tup xs) (r:A.P G (upd H p o) (.ref p) (· = p)):Out G H (.ref p) G (upd H p o) (.own A) (· = p) where
 gg:=Same.refl _
 gh:=g.trans (abg h)
 hh:=abg h
 gn:=fun a o e => .inl e
 fn:=fun a z=>by rw [z];exact h
 fg:=fun a z=>by rw [z];exact aav g h
 fo:=fun a z=>by rw [z];exact ⟨_,aaf⟩
 ok:=r
 ft:=fun t a b e=>by
  by_cases z:a=p
  ·subst z;rw [aaf] at e;exact absurd (aC5 e) (c _)
  ·rw [aad z] at e;exact t a b e
theorem Out.newL {p:Addr} {xs:List V} {ds:List PyData} (g:Same G H) (h:H p=none) (r:Rps G xs ds):Out G H (.ref p) G (upd H p (.lst xs)) (.own (OL ds)) (· = p) :=
 .newO g h (fun _ z=>nomatch z) ⟨p,xs,rfl,aaf,r,fun b=>Iff.rfl⟩
theorem Out.newD {p:Addr} {xs:List (Key × V)} {ds:List (Key × PyData)} (g:Same G H) (h:H p=none) (r:RpK G xs ds):Out G H (.ref p) G (upd H p (.dK xs)) (.own (OD ds)) (· = p) :=
 .newO g h (fun _ z=>nomatch z) ⟨p,xs,rfl,aaf,r,fun b=>Iff.rfl⟩
theorem Out.newDT {p:Addr} {xs:List (List Key × V)} {ds:List (List Key × PyData)} (g:Same G H) (h:H p=none) (r:RpT G xs ds):Out G H (.ref p) G (upd H p (.dT xs)) (.own (OT ds)) (· = p) :=
 .newO g h (fun _ z=>nomatch z) ⟨p,xs,rfl,aaf,r,fun b=>Iff.rfl⟩
end
def EvO (B:Bs) (te:TE) (env:En) (Q':Sl->En->Prop):Prop:=∀ (σ:St) (G H:Hp) (F:Nat->Addr->Prop) (Q:VK),VI B G H σ env F ->
 (∀ v G' H' F' Fv s env',VI B G' H' σ env' F'->Same G G'->RsX B G' H' v Fv s F'->Q' s env'->Q v H')->te σ H Q
def Ev (B:Bs) (te:TE) (env:En) (Q':PyData->En->Prop):Prop:=∀ (σ:St) (G H:Hp) (F:Nat->Addr->Prop) (Q:VK),VI B G H σ env F ->
 (∀ v G' H' F' d env',VI B G' H' σ env' F'->Same G G'->Rp G' v d->Q' d env'->Q v H')->te σ H Q
def EvT (B:Bs) (tt:TT) (env:En) (Q':Bool->En->Prop):Prop:=∀ (σ:St) (G H:Hp) (F:Nat->Addr->Prop) (Q:Bool->Hp->Prop),VI B G H σ env F ->
 (∀ b G' H' F' env',VI B G' H' σ env' F'->Same G G'->Q' b env'->Q b H')->tt σ H Q
def EvA (B:Bs) (ta:TA) (env:En) (Q':List PyData->En->Prop):Prop:=∀ (σ:St) (G H:Hp) (F:Nat->Addr->Prop) (Q:List V->Hp->Prop),VI B G H σ env F ->
 (∀ vs G' H' F' ds env',VI B G' H' σ env' F'->Same G G'->Rps G' vs ds->Q' ds env'->Q vs H')->ta σ H Q
structure ItOk (G:Hp) (J:It) (ds:List PyData):Prop where
 go:∀ i G' H',Same G G'->Same G' H'->i < ds.length->J.go i H'
 stop:∀ i G' H',Same G G'->Same G' H'->i=ds.length->J.stop i H'
 yld:∀ i G' H' x H'' d,Same G G'->Same G' H'->FT G' H'->ds[i]?=some d->J.yld i H' x H''->∃ G'',Out G' H' x G'' H'' (.st d) (fun _=>False)
def EvI (B:Bs) (ti:TI) (env:En) (Q':List PyData->En->Prop):Prop:=∀ (σ:St) (G H:Hp) (F:Nat->Addr->Prop) (R:It->Hp->Prop),VI B G H σ env F ->
 (∀ J G' H' F' ds env',VI B G' H' σ env' F'->Same G G'->ItOk G' J ds->Q' ds env'->R J H')->ti σ H R
def EvG (B:Bs) (g:TG) (s:Sl) (env:En) (Q':En->Prop):Prop:=∀ (σ:St) (G H:Hp) (F:Nat->Addr->Prop) (v:V) (Fv:Addr->Prop) (Q:St->Hp->Prop),VI B G H σ env F->RsX B G H v Fv s F ->
 (∀ σ' G' H' F' env',VI B G' H' σ' env' F'->Same G G'->Q' env'->Q σ' H')->g v σ H Q
def EvGs (B:Bs) (g:TGs) (ds:List PyData) (env:En) (Q':En->Prop):Prop:=∀ (σ:St) (G H:Hp) (F:Nat->Addr->Prop) (vs:List V) (Q:St->Hp->Prop),VI B G H σ env F->Rps G vs ds ->
 (∀ σ' G' H' F' env',VI B G' H' σ' env' F'->Same G G'->Q' env'->Q σ' H')->g vs σ H Q
structure VEnds where
 nx:En->Prop
 rt:Sl->En->Prop
 bk:En->Prop:=fun _=>False
 ct:En->Prop:=fun _=>False
structure RelE (B:Bs) (G:Hp) (D:Ends) (D':VEnds):Prop where
 nx:∀ σ G' H F env,VI B G' H σ env F->Same G G'->D'.nx env->D.nx σ H
 rt:∀ σ G' H F env v Fv s,VI B G' H σ env F->Same G G'->RsX B G' H v Fv s F->D'.rt s env->D.rt v H
 bk:∀ σ G' H F env,VI B G' H σ env F->Same G G'->D'.bk env->D.bk σ H
 ct:∀ σ G' H F env,VI B G' H σ env F->Same G G'->D'.ct env->D.ct σ H
def EvS (B:Bs) (ts:TS) (D':VEnds) (env:En):Prop:=∀ (σ:St) (G H:Hp) (F:Nat->Addr->Prop) (D:Ends),VI B G H σ env F->RelE B G D D'->ts D σ H
theorem RelE.later {B:Bs} {G G':Hp} {D:Ends} {D':VEnds} (r:RelE B G D D') (g:Same G G'):RelE B G' D D' :=
 ⟨fun σ a H F env I q=>r.nx σ a H F env I (g.trans q),fun σ a H F env v Fv s I q=>r.rt σ a H F env v Fv s I (g.trans q),fun σ a H F env I q=>r.bk σ a H F env I (g.trans q),fun σ a H F env I q=>r.ct σ a H F env I (g.trans q)⟩
section
variable {B:Bs} {env:En} {Q':PyData->En->Prop} {QO:Sl->En->Prop} {QT:Bool->En->Prop} {QA:List PyData->En->Prop} {te ta tb:TE}
theorem adx {G H:Hp} {v:V} {d:PyData} {F:Nat->Addr->Prop} (r:Rp G v d):RsX B G H v (fun _=>False) (.st d) F:=⟨⟨r,fun a z=>z⟩,fun a z=>z.elim,fun a z=>z.elim,fun a z=>z.elim,fun j a z=>z.elim⟩
theorem aa7 (h:Ev B te env fun d e=>QO (.st d) e):EvO B te env QO:=fun σ G H F Q I k =>
 h σ G H F Q I fun v G' H' F' d a b g r q=>k v G' H' F' _ (.st d) a b g (adx r) q
theorem abv (h:EvO B te env fun s e=>FQ s fun d=>Q' d e):Ev B te env Q':=fun σ G H F Q I k =>
 h σ G H F Q I fun v G' H' F' Fv s a b g r q=>by
  cases s with
  | st d=>exact k v G' H' F' d a b g r.ok.1 q
  | own A =>
   obtain ⟨d,f,q⟩:=q
   exact k v _ H' F' d a (b.freeze r.fb r.fd r.fg) (g.trans (abm r.fg)) (f G' H' v Fv r.ok r.fg b.gh) q
  | io A=>exact q.elim
  | scr ns=>exact q.elim
theorem aya {i:Nat} {d:PyData} (e:env[i]?=some (some (.st d))) (q:Q' d env):Ev B (tVar i) env Q':=fun σ G H F Q I k=>by
 obtain ⟨v,a,r⟩:=I.sl i _ e
 exact ⟨v,a,k v G H F d env I (Same.refl _) r.1 q⟩
theorem avq {i:Nat} {A:Own} {d:PyData} (e:env[i]?=some (some (.own A))) (f:Frz A d) (q:Q' d (env.set i (some (.st d)))):Ev B (tVar i) env Q':=fun σ G H F Q I k=>by
 obtain ⟨v,a,r,g,J⟩:=I.frz e f
 exact ⟨v,a,k v _ H _ d _ J g r q⟩
theorem as9 {i:Nat} {A:Own} (e:env[i]?=some (some (.own A))) (q:QO (.own A) (env.set i none)):EvO B (tVar i) env QO:=fun σ G H F Q I k=>by
 obtain ⟨v,b,r⟩:=I.sl i _ e
 refine ⟨v,b,k v G H _ (F i) (.own A) _ (I.drop i) (Same.refl _) ⟨r.1,r.2,I.fg i,I.fo i,fun j a z y=>?_⟩ q⟩
 by_cases h:j=i
 ·subst h;exact putF_same.mp y
 ·rw [abe h] at y;exact h (I.fd j i a y z)
theorem ayb {i:Int} (q:Q' (.int i) env):Ev B (tC (.int i)) env Q':=fun σ G H F Q I k=>k _ G H F _ env I (Same.refl _) (.int i) q
theorem azr {b:Bool} (q:Q' (.bool b) env):Ev B (tC (.bl b)) env Q':=fun σ G H F Q I k=>k _ G H F _ env I (Same.refl _) (.bl b) q
theorem ayc (q:Q' .none env):Ev B (tC .non) env Q':=fun σ G H F Q I k=>k _ G H F _ env I (Same.refl _) .non q
def Op2 (r:R2) (x y:PyData) (R:Sl->Prop):Prop:=∀ (G H:Hp) (vx vy:V) (Q:VK),Same G H->Rp G vx x->Rp G vy y->(∀ v G' H' s Fv,Out G H v G' H' s Fv->R s->Q v H')->r vx vy H Q
def Op1 (r:V->Hp->VK->Prop) (x:PyData) (R:Sl->Prop):Prop:=∀ (G H:Hp) (vx:V) (Q:VK),Same G H->Rp G vx x->(∀ v G' H' s Fv,Out G H v G' H' s Fv->R s->Q v H')->r vx H Q
def OpA (r:List V->Hp->VK->Prop) (ds:List PyData) (R:Sl->Prop):Prop:=∀ (G H:Hp) (vs:List V) (Q:VK),Same G H->Rps G vs ds->(∀ v G' H' s Fv,Out G H v G' H' s Fv->R s->Q v H')->r vs H Q
theorem al6 {r:R2} (h:Ev B ta env fun x d=>Ev B tb d fun y b=>Op2 r x y fun s=>QO s b):EvO B (tOp r ta tb) env QO:=fun σ G H F Q I k =>
 h σ G H F _ I fun l j C i x d g p A q=>q σ j C i _ g fun n w H2 F2 y b a c z u =>
  u w H2 l n Q a.gh (A.same c) z fun v m H3 s Fv o f=>k v m H3 F2 Fv s b (a.out o).1 (p.trans (c.trans o.gg)) (a.out o).2 f
theorem auo {r:R2} (h:Ev B ta env fun x a=>Ev B tb a fun y b=>Op2 r x y fun s=>FQ s fun d=>Q' d b):Ev B (tOp r ta tb) env Q':=abv (al6 h)
theorem ayd {r:V->Hp->VK->Prop} (h:Ev B ta env fun x b=>Op1 r x fun s=>QO s b):EvO B (tUn r ta) env QO:=fun σ G H F Q I k =>
 h σ G H F _ I fun g f n d x b a j m l=>l f n g Q a.gh m fun v i H3 s Fv o c=>k v i H3 d Fv s b (a.out o).1 (j.trans o.gg) (a.out o).2 c
theorem azs {r:V->Hp->VK->Prop} (h:Ev B ta env fun x a=>Op1 r x fun s=>FQ s fun d=>Q' d a):Ev B (tUn r ta) env Q':=abv (ayd h)
theorem avr (q:QA [] env):EvA B tNil env QA:=fun σ G H F Q I k=>k [] G H F [] env I (Same.refl _) .nil q
theorem ahf {tr:TA} (h:Ev B ta env fun x c=>EvA B tr c fun xs a=>QA (x :: xs) a):EvA B (aba ta tr) env QA:=fun σ G H F Q I k =>
 h σ G H F _ I fun r i q f x c d j p l=>l σ i q f _ d fun vs n H2 F2 ds a g b o m=>k _ n H2 F2 _ a g (j.trans b) (.cons (p.same b) o) m
theorem aq7 {r:List V->Hp->VK->Prop} {t:TA} (h:EvA B t env fun ds b=>OpA r ds fun s=>QO s b):EvO B (tCB r t) env QO:=fun σ G H F Q I k =>
 h σ G H F _ I fun vs f m d ds b a i l j=>j f m vs Q a.gh l fun v g H3 s Fv o c=>k v g H3 d Fv s b (a.out o).1 (i.trans o.gg) (a.out o).2 c
theorem aup {r:List V->Hp->VK->Prop} {t:TA} (h:EvA B t env fun ds a=>OpA r ds fun s=>FQ s fun d=>Q' d a):Ev B (tCB r t) env Q':=abv (aq7 h)
theorem anx {t:TA} (h:EvA B t env fun ds b=>ds.length<=1000/\QO (.st (.tuple ds)) b):EvO B (tTup t) env QO:=fun σ G H F Q I k =>
 h σ G H F _ I fun vs j l f ds b a g d c=>⟨by rw [d.length];exact aG1 (ael c.1),fun p i=>by
  have o:=Out.newT a.gh i d
  exact k _ _ _ f _ _ b (a.out o).1 (g.trans o.gg) (a.out o).2 c.2⟩
theorem aye {t:TA} (h:EvA B t env fun ds a=>ds.length<=1000/\Q' (.tuple ds) a):Ev B (tTup t) env Q':=abv (anx h)
theorem anz {t:TA} (h:EvA B t env fun ds b=>ds.length<=1000/\QO (.own (OL ds)) b):EvO B (tLst t) env QO:=fun σ G H F Q I k =>
 h σ G H F _ I fun vs j l f ds b a g d c=>⟨by rw [d.length];exact aG1 (ael c.1),fun p i=>by
  have o:=Out.newL a.gh i d
  exact k _ _ _ f _ _ b (a.out o).1 (g.trans o.gg) (a.out o).2 c.2⟩
theorem ayf {t:TA} (h:EvA B t env fun ds a=>ds.length<=1000/\Q' (.list ds) a):Ev B (tLst t) env Q':=abv (anz fun σ G H F Q I k=>h σ G H F Q I fun vs G' H' F' ds a b g r q=>k vs G' H' F' ds a b g r ⟨q.1,adc q.2⟩)
theorem al7 (h:Ev B te env fun x a=>∃ b,x=.bool b/\QT b a):EvT B (akm te) env QT:=fun σ G H F Q I k =>
 h σ G H F _ I fun v f l d x a c g j i=>by
  obtain ⟨b,e,q⟩:=i
  subst e
  cases j
  exact ⟨b,rfl,k b f l d a c g q⟩
theorem azt (h:Ev B te env fun x a=>∃ b,x=.bool b/\QT b a):EvT B (tB te) env QT:=al7 h
theorem x_bl {b:Bool} {R:Bool->Prop} (h:R b):∃ c,PyData.bool b=.bool c/\R c:=⟨b,rfl,h⟩
theorem avs {t u:TT} (h:EvT B t env fun c a=>if c=true then EvT B u a QT else QT false a):EvT B (tAnd t u) env QT:=fun σ G H F Q I k =>
 h σ G H F _ I fun b g j f a d i q=>by
  cases b with
  | true=>rw [aF1 rfl] at q ⊢;exact q σ g j f Q d fun c p H2 F2 o l m n=>k c p H2 F2 o l (i.trans m) n
  | false=>rw [aF2 aA9] at q ⊢;exact k false g j f a d i q
theorem ayg {t u:TT} (h:EvT B t env fun c a=>if c=true then QT true a else EvT B u a QT):EvT B (tOr t u) env QT:=fun σ G H F Q I k =>
 h σ G H F _ I fun b g j f a d i q=>by
  cases b with
  | false=>rw [aF2 aA9] at q ⊢;exact q σ g j f Q d fun c p H2 F2 o l m n=>k c p H2 F2 o l (i.trans m) n
  | true=>rw [aF1 rfl] at q ⊢;exact k true g j f a d i q
theorem avt {t:TT} (h:EvT B t env fun c a=>QT (!c) a):EvT B (tNot t) env QT:=fun σ G H F Q I k =>
 h σ G H F _ I fun b d j i a f g q=>k (!b) d j i a f g q
theorem ags (q:QT true env):EvT B tYes env QT:=fun σ G H F Q I k=>k true G H F env I (Same.refl _) q
def TruD:PyData->Bool->Prop
 | .bool b,k=>k=b
 | .list ds,k=>k = !ds.isEmpty
 | _,_=>False
theorem avu {K:Frag} (h:Ev B te env fun x a=>∃ b,TruD x b/\QT b a):EvT B (tTru K te) env QT:=fun σ G H F Q I k =>
 h σ G H F _ I fun v g j f x a d i n m=>by
  obtain ⟨b,e,q⟩:=m
  cases n with
  | bl c=>cases e;exact ⟨_,rfl,k _ g j f a d i q⟩
  | lst ha rs =>
   refine ⟨b,.inl ⟨_,SqL.of (d.gh _ _ ha),?_⟩,k _ g j f a d i q⟩
   have l:b = !_:=e
   rw [l]
   cases rs <;> rfl
  | _=>exact e.elim
theorem avv (h:Ev B ta env fun x a=>∃ b,x=.bool b/\if b=true then Ev B tb a Q' else Q' (.bool false) a):Ev B (aou ta tb) env Q':=fun σ G H F Q I k =>
 h σ G H F _ I fun v g j f x a c i u n=>by
  obtain ⟨b,e,q⟩:=n
  subst e
  cases u
  refine ⟨b,rfl,?_⟩
  cases b with
  | true=>rw [aF1 rfl] at q ⊢;exact q σ g j f Q c fun v r H2 F2 d p l m s o=>k v r H2 F2 d p l (i.trans m) s o
  | false=>rw [aF2 aA9] at q ⊢;exact k _ g j f _ a c i (.bl false) q
theorem avw (h:Ev B ta env fun x a=>∃ b,x=.bool b/\Q' (.bool (!b)) a):Ev B (aov ta) env Q':=fun σ G H F Q I k =>
 h σ G H F _ I fun v f l d x a c g j i=>by
  obtain ⟨b,e,q⟩:=i
  subst e
  cases j
  exact ⟨b,rfl,k _ f l d _ a c g (.bl _) q⟩
theorem ata {r P:R2} {u:TE} (h:Ev B ta env fun x T=>Ev B tb T fun y g=>Op2 r x y fun s=>∃ b,s=.st (.bool b)/\if b=true then Ev B u g fun z Y=>Op2 P y z fun s'=>FQ s' fun d=>Q' d Y else Q' (.bool false) g):Ev B (ahp r P ta tb u) env Q':=fun σ G H F Q I k =>
 h σ G H F _ I fun Z X H1 W x T U O r1 q1=>q1 σ X H1 W _ U fun M G2 H2 F2 y g K m S q2 =>
  q2 G2 H2 Z M _ K.gh (r1.same m) S fun v L H3 s Fv o z_=>by
   obtain ⟨b,es,a⟩:=z_
   have D:=(K.out o).1
   have i:=o.ok
   subst es
   obtain ⟨i,_⟩:=i
   cases i
   refine ⟨b,rfl,?_⟩
   cases b with
   | false=>rw [aF2 aA9] at a ⊢;exact k _ L H3 F2 _ g D (O.trans (m.trans o.gg)) (.bl _) a
   | true =>
    rw [aF1 rfl] at a ⊢
    refine a σ L H3 F2 _ D fun v3 G4 H4 C z R w E r4 q4=>q4 G4 H4 M v3 Q w.gh (S.same (o.gg.trans E)) r4 fun l N j s5 p n c=>?_
    have J:=w.out n
    have gg:=O.trans (m.trans (o.gg.trans (E.trans n.gg)))
    cases s5 with
    | st d=>exact k l N j C d R J.1 gg n.ok.1 c
    | own A =>
     obtain ⟨d,f,q⟩:=c
     exact k l _ j C d R (J.1.freeze J.2.fb J.2.fd J.2.fg) (gg.trans (abm J.2.fg)) (f N j l p J.2.ok J.2.fg J.1.gh) q
    | io A=>exact c.elim
    | scr ns=>exact c.elim
end
section
variable {B:Bs} {env:En} {D':VEnds} {t u tb:TS} {te:TE} {g:TG} {c:TT} {QE:En->Prop}
theorem avx (h:EvS B t { D' with nx:=fun e=>EvS B u D' e } env):EvS B (tSeq t u) D' env:=fun σ G H F D I r =>
 h σ G H F { D with nx:=u D } I ⟨fun σ G' H F env a g q=>q σ G' H F D a (r.later g),r.rt,r.bk,r.ct⟩
theorem atb (h:D'.nx env):EvS B aow D' env:=fun σ G H F D I r=>r.nx σ G H F env I (Same.refl _) h
theorem avy (h:EvO B te env fun s e=>EvG B g s e D'.nx):EvS B (tAsg te g) D' env:=fun σ G H F D I r =>
 h σ G H F _ I fun v i q d Fv s u c j b m=>m σ i q d v Fv D.nx c b fun a p H2 F2 o f l n=>r.nx a p H2 F2 o f (j.trans l) n
theorem abb {i:Nat} {s:Sl} (h:QE (env.set i (some s))):EvG B (abf i) s env QE:=fun σ G H F v Fv Q I x k=>k _ G H _ _ (I.store x i) (Same.refl _) h
theorem atc (h:QE env):EvGs B gNil [] env QE:=fun σ G H F vs Q I x k=>by cases x;exact ⟨rfl,k σ G H F env I (Same.refl _) h⟩
theorem aq8 {c:TGs} {d:PyData} {ds:List PyData} (h:EvG B g (.st d) env fun e=>EvGs B c ds e QE):EvGs B (auf g c) (d :: ds) env QE:=fun σ G H F vs Q I x k=>by
 cases x with
 | cons r rs =>
  refine ⟨_,_,rfl,h σ G H F _ _ _ I (adx r) fun a m u j v i f o=>o a m u j _ Q i (rs.same f) fun b s H2 F2 q l n p=>k b s H2 F2 q l (f.trans n) p⟩
theorem avz {K:Frag} {n:Nat} {a:TGs} {ds:List PyData} (b:ds.length=n) (h:EvGs B a ds env QE):EvG B (gTup K n a) (.st (.tuple ds)) env QE:=fun σ G H F v Fv Q I x k=>by
 obtain ⟨r,_⟩:=x.ok
 cases r with
 | tup ha rs=>exact ⟨_,_,rfl,SqT.of (I.gh _ _ ha),by rw [rs.length,b],h σ G H F _ Q I rs k⟩
theorem an0 (h:EvO B te env fun s e=>D'.rt s e):EvS B (tRet te) D' env:=fun σ G H F D I r =>
 h σ G H F _ I fun v d j c Fv s i b f a g=>r.rt σ d j c i v Fv s b f a g
theorem al8 (h:EvO B te env fun _ e=>D'.nx e):EvS B (aox te) D' env:=fun σ G H F D I r =>
 h σ G H F _ I fun v c i b Fv s g a d j f=>r.nx σ c i b g a d f
theorem ayh (h:EvT B c env fun b e=>if b=true then EvS B t D' e else EvS B u D' e):EvS B (tIfS c t u) D' env:=fun σ G H F D I r =>
 h σ G H F _ I fun b a i g j d f q=>by
  cases b with
  | true=>rw [aF1 rfl] at q ⊢;exact q σ a i g D d (r.later f)
  | false=>rw [aF2 aA9] at q ⊢;exact q σ a i g D d (r.later f)
def ForV (B:Bs) (g:TG) (tb:TS) (D':VEnds) (ds:List PyData) (e1:En):Prop:=∃ J:Nat->En->Prop,J 0 e1/\(∀ i d e,ds[i]?=some d->J i e->EvG B g (.st d) e fun e2=>EvS B tb { D' with nx:=J (i+1),ct:=J (i+1),bk:=D'.nx } e2)/\∀ e,J ds.length e->D'.nx e
theorem av0 {O:TI} (h:EvI B O env fun ds A=>ForV B g tb D' ds A):EvS B (tFor O g tb) D' env:=fun σ G H F D I r =>
 h σ G H F _ I fun J v H1 U ds A S w it Z=>by
  obtain ⟨L,j0,js,jd⟩:=Z
  refine ⟨fun i m σ H=>m=ds.length - i/\i<=ds.length/\∃ j F2 p,VI B j H σ p F2/\Same v j/\L i p,⟨ds.length,by simp,aF6 _,v,U,A,S,Same.refl _,j0⟩,?_⟩
  rintro i m σ H ⟨rfl,hi,j,F2,p,n,s,K⟩
  by_cases hlt:i < ds.length
  ·refine .inr ⟨it.go i j H s n.gh hlt,fun σ H=>∃ u P N,VI B u H σ N P/\Same v u/\L (i+1) N,fun W H' h'=>⟨ds.length - (i+1),by omega,rfl,hlt,h'⟩,fun x H' y=>?_⟩
   obtain ⟨u,o⟩:=it.yld i j H x H' _ s n.gh n.ft (aA0 hlt) y
   have M:=n.out o
   refine js i _ p (aA0 hlt) K σ u H' F2 x _ _ M.1 M.2 fun E G4 H4 R e4 Q T X=>?_
   have gg:=s.trans (o.gg.trans T)
   refine X E G4 H4 R _ Q ⟨fun a d q b c l f z=>⟨d,b,c,l,gg.trans f,z⟩,fun a d q b c Y C s5 l f=>r.rt a d q b c Y C s5 l (w.trans (gg.trans f)),fun a d q b c l f=>r.nx a d q b c l (w.trans (gg.trans f)),fun a d q b c l f z=>⟨d,b,c,l,gg.trans f,z⟩⟩
  ·have e:i=ds.length:=by omega
   subst e
   exact .inl ⟨it.stop _ j H s n.gh rfl,r.nx σ j H F2 p n (w.trans s) (jd p K)⟩
theorem ajq (J:Nat->En->Prop) (x:∃ m,J m env) (h:∀ m e,J m e->EvT B c e fun b E=>if b=true then EvS B tb { D' with nx:=fun f=>∃ d,d < m/\J d f,ct:=fun f=>∃ d,d < m/\J d f,bk:=D'.nx } E else D'.nx E):EvS B (aqb c tb) D' env:=fun σ G H F D I r=>by
 obtain ⟨O,x⟩:=x
 refine ⟨fun m σ H=>∃ q F2 f,VI B q H σ f F2/\Same G q/\J m f,⟨O,G,F,env,I,Same.refl _,x⟩,?_⟩
 rintro m σ H ⟨q,F2,f,P,T,K⟩
 refine h m f K σ q H F2 _ P fun b C H3 z Q A U p=>?_
 have gg:=T.trans U
 cases b with
 | false=>rw [aF2 aA9] at p ⊢;exact r.nx σ C H3 z Q A gg p
 | true =>
  rw [aF1 rfl] at p ⊢
  refine ⟨fun σ H=>∃ u v s,VI B u H σ s v/\Same G u/\∃ d,d < m/\J d s,fun R H' ⟨u,v,s,M,N,d,hm,L⟩=>⟨d,hm,u,v,s,M,N,L⟩,?_⟩
  exact p σ C H3 z _ A ⟨fun a j o g i n l w=>⟨j,g,i,n,gg.trans l,w⟩,fun a j o g i S y W n l=>r.rt a j o g i S y W n (gg.trans l),fun a j o g i n l=>r.nx a j o g i n (gg.trans l),fun a j o g i n l w=>⟨j,g,i,n,gg.trans l,w⟩⟩
variable {QI:List PyData->En->Prop}
theorem atd {K:Frag} (h:Ev B te env fun d e=>∃ ds,d=.list ds/\QI ds e):EvI B (aoz K te) env QI:=fun σ G H F R I k =>
 h σ G H F _ I fun v j s f d q b l p o=>by
  obtain ⟨ds,r,m⟩:=o
  subst r
  cases p with
  | @lst a vs ds ha rs =>
   refine ⟨a,rfl,⟨vs,SqL.of (b.gh _ _ ha)⟩,k _ j s f ds q b l ⟨fun i G' H' g h hi=>?_,fun i G' H' g h hi=>?_,fun i G' H' x H'' d g h ft hd y=>?_⟩ m⟩
   ·have:i < vs.length:=by rw [rs.length];exact hi
    exact ⟨vs,vs[i],SqL.of (h _ _ (g _ _ ha)),aA0 this⟩
   ·exact ⟨vs,SqL.of (h _ _ (g _ _ ha)),by rw [rs.length];exact Nat.le_of_eq hi.symm⟩
   ·obtain ⟨e,y⟩:=y
    subst e
    obtain ⟨v,n,c⟩:=rs.get hd
    have:=y vs (SqL.of (h _ _ (g _ _ ha)))
    rw [n] at this
    cases this
    exact ⟨G',Out.refl h (c.same g)⟩
theorem ayi {ds:List PyData} {R:List PyData->Prop} (h:R ds):∃ xs,PyData.list ds=.list xs/\R xs:=⟨ds,rfl,h⟩
def rngD (lo:Int) (n:Nat):List PyData:=(List.range n).map fun (i:Nat) => .int (lo+(i:Int))
theorem ab5 {lo:Int} {n:Nat}:(rngD lo n).length=n:=by simp [rngD]
theorem ahg {lo:Int} {n i:Nat} {d:PyData} (h:(rngD lo n)[i]?=some d):i < n/\d=.int (lo+(i:Int)):=by
 unfold rngD at h
 rw [aA5] at h
 have hi:i < n:=by
  have:=(aA1 (l:=(List.range n).map fun (i:Nat)=>PyData.int (lo+(i:Int)))).mp (by rw [aA5];exact h)
  obtain ⟨q,_⟩:=this
  simpa using q
 rw [aA0 (by simpa using hi)] at h
 simp at h
 exact ⟨hi,h.symm⟩
theorem aq9 {G:Hp} {lo:Int} {n:Nat}:ItOk G (Itr lo n) (rngD lo n):=by
 refine ⟨fun i G' H' g h hi=>?_,fun i G' H' g h hi=>?_,fun i G' H' x H'' d g h ft hd y=>?_⟩
 ·rw [ab5] at hi;exact hi
 ·rw [ab5] at hi;exact Nat.le_of_eq hi.symm
 ·obtain ⟨e,y⟩:=y
  subst e y
  rw [(ahg hd).2]
  exact ⟨G',Out.refl h (.int _)⟩
def akw (ds:List PyData) (R:List PyData->Prop):Prop:=∃ j:Int,ds=[.int j]/\-(2 ^ 62)<=j/\j < 2 ^ 62/\R (rngD 0 j.toNat)
def akx (ds:List PyData) (R:List PyData->Prop):Prop:=∃ i j:Int,ds=[.int i,.int j]/\(-(2 ^ 62)<=i/\i < 2 ^ 62/\-(2 ^ 62)<=j/\j < 2 ^ 62)/\R (rngD i (j - i).toNat)
theorem ate {a:TA} (h:EvA B a env fun ds e=>akw ds fun xs=>QI xs e):EvI B (ao0 a) env QI:=fun σ G H F R I k =>
 h σ G H F _ I fun vs d q c ds o b g n l=>by
  obtain ⟨j,p,m,f,i⟩:=l
  subst p
  obtain rfl:vs=[V.int j]:=Rps.ints_inv (ns:=[j]) n
  exact ⟨j,rfl,m,f,k _ d q c _ o b g aq9 i⟩
theorem atf {a:TA} (h:EvA B a env fun ds e=>akx ds fun xs=>QI xs e):EvI B (auh a) env QI:=fun σ G H F R I k =>
 h σ G H F _ I fun vs d q c ds o b f n l=>by
  obtain ⟨i,j,p,m,g⟩:=l
  subst p
  obtain rfl:vs=[V.int i,V.int j]:=Rps.ints_inv (ns:=[i,j]) n
  exact ⟨i,j,rfl,m,k _ d q c _ o b f aq9 g⟩
theorem ayj {j:Int} {R:List PyData->Prop} (b : -4611686018427387904<=j) (a:j < 4611686018427387904) (h:R (rngD 0 j.toNat)):akw [.int j] R:=⟨j,rfl,by omega,by omega,h⟩
theorem ayk {a b:Int} {R:List PyData->Prop} (c : -4611686018427387904<=a/\a < 4611686018427387904/\-4611686018427387904<=b/\b < 4611686018427387904) (h:R (rngD a (b - a).toNat)):akx [.int a,.int b] R:=⟨a,b,rfl,by omega,h⟩
theorem abx {lo:Int} {n:Nat} (J:Nat->En->Prop) (c:J 0 env) (b:∀ i e,i < n->J i e->EvG B g (.st (.int (lo+(i:Int)))) e fun a=>EvS B tb { D' with nx:=J (i+1),ct:=J (i+1),bk:=D'.nx } a) (hd:∀ e,J n e->D'.nx e):ForV B g tb D' (rngD lo n) env :=
 ⟨J,c,fun i d e h j=>by obtain ⟨hi,rfl⟩:=ahg h;exact b i e hi j,fun e j=>hd e (by rw [ab5] at j;exact j)⟩
theorem acl {α:Type} {f : α->PyData} {xs:List α} (J:Nat->En->Prop) (c:J 0 env) (b:∀ i x e,xs[i]?=some x->J i e->EvG B g (.st (f x)) e fun a=>EvS B tb { D' with nx:=J (i+1),ct:=J (i+1),bk:=D'.nx } a) (hd:∀ e,J xs.length e->D'.nx e):ForV B g tb D' (xs.map f) env :=
 ⟨J,c,fun i d e h j=>by
  rw [aA5] at h
  cases hx:xs[i]? with
  | none=>rw [hx] at h;cases h
  | some x=>rw [hx] at h;cases h;exact b i x e hx j,fun e j=>hd e (by rw [aA3] at j;exact j)⟩
end
theorem al9 {B:Bs} {a b:TS} {D':VEnds} {env:En} (h:∀ c:TS,c=b->EvS B a { D' with nx:=fun e=>EvS B c D' e } env):EvS B (tSeq a b) D' env:=avx (h b rfl)
theorem an1 {B:Bs} {c b:TS} {D':VEnds} {env:En} (e:c=b) (h:EvS B b D' env):EvS B c D' env:=by rw [e];exact h
@[elab_as_elim] theorem exS1 {c:Type} {σ:Type} {f : c->σ} {p : c->Prop} {a : σ->Prop} (s : σ) (h:∃ b,s=f b/\p b) (k:∀ b,p b->a (f b)):a s:=by
 obtain ⟨b,e,h⟩:=h
 rw [e];exact k _ h
@[elab_as_elim] theorem exE1 {c:Type} {σ:Type} {f : c->σ} {a : σ->Prop} (s : σ) (h:∃ b,s=f b) (k:∀ b,a (f b)):a s:=by
 obtain ⟨b,e⟩:=h
 rw [e];exact k _
@[elab_as_elim] theorem exS2 {g:Type} {d:Type} {σ:Type} {f : g->d->σ} {p : g->d->Prop} {a : σ->Prop} (s : σ) (h:∃ c b,s=f c b/\p c b) (k:∀ c b,p c b->a (f c b)):a s:=by
 obtain ⟨c,b,e,h⟩:=h
 rw [e];exact k _ _ h
@[elab_as_elim] theorem exE2 {g:Type} {d:Type} {σ:Type} {f : g->d->σ} {a : σ->Prop} (s : σ) (h:∃ c b,s=f c b) (k:∀ c b,a (f c b)):a s:=by
 obtain ⟨c,b,e⟩:=h
 rw [e];exact k _ _
@[elab_as_elim] theorem exS3 {j:Type} {g:Type} {i:Type} {σ:Type} {f : j->g->i->σ} {p : j->g->i->Prop} {a : σ->Prop} (s : σ) (h:∃ d b c,s=f d b c/\p d b c) (k:∀ d b c,p d b c->a (f d b c)):a s:=by
 obtain ⟨d,b,c,e,h⟩:=h
 rw [e];exact k _ _ _ h
@[elab_as_elim] theorem exE3 {j:Type} {g:Type} {i:Type} {σ:Type} {f : j->g->i->σ} {a : σ->Prop} (s : σ) (h:∃ d b c,s=f d b c) (k:∀ d b c,a (f d b c)):a s:=by
 obtain ⟨d,b,c,e⟩:=h
 rw [e];exact k _ _ _
@[elab_as_elim] theorem exS4 {l:Type} {i:Type} {j:Type} {m:Type} {σ:Type} {f : l->i->j->m->σ} {p : l->i->j->m->Prop} {a : σ->Prop} (s : σ) (h:∃ g c d b,s=f g c d b/\p g c d b) (k:∀ g c d b,p g c d b->a (f g c d b)):a s:=by
 obtain ⟨g,c,d,b,e,h⟩:=h
 rw [e];exact k _ _ _ _ h
@[elab_as_elim] theorem exS5 {m:Type} {j:Type} {l:Type} {o:Type} {n:Type} {σ:Type} {f : m->j->l->o->n->σ} {p : m->j->l->o->n->Prop} {a : σ->Prop} (s : σ) (h:∃ i d g c b,s=f i d g c b/\p i d g c b) (k:∀ i d g c b,p i d g c b->a (f i d g c b)):a s:=by
 obtain ⟨i,d,g,c,b,e,h⟩:=h
 rw [e];exact k _ _ _ _ _ h
@[elab_as_elim] theorem exS6 {q:Type} {l:Type} {o:Type} {n:Type} {r:Type} {m:Type} {σ:Type} {f : q->l->o->n->r->m->σ} {p : q->l->o->n->r->m->Prop} {a : σ->Prop} (s : σ) (h:∃ i b d j c g,s=f i b d j c g/\p i b d j c g) (k:∀ i b d j c g,p i b d j c g->a (f i b d j c g)):a s:=by
 obtain ⟨i,b,d,j,c,g,e,h⟩:=h
 rw [e];exact k _ _ _ _ _ _ h
@[elab_as_elim] theorem exS7 {r:Type} {m:Type} {q:Type} {o:Type} {v:Type} {n:Type} {u:Type} {σ:Type} {f : r->m->q->o->v->n->u->σ} {p : r->m->q->o->v->n->u->Prop} {a : σ->Prop} (s : σ) (h:∃ j b d l c g i,s=f j b d l c g i/\p j b d l c g i) (k:∀ j b d l c g i,p j b d l c g i->a (f j b d l c g i)):a s:=by
 obtain ⟨j,b,d,l,c,g,i,e,h⟩:=h
 rw [e];exact k _ _ _ _ _ _ _ h
@[elab_as_elim] theorem exE7 {q:Type} {m:Type} {p:Type} {o:Type} {u:Type} {n:Type} {r:Type} {σ:Type} {f : q->m->p->o->u->n->r->σ} {a : σ->Prop} (s : σ) (h:∃ j b d l c g i,s=f j b d l c g i) (k:∀ j b d l c g i,a (f j b d l c g i)):a s:=by
 obtain ⟨j,b,d,l,c,g,i,e⟩:=h
 rw [e];exact k _ _ _ _ _ _ _
@[elab_as_elim] theorem exS8 {v:Type} {n:Type} {u:Type} {r:Type} {x:Type} {q:Type} {w:Type} {o:Type} {σ:Type} {f : v->n->u->r->x->q->w->o->σ} {p : v->n->u->r->x->q->w->o->Prop} {a : σ->Prop} (s : σ) (h:∃ l b d m c i j g,s=f l b d m c i j g/\p l b d m c i j g) (k:∀ l b d m c i j g,p l b d m c i j g->a (f l b d m c i j g)):a s:=by
 obtain ⟨l,b,d,m,c,i,j,g,e,h⟩:=h
 rw [e];exact k _ _ _ _ _ _ _ _ h
theorem big {n:Nat} (h:n<=1000000):n < sizeLine:=aE0 h (by decide)
section
variable {B B1:Bs} {G H G' H':Hp} {σ σI:St} {env envI:En} {F F':Nat->Addr->Prop} {v:V} {s:Sl} {Fv:Addr->Prop} {inv:Nat->Option Nat}
open Classical in
def ach (H:Hp) (F:Nat->Addr->Prop) (inv:Nat->Option Nat):Hp:=fun a=>if ∃ i j,inv i=some j/\F i a then none else H a
theorem afj {i j:Nat} {a:Addr} (h:inv i=some j) (f:F i a):ach H F inv a=none:=aF1 ⟨i,j,h,f⟩
theorem ahh {a:Addr} (h:∀ i j,inv i=some j->¬ F i a):ach H F inv a=H a:=aF2 fun ⟨i,j,x,y⟩=>h i j x y
theorem ade:Same (ach H F inv) H:=fun a o e=>by
 unfold ach at e
 split at e
 ·cases e
 ·exact e
theorem VI.enter (I:VI B G H σ env F) (inj:∀ i b j,inv i=some j->inv b=some j->i=b) (ln : σI.length=envI.length)
  (sl:∀ j s,envI[j]?=some (some s)->∃ v,σI[j]?=some (some v)/\((∃ d,s=.st d/\Rp G v d/\∀ i,inv i ≠ some j)\/(∃ ns a,s=.scr ns/\v=.ref a/\SqL B.K G a (ns.map V.int)/\∀ i,inv i ≠ some j) ∨
   ∃ i A,inv i=some j/\s=.io A/\σ[i]?=some (some v)/\(env[i]?=some (some (.own A))\/env[i]?=some (some (.io A))))) :
  VI ⟨B.K,G,H,ach H F inv,σI,fun j a=>∃ i,inv i=some j/\F i a⟩ G H σI envI (fun j a=>∃ i,inv i=some j/\F i a) where
 gh:=I.gh
 g0:=Same.refl _
 gn:=fun a o e => .inl e
 rs:=ade
 rb:=ade
 bh:=fun a o e=>⟨o,e⟩
 fg:=fun j a ⟨i,_,z⟩=>I.fg i a z
 fr:=fun j a ⟨i,h,z⟩=>afj h z
 fd:=fun j k a ⟨i,h,z⟩ ⟨b,h',w⟩=>by
  have:=I.fd i b a z w
  subst this
  rw [h] at h';cases h';rfl
 fo:=fun j a ⟨i,h,z⟩=>I.fo i a z
 sl:=fun j s e=>by
  obtain ⟨v,l,q⟩:=sl j s e
  refine ⟨v,l,?_⟩
  rcases q with ⟨d,rfl,r,n⟩ | ⟨ns,a,rfl,rfl,q,n⟩ | ⟨i,A,hi,rfl,m,c⟩
  ·exact ⟨r,fun a ⟨i,h,_⟩=>n i h⟩
  ·exact ⟨⟨a,rfl,q⟩,fun a ⟨i,h,_⟩=>n i h⟩
  ·refine ⟨?_,fun a z => .inl z,l⟩
   have p:(fun a=>∃ b,inv b=some j/\F b a)=F i:=by
    funext a
    exact propext ⟨fun ⟨b,h,z⟩=>by rw [inj i b j hi h];exact z,fun z=>⟨i,hi,z⟩⟩
   show A.P G H v (fun a=>∃ b,inv b=some j/\F b a)
   rw [p]
   rcases c with c | c
   ·obtain ⟨u,f,g⟩:=I.sl i _ c
    rw [m] at f;cases f;exact g.1
   ·obtain ⟨u,f,g⟩:=I.sl i _ c
    rw [m] at f;cases f;exact g.1
 ln:=ln
 ft:=I.ft
theorem VI.leave (I:VI B G H σ env F) (inj:∀ i h j,inv i=some j->inv h=some j->i=h) (r:B1.G=G) (p:B1.H=H) (N:∀ a o,H a=some o->(∀ i j,inv i=some j->¬ F i a)->B1.R a=some o)
  (E:∀ i j,inv i=some j->∀ a,B1.F j a->F i a) (M:∀ i j,inv i=some j->B1.S[j]? = σ[i]?) (J:VI B1 G' H' σI envI F') (io:∀ i j,inv i=some j->∃ A',envI[j]?=some (some (.io A'))) {env2:En} (L:env2.length=env.length)
  (C:∀ i s,env2[i]?=some (some s)->(inv i=none/\env[i]?=some (some s))\/∃ j A A',inv i=some j/\envI[j]?=some (some (.io A'))/\((env[i]?=some (some (.own A))/\s=.own A')\/(env[i]?=some (some (.io A))/\s=.io A'))) :
  VI B G' H' σ env2 (fun i a=>match inv i with | some j=>F' j a | none=>F i a):=by
 have g:∀ a o,G' a=some o->G a=some o\/H a=none:=fun a o e=>by
  have:=J.gn a o e
  rw [r,p] at this;exact this
 have fi:∀ i j a,inv i=some j->F' j a->F i a\/H a=none:=fun i j a hi z=>by
  obtain ⟨A',e⟩:=io i j hi
  obtain ⟨v,_,q⟩:=J.sl j _ e
  rcases q.2.1 a z with y | y
  ·exact .inl (E i j hi a y)
  ·rw [p] at y;exact .inr y
 have kp:∀ a o,H a=some o->(∀ i j,inv i=some j->¬ F i a)->H' a=some o:=fun a o e n=>J.rs a o (N a o e n)
 refine ⟨J.gh,I.g0.trans (r ▸ J.g0),fun a o e=>?_,fun a o e=>?_,I.rb,fun a o e=>?_,fun i a z=>?_,fun i a z=>?_,fun i k a y z=>?_,fun i a z=>?_,fun i t e=>?_,by rw [L];exact I.ln,J.ft⟩
 ·rcases g a o e with e | e
  ·exact I.gn a o e
  ·exact .inr (I.no_b e)
 ·refine kp a o (I.rs a o e) fun i j _ z=>?_
  rw [I.fr i a z] at e;cases e
 ·obtain ⟨K,f⟩:=I.bh a o e
  exact J.bh a K (by rw [p];exact f)
 ·cases hi:inv i with
  | some j=>rw [hi] at z;exact J.fg j a z
  | none =>
   rw [hi] at z
   cases e:G' a with
   | none=>rfl
   | some o =>
    rcases g a o e with e | e
    ·rw [I.fg i a z] at e;cases e
    ·exact absurd z (I.no_f e i)
 ·cases hi:inv i with
  | some j =>
   rw [hi] at z
   rcases fi i j a hi z with y | y
   ·exact I.fr i a y
   ·exact I.no_r y
  | none=>rw [hi] at z;exact I.fr i a z
 ·cases hi:inv i with
  | some j =>
   rw [hi] at y
   cases hk:inv k with
   | some l =>
    rw [hk] at z
    have:=J.fd j l a y z
    subst this
    exact inj i k j hi hk
   | none =>
    rw [hk] at z
    rcases fi i j a hi y with x | x
    ·exact I.fd i k a x z
    ·exact absurd z (I.no_f x k)
  | none =>
   rw [hi] at y
   cases hk:inv k with
   | some l =>
    rw [hk] at z
    rcases fi k l a hk z with x | x
    ·exact I.fd i k a y x
    ·exact absurd y (I.no_f x i)
   | none=>rw [hk] at z;exact I.fd i k a y z
 ·cases hi:inv i with
  | some j=>rw [hi] at z;exact J.fo j a z
  | none =>
   rw [hi] at z
   obtain ⟨o,e⟩:=I.fo i a z
   exact J.bh a o (by rw [p];exact e)
 ·rcases C i t e with ⟨hi,f⟩ | ⟨j,A,A',hi,f,d⟩
  ·obtain ⟨v,w,q⟩:=I.sl i t f
   refine ⟨v,w,?_⟩
   simp only [hi]
   refine q.mono (r ▸ J.g0) fun a o z y=>kp a o y fun h P b O=>?_
   have:=I.fd i h a z O
   subst this
   rw [hi] at b;cases b
  ·obtain ⟨v,w,q⟩:=J.sl j _ f
   have u : σ[i]?=some (some v):=by rw [← M i j hi];exact q.2.2
   refine ⟨v,u,?_⟩
   simp only [hi]
   rcases d with ⟨d,rfl⟩ | ⟨d,rfl⟩
   ·obtain ⟨D,_,m⟩:=I.sl i _ d
    refine ⟨q.1,fun a z=>?_⟩
    rcases fi i j a hi z with y | y
    ·exact m.2 a y
    ·exact I.no_b y
   ·obtain ⟨D,c,m⟩:=I.sl i _ d
    rw [u] at c;cases c
    refine ⟨q.1,fun a z=>?_,m.2.2⟩
    rcases fi i j a hi z with y | y
    ·exact m.2.1 a y
    ·exact .inr (I.no_b y)
theorem RsX.leave (I:VI B G H σ env F) (b:B1.H=H) (r:RsX B1 G' H' v Fv s F'):RsX B G' H' v Fv s (fun i a=>match inv i with | some j=>F' j a | none=>F i a):=by
 have hn:∀ a,Fv a->H a=none:=fun a z=>b ▸ r.fb a z
 refine ⟨r.ok,fun a z=>I.no_b (hn a z),r.fg,r.fo,fun i a z y=>?_⟩
 cases hi:inv i with
 | some j=>rw [hi] at y;exact r.fd j a z y
 | none=>rw [hi] at y;exact I.no_f (hn a z) i y
end
abbrev VP:=List Sl->(Sl->Prop)->Prop
abbrev VIo:=Own->List Sl->(Own->Sl->Prop)->Prop
def noF:Nat->Addr->Prop:=fun _ _=>False
def bsP (K:Frag) (G H:Hp) (vs:List V):Bs:=⟨K,G,H,H,vs.map some,noF⟩
def auq (K:Frag) (G:Hp):V->Sl->Prop
 | v,.st d=>Rp G v d
 | v,.scr ns=>∃ a,v=.ref a/\SqL K G a (ns.map V.int)
 | _,_=>False
inductive ArgsOk (K:Frag) (G:Hp):List V->List Sl->Prop
 | nil:ArgsOk K G [] []
 | cons {v:V} {s:Sl} {vs:List V} {ss:List Sl}:auq K G v s->ArgsOk K G vs ss->ArgsOk K G (v :: vs) (s :: ss)
theorem ArgsOk.length {K:Frag} {G:Hp}:∀ {vs:List V} {ss:List Sl},ArgsOk K G vs ss->vs.length=ss.length
 | _,_,.nil=>rfl
 | _,_,.cons _ t=>by simp [ArgsOk.length t]
theorem ArgsOk.get {K:Frag} {G:Hp}:∀ {vs:List V} {ss:List Sl} {i:Nat} {s:Sl},ArgsOk K G vs ss->ss[i]?=some s->∃ v,vs[i]?=some v/\auq K G v s
 | _,_,_,_,.nil,e=>by simp at e
 | _,_,0,_,.cons r _,e=>by simp at e;subst e;exact ⟨_,rfl,r⟩
 | _,_,i+1,s,.cons _ t,e=>by
  obtain ⟨u,b,a⟩:=ArgsOk.get (i:=i) (s:=s) t (by simpa using e)
  exact ⟨u,by simpa using b,a⟩
theorem ArgsOk.of {K:Frag} {G:Hp}:∀ {vs:List V} {ds:List PyData},Rps G vs ds->ArgsOk K G vs (ds.map Sl.st)
 | _,_,.nil => .nil
 | _,_,.cons r t => .cons r (ArgsOk.of t)
theorem an2 {α:Type} {xs:List α} {n i:Nat} {s : α} (e:(xs.map some ++ List.replicate n none)[i]?=some (some s)):xs[i]?=some s:=by
 by_cases h:i < xs.length
 ·rw [aC2 (by simpa using h),aA5] at e
  rw [aA0 h] at e ⊢
  simpa using e
 ·rw [aC7 (by simpa using h),aH3] at e
  split at e <;> cases e
theorem an3 {α:Type} {xs:List α} {n i:Nat} {s : α} (e:xs[i]?=some s):(xs.map some ++ List.replicate n none)[i]?=some (some s):=by
 have h:i < xs.length:=(aA1.mp e).1
 rw [aC2 (by simpa using h),aA5,e];rfl
def spP (K:Frag) (f:VP):Sp:=fun vs H Q _=>∃ G ss Q',Same G H/\FT G H/\ArgsOk K G vs ss/\f ss Q'/\∀ s,Q' s->∀ v G' H' Fv,Out G H v G' H' s Fv->Q v H'
structure OutI (G H R:Hp) (F0:Addr->Prop) (v0:V) (A':Own) (s:Sl) (v:V) (G' H':Hp) (F' Fv:Addr->Prop):Prop where
 gg:Same G G'
 gh:Same G' H'
 ft:FT G' H'
 gn:∀ a o,G' a=some o->G a=some o\/H a=none
 rs:Same R H'
 bh:∀ a o,H a=some o->∃ o',H' a=some o'
 ap:A'.P G' H' v0 F'
 fi:∀ a,F' a->F0 a\/H a=none
 fg:∀ a,F' a->G' a=none
 ok:RsOk G' H' v Fv s
 fv:∀ a,Fv a->H a=none/\G' a=none/\(∃ o,H' a=some o)/\¬ F' a
def spI (K:Frag) (f:VIo):Sp:=fun vs H Q _=>∃ v0 vr G R A ss F0 Q',vs=v0 :: vr/\Same G H/\FT G H/\Same R H/\A.P G H v0 F0/\(∀ a,F0 a->G a=none)/\(∀ a,F0 a->R a=none)/\ArgsOk K G vr ss /\
 f A ss Q'/\∀ A' s,Q' A' s->∀ v G' H' F' Fv,OutI G H R F0 v0 A' s v G' H' F' Fv->Q v H'
theorem abr {K:Frag} {f:VP} {l:TS} {N:List Str} {vs:List V} {H:Hp} {Q:VK} {E:XK} (h:spP K f vs H Q E)
  (hb:∀ ss b,f ss b->∀ B,B.K=K->EvS B l { nx:=fun _=>b (.st .none),rt:=fun s _=>b s } (ss.map some ++ List.replicate (N.length - ss.length) none)):l { nx:=fun _ H'=>Q .non H',rt:=Q } (L2.start N vs) H:=by
 obtain ⟨G,ss,b,gh,ft,c,hf,m⟩:=h
 have fin:∀ {σ G' H' F env v Fv s},VI (bsP K G H vs) G' H' σ env F->RsX (bsP K G H vs) G' H' v Fv s F->Out G H v G' H' s Fv:=fun I r =>
  ⟨I.g0,I.gh,I.rs,I.gn,r.fb,r.fg,r.fo,r.ok,fun _=>I.ft⟩
 refine hb ss _ hf (bsP K G H vs) rfl (L2.start N vs) G H noF _ ?_ ⟨fun σ G' H' F env I g q=>m _ q _ _ _ _ (fin I (adx .non)),fun σ G' H' F env v Fv s I g r q=>m _ q v G' H' Fv (fin I r),fun _ _ _ _ _ _ _ q=>q,fun _ _ _ _ _ _ _ q=>q⟩
 refine ⟨gh,Same.refl _,fun a o e => .inl e,Same.refl _,Same.refl _,fun a o e=>⟨o,e⟩,fun i a z=>z.elim,fun i a z=>z.elim,fun i j a z=>z.elim,fun i a z=>z.elim,fun i s e=>?_,?_,ft⟩
 ·obtain ⟨v,n,q⟩:=c.get (an2 e)
  refine ⟨v,by unfold L2.start;exact an3 n,?_⟩
  cases s with
  | st d=>exact ⟨q,fun a z=>z⟩
  | scr ns=>exact ⟨q,fun a z=>z⟩
  | own A=>exact q.elim
  | io A=>exact q.elim
 ·unfold L2.start;simp [c.length]
theorem api {K:Frag} {f:VIo} {p:TS} {N:List Str} {vs:List V} {H:Hp} {Q:VK} {E:XK} (h:spI K f vs H Q E)
  (hb:∀ A ss c,f A ss c->∀ B,B.K=K->EvS B p { nx:=fun e=>∃ A',e[0]?=some (some (.io A'))/\c A' (.st .none),rt:=fun s e=>∃ A',e[0]?=some (some (.io A'))/\c A' s } (some (.io A) :: (ss.map some ++ List.replicate (N.length - (ss.length+1)) none))):p { nx:=fun _ H'=>Q .non H',rt:=Q } (L2.start N vs) H:=by
 obtain ⟨v0,b,G,R,A,ss,F0,c,rfl,gh,ft,n,ap,fg,fr,l,hf,M⟩:=h
 have O:(v0 :: b).length=ss.length+1:=by simp [l.length]
 refine hb A ss _ hf ⟨K,G,H,R,(v0 :: b).map some,fun i a=>i=0/\F0 a⟩ rfl (L2.start N (v0 :: b)) G H (fun i a=>i=0/\F0 a) _ ?_ ?_
 ·refine ⟨gh,Same.refl _,fun a o e => .inl e,n,n,fun a o e=>⟨o,e⟩,fun i a z=>fg a z.2,fun i a z=>fr a z.2,fun i j a z y=>by rw [z.1,y.1],fun i a z=>A.dom ap a z.2,fun i s e=>?_,?_,ft⟩
  ·cases i with
   | zero =>
    simp at e
    subst e
    refine ⟨v0,rfl,?_,fun a z => .inl z,rfl⟩
    have:(fun a=>0=0/\F0 a)=F0:=by funext a;simp
    rw [this];exact ap
   | succ i =>
    have x:(ss.map some ++ List.replicate (N.length - (ss.length+1)) none)[i]?=some (some s):=by simpa using e
    obtain ⟨v,J,q⟩:=l.get (an2 x)
    refine ⟨v,?_,?_⟩
    ·unfold L2.start;exact an3 (by simpa using J)
    ·cases s with
     | st d=>exact ⟨q,fun a z=>by cases z.1⟩
     | scr ns=>exact ⟨q,fun a z=>by cases z.1⟩
     | own A=>exact q.elim
     | io A=>exact q.elim
  ·unfold L2.start;simp [l.length]
 ·have fin:∀ σ G' H' F env v Fv s,VI ⟨K,G,H,R,(v0 :: b).map some,fun i a=>i=0/\F0 a⟩ G' H' σ env F->RsX ⟨K,G,H,R,(v0 :: b).map some,fun i a=>i=0/\F0 a⟩ G' H' v Fv s F->(∃ A',env[0]?=some (some (.io A'))/\c A' s)->Q v H':=by
   intro σ G' H' F env v Fv s I r ⟨A',e,q⟩
   obtain ⟨u,C,D,L,w⟩:=I.sl 0 _ e
   have:u=v0:=by
    have m:((v0 :: b).map some)[0]?=some (some u):=w
    simpa using m.symm
   subst this
   exact M A' s q v G' H' (F 0) Fv ⟨I.g0,I.gh,I.ft,I.gn,I.rs,I.bh,D,fun a z=>by
    rcases L a z with y | y
    ·exact .inl y.2
    ·exact .inr y,I.fg 0,r.ok,fun a z=>⟨r.fb a z,r.fg a z,r.fo a z,r.fd 0 a z⟩⟩
  refine ⟨fun σ G' H' F env I g q=>fin σ G' H' F env .non _ (.st .none) I (adx .non) q,fun σ G' H' F env v Fv s I g r q=>fin σ G' H' F env v Fv s I r q,fun _ _ _ _ _ _ _ q=>q,fun _ _ _ _ _ _ _ q=>q⟩
section
variable {B:Bs} {env:En} {Q':PyData->En->Prop} {QO:Sl->En->Prop} {K:Frag} {E:XK}
theorem ajr {f:VP} {t:TA} (h:EvA B t env fun ds b=>f (ds.map Sl.st) fun s=>QO s b):EvO B (acf (spP K f) [] E t) env QO:=fun σ G H F Q I k=>by
 unfold acf
 simp only [aE6]
 exact h σ G H F _ I fun vs d l c ds b a g j i=>⟨d,_,_,a.gh,a.ft,ArgsOk.of j,i,fun s q v G' H' Fv o=>k v G' H' c Fv s b (a.out o).1 (g.trans o.gg) (a.out o).2 q⟩
theorem atg {f:VP} {t:TA} (h:EvA B t env fun ds a=>f (ds.map Sl.st) fun s=>FQ s fun d=>Q' d a):Ev B (acf (spP K f) [] E t) env Q':=abv (ajr h)
theorem ara {f:VP} {t:TA} {i:Nat} {ns:List Int} (e:env[i]?=some (some (.scr ns))) (n:B.K=K) (h:EvA B t env fun ds c=>f (.scr ns :: ds.map Sl.st) fun s=>QO s c):EvO B (acf (spP K f) [] E (aba (tVar i) t)) env QO:=fun σ G H F Q I k=>by
 subst n
 unfold acf
 simp only [aE6]
 obtain ⟨v0,r,⟨a,j,g⟩,_⟩:=I.sl i _ e
 refine ⟨v0,r,h σ G H F _ I fun vs m w l ds c b d u p=>⟨m,_,_,b.gh,b.ft,.cons (s:=.scr ns) ⟨a,j,d.seq g⟩ (ArgsOk.of u),p,fun s q v G' H' Fv o=>k v G' H' l Fv s c (b.out o).1 (d.trans o.gg) (b.out o).2 q⟩⟩
def reS:Sl->Own->Sl
 | .io _,A => .io A
 | _,A => .own A
theorem ajs {f:VIo} {t:TA} {i:Nat} (U:∃ s,env[i]?=some (some s)) (h:EvA B t env fun ds D=>∃ r A,D[i]?=some (some r)/\(r=.own A\/r=.io A)/\f A (ds.map Sl.st) fun A' s=>QO s (D.set i (some (reS r A')))):EvO B (acf (spI K f) [] E (aba (tVar i) t)) env QO:=fun σ G H F Q I k=>by
 unfold acf
 simp only [aE6]
 obtain ⟨s,e⟩:=U
 obtain ⟨v0,O,_⟩:=I.sl i _ e
 refine ⟨v0,O,h σ G H F _ I fun vs N p m ds D w S W ⟨r,A,M,R,T⟩=>?_⟩
 obtain ⟨Z,C,q⟩:=w.sl i _ M
 rw [O] at C;cases C
 have ap:A.P N p v0 (m i):=by
  rcases R with rfl | rfl
  ·exact q.1
  ·exact q.1
 let inv:Nat->Option Nat:=fun j=>if j=i then some 0 else none
 have d:inv i=some 0:=aF1 rfl
 have g:∀ j,j ≠ i->inv j=none:=fun j h=>aF2 h
 have c:∀ j l,inv j=some l->j=i/\l=0:=fun j l h=>by
  by_cases hj:j=i
  ·subst hj;rw [d] at h;cases h;exact ⟨rfl,rfl⟩
  ·rw [g j hj] at h;cases h
 refine ⟨v0,vs,N,ach p m inv,A,_,m i,_,rfl,w.gh,w.ft,ade,ap,w.fg i,fun a z=>afj d z,ArgsOk.of W,T,fun A' s q v G' H' F' Fv o=>?_⟩
 have hi:i < D.length:=(aA1.mp M).1
 have J:VI ⟨K,N,p,ach p m inv,[some v0],fun j a=>j=0/\m i a⟩ G' H' [some v0] [some (.io A')] (fun j a=>j=0/\F' a):=by
  refine ⟨o.gh,o.gg,o.gn,o.rs,ade,o.bh,fun j a z=>o.fg a z.2,fun j a z=>?_,fun j l a y z=>by rw [y.1,z.1],fun j a z=>A'.dom o.ap a z.2,fun j s e=>?_,rfl,o.ft⟩
  ·rcases o.fi a z.2 with y | y
   ·exact afj d y
   ·cases e:ach p m inv a with
    | none=>exact e
    | some u=>rw [ade a u e] at y;cases y
  ·cases j with
   | zero =>
    simp at e
    subst e
    refine ⟨v0,rfl,?_,fun a z=>?_,rfl⟩
    ·have:(fun a=>0=0/\F' a)=F':=by funext a;simp
     rw [this];exact o.ap
    ·rcases o.fi a z.2 with y | y
     ·exact .inl ⟨rfl,y⟩
     ·exact .inr y
   | succ j=>simp at e
 have L:=w.leave (inv:=inv) (env2:=D.set i (some (reS r A'))) (fun a b j ha hb=>by rw [(c a j ha).1,(c b j hb).1]) rfl rfl (fun a u e n=>by show ach p m inv a=_;rw [ahh n];exact e)
  (fun a j ha x z=>by rw [(c a j ha).1];exact z.2) (fun a j ha=>by rw [(c a j ha).1,(c a j ha).2,O];rfl) J (fun a j ha=>⟨A',by rw [(c a j ha).2];rfl⟩) (by simp) fun j Y e=>by
   by_cases hj:j=i
   ·subst hj
    rw [aD1,aF1 rfl,aF1 hi] at e
    cases e
    refine .inr ⟨0,A,A',d,rfl,?_⟩
    rcases R with rfl | rfl
    ·exact .inl ⟨M,rfl⟩
    ·exact .inr ⟨M,rfl⟩
   ·rw [aD1,aF2 (fun z=>hj z.symm)] at e
    exact .inl ⟨g j hj,e⟩
 have X:RsX ⟨K,N,p,ach p m inv,[some v0],fun j a=>j=0/\m i a⟩ G' H' v Fv s (fun j a=>j=0/\F' a):=⟨o.ok,fun a z=>(o.fv a z).1,fun a z=>(o.fv a z).2.1,fun a z=>(o.fv a z).2.2.1,fun j a z y=>(o.fv a z).2.2.2 y.2⟩
 exact k v G' H' _ Fv s _ L (S.trans o.gg) (X.leave (inv:=inv) w rfl) q
end
def ah6:Option Sl->Option Sl
 | some (.own A)=>some (.io A)
 | s=>s
def aar (src:List (Option Nat)) (env:En):En:=src.map fun o=>match o with | some j=>ah6 ((env[j]?).getD none) | none=>none
def isIo:Option Sl->Bool
 | some (.io _)=>true
 | _=>false
def idxE (i:Nat):List (Option Nat)->Nat->Option Nat
 | [],_=>none
 | o :: r,k=>if o=some i then some k else idxE i r (k+1)
def agt (src:List (Option Nat)) (e:En) (i:Nat) (s:Option Sl):Option Sl :=
 match s with
 | some (.own A)=>(match idxE i src 0 with | some j=>(match e[j]? with | some (some (.io A'))=>some (.own A') | _=>none) | none=>some (.own A))
 | some (.io A)=>(match idxE i src 0 with | some j=>(match e[j]? with | some (some (.io A'))=>some (.io A') | _=>none) | none=>some (.io A))
 | s=>s
def ae9 (src:List (Option Nat)) (e:En):Nat->En->En
 | _,[]=>[]
 | k,s :: r=>agt src e k s :: ae9 src e (k+1) r
def ah7 (src:List (Option Nat)) (e1 e:En):En:=ae9 src e 0 e1
theorem afk (src:List (Option Nat)) (e:En):∀ (k:Nat) (l:En) (i:Nat),(ae9 src e k l)[i]?=(l[i]?).map (agt src e (k+i))
 | _,[],i=>by simp [ae9]
 | k,s :: r,0=>by simp [ae9]
 | k,s :: r,i+1=>by
  have:=afk src e (k+1) r i
  simp only [ae9,aH7,this]
  rw [show k+1+i=k+(i+1) by omega]
theorem aer {i:Nat}:∀ {src:List (Option Nat)} {k j:Nat},idxE i src k=some j->k<=j/\src[j - k]?=some (some i)
 | [],_,_,h=>by cases h
 | o :: r,k,j,h=>by
  unfold idxE at h
  by_cases e:o=some i
  ·rw [aF1 e] at h;cases h
   exact ⟨aA6 _,by simp [e]⟩
  ·rw [aF2 e] at h
   obtain ⟨b,a⟩:=aer h
   refine ⟨by omega,?_⟩
   rw [show j - k=(j - (k+1))+1 by omega]
   simpa using a
theorem ajt {i:Nat}:∀ {src:List (Option Nat)} {k:Nat},idxE i src k=none->∀ j:Nat,src[j]? ≠ some (some i)
 | [],_,_,j=>by simp
 | o :: r,k,h,j=>by
  unfold idxE at h
  by_cases e:o=some i
  ·rw [aF1 e] at h;cases h
  ·rw [aF2 e] at h
   cases j with
   | zero=>simpa using e
   | succ j=>simpa using ajt h j
theorem ama:∀ (src:List (Option Nat)),(src.filterMap id).Nodup->∀ j a i:Nat,src[j]?=some (some i)->src[a]?=some (some i)->j=a
 | [],_,j,_,_,h,_=>by simp at h
 | none :: r,h,j,a,i,h1,h2=>by
  cases j with
  | zero=>simp at h1
  | succ j =>
   cases a with
   | zero=>simp at h2
   | succ a=>rw [ama r (by simpa using h) j a i (by simpa using h1) (by simpa using h2)]
 | some x :: r,h,j,a,i,h1,h2=>by
  have h':=aI0.mp (show (x :: r.filterMap id).Nodup by simpa using h)
  have c:∀ k,r[k]?=some (some x)->False:=fun k d=>h'.1 (List.mem_filterMap.mpr ⟨some x,aA2 d,rfl⟩)
  cases j with
  | zero =>
   have b:x=i:=by simpa using h1
   subst b
   cases a with
   | zero=>rfl
   | succ a=>exact (c a (by simpa using h2)).elim
  | succ j =>
   cases a with
   | zero =>
    have b:x=i:=by simpa using h2
    subst b
    exact (c j (by simpa using h1)).elim
   | succ a=>rw [ama r h'.2 j a i (by simpa using h1) (by simpa using h2)]
def agu:Option Sl->Bool
 | some (.own _)=>true
 | _=>false
def ioLe:En->En->Prop
 | a :: r,b :: s=>(isIo a=isIo b/\agu b=false)/\ioLe r s
 | [],[]=>True
 | _,_=>False
theorem amb {x:Option Sl} (h:isIo x=true):∃ A,x=some (.io A):=by
 cases x with
 | none=>simp [isIo] at h
 | some y =>
  cases y with
  | io A=>exact ⟨A,rfl⟩
  | _=>simp [isIo] at h
theorem ioLe.get:∀ {a b:En} {j:Nat} {x:Option Sl},ioLe a b->a[j]?=some x->isIo x=true->∃ A,b[j]?=some (some (.io A))
 | [],_,_,_,_,e,_=>by simp at e
 | x :: r,[],_,_,h,_,_=>h.elim
 | x :: r,y :: s,0,z,h,e,p=>by
  simp at e;subst e
  have:=h.1.1
  rw [p] at this
  obtain ⟨A,q⟩:=amb this.symm
  exact ⟨A,by simp [q]⟩
 | x :: r,y :: s,j+1,z,h,e,p=>by
  obtain ⟨A,q⟩:=ioLe.get (j:=j) h.2 (by simpa using e) p
  exact ⟨A,by simpa using q⟩
theorem ioLe.got:∀ {a b:En} {j:Nat} {x:Option Sl},ioLe a b->b[j]?=some x->(isIo x=true->∃ A,a[j]?=some (some (.io A)))/\agu x=false
 | [],[],_,_,_,e=>by simp at e
 | [],_ :: _,_,_,h,e=>h.elim
 | x :: r,[],_,_,h,_=>h.elim
 | x :: r,y :: s,0,z,h,e=>by
  simp at e;subst e
  refine ⟨fun p=>?_,h.1.2⟩
  have:=h.1.1
  rw [p] at this
  obtain ⟨A,q⟩:=amb this
  exact ⟨A,by simp [q]⟩
 | x :: r,y :: s,j+1,z,h,e=>by
  obtain ⟨p,q⟩:=ioLe.got (j:=j) (x:=z) h.2 (by simpa using e)
  exact ⟨fun t=>by obtain ⟨A,u⟩:=p t;exact ⟨A,by simpa using u⟩,q⟩
section
variable {B:Bs} {G H:Hp} {σ:St} {env:En} {F:Nat->Addr->Prop}
theorem VI.aside (I:VI B G H σ env F) {p:Addr} {o:HO} (c:∀ xs,o ≠ .tup xs) (f:G p=none) (hf:∀ j,¬ F j p) (hb:B.H p=none):VI B G (upd H p o) σ env F where
 gh:=fun a u e=>by rw [aad (aaj e f)];exact I.gh a u e
 g0:=I.g0
 gn:=I.gn
 rs:=fun a u e=>by rw [aad (aaj e (I.b_r hb))];exact I.rs a u e
 rb:=I.rb
 bh:=fun a u e=>by rw [aad (aaj e hb)];exact I.bh a u e
 fg:=I.fg
 fr:=I.fr
 fd:=I.fd
 fo:=fun j a z=>by rw [aad (fun e:a=p=>hf j (e ▸ z))];exact I.fo j a z
 sl:=fun i s e=>by
  obtain ⟨v,d,q⟩:=I.sl i s e
  exact ⟨v,d,q.mono (Same.refl _) fun a u z y=>by rw [aad (fun e:a=p=>hf i (e ▸ z))];exact y⟩
 ln:=I.ln
 ft:=fun a b e=>by
  by_cases z:a=p
  ·subst z;rw [aaf] at e;exact absurd (aC5 e) (c _)
  ·rw [aad z] at e;exact I.ft a b e
def LcV (K:Frag) (src:List (Option Nat)) (g:TG) (tif:TT) (te:TE) (ds:List PyData) (e1:En) (R:List PyData->En->Prop):Prop:=∃ J:Nat->List PyData->En->Prop,J 0 [] (aar src e1)/\(∀ i ys e,J i ys e->ioLe (aar src e1) e) /\
 (∀ i d ys e,ds[i]?=some d->J i ys e->∀ B':Bs,B'.K=K->EvG B' g (.st d) e fun e2=>EvT B' tif e2 fun b e3=>if b=true then Ev B' te e3 fun y e4=>ys.length<=999999/\J (i+1) (ys ++ [y]) e4 else J (i+1) ys e3)/\∀ ys e,J ds.length ys e->R ys (ah7 src e1 e)
theorem aes {src:List (Option Nat)} {j:Nat} {s:Sl} (h:(aar src env)[j]?=some (some s)):∃ i t,src[j]?=some (some i)/\env[i]?=some (some t)/\ah6 (some t)=some s:=by
 unfold aar at h
 rw [aA5] at h
 cases e:src[j]? with
 | none=>rw [e] at h;cases h
 | some o =>
  rw [e] at h
  cases o with
  | none=>cases h
  | some i =>
   simp only [aH8,Option.some.injEq] at h
   cases e2:env[i]? with
   | none=>rw [e2] at h;cases h
   | some o2 =>
    rw [e2] at h
    cases o2 with
    | none=>cases h
    | some t=>exact ⟨i,t,rfl,e2,h⟩
theorem ahi {src:List (Option Nat)} {i j:Nat} {v:V} (h:src[j]?=some (some i)) (a : σ[i]?=some (some v)):(pick src σ)[j]?=some (some v):=by
 unfold pick
 rw [aA5,h]
 simp [a]
theorem arb {src:List (Option Nat)} {wi:TI} {g:TG} {b1:TT} {te:TE} {QO:Sl->En->Prop} (nd:(src.filterMap id).Nodup) (h:EvI B wi env fun ds X=>LcV B.K src g b1 te ds X fun ys U=>QO (.own (OL ys)) U):EvO B (tLC src wi g b1 te) env QO:=fun σ G H F Q I k=>by
 refine h σ G H F _ I fun J G1 H1 F1 ds X I1 g1 it ⟨Jv,j0,b0,js,jd⟩ p R=>?_
 let M:Nat->Bool:=fun i=>match X[i]? with | some (some (.own _))=>true | some (some (.io _))=>true | _=>false
 let inv:Nat->Option Nat:=fun i=>if M i=true then idxE i src 0 else none
 have D:∀ i j,inv i=some j->src[j]?=some (some i)/\M i=true:=fun i j hi=>by
  by_cases hm:M i=true
  ·have f:idxE i src 0=some j:=by simpa [inv,hm] using hi
   have:=(aer f).2
   exact ⟨by simpa using this,hm⟩
  ·simp [inv,hm] at hi
 have a3:∀ i j,src[j]?=some (some i)->M i=true->inv i=some j:=fun i j Y hm=>by
  have e0:inv i=idxE i src 0:=by simp [inv,hm]
  cases e:idxE i src 0 with
  | none=>exact absurd Y (ajt e j)
  | some j' =>
   have:=(aer e).2
   rw [e0,e,ama src nd j j' i Y (by simpa using this)]
 have inj:∀ i c j,inv i=some j->inv c=some j->i=c:=fun i c j Z C=>by
  have a:=(D i j Z).1
  rw [(D c j C).1] at a
  simpa using a.symm
 have b4:∀ i,M i=true->∃ A,X[i]?=some (some (.own A))\/X[i]?=some (some (.io A)):=fun i hm=>by
  cases e:X[i]? with
  | none=>simp [M,e] at hm
  | some o =>
   cases o with
   | none=>simp [M,e] at hm
   | some s =>
    cases s with
    | own A=>exact ⟨A,.inl rfl⟩
    | io A=>exact ⟨A,.inr rfl⟩
    | st d=>simp [M,e] at hm
    | scr ns=>simp [M,e] at hm
 have b5:∀ i ys e,Jv i ys e->∀ c j,inv c=some j->∃ A,e[j]?=some (some (.io A)):=fun i ys e hj c j hi=>by
  obtain ⟨Y,hm⟩:=D c j hi
  obtain ⟨A,N⟩:=b4 c hm
  refine (b0 i ys e hj).get (x:=some (.io A)) ?_ rfl
  unfold aar
  rw [aA5,Y]
  rcases N with N | N <;> simp [N,ah6]
 -- between two turns
 let Wv:Nat->List V->St->Hp->Prop:=fun i ys σI H=>∃ G2 F2 e env2 yd,VI B G2 H σ env2 F2/\Same G1 G2/\H p=some (.lst ys)/\Rps G2 ys yd/\G2 p=none/\(∀ j,¬ F2 j p)/\Jv i yd e/\σI.length=e.length/\env2.length=X.length /\
  (∀ j s,e[j]?=some (some s)->∃ v,σI[j]?=some (some v)/\((∃ d,s=.st d/\Rp G2 v d/\∀ i,inv i ≠ some j)\/(∃ ns a,s=.scr ns/\v=.ref a/\SqL B.K G2 a (ns.map V.int)/\∀ i,inv i ≠ some j) ∨
   ∃ i A,inv i=some j/\s=.io A/\σ[i]?=some (some v)/\(env2[i]?=some (some (.own A))\/env2[i]?=some (some (.io A))))) /\
  (∀ i,inv i=none->env2[i]?=X[i]?)/\(∀ i j,inv i=some j->∃ A0 A,e[j]?=some (some (.io A))/\((X[i]?=some (some (.own A0))/\env2[i]?=some (some (.own A)))\/(X[i]?=some (some (.io A0))/\env2[i]?=some (some (.io A)))))
 have hb:B.H p=none:=I1.no_b R
 refine ⟨fun i m ys σI H=>m=ds.length - i/\i<=ds.length/\Wv i ys σI H,⟨ds.length,by simp,aF6 _,?_⟩,?_⟩
 ·refine ⟨G1,F1,aar src X,X,[],I1.aside (fun _ z=>nomatch z) (I1.no_g R) (I1.no_f R) hb,Same.refl _,aaf,.nil,I1.no_g R,I1.no_f R,j0,by simp [pick,aar],rfl,fun j s e=>?_,fun _ _=>rfl,fun i j hi=>?_⟩
  ·obtain ⟨i,t,Y,ht,hp⟩:=aes e
   obtain ⟨v,hv,q⟩:=I1.sl i t ht
   refine ⟨v,ahi Y hv,?_⟩
   cases t with
   | st d =>
    cases hp
    refine .inl ⟨d,rfl,q.1,fun c f=>?_⟩
    have a:=(D c j f).1
    rw [Y] at a
    have:i=c:=by simpa using a
    subst this
    have:=(D i j f).2
    simp [M,ht] at this
   | scr ns =>
    cases hp
    obtain ⟨⟨a,ea,sq⟩,_⟩:=q
    refine .inr (.inl ⟨ns,a,rfl,ea,sq,fun c f=>?_⟩)
    have a:=(D c j f).1
    rw [Y] at a
    have:i=c:=by simpa using a
    subst this
    have:=(D i j f).2
    simp [M,ht] at this
   | own A=>cases hp;exact .inr (.inr ⟨i,A,a3 i j Y (by simp [M,ht]),rfl,hv,.inl ht⟩)
   | io A=>cases hp;exact .inr (.inr ⟨i,A,a3 i j Y (by simp [M,ht]),rfl,hv,.inr ht⟩)
  ·obtain ⟨Y,hm⟩:=D i j hi
   obtain ⟨A,N⟩:=b4 i hm
   refine ⟨A,A,?_,?_⟩
   ·unfold aar
    rw [aA5,Y]
    rcases N with N | N <;> simp [N,ah6]
   ·rcases N with N | N
    ·exact .inl ⟨N,N⟩
    ·exact .inr ⟨N,N⟩
 ·rintro i m ys σI H2 ⟨rfl,hi,G2,F2,e,env2,yd,I2,g2,a5,ry,ga,fa,jv,ln,c1,sl,un,mv⟩
  refine ⟨a5,?_⟩
  by_cases hlt:i < ds.length
  ·refine .inr ⟨it.go i G2 H2 g2 I2.gh hlt,Wv (i+1),fun a2 c3 H' hw=>⟨ds.length - (i+1),by omega,rfl,hlt,hw⟩,fun x H3 y=>?_⟩
   obtain ⟨G3,o⟩:=it.yld i G2 H2 x H3 _ g2 I2.gh I2.ft (aA0 hlt) y
   obtain ⟨I3,X3⟩:=I2.out o
   have a8:=o.hh _ _ a5
   have a7:=fa
   have c2:G3 p=none:=by
    cases e':G3 p with
    | none=>rfl
    | some u =>
     rcases o.gn p u e' with q | q
     ·rw [ga] at q;cases q
     ·rw [a5] at q;cases q
   have b9:∀ j s,e[j]?=some (some s)->∃ v,σI[j]?=some (some v)/\((∃ d,s=.st d/\Rp G3 v d/\∀ i,inv i ≠ some j)\/(∃ ns a,s=.scr ns/\v=.ref a/\SqL B.K G3 a (ns.map V.int)/\∀ i,inv i ≠ some j) ∨
     ∃ i A,inv i=some j/\s=.io A/\σ[i]?=some (some v)/\(env2[i]?=some (some (.own A))\/env2[i]?=some (some (.io A)))):=fun j s es=>by
    obtain ⟨v,hv,q⟩:=sl j s es
    refine ⟨v,hv,?_⟩
    rcases q with ⟨d,a9,r,n⟩ | ⟨ns,a,a9,b6,r,n⟩ | q
    ·exact .inl ⟨d,a9,r.same o.gg,n⟩
    ·exact .inr (.inl ⟨ns,a,a9,b6,o.gg.seq r,n⟩)
    ·exact .inr (.inr q)
   have E3:=I3.enter (inv:=inv) (σI:=σI) (envI:=e) inj ln b9
   -- back from the turn
   have fin:∀ (S:St) (G4 H4:Hp) (F4:Nat->Addr->Prop) (e4:En) (a0:List PyData) (a2:List V) (o4:HO),VI ⟨B.K,G3,H3,ach H3 F2 inv,σI,fun j a=>∃ i,inv i=some j/\F2 i a⟩ G4 H4 S e4 F4->Jv (i+1) a0 e4->Rps G4 a2 a0 ->
     Wv (i+1) a2 S (upd H4 p (.lst a2))/\H4 p=some (.lst ys):=by
    intro S G4 H4 F4 e4 a0 a2 o4 I4 j4 r4
    have a4:=b5 (i+1) a0 e4 j4
    have b7:H4 p=some (.lst ys):=I4.rs p _ (by show ach H3 F2 inv p=_;rw [ahh (fun c _ _=>a7 c)];exact a8)
    have b3:G4 p=none:=by
     cases e':G4 p with
     | none=>rfl
     | some u =>
      rcases I4.gn p u e' with q | q
      ·change G3 p=_ at q;rw [c2] at q;cases q
      ·change H3 p=_ at q;rw [a8] at q;cases q
    -- the slots of the outer frame
    let E:En:=(List.range env2.length).map fun c=>match inv c with
     | some j=>(match env2[c]?,e4[j]? with | some (some (.own _)),some (some (.io A))=>some (.own A) | some (some (.io _)),some (some (.io A))=>some (.io A) | _,_=>none)
     | none=>(env2[c]?).getD none
    have O:∀ c,c < env2.length->E[c]?=some (match inv c with
     | some j=>(match env2[c]?,e4[j]? with | some (some (.own _)),some (some (.io A))=>some (.own A) | some (some (.io _)),some (some (.io A))=>some (.io A) | _,_=>none)
     | none=>(env2[c]?).getD none):=fun c hl=>by
     simp only [E,aA5]
     rw [aA0 (by simpa using hl)]
     simp
    have L:=I3.leave (inv:=inv) (env2:=E) inj rfl rfl (fun a u q n=>by show ach H3 F2 inv a=_;rw [ahh n];exact q) (fun c j f a z=>by obtain ⟨W,Z,C⟩:=z;rw [inj c W j f Z];exact C)
     (fun c j f=>by
      obtain ⟨A0,A,Z,C⟩:=mv c j f
      obtain ⟨v,hv,q⟩:=sl j _ Z
      rcases q with ⟨d,q,_⟩ | ⟨ns,a,q,_⟩ | ⟨W,c0,q1,q2,q3,_⟩
      ·cases q
      ·cases q
      ·rw [inj c W j f q1]
       show σI[j]?=_
       rw [hv,q3]) I4 a4 (by simp [E]) (fun c s es=>by
      have hl:c < env2.length:=by
       have:=(aA1.mp es).1
       simpa [E] using this
      rw [O c hl] at es
      cases f:inv c with
      | none =>
       refine .inl ⟨rfl,?_⟩
       rw [f] at es
       simp only [Option.some.injEq] at es
       cases q:env2[c]? with
       | none=>rw [q] at es;cases es
       | some u=>rw [q] at es;simp at es;rw [es]
      | some j =>
       rw [f] at es
       obtain ⟨A',T⟩:=a4 c j f
       obtain ⟨A0,A,Z,C⟩:=mv c j f
       simp only [T] at es
       rcases C with ⟨_,C⟩ | ⟨_,C⟩
       ·rw [C] at es
        simp only [Option.some.injEq] at es
        exact .inr ⟨j,A,A',rfl,T,.inl ⟨C,es.symm⟩⟩
       ·rw [C] at es
        simp only [Option.some.injEq] at es
        exact .inr ⟨j,A,A',rfl,T,.inr ⟨C,es.symm⟩⟩)
    have b2:∀ j,¬ (match inv j with | some j=>F4 j p | none=>F2 j p):=fun j z=>by
     cases hj:inv j with
     | none=>rw [hj] at z;exact a7 j z
     | some l =>
      rw [hj] at z
      obtain ⟨A',T⟩:=a4 j l hj
      obtain ⟨v,_,q⟩:=I4.sl l _ T
      rcases q.2.1 p z with ⟨W,_,q⟩ | q
      ·exact a7 W q
      ·change H3 p=_ at q;rw [a8] at q;cases q
    refine ⟨⟨G4,_,e4,E,a0,L.aside (fun _ z=>nomatch z) b3 b2 hb,g2.trans (o.gg.trans I4.g0),aaf,r4,b3,b2,j4,I4.ln,by simp [E,c1],fun j s es=>?_,fun c f=>?_,fun c j f=>?_⟩,b7⟩
    ·obtain ⟨v,hv,q⟩:=I4.sl j s es
     refine ⟨v,hv,?_⟩
     have a1:(∀ A,s ≠ .io A)->∀ c,inv c ≠ some j:=fun hn c f=>by
      obtain ⟨A,N⟩:=a4 c j f
      rw [es] at N
      exact hn A (by simpa using N)
     cases s with
     | st d=>exact .inl ⟨d,rfl,q.1,a1 (by intro A z;cases z)⟩
     | scr ns =>
      obtain ⟨⟨a,ea,sq⟩,_⟩:=q
      exact .inr (.inl ⟨ns,a,rfl,ea,sq,a1 (by intro A z;cases z)⟩)
     | own A =>
      have:=((b0 _ _ _ j4).got es).2
      simp [agu] at this
     | io A =>
      obtain ⟨A0,h0⟩:=((b0 _ _ _ j4).got es).1 rfl
      obtain ⟨c,t,Y,ht,hp⟩:=aes h0
      have hm:M c=true:=by
       cases t with
       | own A=>simp [M,ht]
       | io A=>simp [M,ht]
       | st d=>cases hp
       | scr ns=>cases hp
      have f:=a3 c j Y hm
      obtain ⟨B0,A1,Z,C⟩:=mv c j f
      have hl:c < env2.length:=by
       rcases C with ⟨_,C⟩ | ⟨_,C⟩ <;> exact (aA1.mp C).1
      refine .inr (.inr ⟨c,A,f,rfl,?_,?_⟩)
      ·have hS : σI[j]?=some (some v):=q.2.2
       obtain ⟨v',b8,q'⟩:=sl j _ Z
       rcases q' with ⟨d,q',_⟩ | ⟨ns,a,q',_⟩ | ⟨W,c0,q1,q2,q3,_⟩
       ·cases q'
       ·cases q'
       ·rw [inj c W j f q1,q3,← b8,hS]
      ·rw [O c hl,f]
       simp only [es]
       rcases C with ⟨_,C⟩ | ⟨_,C⟩
       ·rw [C];exact .inl rfl
       ·rw [C];exact .inr rfl
    ·by_cases hl:c < env2.length
     ·rw [O c hl,f]
      simp only
      rw [← un c f]
      rw [aA0 hl];rfl
     ·rw [aF3.mpr (by simp [E];omega),← un c f,aF3.mpr (by omega)]
    ·obtain ⟨A',T⟩:=a4 c j f
     obtain ⟨A0,A,Z,C⟩:=mv c j f
     have hl:c < env2.length:=by
      rcases C with ⟨_,C⟩ | ⟨_,C⟩ <;> exact (aA1.mp C).1
     refine ⟨A0,A',T,?_⟩
     rw [O c hl,f]
     simp only [T]
     rcases C with ⟨h3,C⟩ | ⟨h3,C⟩
     ·rw [C];exact .inl ⟨h3,rfl⟩
     ·rw [C];exact .inr ⟨h3,rfl⟩
   have hd:ds[i]?=some ds[i]:=aA0 hlt
   refine js i _ yd e hd jv ⟨B.K,G3,H3,ach H3 F2 inv,σI,fun j a=>∃ i,inv i=some j/\F2 i a⟩ rfl σI G3 H3 _ x _ _ E3 (adx o.ok.1) fun S G4 H4 F4 e4 I4 g4 q4=>?_
   refine q4 S G4 H4 F4 _ I4 fun b G5 H5 F5 e5 I5 g5 q5=>?_
   cases b with
   | false =>
    rw [aF2 aA9] at q5 ⊢
    obtain ⟨w,ac⟩:=fin S G5 H5 F5 e5 yd ys (.lst ys) I5 q5 (ry.same (o.gg.trans (g4.trans g5)))
    have:upd H5 p (.lst ys)=H5:=by
     funext b
     unfold upd
     split
     ·rename_i hb';rw [hb'];exact ac.symm
     ·rfl
    rw [this] at w
    exact w
   | true =>
    rw [aF1 rfl] at q5 ⊢
    refine q5 S G5 H5 F5 _ I5 fun y G6 H6 F6 d6 e6 I6 g6 r6 q6=>?_
    obtain ⟨w,ac⟩:=fin S G6 H6 F6 e6 (yd ++ [d6]) (ys ++ [y]) (.lst ys) I6 q6.2 ((ry.same (o.gg.trans (g4.trans (g5.trans g6)))).append (.cons r6 .nil))
    exact ⟨ac,by rw [ry.length];exact big (by have:=q6.1;omega),w⟩
  ·have ei:i=ds.length:=by omega
   subst ei
   refine .inl ⟨it.stop _ G2 H2 g2 I2.gh rfl,?_⟩
   have q:=jd yd e jv
   have eb:ah7 src X e=env2:=by
    apply aF8
    intro c
    unfold ah7
    rw [afk,Nat.zero_add]
    have P:M c=false->env2[c]?=X[c]?:=fun hm=>un c (by simp [inv,hm])
    cases U:X[c]? with
    | none =>
     rw [P (by simp [M,U]),U];rfl
    | some o =>
     cases o with
     | none=>rw [P (by simp [M,U]),U];rfl
     | some t =>
      have a6:∀ A,(t=.own A\/t=.io A)->M c=true:=fun A h=>by rcases h with rfl | rfl <;> simp [M,U]
      cases t with
      | st d=>rw [P (by simp [M,U]),U];rfl
      | scr ns=>rw [P (by simp [M,U]),U];rfl
      | own A =>
       have hm:=a6 A (.inl rfl)
       simp only [aH8,agt]
       cases e3:idxE c src 0 with
       | none =>
        have:inv c=none:=by simp [inv,e3]
        rw [un c this,U]
       | some j =>
        have f:inv c=some j:=by simp [inv,hm,e3]
        obtain ⟨A0,A1,Z,C⟩:=mv c j f
        simp only [Z]
        rcases C with ⟨h3,C⟩ | ⟨h3,C⟩
        ·rw [C]
        ·rw [U] at h3;cases h3
      | io A =>
       have hm:=a6 A (.inr rfl)
       simp only [aH8,agt]
       cases e3:idxE c src 0 with
       | none =>
        have:inv c=none:=by simp [inv,e3]
        rw [un c this,U]
       | some j =>
        have f:inv c=some j:=by simp [inv,hm,e3]
        obtain ⟨A0,A1,Z,C⟩:=mv c j f
        simp only [Z]
        rcases C with ⟨h3,C⟩ | ⟨h3,C⟩
        ·rw [U] at h3;cases h3
        ·rw [C]
   rw [eb] at q
   refine k (.ref p) G2 H2 F2 (· = p) (.own (OL yd)) env2 I2 (g1.trans g2) ⟨⟨p,ys,rfl,a5,ry,fun b=>Iff.rfl⟩,fun a z=>by rw [z];exact hb,fun a z=>by rw [z];exact ga,fun a z=>by rw [z];exact ⟨_,a5⟩,fun j a z=>by rw [z];exact fa j⟩ q
end
def noIo (e:En):Bool:=e.all fun s => !isIo s
theorem ath {e:En} {j:Nat} {x:Option Sl} (h:noIo e=true) (a:e[j]?=some x):isIo x=false:=by
 have:=aF0.mp h x (aA2 a)
 simpa using this
theorem ai2 {src:List (Option Nat)} {b e:En} (h:noIo (aar src b)=true):ah7 src b e=b:=by
 apply aF8
 intro i
 unfold ah7
 rw [afk,Nat.zero_add]
 cases e2:b[i]? with
 | none=>rfl
 | some o =>
  have a:∀ A,(o=some (.own A)\/o=some (.io A))->idxE i src 0=none:=fun A f=>by
   cases e3:idxE i src 0 with
   | none=>rfl
   | some j =>
    have c:=(aer e3).2
    have:(aar src b)[j]?=some (some (.io A)):=by
     unfold aar
     rw [aA5,show src[j]?=some (some i) by simpa using c]
     rcases f with rfl | rfl <;> simp [e2,ah6]
    have:=ath h this
    simp [isIo] at this
  cases o with
  | none=>rfl
  | some t =>
   cases t with
   | st d=>rfl
   | scr ns=>rfl
   | own A=>simp only [aH8,agt,a A (.inl rfl)]
   | io A=>simp only [aH8,agt,a A (.inr rfl)]
def stO:Option PyData->Option Sl:=Option.map Sl.st
theorem isIo_stO {o:Option PyData}:isIo (stO o)=false:=by cases o <;> rfl
theorem af7 {o:Option PyData}:agu (stO o)=false:=by cases o <;> rfl
theorem aex {src:List (Option Nat)} {a:En}:∀ x∈aar src a,agu x=false:=by
 intro x b
 unfold aar at b
 obtain ⟨o,_,rfl⟩:=aB6.mp b
 cases o with
 | none=>rfl
 | some j =>
  dsimp only
  cases (a[j]?).getD none with
  | none=>rfl
  | some t=>cases t <;> rfl
theorem aet:∀ {e:En},(∀ x∈e,agu x=false)->ioLe e e
 | [],_=>True.intro
 | x :: r,h=>⟨⟨rfl,h x aB7⟩,aet fun y a=>h y (aB4 _ a)⟩
section
variable {B:Bs} {env:En} {g:TG} {tif:TT} {te:TE} {K:Frag} {src:List (Option Nat)} {ds:List PyData} {e1:En} {R:List PyData->En->Prop}
theorem ati (f:PyData->PyData) (p:PyData->Bool) (l:noIo (aar src e1)=true) (C:ds.length<=999999)
  (h:∀ d∈ds,∀ a:Bs,a.K=K->EvT a tif (some (.st d) :: aar src e1) fun b j=>b=p d/\j=some (.st d) :: aar src e1/\(b=true->Ev a te (some (.st d) :: aar src e1) fun y m=>y=f d/\m=some (.st d) :: aar src e1))
  (A:R ((ds.filter p).map f) e1):LcV K (none :: src) (abf 0) tif te ds e1 R:=by
 have c:noIo (aar (none :: src) e1)=true:=by
  show ((none :: aar src e1).all fun s => !isIo s)=true
  rw [List.all_cons]
  exact (aG7 _ _).mpr ⟨rfl,l⟩
 refine ⟨fun i ys e=>ys=((ds.take i).filter p).map f/\∃ o,e=stO o :: aar src e1,⟨by simp,none,rfl⟩,?_,?_,?_⟩
 ·rintro i ys e ⟨_,o,rfl⟩
  exact ⟨⟨isIo_stO.symm,af7⟩,aet aex⟩
 ·rintro i d ys e hd ⟨rfl,o,rfl⟩ a u
  have hi:i < ds.length:=(aA1.mp hd).1
  have q:ds.take (i+1)=ds.take i ++ [d]:=by rw [aH0,hd];rfl
  refine abb ?_
  show EvT a tif (some (.st d) :: aar src e1) _
  intro σ G H F Q I k
  refine h d (aA2 hd) a u σ G H F Q I fun b G' H' F' j g g' ⟨hb,z,r⟩=>k b G' H' F' j g g' ?_
  subst z
  by_cases hp:b=true
  ·rw [aF1 hp]
   intro σ G H F Q I k
   refine r hp σ G H F Q I fun v G' H' F' d' m g g' x ⟨w,n⟩=>k v G' H' F' d' m g g' x ?_
   subst w n
   refine ⟨?_,?_,some d,rfl⟩
   ·have:=List.length_filter_le p (ds.take i)
    simp only [aA3]
    have B:(ds.take i).length<=i:=by simp;omega
    omega
   ·rw [q,List.filter_append,aE1]
    have:p d=true:=by rw [← hb];exact hp
    simp [this]
  ·rw [aF2 hp]
   refine ⟨?_,some d,rfl⟩
   rw [q,List.filter_append,aE1]
   have:p d=false:=by rw [← hb];simpa using hp
   simp [this]
 ·rintro ys e ⟨rfl,o,rfl⟩
  rw [ai2 c,aG4]
  exact A
theorem apj {α:Type} (xs:List α):xs.filter (fun _=>true)=xs:=by simp
theorem av1 (f:PyData->PyData) (b:noIo (aar src e1)=true) (i:ds.length<=999999)
  (h:∀ d∈ds,∀ a:Bs,a.K=K->Ev a te (some (.st d) :: aar src e1) fun y c=>y=f d/\c=some (.st d) :: aar src e1)
  (j:R (ds.map f) e1):LcV K (none :: src) (abf 0) tYes te ds e1 R :=
 ati f (fun _=>true) b i (fun d hd a g=>ags ⟨rfl,rfl,fun _=>h d hd a g⟩) (by rw [apj];exact j)
end
section
variable {R:Sl->Prop}
theorem av2 {g:Int->Int->Int} {i j:Int} (h:R (.st (.int (g i j)))):Op2 (rI0 fun i j => .int (g i j)) (.int i) (.int j) R:=fun G H d c Q gh b a k=>by
 cases b;cases a
 exact ⟨i,j,rfl,rfl,k _ _ _ _ _ (Out.refl gh (.int _)) h⟩
theorem av3 {g:Int->Int->Bool} {i j:Int} (h:R (.st (.bool (g i j)))):Op2 (rI0 fun i j => .bl (g i j)) (.int i) (.int j) R:=fun G H d c Q gh b a k=>by
 cases b;cases a
 exact ⟨i,j,rfl,rfl,k _ _ _ _ _ (Out.refl gh (.bl _)) h⟩
theorem ayl {C:Int->Int->Prop} {g:Int->Int->Int} {i j:Int} (c:C i j) (h:R (.st (.int (g i j)))):Op2 (rI C fun i j => .int (g i j)) (.int i) (.int j) R:=fun G H f d Q gh b a k=>by
 cases b;cases a
 exact ⟨i,j,rfl,rfl,c,k _ _ _ _ _ (Out.refl gh (.int _)) h⟩
theorem aym {g:Int->Int} {i:Int} (h:R (.st (.int (g i)))):Op1 (rU fun i => .int (g i)) (.int i) R:=fun G H b Q gh a k=>by
 cases a
 exact ⟨i,rfl,k _ _ _ _ _ (Out.refl gh (.int _)) h⟩
theorem av4 {i j:Int} (h:R (.st (.bool (decide (i=j))))):Op2 rEq (.int i) (.int j) R:=fun G H d c Q gh b a k=>by
 cases b;cases a
 exact aq0 (k _ _ _ _ _ (Out.refl gh (.bl _)) h)
theorem av5 {i j:Int} (h:R (.st (.bool (!decide (i=j))))):Op2 rNe (.int i) (.int j) R:=fun G H d c Q gh b a k=>by
 cases b;cases a
 exact axy (k _ _ _ _ _ (Out.refl gh (.bl _)) h)
theorem adm {x y:PyData} (b:aas x=true) (a:aas y=true) (hd:x.depth<=60) (h:R (.st (.bool (!PyData.eqv x y)))):Op2 rNeD x y R:=fun G H g f Q gh d c k =>
 ⟨x,y,(d.rep b).same gh,(c.rep a).same gh,b,a,hd,k _ _ _ _ _ (Out.refl gh (.bl _)) h⟩
theorem an4 {a:Bool} {x:PyData} {es:List PyData} (c:aas x=true) (b:plainDs es=true) (hd:x.depth<=60) (h:R (.st (.bool (if a then !es.any (fun z=>PyData.eqv z x) else es.any (fun z=>PyData.eqv z x))))):Op2 (rInD a) x (.list es) R:=fun G H i g Q gh f d k =>
 ⟨x,es,(f.rep c).same gh,.inl ((d.rep (by simpa [aas] using b)).same gh),c,b,hd,k _ _ _ _ _ (Out.refl gh (.bl _)) h⟩
theorem Rps.at {G:Hp} {vs:List V} {ds:List PyData} {i:Int} {d:PyData} (r:Rps G vs ds) (h:atI ds i=some d):∃ v,atI vs i=some v/\Rp G v d:=by
 unfold atI at h ⊢
 rw [r.length]
 cases e:ixN ds.length i with
 | none=>rw [e] at h;cases h
 | some j =>
  rw [e] at h
  exact r.get h
theorem av6 {K:Frag} {ds:List PyData} {i:Int} {d:PyData} (hd:atI ds i=some d) (h:R (.st d)):Op2 (acb K) (.list ds) (.int i) R:=fun G H j g Q gh f a k=>by
 cases a
 cases f with
 | lst ha rs =>
  obtain ⟨v,b,c⟩:=rs.at hd
  exact afh (gh _ _ ha) b (k _ _ _ _ _ (Out.refl gh c) h)
theorem av7 {K:Frag} {ds:List PyData} {i:Int} {d:PyData} (hd:atI ds i=some d) (h:R (.st d)):Op2 (acb K) (.tuple ds) (.int i) R:=fun G H j g Q gh f a k=>by
 cases a
 cases f with
 | tup ha rs =>
  obtain ⟨v,b,c⟩:=rs.at hd
  exact as4 (gh _ _ ha) b (k _ _ _ _ _ (Out.refl gh c) h)
def isNone:PyData->Bool
 | .none=>true
 | _=>false
theorem av8 {G:Hp} {v:V} {x:PyData} (r:Rp G v x):decide (v=.non)=isNone x:=by cases r <;> rfl
theorem av9 {x:PyData} (h:R (.st (.bool (isNone x)))):Op2 rIsN x .none R:=fun G H d c Q gh b a k=>by
 cases a
 refine ⟨rfl,?_⟩
 rw [av8 b]
 exact k _ _ _ _ _ (Out.refl gh (.bl _)) h
theorem awa {xs ys:List PyData} (d:xs.length+ys.length<=1000000) (h:R (.own (OL (xs ++ ys)))):Op2 rCat (.list xs) (.list ys) R:=fun G H g f Q gh c b k=>by
 cases c with
 | lst ha ra =>
  cases b with
  | lst hb rb =>
   refine ax2 (gh _ _ ha) (gh _ _ hb) ?_ fun p a=>k _ _ _ _ _ (Out.newL gh a (ra.append rb)) h
   rw [ra.length,rb.length];exact aG1 (big d)
theorem awb {xs:List PyData} {n:Int} (g : -(2 ^ 63)<=n) (f:n < 2 ^ 63) (a:xs.length * n.toNat<=1000000) (h:R (.own (OL (List.replicate n.toNat xs).flatten))):Op2 rRep (.list xs) (.int n) R:=fun G H i j Q gh d c k=>by
 cases c
 cases d with
 | lst ha ra =>
  refine ⟨_,n,_,rfl,rfl,gh _ _ ha,g,f,?_,fun p b=>k _ _ _ _ _ (Out.newL gh b (ra.rep _)) h⟩
  rw [ra.length];exact aG1 (big a)
theorem atj {K:Frag} {xs:List PyData} (h:R (.st (.int xs.length))):OpA (rLen K) [.list xs] R:=fun G H vs Q gh rs k=>by
 cases rs with
 | cons r t =>
  cases t
  cases r with
  | lst ha ra =>
   refine anm (gh _ _ ha) ?_
   rw [ra.length]
   exact k _ _ _ _ _ (Out.refl gh (.int _)) h
theorem atk {i j:Int} (h:R (.st (.int (if j > i then j else i)))):OpA akp [.int i,.int j] R:=fun G H vs Q gh rs k=>by
 obtain rfl:vs=[V.int i,V.int j]:=Rps.ints_inv (ns:=[i,j]) rs
 exact ann (k _ _ _ _ _ (Out.refl gh (.int _)) h)
theorem atl {i j:Int} (h:R (.st (.int (if j < i then j else i)))):OpA akq [.int i,.int j] R:=fun G H vs Q gh rs k=>by
 obtain rfl:vs=[V.int i,V.int j]:=Rps.ints_inv (ns:=[i,j]) rs
 exact ano (k _ _ _ _ _ (Out.refl gh (.int _)) h)
theorem amc {K:Frag} {ns:List Int} (a:ns ≠ []) (h:∀ m,ac9 ns m->R (.st (.int m))):OpA (agr K) [.list (ns.map .int)] R:=fun G H vs Q gh rs k=>by
 cases rs with
 | cons r t =>
  cases t
  cases r with
  | lst ha ra =>
   have:=Rps.ints_inv ra
   subst this
   exact ⟨_,ns,rfl,.inl (SqL.of (gh _ _ ha)),a,fun m hm=>k _ _ _ _ _ (Out.refl gh (.int _)) (h m hm)⟩
theorem atm {K:Frag} {ns:List Int} {ds:List PyData} (e:ds=ns.map .int) (a:ns ≠ []) (h:∀ m,ac9 ns m->R (.st (.int m))):OpA (agr K) [.tuple ds] R:=fun G H vs Q gh rs k=>by
 subst e
 cases rs with
 | cons r t =>
  cases t
  cases r with
  | tup ha ra =>
   have:=Rps.ints_inv ra
   subst this
   exact ⟨_,ns,rfl,.inr (SqT.of (gh _ _ ha)),a,fun m hm=>k _ _ _ _ _ (Out.refl gh (.int _)) (h m hm)⟩
theorem atn {K:Frag} {ns:List Int} {ds:List PyData} (e:ds=ns.map .int) (a:ns ≠ []) (h:∀ m,ape ns m->R (.st (.int m))):OpA (aks K) [.tuple ds] R:=fun G H vs Q gh rs k=>by
 subst e
 cases rs with
 | cons r t =>
  cases t
  cases r with
  | tup ha ra =>
   have:=Rps.ints_inv ra
   subst this
   exact ⟨_,ns,rfl,.inr (SqT.of (gh _ _ ha)),a,fun m hm=>k _ _ _ _ _ (Out.refl gh (.int _)) (h m hm)⟩
theorem an5 {K:Frag} {ns:List Int} {ds:List PyData} (e:ds=ns.map .int) (h:R (.st (.int ns.sum))):OpA (apf K) [.list ds] R:=fun G H vs Q gh rs k=>by
 subst e
 cases rs with
 | cons r t =>
  cases t
  cases r with
  | lst ha ra =>
   have:=Rps.ints_inv ra
   subst this
   exact ⟨_,ns,rfl,SqL.of (gh _ _ ha),k _ _ _ _ _ (Out.refl gh (.int _)) h⟩
end
section
variable {B:Bs} {env:En} {QO:Sl->En->Prop} {Q':PyData->En->Prop} {te tl th:TE} {K:Frag}
end
def agv:PyData->Bool
 | .none | .bool _ | .int _ | .str _=>true
 | _=>false
theorem an6 {G G':Hp} {v:V} {d:PyData} (r:Rp G v d) (h:agv d=true):Rp G' v d:=by
 cases r with
 | non=>exact .non
 | bl b=>exact .bl b
 | int i=>exact .int i
 | str x=>exact .str x
 | _=>simp [agv] at h
def Has (env:En) (i:Nat) (A:Own):Prop:=env[i]?=some (some (.own A))\/env[i]?=some (some (.io A))
section
variable {B:Bs} {env:En} {QO:Sl->En->Prop} {Q':PyData->En->Prop} {QT:Bool->En->Prop} {QE:En->Prop} {te ta tb tk:TE} {K:Frag} {i:Nat}
theorem VI.has {G H:Hp} {σ:St} {F:Nat->Addr->Prop} {A:Own} (I:VI B G H σ env F) (h:Has env i A):∃ v,σ[i]?=some (some v)/\A.P G H v (F i):=by
 rcases h with h | h
 ·obtain ⟨v,a,q⟩:=I.sl i _ h;exact ⟨v,a,q.1⟩
 ·obtain ⟨v,a,q⟩:=I.sl i _ h;exact ⟨v,a,q.1⟩
theorem VI.moment {G c d H H3:Hp} {σ:St} {F:Nat->Addr->Prop} {v:V} {s:Sl} {Fv:Addr->Prop} (I:VI B G H σ env F) (i:Same G c) (o:Out c H v d H3 s Fv):∃ g,Same G g/\VI B g H3 σ env F:=by
 refine ⟨fun a=>if H a=none then d a else G a,fun a u e=>?_,I.grow (fun a u e=>?_) (fun a u e=>?_) o.hh (fun a u e=>?_) fun a b e=>?_⟩
 ·show (if H a=none then d a else G a)=some u;rw [aF2 (by rw [I.gh a u e];simp)];exact e
 ·rw [aF2 (by rw [I.gh a u e];simp)];exact e
 ·by_cases h:H a=none
  ·rw [aF1 h] at e;exact o.gh a u e
  ·rw [aF2 h] at e;exact o.hh _ _ (I.gh a u e)
 ·by_cases h:H a=none
  ·exact .inr h
  ·rw [aF2 h] at e;exact .inl e
 ·have f1:FT c H:=fun a b e=>i _ _ (I.ft a b e)
  by_cases h:H a=none
  ·rw [aF1 h];exact o.ft f1 a b e
  ·rw [aF2 h]
   obtain ⟨u,f⟩:=ah5 h
   have:=o.hh _ _ f
   rw [e] at this
   exact I.ft a b (by rw [f,← this])
theorem ayn {r:R2} {n:Own} (q:Has env i n) (h:Ev B tb env fun y c=>∃ A dx,Has c i A/\Frz A dx/\Op2 r dx y fun s=>∃ d,s=.st d/\agv d=true/\Q' d c):Ev B (tOp r (tVar i) tb) env Q':=fun σ G H F Q I k=>by
 obtain ⟨v,f,_⟩:=I.has q
 refine ⟨v,f,h σ G H F _ I fun u z H2 F2 y c a p D ⟨A,dx,m,E,x⟩=>?_⟩
 obtain ⟨L,b,ap⟩:=a.has m
 rw [f] at b;cases b
 refine x (jn z H2 (F2 i)) H2 v u Q (akv a.gh) (E _ _ _ _ ap (a.fg i) a.gh) (D.same (abm (a.fg i))) fun w K H3 s Fv o ⟨d,es,C,g⟩=>?_
 subst es
 obtain ⟨J,l,j⟩:=a.moment (abm (a.fg i)) o
 exact k w J H3 F2 d c j (p.trans l) (an6 o.ok.1 C) g
theorem x_sc {d:PyData} {R:PyData->Prop} (a:agv d=true) (h:R d):∃ d',Sl.st d=.st d'/\agv d'=true/\R d':=⟨d,rfl,a,h⟩
theorem ayo {g:List PyData} (z:Has env i (OL g)) (h:Ev B tb env fun y c=>∃ ds k d,Has c i (OL ds)/\y=.int k/\atI ds k=some d/\Q' d c):Ev B (tOp (acb K) (tVar i) tb) env Q':=fun σ G H F Q I k=>by
 obtain ⟨v,n,_⟩:=I.has z
 refine ⟨v,n,h σ G H F _ I fun u A H2 F2 y c m x C ⟨ds,j,d,r,s,l,q⟩=>?_⟩
 subst s
 cases C
 obtain ⟨D,b,a,vs,p,ha,rs,_⟩:=m.has r
 rw [n] at b;cases b
 subst p
 obtain ⟨w,o,f⟩:=rs.at l
 exact afh ha o (k w A H2 F2 d c m x f q)
theorem VI.upd1 {G H:Hp} {σ:St} {F:Nat->Addr->Prop} {s:Sl} {A A':Own} {a:Addr} {o:HO} (I:VI B G H σ env F) (e:env[i]?=some (some s)) (h:s=.own A\/s=.io A) (g : σ[i]?=some (some (.ref a))) (hf:∀ b,F i b ↔ b=a) (j:A'.P G (upd H a o) (.ref a) (· = a)) (f:∀ xs,o ≠ .tup xs:=by intro _ z;cases z) :
  VI B G (upd H a o) σ (env.set i (some (reS s A'))) (putF F i (· = a)):=by
 refine I.change (A:=A') i e g (fun b u hb c=>by rw [aad (fun z=>hb ((hf b).mpr z))];exact c) (fun b u c=>?_) (fun b z=>⟨.inl ((hf b).mpr z),by rw [z];exact ⟨_,aaf⟩⟩) j (fun b d e=>?_) ?_
 ·by_cases z:b=a
  ·rw [z];exact ⟨_,aaf⟩
  ·rw [aad z];exact ⟨u,c⟩
 ·by_cases z:b=a
  ·subst z;rw [aaf] at e;exact absurd (aC5 e) (f _)
  ·rw [aad z] at e;exact I.ft b d e
 ·rcases h with rfl | rfl
  ·exact .inl ⟨rfl,A,rfl⟩
  ·exact .inr ⟨rfl,A,rfl⟩
theorem arc {g:List PyData} (z:Has env i (OL g)) (h:Ev B te env fun y f=>∃ s ds,f[i]?=some (some s)/\(s=.own (OL ds)\/s=.io (OL ds))/\ds.length<=999999/\Q' .none (f.set i (some (reS s (OL (ds ++ [y])))))):Ev B (tBM K "list" ad2 (tVar i) (aba te tNil)) env Q':=fun σ G H F Q I k=>by
 obtain ⟨v,l,a,vs,p,ha,rs,_⟩:=I.has z
 subst p
 refine ⟨_,l,.inl ⟨rfl,_,SqL.of ha⟩,h σ G H F _ I fun u A H2 F2 y f n x C ⟨s,ds,es,o,D,q⟩=>?_⟩
 have r:Has f i (OL ds):=by rcases o with rfl | rfl;exact .inl es;exact .inr es
 obtain ⟨E,c,J,w,j,m,d,hf⟩:=n.has r
 rw [l] at c;cases c;cases j
 refine aep m (by rw [d.length];exact big (by omega)) ?_
 exact k _ A _ _ _ _ (n.upd1 (A':=OL (ds ++ [y])) es o l hf ⟨a,_,rfl,aaf,d.append (.cons C .nil),fun b=>Iff.rfl⟩) x .non q
theorem apk {a:List PyData} (l:Has env i (OL a)) (h:Ev B te env fun y b=>∃ ds,b[i]?=some (some (.own (OL ds)))/\ds.length<=999999/\Q' .none (b.set i (some (.own (OL (ds ++ [y])))))):Ev B (tBM K "list" ad2 (tVar i) (aba te tNil)) env Q' :=
 arc l fun σ G H F Q I k=>h σ G H F Q I fun v G' H' F' d e c g r ⟨ds,j,f,q⟩=>k v G' H' F' d e c g r ⟨_,ds,j,.inl rfl,f,q⟩
theorem apl {g:List PyData} (w:Has env i (OL g)) (h:Ev B te env fun y m=>∃ ds ys,y=.list ys/\m[i]?=some (some (.own (OL ds)))/\ds.length+ys.length<=1000000/\Q' .none (m.set i (some (.own (OL (ds ++ ys)))))):Ev B (tBM K "list" ail (tVar i) (aba te tNil)) env Q':=fun σ G H F Q I k=>by
 obtain ⟨v,l,a,vs,o,ha,rs,_⟩:=I.has w
 subst o
 refine ⟨_,l,.inl ⟨rfl,_,SqL.of ha⟩,h σ G H F _ I fun u x H2 F2 y m f s A ⟨ds,ys,p,es,z,q⟩=>?_⟩
 subst p
 cases A with
 | lst hb rb =>
  obtain ⟨C,c,D,r,j,n,d,hf⟩:=f.has (.inl es)
  rw [l] at c;cases c;cases j
  refine aq1 n (f.gh _ _ hb) (by rw [d.length,rb.length];exact aG1 (big z)) ?_
  exact k _ x _ _ _ _ (f.upd1 (A':=OL (ds ++ ys)) es (.inl rfl) l hf ⟨a,_,rfl,aaf,d.append rb,fun b=>Iff.rfl⟩) s .non q
theorem ato {d:PyData} {l:List PyData} (L:Has env i (OL l)) (h:Ev B tk env fun y g=>∃ s ds k j,y=.int k/\g[i]?=some (some s)/\(s=.own (OL ds)\/s=.io (OL ds))/\ixN ds.length k=some j/\QE (g.set i (some (reS s (OL (ds.set j d)))))):EvG B (gSub (tVar i) tk ao5) (.st d) env QE:=fun σ G H F v Fv Q I x k=>by
 obtain ⟨A,_⟩:=x.ok
 obtain ⟨O,o,a,vs,C,ha,rs,_⟩:=I.has L
 subst C
 refine ⟨_,o,h σ G H F _ I fun u M H2 F2 y g r w N ⟨s,ds,n,j,J,es,z,D,q⟩=>?_⟩
 subst J
 cases N
 have E:Has g i (OL ds):=by rcases z with rfl | rfl;exact .inl es;exact .inr es
 obtain ⟨P,c,R,K,m,p,f,hf⟩:=r.has E
 rw [o] at c;cases c;cases m
 refine anl p (by rw [f.length];exact D) ?_
 exact k _ M _ _ _ (r.upd1 (A':=OL (ds.set j d)) es z o hf ⟨a,_,rfl,aaf,f.set (A.same w) j,fun b=>Iff.rfl⟩) w q
theorem an7 {t:TS} {D':VEnds} {A:Own} {d:PyData} (i:Nat) (e:env[i]?=some (some (.own A))) (f:Frz A d) (h:EvS B t D' (env.set i (some (.st d)))):EvS B t D' env:=fun σ G H F D I r=>by
 obtain ⟨v,b,a,g,J⟩:=I.frz e f
 exact h σ _ H _ D J (r.later g)
end
def tyD:PyData->String
 | .none => "NoneType" | .bool _ => "bool" | .int _ => "int" | .str _ => "str" | .list _ => "list" | .tuple _ => "tuple" | .dict _ => "dict"
def afa (T:String):Prop:=T = "int"\/T = "bool"\/T = "tuple"\/T = "list"\/T = "str"\/T = "dict"
def isiD (T:String) (d:PyData):Bool:=tyD d == T || (T == "int" && tyD d == "bool")
theorem azu {K:Frag} {H:Hp} {v:V} {d:PyData} (r:Rp H v d):TyOf K H v (.type (tyD d)):=by
 cases r with
 | non=>exact .non
 | bl b=>exact .bl b
 | int i=>exact .int i
 | str x=>exact .str x
 | lst h _=>exact .lst h
 | tup h _=>exact .tup h
 | dk h _ _=>exact .dK h
 | dt h _ _=>exact .dT h
theorem azv {K:Frag} {T:String} (h:afa T) (d:PyData):kitOne K (.type (tyD d)) (.type T)=some (isiD T d):=by
 rcases h with rfl | rfl | rfl | rfl | rfl | rfl
 ·cases d with
  | none=>exact ahc
  | bool _=>exact als
  | int _=>exact am4
  | str _=>exact am6
  | list _=>exact al0
  | tuple _=>exact akd
  | dict _=>exact al2
 ·cases d with
  | none=>exact ag2
  | bool _=>exact aj5
  | int _=>exact alu
  | str _=>exact alx
  | list _=>exact aka
  | tuple _=>exact aiy
  | dict _=>exact akf
 ·cases d with
  | none=>exact af4
  | bool _=>exact aiw
  | int _=>exact aj8
  | str _=>exact aj9
  | list _=>exact aix
  | tuple _=>exact ah2
  | dict _=>exact ai1
 ·cases d with
  | none=>exact ag3
  | bool _=>exact aj6
  | int _=>exact alv
  | str _=>exact aly
  | list _=>exact akb
  | tuple _=>exact aiz
  | dict _=>exact akg
 ·cases d with
  | none=>exact ahd
  | bool _=>exact alt
  | int _=>exact am5
  | str _=>exact am7
  | list _=>exact al1
  | tuple _=>exact ake
  | dict _=>exact al3
 ·cases d with
  | none=>exact ag4
  | bool _=>exact aj7
  | int _=>exact alw
  | str _=>exact alz
  | list _=>exact akc
  | tuple _=>exact ai0
  | dict _=>exact akh
section
variable {B:Bs} {env:En} {QO:Sl->En->Prop} {Q':PyData->En->Prop} {QT:Bool->En->Prop} {QE:En->Prop} {te ta tb tk:TE} {K:Frag} {i:Nat}
theorem ayp {T:String} (i:afa T) (h:Ev B te env fun d e=>Q' (.bool (isiD T d)) e):Ev B (tCB (rIsi K) (aba te (aba (tC (.ty T)) tNil))) env Q':=fun σ G H F Q I k =>
 h σ G H F _ I fun v c m b d l a f j g=>⟨v,T,_,_,rfl,azu (j.same a.gh),azv i d,k _ c m b _ l a f (.bl _) g⟩
theorem ayq:afa "int":=.inl rfl
theorem awc:afa "bool":=.inr (.inl rfl)
theorem awd:afa "list":=.inr (.inr (.inr (.inl rfl)))
theorem atp {A:Own} {D':VEnds} (e:env[i]?=some (some (.own A))) (q:D'.rt (.own A) (env.set i none)):EvS B (tRet (tVar i)) D' env:=an0 (as9 e q)
theorem azw {n m:Nat} {P:Prop} (h:n<=m) (q:P):n<=m/\P:=⟨h,q⟩
theorem ayr {ds:List PyData} {a:En} {R:List PyData->Prop} (e:a[i]?=some (some (.own (OL ds)))) (b:ds.length<=999999) (q:R ds):∃ ds,a[i]?=some (some (.own (OL ds)))/\ds.length<=999999/\R ds:=⟨ds,e,b,q⟩
theorem azx {ds:List PyData} {d:PyData} {k:Int} {b:En} {R:PyData->Prop} (c:Has b i (OL ds)) (h:atI ds k=some d) (q:R d):∃ ds a d,Has b i (OL ds)/\PyData.int k=.int a/\atI ds a=some d/\R d:=⟨ds,k,d,c,rfl,h,q⟩
theorem apm {ds:List PyData} {k:Int} {j:Nat} {b:En} {R:Sl->List PyData->Nat->Prop} (e:b[i]?=some (some (.own (OL ds)))) (c:ixN ds.length k=some j) (q:R (.own (OL ds)) ds j):∃ s ds a j,PyData.int k=.int a/\b[i]?=some (some s)/\(s=.own (OL ds)\/s=.io (OL ds))/\ixN ds.length a=some j/\R s ds j:=⟨_,ds,k,j,rfl,e,.inl rfl,c,q⟩
theorem x_rt {A:Own} {a:En} {R:Own->Prop} (e:a[0]?=some (some (.io A))) (q:R A):∃ A',a[0]?=some (some (.io A'))/\R A':=⟨A,e,q⟩
theorem x_st {b:Bool} {R:Bool->Prop} (h:R b):∃ c,Sl.st (.bool b)=.st (.bool c)/\R c:=⟨b,rfl,h⟩
theorem atq {ds:List PyData} {R:Bool->Prop} (h:R (!ds.isEmpty)):∃ k,TruD (.list ds) k/\R k:=⟨_,rfl,h⟩
theorem lenP {f:VP} {n:Nat} {vs:List V} {H:Hp} {Q:VK} {E:XK} (h:spP K f vs H Q E) (hf:∀ ss a,f ss a->ss.length=n):vs.length=n:=by
 obtain ⟨G,ss,a,_,_,b,q,_⟩:=h
 rw [b.length];exact hf ss a q
theorem lenI {f:VIo} {n:Nat} {vs:List V} {H:Hp} {Q:VK} {E:XK} (h:spI K f vs H Q E) (hf:∀ A ss a,f A ss a->ss.length+1=n):vs.length=n:=by
 obtain ⟨v0,c,G,R,A,ss,F0,a,rfl,_,_,_,_,_,_,b,q,_⟩:=h
 rw [aE2,b.length];exact hf A ss a q
theorem ah8 {f:VIo} {t:TA} {E:XK} {A:Own} (d:env[i]?=some (some (.io A))) (h:EvA B t env fun ds a=>a[i]?=some (some (.io A))/\f A (ds.map Sl.st) fun A' s=>QO s (a.set i (some (.io A')))):EvO B (acf (spI K f) [] E (aba (tVar i) t)) env QO :=
 ajs ⟨_,d⟩ fun σ G H F Q I k=>h σ G H F Q I fun vs G' H' F' ds a b g r ⟨c,q⟩=>k vs G' H' F' ds a b g r ⟨_,A,c,.inr rfl,q⟩
theorem apn {f:VIo} {t:TA} {E:XK} {A:Own} (d:env[i]?=some (some (.own A))) (h:EvA B t env fun ds a=>a[i]?=some (some (.own A))/\f A (ds.map Sl.st) fun A' s=>QO s (a.set i (some (.own A')))):EvO B (acf (spI K f) [] E (aba (tVar i) t)) env QO :=
 ajs ⟨_,d⟩ fun σ G H F Q I k=>h σ G H F Q I fun vs G' H' F' ds a b g r ⟨c,q⟩=>k vs G' H' F' ds a b g r ⟨_,A,c,.inl rfl,q⟩
theorem aju {f:VIo} {t:TA} {E:XK} {A:Own} (b:env[i]?=some (some (.io A))) (h:EvA B t env fun ds a=>a[i]?=some (some (.io A))/\f A (ds.map Sl.st) fun A' s=>FQ s fun d=>Q' d (a.set i (some (.io A')))):Ev B (acf (spI K f) [] E (aba (tVar i) t)) env Q':=abv (ah8 b h)
theorem azy {P Q:Prop} (h:P) (q:Q):P/\Q:=⟨h,q⟩
theorem azz {src:List (Option Nat)} {j:TI} {g:TG} {f:TT} (nd:(src.filterMap id).Nodup) (h:EvI B j env fun ds i=>LcV B.K src g f te ds i fun ys n=>Q' (.list ys) n):Ev B (tLC src j g f te) env Q':=abv (arb nd fun σ G H F R I k=>h σ G H F R I fun J G' H' F' ds i m g' it ⟨l,a,b,c,d⟩=>k J G' H' F' ds i m g' it ⟨l,a,b,c,fun ys e q=>adc (d ys e q)⟩)
end
end VL
namespace VL
open PySem L2
section
variable {B:Bs} {QE:En->Prop} {Q':PyData->En->Prop} {s:Sl} {r:En} {A:Own} {d:PyData} {x0 x1 x2 x3 x4 x5 x6 x7 x8 x9 x10 x11 x12 x13 x14 x15 x16 x17 x18 x19 x20 x21 x22 x23 x24 x25:Option Sl}
theorem ays (h:QE (x0 :: some s :: r)):EvG B (abf 1) s (x0 :: x1 :: r) QE:=abb h
theorem ayt (h:QE (x0 :: x1 :: some s :: r)):EvG B (abf 2) s (x0 :: x1 :: x2 :: r) QE:=abb h
theorem ayu (h:QE (x0 :: x1 :: x2 :: some s :: r)):EvG B (abf 3) s (x0 :: x1 :: x2 :: x3 :: r) QE:=abb h
theorem ayv (h:QE (x0 :: x1 :: x2 :: x3 :: some s :: r)):EvG B (abf 4) s (x0 :: x1 :: x2 :: x3 :: x4 :: r) QE:=abb h
theorem ayw (h:QE (x0 :: x1 :: x2 :: x3 :: x4 :: some s :: r)):EvG B (abf 5) s (x0 :: x1 :: x2 :: x3 :: x4 :: x5 :: r) QE:=abb h
theorem ayx (h:QE (x0 :: x1 :: x2 :: x3 :: x4 :: x5 :: some s :: r)):EvG B (abf 6) s (x0 :: x1 :: x2 :: x3 :: x4 :: x5 :: x6 :: r) QE:=abb h
theorem ayy (h:QE (x0 :: x1 :: x2 :: x3 :: x4 :: x5 :: x6 :: some s :: r)):EvG B (abf 7) s (x0 :: x1 :: x2 :: x3 :: x4 :: x5 :: x6 :: x7 :: r) QE:=abb h
theorem ayz (h:QE (x0 :: x1 :: x2 :: x3 :: x4 :: x5 :: x6 :: x7 :: some s :: r)):EvG B (abf 8) s (x0 :: x1 :: x2 :: x3 :: x4 :: x5 :: x6 :: x7 :: x8 :: r) QE:=abb h
theorem ay0 (h:QE (x0 :: x1 :: x2 :: x3 :: x4 :: x5 :: x6 :: x7 :: x8 :: some s :: r)):EvG B (abf 9) s (x0 :: x1 :: x2 :: x3 :: x4 :: x5 :: x6 :: x7 :: x8 :: x9 :: r) QE:=abb h
end
end VL
namespace Gr
structure Ring (T:Int->Int->Prop) (a:Int) (k:Nat) (far:Int->Option Nat) (edge:List Int):Prop where
 lab:∀ v d,far v=some d ↔ (Dist T a v d/\d<=k)
 edg:∀ v,v∈edge ↔ Dist T a v k
structure Mid (T:Int->Int->Prop) (k:Nat) (far0:Int->Option Nat) (edge:List Int) (done:Int->Prop) (far:Int->Option Nat) (beyond:List Int):Prop where
 old:∀ v d,far0 v=some d->far v=some d
 new:∀ v,v∈beyond ↔ (far0 v=none/\far v ≠ none)
 val:∀ v d,far0 v=none->far v=some d->d=k+1/\∃ u,u∈edge/\T u v
 dn:∀ u w,done u->T u w->far w ≠ none
def label (far:Int->Option Nat) (w:Int) (d:Nat):Int->Option Nat:=fun v=>if v=w then some d else far v
theorem label_same {far:Int->Option Nat} {w:Int} {d:Nat}:label far w d w=some d:=aF1 rfl
theorem label_ne {far:Int->Option Nat} {w v:Int} {d:Nat} (h:v ≠ w):label far w d v=far v:=aF2 h
variable {T:Int->Int->Prop} {a:Int} {k:Nat} {far0 far:Int->Option Nat} {edge beyond:List Int} {done:Int->Prop}
theorem Ring.start:Ring T a 0 (label (fun _=>none) a 0) [a]:=by
 refine ⟨fun v d=>?_,fun v=>?_⟩
 ·by_cases h:v=a
  ·subst h
   rw [label_same]
   constructor
   ·intro e;cases e;exact ⟨Dist.self T v,aA6 _⟩
   ·rintro ⟨h,_⟩;rw [h.uniq (Dist.self T v)]
  ·rw [label_ne h]
   constructor
   ·intro e;cases e
   ·rintro ⟨b,c⟩
    have:d=0:=by omega
    subst this
    cases b.1
    exact absurd rfl h
 ·simp only [aC1]
  constructor
  ·rintro rfl;exact Dist.self T v
  ·intro h;cases h.1;rfl
theorem Mid.start:Mid T k far0 edge (fun _=>False) far0 [] :=
 ⟨fun v d h=>h,fun v=>⟨fun h=>by simp at h,fun h=>absurd h.1 h.2⟩,fun v d h g=>(by rw [h] at g;cases g),fun u w h=>h.elim⟩
theorem Mid.add (m:Mid T k far0 edge done far beyond) {u w:Int} (c:u∈edge) (t:T u w) (a:far w=none):Mid T k far0 edge done (label far w (k+1)) (beyond ++ [w]):=by
 have b:far0 w=none:=by
  cases e:far0 w with
  | none=>rfl
  | some d=>rw [m.old w d e] at a;cases a
 refine ⟨fun v d h=>?_,fun v=>?_,fun v d h g=>?_,fun x y i f=>?_⟩
 ·rw [label_ne (by rintro rfl;rw [b] at h;cases h)];exact m.old v d h
 ·by_cases hv:v=w
  ·subst hv
   simp [label_same,b]
  ·rw [label_ne hv]
   simp only [aA7,aC1,hv,or_false]
   exact m.new v
 ·by_cases hv:v=w
  ·subst hv
   rw [label_same] at g
   cases g
   exact ⟨rfl,u,c,t⟩
  ·rw [label_ne hv] at g
   exact m.val v d h g
 ·by_cases hv:y=w
  ·subst hv;rw [label_same];simp
  ·rw [label_ne hv];exact m.dn x y i f
theorem Mid.did (m:Mid T k far0 edge done far beyond) {u:Int} (h:∀ w,T u w->far w ≠ none):Mid T k far0 edge (fun x=>done x\/x=u) far beyond :=
 ⟨m.old,m.new,m.val,fun x w a t=>by rcases a with a | rfl;exact m.dn x w a t;exact h w t⟩
theorem Mid.imp {a:Int->Prop} (m:Mid T k far0 edge done far beyond) (h:∀ u,a u->done u):Mid T k far0 edge a far beyond :=
 ⟨m.old,m.new,m.val,fun x w b t=>m.dn x w (h x b) t⟩
theorem Ring.next (r:Ring T a k far0 edge) (m:Mid T k far0 edge done far beyond) (hd:∀ u∈edge,done u):Ring T a (k+1) far beyond:=by
 have g:∀ v,far0 v=none->far v ≠ none->Dist T a v (k+1):=fun v f b=>by
  cases e:far v with
  | none=>exact absurd e b
  | some d =>
   obtain ⟨rfl,u,j,t⟩:=m.val v d f e
   obtain ⟨l,p,h⟩:=((r.edg u).mp j).next t
   by_cases i:l<=k
   ·rw [(r.lab v l).mpr ⟨h,i⟩] at f;cases f
   ·have:l=k+1:=by omega
    rw [← this];exact h
 have c:∀ v,Dist T a v (k+1)->far0 v=none/\far v ≠ none:=fun v h=>by
  refine ⟨?_,?_⟩
  ·cases e:far0 v with
   | none=>rfl
   | some d =>
    obtain ⟨b,n⟩:=(r.lab v d).mp e
    have:=b.uniq h
    omega
  ·obtain ⟨u,t,j⟩:=h.pred
   exact m.dn u v (hd u ((r.edg u).mpr j)) t
 refine ⟨fun v d=>?_,fun v=>⟨fun h=>?_,fun h=>(m.new v).mpr (c v h)⟩⟩
 ·constructor
  ·intro e
   cases e0:far0 v with
   | some d0 =>
    rw [m.old v d0 e0] at e
    cases e
    obtain ⟨b,n⟩:=(r.lab v d).mp e0
    exact ⟨b,by omega⟩
   | none =>
    have i:=(m.val v d e0 e).1
    subst i
    exact ⟨g v e0 (by rw [e];simp),aA6 _⟩
  ·rintro ⟨h,i⟩
   by_cases hd':d<=k
   ·exact m.old v d ((r.lab v d).mpr ⟨h,hd'⟩)
   ·have o:d=k+1:=by omega
    subst o
    obtain ⟨f,b⟩:=c v h
    cases e:far v with
    | none=>exact absurd e b
    | some d=>rw [(m.val v d f e).1]
 ·obtain ⟨f,b⟩:=(m.new v).mp h
  exact g v f b
theorem Dist.down {v:Int}:∀ {d:Nat},Dist T a v d->∀ j,j<=d->∃ u,Dist T a u j
 | 0,h,j,hj=>⟨v,by rw [show j=0 by omega];exact h⟩
 | d+1,h,j,hj=>by
  by_cases e:j=d+1
  ·rw [e];exact ⟨v,h⟩
  ·obtain ⟨u,_,b⟩:=h.pred
   exact Dist.down b j (by omega)
def farO (T:Int->Int->Prop) (a v:Int):Option Nat:=open Classical in if h:∃ d,Dist T a v d then some (Classical.choose h) else none
theorem farO_some {v:Int} {d:Nat}:farO T a v=some d ↔ Dist T a v d:=by
 unfold farO
 constructor
 ·intro h
  split at h
  ·rename_i b
   cases h
   exact Classical.choose_spec b
  ·cases h
 ·intro h
  have b:∃ d,Dist T a v d:=⟨d,h⟩
  rw [dif_pos b,(Classical.choose_spec b).uniq h]
theorem farO_none {v:Int}:farO T a v=none ↔ ∀ d,¬ Dist T a v d:=by
 constructor
 ·intro h d hd
  rw [farO_some.mpr hd] at h;cases h
 ·intro h
  cases e:farO T a v with
  | none=>rfl
  | some d=>exact absurd (farO_some.mp e) (h d)
theorem an8 {v:Int} {o:Option Nat} (h:∀ d,o=some d ↔ Dist T a v d):o=farO T a v:=by
 cases o with
 | some d=>exact (farO_some.mpr ((h d).mp rfl)).symm
 | none=>exact (farO_none.mpr fun d hd=>by cases (h d).mpr hd).symm
theorem Ring.fin (r:Ring T a k far0 []) (v:Int):far0 v=farO T a v:=by
 refine an8 fun d=>?_
 rw [r.lab]
 refine ⟨fun h=>h.1,fun h=>⟨h,?_⟩⟩
 apply Classical.byContradiction
 intro c
 obtain ⟨u,b⟩:=h.down k (by omega)
 have:=(r.edg u).mpr b
 simp at this
theorem Walk.app {u v w:Int} {i j:Nat} (h:Walk T u i v) (g:Walk T v j w):Walk T u (i+j) w:=by
 induction g with
 | refl=>exact h
 | step _ t ih=>exact .step ih t
theorem Walk.rev (a:∀ u v,T u v->T v u) {u v:Int} {i:Nat} (h:Walk T u i v):Walk T v i u:=by
 induction h with
 | refl=>exact .refl
 | @step j x y _ t ih =>
  have:=(Walk.step (T:=T) (u:=y) .refl (a _ _ t)).app ih
  rw [Nat.add_comm] at this
  exact this
theorem Dist.rev (a:∀ u v,T u v->T v u) {u v:Int} {d:Nat} (h:Dist T u v d):Dist T v u d:=⟨h.1.rev a,fun k w=>h.2 k (w.rev a)⟩
theorem farO_comm (a:∀ u v,T u v->T v u) (u v:Int):farO T u v=farO T v u:=an8 fun d=>by
 rw [farO_some];exact ⟨fun h=>h.rev a,fun h=>h.rev a⟩
theorem farO_self:farO T a a=some 0:=farO_some.mpr (Dist.self T a)
theorem Dist.lt {n:Nat} (s:∀ u v,T u v->0<=v/\v < (n:Int)) (ha:0<=a/\a < (n:Int)) {v:Int} {d:Nat} (h:Dist T a v d):d < n:=by
 -- the places of a shortest way are unlike
 have g:∀ d v,Dist T a v d->∃ l:List Int,l.length=d+1/\l.Nodup/\∀ x∈l,(0<=x/\x < (n:Int))/\∃ j,j<=d/\Dist T a x j:=by
  intro d
  induction d with
  | zero =>
   intro v h
   have:v=a:=by cases h.1;rfl
   subst this
   exact ⟨[v],rfl,by simp,fun x b=>by simp at b;subst b;exact ⟨ha,0,aA6 _,h⟩⟩
  | succ d ih =>
   intro v h
   obtain ⟨u,t,o⟩:=h.pred
   obtain ⟨l,i,c,f⟩:=ih u o
   refine ⟨v :: l,by simp [i],aI0.mpr ⟨fun hm=>?_,c⟩,fun x b=>?_⟩
   ·obtain ⟨_,j,p,hd⟩:=f v hm
    have:=hd.uniq h
    omega
   ·rcases aA8.mp b with rfl | b
    ·exact ⟨s _ _ t,d+1,aA6 _,h⟩
    ·obtain ⟨q,j,p,hd⟩:=f x b
     exact ⟨q,j,by omega,hd⟩
 obtain ⟨l,i,c,f⟩:=g d v h
 have few:∀ (n:Nat) (l:List Int),l.Nodup->(∀ v∈l,0<=v/\v < (n:Int))->l.length<=n:=by
  intro n
  induction n with
  | zero =>
   intro l _ h
   cases l with
   | nil=>simp
   | cons v r=>have:=h v (by simp);omega
  | succ n ih =>
   intro l hn h
   have i:=ih (l.erase (n:Int)) (hn.erase _) fun v m=>by
    have hm:=List.mem_of_mem_erase m
    have hb:=h v hm
    have w:v ≠ (n:Int):=by
     rintro rfl
     exact absurd m (List.Nodup.not_mem_erase hn)
    omega
   have c:l.length<=(l.erase (n:Int)).length+1:=by
    rw [List.length_erase]
    split <;> omega
   omega
 have:=few n l c fun x b=>(f x b).1
 omega
end Gr
namespace VL
open PySem PySem.Spec L2
theorem nodup_ix {α:Type} {xs:List α} (h:xs.Nodup) {i j:Nat} (hi:i < xs.length) (a:j < xs.length) (e:xs[i]=xs[j]):i=j:=by
 have p:=aG3.mp h
 rcases Nat.lt_trichotomy i j with q | q | q
 ·exact absurd e (p i j hi a q)
 ·exact q
 ·exact absurd e.symm (p j i a hi q)
def OLL (dss:List (List PyData)):Own where
 P:=fun G H v F=>∃ (a:Addr) (as:List Addr),v=.ref a/\H a=some (.lst (as.map V.ref))/\as.Nodup/\a ∉ as/\as.length=dss.length/\(∀ (i:Nat) b ds,as[i]?=some b->dss[i]?=some ds->∃ vs,H b=some (.lst vs)/\Rps G vs ds)/\∀ b,F b ↔ b=a\/b∈as
 mono:=fun ⟨a,as,e,h,n1,n2,l,r,f⟩ g hh=>⟨a,as,e,hh a _ ((f a).mpr (.inl rfl)) h,n1,n2,l,fun i b ds hb hd=>by
  obtain ⟨vs,h1,h2⟩:=r i b ds hb hd
  exact ⟨vs,hh b _ ((f b).mpr (.inr (aA2 hb))) h1,h2.same g⟩,f⟩
 dom:=fun ⟨a,as,e,h,n1,n2,l,r,f⟩ b z=>by
  rcases (f b).mp z with rfl | z
  ·exact ⟨_,h⟩
  ·obtain ⟨i,hi,e⟩:=aH2.mp z
   have hb:as[i]?=some b:=by rw [aA0 hi,e]
   obtain ⟨vs,h1,_⟩:=r i b _ hb (aA0 (by rw [← l];exact hi))
   exact ⟨_,h1⟩
theorem amd {G:Hp}:∀ {vs:List V} {ds:List PyData},vs.length=ds.length->(∀ (i:Nat) v d,vs[i]?=some v->ds[i]?=some d->Rp G v d)->Rps G vs ds
 | [],[],_,_ => .nil
 | [],_ :: _,h,_=>by simp at h
 | _ :: _,[],h,_=>by simp at h
 | v :: vs,d :: ds,h,k => .cons (k 0 v d rfl rfl) (amd (by simpa using h) fun i v d b a=>k (i+1) v d (by simpa using b) (by simpa using a))
theorem aca {c:List (List PyData)}:Frz (OLL c) (.list (c.map .list)):=fun G H v F ⟨a,as,e,h,p,q,l,r,f⟩ n g=>by
 subst e
 refine .lst (by rw [afi ((f a).mpr (.inl rfl))];exact h) (amd (by simp [l]) fun i u d j hd=>?_)
 rw [aA5] at j hd
 cases hb:as[i]? with
 | none=>rw [hb] at j;cases j
 | some b =>
  cases hds:c[i]? with
  | none=>rw [hds] at hd;cases hd
  | some ds =>
   rw [hb] at j;rw [hds] at hd
   cases j;cases hd
   obtain ⟨vs,o,m⟩:=r i b ds hb hds
   exact .lst (by rw [afi ((f b).mpr (.inr (aA2 hb)))];exact o) (m.same (abm n))
section
variable {B:Bs} {env:En} {QO:Sl->En->Prop} {Q':PyData->En->Prop} {D':VEnds} {K:Frag} {i:Nat}
theorem ard {a:List (List PyData)} {R:PyData->Prop} (h:R (.list (a.map .list))):FQ (.own (OLL a)) R:=⟨_,aca,h⟩
theorem awe {src:List (Option Nat)} {wi:TI} {j:Nat} (h:EvI B wi env fun ds S=>ds.length<=1000000/\QO (.own (OLL (List.replicate ds.length []))) S):EvO B (tLC src wi (abf j) tYes (tLst tNil)) env QO:=fun σ G H F Q I k=>by
 refine h σ G H F _ I fun J P L F1 ds S s g1 it ⟨a0,q⟩ c d=>?_
 let W:Nat->List V->Hp->Prop:=fun n ys H=>∃ (as:List Addr) (g:Hp),ys=as.map V.ref/\as.length=n/\as.Nodup/\c ∉ as/\(∀ b∈as,L b=none/\g b=none/\H b=some (.lst []))/\H c=some (.lst ys)/\g c=none/\Same P g/\Same g H/\Same L H/\(∀ a o,g a=some o->P a=some o\/L a=none)/\FT g H
 refine ⟨fun n m ys σI H=>m=ds.length - n/\n<=ds.length/\W n ys H,⟨ds.length,by simp,aF6 _,[],P,rfl,rfl,List.nodup_nil,by simp,fun b hb=>by simp at hb,aaf,s.no_g d,Same.refl _,s.gh.trans (abg d),abg d,fun a o e => .inl e,fun a O e=>?_⟩,?_⟩
 ·by_cases z:a=c
  ·subst z;rw [aaf] at e;cases e
  ·rw [aad z] at e;exact s.ft a O e
 rintro n m ys σI H2 ⟨rfl,hn,as,g,rfl,R,nd,na,all,f,N,A,l,r,E,v⟩
 refine ⟨f,?_⟩
 by_cases hlt:n < ds.length
 ·refine .inr ⟨it.go n g H2 A l hlt,fun D T H'=>W (n+1) D H',fun D T H' hw=>⟨ds.length - (n+1),by omega,rfl,hlt,hw⟩,fun x H3 y=>?_⟩
  obtain ⟨M,o⟩:=it.yld n g H2 x H3 _ A l v (aA0 hlt) y
  refine ae5 (af0 (ab9 (aqz (aec ⟨by decide,fun p C=>?_⟩))))
  have n2:H2 p=none:=aav o.hh C
  have n1:L p=none:=aav r n2
  have X:p ≠ c:=(aaj (o.hh _ _ f) C).symm
  have K:p ∉ as:=fun z=>by
   have:=o.hh _ _ (all p z).2.2
   rw [this] at C;cases C
  refine ⟨by rw [aad X.symm];exact o.hh _ _ f,by rw [aA3,R];exact big (by omega),as ++ [p],M,by simp,by simp [R],?_,?_,fun b hb=>?_,aaf,?_,A.trans o.gg,fun a u e=>?_,fun a u e=>?_,fun a u e=>?_,fun a O e=>?_⟩
  ·rw [aE4]
   exact ⟨nd,by simp,fun x hx y hy=>by simp at hy;subst hy;intro e;subst e;exact K hx⟩
  ·intro z
   rcases aA7.mp z with z | z
   ·exact na z
   ·exact X (aC1.mp z).symm
  ·have gb:∀ b,g b=none->(∃ u,H2 b=some u)->M b=none:=fun b Y z_=>by
    obtain ⟨u,U⟩:=z_
    cases e:M b with
    | none=>rfl
    | some w =>
     rcases o.gn b w e with e | e
     ·rw [Y] at e;cases e
     ·rw [U] at e;cases e
   rcases aA7.mp hb with hb | hb
   ·obtain ⟨Y,U,h3⟩:=all b hb
    refine ⟨Y,gb b U ⟨_,h3⟩,?_⟩
    rw [aad (fun z:b=c=>na (by rw [← z];exact hb)),aad (fun z:b=p=>K (by rw [← z];exact hb))]
    exact o.hh _ _ h3
   ·have e:b=p:=by simpa using hb
    subst e
    exact ⟨n1,aav o.gh C,by rw [aad X,aaf]⟩
  ·cases e:M c with
   | none=>rfl
   | some w =>
    rcases o.gn c w e with e | e
    ·rw [N] at e;cases e
    ·rw [f] at e;cases e
  ·have ap:a ≠ p:=aaj (o.gh a u e) C
   have Z:a ≠ c:=by
    rintro rfl
    rcases o.gn _ u e with e | e
    ·rw [N] at e;cases e
    ·rw [f] at e;cases e
   rw [aad Z,aad ap];exact o.gh a u e
  ·have ap:a ≠ p:=aaj e n1
   have Z:a ≠ c:=aaj e d
   rw [aad Z,aad ap];exact o.hh _ _ (r a u e)
  ·rcases o.gn a u e with e | e
   ·exact E a u e
   ·exact .inr (aav r e)
  ·by_cases z:a=c
   ·subst z;rw [aaf] at e;cases e
   ·rw [aad z] at e
    by_cases y:a=p
    ·subst y;rw [aaf] at e;cases e
    ·rw [aad y] at e;exact o.ft v a O e
 ·have e:n=ds.length:=by omega
  subst e
  refine .inl ⟨it.stop _ g H2 A l rfl,?_⟩
  have I2:=s.grow A l r E v
  refine k (.ref c) g H2 F1 (fun b=>b=c\/b∈as) (.own (OLL (List.replicate ds.length []))) S I2 (g1.trans A) ⟨⟨c,as,rfl,f,nd,na,by simp [R],fun i b a1 hb hd=>?_,fun b=>Iff.rfl⟩,fun b z=>?_,fun b z=>?_,fun b z=>?_,fun j b z y=>?_⟩ q
  ·rw [aH3] at hd
   split at hd
   ·cases hd;exact ⟨[],(all b (aA2 hb)).2.2,.nil⟩
   ·cases hd
  ·rcases z with rfl | z
   ·exact s.no_b d
   ·exact s.no_b (all b z).1
  ·rcases z with rfl | z
   ·exact N
   ·exact (all b z).2.1
  ·rcases z with rfl | z
   ·exact ⟨_,f⟩
   ·exact ⟨_,(all b z).2.2⟩
  ·rcases z with rfl | z
   ·exact s.no_f d j y
   ·exact s.no_f (all b z).1 j y
theorem afl {d:List (List PyData)} {l j n:Nat} {k:Int} {y:PyData} {ds:List PyData} (e:env[i]?=some (some (.own (OLL d)))) (ek:env[l]?=some (some (.st (.int k)))) (S:env[j]?=some (some (.st y)))
  (P:ixN d.length k=some n) (hd:d[n]?=some ds) (hl:ds.length<=999999) (q:Q' .none (env.set i (some (.own (OLL (d.set n (ds ++ [y]))))))):Ev B (tBM K "list" ad2 (tOp (acb K) (tVar i) (tVar l)) (aba (tVar j) tNil)) env Q':=fun σ G H F Q I W=>by
 obtain ⟨v,N,⟨a,as,rfl,h,E,M,ln,r,f⟩,_⟩:=I.sl i _ e
 obtain ⟨vk,w,R,_⟩:=I.sl l _ ek
 obtain ⟨vy,x,Z,_⟩:=I.sl j _ S
 cases R
 have hn:n < d.length:=(aA1.mp hd).1
 have hb:as[n]?=some (as[n]'(by omega)):=aA0 _
 generalize as[n]'(by omega)=b at hb
 have s:b∈as:=aA2 hb
 obtain ⟨vs,O,L⟩:=r n b ds hb hd
 have D:atI (as.map V.ref) k=some (.ref b):=by
  unfold atI
  rw [aA3,ln,P]
  simp [hb]
 refine ⟨_,N,_,w,afh h D ⟨.inl ⟨rfl,_,SqL.of O⟩,_,x,aep O (by rw [L.length];exact big (by omega)) ?_⟩⟩
 have C:a ≠ b:=fun z=>M (z ▸ s)
 have J:=I.change (A:=OLL (d.set n (ds ++ [y]))) (H2:=upd H b (.lst (vs ++ [vy]))) (F2:=F i) (os':=.own (OLL (d.set n (ds ++ [y])))) i e N (fun c o p u=>by rw [aad (fun z:c=b=>p ((f c).mpr (.inr (by rw [z];exact s))))];exact u)
  (fun c o u=>by
   by_cases z:c=b
   ·rw [z];exact ⟨_,aaf⟩
   ·rw [aad z];exact ⟨o,u⟩)
  (fun c z=>⟨.inl z,by
   by_cases y:c=b
   ·rw [y];exact ⟨_,aaf⟩
   ·rw [aad y];exact I.fo i c z⟩) ?_ (fun c X e=>by
   by_cases z:c=b
   ·subst z;rw [aaf] at e;cases e
   ·rw [aad z] at e;exact I.ft c X e) (.inl ⟨rfl,_,rfl⟩)
 ·exact W _ G _ _ _ _ J (Same.refl _) .non q
 ·refine ⟨a,as,rfl,by rw [aad C];exact h,E,M,by simp [ln],fun m c es p g=>?_,f⟩
  by_cases hm:m=n
  ·subst hm
   rw [hb] at p;cases p
   rw [aD1,aF1 rfl,aF1 hn] at g
   cases g
   exact ⟨_,aaf,L.append (.cons Z .nil)⟩
  ·rw [aD1,aF2 (fun z=>hm z.symm)] at g
   obtain ⟨us,h3,h4⟩:=r m c es p g
   refine ⟨us,?_,h4⟩
   rw [aad]
   ·exact h3
   ·rintro rfl
    have i1:=(aA1.mp hb)
    have i2:=(aA1.mp p)
    obtain ⟨U,e1⟩:=i1
    obtain ⟨Y,T⟩:=i2
    exact hm (nodup_ix E Y U (T.trans e1.symm))
end
@[reducible] def prD (p:Int × Int):PyData:=.tuple [.int p.1,.int p.2]
@[reducible] def webD (n:Int) (es:List (Int × Int)):PyData:=.tuple [.int n,.list (es.map prD)]
def Tied (es:List (Int × Int)) (u v:Int):Prop:=(u,v)∈es\/(v,u)∈es
theorem Tied.symm {es:List (Int × Int)} {u v:Int} (h:Tied es u v):Tied es v u:=h.elim .inr .inl
def InN (n:Int) (es:List (Int × Int)):Prop:=∀ p∈es,0<=p.1/\p.1 < n/\0<=p.2/\p.2 < n
theorem Tied.in {n:Int} {es:List (Int × Int)} {u v:Int} (hi:InN n es) (h:Tied es u v):(0<=u/\u < n)/\0<=v/\v < n:=by
 rcases h with h | h
 ·have:=hi _ h;exact ⟨⟨this.1,this.2.1⟩,this.2.2⟩
 ·have:=hi _ h;exact ⟨⟨this.2.2.1,this.2.2.2⟩,this.1,this.2.1⟩
theorem Tied.snoc {es:List (Int × Int)} {i:Nat} {a b:Int} (h:es[i]?=some (a,b)) (u v:Int):Tied (es.take (i+1)) u v ↔ (Tied (es.take i) u v\/(u=a/\v=b))\/(u=b/\v=a):=by
 have e:es.take (i+1)=es.take i ++ [(a,b)]:=by rw [aH0,h];rfl
 unfold Tied
 rw [e]
 simp only [aA7,aC1,Prod.mk.injEq]
 constructor
 ·rintro ((h | ⟨rfl,rfl⟩) | (h | ⟨rfl,rfl⟩))
  ·exact .inl (.inl (.inl h))
  ·exact .inl (.inr ⟨rfl,rfl⟩)
  ·exact .inl (.inl (.inr h))
  ·exact .inr ⟨rfl,rfl⟩
 ·rintro (((h | h) | ⟨rfl,rfl⟩) | ⟨rfl,rfl⟩)
  ·exact .inl (.inl h)
  ·exact .inr (.inl h)
  ·exact .inl (.inr ⟨rfl,rfl⟩)
  ·exact .inr (.inr ⟨rfl,rfl⟩)
def TiedL (n:Int) (T:Int->Int->Prop) (tl:List (List Int)):Prop:=(tl.length:Int)=n/\∀ (i:Nat) ws,tl[i]?=some ws->∀ w,w∈ws ↔ T i w
def oD:Option Nat->PyData
 | none => .none
 | some d => .int d
def lab (n:Nat) (far:Int->Option Nat):List PyData:=(List.range n).map fun (i:Nat)=>oD (far (i:Int))
theorem acn {n:Nat} {far:Int->Option Nat}:(lab n far).length=n:=by simp [lab]
theorem ad3 {n:Nat} {far:Int->Option Nat} {i:Nat} (h:i < n):(lab n far)[i]?=some (oD (far i)):=by
 unfold lab
 rw [aA5,aA0 (by simpa using h)]
 simp
theorem arf {n:Nat} {far:Int->Option Nat} {v:Int} (a:0<=v) (h:v < n):atI (lab n far) v=some (oD (far v)):=by
 have:=adj (xs:=lab n far) (j:=v.toNat) (ad3 (by omega))
 rwa [show ((v.toNat:Nat):Int)=v by omega] at this
theorem ah9 {n:Nat} {v:Int} (a:0<=v) (h:v < n):ixN n v=some v.toNat:=by
 unfold ixN;rw [aF1 a,aF1 h]
theorem an9 {n:Nat} {far:Int->Option Nat} {v:Int} {d:Nat} (a:0<=v) (h:v < n):(lab n far).set v.toNat (.int d)=lab n (Gr.label far v d):=by
 apply aF8
 intro i
 rw [aD1]
 by_cases e:v.toNat=i
 ·rw [aF1 e,aF1 (by rw [acn];omega),ad3 (by omega)]
  have:(i:Int)=v:=by omega
  rw [this,Gr.label_same];rfl
 ·rw [aF2 e]
  by_cases hi:i < n
  ·rw [ad3 hi,ad3 hi,Gr.label_ne (by omega)]
  ·rw [aF3.mpr (by rw [acn];omega),aF3.mpr (by rw [acn];omega)]
theorem arh {n:Nat} {f g:Int->Option Nat} (h:∀ v,0<=v->v < (n:Int)->f v=g v):lab n f=lab n g:=by
 unfold lab
 apply aE5
 intro i hi
 rw [h i (by omega) (by have:=aB8.mp hi;omega)]
theorem awf {o:Option Nat}:isNone (oD o)=o.isNone:=by cases o <;> rfl
theorem ame {α:Type} {f : α->PyData} {xs:List α} {i:Int} {x : α} (h:atI xs i=some x):atI (xs.map f) i=some (f x):=by
 unfold atI at h ⊢
 rw [aA3]
 cases e:ixN xs.length i with
 | none=>rw [e] at h;cases h
 | some j=>rw [e] at h;simp at h ⊢;exact ⟨_,h,rfl⟩
theorem adp {α:Type} {xs:List α} {i:Int} {x : α} (a:0<=i) (h:xs[i.toNat]?=some x):atI xs i=some x:=by
 have:=adj (xs:=xs) (j:=i.toNat) h
 rwa [show ((i.toNat:Nat):Int)=i by omega] at this
@[reducible] def tlD (tl:List (List Int)):List (List PyData):=tl.map fun ws=>ws.map .int
theorem TiedL.get {n:Int} {T:Int->Int->Prop} {tl:List (List Int)} (h:TiedL n T tl) {v:Int} (c:0<=v) (d:v < n):∃ a,tl[v.toNat]?=some a/\∀ w,w∈a ↔ T v w:=by
 have b:v.toNat < tl.length:=by have:=h.1;omega
 refine ⟨tl[v.toNat],aA0 b,fun w=>?_⟩
 rw [h.2 _ _ (aA0 b) w,show ((v.toNat:Nat):Int)=v by omega]
theorem acw {tl:List (List Int)} {i:Nat} {a:List Int} (h:tl[i]?=some a):(tlD tl)[i]?=some (a.map .int):=by
 rw [aA5,h];rfl
theorem TiedL.put {n:Int} {T:Int->Int->Prop} {tl:List (List Int)} (h:TiedL n T tl) {v q:Int} {c:List Int} (j:0<=v) (g:v < n) (d:tl[v.toNat]?=some c):TiedL n (fun a b=>T a b\/(a=v/\b=q)) (tl.set v.toNat (c ++ [q])):=by
 refine ⟨by rw [List.length_set];exact h.1,fun i us hi w=>?_⟩
 rw [aD1] at hi
 by_cases e:v.toNat=i
 ·rw [aF1 e] at hi
  have l:v.toNat < tl.length:=(aA1.mp d).1
  rw [aF1 (by omega)] at hi
  cases hi
  have f:(i:Int)=v:=by omega
  rw [aA7,aC1,h.2 i c (by rw [← e];exact d) w,f]
  simp
 ·rw [aF2 e] at hi
  rw [h.2 i us hi w]
  exact ⟨.inl,fun z=>z.elim id fun z=>by omega⟩
theorem agw {tl:List (List Int)} {i:Nat} {a:List Int}:(tlD tl).set i (a.map .int)=tlD (tl.set i a):=by
 unfold tlD;rw [List.map_set]
theorem TiedL.iff {n:Int} {T a:Int->Int->Prop} {tl:List (List Int)} (h:TiedL n T tl) (e:∀ u v,T u v ↔ a u v):TiedL n a tl:=⟨h.1,fun i b hi w=>(h.2 i b hi w).trans (e _ _)⟩
end VL
namespace VL
open PySem L2
def cnt (far:Int->Option Nat):Nat->Nat
 | 0=>0
 | n+1=>cnt far n+(if far (n:Int)=none then 1 else 0)
theorem afq {far:Int->Option Nat} {w:Int} {d:Nat}:∀ {n:Nat},(w:Int) ≥ n->cnt (Gr.label far w d) n=cnt far n
 | 0,_=>rfl
 | n+1,h=>by
  unfold cnt
  rw [afq (by omega),Gr.label_ne (by omega)]
theorem ady {far:Int->Option Nat} {w:Int} {d:Nat} (b:0<=w) (a:far w=none):∀ {n:Nat},w < (n:Int)->cnt (Gr.label far w d) n+1=cnt far n
 | 0,h=>by omega
 | n+1,h=>by
  unfold cnt
  by_cases e:w=n
  ·subst e
   rw [afq (by omega),Gr.label_same,a];simp
  ·rw [Gr.label_ne (by omega)]
   have:=ady b a (n:=n) (d:=d) (by omega)
   omega
theorem awg (n:Nat):(List.replicate n [PyData.none]).flatten=lab n (fun _=>none):=by
 apply aF8
 intro i
 by_cases hi:i < n
 ·rw [ad3 hi]
  have:(List.replicate n [PyData.none]).flatten=List.replicate n PyData.none:=by
   clear hi
   induction n with
   | zero=>rfl
   | succ n ih=>rw [aG9,List.flatten_cons,ih,aG9];rfl
  rw [this,aH3,aF1 hi];rfl
 ·rw [aF3.mpr (by rw [anj];simp;omega),aF3.mpr (by rw [acn];omega)]
theorem am8 {α:Type} {f : α->PyData} {xs:List α}:(xs.map f).isEmpty=xs.isEmpty:=by cases xs <;> rfl
theorem abz {xs:List Int} {j:Nat} {u w:Int} (a:xs[j]?=some u) (hm:w∈xs.take (j+1)):w∈xs.take j\/w=u:=by
 rw [aH0,a] at hm
 rcases aA7.mp hm with q | q
 ·exact .inl q
 ·exact .inr (by simpa using q)
theorem ari {n:Nat} {far:Int->Option Nat}:plainDs (lab n far)=true:=by
 rw [aco]
 intro d hd
 obtain ⟨i,_,rfl⟩:=aB6.mp hd
 cases far (i:Int) <;> rfl
theorem awh {n:Nat} {far:Int->Option Nat}:((lab n far).any fun z=>PyData.eqv z .none)=true ↔ ∃ v:Int,0<=v/\v < n/\far v=none:=by
 rw [aE9]
 constructor
 ·rintro ⟨d,hd,e⟩
  obtain ⟨i,hi,rfl⟩:=aB6.mp hd
  refine ⟨i,by omega,by have:=aB8.mp hi;omega,?_⟩
  cases h:far (i:Int) with
  | none=>rfl
  | some d=>rw [h] at e;simp [oD,PyData.eqv] at e
 ·rintro ⟨v,b,a,h⟩
  refine ⟨oD (far v),?_,by rw [h];rfl⟩
  have:=ad3 (far:=far) (show v.toNat < n by omega)
  rw [show ((v.toNat:Nat):Int)=v by omega] at this
  exact aA2 this
def Joined (n:Int) (es:List (Int × Int)):Prop:=∀ v,0<=v->v < n->∃ d,Gr.Dist (Tied es) 0 v d
end VL
namespace DI
open PySem PySem.W
def Raw (h:Heap) (d:Addr) (es:Array DictEntry) (ep:Nat):Prop:=∃ o,h.get? d=some o/\o.ExactDict/\o.data=.dict es ep
theorem Raw.keep {h h':Heap} {d:Addr} {es:Array DictEntry} {ep:Nat} (r:Raw h d es ep) (k:∀ o,h.get? d=some o->h'.get? d=some o):Raw h' d es ep:=let ⟨o,e,x⟩:=r;⟨o,k o e,x⟩
theorem Raw.ty {s:Shared} {d:Addr} {es:Array DictEntry} {ep:Nat} (r:Raw s.heap d es ep):s.TypeIs (.ref d) "dict":=let ⟨o,e,x,_⟩:=r;⟨o,e,x.1⟩
section
variable {prog:Program} {w:World} {A:Around} {E:Value->Shared->Prop} {s:Shared} {d it:Addr} {es:Array DictEntry} {ep i:Nat}
theorem atr {Q:Value->Shared->Prop} (hd:(d == sysModules)=false) (r:Raw s.heap d es ep)
  (c:Q (.ref s.heap.objs.size) { s with heap:=s.heap.push { cls:=.type "dict_keyiterator",data:=.fields #[.ref d,.int 0 0,.int es.size 0,.int ep 0] } }):wpAny (model prog w) A (pyIter (.ref d)) Q E s:=by
 obtain ⟨o,b,f,a⟩:=id r
 refine wpAny_pyIter_slot r.ty PySem.F.slot_dict_iter (aJ6 PySem.F.slot_dict_iter r.ty PySem.F.entry_dict_iter ?body (PySem.F.args_dict_iter_1 _))
 case body =>
  unfold Builtin.«dict.__iter__»
  refine aI5 ?slot
  case slot =>
   unfold Builtin.Dict.dictSlotNone
   refine aI5 (wpAny_notOrdered_dict r.ty ?pl)
   case pl =>
    show wpAny _ _ (pure (Value.ref d)) _ _ s
    refine aI6 ?rest
    case rest =>
     show wpAny _ _ (Builtin.Dict.showsAll d >>= _) _ _ s
     unfold Builtin.Dict.showsAll
     rw [aF2 (by rw [hd];exact aA9)]
     refine aI5 (aI6 (aI5 (wpAny_dictEntries b a (aI5 (wpAny_dictEpoch b a (aI5 (aJ3 (aI6 ⟨_,rfl,"dict_keyiterator",_,⟨_,aI9 _ rfl,rfl⟩,PySem.F.slot_dict_keyiterator_next.lookup,?fin⟩))))))))
     case fin=>simpa [rawInt] using c
theorem ats {Q:Option Value->Shared->Prop} (a:s.heap.IsKeyIter it d i es.size ep) (r:Raw s.heap d es ep) (hi:i < es.size)
  (x:∀ h',h'.IsKeyIter it d (i+1) es.size ep->Heap.SameBut it s.heap h'->Q (some es[i].key) { s with heap:=h' }):wpAny (model prog w) A (pyNext (.ref it)) Q E s:=by
 obtain ⟨o,q,u,hd⟩:=id a
 obtain ⟨od,p,v,n⟩:=r
 unfold pyNext
 refine aI5 (wpAny_attempt (wpAny_callSpecial?_slot (name:=Str.ofString "__next__") a.typeIs PySem.F.slot_dict_keyiterator_next (aJ6 PySem.F.slot_dict_keyiterator_next a.typeIs PySem.F.entry_dict_keyiterator_next ?b (PySem.F.args_dict_keyiterator_next_1 _))))
 case b =>
  refine aI5 (aI6 (aI5 (aI5 ?c)))
  case c =>
   first | refine aI5 (wpAny_typeNameOfWhole_keyiter a.typeIs (aI6 (aI5 (wpAny_fieldsOf q hd ?e)))) | refine aI5 (wpAny_typeNameOf_keyiter a.typeIs (aI6 (aI5 (wpAny_fieldsOf q hd ?e))))
   case e =>
    simp only [show Builtin.Dict_items.ownsTuple "dict_keyiterator" = false by decide,Bool.false_eq_true,if_false]
    show wpAny _ _ (if (Value.ref d == Value.none)=true then _ else _) _ _ s;rw [aF2 (show ¬ ((Value.ref d == Value.none)=true) from aA9)]
    refine aI5 (aI6 (aI5 (wpAny_dictEntries p n ?f)))
    case f =>
     rw [aF2 (by simp)];refine aI5 (aI6 (aI5 (wpAny_dictEpoch p n ?g)))
     case g =>
      rw [aF2 (by simp)];refine aI6 ?h
      case h =>
       simp only [show ¬ ((i:Int) < 0) by omega,if_false,Int.toNat_natCast,aA4 hi];refine aI5 ?j
       case j =>
        first | refine aI5 (wpAny_typeNameOfWhole_keyiter a.typeIs (aI6 (aI5 (wpAny_isOneOf_keyiter a.typeIs ?k)))) | refine aI5 (wpAny_typeNameOf_keyiter a.typeIs (aI6 (aI5 (wpAny_isOneOf_keyiter a.typeIs ?k))))
        case k =>
         show wpAny _ _ (setField (.ref it) 1 (rawInt ((i:Int)+1)) >>= _) _ _ s;refine aI5 (wpAny_setField q hd (by simp) ?l)
         case l =>
          have nx:(s.heap.update it (Obj.mapFields (·.setIfInBounds 1 (rawInt ((i:Int)+1))))).IsKeyIter it d (i+1) es.size ep:=⟨_,Heap.get?_update_self _ q (Obj.isFreed_of_fields (Obj.data_mapFields hd _)),(Obj.cls_mapFields ..).trans u,by rw [Obj.data_mapFields hd];simp [rawInt]⟩
          refine aI5 (aJ0 (aI5 (wpAny_isOneOf_keyiter (s:={ s with heap:=s.heap.update it (Obj.mapFields (·.setIfInBounds 1 (rawInt ((i:Int)+1)))) }) nx.typeIs ?m)))
          case m=>show wpAny _ _ (pure es[i].key) _ _ _;exact aI6 (aI6 ⟨_,rfl,aI6 (x _ nx (Heap.SameBut.update ..))⟩)
theorem awi {Q:Option Value->Shared->Prop} (hh:A.handled=none) (i:s.heap.IsKeyIter it d es.size es.size ep) (r:Raw s.heap d es ep) (x:∀ h',Heap.ExtBut it s.heap h'->Q none { s with heap:=h' }):wpAny (model prog w) A (pyNext (.ref it)) Q E s:=by
 obtain ⟨o,u,y,hd⟩:=id i
 obtain ⟨od,p,v,n⟩:=r
 unfold pyNext
 refine aI5 (wpAny_attempt (wpAny_callSpecial?_slot (name:=Str.ofString "__next__") i.typeIs PySem.F.slot_dict_keyiterator_next (aJ6 PySem.F.slot_dict_keyiterator_next i.typeIs PySem.F.entry_dict_keyiterator_next ?b (PySem.F.args_dict_keyiterator_next_1 _))))
 case b =>
  refine aI5 (aI6 (aI5 (aI5 ?c)))
  case c =>
   first | refine aI5 (wpAny_typeNameOfWhole_keyiter i.typeIs (aI6 (aI5 (wpAny_fieldsOf u hd ?e)))) | refine aI5 (wpAny_typeNameOf_keyiter i.typeIs (aI6 (aI5 (wpAny_fieldsOf u hd ?e))))
   case e =>
    simp only [show Builtin.Dict_items.ownsTuple "dict_keyiterator" = false by decide,Bool.false_eq_true,if_false]
    show wpAny _ _ (if (Value.ref d == Value.none)=true then _ else _) _ _ s;rw [aF2 (show ¬ ((Value.ref d == Value.none)=true) from aA9)]
    refine aI5 (aI6 (aI5 (wpAny_dictEntries p n ?f)))
    case f =>
     rw [aF2 (by simp)];refine aI5 (aI6 (aI5 (wpAny_dictEpoch p n ?g)))
     case g =>
      rw [aF2 (by simp)];refine aI6 ?h
      case h =>
       simp only [show ¬ ((es.size:Int) < 0) by omega,if_false,Int.toNat_natCast,Array.getElem?_eq_none (aA6 es.size)];refine aI5 ?j
       case j =>
        first | refine aI5 (wpAny_typeNameOfWhole_keyiter i.typeIs (aI6 ?k)) | refine aI5 (wpAny_typeNameOf_keyiter i.typeIs (aI6 ?k))
        case k =>
         show wpAny _ _ (setField (.ref it) 0 .none >>= _) _ _ s;refine aI5 (wpAny_setField u hd (by simp) ?l)
         case l =>
          show wpAny _ _ (newExc (.type "StopIteration") [] >>= _) _ _ _;refine aI5 ?m
          case m =>
           simp only [newExc,newTuple];refine aI5 (aJ3 ?zz2 (by size_fits))
           case zz2 =>
            refine aI5 (m:=firstArgMember _ _) (wpAny_of_eq (a:=Value.none) (by first | rfl | (simp only [firstArgMember];rfl)) (aJ3 ?zz1 (by size_fits)))
            case zz1 =>
             simp only [raiseNew];refine aI5 (wpAny_handled ?q)
             case q =>
              rw [show A.in1.handled=none from hh];refine aI5 (aI6 (wpAny_throw ?u1))
              case u1=>refine aI5 (wpAny_isInstance (T:="StopIteration") (b:=true) ⟨_,aI9 _ rfl,rfl⟩ isSubtype_stop ?u2);exact aI6 (x _ (((Heap.SameBut.update ..).extBut.push _).push _))
end
theorem walks {prog:Program} {w:World} {A:Around} (hh:A.handled=none) (I d:Addr) (c:d ≠ I) (es:Array DictEntry) (ep:Nat) :
  Walks prog w A I [I,d] [I] es.size (fun i v=>(es[i]?).map (·.key)=some v) (fun i h=>h.IsKeyIter I d i es.size ep/\Raw h d es ep) where
 sub:=fun b hb=>by simp at hb;simp [hb]
 frame:=fun _ _ _ st f=>⟨st.1.at fun o e=>f I (by simp) o e,st.2.keep fun o e=>f d (by simp) o e⟩
 item:=fun i s Q E hi st a=>ats st.1 st.2 hi fun h' nx sb=>a _ h' s.toks (by rw [aA4 hi];rfl) ⟨nx,st.2.keep fun o e=>sb.extBut d o c e⟩ fun b o hb e=>sb.extBut b o (fun z=>hb (by simp [z])) e
 done:=fun s Q E st a=>awi hh st.1 st.2 fun h' g=>a h' s.toks fun b o hb e=>g b o (fun z=>hb (by simp [z])) e
 self:=fun _ _ _ _ st a=>wpAny_pyIter_keyiter st.1 a
end DI
namespace DI
open PySem PySem.W PyProof.Rows
section
variable {prog:Program} {w:World} {A:Around} {E:Value->Shared->Prop} {s:Shared}
theorem src (d:Addr) (es:Array DictEntry) (ep:Nat) (hd:(d == sysModules)=false):KdlSrc prog w "dict" d d es.size (fun i v=>(es[i]?).map (·.key)=some v) (fun h=>Raw h d es ep) where
 type:=fun s r=>r.ty
 there:=fun h r=>let ⟨o,e,_⟩:=r;⟨aI8 e,aI8 e⟩
 keep:=fun h h' r k=>r.keep fun o e=>k d (.inl rfl) o e
 notList:=by decide
 notTuple:=by decide
 hint:=fun A E s Q r q=>kdl_hint_dict r.ty q
 iter:=fun A s hh r=>⟨{ cls:=.type "dict_keyiterator",data:=.fields #[.ref d,.int 0 0,.int es.size 0,.int ep 0] },fun i h=>h.IsKeyIter s.heap.objs.size d i es.size ep/\Raw h d es ep,fun E Q q=>atr hd r q,
  walks hh s.heap.objs.size d (by obtain ⟨o,e,_⟩:=r;exact aB5 (aI8 e)) es ep,⟨_,aI9 _ rfl,rfl,rfl⟩,r.keep fun o e=>aI7 _ e⟩
theorem collect_src {T:String} {r d:Addr} {n:Nat} {P:Nat->Value->Prop} {j:Heap->Prop} {Q:List Value->Shared->Prop} (K:KdlSrc prog w T r d n P j) (hh:A.handled=none) (hok:j s.heap) (hn:n<=sizeLine)
  (u:∀ h' i (f:Array Value),(∀ b o,s.heap.get? b=some o->h'.get? b=some o)->s.heap.objs.size<=h'.objs.size->ItemsOf P f n->Q f.toList { s with heap:=h',toks:=i }):wpAny (model prog w) A (collect (.ref r)) Q E s:=by
 unfold collect
 refine aI5 (wpAny_runValue (aJ9 PySem.F.entry_proto_collect ?a1))
 case a1 =>
  rw [aJ4 PySem.F.plain_proto_collect _];show wpAny _ A.in1 (newList [] >>= fun l=>again (.builtin "list.__iadd__" ⟨[l,.ref r],[]⟩)) _ _ s
  refine aI5 (aJ3 (aI6 ⟨plainId_quiet PySem.F.plain_list_iadd _,aJ9 PySem.F.entry_list_iadd ?a2⟩))
  case a2 =>
   rw [aJ4 PySem.F.plain_list_iadd _];show wpAny _ A.in1 (Builtin.List.listExtendWith (.ref s.heap.objs.size) (.ref r) (.ref s.heap.objs.size)) _ _ _
   have p:(s.heap.push { cls:=.type "list",data:=.seq ([]:List Value).toArray }).get? s.heap.objs.size=some { cls:=.type "list",data:=.seq #[] 0 }:=aI9 _ rfl
   obtain ⟨t1,m⟩:=K.there _ hok
   refine kdl_extend (R:=wants (fun v q=>wpAny (model prog w) A (match v with | .ref a=>(do match (← load a).data with | .seq xs _=>pure xs.toList | _=>unsupported "internal:collect") | _=>unsupported "internal:collect") Q E q) E) (s:={ s with heap:=s.heap.push { cls:=.type "list",data:=.seq ([]:List Value).toArray } }) K hh (K.keep _ _ hok fun b _ o e=>aI7 _ e) s.heap.objs.size (Nat.ne_of_gt t1) (Nat.ne_of_gt m) _ 0 p (fun h' i f c k g h=>?a3) hn
   case a3 =>
    show wpAny (model prog w) A _ Q E _
    refine aI5 (wpAny_load g ?a4)
    case a4=>exact aI6 (u h' i f (fun b o e=>k b o (aB5 (aI8 e)) (aI7 _ e)) (aG1 (aI8 g)) h)
end
end DI
namespace TS
open PySem PySem.W PyProof.Rows
section
variable {prog:Program} {w:World} {A:Around} {E:Value->Shared->Prop} {s:Shared}
theorem sorted_gen {l:Addr} {Ok:List Value->Prop} {Q:Value->Shared->Prop}
  (i:∀ (D:List Value->Shared->Prop),(∀ vs h d,(∀ b o,s.heap.get? b=some o->h.get? b=some o)->s.heap.objs.size<=h.objs.size->Ok vs->D vs { s with heap:=h,toks:=d })->wpAny (model prog w) A.in1 (collect (.ref l)) D E s)
  (c:∀ vs,Ok vs->vs.length<=sizeLine)
  (p:∀ vs,Ok vs->2<=vs.length->∀ h' d,(∀ b o,s.heap.get? b=some o->h'.get? b=some o)->∃ κ S R,(∀ (Q:SortKind->Shared->Prop),Q κ { s with heap:=h',toks:=d }->wpAny (model prog w) A.in1.in1 (keyKind' vs.toArray) Q E { s with heap:=h',toks:=d }) /\
   Cmp (model prog w) A.in1.in1 E { s with heap:=h',toks:=d } κ S R/\(∀ v∈vs,S (v,v))/\∀ out:List Value,out.Perm vs->out.Pairwise (fun x y=>R (y,y) (x,x)=false) ->
    ∀ a h' d e,(∀ b o,s.heap.get? b=some o->h'.get? b=some o)->s.heap.objs.size<=a->h'.get? a=some (seqObj "list" out.toArray e)->Q (.ref a) { s with heap:=h',toks:=d })
  (h:∀ vs,Ok vs->vs.length < 2->∀ a h' d e,(∀ b o,s.heap.get? b=some o->h'.get? b=some o)->s.heap.objs.size<=a->h'.get? a=some (seqObj "list" vs.toArray e)->Q (.ref a) { s with heap:=h',toks:=d }) :
  wpAny (model prog w) A (call (.builtin "sorted") [.ref l]) Q E s:=by
 refine Calls.call_function_entry kind_sorted plain_sorted entry_sorted (args_sorted1 _) ?_
 unfold Builtin.«sorted»
 refine aI5 (m:=checkCount "sorted" 1 1 _) (aI6 (aI5 (i _ fun vs g d kp hsz z=>?_)))
 have c:=c vs z
 refine aI5 (wpAny_newList ?_ c)
 have f:(g.push (seqObj "list" vs.toArray 0)).get? g.objs.size=some (seqObj "list" vs.toArray 0):=aI9 _ rfl
 have keep:∀ b o,s.heap.get? b=some o->(g.push (seqObj "list" vs.toArray 0)).get? b=some o:=fun b o q=>aI7 _ (kp b o q)
 refine aI5 (aJ0 (aJ6 slot_list_sort ⟨_,f,rfl⟩ entry_list_sort ?body (args_list_sort _)))
 case body =>
  have fin:∀ out:List Value,∃ e,(sortedHeap (g.push (seqObj "list" vs.toArray 0)) g.objs.size vs out.toArray).get? g.objs.size=some (seqObj "list" out.toArray e):=fun out=>sortedHeap_at (n:=0) f
  have old:∀ (out:List Value) b o,s.heap.get? b=some o->(sortedHeap (g.push (seqObj "list" vs.toArray 0)) g.objs.size vs out.toArray).get? b=some o:=fun out b o e=>by
   have lt:=aI8 (kp b o e)
   rw [sortedHeap_old (aB5 lt) (by rw [size_push'];exact aF4 lt)];exact keep b o e
  refine afp (s:={ s with heap:=g.push (seqObj "list" vs.toArray 0),toks:=d }) f c (fun u h' J=>?_) fun r=>?_
  ·obtain ⟨κ,S,R,F,C,G,j⟩:=p vs z u h' d fun b o e=>J b o (aB5 (aI8 (kp b o e))) (keep b o e)
   refine ⟨κ,S,R,F,C,G,fun out H I=>⟨_,rfl,aI6 ⟨_,rfl,?_⟩⟩⟩
   obtain ⟨e,B⟩:=fin out
   exact j out H I _ _ _ e (old out) hsz B
  ·obtain ⟨e,B⟩:=fin vs
   exact ⟨_,rfl,aI6 ⟨_,rfl,h vs z r _ _ _ e (old vs) hsz B⟩⟩
end
end TS
namespace L2
open PySem PySem.Spec PyProof.Rows
section
variable {X:Cx} {pins:List (Addr × Obj)} {σ:St} {H:Hp} {s:Shared} {h':Heap}
end
section
variable {X:Cx} {elts:List Expr} {k:Nat} {tpos:Pos}
end
section
variable {X:Cx} {elts:List Expr} {k:Nat} {tpos:Pos}
end
theorem ai3:∀ {xs:List V} {us:List Value},xs.length=us.length->(∀ (i:Nat) v u,xs[i]?=some v->us[i]?=some u->RelV v u)->Vals xs us
 | [],[],_,_ => .nil
 | [],_ :: _,h,_=>by simp at h
 | _ :: _,[],h,_=>by simp at h
 | x :: xs,u :: us,h,k => .cons (k 0 x u rfl rfl) (ai3 (by simpa using h) fun i v w b a=>k (i+1) v w (by simpa using b) (by simpa using a))
theorem ag7 (prog:Program) (w:World) (A:Around) {bs:List Bool} {us:List Value} (r:Vals (bs.map V.bl) us):TruthOf prog w A (fun i v=>us.toArray[i]?=some v) (fun i=>bs.getD i false):=by
 intro i v s Q E d h
 have b:us[i]?=some v:=by simpa using d
 have hi:i < us.length:=(aA1.mp b).1
 have hb:i < bs.length:=by have:=r.length;simp at this;omega
 obtain ⟨u,a,c⟩:=r.get (i:=i) (x:=.bl bs[i]) (by simp [hb])
 rw [b] at a;cases a
 cases (show v=Value.bool bs[i] from c)
 have e:bs.getD i false=bs[i]:=by simp [List.getD,hb]
 have h':Q (bs.getD i false) s:=h
 rw [e] at h'
 exact aJ7 h'
section
variable {X:Cx}
theorem arj (bs:List Bool):((List.range bs.length).all fun i=>bs.getD i false)=bs.all id:=by
 rw [aH4,aF0,aF0]
 constructor
 ·intro h b hb
  obtain ⟨i,hi,e⟩:=aH2.mp hb
  have:=h i (aB8.mpr hi)
  simp [List.getD,hi,e] at this
  exact this
 ·intro h i hi
  have a:=aB8.mp hi
  have:=h bs[i] (aE8 a)
  simp [List.getD,a];exact this
theorem ark (bs:List Bool):((List.range bs.length).any fun i=>bs.getD i false)=bs.any id:=by
 rw [aH4,aE9,aE9]
 constructor
 ·rintro ⟨i,hi,h⟩
  have a:=aB8.mp hi
  refine ⟨bs[i],aE8 a,?_⟩
  simp [List.getD,a] at h;exact h
 ·rintro ⟨b,hb,h⟩
  obtain ⟨i,hi,e⟩:=aH2.mp hb
  refine ⟨i,aB8.mpr hi,?_⟩
  simp [List.getD,hi,e];exact h
def rAll (K:Frag):List V->Hp->VK->Prop:=fun xs H Q=>∃ (a:Addr) (bs:List Bool),xs=[.ref a]/\SqL K H a (bs.map V.bl)/\Q (.bl (bs.all id)) H
def rAny (K:Frag):List V->Hp->VK->Prop:=fun xs H Q=>∃ (a:Addr) (bs:List Bool),xs=[.ref a]/\SqL K H a (bs.map V.bl)/\Q (.bl (bs.any id)) H
theorem af8 (i:X.calm=true):aa1 X (.builtin "all") (rAll X.K):=by
 intro pins s σ H xs us Q I r h
 obtain ⟨a,bs,rfl,ha,q⟩:=h
 obtain ⟨u,rfl,f⟩:=ab6 r
 cases f
 obtain ⟨its,d,c,_⟩:=I.list ha
 have g:a < s.heap.objs.size:=by obtain ⟨o,n,e,_⟩:=c;exact aI8 e
 have hz:its.toArray.size=bs.length:=by have:=d.length;simp at this;simp [this]
 refine call_all_walk (aJ8 c.isList ⟨_,[s.heap.objs.size,a],_,_,_,_,_,rfl,Walks.list (A:=X.A.in1) (I.ok.hd i) _ a (aB5 g) its.toArray,⟨⟨_,aI9 _ rfl,rfl,rfl⟩,c.isList.push _⟩,ag7 _ _ _ d,fun j l kp=>?_⟩)
 rw [hz,arj]
 refine ⟨.bl _,H,I.kept fun b o e=>kp b o (fun z=>?_) (aI7 _ e),rfl,q⟩
 exact absurd (aI8 e) (by rw [aC1.mp z];exact aG0 _)
theorem arl (i:X.calm=true):aa1 X (.builtin "any") (rAny X.K):=by
 intro pins s σ H xs us Q I r h
 obtain ⟨a,bs,rfl,ha,q⟩:=h
 obtain ⟨u,rfl,f⟩:=ab6 r
 cases f
 obtain ⟨its,d,c,_⟩:=I.list ha
 have g:a < s.heap.objs.size:=by obtain ⟨o,n,e,_⟩:=c;exact aI8 e
 have hz:its.toArray.size=bs.length:=by have:=d.length;simp at this;simp [this]
 refine call_any_walk (aJ8 c.isList ⟨_,[s.heap.objs.size,a],_,_,_,_,_,rfl,Walks.list (A:=X.A.in1) (I.ok.hd i) _ a (aB5 g) its.toArray,⟨⟨_,aI9 _ rfl,rfl,rfl⟩,c.isList.push _⟩,ag7 _ _ _ d,fun j l kp=>?_⟩)
 rw [hz,ark]
 refine ⟨.bl _,H,I.kept fun b o e=>kp b o (fun z=>?_) (aI7 _ e),rfl,q⟩
 exact absurd (aI8 e) (by rw [aC1.mp z];exact aG0 _)
def aia (K:Frag):List V->Hp->VK->Prop:=fun xs H Q=>∃ p ys,xs=[.ref p]/\(SqL K H p ys\/SqT K H p ys)/\∀ l,H l=none->Q (.ref l) (upd H l (.lst ys))
theorem aib:aa1 X (.type "list") (aia X.K):=ala
def aic (ta:TA):TE:=fun σ H Q=>ta σ H fun vs H1=>∃ j:Int,vs=[.int j]/\0<=j/\j<=1000000/\∀ l,H1 l=none->Q (.ref l) (upd H1 l (.lst ((List.range j.toNat).map fun (i:Nat)=>V.int (i:Int))))
theorem amf {a:Expr} {y:TA} {O p2 pos d:Pos} (L:Gl X "list") (hm:X.mg "list" = none) (w:Gl X "range") (x:X.mg "range" = none) (K:X.calm=true) (ha:PA X [a] y) (J:starEach [a] X.env=[(false,eval a X.env)]:=by rfl)
  (g:starEach [.Call (.Name "range" p2) [a] [] d] X.env=[(false,eval (.Call (.Name "range" p2) [a] [] d) X.env)]:=by rfl):PE X (.Call (.Name "list" O) [.Call (.Name "range" p2) [a] [] d] [] pos) (aic y):=by
 intro pins s σ H Q I h
 refine Call_ (ad4 I L hm adk (PyProof.Rows.callWith_type1 ?_ g rfl))
 rw [g]
 refine Calls.spliced_cons (Call_ (ad4 I w x boot_range (PyProof.Rows.callWith_type1 (thn (ha d pins s σ H _ I h) fun us s1 ⟨vs,S,r,N,j,M,R,P,q⟩=>?_) J rfl)))
 subst M
 obtain ⟨u,rfl,t,rfl⟩:=ab6 N
 refine call_range_1 (Calls.spliced_nil ?_)
 have z:IsRange (s1.heap.push { cls:=.type "range",data:=.fields #[.int 0 s1.toks,.int j t,.int 1 (s1.toks+1)] }) s1.heap.objs.size 0 j 1 s1.toks t (s1.toks+1):=aI9 _ rfl
 have hn:Builtin.Range.rangeSize 0 j 1=((j.toNat:Nat):Int):=by rw [rangeSize_one];split <;> omega
 refine call_list_range (s:={ s1 with heap:=s1.heap.push { cls:=.type "range",data:=.fields #[.int 0 s1.toks,.int j t,.int 1 (s1.toks+1)] },toks:=s1.toks+1+1 }) (r.ok.hd K) z (small_one (by omega) (by omega) (by omega) (by omega)) hn (by omega) fun E G m c kp C items=>?_
 have B:∀ b o,s1.heap.get? b=some o->E.get? b=some o:=fun b o e=>kp b o (aI7 _ e)
 have f:s1.heap.objs.size<=(s1.heap.push { cls:=.type "range",data:=.fields #[.int 0 s1.toks,.int j t,.int 1 (s1.toks+1)] }).objs.size:=by rw [aJ5];exact Nat.le_succ _
 refine ⟨.ref _,_,r.laid (t':=G) (o:=.lst ((List.range j.toNat).map fun (i:Nat)=>V.int (i:Int))) B f ?_,rfl,q _ (r.hok.fresh f)⟩
 refine ⟨by rw [aA3,aD8];exact aG1 (VL.big (by omega)),m.toList,c,?_,by simpa using C⟩
 obtain ⟨F,p⟩:=items
 refine ai3 (by simp [F]) fun i v u n A=>?_
 have l:m[i]?=some u:=by simpa using A
 obtain ⟨t',D⟩:=p i u l
 rw [aA5] at n
 have hi:i < j.toNat:=by
  have:=(Array.getElem?_eq_some_iff.mp l).1
  omega
 rw [aA0 (by simpa using hi)] at n
 simp at n
 subst n
 exact ⟨t',by rw [D];simp⟩
end
section
variable {X:Cx} {pins:List (Addr × Obj)} {σ:St} {H:Hp} {s:Shared}
end
theorem KT.get {H:Hp}:∀ {kvs:List (List Key × V)} {xs:List (List Key × Addr × Value)} {i:Nat} {p:List Key × V},KT H kvs xs->kvs[i]?=some p->∃ q,xs[i]?=some q/\p.1=q.1/\H q.2.1=some (.tup (p.1.map kV))
 | _,_,_,_,.nil,e=>by simp at e
 | _,_,0,_,.cons r _,e=>by simp at e;subst e;exact ⟨_,rfl,r.1,r.2.1⟩
 | _,_,i+1,p,.cons _ t,e=>by
  obtain ⟨q,b,a⟩:=KT.get (i:=i) (p:=p) t (by simpa using e)
  exact ⟨q,by simpa using b,a⟩
section
variable {X:Cx} {tg:Expr}
def agx:List V->Hp->VK->Prop:=fun xs H Q=>∃ (a:Addr) (kvs:List (List Key × V)) (kss:List (List Int)),xs=[.ref a]/\H a=some (.dT kvs)/\kvs.map (·.1)=kss.map (fun ns=>ns.map Sum.inl)/\(∀ ns∈kss,ns ≠ []) /\
 ∀ (vs:List V) (p:Addr),(∀ v∈vs,TupI H v)->(vs.map (kH H)).Perm kss->vs.Pairwise (fun x y=>HT.lexLt (kH H y) (kH H x)=false)->H p=none->Q (.ref p) (upd H p (.lst vs))
theorem aoa {H:Hp}:∀ {kvs:List (List Key × V)} {xs:List (List Key × Addr × Value)} {a:List (List Int)},KT H kvs xs->kvs.map (·.1)=a.map (fun ns=>ns.map Sum.inl)->(∀ ns∈a,ns ≠ []) ->
  (∀ v∈xs.map (fun q=>V.ref q.2.1),TupI H v)/\(xs.map (fun q=>V.ref q.2.1)).map (kH H)=a
 | _,_,[],.nil,_,_=>⟨fun v b=>by simp at b,rfl⟩
 | _,_,_ :: _,.nil,h,_=>by simp at h
 | _,_,[],.cons _ _,h,_=>by simp at h
 | p :: kvs,q :: xs,ns :: a,.cons r t,h,hn=>by
  simp only [aD0,List.cons.injEq] at h
  obtain ⟨i1,d⟩:=aoa t h.2 fun c hm=>hn c (aB4 _ hm)
  have e:H q.2.1=some (.tup (ns.map V.int)):=by
   rw [r.2.1,h.1,aD7];rfl
  refine ⟨fun v b=>?_,?_⟩
  ·rcases aA8.mp b with rfl | b
   ·exact ⟨_,ns,rfl,e,hn ns aB7⟩
   ·exact i1 v b
  ·rw [aD0,aD0,akt e,d]
theorem aey (hc:X.calm=true):aa1 X (.builtin "sorted") agx:=by
 intro pins s σ H xs us Q I r h
 obtain ⟨a,kvs,a0,rfl,S,P,G,q⟩:=h
 obtain ⟨u,rfl,ru⟩:=ab6 r
 cases ru
 obtain ⟨z,y,ys,n,o,es,ep,h1,m,Y,N,h5⟩:=(show ObjOk X.prog X.w H s.heap a (.dT kvs) from I.hok a _ S)
 obtain ⟨t1,t2⟩:=aoa n P G
 have hz:es.size=ys.length:=by
  have Z:es.toList.length=ys.length:=by rw [N];simp
  simpa using Z
 have g:ys.length<=sizeLine:=by have:=Paired.length n;omega
 let c:List Value:=ys.map fun q => .ref q.2.1
 have M:Vals (ys.map fun q=>V.ref q.2.1) c:=ai3 (by simp [c]) fun i v u d A=>by
  rw [aA5] at d A
  cases e:ys[i]? with
  | none=>rw [e] at d;cases d
  | some q=>rw [e] at d A;cases d;cases A;rfl
 obtain ⟨C,L⟩:=af6 M t1
 have fin:∀ out:List Value,out.Perm c->(out.map adb).Pairwise (fun x y=>HT.lexLt (kH H y) (kH H x)=false)->∀ p m f e,(∀ b o,s.heap.get? b=some o->m.get? b=some o)->s.heap.objs.size<=p->m.get? p=some (seqObj "list" out.toArray e)->EP X pins σ Q (.ref p) { s with heap:=m,toks:=f }:=by
  intro out j D p m f e kp hsz he
  have d:Vals (out.map adb) out:=af5 fun u A=>C u (j.mem_iff.mp A)
  refine ⟨.ref p,_,I.laid (t':=f) (o:=.lst (out.map adb)) kp hsz ?_,rfl,q _ _ (fun v F=>?_) ?_ D (I.hok.fresh hsz)⟩
  ·refine ⟨by rw [aA3,j.length_eq];simp [c];exact g,out,e,d,by rw [he]⟩
  ·have:=(j.map adb).mem_iff.mp F
   rw [L] at this;exact t1 v this
  ·have:=(j.map adb).map (kH H)
   rw [L,t2] at this;exact this
 refine TS.sorted_gen (Ok:=fun vs=>vs=c) (fun Qc J=>DI.collect_src (DI.src a es ep y) (I.ok.hd hc) ⟨o,h1,m,Y⟩ (by omega) fun h' f l kp hsz items=>J _ h' f kp hsz ?_) (fun vs e=>by subst e;simp [c];exact g) (fun vs e a1 h' f kp=>?_) fun vs e E=>?_
 ·obtain ⟨i1,i2⟩:=items
  apply aF8
  intro i
  simp only [c,aA5]
  by_cases hi:i < ys.length
  ·have ha:l[i]?=some l[i]:=aA4 (by omega)
   have:(es[i]?).map (·.key)=some l[i]:=i2 i _ ha
   have O:es[i]?=some es[i]:=aA4 (by omega)
   rw [O] at this
   have K:es.toList[i]?=some es[i]:=by rw [aD3];exact O
   rw [N,aA5,aA0 hi] at K
   rw [aA0 hi]
   simp at this K
   rw [aD3,ha,← this,← K];rfl
  ·rw [aF3.mpr (by simp;omega),aF3.mpr (by omega)];rfl
 ·subst e
  obtain ⟨⟨fs,k1,k2,k3⟩,k4⟩:=ahe I kp M t1
  have B:(Value.type "int" != Value.type "tuple")=true:=by rfl
  refine ⟨tuples' true,TS.tS h' (fun a=>kH H (.ref a)),TS.tR (fun a=>kH H (.ref a)),fun Q' J=>?_,TS.cmp_tups (s:={ s with heap:=h',toks:=f }) (fun a=>kH H (.ref a)),fun v d=>?_,fun out j D=>fin out j ?_⟩
  ·refine PySem.W.kat_kind (T:=.type "int") (s:={ s with heap:=h',toks:=f }) k1 (by omega) (fun v d=>?_) (by rfl) ?_
   ·obtain ⟨i,t,rfl⟩:=k3 v d
    exact .now
   ·rw [B];exact J
  ·obtain ⟨a,e,ht⟩:=k4 v d
   exact ⟨rfl,a,e,ht⟩
  ·rw [aF7]
   refine aH6 ?_ D
   intro x y U R hr
   obtain ⟨ax,rfl⟩:=C x (j.mem_iff.mp U)
   obtain ⟨ay,rfl⟩:=C y (j.mem_iff.mp R)
   exact hr
 ·subst e
  exact fin c (List.Perm.refl _) (al5 (by rw [aA3];exact E))
end
end L2
namespace VL
open PySem PySem.Spec L2
section
variable {B:Bs} {env:En} {QI:List PyData->En->Prop} {QO:Sl->En->Prop} {Q':PyData->En->Prop} {K:Frag} {i:Nat} {ta:TA}
theorem RpT.len {G:Hp}:∀ {kvs:List (List Key × V)} {es:List (List Key × PyData)},RpT G kvs es->kvs.length=es.length/\kvs.map (·.1)=es.map (·.1)
 | _,_,.nil=>⟨rfl,rfl⟩
 | _,_,.cons _ t=>by
  obtain ⟨b,a⟩:=RpT.len t
  exact ⟨by simp [b],by simp [a]⟩
@[reducible] def tkD (ks:List Key):PyData:=.tuple (ks.map kD)
@[reducible] def tiD (ns:List Int):PyData:=.tuple (ns.map .int)
def lexS (pss:List (List Int)):Prop:=pss.Pairwise fun x y=>HT.lexLt y x=false
theorem ahj {G H:Hp} (ft:FT G H):∀ {vs:List V},(∀ v∈vs,TupI H v)->Rps G vs ((vs.map (kH H)).map tiD)
 | [],_ => .nil
 | v :: vs,h=>by
  obtain ⟨t,ns,rfl,e,_⟩:=h v aB7
  rw [aD0,aD0,akt e]
  have:(ns.map V.int)=(ns.map (fun i=>(Sum.inl i:Key))).map kV:=by rw [aD7];rfl
  refine .cons (.tup ?_ (Rps.ints ns)) (ahj ft fun u a=>h u (aB4 _ a))
  rw [this];exact ft t _ (by rw [← this];exact e)
theorem ag8 {G H:Hp} (gh:Same G H):∀ {vs:List V} {pss:List (List Int)},Rps G vs (pss.map tiD)->(∀ ns∈pss,ns ≠ [])->(∀ v∈vs,TupI H v)/\vs.map (kH H)=pss
 | _,[],.nil,_=>⟨fun v d=>by simp at d,rfl⟩
 | v :: vs,ns :: pss,.cons r t,hn=>by
  obtain ⟨i1,c⟩:=ag8 gh t fun b hm=>hn b (aB4 _ hm)
  cases r with
  | tup h rs =>
   have:=Rps.ints_inv rs
   subst this
   have e:=gh _ _ h
   refine ⟨fun u a=>?_,by rw [aD0,akt e,c]⟩
   rcases aA8.mp a with rfl | a
   ·exact ⟨_,ns,rfl,e,hn ns aB7⟩
   ·exact i1 u a
theorem arm {pss:List (List Int)} (hn:∀ ns∈pss,ns ≠ []) (h:EvA B ta env fun ds e=>ds=[.list (pss.map tiD)]/\∀ b:List (List Int),b.Perm pss->lexS b->QO (.own (OL (b.map tiD))) e):EvO B (tCB (ah4 K) ta) env QO:=fun σ G H F Q I k =>
 h σ G H F _ I fun vs z f j ds x c l w s=>by
  obtain ⟨y,m⟩:=s
  subst y
  cases w with
  | cons r t =>
   cases t
   cases r with
   | @lst a us _ ha rs =>
    obtain ⟨t1,i⟩:=ag8 c.gh rs hn
    refine ⟨a,us,rfl,SqL.of (c.gh _ _ ha),t1,fun g p d u hf=>?_⟩
    have q:∀ v∈g,TupI f v:=fun v n=>t1 v (d.mem_iff.mp n)
    have o:=Out.newL c.gh hf (ahj c.ft q)
    refine k _ _ _ j _ _ x (c.out o).1 (l.trans o.gg) (c.out o).2 (m _ ?_ ?_)
    ·have:=d.map (kH f);rw [i] at this;exact this
    ·unfold lexS;rw [aF7];exact u
theorem apo {es:List (List Key × PyData)} {b:List (List Int)} (h:Has env i (OT es)) (f:es.map (·.1)=b.map (fun ns=>ns.map Sum.inl)) (hn:∀ ns∈b,ns ≠ []) (q:∀ c:List (List Int),c.Perm b->lexS c->QO (.own (OL (c.map tiD))) env):EvO B (tCB agx (aba (tVar i) tNil)) env QO:=fun σ G H F Q I k=>by
 obtain ⟨v,j,a,kvs,rfl,ha,rt,hf⟩:=I.has h
 obtain ⟨s,g⟩:=RpT.len rt
 refine ⟨_,j,a,kvs,b,rfl,ha,by rw [g,f],hn,fun r p l n m d=>?_⟩
 have o:=Out.newL I.gh d (ahj I.ft l)
 refine k _ _ _ F _ _ env (I.out o).1 o.gg (I.out o).2 (q _ n ?_)
 unfold lexS;rw [aF7];exact m
end
section
variable {B:Bs} {env:En} {QO:Sl->En->Prop} {Q':PyData->En->Prop} {K:Frag} {i:Nat} {ta:TA} {R:Sl->Prop}
theorem Rps.bools_inv {G:Hp}:∀ {bs:List Bool} {vs:List V},Rps G vs (bs.map PyData.bool)->vs=bs.map V.bl
 | [],_,.nil=>rfl
 | b :: bs,_,.cons r t=>by
  cases r
  rw [Rps.bools_inv t];rfl
theorem ai4 {bs:List Bool} (h:R (.st (.bool (bs.all id)))):OpA (rAll K) [.list (bs.map .bool)] R:=fun G H vs Q gh rs k=>by
 cases rs with
 | cons r t =>
  cases t
  cases r with
  | lst ha ra =>
   have:=Rps.bools_inv ra
   subst this
   exact ⟨_,bs,rfl,SqL.of (gh _ _ ha),k _ _ _ _ _ (Out.refl gh (.bl _)) h⟩
theorem awj {bs:List Bool} (h:R (.st (.bool (bs.any id)))):OpA (rAny K) [.list (bs.map .bool)] R:=fun G H vs Q gh rs k=>by
 cases rs with
 | cons r t =>
  cases t
  cases r with
  | lst ha ra =>
   have:=Rps.bools_inv ra
   subst this
   exact ⟨_,bs,rfl,SqL.of (gh _ _ ha),k _ _ _ _ _ (Out.refl gh (.bl _)) h⟩
theorem att {ds:List PyData} (h:R (.own (OL ds))):OpA (aia K) [.list ds] R:=fun G H vs Q gh rs k=>by
 cases rs with
 | cons r t =>
  cases t
  cases r with
  | lst ha ra=>exact ⟨_,_,rfl,.inl (SqL.of (gh _ _ ha)),fun p a=>k _ _ _ _ _ (Out.newL gh a ra) h⟩
theorem arn {G:Hp} (n:Nat):Rps G ((List.range n).map fun (i:Nat)=>V.int (i:Int)) (rngD 0 n):=by
 unfold rngD
 refine amd (by simp) fun i v d a hd=>?_
 rw [aA5] at a hd
 cases e:(List.range n)[i]? with
 | none=>rw [e] at a;cases a
 | some m=>rw [e] at a hd;cases a;cases hd;show Rp G (.int (m:Int)) (.int (0+(m:Int)));rw [aI2];exact .int _
theorem ajv (h:EvA B ta env fun ds e=>∃ j:Int,ds=[.int j]/\0<=j/\j<=1000000/\QO (.own (OL (rngD 0 j.toNat))) e):EvO B (aic ta) env QO:=fun σ G H F Q I k =>
 h σ G H F _ I fun vs r s b ds m a d l g=>by
  obtain ⟨j,n,q,c,f⟩:=g
  subst n
  obtain rfl:vs=[V.int j]:=Rps.ints_inv (ns:=[j]) l
  refine ⟨j,rfl,q,c,fun p i=>?_⟩
  have o:=Out.newL a.gh i (arn j.toNat)
  exact k _ _ _ b _ _ m (a.out o).1 (d.trans o.gg) (a.out o).2 f
theorem atu (h:EvA B ta env fun ds e=>∃ j:Int,ds=[.int j]/\0<=j/\j<=1000000/\Q' (.list (rngD 0 j.toNat)) e):Ev B (aic ta) env Q':=abv (ajv fun σ G H F Q I k=>h σ G H F Q I fun vs G' H' F' ds f d g r ⟨j,a,b,c,q⟩=>k vs G' H' F' ds f d g r ⟨j,a,b,c,adc q⟩)
end
section
variable {κ:Type} [DecidableEq κ] {α:Type}
def valD (es:List (κ × α)) (k : κ):Option α:=(es.find? fun e=>decide (e.1=k)).map (·.2)
def putD (es:List (κ × α)) (k : κ) (d : α):List (κ × α):=if (es.any fun e=>decide (e.1=k))=true then es.map (fun e=>if e.1=k then (e.1,d) else e) else es ++ [(k,d)]
end
theorem RpK.val {G:Hp} {k:Key}:∀ {kvs:List (Key × V)} {es:List (Key × PyData)},RpK G kvs es->(valD es k=none->valV kvs k=none)/\∀ d,valD es k=some d->∃ v,valV kvs k=some v/\Rp G v d
 | _,_,.nil=>⟨fun _=>rfl,fun d h=>by cases h⟩
 | _,_,.cons (k:=k') r t=>by
  obtain ⟨i1,c⟩:=RpK.val (k:=k) t
  by_cases e:k'=k
  ·refine ⟨fun h=>by simp [valD,e] at h,fun d h=>?_⟩
   simp [valD,e] at h
   subst h
   exact ⟨_,by simp [valV,e],r⟩
  ·refine ⟨fun h=>?_,fun d h=>?_⟩
   ·simp [valV,e];simp [valD,e] at h
    have:=i1 (by simp [valD];exact h)
    simpa [valV] using this
   ·obtain ⟨v,b,a⟩:=c d (by simpa [valD,e] using h)
    exact ⟨v,by simpa [valV,e] using b,a⟩
theorem RpK.any {G:Hp} {k:Key}:∀ {kvs:List (Key × V)} {es:List (Key × PyData)},RpK G kvs es->(kvs.any fun e=>decide (e.1=k))=es.any fun e=>decide (e.1=k)
 | _,_,.nil=>rfl
 | _,_,.cons r t=>by simp [RpK.any t]
theorem RpK.map {G:Hp} {k:Key} {v:V} {d:PyData} (h:Rp G v d):∀ {kvs:List (Key × V)} {es:List (Key × PyData)},RpK G kvs es->RpK G (kvs.map fun e=>if e.1=k then (e.1,v) else e) (es.map fun e=>if e.1=k then (e.1,d) else e)
 | _,_,.nil => .nil
 | _,_,.cons (k:=k') r t=>by
  by_cases e:k'=k
  ·simp only [aD0,e,if_true];exact .cons h (RpK.map h t)
  ·simp only [aD0,e,if_false];exact .cons r (RpK.map h t)
theorem RpK.append {G:Hp}:∀ {a b:List (Key × V)} {c d:List (Key × PyData)},RpK G a c->RpK G b d->RpK G (a ++ b) (c ++ d)
 | _,_,_,_,.nil,s=>s
 | _,_,_,_,.cons r t,s => .cons r (RpK.append t s)
theorem RpK.put {G:Hp} {k:Key} {v:V} {d:PyData} (h:Rp G v d) {kvs:List (Key × V)} {es:List (Key × PyData)} (r:RpK G kvs es):RpK G (putK kvs k v) (putD es k d):=by
 unfold putK putD
 rw [r.any]
 split
 ·exact r.map h
 ·exact r.append (.cons h .nil)
theorem RpT.any {G:Hp} {k:List Key}:∀ {kvs:List (List Key × V)} {es:List (List Key × PyData)},RpT G kvs es->(kvs.any fun e=>decide (e.1=k))=es.any fun e=>decide (e.1=k)
 | _,_,.nil=>rfl
 | _,_,.cons r t=>by simp [RpT.any t]
theorem RpT.map {G:Hp} {k:List Key} {v:V} {d:PyData} (h:Rp G v d):∀ {kvs:List (List Key × V)} {es:List (List Key × PyData)},RpT G kvs es->RpT G (kvs.map fun e=>if e.1=k then (e.1,v) else e) (es.map fun e=>if e.1=k then (e.1,d) else e)
 | _,_,.nil => .nil
 | _,_,.cons (k:=k') r t=>by
  by_cases e:k'=k
  ·simp only [aD0,e,if_true];exact .cons h (RpT.map h t)
  ·simp only [aD0,e,if_false];exact .cons r (RpT.map h t)
theorem RpT.append {G:Hp}:∀ {a b:List (List Key × V)} {c d:List (List Key × PyData)},RpT G a c->RpT G b d->RpT G (a ++ b) (c ++ d)
 | _,_,_,_,.nil,s=>s
 | _,_,_,_,.cons r t,s => .cons r (RpT.append t s)
theorem RpT.put {G:Hp} {k:List Key} {v:V} {d:PyData} (h:Rp G v d) {kvs:List (List Key × V)} {es:List (List Key × PyData)} (r:RpT G kvs es):RpT G (putK kvs k v) (putD es k d):=by
 unfold putK putD
 rw [r.any]
 split
 ·exact r.map h
 ·exact r.append (.cons h .nil)
theorem RpK.length {G:Hp}:∀ {kvs:List (Key × V)} {es:List (Key × PyData)},RpK G kvs es->kvs.length=es.length
 | _,_,.nil=>rfl
 | _,_,.cons _ t=>by simp [RpK.length t]
theorem aid {G:Hp} {v:V} {k:Key} (r:Rp G v (kD k)):v=kV k:=by
 cases k with
 | inl i=>cases r;rfl
 | inr x=>cases r;rfl
theorem amg {G:Hp}:∀ {a:List Key} {vs:List V},Rps G vs (a.map kD)->vs=a.map kV
 | [],_,.nil=>rfl
 | k :: a,_,.cons r t=>by rw [aid r,amg t];rfl
section
variable {B:Bs} {env:En} {QO:Sl->En->Prop} {Q':PyData->En->Prop} {D':VEnds} {i:Nat} {te ty tv td:TE}
theorem aro (q:QO (.own (OT [])) env):EvO B ale env QO:=fun σ G H F Q I k p a=>by
 have o:=Out.newDT (ds:=[]) I.gh a .nil
 exact k _ _ _ F _ _ env (I.out o).1 o.gg (I.out o).2 q
theorem arp {es0:List (List Key × PyData)} (h:Ev B tv env fun d q=>Has q i (OT es0)/\Ev B ty q fun y o=>∃ es j,o[i]?=some (some (.own (OT es)))/\y=tkD j/\es.length<=999999/\D'.nx (o.set i (some (.own (OT (putD es j d)))))):EvS B (ahv (tVar i) ty tv) D' env:=fun σ G H F D I r =>
 h σ G H F _ I fun v z P x d q s A O K=>by
  obtain ⟨J,E⟩:=K
  obtain ⟨v0,n,a,kvs,rfl,ha,rt,_⟩:=s.has J
  refine ⟨_,n,E σ z P x _ s fun S M H2 F2 y o l u N ⟨es,j,c,C,Q,L⟩=>?_⟩
  subst C
  obtain ⟨R,g,⟨T,w,m,p,f,hf⟩,hb⟩:=l.sl i _ c
  rw [n] at g;cases g;cases m
  cases N with
  | tup hk rs =>
   have:=amg rs
   subst this
   refine ⟨a,_,rfl,DPut.t p (l.gh _ _ hk) (by rw [(RpT.len f).1];exact big (by omega)),?_⟩
   exact r.nx σ M _ _ _ (l.upd1 (A':=OT (putD es j d)) c (.inl rfl) n hf ⟨a,_,rfl,aaf,f.put (O.same u),fun b=>Iff.rfl⟩) (A.trans u) L
theorem arq {es0:List (Key × PyData)} (h:Ev B tv env fun d o=>Has o i (OD es0)/\Ev B ty o fun y m=>∃ es k,m[i]?=some (some (.own (OD es)))/\y=kD k/\es.length<=999999/\D'.nx (m.set i (some (.own (OD (putD es k d)))))):EvS B (ahv (tVar i) ty tv) D' env:=fun σ G H F D I r =>
 h σ G H F _ I fun v z P x d o p A O K=>by
  obtain ⟨J,E⟩:=K
  obtain ⟨v0,l,a,kvs,rfl,ha,rt,_⟩:=p.has J
  refine ⟨_,l,E σ z P x _ p fun S M H2 F2 y m q s N ⟨es,w,c,C,Q,L⟩=>?_⟩
  subst C
  obtain ⟨R,g,⟨T,u,j,n,f,hf⟩,hb⟩:=q.sl i _ c
  rw [l] at g;cases g;cases j
  have:=aid N
  subst this
  refine ⟨a,_,rfl,DPut.k n (by rw [f.length];exact big (by omega)),?_⟩
  exact r.nx σ M _ _ _ (q.upd1 (A':=OD (putD es w d)) c (.inl rfl) l hf ⟨a,_,rfl,aaf,f.put (O.same s),fun b=>Iff.rfl⟩) (A.trans s) L
theorem apq {es0:List (Key × PyData)} (h:Ev B ty env fun y b=>∃ es k,Has b i (OD es)/\y=kD k/\Q' (.bool (!(valD es k).isSome)) b):Ev B (ae2 ty (tVar i)) env Q':=fun σ G H F Q I k =>
 h σ G H F _ I fun u p H2 F2 y b f m r o=>by
  obtain ⟨es,c,g,l,q⟩:=o
  subst l
  obtain ⟨v,n,a,kvs,rfl,ha,rt,_⟩:=f.has g
  have:=aid r
  subst this
  refine ⟨_,n,a,_,rfl,DGet.k ha,?_⟩
  have e:(valV kvs c).isSome=(valD es c).isSome:=by
   obtain ⟨i1,s⟩:=rt.val (k:=c)
   cases hd:valD es c with
   | none=>rw [i1 hd];rfl
   | some d=>obtain ⟨v,j,_⟩:=s d hd;rw [j];rfl
  rw [e]
  exact k _ p H2 F2 _ b f m (.bl _) q
end
section
variable {B:Bs} {env:En} {QO:Sl->En->Prop} {Q':PyData->En->Prop} {QE:En->Prop} {D':VEnds} {K:Frag} {i:Nat} {ta:TA}
theorem awk {j:Int} {R:Int->Prop} (a:0<=j) (b:j<=1000000) (h:R j):∃ i:Int,[PyData.int j]=[.int i]/\0<=i/\i<=1000000/\R i:=⟨j,rfl,a,b,h⟩
theorem x_dT {es:List (List Key × PyData)} {a b:Int} {c:En} {R:List (List Key × PyData)->List Key->Prop} (e:c[i]?=some (some (.own (OT es)))) (f:es.length<=999999) (q:R es [.inl a,.inl b]):∃ es d,c[i]?=some (some (.own (OT es)))/\PyData.tuple [.int a,.int b]=tkD d/\es.length<=999999/\R es d:=⟨es,_,e,rfl,f,q⟩
theorem x_dK {es:List (Key × PyData)} {a:Int} {b:En} {R:List (Key × PyData)->Key->Prop} (e:b[i]?=some (some (.own (OD es)))) (c:es.length<=999999) (q:R es (.inl a)):∃ es k,b[i]?=some (some (.own (OD es)))/\PyData.int a=kD k/\es.length<=999999/\R es k:=⟨es,_,e,rfl,c,q⟩
theorem x_dN {es:List (Key × PyData)} {a:Int} {b:En} {R:List (Key × PyData)->Key->Prop} (e:Has b i (OD es)) (q:R es (.inl a)):∃ es k,Has b i (OD es)/\PyData.int a=kD k/\R es k:=⟨es,_,e,rfl,q⟩
end
def ltP (p q:Int × Int):Prop:=p.1 < q.1\/(p.1=q.1/\p.2 < q.2)
@[reducible] def p2 (p:Int × Int):List Int:=[p.1,p.2]
theorem aie {a:List (List Int)} {ps:List (Int × Int)} (h:a.Perm (ps.map p2)):∃ qs:List (Int × Int),a=qs.map p2/\qs.Perm ps:=by
 refine ⟨a.map fun l=>(l.getD 0 0,l.getD 1 0),?_,?_⟩
 ·rw [aD7]
  symm
  conv=>rhs;rw [← List.map_id a]
  apply aE5
  intro l b
  obtain ⟨p,_,rfl⟩:=aB6.mp (h.mem_iff.mp b)
  rfl
 ·have:=h.map fun l=>(l.getD 0 0,l.getD 1 0)
  rw [aD7] at this
  have e:((fun l:List Int=>(l.getD 0 0,l.getD 1 0)) ∘ p2)=id:=by funext p;rfl
  rw [e,List.map_id] at this
  exact this
def Rise (es:List (Int × Int)):Prop:=es.Pairwise ltP
theorem agy (p:Int × Int):¬ ltP p p:=by unfold ltP;omega
theorem ay1 {p q r:Int × Int} (h:ltP p q) (g:ltP q r):ltP p r:=by unfold ltP at *;omega
theorem Rise.nodup {es:List (Int × Int)} (h:Rise es):es.Nodup:=h.imp fun {p q} z (e:p=q)=>agy q (by rw [e] at z;exact z)
theorem Rise.eq:∀ {as bs:List (Int × Int)},Rise as->Rise bs->(∀ p,p∈as ↔ p∈bs)->as=bs
 | [],[],_,_,_=>rfl
 | [],b :: _,_,_,h=>by have:=(h b).mpr aB7;simp at this
 | a :: _,[],_,_,h=>by have:=(h a).mp aB7;simp at this
 | a :: as,b :: bs,ha,hb,h=>by
  obtain ⟨d,f⟩:=List.pairwise_cons.mp ha
  obtain ⟨c,i⟩:=List.pairwise_cons.mp hb
  have e:a=b:=by
   rcases aA8.mp ((h a).mp aB7) with e | e
   ·exact e
   ·rcases aA8.mp ((h b).mpr aB7) with j | j
    ·exact j.symm
    ·exact absurd (ay1 (d b j) (c a e)) (agy a)
  subst e
  have:=Rise.eq f i fun p=>by
   have g:=h p
   simp only [aA8] at g
   constructor
   ·intro m
    rcases g.mp (.inr m) with e | e
    ·subst e;exact absurd (d p m) (agy p)
    ·exact e
   ·intro m
    rcases g.mpr (.inr m) with e | e
    ·subst e;exact absurd (c p m) (agy p)
    ·exact e
  rw [this]
structure WebOk (n:Int) (es:List (Int × Int)):Prop where
 lo:1<=n
 hi:n<=60
 inn:∀ p∈es,0<=p.1/\p.1 < p.2/\p.2 < n
 rise:Rise es
theorem WebOk.in {n:Int} {es:List (Int × Int)} (h:WebOk n es):InN n es:=fun p a=>by
 have:=h.inn p a;omega
theorem ajw {n:Nat} {es:List (Int × Int)} (hn:es.Nodup) (hi:∀ p∈es,0<=p.1/\p.1 < (n:Int)/\0<=p.2/\p.2 < (n:Int)):es.length<=n * n:=by
 have h:(es.map fun (p:Int × Int)=>p.1 * (n:Int)+p.2).Nodup:=by
  unfold List.Nodup
  rw [aF7]
  refine aH6 ?_ hn
  intro p q d g c e
  have a:=hi p d
  have b:=hi q g
  apply c
  have f:p.1=q.1:=by
   rcases Int.lt_trichotomy p.1 q.1 with z | z | z
   ·have:(p.1+1) * n<=q.1 * n:=Int.mul_le_mul_of_nonneg_right (by omega) (by omega)
    rw [Int.add_mul] at this;omega
   ·exact z
   ·have:(q.1+1) * n<=p.1 * n:=Int.mul_le_mul_of_nonneg_right (by omega) (by omega)
    rw [Int.add_mul] at this;omega
  rw [f] at e
  exact Prod.ext f (by omega)
 have:=L2.few_places (n * n) _ h fun v i=>by
  obtain ⟨p,d,rfl⟩:=aB6.mp i
  have a:=hi p d
  have l:0<=p.1 * (n:Int):=Int.mul_nonneg a.1 (by omega)
  have j:(p.1+1) * (n:Int)<=n * n:=Int.mul_le_mul_of_nonneg_right (by omega) (by omega)
  rw [Int.add_mul] at j
  push_cast
  omega
 simpa using this
theorem WebOk.len {n:Int} {es:List (Int × Int)} (h:WebOk n es):es.length<=3600:=by
 have:=ajw (n:=n.toNat) h.rise.nodup fun p b=>by have:=h.inn p b;have:=h.lo;omega
 have a:n.toNat<=60:=by have:=h.hi;omega
 exact aC9 this (Nat.mul_le_mul a a)
def kE (ps:List (Int × Int)):List (List Key × PyData):=ps.map fun p=>([Sum.inl p.1,Sum.inl p.2],.bool true)
def addP (ps:List (Int × Int)) (p:Int × Int):List (Int × Int):=if p∈ps then ps else ps ++ [p]
theorem adz {ps:List (Int × Int)}:(kE ps).length=ps.length:=by simp [kE]
theorem af9 (ps:List (Int × Int)) (a b:Int):putD (kE ps) [Sum.inl a,Sum.inl b] (.bool true)=kE (addP ps (a,b)):=by
 have c:((kE ps).any fun e=>decide (e.1=[Sum.inl a,Sum.inl b]))=decide ((a,b)∈ps):=by
  rw [aH4,aE9,decide_eq_true_iff]
  constructor
  ·rintro ⟨e,f,h⟩
   obtain ⟨p,d,rfl⟩:=aB6.mp f
   simp at h
   obtain ⟨g,p2⟩:=p
   simp at h
   rw [← h.1,← h.2];exact d
  ·intro h
   exact ⟨_,aB6.mpr ⟨(a,b),h,rfl⟩,by simp⟩
 unfold putD
 rw [c]
 unfold addP
 by_cases h:(a,b)∈ps
 ·rw [aF1 (by simpa using h),aF1 h]
  unfold kE
  rw [aD7]
  apply aE5
  intro p _
  simp only [Function.comp]
  split <;> rfl
 ·rw [aF2 (by simpa using h),aF2 h]
  simp [kE]
theorem addP_mem {ps:List (Int × Int)} {p q:Int × Int}:q∈addP ps p ↔ q∈ps\/q=p:=by
 unfold addP
 split
 ·rename_i h
  exact ⟨.inl,fun z=>z.elim id fun e=>e ▸ h⟩
 ·simp
theorem apr {ps:List (Int × Int)} {p:Int × Int} (h:ps.Nodup):(addP ps p).Nodup:=by
 unfold addP
 split
 ·exact h
 ·rename_i hn
  rw [aE4]
  exact ⟨h,by simp,fun x b y a=>by simp at a;subst a;rintro rfl;exact hn b⟩
theorem aeg {ps:List (Int × Int)} {p:Int × Int}:(addP ps p).length<=ps.length+1:=by
 unfold addP;split <;> simp
theorem awl (ps:List (Int × Int)):(kE ps).map (·.1)=(ps.map p2).map (fun ns=>ns.map Sum.inl):=by
 unfold kE;rw [aD7,aD7];rfl
theorem ay2:([]:List (List Key × PyData))=kE []:=rfl
theorem amh (ps:List (Int × Int)):(ps.map p2).map tiD=ps.map prD:=by rw [aD7];rfl
theorem aur {ps:List (Int × Int)}:∀ ns∈ps.map p2,ns ≠ []:=fun ns h=>by
 obtain ⟨p,_,rfl⟩:=aB6.mp h
 simp
section
variable {B:Bs} {env:En} {QO:Sl->En->Prop} {K:Frag} {i:Nat} {ta:TA}
theorem ars {ps:List (Int × Int)} (h:EvA B ta env fun ds e=>ds=[.list (ps.map prD)]/\∀ qs:List (Int × Int),qs.Perm ps->lexS (qs.map p2)->QO (.own (OL (qs.map prD))) e):EvO B (tCB (ah4 K) ta) env QO :=
 arm (pss:=ps.map p2) aur fun σ G H F Q I k=>h σ G H F Q I fun vs G' H' F' ds e a g r ⟨c,q⟩=>k vs G' H' F' ds e a g r ⟨by rw [amh];exact c,fun i f d=>by
  obtain ⟨qs,rfl,b⟩:=aie f
  rw [amh];exact q qs b d⟩
theorem afm {ps:List (Int × Int)} (c:Has env i (OT (kE ps))) (q:∀ qs:List (Int × Int),qs.Perm ps->lexS (qs.map p2)->QO (.own (OL (qs.map prD))) env):EvO B (tCB agx (aba (tVar i) tNil)) env QO :=
 apo c (awl ps) aur fun d a f=>by
  obtain ⟨qs,rfl,b⟩:=aie a
  rw [amh];exact q qs b f
end
section
variable {B:Bs} {env:En} {QO:Sl->En->Prop} {Q':PyData->En->Prop} {K:Frag} {i j:Nat} {ta te:TE}
end
section
variable {B:Bs} {env:En} {Q':PyData->En->Prop} {D':VEnds} {i:Nat} {ty tv:TE}
theorem aps {a:List (List Key × PyData)} (g:env[i]?=some (some (.own (OT a)))) (h:Ev B tv env fun d b=>Has b i (OT a)/\Ev B ty b fun y c=>∃ es f,c[i]?=some (some (.own (OT es)))/\y=tkD f/\es.length<=999999/\D'.nx (c.set i (some (.own (OT (putD es f d)))))):EvS B (ahv (tVar i) ty tv) D' env:=arp h
theorem apt {a:List (Key × PyData)} (f:env[i]?=some (some (.own (OD a)))) (h:Ev B tv env fun d b=>Has b i (OD a)/\Ev B ty b fun y c=>∃ es k,c[i]?=some (some (.own (OD es)))/\y=kD k/\es.length<=999999/\D'.nx (c.set i (some (.own (OD (putD es k d)))))):EvS B (ahv (tVar i) ty tv) D' env:=arq h
theorem am9 {a:List (Key × PyData)} (c:Has env i (OD a)) (h:Ev B ty env fun y b=>∃ es k,Has b i (OD es)/\y=kD k/\Q' (.bool (!(valD es k).isSome)) b):Ev B (ae2 ty (tVar i)) env Q':=apq (es0:=[]) h
end
section
variable {R:Sl->Prop} {K:Frag}
end
theorem apu (ps:List (Int × Int)):plainDs (ps.map prD)=true:=by
 rw [aco]
 intro d hd
 obtain ⟨p,_,rfl⟩:=aB6.mp hd
 rfl
theorem adq {ds:List PyData} {m:Nat} (h:∀ d∈ds,d.depth<=m):PyData.depthAll ds<=m:=by
 induction ds with
 | nil=>simp [PyData.depthAll]
 | cons d ds ih =>
  simp only [PyData.depthAll]
  exact Nat.max_le.mpr ⟨h d aB7,ih fun e a=>h e (aB4 _ a)⟩
theorem art (p:Int × Int):(prD p).depth<=1:=by simp [prD,PyData.depth,PyData.depthAll]
theorem ahk {d:PyData} (h:aas d=true):PyData.eqv d d=true:=(ajn d d h h).mpr rfl
end VL
namespace VL
end VL
namespace VL
open PySem PySem.Spec L2
section
variable {B:Bs} {env:En} {Q':PyData->En->Prop} {K:Frag} {E:XK} {i:Nat}
end
end VL
namespace VL
open PySem L2
theorem az0 {B:Bs} {t:TS} {D':VEnds} {e:En} (h:EvS B t D' e):EvS B t D' e:=h
theorem az1 {B:Bs} {g:TG} {s:Sl} {e:En} {Q:En->Prop} (h:EvG B g s e Q):EvG B g s e Q:=h
theorem ay3 {B:Bs} {g:TGs} {s:List PyData} {e:En} {Q:En->Prop} (h:EvGs B g s e Q):EvGs B g s e Q:=h
theorem g_Ev {B:Bs} {t:TE} {e:En} {Q:PyData->En->Prop} (h:Ev B t e Q):Ev B t e Q:=h
theorem az2 {B:Bs} {t:TE} {e:En} {Q:Sl->En->Prop} (h:EvO B t e Q):EvO B t e Q:=h
theorem az3 {B:Bs} {t:TT} {e:En} {Q:Bool->En->Prop} (h:EvT B t e Q):EvT B t e Q:=h
theorem az4 {B:Bs} {t:TA} {e:En} {Q:List PyData->En->Prop} (h:EvA B t e Q):EvA B t e Q:=h
theorem az5 {B:Bs} {t:TI} {e:En} {Q:List PyData->En->Prop} (h:EvI B t e Q):EvI B t e Q:=h
theorem az6 {r:R2} {x y:PyData} {R:Sl->Prop} (h:Op2 r x y R):Op2 r x y R:=h
theorem az7 {r:V->Hp->VK->Prop} {x:PyData} {R:Sl->Prop} (h:Op1 r x R):Op1 r x R:=h
theorem az8 {r:List V->Hp->VK->Prop} {x:List PyData} {R:Sl->Prop} (h:OpA r x R):OpA r x R:=h
theorem g_FQ {s:Sl} {R:PyData->Prop} (h:FQ s R):FQ s R:=h
theorem awm {ds:List PyData} {R:List PyData->Prop} (h:akw ds R):akw ds R:=h
theorem awn {ds:List PyData} {R:List PyData->Prop} (h:akx ds R):akx ds R:=h
structure PsOk (n:Int) (ps:List (Int × Int)):Prop where
 nd:ps.Nodup
 inn:∀ p∈ps,0<=p.1/\p.1 < p.2/\p.2 < n
theorem PsOk.nil (n:Int):PsOk n []:=⟨List.nodup_nil,fun p a=>by simp at a⟩
theorem PsOk.add {n a b:Int} {ps:List (Int × Int)} (h:PsOk n ps) (d:0<=a) (g:a < b) (f:b < n):PsOk n (addP ps (a,b)) :=
 ⟨apr h.nd,fun p c=>by
  rcases addP_mem.mp c with q | q
  ·exact h.inn p q
  ·subst q;exact ⟨d,g,f⟩⟩
theorem PsOk.len {n:Int} {ps:List (Int × Int)} (h:PsOk n ps) (hn:n<=100):ps.length<=10000:=by
 by_cases h0:0<=n
 ·have:=ajw (n:=n.toNat) h.nd fun p b=>by have:=h.inn p b;omega
  have a:n.toNat<=100:=by omega
  exact aC9 this (Nat.mul_le_mul a a)
 ·cases ps with
  | nil=>simp
  | cons p r=>have:=h.inn p aB7;omega
def Tr (n:Int) (ps:List (Int × Int)):Prop:=∀ k,1<=k->k < n->∃ h,0<=h/\h < k/\(h,k)∈ps
theorem Tr.add {n:Int} {ps:List (Int × Int)} {p:Int × Int} (h:Tr n ps):Tr n (addP ps p):=fun k d f=>by
 obtain ⟨x,a,b,c⟩:=h k d f
 exact ⟨x,a,b,addP_mem.mpr (.inl c)⟩
def Conn (n:Int) (T:Int->Int->Prop):Prop:=∀ u v,0<=u->u < n->0<=v->v < n->∃ k,Gr.Walk T u k v
theorem Joined.conn {n:Int} {es:List (Int × Int)} (h:Joined n es):Conn n (Tied es):=fun u v f a v0 c=>by
 obtain ⟨d,hd⟩:=h u f a
 obtain ⟨e,b⟩:=h v v0 c
 exact ⟨d+e,(hd.1.rev fun _ _ t=>t.symm).app b.1⟩
theorem Conn.mono {n:Int} {T a:Int->Int->Prop} (h:Conn n T) (g:∀ u v,T u v->a u v):Conn n a:=fun u v f b v0 d=>by
 obtain ⟨k,w⟩:=h u v f b v0 d
 exact ⟨k,w.rec .refl fun _ t c => .step c (g _ _ t)⟩
def Order (n:Int) (row:List Int):Prop:=row.Perm ((List.range n.toNat).map fun (i:Nat)=>(i:Int))
theorem Order.len {n:Int} {row:List Int} (h:Order n row):row.length=n.toNat:=by have:=h.length_eq;simpa using this
theorem Order.nodup {n:Int} {row:List Int} (h:Order n row):row.Nodup:=by
 refine h.nodup_iff.mpr ?_
 unfold List.Nodup
 rw [aF7]
 exact List.nodup_range.imp fun {a b} c e=>c (by omega)
theorem Order.mem {n:Int} {row:List Int} (h:Order n row) {v:Int}:v∈row ↔ 0<=v/\v < n:=by
 rw [h.mem_iff,aB6]
 constructor
 ·rintro ⟨i,hi,rfl⟩
  have:=aB8.mp hi
  omega
 ·rintro ⟨a,b⟩
  exact ⟨v.toNat,aB8.mpr (by omega),by omega⟩
theorem Order.get {n:Int} {row:List Int} (h:Order n row) {a:Int} (b:0<=a) (d:a < n):∃ x,row[a.toNat]?=some x/\atI row a=some x/\0<=x/\x < n:=by
 have c:a.toNat < row.length:=by rw [h.len];omega
 have e:row[a.toNat]?=some row[a.toNat]:=aA0 c
 have:=h.mem.mp (aA2 e)
 exact ⟨_,e,adp b e,this.1,this.2⟩
theorem Order.inj {n:Int} {row:List Int} (h:Order n row) {a b x:Int} (a0:0<=a) (b0:0<=b) (ha:row[a.toNat]?=some x) (hb:row[b.toNat]?=some x):a=b:=by
 obtain ⟨g,d⟩:=aA1.mp ha
 obtain ⟨c,f⟩:=aA1.mp hb
 have:=nodup_ix h.nodup g c (d.trans f.symm)
 omega
theorem Order.id (n:Int):Order n ((List.range n.toNat).map fun (i:Nat)=>(i:Int)):=List.Perm.refl _
def acr (row:List Int) (a:Int):Int:=row.getD a.toNat 0
theorem Order.at {n:Int} {row:List Int} (h:Order n row) {a:Int} (b:0<=a) (d:a < n):row[a.toNat]?=some (acr row a)/\0<=acr row a/\acr row a < n:=by
 obtain ⟨x,e,_,f,c⟩:=h.get b d
 have:acr row a=x:=by unfold acr;rw [aD2,e];rfl
 rw [this];exact ⟨e,f,c⟩
theorem Order.ne {n:Int} {row:List Int} (h:Order n row) {a b:Int} (a0:0<=a) (f:a < n) (b0:0<=b) (g:b < n) (c:a ≠ b):acr row a ≠ acr row b:=fun e=>by
 have d:=(h.at a0 f).1
 have i:=(h.at b0 g).1
 rw [e] at d
 exact c (h.inj a0 b0 d i)
theorem Tied.perm {qs ps:List (Int × Int)} (h:qs.Perm ps) {u v:Int}:Tied qs u v ↔ Tied ps u v:=by unfold Tied;rw [h.mem_iff,h.mem_iff]
theorem aif {α:Type}:∀ {l:List α} {k:Nat} {x : α},l[k]?=some x->(x :: l.eraseIdx k).Perm l
 | [],_,_,h=>by simp at h
 | a :: l,0,x,h=>by simp at h;subst h;exact List.Perm.refl _
 | a :: l,k+1,x,h=>by
  have b:=aif (l:=l) (k:=k) (x:=x) (by simpa using h)
  exact (List.Perm.swap a x _).trans (b.cons a)
theorem apv {n:Int} {row left:List Int} {k:Nat} {x:Int} (h:Order n (row ++ left)) (a:left[k]?=some x):Order n ((row ++ [x]) ++ left.eraseIdx k):=by
 refine List.Perm.trans ?_ h
 rw [aB3]
 refine List.Perm.append_left row ?_
 exact aif a
section
variable {B:Bs} {env:En} {g:TG} {tif:TT} {te:TE} {K:Frag} {src:List (Option Nat)} {ds:List PyData} {e1:En} {R:List PyData->En->Prop}
end
theorem awo (n:Nat):rngD 0 n=((List.range n).map fun (i:Nat)=>(i:Int)).map PyData.int:=by simp [rngD]
theorem atv {B:Bs} {t:TS} {D':VEnds} {env:En} (J:En->Prop) (h:EvS B t { D' with nx:=J } env) (k:∀ e,J e->D'.nx e):EvS B t D' env:=fun σ G H F D I r=>h σ G H F D I ⟨fun σ G' H F env a g q=>r.nx _ _ _ _ _ a g (k _ q),r.rt,r.bk,r.ct⟩
theorem acx {B:Bs} {g:TG} {A:Own} {d:PyData} {env:En} {b:En->Prop} (f:Frz A d) (h:EvG B g (.st d) env b):EvG B g (.own A) env b:=fun σ G H F v Fv Q I x k =>
 h σ _ H F v _ Q (I.freeze x.fb x.fd x.fg) (adx (f G H v Fv x.ok x.fg I.gh)) fun a G' H' F' i c g' q=>k a G' H' F' i c ((abm x.fg).trans g') q
end VL
namespace VL
open PySem PySem.Spec L2
def aeh (e:En):Prop:=∀ (j:Nat) (s:Sl),e[j]?=some (some s)->(∃ d,s=.st d)\/∃ ns:List Int,s=.scr ns
def Sls (K:Frag) (G:Hp) (σ:St) (e:En):Prop:=∀ (j:Nat) (s:Sl),e[j]?=some (some s)->∃ v,σ[j]?=some (some v)/\((∃ d,s=.st d/\Rp G v d)\/∃ (ns:List Int) (a:Addr),s=.scr ns/\v=.ref a/\SqL K G a (ns.map V.int))
theorem Sls.same {K:Frag} {G G':Hp} {σ:St} {e:En} (h:Sls K G σ e) (g:Same G G'):Sls K G' σ e:=fun j s es=>by
 obtain ⟨v,c,q⟩:=h j s es
 refine ⟨v,c,?_⟩
 rcases q with ⟨d,b,r⟩ | ⟨ns,a,b,f,r⟩
 ·exact .inl ⟨d,b,r.same g⟩
 ·exact .inr ⟨ns,a,b,f,g.seq r⟩
def bsC (K:Frag) (G H:Hp) (σ:St):Bs:=⟨K,G,H,H,σ,noF⟩
theorem ajx {K:Frag} {G H:Hp} {σ:St} {e:En} (gh:Same G H) (ft:FT G H) (ln : σ.length=e.length) (sl:Sls K G σ e):VI (bsC K G H σ) G H σ e noF:=by
 refine ⟨gh,Same.refl _,fun a o e => .inl e,Same.refl _,Same.refl _,fun a o e=>⟨o,e⟩,fun i a z=>z.elim,fun i a z=>z.elim,fun i j a z=>z.elim,fun i a z=>z.elim,fun i s es=>?_,ln,ft⟩
 obtain ⟨v,c,q⟩:=sl i s es
 refine ⟨v,c,?_⟩
 rcases q with ⟨d,b,r⟩ | ⟨ns,a,b,f,r⟩
 ·subst b;exact ⟨r,fun a z=>z⟩
 ·subst b;exact ⟨⟨a,f,r⟩,fun a z=>z⟩
theorem aig {B:Bs} {K:Frag} {G H:Hp} {σ:St} {e:En} {F:Nat->Addr->Prop} (I:VI B G H σ e F) (c:aeh e) (g:B.K=K:=by rfl):Sls K G σ e:=fun j s es=>by
 subst g
 obtain ⟨v,h,q⟩:=I.sl j s es
 refine ⟨v,h,?_⟩
 rcases c j s es with ⟨d,rfl⟩ | ⟨ns,rfl⟩
 ·exact .inl ⟨d,rfl,q.1⟩
 ·obtain ⟨⟨a,f,b⟩,_⟩:=q
  exact .inr ⟨ns,a,rfl,f,b⟩
def LcV2 (K:Frag) (src:List (Option Nat)) (g:TG) (tif:TT) (wi2:TI) (g2:TG) (tif2:TT) (te:TE) (ds:List PyData) (e1:En) (R:List PyData->Prop):Prop:=∃ J:Nat->List PyData->En->Prop,J 0 [] (aar src e1)/\(∀ i ys e,J i ys e->aeh e) /\
 (∀ i d ys e,ds[i]?=some d->J i ys e->∀ B':Bs,B'.K=K->EvG B' g (.st d) e fun e2=>EvT B' tif e2 fun b e3=>if b=true then EvI B' wi2 e3 fun ds2 e4=>∃ J2:Nat->List PyData->En->Prop,J2 0 ys e4/\(∀ j ys e,J2 j ys e->aeh e) /\
  (∀ j d2 ys2 e,ds2[j]?=some d2->J2 j ys2 e->∀ B2:Bs,B2.K=K->EvG B2 g2 (.st d2) e fun e5=>EvT B2 tif2 e5 fun b e6=>if b=true then Ev B2 te e6 fun y e7=>ys2.length<=999999/\J2 (j+1) (ys2 ++ [y]) e7 else J2 (j+1) ys2 e6)/\(∀ ys2 e,J2 ds2.length ys2 e->J (i+1) ys2 e) else J (i+1) ys e3)/\∀ ys e,J ds.length ys e->R ys
section
variable {B:Bs} {env:En}
theorem aob {src:List (Option Nat)} {wi:TI} {g:TG} {a5:TT} {a0:TI} {g2:TG} {N:TT} {te:TE} {QO:Sl->En->Prop} (h:EvI B wi env fun ds r=>LcV2 B.K src g a5 a0 g2 N te ds r fun ys=>QO (.own (OL ys)) r):EvO B (tLC2 src wi g a5 a0 g2 N te) env QO:=fun σ G H F Q I k=>by
 refine h σ G H F _ I fun J G1 H1 L ds r Y g1 it ⟨Jv,j0,jc,js,jd⟩ c l=>?_
 have fa:∀ j,¬ L j c:=Y.no_f l
 have hb:B.H c=none:=Y.no_b l
 -- between two turns
 let Wv:(List PyData->En->Prop)->List V->St->Hp->Prop:=fun J ys σI H=>∃ f e D,VI B f H σ r L/\Same G1 f/\H c=some (.lst ys)/\Rps f ys D/\f c=none/\J D e/\σI.length=e.length/\Sls B.K f σI e
 -- out of a frame within
 have leave:∀ {n H3:Hp} {σI:St} {ys:List V},VI B n H3 σ r L->n c=none->H3 c=some (.lst ys)->∀ {R X:Hp} {w:St} {F4:Nat->Addr->Prop} {e4:En},VI (bsC B.K n H3 σI) R X w e4 F4->VI B R X σ r L/\R c=none/\X c=some (.lst ys):=by
  intro n H3 σI ys Z U ac R X w F4 e4 E
  refine ⟨Z.grow E.g0 E.gh E.rs E.gn E.ft,?_,E.rs _ _ ac⟩
  cases e':R c with
  | none=>rfl
  | some u =>
   rcases E.gn c u e' with q | q
   ·change n c=_ at q;rw [U] at q;cases q
   ·change H3 c=_ at q;rw [ac] at q;cases q
 have step:∀ {f H2:Hp} {ys:List V} {x:V} {n H3:Hp} {d:PyData},VI B f H2 σ r L->f c=none->H2 c=some (.lst ys)->Out f H2 x n H3 (.st d) (fun _=>False)->VI B n H3 σ r L/\n c=none/\H3 c=some (.lst ys):=by
  intro f H2 ys x n H3 d M U ac o
  refine ⟨(M.out o).1,?_,o.hh _ _ ac⟩
  cases e':n c with
  | none=>rfl
  | some u =>
   rcases o.gn c u e' with q | q
   ·rw [U] at q;cases q
   ·rw [ac] at q;cases q
 refine ⟨fun i m ys σI H=>m=ds.length - i/\i<=ds.length/\Wv (Jv i) ys σI H,⟨ds.length,by simp,aF6 _,?_⟩,?_⟩
 ·refine ⟨G1,aar src r,[],Y.aside (fun _ z=>nomatch z) (Y.no_g l) fa hb,Same.refl _,aaf,.nil,Y.no_g l,j0,by simp [pick,aar],fun j s e=>?_⟩
  obtain ⟨i,t,hs,ht,hp⟩:=aes e
  obtain ⟨v,hv,q⟩:=Y.sl i t ht
  refine ⟨v,ahi hs hv,?_⟩
  cases t with
  | st d=>cases hp;exact .inl ⟨d,rfl,q.1⟩
  | scr ns =>
   cases hp
   obtain ⟨⟨a,ea,sq⟩,_⟩:=q
   exact .inr ⟨ns,a,rfl,ea,sq⟩
  | own A=>cases hp;rcases jc _ _ _ j0 j _ e with ⟨d,z⟩ | ⟨ns,z⟩ <;> cases z
  | io A=>cases hp;rcases jc _ _ _ j0 j _ e with ⟨d,z⟩ | ⟨ns,z⟩ <;> cases z
 ·rintro i m ys σI H2 ⟨rfl,hi,f,e,D,M,C,P,ry,U,jv,ln,sl⟩
  by_cases hlt:i < ds.length
  ·refine .inr ⟨it.go i f H2 C M.gh hlt,Wv (Jv (i+1)),fun b5 b9 H' hw=>⟨ds.length - (i+1),by omega,rfl,hlt,hw⟩,fun x H3 y=>?_⟩
   obtain ⟨n,o⟩:=it.yld i f H2 x H3 _ C M.gh M.ft (aA0 hlt) y
   obtain ⟨Z,b2,a7⟩:=step M U P o
   have E3:=ajx (K:=B.K) Z.gh Z.ft ln (sl.same o.gg)
   refine js i _ D e (aA0 hlt) jv (bsC B.K n H3 σI) rfl σI n H3 _ x _ _ E3 (adx o.ok.1) fun w R X F4 e4 E g4 q4=>?_
   refine q4 w R X F4 _ E fun b G5 H5 F5 e5 I5 g5 q5=>?_
   have a6:=ry.same (o.gg.trans (g4.trans g5))
   have s5:=C.trans (o.gg.trans (g4.trans g5))
   cases b with
   | false =>
    rw [aF2 aA9] at q5 ⊢
    obtain ⟨K5,b6,c0⟩:=leave Z b2 a7 I5
    exact ⟨G5,e5,D,K5,s5,c0,a6,b6,q5,I5.ln,aig I5 (jc _ _ _ q5)⟩
   | true =>
    rw [aF1 rfl] at q5 ⊢
    refine q5 w G5 H5 F5 _ I5 fun J2 G6 H6 F6 p e6 I6 g6 S ⟨Jw,w0,wc,ws,wd⟩=>?_
    obtain ⟨K6,b4,c1⟩:=leave Z b2 a7 I6
    have s6:=s5.trans g6
    let Wi:Nat->List V->St->Hp->Prop:=fun j ys σI H=>∃ f e D,VI B f H σ r L/\Same G6 f/\H c=some (.lst ys)/\Rps f ys D/\f c=none/\Jw j D e/\σI.length=e.length/\Sls B.K f σI e
    refine ⟨fun j m ys σI H=>m=p.length - j/\j<=p.length/\Wi j ys σI H,⟨p.length,by simp,aF6 _,G6,e6,D,K6,Same.refl _,c1,a6.same g6,b4,w0,I6.ln,aig I6 (wc _ _ _ w0)⟩,?_⟩
    rintro j m zs a2 H7 ⟨rfl,hj,G7,e7,zd,T,W,O,rz,b0,jw,a9,a4⟩
    refine ⟨O,?_⟩
    by_cases hlt2:j < p.length
    ·refine .inr ⟨S.go j G7 H7 W T.gh hlt2,Wi (j+1),fun b5 b9 H' hw=>⟨p.length - (j+1),by omega,rfl,hlt2,hw⟩,fun x2 H8 y2=>?_⟩
     obtain ⟨G8,o2⟩:=S.yld j G7 H7 x2 H8 _ W T.gh T.ft (aA0 hlt2) y2
     obtain ⟨I8,b3,a8⟩:=step T b0 O o2
     have E8:=ajx (K:=B.K) I8.gh I8.ft a9 (a4.same o2.gg)
     refine ws j _ zd e7 (aA0 hlt2) jw (bsC B.K G8 H8 a2) rfl a2 G8 H8 _ x2 _ _ E8 (adx o2.ok.1) fun a1 G9 H9 F9 e9 I9 g9 q9=>?_
     refine q9 a1 G9 H9 F9 _ I9 fun b GA HA FA eA IA gA qA=>?_
     cases b with
     | false =>
      rw [aF2 aA9] at qA ⊢
      obtain ⟨KA,c2,b7⟩:=leave I8 b3 a8 IA
      have sA:=o2.gg.trans (g9.trans gA)
      exact ⟨GA,eA,zd,KA,W.trans sA,b7,rz.same sA,c2,qA,IA.ln,aig IA (wc _ _ _ qA)⟩
     | true =>
      rw [aF1 rfl] at qA ⊢
      refine qA a1 GA HA FA _ IA fun yv GB HB FB dB eB IB gB rB ⟨lB,qB⟩=>?_
      obtain ⟨KB,a3,b8⟩:=leave I8 b3 a8 IB
      have sB:=o2.gg.trans (g9.trans (gA.trans gB))
      have b1:=rz.same sB
      refine ⟨b8,by rw [b1.length];exact aE0 lB (by decide),GB,eB,zd ++ [dB],KB.aside (fun _ z=>nomatch z) a3 fa hb,W.trans sB,aaf,b1.append (.cons rB .nil),a3,qB,IB.ln,aig IB (wc _ _ _ qB)⟩
    ·have ej:j=p.length:=by omega
     subst ej
     refine .inl ⟨S.stop _ G7 H7 W T.gh rfl,G7,e7,zd,T,s6.trans W,O,rz,b0,wd _ _ jw,a9,a4⟩
  ·have ei:i=ds.length:=by omega
   subst ei
   refine .inl ⟨it.stop _ f H2 C M.gh rfl,?_⟩
   refine k (.ref c) f H2 L (· = c) (.own (OL D)) r M (g1.trans C) ⟨⟨c,ys,rfl,P,ry,fun b=>Iff.rfl⟩,fun a z=>by rw [z];exact hb,fun a z=>by rw [z];exact U,fun a z=>by rw [z];exact ⟨_,P⟩,fun j a z=>by rw [z];exact fa j⟩ (jd _ _ jv)
end
theorem adr {o:Option PyData} {e:En} (h:aeh e):aeh (stO o :: e):=fun j s es=>by
 cases j with
 | zero =>
  cases o with
  | none=>simp [stO] at es
  | some d =>
   have:s=.st d:=by simpa [stO] using es.symm
   exact .inl ⟨d,this⟩
 | succ j=>exact h j s (by simpa using es)
theorem ami {α β:Type} {K:Frag} {src:List (Option Nat)} {c:En} {p:TI} {g:TT} {te:TE} {R:List PyData->Prop} {xs:List α} {fx : α->PyData} (a : α->List β) (n : β->PyData) (f : α->β->PyData) (q : α->β->Bool) (U:aeh (aar src c))
  (hl:(xs.flatMap fun x=>((a x).filter (q x)).map (f x)).length<=999999)
  (h1:∀ x∈xs,∀ l:Bs,l.K=K->∀ o,EvI l p (some (.st (fx x)) :: stO o :: aar src c) fun s C=>s=(a x).map n/\C=some (.st (fx x)) :: stO o :: aar src c)
  (X:∀ x∈xs,∀ y∈a x,∀ l:Bs,l.K=K->EvT l g (some (.st (fx x)) :: some (.st (n y)) :: aar src c) fun b Y=>b=q x y/\Y=some (.st (fx x)) :: some (.st (n y)) :: aar src c/\(b=true->Ev l te (some (.st (fx x)) :: some (.st (n y)) :: aar src c) fun z e7=>z=f x y/\e7=some (.st (fx x)) :: some (.st (n y)) :: aar src c))
  (hR:R (xs.flatMap fun x=>((a x).filter (q x)).map (f x))):LcV2 K (none :: none :: src) (abf 0) tYes p (abf 1) g te (xs.map fx) c R:=by
 refine ⟨fun i ys e=>ys=(xs.take i).flatMap (fun x=>((a x).filter (q x)).map (f x))/\∃ o o',e=stO o :: stO o' :: aar src c,⟨by simp,none,none,rfl⟩,?_,?_,?_⟩
 ·rintro i ys e ⟨_,o,o',rfl⟩
  exact adr (adr U)
 ·rintro i d ys e hd ⟨rfl,o,o',rfl⟩ l hB
  rw [aA5] at hd
  cases hx:xs[i]? with
  | none=>rw [hx] at hd;cases hd
  | some x =>
   rw [hx] at hd
   cases hd
   have A:=aA2 hx
   have T:xs.take (i+1)=xs.take i ++ [x]:=by rw [aH0,hx];rfl
   have O:((xs.take (i+1)).flatMap (fun x=>((a x).filter (q x)).map (f x))).length<=999999:=by
    refine aC9 ?_ hl
    conv=>rhs;rw [← aC0 (i+1) xs,List.flatMap_append,aB0]
    exact Nat.le_add_right _ _
   refine abb (ags ?_)
   rw [aF1 rfl]
   show EvI l p (some (.st (fx x)) :: stO o' :: aar src c) _
   intro σ G H F Q I k
   refine h1 x A l hB o' σ G H F Q I fun J G' H' F' s C B g' E ⟨M,r⟩=>k J G' H' F' s C B g' E ?_
   subst M r
   refine ⟨fun j m e=>m=(xs.take i).flatMap (fun x=>((a x).filter (q x)).map (f x)) ++ (((a x).take j).filter (q x)).map (f x)/\∃ o',e=some (.st (fx x)) :: stO o' :: aar src c,⟨by simp,o',rfl⟩,?_,?_,?_⟩
   ·rintro j m e ⟨_,u,rfl⟩
    exact adr (o:=some (fx x)) (adr U)
   ·rintro j d2 m e h ⟨rfl,u,rfl⟩ S N
    rw [aA5] at h
    cases hy:(a x)[j]? with
    | none=>rw [hy] at h;cases h
    | some y =>
     rw [hy] at h
     cases h
     have w:(a x).take (j+1)=(a x).take j ++ [y]:=by rw [aH0,hy];rfl
     refine abb ?_
     show EvT S g (some (.st (fx x)) :: some (.st (n y)) :: aar src c) _
     intro σ G H F Q I k
     refine X x A y (aA2 hy) S N σ G H F Q I fun b G' H' F' e3 B g' ⟨hb,he,W⟩=>k b G' H' F' e3 B g' ?_
     subst he
     by_cases hp:b=true
     ·rw [aF1 hp]
      intro σ G H F Q I k
      refine W hp σ G H F Q I fun v G' H' F' d' C B g' Z ⟨D,r⟩=>k v G' H' F' d' C B g' Z ?_
      subst D r
      have L:q x y=true:=by rw [← hb];exact hp
      refine ⟨?_,?_,some (n y),rfl⟩
      ·refine aC9 ?_ O
       rw [T,List.flatMap_append,aB0,aB0]
       refine Nat.add_le_add_left ?_ _
       simp only [List.flatMap_cons,List.flatMap_nil,aE6,aA3]
       exact (List.Sublist.filter (q x) (List.take_sublist j (a x))).length_le
      ·rw [w,List.filter_append,aE1,← aB3]
       simp [L]
     ·rw [aF2 hp]
      have P:q x y=false:=by rw [← hb];simpa using hp
      refine ⟨?_,some (n y),rfl⟩
      rw [w,List.filter_append,aE1]
      simp [P]
   ·rintro m e ⟨rfl,u,rfl⟩
    refine ⟨?_,some (fx x),u,rfl⟩
    rw [T,List.flatMap_append]
    simp
 ·rintro ys e ⟨rfl,o,o',rfl⟩
  rw [aA3,aG4]
  exact hR
section
variable {B:Bs} {env:En} {Q':PyData->En->Prop} {QO:Sl->En->Prop} {c:TT} {ta tb:TE}
theorem ay4 {src:List (Option Nat)} {m:TI} {g:TG} {i:TT} {j:TI} {n:TG} {f:TT} {te:TE} (h:EvI B m env fun ds l=>LcV2 B.K src g i j n f te ds l fun ys=>Q' (.list ys) l):Ev B (tLC2 src m g i j n f te) env Q':=abv (aob fun σ G H F R I k=>h σ G H F R I fun J s v r ds l p u it ⟨o,a,b,c,d⟩=>k J s v r ds l p u it ⟨o,a,b,c,fun ys e q=>adc (d ys e q)⟩)
end
def ay5 (e:En):Bool:=e.all fun o=>match o with | some (.own _)=>false | some (.io _)=>false | _=>true
theorem ajy {e:En} (h:ay5 e=true):aeh e:=fun j s es=>by
 have:=aF0.mp h (some s) (aA2 es)
 cases s with
 | st d=>exact .inl ⟨d,rfl⟩
 | scr ns=>exact .inr ⟨ns,rfl⟩
 | own A=>simp at this
 | io A=>simp at this
end VL
namespace VL
open PySem PySem.Spec L2 PyProof.Rows
end VL
namespace VL
open PySem PySem.Spec L2
section
variable {B:Bs} {env:En} {QO:Sl->En->Prop} {i:Nat}
theorem aru {k c:Int} (e:env[i]?=some (some (.st (.int k)))) (q:QO (.own (OD [(.inl k,.int c)])) env):EvO B (aum [(tVar i,tC (.int c))]) env QO:=fun σ G H F Q I g p f=>by
 obtain ⟨v,a,r⟩:=I.sl i _ e
 obtain ⟨r,_⟩:=r
 cases r
 refine ⟨_,a,aaf,[(.inl k,.int c)],rfl,by simp,?_⟩
 have o:=Out.newD (ds:=[(.inl k,.int c)]) (xs:=[(.inl k,.int c)]) I.gh f (.cons (.int c) .nil)
 have d:upd (upd H p (.dK [])) p (.dK (ae4 [] [(Sum.inl k,V.int c)]))=upd H p (.dK [(.inl k,.int c)]):=by
  funext b
  unfold upd
  split <;> rfl
 rw [d]
 exact g _ _ _ F _ _ env (I.out o).1 o.gg (I.out o).2 q
end
section
variable {X:Cx}
end
section
variable {R:Sl->Prop}
end
end VL
namespace L2
open PySem PySem.Spec PyProof.Rows
section
variable {X:Cx}
variable {e est:Expr} {te:TE} {ts:TO} {pos p2:Pos}
end
end L2
namespace VL
open PySem PySem.Spec L2
section
variable {B:Bs} {env:En} {QO:Sl->En->Prop} {Q':PyData->En->Prop} {te tl:TE} {ts:TO} {K:Frag} {i:Nat}
theorem Rps.rev {G:Hp}:∀ {vs:List V} {ds:List PyData},Rps G vs ds->Rps G vs.reverse ds.reverse
 | _,_,.nil => .nil
 | _,_,.cons r t=>by
  rw [List.reverse_cons,List.reverse_cons]
  exact (Rps.rev t).append (.cons r .nil)
end
theorem aus {α:Type} [DecidableEq α]:∀ {as bs:List α},as.Nodup->(∀ a∈as,a∈bs)->as.length<=bs.length
 | [],_,_,_=>aF6 _
 | a :: as,bs,hn,hs=>by
  have ha:a∈bs:=hs a (aB7 ..)
  have b:=aI0.mp hn
  have h:=aus (bs:=bs.erase a) b.2 fun x c=>(List.mem_erase_of_ne (show x ≠ a from fun e=>b.1 (by rw [← e];exact c))).mpr (hs x (aB4 _ c))
  rw [List.length_erase_of_mem ha] at h
  have:0 < bs.length:=List.length_pos_of_mem ha
  simp only [aE2]
  omega
structure But (n:Int) (es rem:List (Int × Int)):Prop where
 rise:Rise es
 inn:∀ p∈es,0<=p.1/\p.1 < p.2/\p.2 < n
 all:∀ p:Int × Int,0<=p.1->p.1 < p.2->p.2 < n->p∈es\/p∈rem
theorem But.len {n:Int} {es rem:List (Int × Int)} (h:But n es rem) (hn:8<=n) (b:rem.length<=5):2<=es.length:=by
 have:=aus (as:=[((0:Int),(1:Int)),(0,2),(0,3),(0,4),(0,5),(0,6),(0,7)]) (bs:=es ++ rem) (by decide) (fun p a=>by
  have:0<=p.1/\p.1 < p.2/\p.2 < 8:=by
   simp only [aA8,List.not_mem_nil,or_false] at a
   rcases a with rfl | rfl | rfl | rfl | rfl | rfl | rfl <;> decide
  exact aA7.mpr (h.all p this.1 this.2.1 (by omega)))
 simp at this
 omega
end VL
namespace PopT
open PySem PyProof.Rows
section
variable {prog:Program} {w:World} {K:Type} [DecidableEq K] {knd:HeapKind prog w K} {A:Around} {E:Value->Shared->Prop} {s:Shared}
theorem amj {d a:Addr} {xs:List (K × Addr × Value)} {k:K} {j:Nat} {p:Addr × Value} {Q:Option DictEntry->Shared->Prop} (v:knd.room A) (b:knd.is s.heap k a) (hm:s.heap.DictOfH knd d xs) (m:xs[j]?=some (k,p))
  (H:∀ e h',e.val=p.2->h'.DictOfH knd d (xs.eraseIdx j)->Heap.SameBut d s.heap h'->Q (some e) { s with heap:=h',toks:=s.toks+knd.draws k })
  (hsz:xs.length<=sizeLine):wpAny (model prog w) A (Builtin.Dict.takeOut d (.ref a)) Q E s:=by
 obtain ⟨o,es,ep,h,F,hd,c,g,hn⟩:=hm
 unfold Builtin.Dict.takeOut
 try with_reducible refine aJ0 ?_
 refine aI5 (knd.pyHash v b ?_)
 refine aI5 (wpAny_dictFind_heap (s:={ s with toks:=s.toks+knd.draws k }) v b h hd c g hn (fun n=>absurd m (n j p)) ?_)
 intro i q hi
 have r:i=j:=by
  have z:(xs.map (·.1))[i]?=some k:=by rw [aA5,hi];rfl
  have y:(xs.map (·.1))[j]?=some k:=by rw [aA5,m];rfl
  have G:=(aA1.mp z).1
  have I:=(aA1.mp y).1
  exact (List.getElem?_inj G hn).mp (z.trans y.symm)
 subst r
 have u:es.size<=sizeLine:=by have e:=size_of_entries c;omega
 refine aI5 (wpAny_dictEntries (s:={ s with toks:=s.toks+knd.draws k }) h hd ?_)
 rw [entry_at c i,m]
 refine aI5 (wpAny_updateDictKeys (hz:=u) (s:={ s with toks:=s.toks+knd.draws k }) h hd (aI6 (H _ _ rfl ⟨_,_,ep+1,Heap.get?_update_self _ h (Obj.isFreed_of_dict (Obj.data_mapDictKeys hd _)),
  F.mapDictKeys _,Obj.data_mapDictKeys hd _,?_,?_,?_⟩ (Heap.SameBut.update ..))))
 ·have B:∀ {α β:Type} (f : α->β) (l:List α) (k:Nat),(l.map f).eraseIdx k=(l.eraseIdx k).map f:=by
   intro α β f l
   induction l with
   | nil=>intro k;rfl
   | cons a l ih =>
    intro k
    cases k with
    | zero=>rfl
    | succ k=>simp [ih k]
  rw [← B,← c]
  obtain ⟨l⟩:=es
  have C:i < l.length:=by
   have:=(aA1.mp m).1
   have e:=size_of_entries c
   simp at e;omega
  simp [Array.eraseIdxIfInBounds,C]
 ·intro x D
  exact knd.keeps (g x ((List.eraseIdx_sublist xs i).mem D)) h hd (Heap.SameBut.update ..)
 ·exact hn.sublist ((List.eraseIdx_sublist xs i).map _)
theorem meetsH_dict_pop {d a:Addr} (kp:keyPart (.ref a)=none) :
  MeetsIn prog w (Builtin.«dict.pop» ⟨[.ref d,.ref a],[]⟩) (fun A R s=>knd.room A.in1/\∃ k xs j p,knd.is s.heap k a/\s.heap.DictOfH knd d xs/\xs.length<=sizeLine/\xs[j]?=some (k,p) /\
   ∀ h',h'.DictOfH knd d (xs.eraseIdx j)->Heap.SameBut d s.heap h'->R (.ok (.ret p.2)) { s with heap:=h',toks:=s.toks+knd.draws k }) :=
 .of_wp fun A R s r=>by
  obtain ⟨n,k,xs,j,p,b,hm,hsz,m,h⟩:=r
  have c:=hm
  obtain ⟨o,es,ep,x,y,hd,u,v,hn⟩:=c
  have f:es.isEmpty=false:=by
   have e:=size_of_entries u
   have:=(aA1.mp m).1
   cases q:es.isEmpty with
   | false=>rfl
   | true=>have:=Array.isEmpty_iff.mp q;rw [this] at e;simp at e;omega
  unfold Builtin.«dict.pop»
  refine aI5 ?_
  unfold Builtin.Dict.keyAndDefault
  refine aI5 (wpAny_notOrdered_dict hm.typeIs ?_)
  show wpAny _ _ (pure (d,Value.ref a,none)) _ _ s
  refine aI6 ?_
  simp only [kp,Option.isSome_none,Bool.false_eq_true,if_false]
  refine aI5 (wpAny_dictEntries x hd ?_)
  refine aI5 (aI6 ?_)
  simp only [f,Bool.false_eq_true,if_false]
  refine aI5 (amj n b hm m (fun e h' g i l=>?_) hsz)
  simp only [Option.isNone_some,Bool.false_eq_true,if_false]
  exact aI5 (wpAny_letGo (aI6 ⟨e.val,rfl,by rw [g];exact h h' i l⟩))
end
end PopT
namespace L2
open PySem PySem.Spec PySem.W PyProof.Rows
theorem KT.at {H:Hp} {kvs:List (List Key × V)} {xs:List (List Key × Addr × Value)} (r:KT H kvs xs):∀ {j:Nat} {k:List Key} {v:V},kvs[j]?=some (k,v)->∃ p:Addr × Value,xs[j]?=some (k,p)/\RelV v p.2:=by
 induction r with
 | nil=>intro j k v e;simp at e
 | @cons p q ps qs hq t ih =>
  intro j k v e
  cases j with
  | zero =>
   have e:p=(k,v):=by simpa using e
   subst e
   exact ⟨q.2,by rw [List.getElem?_cons_zero,show k=q.1 from hq.1],hq.2.2⟩
  | succ j=>exact ih (by simpa using e)
theorem KT.erase {H:Hp} {kvs:List (List Key × V)} {xs:List (List Key × Addr × Value)} (r:KT H kvs xs):∀ (j:Nat),KT H (kvs.eraseIdx j) (xs.eraseIdx j):=by
 induction r with
 | nil=>intro j;exact .nil
 | @cons p q ps qs hq t ih =>
  intro j
  cases j with
  | zero=>exact t
  | succ j=>exact .cons hq (ih j)
section
variable {X:Cx} {pins:List (Addr × Obj)} {σ:St} {H:Hp} {s:Shared} {a b:Addr} {A:Around} {E:Value->Shared->Prop}
theorem ay6 {kvs:List (List Key × V)} {k:List Key} {j:Nat} {v:V} {Q:Value->Shared->Prop} (o:A.units+1 < cLine) (I:Inv X pins σ H s) (e:H a=some (.dT kvs)) (B:H b=some (.tup (k.map kV))) (l:kvs[j]?=some (k,v))
  (h:∀ i n,Inv X pins σ (upd H a (.dT (kvs.eraseIdx j))) n->RelV v i->Q i n):wpAny (model X.prog X.w) A (call (.builtin "dict.pop") [.ref a,.ref b]) Q E s:=by
 obtain ⟨z,hd,xs,d,dd⟩:=ahu I.hok e
 have hz:xs.length<=sizeLine:=by rw [← Paired.length d];exact z
 obtain ⟨p,G,r⟩:=KT.at d l
 refine call_meetsIn PySem.F.slot_dict_pop dd.typeIs PySem.F.entry_dict_pop (PySem.F.args_dict_pop_2 _ _) (PopT.meetsH_dict_pop (knd:=tupleKind (aa4 X.prog X.w)) rfl)
  ⟨tupleKind_room_in1 o,k,xs,j,p,ae1 I.hok B,dd,hz,G,fun h' f C=>h p.2 _ ?_ r⟩
 obtain ⟨q,es,ep,m,y,D,u,_,x⟩:=f
 refine agn I (by rw [e];exact True.intro) C ⟨q,m⟩ ⟨aC9 (List.length_eraseIdx_le kvs j) z,hd,_,(KT.erase d j).keeps fun c ys g=>?_,q,es,ep,m,y,D,u,x⟩
 rw [aad (aue g e (fun z=>nomatch z))]
 exact g
end
def arv (td ty:TE):TE:=fun σ H Q=>td σ H fun x H1=>∃ a,x=.ref a/\IsD H1 a/\ty σ H1 fun y H2=>∃ kvs k j v b,H2 a=some (.dT kvs)/\y=.ref b/\H2 b=some (.tup (k.map kV))/\kvs[j]?=some (k,v)/\Q v (upd H2 a (.dT (kvs.eraseIdx j)))
section
variable {X:Cx} {o e f:Expr} {apos cpos:Pos} {td ty tx:TE}
theorem atw (g:X.A.units+1 < cLine) (J:PE X o td) (E:PE X e ty) (m:M1 X o "pop" apos e cpos):PE X (.Call (.Attribute o "pop" apos) [e] [] cpos) (arv td ty):=by
 intro pins s σ H Q I h
 refine wpAny_Call_method m.base m.few m.line PySem.F.plainAttrs_dict PySem.F.slot_dict_pop PySem.F.type_dict_pop (thn (J pins s σ H _ I h) fun u s1 ⟨x,K,f,w,a,ex,d,B⟩=>?_)
 subst ex
 obtain rfl:u=Value.ref a:=w
 obtain ⟨t1,i,_⟩:=axr f d
 refine ⟨t1,i,?_⟩
 rw [m.trees]
 refine Calls.callWith_builtin rfl (Calls.evalArgs_plain (Calls.spliced_cons (thn (E pins s1 σ K _ f B) fun G s2 ⟨y,H2,q,r,kvs,k,j,v,b,n,z,C,l,D⟩=>Calls.spliced_nil ?_)))
 subst z
 obtain rfl:G=Value.ref b:=r
 exact ay6 g q n C l fun L M p c=>⟨v,_,p,c,D⟩
end
end L2
namespace DNe
open PySem PyProof.Rows
theorem dict_ne_some (l b:Addr) (es:Array DictEntry) (n i:Nat) (dd c:Option Addr) (sl a:Array (Option Value)) (j:(l == sysModules)=false) (m:(b == sysModules)=false) (f:(es.size != 0)=true) :
  Meets (Builtin.«dict.__ne__» ⟨[.ref l,.ref b],[]⟩)
   (fun _ R s=>s.heap.get? l=some { cls:=.type "dict",dict:=dd,data:=.dict es n,slots:=sl }/\s.heap.get? b=some { cls:=.type "dict",dict:=c,data:=.dict #[] i,slots:=a } /\
    R (.ok (.ret (.bool true))) s) :=
 .of_wp fun prog w A R s h=>by
  obtain ⟨r,g,d,p,os⟩:=s;obtain ⟨q,hb,h⟩:=h
  have o:=PySem.F.sub_dict_dict
  wp_walk
  exact ⟨_,rfl,h⟩
theorem arw {prog:Program} {w:World} {A:Around} {E:Value->Shared->Prop} {s:Shared} {Q:Bool->Shared->Prop} {id:String} {l b:Addr} {o f:Obj} {n i:Nat} (c:(l == sysModules)=false) (d:(b == sysModules)=false)
  (g:s.heap.get? l=some o) (hd:o.data=.dict #[] n) (hb:s.heap.get? b=some f) (a:f.data=.dict #[] i) (h:Q true s):wpAny (model prog w) A (Builtin.Dict.samePairs id l b) Q E s:=by
 unfold Builtin.Dict.samePairs Builtin.Dict.showsAll
 rw [c,d]
 simp only [Bool.false_eq_true,if_false]
 refine aI5 (aI6 (aI5 (aI6 ?_)))
 refine aI5 (wpAny_dictEntries g hd (aI5 (wpAny_dictEntries hb a ?_)))
 simp only [bne_self_eq_false,Bool.false_eq_true,if_false]
 refine aI5 (wpAny_dictEpoch g hd ?_)
 rw [Std.Legacy.Range.forIn_eq_forIn_range']
 simp only [Std.Legacy.Range.size]
 exact aI5 (aI6 (aI6 h))
theorem dict_ne_none (l b:Addr) (n j:Nat) (dd c:Option Addr) (sl a:Array (Option Value)) (f:(l == sysModules)=false) (i:(b == sysModules)=false) :
  Meets (Builtin.«dict.__ne__» ⟨[.ref l,.ref b],[]⟩)
   (fun _ R s=>s.heap.get? l=some { cls:=.type "dict",dict:=dd,data:=.dict #[] n,slots:=sl }/\s.heap.get? b=some { cls:=.type "dict",dict:=c,data:=.dict #[] j,slots:=a } /\
    R (.ok (.ret (.bool false))) s) :=
 .of_wp fun prog w A R s h=>by
  obtain ⟨q,g,d,p,os⟩:=s;obtain ⟨m,hb,h⟩:=h
  have o:=PySem.F.sub_dict_dict
  wp_walk using arw f i m rfl hb rfl
  exact ⟨_,rfl,h⟩
end DNe
namespace L2
open PySem PySem.Spec PySem.W PyProof.Rows
def rNeE:R2:=fun x y H Q=>∃ a b kvs,x=.ref a/\y=.ref b/\H a=some (.dT kvs)/\H b=some (.dT [])/\Q (.bl (!kvs.isEmpty)) H
theorem ay7 {X:Cx} (R:X.A.units+64 < cLine):OpR X (compareOp .NotEq) rNeE:=by
 intro pins s σ H x y v u Q I K J h
 obtain ⟨a,b,kvs,rfl,rfl,G,O,q⟩:=h
 obtain rfl:v=Value.ref a:=K
 obtain rfl:u=Value.ref b:=J
 obtain ⟨_,j,xs,w,⟨cls,dd,data,sl⟩,es,ep,n,L,E,r,_,_⟩:=ahu I.hok G
 obtain ⟨_,m,ys,i,⟨f,d,p,c⟩,fs,g,o,N,D,C,_,_⟩:=ahu I.hok O
 cases i
 have hf:fs = #[]:=by
  obtain ⟨l⟩:=fs
  simp at C
  rw [C]
 subst hf
 have P:cls=.type "dict":=L.1
 have M:f=.type "dict":=N.1
 simp only at E D
 subst P M E D
 have hn:Value.bool true ≠ Value.notImplemented:=fun x=>nomatch x
 have z:Value.bool false ≠ Value.notImplemented:=fun x=>nomatch x
 cases w with
 | nil =>
  have B:es = #[]:=by
   obtain ⟨l⟩:=es
   simp at r
   rw [r]
  subst B
  exact richCompare_meets_room (op:=.NotEq) ⟨_,n,rfl⟩ ⟨_,o,rfl⟩ PySem.F.slot_dict_ne PySem.F.entry_dict_ne (PySem.F.args_dict_ne_2 _ _) (DNe.dict_ne_none a b ep g dd d sl c j m)
   ⟨n,o,show Value.bool false ≠ Value.notImplemented/\_ from ⟨z,⟨.bl false,H,I,rfl,q⟩⟩⟩ (by omega)
 | cons hq t =>
  have B:(es.size != 0)=true:=by
   have:=congrArg List.length r
   simp at this
   simp [this]
  exact richCompare_meets_room (op:=.NotEq) ⟨_,n,rfl⟩ ⟨_,o,rfl⟩ PySem.F.slot_dict_ne PySem.F.entry_dict_ne (PySem.F.args_dict_ne_2 _ _) (DNe.dict_ne_some a b es ep g dd d sl c j m B)
   ⟨n,o,show Value.bool true ≠ Value.notImplemented/\_ from ⟨hn,⟨.bl true,H,I,rfl,q⟩⟩⟩ (by omega)
end L2
namespace DNe
open PySem PyProof.Rows
theorem amk (l:Addr) (es:Array DictEntry) (n:Nat) (dd:Option Addr) (sl:Array (Option Value)) (a:(l == sysModules)=false) :
  Meets (Builtin.«dict.__len__» ⟨[.ref l],[]⟩)
   (fun _ R s=>s.heap.get? l=some { cls:=.type "dict",dict:=dd,data:=.dict es n,slots:=sl }/\R (.ok (.ret (.int (es.size:Int) s.toks))) { s with toks:=s.toks+1 }) :=
 .of_wp fun prog w A R s h=>by
  obtain ⟨f,g,d,b,os⟩:=s;obtain ⟨c,h⟩:=h
  wp_walk
  exact ⟨_,rfl,h⟩
section
variable {prog:Program} {w:World} {A:Around} {E:Value->Shared->Prop} {s:Shared}
theorem call_len_raw {d:Addr} {es:Array DictEntry} {n:Nat} {dd:Option Addr} {sl:Array (Option Value)} {Q:Value->Shared->Prop} (hd:(d == sysModules)=false) (b:s.heap.get? d=some { cls:=.type "dict",dict:=dd,data:=.dict es n,slots:=sl }) (a:(es.size:Int) < 2 ^ 63)
  (h:Q (.int (es.size:Int) (s.toks+1)) { s with toks:=s.toks+1+1 }):wpAny (model prog w) A (call (.builtin "len") [.ref d]) Q E s:=by
 have c:s.TypeIs (.ref d) "dict":=⟨_,b,rfl⟩
 refine Calls.call_function_entry kind_len plain_len entry_len (args_len1 _) ?_
 unfold Builtin.«len»
 refine aI5 (m:=oneArg "len" _) (aI6 ?_)
 refine aI5 (m:=callSpecial? (.ref d) (Str.ofString "__len__")) (wpAny_callSpecial?_slot (name:=Str.ofString "__len__") c PySem.F.slot_dict_len
  (call_meets PySem.F.slot_dict_len c PySem.F.entry_dict_len (PySem.F.args_dict_len_1 _) (amk d es n dd sl hd) ⟨b,?_⟩))
 show wpAny _ _ _ _ _ { s with toks:=s.toks+1 }
 refine aI5 (aJ0 (aI6 ?_))
 refine aI5 (wpAny_letGo ?_)
 show wpAny _ _ (if (es.size:Int) < 0 then _ else _) _ _ _
 rw [aF2 (by omega)]
 show wpAny _ _ (if (es.size:Int) ≥ 2 ^ 63 then _ else _) _ _ _
 rw [aF2 (by omega)]
 exact aI5 (wpAny_mkInt (aI6 ⟨_,rfl,h⟩))
end
end DNe
namespace L2
open PySem PySem.Spec PySem.W PyProof.Rows
def aut:List V->Hp->VK->Prop:=fun xs H Q=>∃ a kvs,xs=[V.ref a]/\H a=some (.dT kvs)/\Q (.int kvs.length) H
theorem arx {X:Cx}:aa1 X (.builtin "len") aut:=by
 intro pins s σ H xs us Q I r h
 obtain ⟨a,kvs,rfl,ha,q⟩:=h
 obtain ⟨u,rfl,d⟩:=ab6 r
 cases d
 obtain ⟨z,hd,ys,b,⟨cls,dd,data,sl⟩,es,ep,i,g,c,f,_,_⟩:=ahu I.hok ha
 have l:cls=.type "dict":=g.1
 simp only at c
 subst l c
 have j:es.size=kvs.length:=by
  have:=congrArg List.length f
  simp at this
  rw [this];exact (Paired.length b).symm
 refine DNe.call_len_raw hd i (by rw [sizeLine_eq] at z;omega) ?_
 rw [j]
 exact ⟨.int kvs.length,H,(I.tok _).tok _,⟨_,rfl⟩,q⟩
end L2
namespace VL
open PySem PySem.Spec L2
section
variable {B:Bs} {env:En} {Q':PyData->En->Prop} {QO:Sl->En->Prop} {i:Nat} {ty:TE}
theorem RpT.at {G:Hp}:∀ {kvs:List (List Key × V)} {es:List (List Key × PyData)},RpT G kvs es->∀ {j:Nat} {a:List Key} {d:PyData},es[j]?=some (a,d)->∃ v,kvs[j]?=some (a,v)/\Rp G v d
 | _,_,.nil,j,a,d,e=>by simp at e
 | _,_,.cons (k:=k) (v:=v) (d:=d0) h t,0,a,d,e=>by
  have e:(k,d0)=(a,d):=by simpa using e
  cases e
  exact ⟨v,rfl,h⟩
 | _,_,.cons h t,j+1,a,d,e=>by
  obtain ⟨v,b,r⟩:=RpT.at t (j:=j) (by simpa using e)
  exact ⟨v,by simpa using b,r⟩
theorem RpT.erase {G:Hp}:∀ {kvs:List (List Key × V)} {es:List (List Key × PyData)},RpT G kvs es->∀ (j:Nat),RpT G (kvs.eraseIdx j) (es.eraseIdx j)
 | _,_,.nil,_ => .nil
 | _,_,.cons _ t,0=>t
 | _,_,.cons h t,j+1 => .cons h (RpT.erase t j)
theorem atx {es0:List (List Key × PyData)} (E:Has env i (OT es0)) (h:Ev B ty env fun y r=>∃ es m j d,r[i]?=some (some (.own (OT es)))/\y=tkD m/\es[j]?=some (m,d)/\Q' d (r.set i (some (.own (OT (es.eraseIdx j)))))):Ev B (arv (tVar i) ty) env Q':=fun σ G H F Q I k=>by
 obtain ⟨v,p,a,kvs,z,ha,rt,_⟩:=I.has E
 subst z
 refine ⟨_,p,a,rfl,.inr ⟨kvs,.inl ha⟩,h σ G H F _ I fun u J H2 F2 y r n D K ⟨es,m,j,d,c,C,A,q⟩=>?_⟩
 subst C
 obtain ⟨M,g,⟨N,l,o,s,f,hf⟩,hb⟩:=n.sl i _ c
 rw [p] at g;cases g;cases o
 cases K with
 | @tup b vs ds hk rs =>
  have:=amg rs
  subst this
  obtain ⟨w,L,x⟩:=RpT.at f A
  refine ⟨l,m,j,w,b,s,rfl,n.gh _ _ hk,L,?_⟩
  exact k _ J _ _ _ _ (n.upd1 (A':=OT (es.eraseIdx j)) c (.inl rfl) p hf ⟨a,_,rfl,aaf,RpT.erase f j,fun b=>Iff.rfl⟩) D x q
theorem ay8 {es:List (List Key × PyData)} (d:Has env i (OT es)) (q:Q' (.bool (!es.isEmpty)) env):Ev B (tOp rNeE (tVar i) ale) env Q':=fun σ G H F Q I k=>by
 obtain ⟨v,f,a,kvs,c,ha,rt,_⟩:=I.has d
 subst c
 refine ⟨_,f,fun p b=>⟨a,p,kvs,rfl,rfl,by rw [aad (aaj ha b)];exact ha,aaf,?_⟩⟩
 have o:=Out.newDT (xs:=[]) (ds:=[]) I.gh b .nil
 have e:kvs.isEmpty=es.isEmpty:=by cases rt <;> rfl
 rw [e]
 exact k _ G _ F _ env (I.out o).1 (Same.refl _) (.bl _) q
theorem awp {es:List (List Key × PyData)} (c:Has env i (OT es)) (q:Q' (.int es.length) env):Ev B (tCB aut (aba (tVar i) tNil)) env Q':=fun σ G H F Q I k=>by
 obtain ⟨v,b,a,kvs,d,ha,rt,_⟩:=I.has c
 subst d
 refine ⟨_,b,a,kvs,rfl,ha,?_⟩
 rw [(RpT.len rt).1]
 exact k _ G H F _ env I (Same.refl _) (.int _) q
@[reducible] def abj (es:List (Key × PyData)):PyData:=.dict (es.map fun p=>(kD p.1,p.2))
theorem awq {a b:Key} (h:kD a=kD b):a=b:=by
 cases a <;> cases b <;> simp [kD] at h <;> rw [h]
theorem ary:∀ {es fs:List (Key × PyData)},es.map (fun p=>(kD p.1,p.2))=fs.map (fun p=>(kD p.1,p.2))->es=fs
 | [],[],_=>rfl
 | [],_ :: _,h=>by simp at h
 | _ :: _,[],h=>by simp at h
 | (a,x) :: es,(b,y) :: fs,h=>by
  simp only [aD0,List.cons.injEq,Prod.mk.injEq] at h
  rw [awq h.1.1,h.1.2,ary h.2]
theorem ai5 {G:Hp} {v:V} {es:List (Key × PyData)} (r:Rp G v (abj es)) (b:es ≠ []):∃ a kvs,v=.ref a/\G a=some (.dK kvs)/\RpK G kvs es:=by
 cases r with
 | dk h rk e=>exact ⟨_,_,rfl,h,by rw [ary e];exact rk⟩
 | @dt a kvs es' ds h rt e =>
  cases es with
  | nil=>exact absurd rfl b
  | cons p es =>
   cases es' with
   | nil=>simp at e
   | cons q es' =>
    simp only [aD0,List.cons.injEq,Prod.mk.injEq] at e
    have:=e.1.1
    obtain ⟨k,x⟩:=p
    cases k <;> simp [kD] at this
theorem ahl {j:TE} (h:Ev B j env fun x l=>Ev B ty l fun y c=>∃ es k d,x=abj es/\es ≠ []/\y=kD k/\valD es k=some d/\Q' d c):Ev B (ako j ty) env Q':=fun σ G H F Q I L =>
 h σ G H F _ I fun v p M o x l n z K s=>s σ p M o _ n fun u E H2 F2 y c g i J D=>by
  obtain ⟨es,k,d,ex,f,A,C,q⟩:=D
  subst ex A
  obtain ⟨a,kvs,rfl,ha,r⟩:=ai5 (K.same i) f
  obtain ⟨w,m,b⟩:=(RpK.val r).2 d C
  have:=aid J
  subst this
  exact ⟨a,w,rfl,.inl ⟨kvs,k,.inl (g.gh _ _ ha),rfl,m.symm⟩,L _ E H2 F2 _ c g (z.trans i) b q⟩
theorem apw {n:TE} (h:Ev B ty env fun y o=>Ev B n o fun x c=>∃ es k,x=abj es/\es ≠ []/\y=kD k/\Q' (.bool (!(valD es k).isSome)) c):Ev B (ae2 ty n) env Q':=fun σ G H F Q I p =>
 h σ G H F _ I fun v C M A y o s j L D=>D σ C M A _ s fun u m H2 F2 x c f l K J=>by
  obtain ⟨es,k,ex,g,E,q⟩:=J
  subst ex E
  obtain ⟨a,kvs,rfl,ha,i⟩:=ai5 K g
  have:=aid L
  subst this
  have b:=f.gh _ _ ha
  cases hv:valD es k with
  | none =>
   rw [hv] at q
   exact ⟨a,none,rfl,.inl ⟨kvs,k,.inl b,rfl,((RpK.val i).1 hv).symm⟩,p _ m H2 F2 _ c f (j.trans l) (.bl _) q⟩
  | some d =>
   rw [hv] at q
   obtain ⟨w,r,z⟩:=(RpK.val i).2 d hv
   exact ⟨a,some w,rfl,.inl ⟨kvs,k,.inl b,rfl,r.symm⟩,p _ m H2 F2 _ c f (j.trans l) (.bl _) q⟩
end
section
variable {B:Bs} {env:En} {QO:Sl->En->Prop} {Q':PyData->En->Prop} {K:Frag} {i:Nat}
end
theorem aga {α:Type} {K:Frag} {src:List (Option Nat)} {a:En} {te:TE} {c:TT} {R:List PyData->En->Prop} {xs:List α} {f : α->PyData} (g : α->PyData) (p : α->Bool) (q:noIo (aar src a)=true) (L:xs.length<=999999)
  (h:∀ x∈xs,∀ j:Bs,j.K=K->EvT j c (some (.st (f x)) :: aar src a) fun b n=>b=p x/\n=some (.st (f x)) :: aar src a/\(b=true->Ev j te (some (.st (f x)) :: aar src a) fun y r=>y=g x/\r=some (.st (f x)) :: aar src a))
  (E:R ((xs.filter p).map g) a):LcV K (none :: src) (abf 0) c te (xs.map f) a R:=by
 have l:noIo (aar (none :: src) a)=true:=by
  show ((none :: aar src a).all fun s => !isIo s)=true
  rw [List.all_cons]
  exact (aG7 _ _).mpr ⟨rfl,q⟩
 refine ⟨fun i ys e=>ys=((xs.take i).filter p).map g/\∃ o,e=stO o :: aar src a,⟨by simp,none,rfl⟩,?_,?_,?_⟩
 ·rintro i ys e ⟨_,o,rfl⟩
  exact ⟨⟨isIo_stO.symm,af7⟩,aet aex⟩
 ·rintro i d ys e hd ⟨rfl,o,rfl⟩ j A
  rw [aA5] at hd
  cases hx:xs[i]? with
  | none=>rw [hx] at hd;cases hd
  | some x =>
  rw [hx] at hd
  cases hd
  have hi:i < xs.length:=(aA1.mp hx).1
  have w:xs.take (i+1)=xs.take i ++ [x]:=by rw [aH0,hx];rfl
  refine abb ?_
  show EvT j c (some (.st (f x)) :: aar src a) _
  intro σ G H F Q I k
  refine h x (aA2 hx) j A σ G H F Q I fun b G' H' F' n m g' ⟨hb,D,z⟩=>k b G' H' F' n m g' ?_
  subst D
  by_cases hp:b=true
  ·rw [aF1 hp]
   intro σ G H F Q I k
   refine z hp σ G H F Q I fun v G' H' F' d' r m g' C ⟨B,u⟩=>k v G' H' F' d' r m g' C ?_
   subst B u
   refine ⟨?_,?_,some _,rfl⟩
   ·have:=List.length_filter_le p (xs.take i)
    simp only [aA3]
    have J:(xs.take i).length<=i:=by simp;omega
    omega
   ·rw [w,List.filter_append,aE1]
    have:p x=true:=by rw [← hb];exact hp
    simp [this]
  ·rw [aF2 hp]
   refine ⟨?_,some _,rfl⟩
   rw [w,List.filter_append,aE1]
   have:p x=false:=by rw [← hb];simpa using hp
   simp [this]
 ·rintro ys e ⟨rfl,o,rfl⟩
  rw [ai2 l,aA3,aG4]
  exact E
section
variable {B:Bs} {env:En} {QO:Sl->En->Prop} {Q':PyData->En->Prop} {K:Frag} {i:Nat}
end
section
variable {B:Bs} {env:En} {QO:Sl->En->Prop} {Q':PyData->En->Prop} {K:Frag} {E:XK} {i:Nat}
theorem VI.moment2 {G d c H H3:Hp} {σ:St} {F:Nat->Addr->Prop} {v:V} {s:Sl} {Fv:Addr->Prop} (I:VI B G H σ env F) (i:Same G d) (o:Out d H v c H3 s Fv):∃ f,Same G f/\VI B f H3 σ env F/\∀ a,H a=none->f a=c a:=by
 refine ⟨fun a=>if H a=none then c a else G a,fun a u e=>?_,I.grow (fun a u e=>?_) (fun a u e=>?_) o.hh (fun a u e=>?_) (fun a b e=>?_),fun a h=>aF1 h⟩
 ·show (if H a=none then c a else G a)=some u;rw [aF2 (by rw [I.gh a u e];simp)];exact e
 ·rw [aF2 (by rw [I.gh a u e];simp)];exact e
 ·by_cases h:H a=none
  ·rw [aF1 h] at e;exact o.gh a u e
  ·rw [aF2 h] at e;exact o.hh _ _ (I.gh a u e)
 ·by_cases h:H a=none
  ·exact .inr h
  ·rw [aF2 h] at e;exact .inl e
 ·have f1:FT d H:=fun a b e=>i _ _ (I.ft a b e)
  by_cases h:H a=none
  ·rw [aF1 h];exact o.ft f1 a b e
  ·rw [aF2 h]
   obtain ⟨u,g⟩:=ah5 h
   have:=o.hh _ _ g
   rw [e] at this
   exact I.ft a b (by rw [g,← this])
end
def stS:Option Sl->Option Sl
 | some (.st d)=>some (.st d)
 | some (.scr ns)=>some (.scr ns)
 | _=>none
def momE (env:En) (i:Nat) (d:PyData):En:=(env.map stS).set i (some (.st d))
section
variable {B:Bs} {env:En} {QO:Sl->En->Prop} {Q':PyData->En->Prop} {K:Frag} {i j:Nat} {ta te:TE}
theorem aeu {A:Own} {d:PyData} (j:Has env i A) (M:Frz A d) (h:∀ b:Bs,b.K=B.K->Ev b te (momE env i d) fun d' _=>agv d'=true/\Q' d' env):Ev B te env Q':=fun σ G H F Q I k=>by
 obtain ⟨v,D,ap⟩:=I.has j
 have f:=abm (H:=H) (I.fg i)
 let b:Bs:={ K:=B.K,G:=jn G H (F i),H:=H,R:=H,S:=σ,F:=fun _ _=>False }
 have hi:i < env.length:=by
  rcases j with e | e <;> exact (aA1.mp e).1
 have J:VI b (jn G H (F i)) H σ (momE env i d) (fun _ _=>False):={
  gh:=akv I.gh
  g0:=Same.refl _
  gn:=fun a o e => .inl e
  rs:=Same.refl _
  rb:=Same.refl _
  bh:=fun a o e=>⟨o,e⟩
  fg:=fun _ _ z=>z.elim
  fr:=fun _ _ z=>z.elim
  fd:=fun _ _ _ z=>z.elim
  fo:=fun _ _ z=>z.elim
  sl:=fun m s e=>by
   unfold momE at e
   by_cases hm:m=i
   ·subst hm
    rw [aD1,aF1 rfl,aF1 (by simpa using hi)] at e
    cases e
    exact ⟨v,D,M _ _ _ _ ap (I.fg m) I.gh,fun _ z=>z⟩
   ·rw [aD1,aF2 (fun z=>hm z.symm),aA5] at e
    cases em:env[m]? with
    | none=>rw [em] at e;cases e
    | some o =>
     rw [em] at e
     cases o with
     | none=>cases e
     | some t =>
      obtain ⟨u,g,q⟩:=I.sl m t em
      cases t with
      | st d'=>cases e;exact ⟨u,g,q.1.same f,fun _ z=>z⟩
      | scr ns =>
       cases e
       obtain ⟨⟨a,p,n⟩,_⟩:=q
       exact ⟨u,g,⟨a,p,f.seq n⟩,fun _ z=>z⟩
      | own A'=>cases e
      | io A'=>cases e
  ln:=by simp [momE,I.ln]
  ft:=fun a r e=>f _ _ (I.ft a r e) }
 refine h b rfl σ _ H _ Q J fun w E H2 F2 d' O c C l ⟨L,q⟩=>?_
 have o:Out (jn G H (F i)) H w E H2 (.st d') (fun _=>False):={
  gg:=C
  gh:=c.gh
  hh:=c.rs
  gn:=c.gn
  fn:=fun _ z=>z.elim
  fg:=fun _ z=>z.elim
  fo:=fun _ z=>z.elim
  ok:=⟨l,fun _ z=>z⟩
  ft:=fun _=>c.ft }
 obtain ⟨N,y,x⟩:=I.moment f o
 exact k w N H2 F d' env x y (an6 l L) q
end
theorem awr {o:Option Sl} {s:Sl} (h:stS o=some s):o=some s/\((∃ d,s=.st d)\/∃ ns,s=.scr ns):=by
 cases o with
 | none=>cases h
 | some t =>
  cases t with
  | st d=>cases h;exact ⟨rfl,.inl ⟨d,rfl⟩⟩
  | scr ns=>cases h;exact ⟨rfl,.inr ⟨ns,rfl⟩⟩
  | own A=>cases h
  | io A=>cases h
section
variable {B:Bs} {env:En} {QO:Sl->En->Prop} {K:Frag} {te:TE}
theorem aoc {src:List (Option Nat)} {wi:TI} (h:EvI B wi env fun ds e1=>ds.length<=999999/\∃ l:List (List PyData),l.length=ds.length/\(∀ (i:Nat) d,ds[i]?=some d->∀ B':Bs,B'.K=B.K->EvO B' te (some (.st d) :: (aar src e1).map stS) fun s _=>∃ xs,l[i]?=some xs/\s=.own (OL xs))/\QO (.own (OLL l)) e1):EvO B (tLC (none :: src) wi (abf 0) tYes te) env QO:=fun σ G H F Q I k=>by
 refine h σ G H F _ I fun J G1 H1 F1 ds e1 N g1 it ⟨b1,l,b0,a9,q⟩ c f=>?_
 let W:Nat->List V->St->Hp->Prop:=fun n ys σI H=>∃ (as:List Addr) (r:Hp) (o:Option V),σI=o :: pick src σ/\ys=as.map V.ref/\as.length=n/\as.Nodup/\c ∉ as/\(∀ b∈as,H1 b=none/\r b=none)/\(∀ (i:Nat) b xs,as[i]?=some b->l[i]?=some xs->∃ vs,H b=some (.lst vs)/\Rps r vs xs)/\H c=some (.lst ys)/\r c=none/\Same G1 r/\Same r H/\Same H1 H/\(∀ a o,r a=some o->G1 a=some o\/H1 a=none)/\FT r H
 refine ⟨fun n m ys σI H=>m=ds.length - n/\n<=ds.length/\W n ys σI H,⟨ds.length,by simp,aF6 _,[],G1,none,rfl,rfl,rfl,List.nodup_nil,by simp,fun b hb=>by simp at hb,fun i b xs hb=>by simp at hb,aaf,N.no_g f,Same.refl _,N.gh.trans (abg f),abg f,fun a o e => .inl e,fun a ks e=>?_⟩,?_⟩
 ·by_cases z:a=c
  ·subst z;rw [aaf] at e;cases e
  ·rw [aad z] at e;exact N.ft a ks e
 rintro n m ys σI H2 ⟨rfl,hn,as,r,o0,rfl,rfl,hl,nd,na,all,L,M,ga,P,E,C,T,O⟩
 refine ⟨M,?_⟩
 have D:∀ b∈as,∃ u,H2 b=some u:=fun b hb=>by
  obtain ⟨i,hi,e⟩:=aH2.mp hb
  obtain ⟨vs,h1,_⟩:=L i b _ (by rw [aA0 hi,e]) (aA0 (show i < l.length by omega))
  exact ⟨_,h1⟩
 by_cases hlt:n < ds.length
 ·refine .inr ⟨it.go n r H2 P E hlt,fun X a0 H'=>W (n+1) X a0 H',fun X a0 H' hw=>⟨ds.length - (n+1),by omega,rfl,hlt,hw⟩,fun x H3 y=>?_⟩
  obtain ⟨G3,o⟩:=it.yld n r H2 x H3 _ P E O (aA0 hlt) y
  refine ae5 (af0 (ab9 ?_))
  have I2:=N.grow P E C T O
  obtain ⟨I3,X3⟩:=I2.out o
  let B':Bs:={ K:=B.K,G:=G3,H:=H3,R:=H3,S:=some x :: pick src σ,F:=fun _ _=>False }
  have J':VI B' G3 H3 (some x :: pick src σ) (some (.st ds[n]) :: (aar src e1).map stS) (fun _ _=>False):={
   gh:=o.gh
   g0:=Same.refl _
   gn:=fun a u e => .inl e
   rs:=Same.refl _
   rb:=Same.refl _
   bh:=fun a u e=>⟨u,e⟩
   fg:=fun _ _ z=>z.elim
   fr:=fun _ _ z=>z.elim
   fd:=fun _ _ _ z=>z.elim
   fo:=fun _ _ z=>z.elim
   sl:=fun m s e=>by
    cases m with
    | zero =>
     simp only [List.getElem?_cons_zero,Option.some.injEq] at e
     subst e
     exact ⟨x,rfl,X3.ok.1,fun _ z=>z⟩
    | succ m =>
     rw [aH7,aA5] at e
     obtain ⟨t,ht,et⟩:=Option.map_eq_some_iff.mp e
     obtain ⟨rfl,hs⟩:=awr et
     obtain ⟨i,t',a7,a5,g⟩:=aes ht
     obtain ⟨v,hv,q'⟩:=I3.sl i t' a5
     refine ⟨v,by rw [aH7];exact ahi a7 hv,?_⟩
     rcases hs with ⟨d,rfl⟩ | ⟨ns,rfl⟩
     ·cases t' with
      | st d'=>cases g;exact ⟨q'.1,fun _ z=>z⟩
      | scr ns=>cases g
      | own A=>cases g
      | io A=>cases g
     ·cases t' with
      | st d'=>cases g
      | scr ns'=>cases g;exact ⟨q'.1,fun _ z=>z⟩
      | own A=>cases g
      | io A=>cases g
   ln:=by simp [pick,aar]
   ft:=o.ft O }
  refine a9 n _ (aA0 hlt) B' rfl _ G3 H3 _ _ J' fun v G4 H4 F4 Fv s e4 I4 g4 X4 ⟨xs,a2,es⟩=>?_
  subst es
  obtain ⟨p,vs,rfl,hp,rp,fp⟩:=X4.ok
  have Y:=(fp p).mpr rfl
  have n3:H3 p=none:=X4.fb p Y
  have gp:G4 p=none:=X4.fg p Y
  have n2:H2 p=none:=aav o.hh n3
  have n1:H1 p=none:=aav C n2
  have U:Same H3 H4:=I4.rs
  have Z:=o.hh _ _ M
  have a4:=U _ _ Z
  have pa:p ≠ c:=(aaj Z n3).symm
  have a8:p ∉ as:=fun z=>by
   obtain ⟨u,hu⟩:=D p z
   rw [hu] at n2;cases n2
  have gb:∀ b,r b=none->(∃ u,H2 b=some u)->G4 b=none:=fun b h1 z_=>by
   obtain ⟨u,h2⟩:=z_
   cases e:G4 b with
   | none=>rfl
   | some w =>
    rcases I4.gn b w e with e | e
    ·rcases o.gn b w e with e | e
     ·rw [h1] at e;cases e
     ·rw [h2] at e;cases e
    ·have:=o.hh _ _ h2;change H3 b=none at e;rw [this] at e;cases e
  have a1:G4 c=none:=gb c ga ⟨_,M⟩
  refine ⟨a4,by rw [aA3,hl];exact big (by omega),as ++ [p],G4,some x,rfl,by simp,by simp [hl],?_,?_,fun b hb=>?_,fun i b a3 hb hd=>?_,aaf,a1,P.trans (o.gg.trans g4),fun a u e=>?_,fun a u e=>?_,fun a u e=>?_,fun a ks e=>?_⟩
  ·rw [aE4]
   exact ⟨nd,by simp,fun x hx y hy=>by simp at hy;subst hy;intro e;subst e;exact a8 hx⟩
  ·intro z
   rcases aA7.mp z with z | z
   ·exact na z
   ·exact pa (aC1.mp z).symm
  ·rcases aA7.mp hb with hb | hb
   ·exact ⟨(all b hb).1,gb b (all b hb).2 (D b hb)⟩
   ·cases aC1.mp hb
    exact ⟨n1,gp⟩
  ·by_cases hi:i < as.length
   ·rw [aC2 hi] at hb
    obtain ⟨us,h1,h2⟩:=L i b a3 hb hd
    refine ⟨us,?_,h2.same (o.gg.trans g4)⟩
    rw [aad (fun z:b=c=>na (by rw [← z];exact aA2 hb))]
    exact U _ _ (o.hh _ _ h1)
   ·have a6:i=n:=by
     have:=(aA1.mp hb).1
     simp at this
     omega
    subst a6
    rw [aC7 (by omega)] at hb
    have:b=p:=by
     rw [show i - as.length=0 by omega] at hb
     simpa using hb.symm
    subst this
    rw [a2] at hd
    cases hd
    exact ⟨vs,by rw [aad pa];exact hp,rp⟩
  ·have aa:a ≠ c:=by rintro rfl;rw [a1] at e;cases e
   rw [aad aa];exact I4.gh a u e
  ·have aa:a ≠ c:=aaj e f
   rw [aad aa];exact U _ _ (o.hh _ _ (C a u e))
  ·rcases I4.gn a u e with e | e
   ·rcases o.gn a u e with e | e
    ·exact T a u e
    ·exact .inr (aav C e)
   ·exact .inr (aav C (aav o.hh e))
  ·by_cases z:a=c
   ·subst z;rw [aaf] at e;cases e
   ·rw [aad z] at e;exact I4.ft a ks e
 ·have e:n=ds.length:=by omega
  subst e
  refine .inl ⟨it.stop _ r H2 P E rfl,?_⟩
  have I2:=N.grow P E C T O
  refine k (.ref c) r H2 F1 (fun b=>b=c\/b∈as) (.own (OLL l)) e1 I2 (g1.trans P) ⟨⟨c,as,rfl,M,nd,na,by omega,L,fun b=>Iff.rfl⟩,fun b z=>?_,fun b z=>?_,fun b z=>?_,fun j b z y=>?_⟩ q
  ·rcases z with rfl | z
   ·exact N.no_b f
   ·exact N.no_b (all b z).1
  ·rcases z with rfl | z
   ·exact ga
   ·exact (all b z).2
  ·rcases z with rfl | z
   ·exact ⟨_,M⟩
   ·exact D b z
  ·rcases z with rfl | z
   ·exact N.no_f f j y
   ·exact N.no_f (all b z).1 j y
end
end VL
namespace L2
open PySem PySem.W PyProof.Rows
section
variable {X:Cx}
end
end L2
namespace VL
open PySem PySem.Spec L2
section
variable {B:Bs} {env:En} {Q':PyData->En->Prop} {R:Sl->Prop} {td:TE}
end
end VL
namespace DictL
open PySem PyProof.Rows
theorem ad1:entryFor table "dict.update.loop" = some Builtin.«dict.update.loop»:=entryFor_of_tree (by kernel_rfl)
theorem ab2:plainId "dict.update.loop" = true:=by decide +kernel
section
variable {prog:Program} {w:World} {A:Around} {R:Result->Shared->Prop} {I:Addr} {fp wr:List Addr} {n:Nat} {P:Nat->Value->Prop} {St:Nat->Heap->Prop} {K:Type} [DecidableEq K] {knd:KeyKind prog w K}
theorem aod {M:Model} {E:Value->Shared->Prop} {s:Shared} {t:Addr} {k v:Value} {Q:List Value->Shared->Prop} {c:Value->Sem (List Value)} (b:s.heap.IsTuple t #[k,v]) (h:Q [k,v] s):wpAny M A ((Builtin.Dict.pairItems (.ref t)).tryCatch c) Q E s:=by
 obtain ⟨⟨cls,dd,data,sl⟩,j,a,m,hd⟩:=b
 simp only at a hd
 subst a hd
 refine wpAny_tryCatch ?_
 unfold Builtin.Dict.pairItems
 obtain ⟨i,g,d,f,os⟩:=s
 wp_walk
 exact h
theorem arz (W:Walks prog w A.in1 I fp wr n P St) (S:Addr) (m:S ∉ fp) (p:Nat->K) (E val:Nat->Value) (tup:Nat->Addr) (g:Nat->List (K × Value)) (Y:∀ i,g (i+1)=stored (g i) (p i) (val i)) (hz:∀ i,i<=n->(g i).length<=sizeLine)
  (hP:∀ i v,P i v->v=.ref (tup i)) (d:∀ i,i < n->tup i ≠ S/\tup i ∉ wr) (q:∀ i,i < n->knd.is (p i) (E i)=true) :
  ∀ (k i:Nat) (s:Shared),n - i=k->i<=n->St i s.heap->(∀ j,i<=j->j < n->s.heap.IsTuple (tup j) #[E j,val j])->s.heap.DictOf knd S (g i) ->
   (∀ h' B,h'.DictOf knd S (g n)->(∀ b o,b ≠ S->b ∉ wr->s.heap.get? b=some o->h'.get? b=some o)->R (.ok (.ret .none)) { s with heap:=h',toks:=B }) ->
   codeAny (model prog w) A (.builtin "dict.update.loop" ⟨[.ref S,.ref I,rawInt i,.none],[]⟩) R s:=by
 have l:S ∉ wr:=fun h=>m (W.sub _ h)
 intro k
 induction k with
 | zero =>
  intro i s Q hi c O F U
  have H:i=n:=by omega
  subst H
  refine aJ9 ad1 ?_
  rw [aJ4 ab2 _]
  show wpAny _ A.in1 (pyNext (.ref I) >>= _) _ _ s
  refine aI5 (W.done s _ _ c fun h' B hm=>?_)
  dsimp only
  unfold Builtin.Dict.addKeywords
  refine aI5 (aI5 (aI6 (aI6 ?_)))
  refine aI6 ?_
  exact U h' B (by obtain ⟨o,es,ep,f,r⟩:=F;exact ⟨o,es,ep,hm S o l f,r⟩) fun b o _ hb e=>hm b o hb e
 | succ k ih =>
  intro i s Q hi c O F U
  have a:i < n:=by omega
  refine aJ9 ad1 ?_
  rw [aJ4 ab2 _]
  show wpAny _ A.in1 (pyNext (.ref I) >>= _) _ _ s
  refine aI5 (W.item i s _ _ a c fun v h' B T x hm=>?_)
  have ev:=hP i v T
  subst ev
  dsimp only
  have G:h'.IsTuple (tup i) #[E i,val i]:=by
   obtain ⟨o,f,r⟩:=O i (aA6 _) a
   exact ⟨o,hm _ o (d i a).2 f,r⟩
  have N:h'.DictOf knd S (g i):=by obtain ⟨o,es,ep,f,r⟩:=F;exact ⟨o,es,ep,hm S o l f,r⟩
  refine aI5 (aJ0 ?_)
  refine aI5 (aod G ?_)
  dsimp only
  refine aJ0 (wpAny_dictSet_pairs (q i a) N (fun Z J u=>?_) (hz i hi))
  have keep:∀ b o,b ≠ S->b ∉ wr->s.heap.get? b=some o->Z.get? b=some o:=fun b o C y e=>by rw [u.2 b C];exact hm b o y e
  refine aI6 ⟨plainId_quiet ab2 _,ih (i+1) _ (by omega) a ?_ ?_ (by rw [Y];exact J) ?_⟩
  ·exact W.frame _ _ _ x fun b hb o e=>by rw [u.2 b (fun z:b=S=>m (by rw [← z];exact hb))];exact e
  ·intro j j1 D
   obtain ⟨o,f,r⟩:=O j (by omega) D
   exact ⟨o,keep _ o (d j D).1 (d j D).2 f,r⟩
  ·intro h3 X M L
   exact U h3 X M fun b o C y e=>L b o C y (keep b o C y e)
end
section
variable {prog:Program} {w:World} {A:Around} {E:Value->Shared->Prop} {s:Shared}
theorem ay9:typeLookup (.type "list") (Str.ofString "keys")=pure none:=by rw [typeLookup_type,builtinLookup_eq_fast];kernel_rfl
theorem aoe {a:Addr} {xs:Array Value} {k:Nat} {Q:Option Value->Shared->Prop} (j:s.heap.get? a=some { cls:=.type "list",data:=.seq xs k }) (m:A.handled=none)
  (h:∀ h' i,(∀ b o,s.heap.get? b=some o->h'.get? b=some o)->Q none { s with heap:=h',toks:=i }):wpAny (model prog w) A (getAttr? (.ref a) (Str.ofString "keys")) Q E s:=by
 obtain ⟨n,g,d,i,os⟩:=s
 have l:∀ c,(⟨n,g,d,c,os⟩:Shared).TypeIs (.ref a) "list":=fun _=>⟨_,j,rfl⟩
 have f1:=sub_AttributeError
 have p:=PySem.F.slot_list_getattribute.lookup
 have u:=PySem.F.slot_list_getattribute.bind (.ref a)
 have q:=am_list_getattr_none
 unfold getAttr? getAttrBy? getAttrBy
 repeat (any_goals (first | assumption | exact l _ | ((with_reducible show wpAny _ _ (call (Value.builtin "list.__getattribute__") _ _) _ _ _);refine call_meets PySem.F.slot_list_getattribute (l _) am_entry_list_getattribute (PySem.F.args_list_getattribute_2 _ _) (meets_getattribute_miss_list a xs k #[] (Str.ofString "keys") _ ay9 (by decide +kernel) (by size_fits)) ⟨j,m,fun h' c e f=>?_⟩) | wp_step))
 obtain ⟨t',r,v⟩:=f.there
 show wpAny _ _ (getattributeRaised _ _ _ _ _ _ _) _ _ _
 unfold getattributeRaised
 repeat (any_goals (first | assumption | wp_step))
 exact h _ _ f.keeps
end
section
variable {prog:Program} {w:World} {A:Around} {E:Value->Shared->Prop} {s:Shared} {K:Type} [DecidableEq K] {knd:KeyKind prog w K}
theorem call_dict_list {l:Addr} {items:Array Value} {nl:Nat} {Q:Value->Shared->Prop} (f:Nat->K) (H val:Nat->Value) (tup:Nat->Addr) (n:Nat->List (K × Value)) (S:n 0=[]) (R:∀ i,n (i+1)=stored (n i) (f i) (val i)) (hz:∀ i,i<=items.size->(n i).length<=sizeLine)
  (hh:A.handled=none) (q:s.heap.get? l=some { cls:=.type "list",data:=.seq items nl }) (T:∀ i v,items[i]?=some v->v=Value.ref (tup i)) (O:∀ j,j < items.size->s.heap.IsTuple (tup j) #[H j,val j]) (x:∀ i,i < items.size->knd.is (f i) (H i)=true)
  (h:∀ (h':Heap) (J:Nat),h'.DictOf knd s.heap.objs.size (n items.size)->(∀ b o,s.heap.get? b=some o->h'.get? b=some o)->Q (.ref s.heap.objs.size) { s with heap:=h',toks:=J }) :
  wpAny (model prog w) A (call (.type "dict") [.ref l]) Q E s:=by
 refine callType_codes (Q₁:=fun obj a=>obj=.ref s.heap.objs.size/\a={ s with heap:=s.heap.push { cls:=.type "dict",data:=.dict #[] } }) F.kt_called_dict (F.kt_typeCall_dict_1 _) F.entry_dict_init (kt_code_dict_new (.ref l) ⟨rfl,rfl⟩) fun obj a B=>?_
 obtain ⟨rfl,rfl⟩:=B
 have N:(s.heap.push { cls:=.type "dict",data:=.dict #[] }).get? s.heap.objs.size=some { cls:=.type "dict",data:=.dict #[] }:=aI9 _ rfl
 refine ⟨⟨_,N,rfl⟩,F.args_dict_init_2 _ _,?_⟩
 have c:(s.heap.push { cls:=.type "dict",data:=.dict #[] }).get? l=some { cls:=.type "list",data:=.seq items nl }:=aI7 _ q
 have U:(Value.type "list" == Value.type "dict")=false:=by decide
 unfold Builtin.«dict.__init__» Builtin.Dict.updateCommon Builtin.Dict.updateFrom
 obtain ⟨p,g,d,J,os⟩:=s
 dsimp only at *
 generalize hPI:pyIter=PI
 generalize hGA:getAttr?=GA
 wp_walk
 subst hGA hPI
 refine aoe (s:={ heap:=p.push { cls:=.type "dict",data:=.dict #[] },gens:=g,drawn:=d,toks:=J,os:=os }) c hh fun m L D=>?_
 rw [aF1 (show (none:Option Value).isNone=true from rfl)]
 refine aI5 (wpAny_rule ?_)
 have y:m.IsList l items:=⟨_,D _ _ c,rfl,nl,rfl⟩
 have C:l < p.objs.size:=aI8 q
 have u:=D _ _ N
 have hsz:p.objs.size < m.objs.size:=aI8 u
 refine aI5 (aJ8 (s:={ heap:=m,gens:=g,drawn:=d,toks:=L,os:=os }) y ?_)
 refine aI6 ⟨plainId_quiet ab2 _,?_⟩
 have z:l ≠ m.objs.size:=aB5 (Nat.lt_trans C hsz)
 have G:p.objs.size ∉ [m.objs.size,l]:=by
  simp only [aA8,List.not_mem_nil,or_false,not_or]
  exact ⟨aB5 hsz,Nat.ne_of_gt C⟩
 have tl:∀ j,j < items.size->tup j < p.objs.size:=fun j I=>let ⟨_,e,_⟩:=O j I;aI8 e
 refine arz (A:=A.in1) (knd:=knd) (Walks.list (A:=A.in1.in1) hh m.objs.size l z items) p.objs.size G f H val tup n R hz T (fun i hi=>⟨aB5 (tl i hi),by simp only [aC1];exact aB5 (Nat.lt_trans (tl i hi) hsz)⟩) x (items.size - 0) 0 _ (by omega) (aF6 _)
  ⟨⟨_,aI9 _ rfl,rfl,rfl⟩,y.push _⟩ (fun j _ I=>?_) ?_ fun h' M P kp=>?_
 ·obtain ⟨o,e,r⟩:=O j I
  exact ⟨o,aI7 _ (D _ _ (aI7 _ e)),r⟩
 ·rw [S]
  exact ⟨_,#[],0,aI7 _ u,⟨rfl,rfl,rfl⟩,rfl,fun e W=>by simp at W,.nil,List.nodup_nil⟩
 ·refine ⟨rfl,h h' M P fun b o e=>kp b o (aB5 (aI8 e)) (by simp only [aC1];exact aB5 (Nat.lt_trans (aI8 e) hsz)) (aI7 _ (D _ _ (aI7 _ e)))⟩
end
end DictL
namespace L2
open PySem PySem.W PyProof.Rows
def dkOf:List (Int × V)->List (Key × V):=fun kvs=>kvs.map fun p=>(.inl p.1,p.2)
def ar0:List V->Hp->VK->Prop:=fun xs H Q=>∃ (a:Addr) (ts:List Addr) (kvs:List (Int × V)),xs=[.ref a]/\H a=some (.lst (ts.map V.ref))/\ts.length=kvs.length/\kvs.length < 4000/\(kvs.map (·.1)).Nodup /\
 (∀ (i:Nat) t kv,ts[i]?=some t->kvs[i]?=some kv->H t=some (.tup [.int kv.1,kv.2]))/\∀ p,H p=none->Q (.ref p) (upd H p (.dK (dkOf kvs)))
section
variable {K:Type} [DecidableEq K]
def kfOf (key:Nat->K) (val:Nat->Value):Nat->List (K × Value)
 | 0=>[]
 | i+1=>stored (kfOf key val i) (key i) (val i)
theorem aml (a:Nat->K) (val:Nat->Value):∀ i,(kfOf a val i).length<=i
 | 0=>aA6 _
 | i+1=>aC9 (stored_length_le _ _ _) (Nat.succ_le_succ (aml a val i))
theorem amm {kvs:List (K × Value)} {k:K} (h:∀ p∈kvs,p.1 ≠ k):valueAt kvs k=none:=by
 unfold valueAt
 rw [Option.map_eq_none_iff,List.find?_eq_none]
 intro p a e
 exact h p a (by simpa using e)
theorem aof (a:Nat->K) (val:Nat->Value):∀ n,(∀ i j,i < n->j < n->i ≠ j->a i ≠ a j)->kfOf a val n=(List.range n).map fun i=>(a i,val i)
 | 0,_=>rfl
 | n+1,h=>by
  have c:=aof a val n fun i j hi d=>h i j (by omega) (by omega)
  show stored (kfOf a val n) (a n) (val n)=_
  rw [c,stored_absent,List.range_succ,aE1]
  ·rfl
  ·refine amm fun p b=>?_
   obtain ⟨i,hi,rfl⟩:=aB6.mp b
   have:=aB8.mp hi
   exact h i n (by omega) (by omega) (by omega)
end
theorem ar1 {k:Nat->Key} {g:Nat->V} {g':Nat->Value}:∀ {l:List Nat},(∀ i∈l,RelV (g i) (g' i))->KV (l.map fun i=>(k i,g i)) (l.map fun i=>(k i,g' i))
 | [],_ => .nil
 | i :: l,h => .cons ⟨rfl,h i aB7⟩ (ar1 fun j a=>h j (aB4 _ a))
section
variable {X:Cx}
theorem apx (P:X.calm=true):aa1 X (.type "dict") ar0:=by
 intro pins s σ H xs us Q I r h
 obtain ⟨a,b,kvs,rfl,ha,S,R,hn,N,q⟩:=h
 obtain ⟨u,rfl,x⟩:=ab6 r
 cases x
 obtain ⟨hz,its,nl,E,e⟩:=(show ObjOk X.prog X.w H s.heap a (.lst (b.map V.ref)) from I.hok a _ ha)
 have c:its.length=b.length:=by have:=E.length;rw [aA3] at this;omega
 have n:∀ i:Nat,∃ p:Value × Value,i < b.length->s.heap.IsTuple (b.getD i 0) #[p.1,p.2]/\(∃ t,p.1=.int ((kvs.getD i (0,.non)).1) t)/\RelV (kvs.getD i (0,.non)).2 p.2:=fun i=>by
  by_cases hi:i < b.length
  ·have C:b[i]?=some (b.getD i 0):=by rw [aD2,aA0 hi];rfl
   have O:kvs[i]?=some (kvs.getD i (0,.non)):=by rw [aD2,aA0 (by omega)];rfl
   obtain ⟨_,L,l,p2⟩:=(show ObjOk X.prog X.w H s.heap _ (.tup _) from I.hok _ _ (N i _ _ C O))
   cases l with
   | cons r1 l =>
    cases l with
    | cons l r3 =>
     cases r3
     exact ⟨(_,_),fun _=>⟨p2,r1,l⟩⟩
  ·exact ⟨(.none,.none),fun h=>absurd h hi⟩
 obtain ⟨f,hf⟩:=Classical.skolem.mp n
 have z:∀ i j,i < b.length->j < b.length->i ≠ j->(Sum.inl (kvs.getD i (0,.non)).1:Key) ≠ Sum.inl (kvs.getD j (0,.non)).1:=fun i j hi G B e=>by
  have e:=Sum.inl.inj e
  have g:=aG3.mp hn
  rw [aD2,aD2,aA0 (show i < kvs.length by omega),aA0 (show j < kvs.length by omega)] at e
  rcases Nat.lt_or_gt_of_ne B with d | d
  ·exact g i j (by rw [aA3];omega) (by rw [aA3];omega) d (by simpa using e)
  ·exact g j i (by rw [aA3];omega) (by rw [aA3];omega) d (by simpa using e.symm)
 refine DictL.call_dict_list (knd:=aa4 X.prog X.w) (items:=its.toArray) (nl:=nl) (fun i => .inl (kvs.getD i (0,.non)).1) (fun i=>(f i).1) (fun i=>(f i).2) (fun i=>b.getD i 0) (kfOf (fun i => .inl (kvs.getD i (0,.non)).1) fun i=>(f i).2) rfl (fun i=>rfl) (fun i hi=>aC9 (aml _ _ i) (aC9 hi (by rw [sizeLine_eq];simp;omega)))
  (I.ok.hd P) e (fun i v m=>?_) (fun j G=>(hf j (by simpa [c] using G)).1) (fun i hi=>?_) fun h' M F kp=>?_
 ·have m:its[i]?=some v:=by simpa using m
  have hi:=(aA1.mp m).1
  have C:(b.map V.ref)[i]?=some (.ref (b.getD i 0)):=by rw [aA5,aD2,aA0 (by omega)];rfl
  obtain ⟨u,D,x⟩:=E.get C
  rw [m] at D
  cases D
  exact x
 ·obtain ⟨_,⟨t,K⟩,_⟩:=hf i (by simpa [c] using hi)
  rw [K]
  exact ag5 _ _ _ _
 ·have y:h'.DictOf (aa4 X.prog X.w) s.heap.objs.size ((List.range b.length).map fun i=>(Sum.inl (kvs.getD i (0,.non)).1,(f i).2)):=by
   rw [show its.toArray.size=b.length by simp [c],aof _ _ _ z] at F
   exact F
  have A:KV (dkOf kvs) ((List.range b.length).map fun i=>((Sum.inl (kvs.getD i (0,.non)).1:Key),(f i).2)):=by
   have J:dkOf kvs=(List.range b.length).map fun i=>((Sum.inl (kvs.getD i (0,.non)).1:Key),(kvs.getD i (0,.non)).2):=by
    refine aF8 fun i=>?_
    unfold dkOf
    rw [aA5,aA5]
    by_cases hi:i < b.length
    ·rw [aD6 hi,aA0 (show i < kvs.length by omega),aH8,aH8,aD2,aA0 (show i < kvs.length by omega)]
     rfl
    ·rw [aD9 (show kvs.length<=i by omega),aD9 (show (List.range b.length).length<=i by rw [aD8];omega)]
     rfl
   rw [J]
   exact ar1 fun i hi=>(hf i (aB8.mp hi)).2.2
  refine ⟨.ref s.heap.objs.size,_,I.laid (t':=M) (o:=.dK (dkOf kvs)) kp (aA6 _) ?_,rfl,q _ (I.hok.fresh (aA6 _))⟩
  refine ⟨by unfold dkOf;rw [aA3,sizeLine_eq];omega,beq_eq_false_iff_ne.mpr (Ne.symm (aB5 I.big)),_,A,y⟩
end
end L2
namespace VL
open PySem PySem.Spec L2
def kvI {α:Type}:Nat->List α->List (Int × α)
 | _,[]=>[]
 | k,x :: xs=>((k:Int),x) :: kvI (k+1) xs
theorem aog {α:Type}:∀ (k:Nat) (xs:List α),(kvI k xs).length=xs.length
 | _,[]=>rfl
 | k,_ :: xs=>by rw [kvI,aE2,aE2,aog]
theorem aoh {α:Type}:∀ (k:Nat) (xs:List α) (i:Nat),(kvI k xs)[i]?=xs[i]?.map fun x=>(((k+i:Nat):Int),x)
 | _,[],i=>by simp [kvI]
 | k,x :: xs,0=>by simp [kvI]
 | k,x :: xs,i+1=>by
  rw [kvI,aH7,aH7,aoh (k+1) xs i,show k+1+i=k+(i+1) by omega]
theorem ajz {α:Type}:∀ (k:Nat) (xs:List α),((kvI k xs).map (·.1)).Nodup/\∀ p∈kvI k xs,(k:Int)<=p.1
 | _,[]=>⟨List.nodup_nil,fun p a=>by simp [kvI] at a⟩
 | k,x :: xs=>by
  obtain ⟨c,b⟩:=ajz (k+1) xs
  refine ⟨?_,fun p a=>?_⟩
  ·rw [kvI,aD0,aI0]
   refine ⟨fun hm=>?_,c⟩
   obtain ⟨p,a,e⟩:=aB6.mp hm
   have:=b p a
   simp only at e
   omega
  ·rw [kvI] at a
   rcases aA8.mp a with rfl | a
   ·exact Int.le_refl _
   ·have:=b p a;omega
theorem aoi:∀ (k:Nat) (xs:List V) (i:Nat),valV (dkOf (kvI k xs)) (.inl ((k+i:Nat):Int))=xs[i]?
 | _,[],i=>rfl
 | k,x :: xs,0=>by
  rw [kvI]
  exact afe (p:=(Sum.inl (k:Int),x)) rfl
 | k,x :: xs,i+1=>by
  have e:¬ ((Sum.inl (k:Int):Key)=Sum.inl ((k+(i+1):Nat):Int)):=fun e=>by have:=Sum.inl.inj e;omega
  rw [kvI]
  show valV ((Sum.inl (k:Int),x) :: dkOf (kvI (k+1) xs)) _=_
  rw [aff (p:=(Sum.inl (k:Int),x)) e,aH7,← aoi (k+1) xs i,show k+1+i=k+(i+1) by omega]
@[reducible] def kvD (ds:List PyData):List (Key × PyData):=(kvI 0 ds).map fun p=>(.inl p.1,p.2)
theorem amn:∀ (k:Nat) (xs:List PyData) (i:Nat),valD ((kvI k xs).map fun p=>((.inl p.1:Key),p.2)) (.inl ((k+i:Nat):Int))=xs[i]?
 | _,[],i=>rfl
 | k,x :: xs,0=>by simp [kvI,valD]
 | k,x :: xs,i+1=>by
  have e:¬ ((k:Int)=((k+(i+1):Nat):Int)):=fun e=>by omega
  rw [kvI,aH7,← amn (k+1) xs i,show k+1+i=k+(i+1) by omega]
  simp only [valD,aD0,List.find?_cons]
  rw [aD4 (fun z:(Sum.inl (k:Int):Key)=Sum.inl ((k+(i+1):Nat):Int)=>e (Sum.inl.inj z))]
theorem aoj {xs:List PyData} {i:Int} {d:PyData} (a:0<=i) (h:xs[i.toNat]?=some d):valD (kvD xs) (.inl i)=some d:=by
 have:=amn 0 xs i.toNat
 rw [show ((0+i.toNat:Nat):Int)=i by omega] at this
 exact this.trans h
theorem amo {xs:List PyData} (h:xs ≠ []):kvD xs ≠ []:=by
 cases xs with
 | nil=>exact absurd rfl h
 | cons x xs=>exact List.cons_ne_nil _ _
def ODL (dss:List (List PyData)):Own where
 P:=fun G H v F=>∃ (a:Addr) (as:List Addr),v=.ref a/\H a=some (.dK (dkOf (kvI 0 (as.map V.ref))))/\as.Nodup/\a ∉ as/\as.length=dss.length/\(∀ (i:Nat) b ds,as[i]?=some b->dss[i]?=some ds->∃ vs,H b=some (.lst vs)/\Rps G vs ds)/\∀ b,F b ↔ b=a\/b∈as
 mono:=fun ⟨a,as,e,h,n1,n2,l,r,f⟩ g hh=>⟨a,as,e,hh a _ ((f a).mpr (.inl rfl)) h,n1,n2,l,fun i b ds hb hd=>by
  obtain ⟨vs,h1,h2⟩:=r i b ds hb hd
  exact ⟨vs,hh b _ ((f b).mpr (.inr (aA2 hb))) h1,h2.same g⟩,f⟩
 dom:=fun ⟨a,as,e,h,n1,n2,l,r,f⟩ b z=>by
  rcases (f b).mp z with rfl | z
  ·exact ⟨_,h⟩
  ·obtain ⟨i,hi,e⟩:=aH2.mp z
   have hb:as[i]?=some b:=by rw [aA0 hi,e]
   obtain ⟨vs,h1,_⟩:=r i b _ hb (aA0 (by rw [← l];exact hi))
   exact ⟨_,h1⟩
theorem ar2 {G:Hp}:∀ (k:Nat) {vs:List V} {ds:List PyData},vs.length=ds.length->(∀ (i:Nat) v d,vs[i]?=some v->ds[i]?=some d->Rp G v d)->RpK G (dkOf (kvI k vs)) ((kvI k ds).map fun p=>(.inl p.1,p.2))
 | _,[],[],_,_ => .nil
 | _,[],_ :: _,h,_=>by simp at h
 | _,_ :: _,[],h,_=>by simp at h
 | k,v :: vs,d :: ds,h,q => .cons (q 0 v d rfl rfl) (ar2 (k+1) (by simpa using h) fun i v d b a=>q (i+1) v d (by simpa using b) (by simpa using a))
theorem aok {c:List (List PyData)}:Frz (ODL c) (abj (kvD (c.map .list))):=fun G H v F ⟨a,as,e,h,p,q,l,r,f⟩ n g=>by
 subst e
 refine .dk (by rw [afi ((f a).mpr (.inl rfl))];exact h) (ar2 0 (by simp [l]) fun i u d j hd=>?_) rfl
 rw [aA5] at j hd
 cases hb:as[i]? with
 | none=>rw [hb] at j;cases j
 | some b =>
  cases hds:c[i]? with
  | none=>rw [hds] at hd;cases hd
  | some ds =>
   rw [hb] at j;rw [hds] at hd
   cases j;cases hd
   obtain ⟨vs,o,m⟩:=r i b ds hb hds
   exact .lst (by rw [afi ((f b).mpr (.inr (aA2 hb)))];exact o) (m.same (abm n))
section
variable {B:Bs} {env:En} {QO:Sl->En->Prop} {Q':PyData->En->Prop} {D':VEnds} {K:Frag} {i:Nat}
theorem ar3 {src:List (Option Nat)} {wi:TI} (h:EvI B wi env fun ds e1=>∃ n:Nat,ds=rngD 0 n/\n<=3000/\QO (.own (ODL (List.replicate n []))) e1) :
  EvO B (tCB ar0 (aba (tLC (none :: src) wi (abf 0) tYes (tTup (aba (tVar 0) (aba (tLst tNil) tNil)))) tNil)) env QO:=fun σ G H F Q I k=>by
 refine h σ G H F _ I fun J G1 T F1 ds e1 U g1 it ⟨N,ed,a8,q⟩ d r=>?_
 subst ed
 have hL:(rngD 0 N).length=N:=ab5
 let W:Nat->List V->St->Hp->Prop:=fun n ys σI H=>∃ (K as:List Addr) (s:Hp),ys=K.map V.ref/\K.length=n/\as.length=n/\as.Nodup/\d ∉ as/\0 < σI.length /\
  (∀ (i:Nat) t b,K[i]?=some t->as[i]?=some b->H t=some (.tup [.int (i:Int),.ref b]))/\(∀ t∈K,T t=none/\t ≠ d/\t ∉ as) /\
  (∀ b∈as,T b=none/\s b=none/\H b=some (.lst []))/\H d=some (.lst ys)/\s d=none/\Same G1 s/\Same s H/\Same T H/\(∀ a o,s a=some o->G1 a=some o\/T a=none)/\FT s H
 refine ⟨fun n m ys σI H=>m=N - n/\n<=N/\W n ys σI H,⟨N,by simp,aF6 _,[],[],G1,rfl,rfl,rfl,List.nodup_nil,by simp,by simp [pick],fun i t b h=>by simp at h,fun t D=>by simp at D,fun b hb=>by simp at hb,aaf,U.no_g r,Same.refl _,U.gh.trans (abg r),abg r,fun a o e => .inl e,fun a ks e=>?_⟩,?_⟩
 ·by_cases z:a=d
  ·subst z;rw [aaf] at e;cases e
  ·rw [aad z] at e;exact U.ft a ks e
 rintro n m ys σI H2 ⟨rfl,hn,K,as,s,rfl,hl,L,nd,na,a1,C,a2,all,l,ga,X,M,E,a0,R⟩
 refine ⟨l,?_⟩
 by_cases hlt:n < N
 ·refine .inr ⟨it.go n s H2 X M (by omega),fun Y Z H'=>W (n+1) Y Z H',fun Y Z H' hw=>⟨N - (n+1),by omega,rfl,hlt,hw⟩,fun x H3 y=>?_⟩
  obtain ⟨G3,o⟩:=it.yld n s H2 x H3 (.int (0+(n:Int))) X M R (by unfold rngD;rw [aA5,aD6 hlt];rfl) y
  have rx:=o.ok.1
  cases rx
  refine ae5 (af0 (ab9 (aqy (ae6 (alk (v:=.int (0+(n:Int))) (by rw [aD1,aF1 rfl,aF1 a1]) (ae6 (aqz (aec ⟨by decide,fun p g=>aec ⟨show (2:Nat)<=sizeLine by rw [sizeLine_eq];decide,fun t D=>?_⟩⟩))))))))
  have n2:H2 p=none:=aav o.hh g
  have n1:T p=none:=aav E n2
  have tp:t ≠ p:=fun e=>by rw [e,aaf] at D;cases D
  rw [aad tp] at D
  have t2:H2 t=none:=aav o.hh D
  have t1:T t=none:=aav E t2
  have pa:p ≠ d:=(aaj (o.hh _ _ l) g).symm
  have ta:t ≠ d:=(aaj (o.hh _ _ l) D).symm
  have a7:p ∉ as:=fun z=>by
   have:=o.hh _ _ (all p z).2.2
   rw [this] at g;cases g
  have a3:t ∉ as:=fun z=>by
   have:=o.hh _ _ (all t z).2.2
   rw [this] at D;cases D
  have old:∀ a u,H2 a=some u->a ≠ d->upd (upd (upd H3 p (.lst [])) t (.tup [.int (0+(n:Int)),.ref p])) d (.lst (K.map V.ref ++ [.ref t])) a=some u:=fun a u e aa=>by
   have e3:=o.hh _ _ e
   rw [aad aa,aad (aaj e3 D),aad (aaj e3 g)]
   exact e3
  have a5:∀ c∈K,∃ u,H2 c=some u:=fun c f=>by
   obtain ⟨i,hi,e⟩:=aH2.mp f
   have S:K[i]?=some c:=by rw [aA0 hi,e]
   exact ⟨_,C i c _ S (aA0 (by omega))⟩
  refine ⟨by rw [aad ta.symm,aad pa.symm];exact o.hh _ _ l,by rw [aA3,hl];exact big (by omega),K ++ [t],as ++ [p],G3,by simp,by simp [hl],by simp [L],?_,?_,by rw [List.length_set];exact a1,fun i c b f hb=>?_,fun c f=>?_,fun b hb=>?_,aaf,?_,X.trans o.gg,fun a u e=>?_,fun a u e=>?_,fun a u e=>?_,fun a ks e=>?_⟩
  ·rw [aE4]
   exact ⟨nd,by simp,fun x hx y hy=>by simp at hy;subst hy;intro e;subst e;exact a7 hx⟩
  ·intro z
   rcases aA7.mp z with z | z
   ·exact na z
   ·exact pa (aC1.mp z).symm
  ·by_cases hi:i < n
   ·rw [aC2 (by omega)] at f hb
    have P:=C i c b f hb
    exact old c _ P (a2 c (aA2 f)).2.1
   ·have a6:i=n:=by
     have:=(aA1.mp f).1
     simp at this
     omega
    subst a6
    rw [aC7 (by omega),hl,aI1] at f
    rw [aC7 (by omega),L,aI1] at hb
    cases f
    cases hb
    rw [aad ta,aaf,aI2]
  ·rcases aA7.mp f with f | f
   ·obtain ⟨S,P,h3⟩:=a2 c f
    refine ⟨S,P,fun z=>?_⟩
    rcases aA7.mp z with z | z
    ·exact h3 z
    ·have e:=aC1.mp z
     subst e
     obtain ⟨u,e⟩:=a5 c f
     rw [e] at n2;cases n2
   ·have e:=aC1.mp f
    subst e
    refine ⟨t1,ta,fun z=>?_⟩
    rcases aA7.mp z with z | z
    ·exact a3 z
    ·exact tp (aC1.mp z)
  ·have gb:∀ b,s b=none->(∃ u,H2 b=some u)->G3 b=none:=fun b S z_=>by
    obtain ⟨u,P⟩:=z_
    cases e:G3 b with
    | none=>rfl
    | some w =>
     rcases o.gn b w e with e | e
     ·rw [S] at e;cases e
     ·rw [P] at e;cases e
   rcases aA7.mp hb with hb | hb
   ·obtain ⟨S,P,h3⟩:=all b hb
    exact ⟨S,gb b P ⟨_,h3⟩,old b _ h3 (fun z:b=d=>na (by rw [← z];exact hb))⟩
   ·have e:b=p:=by simpa using hb
    subst e
    exact ⟨n1,aav o.gh g,by rw [aad pa,aad tp.symm,aaf]⟩
  ·cases e:G3 d with
   | none=>rfl
   | some w =>
    rcases o.gn d w e with e | e
    ·rw [ga] at e;cases e
    ·rw [l] at e;cases e
  ·have ap:a ≠ p:=aaj (o.gh a u e) g
   have a4:a ≠ t:=aaj (o.gh a u e) D
   have aa:a ≠ d:=by
    rintro rfl
    rcases o.gn _ u e with e | e
    ·rw [ga] at e;cases e
    ·rw [l] at e;cases e
   rw [aad aa,aad a4,aad ap];exact o.gh a u e
  ·exact old a u (E a u e) (aaj e r)
  ·rcases o.gn a u e with e | e
   ·exact a0 a u e
   ·exact .inr (aav E e)
  ·by_cases z:a=d
   ·subst z;rw [aaf] at e;cases e
   ·rw [aad z] at e
    by_cases y:a=t
    ·subst y
     rw [aaf] at e
     exfalso
     have e:=HO.tup.inj (aC5 e)
     match ks,e with
     | [],e=>simp at e
     | [_],e=>simp at e
     | [_,.inl _],e=>simp [kV] at e
     | [_,.inr _],e=>simp [kV] at e
     | _ :: _ :: _ :: _,e=>simp at e
    ·rw [aad y] at e
     by_cases y:a=p
     ·subst y;rw [aaf] at e;cases e
     ·rw [aad y] at e;exact o.ft R a ks e
 ·have e:n=N:=by omega
  subst e
  refine .inl ⟨it.stop _ s H2 X M hL.symm,?_⟩
  have O:=U.grow X M E a0 R
  have ke:(kvI 0 (as.map V.ref)).length=n:=by rw [aog,aA3];exact L
  refine aec ⟨d,K,kvI 0 (as.map V.ref),rfl,l,by omega,by omega,(ajz 0 _).1,fun i c kv f A=>?_,fun p g=>?_⟩
  ·rw [aoh,aA5] at A
   cases hb:as[i]? with
   | none=>rw [hb] at A;cases A
   | some b =>
    rw [hb] at A
    cases A
    rw [Nat.zero_add]
    exact C i c b f hb
  ·have J:=O.aside (p:=p) (o:=.dK (dkOf (kvI 0 (as.map V.ref)))) (fun _ z=>nomatch z) (O.no_g g) (fun j z=>O.no_f g j z) (O.no_b g)
   have pn:p ∉ as:=fun z=>by have:=(all p z).2.2;rw [this] at g;cases g
   refine k (.ref p) s _ F1 (fun b=>b=p\/b∈as) (.own (ODL (List.replicate n []))) e1 J (g1.trans X) ⟨⟨p,as,rfl,aaf,nd,pn,by simp [L],fun i b a9 hb hd=>?_,fun b=>Iff.rfl⟩,fun b z=>?_,fun b z=>?_,fun b z=>?_,fun j b z y=>?_⟩ q
   ·rw [aH3] at hd
    split at hd
    ·cases hd
     have hm:=aA2 hb
     exact ⟨[],by rw [aad (fun z:b=p=>pn (z ▸ hm))];exact (all b hm).2.2,.nil⟩
    ·cases hd
   ·rcases z with rfl | z
    ·exact O.no_b g
    ·exact U.no_b (all b z).1
   ·rcases z with rfl | z
    ·exact O.no_g g
    ·exact (all b z).2.1
   ·rcases z with rfl | z
    ·exact ⟨_,aaf⟩
    ·exact ⟨_,by rw [aad (fun e:b=p=>pn (e ▸ z))];exact (all b z).2.2⟩
   ·rcases z with rfl | z
    ·exact O.no_f g j y
    ·exact U.no_f (all b z).1 j y
theorem aih {d:List (List PyData)} {l j n:Nat} {k:Int} {y:PyData} {ds:List PyData} (e:env[i]?=some (some (.own (ODL d)))) (ek:env[l]?=some (some (.st (.int k)))) (S:env[j]?=some (some (.st y)))
  (P:(n:Int)=k) (hd:d[n]?=some ds) (hl:ds.length<=999999) (q:Q' .none (env.set i (some (.own (ODL (d.set n (ds ++ [y]))))))):Ev B (tBM K "list" ad2 (ako (tVar i) (tVar l)) (aba (tVar j) tNil)) env Q':=fun σ G H F Q I W=>by
 obtain ⟨v,N,⟨a,as,rfl,h,E,M,ln,r,f⟩,_⟩:=I.sl i _ e
 obtain ⟨vk,w,R,_⟩:=I.sl l _ ek
 obtain ⟨vy,x,Z,_⟩:=I.sl j _ S
 cases R
 have hn:n < d.length:=(aA1.mp hd).1
 have hb:as[n]?=some (as[n]'(by omega)):=aA0 _
 generalize as[n]'(by omega)=b at hb
 have s:b∈as:=aA2 hb
 obtain ⟨vs,O,L⟩:=r n b ds hb hd
 have D:valV (dkOf (kvI 0 (as.map V.ref))) (.inl k)=some (.ref b):=by
  have:=aoi 0 (as.map V.ref) n
  rw [Nat.zero_add,P,aA5,hb] at this
  exact this
 refine ⟨_,N,_,w,a,.ref b,rfl,.inl ⟨_,.inl k,.inl h,rfl,D.symm⟩,.inl ⟨rfl,_,SqL.of O⟩,_,x,aep O (by rw [L.length];exact big (by omega)) ?_⟩
 have C:a ≠ b:=fun z=>M (z ▸ s)
 have J:=I.change (A:=ODL (d.set n (ds ++ [y]))) (H2:=upd H b (.lst (vs ++ [vy]))) (F2:=F i) (os':=.own (ODL (d.set n (ds ++ [y])))) i e N (fun c o p u=>by rw [aad (fun z:c=b=>p ((f c).mpr (.inr (by rw [z];exact s))))];exact u)
  (fun c o u=>by
   by_cases z:c=b
   ·rw [z];exact ⟨_,aaf⟩
   ·rw [aad z];exact ⟨o,u⟩)
  (fun c z=>⟨.inl z,by
   by_cases y:c=b
   ·rw [y];exact ⟨_,aaf⟩
   ·rw [aad y];exact I.fo i c z⟩) ?_ (fun c X e=>by
   by_cases z:c=b
   ·subst z;rw [aaf] at e;cases e
   ·rw [aad z] at e;exact I.ft c X e) (.inl ⟨rfl,_,rfl⟩)
 ·exact W _ G _ _ _ _ J (Same.refl _) .non q
 ·refine ⟨a,as,rfl,by rw [aad C];exact h,E,M,by simp [ln],fun m c es p g=>?_,f⟩
  by_cases hm:m=n
  ·subst hm
   rw [hb] at p;cases p
   rw [aD1,aF1 rfl,aF1 hn] at g
   cases g
   exact ⟨_,aaf,L.append (.cons Z .nil)⟩
  ·rw [aD1,aF2 (fun z=>hm z.symm)] at g
   obtain ⟨us,h3,h4⟩:=r m c es p g
   refine ⟨us,?_,h4⟩
   rw [aad]
   ·exact h3
   ·rintro rfl
    have i1:=(aA1.mp hb)
    have i2:=(aA1.mp p)
    obtain ⟨U,e1⟩:=i1
    obtain ⟨Y,T⟩:=i2
    exact hm (nodup_ix E Y U (T.trans e1.symm))
end
end VL
namespace DictL
open PySem PyProof.Rows
section
variable {prog:Program} {w:World} {A:Around} {R:Result->Shared->Prop} {I:Addr} {fp wr:List Addr} {n:Nat} {P:Nat->Value->Prop} {St:Nat->Heap->Prop} {K:Type} [DecidableEq K] {knd:HeapKind prog w K}
theorem apy (W:Walks prog w A.in1 I fp wr n P St) (S:Addr) (u:S ∉ fp) (hu:knd.room A.in1) (T:Heap) (m:Nat->K) (F:Nat->Addr) (val:Nat->Value) (tup:Nat->Addr) (g:Nat->List (K × Addr × Value)) (hk:∀ i,g (i+1)=storedH (g i) (m i) (F i) (val i)) (hz:∀ i,i<=n->(g i).length<=sizeLine)
  (hP:∀ i v,P i v->v=.ref (tup i)) (y:∀ i x,x∈g i->∃ j,j < i/\x.1=m j/\x.2.1=F j) (q:∀ i,i < n->tup i ≠ S/\tup i ∉ wr) (l:∀ h',(∀ b o,b ≠ S->b ∉ wr->T.get? b=some o->h'.get? b=some o)->∀ i,i < n->knd.is h' (m i) (F i)) :
  ∀ (k i:Nat) (s:Shared),n - i=k->i<=n->St i s.heap->(∀ b o,b ≠ S->b ∉ wr->T.get? b=some o->s.heap.get? b=some o)->(∀ j,i<=j->j < n->s.heap.IsTuple (tup j) #[.ref (F j),val j])->s.heap.DictOfH knd S (g i)->
   (∀ h' H,h'.DictOfH knd S (g n)->(∀ b o,b ≠ S->b ∉ wr->s.heap.get? b=some o->h'.get? b=some o)->R (.ok (.ret .none)) { s with heap:=h',toks:=H }) ->
   codeAny (model prog w) A (.builtin "dict.update.loop" ⟨[.ref S,.ref I,rawInt i,.none],[]⟩) R s:=by
 have J:S ∉ wr:=fun h=>u (W.sub _ h)
 have E:∀ (h h':Heap) (i:Nat),i<=n->(∀ b o,b ≠ S->b ∉ wr->T.get? b=some o->h'.get? b=some o)->h.DictOfH knd S (g i)->(∀ b o,b ∉ wr->h.get? b=some o->h'.get? b=some o)->h'.DictOfH knd S (g i):=fun h h' i hi c B hm=>by
  obtain ⟨o,es,ep,G,g1,g2,g3,_,g5⟩:=B
  refine ⟨o,es,ep,hm S o J G,g1,g2,g3,fun x hx=>?_,g5⟩
  obtain ⟨j,hj,e1,e2⟩:=y i x hx
  rw [e1,e2]
  exact l h' c j (by omega)
 intro k
 induction k with
 | zero =>
  intro i s Z hi p c Y B hR
  have N:i=n:=by omega
  subst N
  refine aJ9 ad1 ?_
  rw [aJ4 ab2 _]
  show wpAny _ A.in1 (pyNext (.ref I) >>= _) _ _ s
  refine aI5 (W.done s _ _ p fun h' H hm=>?_)
  dsimp only
  unfold Builtin.Dict.addKeywords
  refine aI5 (aI5 (aI6 (aI6 ?_)))
  refine aI6 ?_
  exact hR h' H (E _ _ _ (aA6 _) (fun b o d a e=>hm b o a (c b o d a e)) B hm) fun b o _ hb e=>hm b o hb e
 | succ k ih =>
  intro i s Z hi p c Y B hR
  have f:i < n:=by omega
  refine aJ9 ad1 ?_
  rw [aJ4 ab2 _]
  show wpAny _ A.in1 (pyNext (.ref I) >>= _) _ _ s
  refine aI5 (W.item i s _ _ f p fun v h' H a0 C hm=>?_)
  have ev:=hP i v a0
  subst ev
  dsimp only
  have M:h'.IsTuple (tup i) #[.ref (F i),val i]:=by
   obtain ⟨o,G,r⟩:=Y i (aA6 _) f
   exact ⟨o,hm _ o (q i f).2 G,r⟩
  have X:h'.DictOfH knd S (g i):=E _ _ _ hi (fun b o d a e=>hm b o a (c b o d a e)) B hm
  refine aI5 (aJ0 ?_)
  refine aI5 (aod M ?_)
  dsimp only
  refine aJ0 (wpAny_dictSet_heap hu (l h' (fun b o d a e=>hm b o a (c b o d a e)) i f) X (fun h2 O D=>?_) (hz i hi))
  have keep:∀ b o,b ≠ S->b ∉ wr->s.heap.get? b=some o->h2.get? b=some o:=fun b o d a e=>by rw [D.2 b d];exact hm b o a e
  refine aI6 ⟨plainId_quiet ab2 _,ih (i+1) _ (by omega) f ?_ ?_ ?_ (by rw [hk];exact O) ?_⟩
  ·exact W.frame _ _ _ C fun b hb o e=>by rw [D.2 b (fun z:b=S=>u (by rw [← z];exact hb))];exact e
  ·exact fun b o d a e=>keep b o d a (c b o d a e)
  ·intro j j1 L
   obtain ⟨o,G,r⟩:=Y j (by omega) L
   exact ⟨o,keep _ o (q j L).1 (q j L).2 G,r⟩
  ·intro h3 a1 U Q
   exact hR h3 a1 U fun b o d a e=>Q b o d a (keep b o d a e)
theorem call_dict_listH {E:Value->Shared->Prop} {s:Shared} {l:Addr} {items:Array Value} {nl:Nat} {Q:Value->Shared->Prop} (S:knd.room A.in1.in1) (a:Nat->K) (H:Nat->Addr) (val:Nat->Value) (tup:Nat->Addr) (m:Nat->List (K × Addr × Value)) (X:m 0=[]) (U:∀ i,m (i+1)=storedH (m i) (a i) (H i) (val i)) (hz:∀ i,i<=items.size->(m i).length<=sizeLine) (q:∀ i x,x∈m i->∃ j,j < i/\x.1=a j/\x.2.1=H j)
  (hh:A.handled=none) (u:s.heap.get? l=some { cls:=.type "list",data:=.seq items nl }) (Y:∀ i v,items[i]?=some v->v=Value.ref (tup i)) (R:∀ j,j < items.size->s.heap.IsTuple (tup j) #[.ref (H j),val j]) (B:∀ h',(∀ b o,s.heap.get? b=some o->h'.get? b=some o)->∀ i,i < items.size->knd.is h' (a i) (H i))
  (h:∀ (h':Heap) (M:Nat),h'.DictOfH knd s.heap.objs.size (m items.size)->(∀ b o,s.heap.get? b=some o->h'.get? b=some o)->Q (.ref s.heap.objs.size) { s with heap:=h',toks:=M }) :
  wpAny (model prog w) A (call (.type "dict") [.ref l]) Q E s:=by
 refine callType_codes (Q₁:=fun obj c=>obj=.ref s.heap.objs.size/\c={ s with heap:=s.heap.push { cls:=.type "dict",data:=.dict #[] } }) F.kt_called_dict (F.kt_typeCall_dict_1 _) F.entry_dict_init (kt_code_dict_new (.ref l) ⟨rfl,rfl⟩) fun obj c G=>?_
 obtain ⟨rfl,rfl⟩:=G
 have P:(s.heap.push { cls:=.type "dict",data:=.dict #[] }).get? s.heap.objs.size=some { cls:=.type "dict",data:=.dict #[] }:=aI9 _ rfl
 refine ⟨⟨_,P,rfl⟩,F.args_dict_init_2 _ _,?_⟩
 have f:(s.heap.push { cls:=.type "dict",data:=.dict #[] }).get? l=some { cls:=.type "list",data:=.seq items nl }:=aI7 _ u
 have a0:(Value.type "list" == Value.type "dict")=false:=by decide
 unfold Builtin.«dict.__init__» Builtin.Dict.updateCommon Builtin.Dict.updateFrom
 obtain ⟨n,g,d,M,os⟩:=s
 dsimp only at *
 generalize hPI:pyIter=PI
 generalize hGA:getAttr?=GA
 wp_walk
 subst hGA hPI
 refine aoe (s:={ heap:=n.push { cls:=.type "dict",data:=.dict #[] },gens:=g,drawn:=d,toks:=M,os:=os }) f hh fun p N z=>?_
 rw [aF1 (show (none:Option Value).isNone=true from rfl)]
 refine aI5 (wpAny_rule ?_)
 have C:p.IsList l items:=⟨_,z _ _ f,rfl,nl,rfl⟩
 have I:l < n.objs.size:=aI8 u
 have y:=z _ _ P
 have hsz:n.objs.size < p.objs.size:=aI8 y
 refine aI5 (aJ8 (s:={ heap:=p,gens:=g,drawn:=d,toks:=N,os:=os }) C ?_)
 refine aI6 ⟨plainId_quiet ab2 _,?_⟩
 have D:l ≠ p.objs.size:=aB5 (Nat.lt_trans I hsz)
 have J:n.objs.size ∉ [p.objs.size,l]:=by
  simp only [aA8,List.not_mem_nil,or_false,not_or]
  exact ⟨aB5 hsz,Nat.ne_of_gt I⟩
 have tl:∀ j,j < items.size->tup j < n.objs.size:=fun j L=>let ⟨_,e,_⟩:=R j L;aI8 e
 refine apy (A:=A.in1) (knd:=knd) (Walks.list (A:=A.in1.in1) hh p.objs.size l D items) n.objs.size J S n a H val tup m U hz Y q (fun i hi=>⟨aB5 (tl i hi),by simp only [aC1];exact aB5 (Nat.lt_trans (tl i hi) hsz)⟩)
  (fun h' W=>B h' fun b o e=>W b o (aB5 (aI8 e)) (by simp only [aC1];exact aB5 (Nat.lt_trans (aI8 e) hsz)) e) (items.size - 0) 0 _ (by omega) (aF6 _)
  ⟨⟨_,aI9 _ rfl,rfl,rfl⟩,C.push _⟩ (fun b o _ _ e=>aI7 _ (z _ _ (aI7 _ e))) (fun j _ L=>?_) ?_ fun h' O T kp=>?_
 ·obtain ⟨o,e,r⟩:=R j L
  exact ⟨o,aI7 _ (z _ _ (aI7 _ e)),r⟩
 ·rw [X]
  exact ⟨_,#[],0,aI7 _ y,⟨rfl,rfl,rfl⟩,rfl,rfl,fun x Z=>by simp at Z,List.nodup_nil⟩
 ·refine ⟨rfl,h h' O T fun b o e=>kp b o (aB5 (aI8 e)) (by simp only [aC1];exact aB5 (Nat.lt_trans (aI8 e) hsz)) (aI7 _ (z _ _ (aI7 _ e)))⟩
end
end DictL
namespace L2
open PySem PySem.W PyProof.Rows
def adf (kvs:List (List Key × Addr × V)):List (List Key × V):=kvs.foldl (fun acc kv=>putK acc kv.1 kv.2.2) []
def ar4:List V->Hp->VK->Prop:=fun xs H Q=>∃ (a:Addr) (ts:List Addr) (kvs:List (List Key × Addr × V)),xs=[.ref a]/\H a=some (.lst (ts.map V.ref))/\ts.length=kvs.length/\kvs.length < 40000 /\
 (∀ (i:Nat) t kv,ts[i]?=some t->kvs[i]?=some kv->H t=some (.tup [.ref kv.2.1,kv.2.2])/\H kv.2.1=some (.tup (kv.1.map kV)))/\∀ p,H p=none->Q (.ref p) (upd H p (.dT (adf kvs)))
section
variable {K:Type} [DecidableEq K]
def kfH (key:Nat->K) (ka:Nat->Addr) (val:Nat->Value):Nat->List (K × Addr × Value)
 | 0=>[]
 | i+1=>storedH (kfH key ka val i) (key i) (ka i) (val i)
theorem apz (xs:List (K × Addr × Value)) (k:K) (a:Addr) (v:Value):(storedH xs k a v).length<=xs.length+1:=by
 unfold storedH
 split
 ·rw [aA3];omega
 ·simp
theorem ai6 (a:Nat->K) (b:Nat->Addr) (val:Nat->Value):∀ i,(kfH a b val i).length<=i
 | 0=>aA6 _
 | i+1=>aC9 (apz _ _ _ _) (Nat.succ_le_succ (ai6 a b val i))
theorem aol (a:Nat->K) (b:Nat->Addr) (val:Nat->Value):∀ i x,x∈kfH a b val i->∃ j,j < i/\x.1=a j/\x.2.1=b j
 | 0,x,h=>by cases h
 | i+1,x,h=>by
  have c:=aol a b val i
  change x∈storedH (kfH a b val i) (a i) (b i) (val i) at h
  unfold storedH at h
  split at h
  ·obtain ⟨y,l,rfl⟩:=aB6.mp h
   obtain ⟨j,g,d,f⟩:=c y l
   refine ⟨j,by omega,?_⟩
   unfold putAt
   split
   ·exact ⟨d,f⟩
   ·exact ⟨d,f⟩
  ·rcases aA7.mp h with h | h
   ·obtain ⟨j,g,e⟩:=c x h
    exact ⟨j,by omega,e⟩
   ·have:x=(a i,b i,val i):=by simpa using h
    subst this
    exact ⟨i,by omega,rfl,rfl⟩
end
theorem ana {kvs:List (List Key × Addr × V)} {a:List Key × Addr × V}:adf (kvs ++ [a])=putK (adf kvs) a.1 a.2.2:=by unfold adf;rw [List.foldl_append];rfl
section
variable {X:Cx}
theorem ap0 (hc:X.calm=true) (E:X.A.units+64 < cLine):aa1 X (.type "dict") ar4:=by
 intro pins s σ H xs us Q I r h
 obtain ⟨a,c,kvs,rfl,ha,N,h4,C,q⟩:=h
 obtain ⟨u,rfl,G⟩:=ab6 r
 cases G
 obtain ⟨hz,its,nl,J,e⟩:=(show ObjOk X.prog X.w H s.heap a (.lst (c.map V.ref)) from I.hok a _ ha)
 have g:its.length=c.length:=by have:=J.length;rw [aA3] at this;omega
 have x:∀ {i},i < c.length->c[i]?=some (c.getD i 0):=fun {i} hi=>by rw [aD2,aA0 hi];rfl
 have y:∀ {i},i < c.length->kvs[i]?=some (kvs.getD i ([],0,.non)):=fun {i} hi=>by rw [aD2,aA0 (show i < kvs.length by omega)];rfl
 obtain ⟨d,l⟩:∃ d:Nat->List Key × Addr × V,d=fun i=>kvs.getD i ([],0,.non):=⟨_,rfl⟩
 have F:∀ i:Nat,∃ p:Value,i < c.length->s.heap.IsTuple (c.getD i 0) #[.ref (d i).2.1,p]/\RelV (d i).2.2 p:=fun i=>by
  by_cases hi:i < c.length
  ·obtain ⟨Z,K⟩:=C i _ _ (x hi) (y hi)
   obtain ⟨_,a0,n,p2⟩:=(show ObjOk X.prog X.w H s.heap _ (.tup _) from I.hok _ _ Z)
   cases n with
   | cons r1 n =>
    cases n with
    | cons n r3 =>
     cases r3
     cases r1
     exact ⟨_,fun _=>⟨by rw [l];exact p2,by rw [l];exact n⟩⟩
  ·exact ⟨.none,fun h=>absurd h hi⟩
 obtain ⟨f,hf⟩:=Classical.skolem.mp F
 have D:∀ i,i<=c.length->KT H (adf (kvs.take i)) (kfH (fun i=>(d i).1) (fun i=>(d i).2.1) f i):=fun i=>by
  induction i with
  | zero=>intro _;exact .nil
  | succ i ih =>
   intro hi
   have S:kvs.take (i+1)=kvs.take i ++ [d i]:=by rw [aH0,y (by omega),l];rfl
   rw [S,ana]
   refine (ih (by omega)).put _ ?_ (hf i (by omega)).2
   rw [l]
   exact (C i _ _ (x (by omega)) (y (by omega))).2
 refine DictL.call_dict_listH (knd:=tupleKind (aa4 X.prog X.w)) (items:=its.toArray) (nl:=nl) (tupleKind_room_in1 (by show X.A.units+1+1 < cLine;omega)) (fun i=>(d i).1) (fun i=>(d i).2.1) f (fun i=>c.getD i 0) (kfH (fun i=>(d i).1) (fun i=>(d i).2.1) f) rfl (fun i=>rfl) (fun i hi=>aC9 (ai6 _ _ _ i) (aC9 hi (by rw [sizeLine_eq];simp;omega))) (aol _ _ _)
  (I.ok.hd hc) e (fun i v z=>?_) (fun j R=>(hf j (by simpa [g] using R)).1) (fun h' kp i hi=>?_) fun h' tk M kp=>?_
 ·have z:its[i]?=some v:=by simpa using z
  have hi:=(aA1.mp z).1
  have e1:(c.map V.ref)[i]?=some (.ref (c.getD i 0)):=by rw [aA5,x (by omega)];rfl
  obtain ⟨u,E,G⟩:=J.get e1
  rw [z] at E
  cases E
  exact G
 ·have hi:i < c.length:=by simpa [g] using hi
  have K:=(C i _ _ (x hi) (y hi)).2
  rw [l]
  exact ae1 (I.hok.kept kp) K
 ·have hsz:its.toArray.size=c.length:=by simp [g]
  rw [hsz] at M
  have B:=D c.length (aA6 _)
  rw [N,aG4,← N] at B
  have m:=I.hok.fresh (a:=s.heap.objs.size) (aA6 _)
  refine ⟨.ref s.heap.objs.size,_,I.laid (t':=tk) (o:=.dT (adf kvs)) kp (aA6 _) ?_,rfl,q _ m⟩
  obtain ⟨O,es,ep,Y,U,P,T,_,W⟩:=M
  refine ⟨?_,beq_eq_false_iff_ne.mpr (Ne.symm (aB5 I.big)),_,B.keeps fun b ys L=>?_,O,es,ep,Y,U,P,T,W⟩
  ·have:=B.length
   rw [this,sizeLine_eq]
   exact aC9 (ai6 _ _ _ _) (by omega)
  ·rw [aad (aaj L m)]
   exact L
end
end L2
namespace VL
open PySem PySem.Spec L2
theorem aom {G:Hp} {as:List Addr}:∀ {es:List (Int × Int)} {kvs:List (List Key × V)} {ps:List (Int × Int)},RpT G kvs (kE ps)->∀ (as:List Addr),as.length=es.length ->
  RpT G ((es.zip as).foldl (fun b x=>putK b [Sum.inl x.1.1,Sum.inl x.1.2] (.bl true)) kvs) (kE (es.foldl addP ps))
 | [],_,_,h,as,_=>by simpa using h
 | e :: es,kvs,ps,h,[],hl=>by simp at hl
 | e :: es,kvs,ps,h,a :: as,hl=>by
  rw [List.zip_cons_cons,List.foldl_cons,List.foldl_cons]
  refine aom (as:=as) ?_ as (by simpa using hl)
  obtain ⟨x,y⟩:=e
  rw [← af9]
  exact h.put (.bl true)
section
variable {B:Bs} {env:En} {QO:Sl->En->Prop}
theorem ar5 {src:List (Option Nat)} {wi:TI} (h:EvI B wi env fun ds R=>∃ es:List (Int × Int),ds=es.map prD/\es.length<=30000/\QO (.own (OT (kE (es.foldl addP [])))) R) :
  EvO B (tCB ar4 (aba (tLC (none :: src) wi (abf 0) tYes (tTup (aba (tVar 0) (aba (tC (V.bl true)) tNil)))) tNil)) env QO:=fun σ G H F Q I k=>by
 refine h σ G H F _ I fun J G1 H1 F1 ds R I1 g1 it ⟨es,ed,a3,q⟩ f j=>?_
 subst ed
 have hL:(es.map prD).length=es.length:=aA3 ..
 let W:Nat->List V->St->Hp->Prop:=fun n ys σI H=>∃ (C as:List Addr) (s:Hp),ys=C.map V.ref/\C.length=n/\as.length=n/\0 < σI.length /\
  (∀ (i:Nat) t b p,C[i]?=some t->as[i]?=some b->es[i]?=some p->H t=some (.tup [.ref b,.bl true])/\s b=some (.tup [.int p.1,.int p.2]))/\(∀ t∈C,t ≠ f) /\
  H f=some (.lst ys)/\s f=none/\Same G1 s/\Same s H/\Same H1 H/\(∀ a o,s a=some o->G1 a=some o\/H1 a=none)/\FT s H
 refine ⟨fun n m ys σI H=>m=es.length - n/\n<=es.length/\W n ys σI H,⟨es.length,by simp,aF6 _,[],[],G1,rfl,rfl,rfl,by simp [pick],fun i t b p h=>by simp at h,fun t O=>by simp at O,aaf,I1.no_g j,Same.refl _,I1.gh.trans (abg j),abg j,fun a o e => .inl e,fun a Y e=>?_⟩,?_⟩
 ·by_cases z:a=f
  ·subst z;rw [aaf] at e;cases e
  ·rw [aad z] at e;exact I1.ft a Y e
 rintro n m ys σI H2 ⟨rfl,hn,C,as,s,rfl,hl,E,U,A,X,l,ga,N,r,L,T,K⟩
 refine ⟨l,?_⟩
 by_cases hlt:n < es.length
 ·refine .inr ⟨it.go n s H2 N r (by omega),fun P S H'=>W (n+1) P S H',fun P S H' hw=>⟨es.length - (n+1),by omega,rfl,hlt,hw⟩,fun x H3 y=>?_⟩
  obtain ⟨p,hp⟩:∃ p,es[n]?=some p:=⟨_,aA0 hlt⟩
  obtain ⟨G3,o⟩:=it.yld n s H2 x H3 (prD p) N r K (by rw [aA5,hp];rfl) y
  have rx:Rp G3 x (.tuple [.int p.1,.int p.2]):=o.ok.1
  cases rx with
  | @tup b vs ds' hb rs =>
  cases rs with
  | cons r1 rs =>
  cases rs with
  | cons r2 rs =>
  cases rs
  cases r1
  cases r2
  refine ae5 (af0 (ab9 (aqy (ae6 (alk (v:=.ref b) (by rw [aD1,aF1 rfl,aF1 U]) (ae6 (go_c (aec ⟨show (2:Nat)<=sizeLine by rw [sizeLine_eq];decide,fun t O=>?_⟩))))))))
  have t2:H2 t=none:=aav o.hh O
  have ta:t ≠ f:=(aaj (o.hh _ _ l) O).symm
  have old:∀ a u,H2 a=some u->a ≠ f->upd (upd H3 t (.tup [.ref b,.bl true])) f (.lst (C.map V.ref ++ [.ref t])) a=some u:=fun a u e aa=>by
   have Z:=o.hh _ _ e
   rw [aad aa,aad (aaj Z O)]
   exact Z
  refine ⟨by rw [aad ta.symm];exact o.hh _ _ l,by rw [aA3,hl];exact big (by omega),C ++ [t],as ++ [b],G3,by simp,by simp [hl],by simp [E],by rw [List.length_set];exact U,fun i c d p' g hd M=>?_,fun c g=>?_,aaf,?_,N.trans o.gg,fun a u e=>?_,fun a u e=>?_,fun a u e=>?_,fun a Y e=>?_⟩
  ·by_cases hi:i < n
   ·rw [aC2 (by omega)] at g hd
    obtain ⟨q1,q2⟩:=A i c d p' g hd M
    exact ⟨old c _ q1 (X c (aA2 g)),o.gg _ _ q2⟩
   ·have a1:i=n:=by
     have:=(aA1.mp g).1
     simp at this
     omega
    subst a1
    rw [aC7 (by omega),hl,aI1] at g
    rw [aC7 (by omega),E,aI1] at hd
    rw [hp] at M
    cases g
    cases hd
    cases M
    exact ⟨by rw [aad ta,aaf],hb⟩
  ·rcases aA7.mp g with g | g
   ·exact X c g
   ·have e:=aC1.mp g
    subst e
    exact ta
  ·cases e:G3 f with
   | none=>rfl
   | some w =>
    rcases o.gn f w e with e | e
    ·rw [ga] at e;cases e
    ·rw [l] at e;cases e
  ·have a0:a ≠ t:=aaj (o.gh a u e) O
   have aa:a ≠ f:=by
    rintro rfl
    rcases o.gn _ u e with e | e
    ·rw [ga] at e;cases e
    ·rw [l] at e;cases e
   rw [aad aa,aad a0];exact o.gh a u e
  ·exact old a u (L a u e) (aaj e j)
  ·rcases o.gn a u e with e | e
   ·exact T a u e
   ·exact .inr (aav L e)
  ·by_cases z:a=f
   ·subst z;rw [aaf] at e;cases e
   ·rw [aad z] at e
    by_cases y:a=t
    ·subst y
     rw [aaf] at e
     exfalso
     have e:=HO.tup.inj (aC5 e)
     match Y,e with
     | [],e=>simp at e
     | .inl _ :: _,e=>simp [kV] at e
     | .inr _ :: _,e=>simp [kV] at e
    ·rw [aad y] at e;exact o.ft K a Y e
 ·have e:n=es.length:=by omega
  subst e
  refine .inl ⟨it.stop _ s H2 N r hL.symm,?_⟩
  have I2:=I1.grow N r L T K
  obtain ⟨kvs,hk⟩:∃ kvs:List (List Key × Addr × V),kvs=(es.zip as).map fun x=>([Sum.inl x.1.1,Sum.inl x.1.2],x.2,V.bl true):=⟨_,rfl⟩
  have a4:kvs.length=es.length:=by rw [hk,aA3,List.length_zip];omega
  have a2:adf kvs=(es.zip as).foldl (fun f x=>putK f [Sum.inl x.1.1,Sum.inl x.1.2] (.bl true)) []:=by
   unfold adf
   rw [hk,List.foldl_map]
  refine aec ⟨f,C,kvs,rfl,l,by omega,by omega,fun i t kv g D=>?_,fun p hp=>?_⟩
  ·rw [hk,aA5] at D
   have hi:=(aA1.mp g).1
   have R:es[i]?=some es[i]:=aA0 (by omega)
   have e2:as[i]?=some as[i]:=aA0 (by omega)
   have Z:(es.zip as)[i]?=some (es[i],as[i]):=by
    rw [aA0 (by rw [List.length_zip];omega)]
    simp
   rw [Z] at D
   cases D
   obtain ⟨q1,q2⟩:=A i t _ _ g e2 R
   exact ⟨q1,r _ _ q2⟩
  ·have o:=Out.newDT (xs:=adf kvs) (ds:=kE (es.foldl addP [])) I2.gh hp (by rw [a2];exact aom (as:=as) .nil as E)
   exact k _ _ _ F1 _ _ R (I2.out o).1 ((g1.trans N).trans o.gg) (I2.out o).2 q
end
end VL
namespace L2
open PySem PySem.W PyProof.Rows
def ap1:V->List V->Hp->VK->Prop:=fun x vs H Q=>∃ (a:Addr) (kvs:List (Key × V)),x=.ref a/\vs=[]/\H a=some (.dK kvs)/\∀ p,H p=none->Q (.ref p) (upd H p (.ext fun h=>h.IsValuesView p a))
def amp:List V->Hp->VK->Prop:=fun xs H Q=>∃ (p a:Addr) (kvs:List (Key × V)),xs=[.ref p]/\H p=some (.ext fun h=>h.IsValuesView p a)/\H a=some (.dK kvs)/\∀ q,H q=none->Q (.ref q) (upd H q (.lst (kvs.map (·.2))))
section
variable {X:Cx}
theorem aws:MtR X "dict.values" ap1:=by
 intro pins s σ H x xs v us Q I c rs h
 obtain ⟨a,kvs,rfl,rfl,ha,q⟩:=h
 cases c
 cases rs
 obtain ⟨z,hd,vs,d,dd⟩:=akn I.hok ha
 refine call_meetsIn PySem.F.slot_dict_values dd.typeIs PySem.F.entry_dict_values (PySem.F.args_dict_values_1 _) (meets_dict_values (aa4 X.prog X.w) a hd) ⟨⟨vs,dd⟩,?_⟩
 have f:(s.heap.push { cls:=.type "dict_values",data:=.fields #[.ref a] }).IsValuesView s.heap.objs.size a:=⟨_,aI9 _ rfl,rfl,rfl⟩
 refine ⟨.ref s.heap.objs.size,_,I.laid (t':=s.toks) (o:=.ext fun h=>h.IsValuesView s.heap.objs.size a) (fun b o e=>aI7 _ e) (aA6 _) ⟨f,⟨_,aI9 _ rfl⟩,fun j i ⟨o,g,r⟩ k=>⟨o,k o g,r⟩⟩,rfl,q _ (I.hok.fresh (aA6 _))⟩
theorem aon:∀ {kvs:List (Key × V)} {vs:List (Key × Value)},KV kvs vs->Vals (kvs.map (·.2)) (vs.map (·.2))
 | _,_,.nil => .nil
 | _,_,.cons h t => .cons h.2 (aon t)
theorem ap2 (x:X.calm=true):aa1 X (.type "list") amp:=by
 intro pins s σ H xs us Q I r h
 obtain ⟨p,a,kvs,rfl,y,ha,q⟩:=h
 obtain ⟨u,rfl,i⟩:=ab6 r
 cases i
 obtain ⟨z,hd,vs,f,dd⟩:=akn I.hok ha
 obtain ⟨ep,A⟩:=dd.dictAt
 obtain ⟨m,_,_⟩:=(show ObjOk X.prog X.w H s.heap p (.ext fun h=>h.IsValuesView p a) from I.hok p _ y)
 have n:=f.length
 refine kdl_call (kdl_values (knd:=aa4 X.prog X.w) (kvs:=vs) (ep:=ep)) (I.ok.hd x) ⟨m,A⟩ (by rw [← n];exact z) fun h' l d c kp g b=>?_
 have e:d.toList=vs.map (·.2):=kdl_vals_eq d.toList (by rw [Array.length_toList];exact b.1) fun j v e=>b.2 j v (by rw [← aD3];exact e)
 refine ⟨.ref s.heap.objs.size,_,I.laid (t':=l) (o:=.lst (kvs.map (·.2))) kp (aA6 _) ⟨by rw [aA3];exact z,d.toList,c,by rw [e];exact aon f,by rw [Array.toArray_toList];exact g⟩,rfl,q _ (I.hok.fresh (aA6 _))⟩
end
end L2
namespace VL
open PySem PySem.Spec L2
theorem RpK.vals {G:Hp}:∀ {kvs:List (Key × V)} {es:List (Key × PyData)},RpK G kvs es->Rps G (kvs.map (·.2)) (es.map (·.2))
 | _,_,.nil => .nil
 | _,_,.cons h t => .cons h (RpK.vals t)
section
variable {B:Bs} {env:En} {QO:Sl->En->Prop} {K:Frag} {i:Nat}
theorem ar6 {es:List (Key × PyData)} (e:env[i]?=some (some (.st (abj es)))) (d:es ≠ []) (q:QO (.own (OL (es.map (·.2)))) env):EvO B (tCB amp (aba (tBM0 K "dict" ap1 (tVar i)) tNil)) env QO:=fun σ G H F Q I k=>by
 obtain ⟨v,m,r,_⟩:=I.sl i _ e
 obtain ⟨a,kvs,rfl,ha,g⟩:=ai5 r d
 have b:=I.gh _ _ ha
 refine ⟨_,m,.inr (.inr (.inl ⟨rfl,.inl ⟨_,b⟩⟩)),a,kvs,rfl,rfl,b,fun p c=>⟨p,a,kvs,rfl,aaf,by rw [aad (aaj b c)];exact b,fun l n=>?_⟩⟩
 have f:G p=none:=I.no_g c
 have J:=I.aside (p:=p) (o:=.ext fun h=>h.IsValuesView p a) (fun _ z=>nomatch z) f (fun j z=>I.no_f c j z) (I.no_b c)
 have o:=Out.newL J.gh n (RpK.vals g)
 exact k _ _ _ F _ _ env (J.out o).1 o.gg (J.out o).2 q
end
theorem aoo {G G':Hp}:∀ {vs:List V} {ns:List Int},Rps G vs (ns.map PyData.int)->Rps G' vs (ns.map PyData.int)
 | [],[],_ => .nil
 | [],_ :: _,h=>by cases h
 | _ :: _,[],h=>by cases h
 | v :: vs,n :: ns,h=>by
  cases h with
  | cons r t =>
   cases r
   exact .cons (.int n) (aoo t)
theorem aty {c:List (List Int)}:∀ G G' H v F,(OLL (c.map fun ns=>ns.map PyData.int)).P G H v F->(OLL (c.map fun ns=>ns.map PyData.int)).P G' H v F:=fun G G' H v F ⟨a,as,e,h,d,j,l,r,f⟩ =>
 ⟨a,as,e,h,d,j,l,fun i b ds hb hd=>by
  obtain ⟨vs,m,g⟩:=r i b ds hb hd
  rw [aA5] at hd
  obtain ⟨ns,_,rfl⟩:=Option.map_eq_some_iff.mp hd
  exact ⟨vs,m,aoo g⟩,f⟩
section
variable {B:Bs} {env:En} {QO:Sl->En->Prop} {i:Nat} {te:TE}
theorem ap3 {A:Own} {d:PyData} (n:Has env i A) (O:Frz A d) (h:∀ b:Bs,b.K=B.K->EvO b te (momE env i d) fun s _=>∃ A',s=.own A'/\(∀ G G' H v F,A'.P G H v F->A'.P G' H v F)/\QO (.own A') env):EvO B te env QO:=fun σ G H F Q I k=>by
 obtain ⟨v,L,ap⟩:=I.has n
 have g:=abm (H:=H) (I.fg i)
 let b:Bs:={ K:=B.K,G:=jn G H (F i),H:=H,R:=H,S:=σ,F:=fun _ _=>False }
 have hi:i < env.length:=by
  rcases n with e | e <;> exact (aA1.mp e).1
 have J:VI b (jn G H (F i)) H σ (momE env i d) (fun _ _=>False):={
  gh:=akv I.gh
  g0:=Same.refl _
  gn:=fun a o e => .inl e
  rs:=Same.refl _
  rb:=Same.refl _
  bh:=fun a o e=>⟨o,e⟩
  fg:=fun _ _ z=>z.elim
  fr:=fun _ _ z=>z.elim
  fd:=fun _ _ _ z=>z.elim
  fo:=fun _ _ z=>z.elim
  sl:=fun m s e=>by
   unfold momE at e
   by_cases hm:m=i
   ·subst hm
    rw [aD1,aF1 rfl,aF1 (by simpa using hi)] at e
    cases e
    exact ⟨v,L,O _ _ _ _ ap (I.fg m) I.gh,fun _ z=>z⟩
   ·rw [aD1,aF2 (fun z=>hm z.symm),aA5] at e
    cases em:env[m]? with
    | none=>rw [em] at e;cases e
    | some o =>
     rw [em] at e
     cases o with
     | none=>cases e
     | some t =>
      obtain ⟨u,l,q⟩:=I.sl m t em
      cases t with
      | st d'=>cases e;exact ⟨u,l,q.1.same g,fun _ z=>z⟩
      | scr ns =>
       cases e
       obtain ⟨⟨a,r,p⟩,_⟩:=q
       exact ⟨u,l,⟨a,r,g.seq p⟩,fun _ z=>z⟩
      | own A'=>cases e
      | io A'=>cases e
  ln:=by simp [momE,I.ln]
  ft:=fun a x e=>g _ _ (I.ft a x e) }
 refine h b rfl σ _ H _ Q J fun w M H2 F2 Fv s U f E c ⟨A',es,N,q⟩=>?_
 subst es
 have o:Out (jn G H (F i)) H w M H2 (.own A') Fv:={
  gg:=E
  gh:=f.gh
  hh:=f.rs
  gn:=f.gn
  fn:=c.fb
  fg:=c.fg
  fo:=c.fo
  ok:=c.ok
  ft:=fun _=>f.ft }
 obtain ⟨T,C,y,D⟩:=I.moment2 g o
 exact k w T H2 F Fv (.own A') env y C ⟨N _ _ _ _ _ c.ok,fun a z=>I.no_b (o.fn a z),fun a z=>by rw [D a (o.fn a z)];exact o.fg a z,o.fo,fun j a z=>I.no_f (o.fn a z) j⟩ q
end
end VL
namespace L2
open PySem PySem.W PyProof.Rows
def auu:R2:=fun x y H Q=>∃ b c,x=.bl b/\y=.bl c/\Q (.bl (!decide (b=c))) H
section
variable {X:Cx}
theorem awt:OpR X (compareOp .IsNot) auu:=by
 intro pins s σ H x y v u Q I d a h
 obtain ⟨b,c,rfl,rfl,q⟩:=h
 cases d
 cases a
 refine wpAny_isNot_plain rfl (aax I q ?_)
 cases b <;> cases c <;> rfl
end
end L2
namespace VL
open PySem PySem.Spec L2
theorem atz {R:Sl->Prop} {b c:Bool} (h:R (.st (.bool (!decide (b=c))))):Op2 auu (.bool b) (.bool c) R:=fun G H g f Q gh d a k=>by
 cases d
 cases a
 exact ⟨b,c,rfl,rfl,k _ _ _ _ _ (Out.refl gh (.bl _)) h⟩
end VL
namespace G
open PySem L2 VL
def top (i:Nat):Stmt:=PySem.Challenge.pw_fewties_k10_papers_of_the_farthest.main.body.getD i (.Pass ⟨0,0,0,0⟩)
abbrev s_is_whole:Stmt:=top 5
abbrev s_is_between:Stmt:=top 6
abbrev s_is_place:Stmt:=top 7
abbrev s_tied_places:Stmt:=top 8
abbrev s_far_from:Stmt:=top 9
abbrev s_need_place:Stmt:=top 10
abbrev s_all_far:Stmt:=top 11
abbrev s_is_joined:Stmt:=top 12
abbrev s_need_joined:Stmt:=top 14
abbrev s_far_rows:Stmt:=top 15
abbrev s_far_paper:Stmt:=top 16
abbrev s_far_shows:Stmt:=top 17
abbrev s_is_square:Stmt:=top 18
abbrev s_is_long:Stmt:=top 19
abbrev s_number_holds:Stmt:=top 20
abbrev s_law_deck:Stmt:=top 22
abbrev s_law_draw:Stmt:=top 23
abbrev s_law_tied:Stmt:=top 24
abbrev s_law_fars:Stmt:=top 25
abbrev s_law_order:Stmt:=top 26
abbrev s_law_crowds:Stmt:=top 27
abbrev s_law_web:Stmt:=top 28
abbrev s_law_joined_web:Stmt:=top 29
abbrev s_law_shows:Stmt:=top 30
abbrev s_law_is_table:Stmt:=top 31
abbrev s_law:Stmt:=top 32
structure Txt (K:Frag) (mg:Str->Option Value):Prop where
 b_ValueError:mg "ValueError" = none
 b_all:mg "all" = none
 b_any:mg "any" = none
 b_range:mg "range" = none
 b_dict:mg "dict" = none
 b_list:mg "list" = none
 b_isinstance:mg "isinstance" = none
 b_int:mg "int" = none
 b_len:mg "len" = none
 b_max:mg "max" = none
 b_sum:mg "sum" = none
 b_sorted:mg "sorted" = none
 b_bool:mg "bool" = none
 b_min:mg "min" = none
 d_is_whole:∃ f fd,DefAt K mg "is_whole" s_is_whole ["thing"] f fd
 d_is_between:∃ f fd,DefAt K mg "is_between" s_is_between ["least","most","thing"] f fd
 d_is_place:∃ f fd,DefAt K mg "is_place" s_is_place ["n","thing"] f fd
 d_tied_places:∃ f fd,DefAt K mg "tied_places" s_tied_places ["web"] f fd
 d_far_from:∃ f fd,DefAt K mg "far_from" s_far_from ["tied","start"] f fd
 d_need_place:∃ f fd,DefAt K mg "need_place" s_need_place ["web","thing"] f fd
 d_all_far:∃ f fd,DefAt K mg "all_far" s_all_far ["web","a"] f fd
 d_is_joined:∃ f fd,DefAt K mg "is_joined" s_is_joined ["web"] f fd
 d_need_joined:∃ f fd,DefAt K mg "need_joined" s_need_joined ["web"] f fd
 d_far_rows:∃ f fd,DefAt K mg "far_rows" s_far_rows ["web"] f fd
 d_far_paper:∃ f fd,DefAt K mg "far_paper" s_far_paper ["web"] f fd
 d_far_shows:∃ f fd,DefAt K mg "far_shows" s_far_shows ["web","d","paper"] f fd
 d_is_square:∃ f fd,DefAt K mg "is_square" s_is_square ["n","paper"] f fd
 d_is_long:∃ f fd,DefAt K mg "is_long" s_is_long ["n","thing"] f fd
 d_number_holds:∃ f fd,DefAt K mg "number_holds" s_number_holds ["tied","d","paper","a","b"] f fd
 d_law_deck:∃ f fd,DefAt K mg "_law_deck" s_law_deck ["script"] f fd
 d_law_draw:∃ f fd,DefAt K mg "_law_draw" s_law_draw ["deck","many"] f fd
 d_law_tied:∃ f fd,DefAt K mg "_law_tied" s_law_tied ["web"] f fd
 d_law_fars:∃ f fd,DefAt K mg "_law_fars" s_law_fars ["web"] f fd
 d_law_order:∃ f fd,DefAt K mg "_law_order" s_law_order ["deck","n"] f fd
 d_law_crowds:∃ f fd,DefAt K mg "_law_crowds" s_law_crowds ["deck"] f fd
 d_law_web:∃ f fd,DefAt K mg "_law_web" s_law_web ["deck"] f fd
 d_law_joined_web:∃ f fd,DefAt K mg "_law_joined_web" s_law_joined_web ["deck"] f fd
 d_law_shows:∃ f fd,DefAt K mg "_law_shows" s_law_shows ["web","d","paper"] f fd
 d_law_is_table:∃ f fd,DefAt K mg "_law_is_table" s_law_is_table ["found"] f fd
 d_law:∃ f fd,DefAt K mg "law" s_law ["script"] f fd
local macro_rules | `(tactic| row_cond sc) => `(tactic| exact ⟨rfl,rfl,rfl,by decide +kernel,rfl,by decide +kernel,by decide +kernel⟩)
local macro_rules | `(tactic| row_cond gn) => `(tactic| first | (with_reducible first | refine evg_n0 ?_ | refine ays ?_ | refine ayt ?_ | refine ayu ?_ | refine ayv ?_ | refine ayw ?_ | refine ayx ?_ | refine ayy ?_ | refine ayz ?_ | refine ay0 ?_ | refine evg_n10 ?_ | refine evg_n11 ?_ | refine evg_n12 ?_ | refine evg_n13 ?_ | refine evg_n14 ?_ | refine evg_n15 ?_ | refine evg_n16 ?_ | refine evg_n17 ?_ | refine evg_n18 ?_ | refine evg_n19 ?_ | refine evg_n20 ?_ | refine evg_n21 ?_ | refine evg_n22 ?_ | refine evg_n23 ?_ | refine evg_n24 ?_ | refine evg_n25 ?_) | ((with_reducible refine abb ?_); dsimp only [List.set_cons_zero, List.set_cons_succ]))
local macro_rules | `(tactic| row_cond dc) => `(tactic| first | assumption | omega | (with_reducible rfl))
local macro_rules | `(tactic| row_cond ar) => `(tactic| first | assumption | (refine ⟨?_, ?_, ?_⟩ <;> decide) | (constructor <;> first | assumption | omega) | (show (0 : Int) < _; first | assumption | omega) | (left; constructor <;> first | assumption | omega) | (right; constructor <;> first | assumption | omega))
local macro_rules | `(tactic| row_cond hs) => `(tactic| first | exact Or.inl rfl | exact Or.inr rfl)
local macro_rules | `(tactic| row_cond fz) => `(tactic| first | exact aef | exact ax9 | exact frz_OT | exact frz_OW | exact aca | assumption)
local macro_rules | `(tactic| row_cond le) => `(tactic| first | exact Nat.le_of_ble_eq_true rfl | assumption | omega | (simp only [List.length_append, List.length_map, List.length_cons, List.length_nil, List.length_set, List.length_replicate]; omega))
local macro_rules | `(tactic| row_cond ia) => `(tactic| first | assumption | exact at0 | exact at1 | exact at2 | exact rfl)
local macro_rules | `(tactic| row_cond ty) => `(tactic| first | exact ayq | exact awc | exact ty_tuple | exact awd | exact ty_str | exact ty_dict)
local macro_rules | `(tactic| row_cond sEvS) => `(tactic| first | (with_reducible refine al9 (fun c_ hc_ => ?_)) | (with_reducible first | refine avy ?_ | refine ayh ?_ | refine al8 ?_) | ((with_reducible refine' atp ?h0 ?_); (case h0 => exact rfl)) | (with_reducible first | refine an0 ?_ | refine av0 ?_ | refine atb ?_) | ((with_reducible refine' aps ?h0 ?_); (case h0 => exact rfl)) | ((with_reducible refine' apt ?h0 ?_); (case h0 => exact rfl)) | ((with_reducible refine' an1 ?h0 ?_); (case h0 => assumption)))
local macro_rules | `(tactic| row_cond sEvG) => `(tactic| first | row_cond gn | ((with_reducible refine' avz ?h0 ?_); (case h0 => exact rfl)) | ((with_reducible refine' ato ?h0 ?_); (case h0 => row_cond hs)) | (with_reducible refine evg_st ?_))
local macro_rules | `(tactic| row_cond sEvGs) => `(tactic| first | (with_reducible first | refine aq8 ?_ | refine atc ?_))
local macro_rules | `(tactic| row_cond sEv) => `(tactic| first | ((with_reducible refine' aya ?h0 ?_); (case h0 => exact rfl)) | (with_reducible refine ayb ?_) | ((with_reducible refine' ayo ?h0 ?_); (case h0 => row_cond hs)) | ((with_reducible refine' ayn ?h0 ?_); (case h0 => row_cond hs)) | (with_reducible refine auo ?_) | ((with_reducible refine' ayp ?h0 ?_); (case h0 => row_cond ty)) | ((with_reducible refine' aju ?h0 ?_); (case h0 => exact rfl)) | (with_reducible refine atg ?_) | ((with_reducible refine' avq ?h0 ?h1 ?_); (case h0 => exact rfl); (case h1 => row_cond fz); dsimp only [List.set_cons_zero, List.set_cons_succ]) | (with_reducible first | refine aye ?_ | refine ayf ?_ | refine azr ?_ | refine ayc ?_ | refine azs ?_ | refine avv ?_ | refine avw ?_ | refine ata ?_ | refine abv (te:=tCB (ah4 _) _) ?_ | refine abv (te:=tCB agx _) ?_ | refine aup ?_) | ((with_reducible refine' apk ?h0 ?_); (case h0 => row_cond hs)) | ((with_reducible refine' apl ?h0 ?_); (case h0 => row_cond hs)) | ((with_reducible refine' am9 ?h0 ?_); (case h0 => row_cond hs)) | (with_reducible refine atu ?_) | ((with_reducible refine' azz ?h0 ?_); (case h0 => decide)) | (with_reducible first | refine ay4 ?_))
local macro_rules | `(tactic| row_cond sEvO) => `(tactic| first | (with_reducible first | refine al6 (r:=rCat) ?_ | refine al6 (r:=rRep) ?_ | refine aa7 (te:=tOp _ _ _) ?_ | refine aa7 (te:=tVar _) ?_ | refine aa7 (te:=tC _) ?_ | refine anz ?_) | (with_reducible refine anx ?_) | ((with_reducible refine' ah8 ?h0 ?_); (case h0 => exact rfl)) | ((with_reducible refine' apn ?h0 ?_); (case h0 => exact rfl)) | ((with_reducible refine' ara ?h0 ?h1 ?_); (case h0 => exact rfl); (case h1 => assumption)) | (with_reducible first | refine ajr ?_ | refine awe ?_) | ((with_reducible refine' arb ?h0 ?_); (case h0 => decide)) | (with_reducible first | refine aob ?_) | (with_reducible first | refine aro ?_ | refine ajv ?_ | refine aq7 (r:=aia _) ?_ | refine aa7 (te:=tUn _ _) ?_ | refine aa7 (te:=aou _ _) ?_ | refine aa7 (te:=aov _) ?_ | refine aa7 (te:=ahp _ _ _ _ _) ?_ | refine aa7 (te:=ako _ _) ?_ | refine aa7 (te:=ae2 _ _) ?_ | refine aa7 (te:=tCB (rLen _) _) ?_ | refine aa7 (te:=tCB (rIsi _) _) ?_ | refine aa7 (te:=tCB akp _) ?_ | refine aa7 (te:=tCB akq _) ?_ | refine aa7 (te:=tCB ao8 _) ?_ | refine aa7 (te:=tCB (agr _) _) ?_ | refine aa7 (te:=tCB (aks _) _) ?_ | refine aa7 (te:=tCB (apf _) _) ?_ | refine aa7 (te:=tCB (rAll _) _) ?_ | refine aa7 (te:=tCB (rAny _) _) ?_ | refine aa7 (te:=tBM _ _ _ _ _) ?_))
local macro_rules | `(tactic| row_cond sEvT) => `(tactic| first | (with_reducible first | refine al7 ?_ | refine azt ?_ | refine avs ?_ | refine ayg ?_ | refine avt ?_ | refine ags ?_) | (with_reducible refine avu ?_))
local macro_rules | `(tactic| row_cond sEvA) => `(tactic| first | (with_reducible first | refine ahf ?_ | refine avr ?_))
local macro_rules | `(tactic| row_cond sEvI) => `(tactic| first | (with_reducible first | refine ate ?_ | refine atf ?_ | refine evi_down ?_ | refine atd ?_) | (with_reducible refine evi_tup ?_))
local macro_rules | `(tactic| row_cond sOp2) => `(tactic| first | (with_reducible first | refine av2 ?_ | refine av3 ?_) | ((with_reducible refine' ayl ?h0 ?_); (case h0 => row_cond ar)) | (with_reducible first | refine av4 ?_ | refine av5 ?_) | ((with_reducible refine' av6 ?h0 ?_); (case h0 => row_cond ia)) | ((with_reducible refine' av7 ?h0 ?_); (case h0 => row_cond ia)) | (with_reducible first | refine av9 ?_) | ((with_reducible refine' awa ?h0 ?_); (case h0 => row_cond le)))
local macro_rules | `(tactic| row_cond sOp1) => `(tactic| first | (with_reducible refine aym ?_))
local macro_rules | `(tactic| row_cond sOpA) => `(tactic| first | (with_reducible first | refine atj ?_ | refine atk ?_ | refine atl ?_ | refine att ?_))
local macro_rules | `(tactic| row_cond sFQ) => `(tactic| first | (with_reducible first | refine azq ?_ | refine adc ?_))
local macro_rules | `(tactic| row_cond sRngA1) => `(tactic| first | ((with_reducible refine' ayj ?h0 ?h1 ?_); (case h0 => omega); (case h1 => omega)))
local macro_rules | `(tactic| row_cond sRngA2) => `(tactic| first | ((with_reducible refine' ayk ?h0 ?_); (case h0 => omega)))
local macro_rules | `(tactic| row_cond sRest) => `(tactic| first | (with_reducible first | refine x_bl ?_ | refine x_st ?_ | refine ayi ?_) | ((with_reducible refine' azx ?h0 ?h1 ?_); (case h0 => row_cond hs); (case h1 => row_cond ia)) | ((with_reducible refine' x_sc ?h0 ?_); (case h0 => exact rfl)) | ((with_reducible refine' azw ?h0 ?_); (case h0 => row_cond le)) | (with_reducible first | refine ab9 ?_ | refine ada ?_ | refine aiv ?_ | refine anv ?_) | ((with_reducible refine' aio ?h0 ?_); (case h0 => row_cond dc)) | ((with_reducible refine' aip ?h0 ?_); (case h0 => row_cond dc)) | ((with_reducible refine' as7 ?h0 ?_); (case h0 => row_cond dc)) | ((with_reducible refine' as8 ?h0 ?_); (case h0 => row_cond dc)) | ((with_reducible refine' azy ?h0 ?_); (case h0 => first | exact rfl | row_cond hs)) | ((with_reducible refine' x_rt ?h0 ?_); (case h0 => exact rfl)) | ((with_reducible refine' ayr ?h0 ?h1 ?_); (case h0 => exact rfl); (case h1 => row_cond le); dsimp only [List.set_cons_zero, List.set_cons_succ]) | ((with_reducible refine' apm ?h0 ?h1 ?_); (case h0 => exact rfl); (case h1 => first | exact ixN0 | exact ixN1 | exact ixN2 | assumption); dsimp only [List.set_cons_zero, List.set_cons_succ, reS]) | (with_reducible first | refine atq ?_) | ((with_reducible refine' x_dT ?h0 ?h1 ?_); (case h0 => exact rfl); (case h1 => row_cond le); dsimp only [List.set_cons_zero, List.set_cons_succ]) | ((with_reducible refine' x_dK ?h0 ?h1 ?_); (case h0 => exact rfl); (case h1 => row_cond le); dsimp only [List.set_cons_zero, List.set_cons_succ]) | ((with_reducible refine' x_dN ?h0 ?_); (case h0 => row_cond hs)) | ((with_reducible refine' awk ?h0 ?h1 ?_); (case h0 => omega); (case h1 => omega)))
local macro_rules | `(tactic| row_cond st) => `(tactic| first | ((with_reducible refine az0 ?_); row_cond sEvS) | ((with_reducible refine az1 ?_); row_cond sEvG) | ((with_reducible refine ay3 ?_); row_cond sEvGs) | ((with_reducible refine g_Ev ?_); row_cond sEv) | ((with_reducible refine az2 ?_); row_cond sEvO) | ((with_reducible refine az3 ?_); row_cond sEvT) | ((with_reducible refine az4 ?_); row_cond sEvA) | ((with_reducible refine az5 ?_); row_cond sEvI) | ((with_reducible refine g_EvOp ?_); row_cond sEvOp) | ((with_reducible refine az6 ?_); row_cond sOp2) | ((with_reducible refine az7 ?_); row_cond sOp1) | ((with_reducible refine az8 ?_); row_cond sOpA) | ((with_reducible refine g_FQ ?_); row_cond sFQ) | ((with_reducible refine awm ?_); row_cond sRngA1) | ((with_reducible refine awn ?_); row_cond sRngA2) | row_cond sRest)
local macro_rules | `(tactic| row_cond go) => `(tactic| repeat row_cond st)
local macro_rules | `(tactic| row_cond hnx) => `(tactic| first | assumption | (apply Ne.symm; assumption) | exact aaj (by assumption) (by assumption) | exact (aaj (by assumption) (by assumption)).symm)
local macro_rules | `(tactic| row_cond hhp) => `(tactic| first | assumption | exact aaf | (rw [aad (by row_cond hnx)]; row_cond hhp) | ((refine' Same.at ?ss ?hh); (case ss => assumption); (case hh => row_cond hhp)))
local macro_rules | `(tactic| row_cond hix) => `(tactic| first | assumption | exact at0 | exact at1 | exact at2)
local macro_rules | `(tactic| row_cond hst) => `(tactic| first | (with_reducible first | refine axt ?_ | refine axu ?_ | refine ae5 ?_ | refine azk ?_ | refine go_c ?_ | refine azn ?_ | refine go_U ?_ | refine aq0 ?_ | refine avc ?_ | refine azl ?_ | refine axw ?_ | refine axx ?_ | refine axv ?_ | refine au9 ?_ | refine ava ?_ | refine azm ?_ | refine ae6 ?_ | refine aec ?_ | refine avd ?_ | refine ann ?_ | refine ano ?_ | refine ave ?_ | refine avb ?_ | refine avn ?_ | refine ax1 ?_ | refine ax3 ?_ | refine azo ?_ | refine asr ?_ | refine af0 ?_ | refine ab9 ?_ | refine ada ?_) | ((with_reducible refine' alk ?hv ?_); (case hv => exact rfl)) | ((with_reducible refine' afh ?ha ?hv ?_); (case ha => row_cond hhp); (case hv => row_cond hix)) | ((with_reducible refine go_I ?hc ?_); (case hc => row_cond ar)) | ((with_reducible refine' anm ?ha ?_); (case ha => row_cond hhp)) | ((with_reducible refine' anl ?ha ?hj ?_); (case ha => row_cond hhp); (case hj => first | exact ixN0 | exact ixN1 | exact ixN2)) | ((with_reducible refine' ax5 ?ha ?_); (case ha => row_cond hhp)) | ((with_reducible refine' aep ?ha ?hl ?_); (case ha => row_cond hhp); (case hl => exact ael (by simp; omega))) | ((with_reducible refine' aio ?hc ?_); (case hc => row_cond dc)) | ((with_reducible refine' aip ?hc ?_); (case hc => row_cond dc)) | dsimp only [List.set_cons_zero, List.set_cons_succ])
local macro_rules | `(tactic| row_cond hgo) => `(tactic| repeat row_cond hst)
def isInt:PyData->Bool
 | .int _=>true
 | _=>false
def btwD (a b:Int):PyData->Bool
 | .int i=>decide (a<=i/\i<=b)
 | _=>false
def awu:VP:=fun ss Q=>∃ d,ss=[.st d]/\Q (.st (.bool (isInt d)))
def ar7:VP:=fun ss Q=>∃ (a b:Int) (d:PyData),ss=[.st (.int a),.st (.int b),.st d]/\Q (.st (.bool (btwD a b d)))
def awv:VP:=fun ss Q=>∃ (n:Int) (d:PyData),ss=[.st (.int n),.st d]/\Q (.st (.bool (btwD 0 (n - 1) d)))
section
variable {P:Program} {w:World} {K:Frag} {mg:Str->Option Value} {base:Heap}
theorem sc_is_whole:FnScope ["thing"] ["thing"] (aal s_is_whole):=by row_cond sc
theorem agb (T:Txt K mg):Can P w K mg base "is_whole" 1 ["thing"] (spP K (awu)):=by
 obtain ⟨f,fd,D⟩:=T.d_is_whole
 refine D.can (D.fn.ok sc_is_whole (fun vs H Q E h=>lenP h fun ss c q=>by obtain ⟨d,rfl,k⟩:=q;rfl) (fun cdv A outer s H vs Q E g h=>?_))
 have nd:=sc_is_whole.nd
 refine ⟨_,(aag (aat (ak2 (aai act (by rfl) T.b_isinstance abu (aaa (pv 0) (aaa (adi (v:=.ty "int") rfl T.b_int aln rfl) aab))) (ak1 (axi (aai act (by rfl) T.b_isinstance abu (aaa (pv 0) (aaa (adi (v:=.ty "bool") rfl T.b_bool ans rfl) aab)))))))),?_⟩
 refine abr h fun ss c q B j=>?_
 refine exS1 ss q fun d a=>?_
 have k:=a
 clear a q
 show EvS B _ _ [some (.st d)]
 row_cond go
 cases d with
 | int i => refine ab9 ?_; row_cond go; exact k
 | bool b => refine ab9 ?_; row_cond go; exact k
 | _=>refine ada ?_;exact k
theorem sc_is_between:FnScope ["least","most","thing"] ["least","most","thing"] (aal s_is_between):=by row_cond sc
theorem ai7 (T:Txt K mg):Can P w K mg base "is_between" 2 ["least","most","thing"] (spP K (ar7)):=by
 obtain ⟨f,fd,D⟩:=T.d_is_between
 refine D.can (D.fn.ok sc_is_between (fun vs H Q E h=>lenP h fun ss l q=>by obtain ⟨a,b,d,rfl,k⟩:=q;rfl) (fun cdv A outer s H vs Q E j h=>?_))
 have nd:=sc_is_between.nd
 refine ⟨_,(aag (aat (ak2 (aah (agb T) j (aaa (pv 2) aab)) (ak1 (ash agm agm (pv 0) (pv 2) (pv 1)))))),?_⟩
 refine abr h fun ss l q B m=>?_
 refine exS3 ss q fun a b d c=>?_
 have k:=c
 clear c q
 show EvS B _ _ [some (.st (.int a)),some (.st (.int b)),some (.st d)]
 row_cond go
 refine ⟨d,rfl,?_⟩
 row_cond go
 cases d with
 | int i =>
  refine ab9 ?_
  row_cond go
  refine ac0 (fun g=>?_) (fun g=>?_)
  ·row_cond go
   have e:decide (i<=b)=btwD a b (.int i):=by
    show _=decide (a<=i/\i<=b)
    rw [aH4];simp [g]
   rw [e];exact k
  ·have e:false=btwD a b (.int i):=by
    show _=decide (a<=i/\i<=b)
    exact (aD4 (fun z=>g z.1)).symm
   rw [e];exact k
 | _=>exact ada k
theorem sc_is_place:FnScope ["n","thing"] ["n","thing"] (aal s_is_place):=by row_cond sc
theorem amq (T:Txt K mg):Can P w K mg base "is_place" 3 ["n","thing"] (spP K (awv)):=by
 obtain ⟨f,fd,D⟩:=T.d_is_place
 refine D.can (D.fn.ok sc_is_place (fun vs H Q E h=>lenP h fun ss c q=>by obtain ⟨n,d,rfl,k⟩:=q;rfl) (fun cdv A outer s H vs Q E b h=>?_))
 have nd:=sc_is_place.nd
 refine ⟨_,(aag (aat (aah (ai7 T) b (aaa aae (aaa (aau ad8 (pv 0) aae) (aaa (pv 1) aab)))))),?_⟩
 refine abr h fun ss c q B g=>?_
 refine exS2 ss q fun n d a=>?_
 have k:=a
 clear a q
 show EvS B _ _ [some (.st (.int n)),some (.st d)]
 row_cond go
 exact ⟨_,_,_,rfl,k⟩
def aza:VP:=fun ss Q=>∃ (n:Int) (es:List (Int × Int)),ss=[.st (webD n es)]/\0<=n/\n<=100/\InN n es/\es.length<=10000/\∀ tl,TiedL n (Tied es) tl->(∀ us∈tl,us.length<=20000)->Q (.own (OLL (tlD tl)))
theorem sc_tied_places:FnScope ["web","n","ties","tied","a","b"] ["web"] (aal s_tied_places):=by row_cond sc
theorem adg (T:Txt K mg):Can P w K mg base "tied_places" 1 ["web"] (spP K (aza)):=by
 obtain ⟨f,fd,D⟩:=T.d_tied_places
 refine D.can (D.fn.ok sc_tied_places (fun vs H Q E h=>lenP h fun ss S q=>by obtain ⟨n,es,rfl,O,M,r,C,k⟩:=q;rfl) (fun cdv A outer s H vs Q E U h=>?_))
 have nd:=sc_tied_places.nd
 refine ⟨_,(aac (ad6 (pv 0) (aho rfl (acj (aak (i:=1) nd rfl (Or.inl rfl)) (acj (aak (i:=2) nd rfl (Or.inl rfl)) agj))))
  (aac (alj (i:=3) nd rfl (Or.inl rfl) rfl (N:=["place"]) (src:=[none]) (by exact aa9 rfl rfl rfl rfl rfl rfl) (aa6 rfl T.b_range (aaa (pv 1) aab)) (fun _ _ _ _=>(aak (i:=0) (show List.Nodup (["place"]:List Str) by decide +kernel) rfl (Or.inl rfl) (hf:=Or.inr rfl))) (fun _ _ _ _=>abd) (fun _ _ _ _=>(aa2 aab)))
  (aac (abc aJ1 rfl (aa5 (pv 2)) (aho rfl (acj (aak (i:=4) nd rfl (Or.inl rfl)) (acj (aak (i:=5) nd rfl (Or.inl rfl)) agj)))
   (aac (abk (acp PySem.F.plainAttrs_list PySem.F.slot_list_append PySem.F.type_list_append abh (aao aap (pv 3) (pv 4) (fun _ _=>rfl)) (aaa (pv 5) aab)))
    (aag (abk (acp PySem.F.plainAttrs_list PySem.F.slot_list_append PySem.F.type_list_append abh (aao aap (pv 3) (pv 5) (fun _ _=>rfl)) (aaa (pv 4) aab))))))
  (aag (aat (pv 3)))))),?_⟩
 refine abr h fun ss S q B W=>?_
 refine exS2 ss q fun n es c=>?_
 have O:=c.1
 have M:=c.2.1
 have r:=c.2.2.1
 have C:=c.2.2.2.1
 have k:=c.2.2.2.2
 clear c q
 show EvS B _ _ [some (.st (webD n es)),none,none,none,none,none]
 row_cond go
 rw [ab5]
 refine ⟨by omega,?_⟩
 row_cond go
 refine acl (fun i e=>∃ J G tl,e=[some (.st (webD n es)),some (.st (.int n)),some (.st (.list (es.map prD))),some (.own (OLL (tlD tl))),J,G]/\TiedL n (Tied (es.take i)) tl/\∀ d∈tl,d.length<=2 * i)
  ⟨none,none,List.replicate n.toNat [],by simp [tlD],⟨by simp;omega,fun i d hi w=>?_⟩,fun d L=>?_⟩ ?_ ?_
 ·rw [aH3] at hi
  split at hi
  ·cases hi;simp [Tied]
  ·cases hi
 ·have:=List.eq_of_mem_replicate L
  subst this;simp
 ·rintro i ⟨a,b⟩ e I m
  refine exS3 e m fun J G tl c=>?_
  have o:=c.1
  have l:=c.2
  clear c m
  have hi:i < es.length:=(aA1.mp I).1
  obtain ⟨a0,z,b0,y⟩:=r _ (aA2 I)
  dsimp only at a0 z b0 y
  row_cond go
  obtain ⟨d,g,_⟩:=o.get a0 z
  have R:=l d (aA2 g)
  refine afl (n:=a.toNat) (ds:=d.map .int) rfl rfl rfl (by rw [aA3];exact ah9 a0 (by rw [o.1];exact z)) (acw g) (by rw [aA3];omega) ?_
  dsimp only [List.set_cons_zero,List.set_cons_succ]
  have x:=o.put (q:=b) a0 z g
  rw [show d.map PyData.int ++ [.int b]=(d ++ [b]).map .int by simp,agw]
  have j:∀ us∈tl.set a.toNat (d ++ [b]),us.length<=2 * i+1:=fun us p=>by
   rcases List.mem_or_eq_of_mem_set p with h | h
   ·have:=l us h;omega
   ·subst h;simp;omega
  generalize tl.set a.toNat (d ++ [b])=tl2 at x j
  row_cond go
  obtain ⟨d,g,_⟩:=x.get b0 y
  have R:=j d (aA2 g)
  refine afl (n:=b.toNat) (ds:=d.map .int) rfl rfl rfl (by rw [aA3];exact ah9 b0 (by rw [x.1];exact y)) (acw g) (by rw [aA3];omega) ?_
  dsimp only [List.set_cons_zero,List.set_cons_succ]
  rw [show d.map PyData.int ++ [.int a]=(d ++ [a]).map .int by simp,agw]
  refine ⟨_,_,_,rfl,(x.put (q:=a) b0 y g).iff fun u v=>(Tied.snoc I u v).symm,fun us p=>?_⟩
  rcases List.mem_or_eq_of_mem_set p with h | h
  ·have:=j us h;omega
  ·subst h;simp;omega
 ·rintro e m
  refine exS3 e m fun J G tl c=>?_
  have o:=c.1
  have l:=c.2
  clear c m
  rw [aG4] at o
  row_cond go
  exact k tl o fun us p=>by have:=l us p;omega
end
@[reducible] def tlV (tl:List (List Int)):PyData:=.list ((tlD tl).map .list)
def az9:VP:=fun ss Q=>∃ (n a:Int) (T:Int->Int->Prop) (tl:List (List Int)),ss=[.st (tlV tl),.st (.int a)]/\n<=100/\TiedL n T tl/\(∀ u v,T u v->0<=v/\v < n)/\0<=a/\a < n/\Q (.own (OL (lab n.toNat (Gr.farO T a))))
section
variable {P:Program} {w:World} {K:Frag} {mg:Str->Option Value} {base:Heap}
theorem sc_far_from:FnScope ["tied","start","far","edge","beyond","place","other"] ["tied","start"] (aal s_far_from):=by row_cond sc
theorem agc (T:Txt K mg):Can P w K mg base "far_from" 1 ["tied","start"] (spP K (az9)):=by
 obtain ⟨f,fd,D⟩:=T.d_far_from
 refine D.can (D.fn.ok sc_far_from (fun vs H Q E h=>lenP h fun ss Q' q=>by obtain ⟨n,a,T,tl,rfl,n1,Y,hT,a0,a1,k⟩:=q;rfl) (fun cdv A outer s H vs Q E hr h=>?_))
 have nd:=sc_far_from.nd
 refine ⟨_,(aac (aaq (i:=2) nd rfl (Or.inl rfl) (aau axq (aa2 (aaa ak0 aab)) (aai abq (by rfl) T.b_len ace (aaa (pv 0) aab))))
  (aac (ad6 aae (afv (pv 2) (pv 1) aea))
  (aac (aaq (i:=3) nd rfl (Or.inl rfl) (aa2 (aaa (pv 1) aab)))
  (aac (ak4 aJ1 (ax8 (pv 3))
   (aac (aaq (i:=4) nd rfl (Or.inl rfl) (aa2 aab))
    (aac (abc aJ1 rfl (aa5 (pv 3)) (aak (i:=5) nd rfl (Or.inl rfl))
     (aag (abc aJ1 rfl (aa5 (aao aap (pv 0) (pv 5) (fun _ _=>rfl))) (aak (i:=6) nd rfl (Or.inl rfl))
       (aag (aa8 (aay avm (aao aap (pv 2) (pv 6) (fun _ _=>rfl)) ak0 (aa0 _))
         (aac (ad6 (aau abp (aao aap (pv 2) (pv 5) (fun _ _=>rfl)) aae) (afv (pv 2) (pv 6) aea))
          (aag (abk (acp PySem.F.plainAttrs_list PySem.F.slot_list_append PySem.F.type_list_append abh (pv 4) (aaa (pv 6) aab)))))
         aaz)))))
    (aag (aaq (i:=3) nd rfl (Or.inl rfl) (pv 4))))))
  (aag (aat (pv 2))))))),?_⟩
 refine abr h fun ss Q' q B hK=>?_
 refine exS4 ss q fun n a T tl b=>?_
 have n1:=b.1
 have Y:=b.2.1
 have hT:=b.2.2.1
 have a0:=b.2.2.2.1
 have a1:=b.2.2.2.2.1
 have k:=b.2.2.2.2.2
 clear b q
 show EvS B _ _ [some (.st (tlV tl)),some (.st (.int a)),none,none,none,none,none]
 have hl:tl.length=n.toNat:=by have:=Y.1;omega
 row_cond go
 refine awb (by first | omega | (simp;done) | (simp;omega)) (by first | omega | (simp;done) | (simp;omega)) (by first | omega | (simp;done) | (simp;omega)) ?_
 simp only [aA3,hl]
 rw [show ((n.toNat:Nat):Int).toNat=n.toNat by omega,awg]
 row_cond go
 refine apm (j:=a.toNat) rfl (by rw [acn];exact ah9 a0 (by omega)) ?_
 dsimp only [List.set_cons_zero,List.set_cons_succ,reS]
 rw [show (PyData.int 0)=.int ((0:Nat):Int) from rfl,an9 a0 (by omega)]
 row_cond go
 refine an7 3 rfl aef ?_
 dsimp only [List.set_cons_zero,List.set_cons_succ]
 refine ajq (fun m e=>∃ v4 I y far edge r,e=[some (.st (tlV tl)),some (.st (.int a)),some (.own (OL (lab n.toNat far))),some (.st (.list (edge.map .int))),v4,I,y]/\Gr.Ring T a r far edge/\(∀ v∈edge,0<=v/\v < n)/\m=2 * cnt far n.toNat+(if edge=[] then 0 else 1))
  ⟨_,none,none,none,_,[a],0,rfl,Gr.Ring.start,fun v N=>by simp at N;subst N;exact ⟨a0,a1⟩,rfl⟩ ?_
 rintro m e l
 refine exS6 e l fun v4 I y far edge r b=>?_
 have R:=b.1
 have hb:=b.2.1
 have a2:=b.2.2
 clear b l
 subst a2
 row_cond go
 rw [am8]
 cases hedge:edge with
 | nil =>
  subst hedge
  refine ada ?_
  row_cond go
  rw [arh (g:=Gr.farO T a) fun v _ _=>R.fin v]
  exact k
 | cons e0 er =>
  refine ab9 ?_
  rw [← hedge]
  have W:edge ≠ []:=by rw [hedge];simp
  row_cond go
  refine acl (fun i e=>∃ I y c beyond,e=[some (.st (tlV tl)),some (.st (.int a)),some (.own (OL (lab n.toNat c))),some (.st (.list (edge.map .int))),some (.own (OL (beyond.map .int))),I,y]/\Gr.Mid T r far edge (fun u=>u∈edge.take i) c beyond/\cnt c n.toNat+beyond.length=cnt far n.toNat/\∀ v∈beyond,0<=v/\v < n)
   ⟨I,y,far,[],rfl,Gr.Mid.start.imp fun u M=>by simp at M,rfl,fun v N=>by simp at N⟩ ?_ ?_
  ·rintro i p e hp l
   refine exS4 e l fun I y c beyond b=>?_
   have C:=b.1
   have G:=b.2.1
   have o:=b.2.2
   clear b l
   have L:=aA2 hp
   obtain ⟨p0,p1⟩:=hb p L
   obtain ⟨ws,S,hw⟩:=Y.get p0 p1
   have a4:atI ((tlD tl).map PyData.list) p=some (.list (ws.map .int)):=ame (f:=PyData.list) (adp p0 (acw S))
   row_cond go
   have U:far p=some r:=(R.lab p r).mpr ⟨(R.edg p).mp L,aA6 _⟩
   refine acl (fun j e=>∃ y c beyond,e=[some (.st (tlV tl)),some (.st (.int a)),some (.own (OL (lab n.toNat c))),some (.st (.list (edge.map .int))),some (.own (OL (beyond.map .int))),some (.st (.int p)),y]/\Gr.Mid T r far edge (fun u=>u∈edge.take i) c beyond/\cnt c n.toNat+beyond.length=cnt far n.toNat/\(∀ v∈beyond,0<=v/\v < n)/\∀ x∈ws.take j,c x ≠ none)
    ⟨y,c,beyond,rfl,C,G,o,fun x J=>by simp at J⟩ ?_ ?_
   ·rintro j u e M l
    refine exS3 e l fun y c beyond b=>?_
    have C:=b.1
    have G:=b.2.1
    have o:=b.2.2.1
    have z:=b.2.2.2
    clear b l
    have tu:T p u:=(hw u).mp (aA2 M)
    obtain ⟨O,u1⟩:=hT _ _ tu
    have a3:atI (lab n.toNat c) u=some (oD (c u)):=arf O (by omega)
    have a5:atI (lab n.toNat c) p=some (.int (r:Int)):=by
     rw [arf p0 (by omega),C.old p r U];rfl
    row_cond go
    rw [awf]
    cases hf:c u with
    | none =>
     refine ab9 ?_
     row_cond go
     refine apm (j:=u.toNat) rfl (by rw [acn];exact ah9 O (by omega)) ?_
     dsimp only [List.set_cons_zero,List.set_cons_succ,reS]
     rw [show (PyData.int ((r:Int)+1))=.int ((r+1:Nat):Int) by simp,an9 O (by omega)]
     have a6:=ady (d:=r+1) O hf (n:=n.toNat) (by omega)
     have X:beyond.length<=cnt far n.toNat:=by omega
     have Z:∀ m,cnt far m<=m:=fun m=>by
      induction m with
      | zero=>exact aA6 _
      | succ m ih=>unfold cnt;split <;> omega
     have:=Z n.toNat
     row_cond go
     refine ⟨some (.st (.int u)),Gr.label c u (r+1),beyond ++ [u],by simp,C.add L tu hf,by simp;omega,fun v N=>?_,fun x J=>?_⟩
     ·rcases aA7.mp N with h | h
      ·exact o v h
      ·have:v=u:=by simpa using h
       subst this;exact ⟨O,u1⟩
     ·by_cases hx2:x=u
      ·subst hx2;rw [Gr.label_same];simp
      ·rw [Gr.label_ne hx2]
       rcases abz M J with h | h
       ·exact z x h
       ·exact absurd h hx2
    | some d =>
     refine ada ?_
     row_cond go
     refine ⟨_,c,beyond,rfl,C,G,o,fun x J=>?_⟩
     rcases abz M J with h | h
     ·exact z x h
     ·subst h;rw [hf];simp
   ·rintro e l
    refine exS3 e l fun y c beyond b=>?_
    have C:=b.1
    have G:=b.2.1
    have o:=b.2.2.1
    have z:=b.2.2.2
    clear b l
    rw [aG4] at z
    refine ⟨_,_,c,beyond,rfl,?_,G,o⟩
    refine (C.did (u:=p) fun x tx=>z x ((hw x).mpr tx)).imp fun x J=>?_
    exact abz hp J
  ·rintro e l
   refine exS4 e l fun I y c beyond b=>?_
   have C:=b.1
   have G:=b.2.1
   have o:=b.2.2
   clear b l
   row_cond go
   refine ⟨_,?_,_,_,_,c,beyond,r+1,rfl,R.next C fun u M=>by rw [aG4];exact M,o,rfl⟩
   rw [aF2 W]
   cases beyond with
   | nil=>rw [aF1 rfl];simp at G;omega
   | cons b0 br=>rw [aF2 (by simp)];simp at G;omega
end
def anb:VP:=fun ss Q=>∃ (n a:Int) (es:List (Int × Int)),ss=[.st (webD n es),.st (.int a)]/\0<=a/\a < n/\Q (.st .none)
def at3:VP:=fun ss Q=>∃ (n a:Int) (es:List (Int × Int)),ss=[.st (webD n es),.st (.int a)]/\n<=100/\InN n es/\es.length<=10000/\0<=a/\a < n/\Q (.own (OL (lab n.toNat (Gr.farO (Tied es) a))))
def at4:VP:=fun ss Q=>∃ (n:Int) (es:List (Int × Int)),ss=[.st (webD n es)]/\1<=n/\n<=100/\InN n es/\es.length<=10000/\∀ b:Bool,(b=true ↔ Joined n es)->Q (.st (.bool b))
section
variable {P:Program} {w:World} {K:Frag} {mg:Str->Option Value} {base:Heap}
theorem sc_need_place:FnScope ["web","thing"] ["web","thing"] (aal s_need_place):=by row_cond sc
theorem ai8 (T:Txt K mg):Can P w K mg base "need_place" 4 ["web","thing"] (spP K (anb)):=by
 obtain ⟨f,fd,D⟩:=T.d_need_place
 refine D.can (D.fn.ok sc_need_place (fun vs H Q E h=>lenP h fun ss g q=>by obtain ⟨n,a,es,rfl,a0,d,k⟩:=q;rfl) (fun cdv A outer s H vs Q E c h=>?_))
 have nd:=sc_need_place.nd
 refine ⟨_,(aag (aa8 (acd (aci (aah (amq T) c (aaa (aao aap (pv 0) aae (fun _ _=>rfl)) (aaa (pv 1) aab)))))
   (aag ak3)
   aaz)),?_⟩
 refine abr h fun ss g q B i=>?_
 refine exS3 ss q fun n a es b=>?_
 have a0:=b.1
 have d:=b.2.1
 have k:=b.2.2
 clear b q
 show EvS B _ _ [some (.st (webD n es)),some (.st (.int a))]
 row_cond go
 refine ⟨_,_,rfl,?_⟩
 row_cond go
 have e:btwD 0 (n - 1) (.int a)=true:=aD5 ⟨a0,by omega⟩
 rw [e]
 row_cond go
 exact k
theorem sc_all_far:FnScope ["web","a"] ["web","a"] (aal s_all_far):=by row_cond sc
theorem anc (T:Txt K mg):Can P w K mg base "all_far" 5 ["web","a"] (spP K (at3)):=by
 obtain ⟨f,fd,D⟩:=T.d_all_far
 refine D.can (D.fn.ok sc_all_far (fun vs H Q E h=>lenP h fun ss m q=>by obtain ⟨n,a,es,rfl,i,c,d,a0,j,k⟩:=q;rfl) (fun cdv A outer s H vs Q E g h=>?_))
 have nd:=sc_all_far.nd
 refine ⟨_,(aac (abk (aah (ai8 T) g (aaa (pv 0) (aaa (pv 1) aab))))
  (aag (aat (aah (agc T) g (aaa (aah (adg T) g (aaa (pv 0) aab)) (aaa (pv 1) aab)))))),?_⟩
 refine abr h fun ss m q B o=>?_
 refine exS3 ss q fun n a es b=>?_
 have i:=b.1
 have c:=b.2.1
 have d:=b.2.2.1
 have a0:=b.2.2.2.1
 have j:=b.2.2.2.2.1
 have k:=b.2.2.2.2.2
 clear b q
 show EvS B _ _ [some (.st (webD n es)),some (.st (.int a))]
 row_cond go
 refine ⟨n,a,es,rfl,a0,j,?_⟩
 row_cond go
 refine ⟨n,es,rfl,by omega,i,c,d,fun tl l _=>?_⟩
 refine ard ?_
 row_cond go
 exact ⟨n,a,Tied es,tl,rfl,i,l,fun u v h=>(h.in c).2,a0,j,k⟩
theorem sc_is_joined:FnScope ["web"] ["web"] (aal s_is_joined):=by row_cond sc
theorem aki (T:Txt K mg):Can P w K mg base "is_joined" 6 ["web"] (spP K (at4)):=by
 obtain ⟨f,fd,D⟩:=T.d_is_joined
 refine D.can (D.fn.ok sc_is_joined (fun vs H Q E h=>lenP h fun ss m q=>by obtain ⟨n,es,rfl,j,i,b,c,k⟩:=q;rfl) (fun cdv A outer s H vs Q E g h=>?_))
 have nd:=sc_is_joined.nd
 refine ⟨_,(aag (aat (ae0 (ajo g.units) ak0 (aah (anc T) g (aaa (pv 0) (aaa aae aab))) rfl))),?_⟩
 refine abr h fun ss m q B o=>?_
 refine exS2 ss q fun n es a=>?_
 have j:=a.1
 have i:=a.2.1
 have b:=a.2.2.1
 have c:=a.2.2.2.1
 have k:=a.2.2.2.2
 clear a q
 show EvS B _ _ [some (.st (webD n es))]
 row_cond go
 refine ⟨n,0,es,rfl,i,b,c,by omega,by omega,?_⟩
 row_cond go
 refine an4 rfl ari (by simp [PyData.depth]) ?_
 row_cond go
 refine k _ ?_
 rw [aF1 rfl,Bool.not_eq_true',← Bool.not_eq_true,awh]
 constructor
 ·intro h v v0 l
  cases e:Gr.farO (Tied es) 0 v with
  | some d=>exact ⟨d,Gr.farO_some.mp e⟩
  | none=>exact absurd ⟨v,v0,by omega,e⟩ h
 ·rintro h ⟨v,v0,l,e⟩
  obtain ⟨d,hd⟩:=h v v0 (by omega)
  exact Gr.farO_none.mp e d hd
end
def dsF (es:List (Int × Int)) (u v:Int):Int:=(((Gr.farO (Tied es) u v).getD 0:Nat):Int)
def rowD (n:Nat) (r:Int->Int):List PyData:=(List.range n).map fun (i:Nat) => .int (r (i:Int))
def matD (n:Nat) (m:Int->Int->Int):List PyData:=(List.range n).map fun (u:Nat) => .list (rowD n (m (u:Int)))
theorem aei {n:Nat} {r:Int->Int} {x:Int} (a:0<=x) (b:x < n):atI (rowD n r) x=some (.int (r x)):=by
 have:=adj (xs:=rowD n r) (j:=x.toNat) (v:=.int (r x)) (by
  unfold rowD
  rw [aA5,aA0 (by simp;omega)]
  simp [Int.max_eq_left a])
 rwa [show ((x.toNat:Nat):Int)=x by omega] at this
theorem ad0 {n:Nat} {m:Int->Int->Int} {x:Int} (a:0<=x) (b:x < n):atI (matD n m) x=some (.list (rowD n (m x))):=by
 have:=adj (xs:=matD n m) (j:=x.toNat) (v:=.list (rowD n (m x))) (by
  unfold matD
  rw [aA5,aA0 (by simp;omega)]
  simp [Int.max_eq_left a])
 rwa [show ((x.toNat:Nat):Int)=x by omega] at this
theorem agz {n:Nat} {m:Int->Int->Int}:(matD n m).length=n:=by simp [matD]
theorem adn {n:Nat} {r:Int->Int}:rowD n r=((List.range n).map fun (i:Nat)=>r (i:Int)).map .int:=by simp [rowD]
theorem afn {n:Int} {es:List (Int × Int)} (c:Joined n es) {u v:Int} (g:0<=u) (a:u < n) (v0:0<=v) (f:v < n):∃ d,Gr.farO (Tied es) u v=some d:=by
 cases e:Gr.farO (Tied es) u v with
 | some d=>exact ⟨d,rfl⟩
 | none =>
  obtain ⟨k,b⟩:=c.conn u v g a v0 f
  obtain ⟨d,_,hd⟩:=Gr.Dist.of_walk b
  exact absurd hd (Gr.farO_none.mp e d)
theorem aww {n:Int} {es:List (Int × Int)} (b:Joined n es) {u:Int} (c:0<=u) (a:u < n):lab n.toNat (Gr.farO (Tied es) u)=rowD n.toNat (dsF es u):=by
 unfold lab rowD
 refine aE5 fun i hi=>?_
 obtain ⟨d,e⟩:=afn b c a (show 0<=(i:Int) by omega) (by have:=aB8.mp hi;omega)
 simp only [dsF,e,oD,Option.getD_some]
theorem acu {α:Type} {K:Frag} {src:List (Option Nat)} {a:En} {te:TE} {R:List PyData->En->Prop} {xs:List α} {f : α->PyData} (g : α->PyData) (m:noIo (aar src a)=true) (z:xs.length<=999999)
  (h:∀ x∈xs,∀ c:Bs,c.K=K->Ev c te (some (.st (f x)) :: aar src a) fun y j=>y=g x/\j=some (.st (f x)) :: aar src a)
  (w:R (xs.map g) a):LcV K (none :: src) (abf 0) tYes te (xs.map f) a R:=by
 have b:noIo (aar (none :: src) a)=true:=by
  show ((none :: aar src a).all fun s => !isIo s)=true
  rw [List.all_cons]
  exact (aG7 _ _).mpr ⟨rfl,m⟩
 refine ⟨fun i ys e=>ys=(xs.take i).map g/\∃ o,e=stO o :: aar src a,⟨by simp,none,rfl⟩,?_,?_,?_⟩
 ·rintro i ys e ⟨_,o,rfl⟩
  exact ⟨⟨isIo_stO.symm,af7⟩,aet aex⟩
 ·rintro i d ys e hd ⟨rfl,o,rfl⟩ c n
  rw [aA5] at hd
  cases hx:xs[i]? with
  | none=>rw [hx] at hd;cases hd
  | some x =>
   rw [hx] at hd
   cases hd
   have hi:i < xs.length:=(aA1.mp hx).1
   have u:xs.take (i+1)=xs.take i ++ [x]:=by rw [aH0,hx];rfl
   refine abb (ags ?_)
   rw [aF1 rfl]
   intro σ G H F Q I k
   refine h x (aA2 hx) c n σ G H F Q I fun v G' H' F' d' j r g' q ⟨p,l⟩=>k v G' H' F' d' j r g' q ?_
   subst p l
   refine ⟨by simp;omega,by rw [u];simp,some _,rfl⟩
 ·rintro ys e ⟨rfl,o,rfl⟩
  rw [ai2 b]
  simpa using w
theorem at5 {ns:List Int} {x y:Int} (h:ac9 ns x) (g:ac9 ns y):x=y:=Int.le_antisymm (g.2 x h.1) (h.2 y g.1)
theorem ai9:∀ {ns:List Int},ns ≠ []->∃ x,ac9 ns x
 | [a],_=>⟨a,by simp [ac9]⟩
 | a :: b :: r,_=>by
  obtain ⟨x,d,hm⟩:=ai9 (ns:=b :: r) (by simp)
  by_cases h:a<=x
  ·exact ⟨x,aB4 _ d,fun y c=>by
    rcases aA8.mp c with rfl | c
    ·exact h
    ·exact hm y c⟩
  ·exact ⟨a,aB7,fun y c=>by
    rcases aA8.mp c with rfl | c
    ·exact Int.le_refl _
    ·have:=hm y c;omega⟩
theorem awx {n:Nat} (b:1<=n) (m:Int->Int->Int):∃ a:Nat->Int,∀ u:Nat,ac9 ((List.range n).map fun (i:Nat)=>m (u:Int) (i:Int)) (a u) :=
 ⟨fun u=>Classical.choose (ai9 (ns:=(List.range n).map fun (i:Nat)=>m (u:Int) (i:Int)) (by simp;omega)),fun u=>Classical.choose_spec (ai9 (ns:=(List.range n).map fun (i:Nat)=>m (u:Int) (i:Int)) (by simp;omega))⟩
def amr:VP:=fun ss Q=>∃ (n:Int) (es:List (Int × Int)),ss=[.st (webD n es)]/\1<=n/\n<=100/\InN n es/\es.length<=10000/\Joined n es/\Q (.st .none)
def matL (n:Nat) (m:Int->Int->Int):List (List PyData):=(List.range n).map fun (u:Nat)=>rowD n (m (u:Int))
theorem agd (n:Nat) (m:Int->Int->Int):(matL n m).map PyData.list=matD n m:=by unfold matL matD;rw [aD7];rfl
def aii:VP:=fun ss Q=>∃ (n:Int) (es:List (Int × Int)),ss=[.st (webD n es)]/\1<=n/\n<=100/\InN n es/\es.length<=10000/\Joined n es/\Q (.own (OLL (matL n.toNat (dsF es))))
def auv (n:Nat) (m:Int->Int->Int) (x:Int):Prop:=(∃ u v:Int,0<=u/\u < n/\0<=v/\v < n/\m u v=x)/\∀ u v:Int,0<=u->u < n->0<=v->v < n->m u v<=x
structure FreeAll (n:Int) (es fs:List (Int × Int)):Prop where
 mem:∀ p:Int × Int,p∈fs ↔ (0<=p.1/\p.1 < p.2/\p.2 < n/\p ∉ es)
 rise:Rise fs
theorem FreeAll.eq {n:Int} {es fs a:List (Int × Int)} (h:FreeAll n es fs) (g:FreeAll n es a):fs=a:=h.rise.eq g.rise fun p=>by rw [h.mem,g.mem]
theorem FreeAll.len {n:Int} {es fs:List (Int × Int)} (h:FreeAll n es fs) (b:n<=100):fs.length<=10000:=PsOk.len ⟨h.rise.nodup,fun p a=>by have:=(h.mem p).mp a;omega⟩ b
section
variable {P:Program} {w:World} {K:Frag} {mg:Str->Option Value} {base:Heap}
theorem sc_need_joined:FnScope ["web"] ["web"] (aal s_need_joined):=by row_cond sc
theorem aev (T:Txt K mg):Can P w K mg base "need_joined" 7 ["web"] (spP K (amr)):=by
 obtain ⟨f,fd,D⟩:=T.d_need_joined
 refine D.can (D.fn.ok sc_need_joined (fun vs H Q E h=>lenP h fun ss m q=>by obtain ⟨n,es,rfl,j,i,c,d,g,k⟩:=q;rfl) (fun cdv A outer s H vs Q E l h=>?_))
 have nd:=sc_need_joined.nd
 refine ⟨_,(aag (aa8 (acd (aci (aah (aki T) l (aaa (pv 0) aab))))
   (aag ak3)
   aaz)),?_⟩
 refine abr h fun ss m q B o=>?_
 refine exS2 ss q fun n es a=>?_
 have j:=a.1
 have i:=a.2.1
 have c:=a.2.2.1
 have d:=a.2.2.2.1
 have g:=a.2.2.2.2.1
 have k:=a.2.2.2.2.2
 clear a q
 show EvS B _ _ [some (.st (webD n es))]
 row_cond go
 refine ⟨n,es,rfl,j,i,c,d,fun b hb=>?_⟩
 have:b=true:=hb.mpr g
 subst this
 row_cond go
 exact k
theorem sc_far_rows:FnScope ["web","tied"] ["web"] (aal s_far_rows):=by row_cond sc
theorem ams (T:Txt K mg):Can P w K mg base "far_rows" 8 ["web"] (spP K (aii)):=by
 obtain ⟨f,fd,D⟩:=T.d_far_rows
 refine D.can (D.fn.ok sc_far_rows (fun vs H Q E h=>lenP h fun ss C q=>by obtain ⟨n,es,rfl,p,g,b,c,o,k⟩:=q;rfl) (fun cdv A outer s H vs Q E j h=>?_))
 have nd:=sc_far_rows.nd
 refine ⟨_,(aac (abk (aah (aev T) j (aaa (pv 0) aab)))
  (aac (aaq (i:=1) nd rfl (Or.inr rfl) (aah (adg T) j (aaa (pv 0) aab)))
  (aag (aat (acg rfl (N:=["place","tied"]) (src:=[none,some 1]) (by exact aa9 rfl rfl rfl rfl rfl rfl) (aa6 rfl T.b_range (aaa (aai abq (by rfl) T.b_len ace (aaa (pv 1) aab)) aab)) (fun _ _ _ _=>(aak (i:=0) (show List.Nodup (["place","tied"]:List Str) by decide +kernel) rfl (Or.inl rfl) (hf:=Or.inr rfl))) (fun _ _ _ _=>abd) (fun _ _ _ _=>(aah (agc T) j (aaa (pv 1) (aaa (pv 0) aab))))))))),?_⟩
 refine abr h fun ss C q B F=>?_
 refine exS2 ss q fun n es a=>?_
 have p:=a.1
 have g:=a.2.1
 have b:=a.2.2.1
 have c:=a.2.2.2.1
 have o:=a.2.2.2.2.1
 have k:=a.2.2.2.2.2
 clear a q
 show EvS B _ _ [some (.st (webD n es)),none]
 row_cond go
 refine ⟨n,es,rfl,p,g,b,c,o,?_⟩
 row_cond go
 refine ⟨n,es,rfl,by omega,g,b,c,fun tl r _=>?_⟩
 refine acx aca ?_
 have z:tl.length=n.toNat:=by have:=r.1;omega
 have m:((tlD tl).map PyData.list).length=n.toNat:=by simp [tlD,z]
 repeat (first | (refine aoc ?_) | row_cond st)
 rw [m,show (((n.toNat:Nat):Int)).toNat=n.toNat by omega]
 refine ⟨by rw [ab5];omega,matL n.toNat (dsF es),by rw [ab5];simp [matL],fun u d hd y G=>?_,k⟩
 obtain ⟨x,rfl⟩:=ahg hd
 have l:(u:Int) < n:=by omega
 show EvO y _ [some (.st (.int (0+(u:Int)))),some (.st (.list ((tlD tl).map .list)))] _
 row_cond go
 refine ⟨n,0+(u:Int),Tied es,tl,rfl,g,r,fun u v h=>(h.in b).2,by omega,by omega,⟨rowD n.toNat (dsF es (u:Int)),?_,?_⟩⟩
 ·unfold matL
  rw [aA5,aD6 x]
  rfl
 ·rw [aI2,aww o (by omega) l]
end
def ads (n:Int):PyData->Bool
 | .list ds=>decide ((ds.length:Int)=n)
 | _=>false
def aky:PyData->Bool
 | .list ds=>ds.all isInt
 | _=>false
def abt (n:Int):PyData->Bool
 | .list ds=>decide ((ds.length:Int)=n) && ds.all (ads n) && ds.all aky
 | _=>false
def adh:PyData->List PyData
 | .list ds=>ds
 | _=>[]
def azb:VP:=fun ss Q=>∃ (n:Int) (d:PyData),ss=[.st (.int n),.st d]/\Q (.st (.bool (ads n d)))
def at6:VP:=fun ss Q=>∃ (n:Int) (d:PyData),ss=[.st (.int n),.st d]/\n<=100/\Q (.st (.bool (abt n d)))
def afb (T:Int->Int->Prop) (d:Int) (m:Int->Int->Int) (a b:Int):Prop:=(a=b->m a b=0)/\(a ≠ b->1<=m a b/\m a b<=d/\∃ p,T a p/\m p b=m a b - 1)
def awy:VP:=fun ss Q=>∃ (n:Nat) (T:Int->Int->Prop) (tl:List (List Int)) (d:Int) (m:Int->Int->Int) (a b:Int),ss=[.st (tlV tl),.st (.int d),.st (.list (matD n m)),.st (.int a),.st (.int b)]/\n<=100/\TiedL n T tl/\(∀ u v,T u v->0<=v/\v < n)/\(∀ ws∈tl,ws.length<=20000)/\0<=a/\a < n/\0<=b/\b < n/\∀ bb:Bool,(bb=true ↔ afb T d m a b)->Q (.st (.bool bb))
def aop (n:Int) (es:List (Int × Int)) (d:Int) (m:Int->Int->Int):Prop:=0<=d/\∀ a b:Int,0<=a->a < n->0<=b->b < n->afb (Tied es) d m a b
def awz:VP:=fun ss Q=>∃ (n d:Int) (es:List (Int × Int)) (p:PyData),ss=[.st (webD n es),.st (.int d),.st p]/\1<=n/\n<=100/\InN n es/\es.length<=10000/\Joined n es/\(abt n p=false->Q (.st (.bool false)))/\∀ m,p=.list (matD n.toNat m)->∀ bb:Bool,(bb=true ↔ aop n es d m)->Q (.st (.bool bb))
def a0a:PyData->Int
 | .int i=>i
 | _=>0
theorem aj0 {n:Int} {p:PyData} (h:abt n p=true):∃ m,p=.list (matD n.toNat m):=by
 cases p with
 | list ds =>
  simp only [abt,aG7,decide_eq_true_eq,aF0] at h
  obtain ⟨⟨w,s⟩,q⟩:=h
  refine ⟨fun a b=>a0a ((adh (ds.getD a.toNat .none)).getD b.toNat .none),congrArg PyData.list ?_⟩
  refine List.ext_getElem (by rw [agz];omega) fun i hi u=>?_
  have f:=s ds[i] (aE8 hi)
  have d:=q ds[i] (aE8 hi)
  have o:ds.getD i .none=ds[i]:=by rw [aD2,aA0 hi];rfl
  generalize ds[i]=r at f d o
  cases r with
  | list xs =>
   have y:(xs.length:Int)=n:=of_decide_eq_true f
   simp only [matD,List.getElem_map,List.getElem_range]
   refine congrArg PyData.list (List.ext_getElem (by simp [rowD];omega) fun j l v=>?_)
   have c:=aF0.mp d xs[j] (aE8 l)
   have g:xs.getD j .none=xs[j]:=by rw [aD2,aA0 l];rfl
   simp only [rowD,List.getElem_map,List.getElem_range,Int.toNat_natCast,o,adh,g]
   generalize xs[j]=x at c
   cases x with
   | int i=>rfl
   | _=>cases c
  | _=>cases f
 | _=>cases h
theorem aw0 {n:Nat} (r:Int->Int):aky (.list (rowD n r))=true:=by
 unfold aky rowD
 simp only [List.all_map,aF0]
 intro x _;rfl
theorem ap4 {n:Int} (h:0<=n) (m:Int->Int->Int):abt n (.list (matD n.toNat m))=true:=by
 unfold abt
 simp only [agz,aG7,decide_eq_true_eq,aF0]
 refine ⟨⟨by omega,fun r a=>?_⟩,fun r a=>?_⟩
 ·unfold matD at a
  obtain ⟨u,_,rfl⟩:=aB6.mp a
  exact aD5 (by simp only [rowD,aA3,aD8];omega)
 ·unfold matD at a
  obtain ⟨u,_,rfl⟩:=aB6.mp a
  exact aw0 _
theorem aj1 {n:Int} {d:PyData} (h:ads n d=true):∃ ds,d=.list ds/\(ds.length:Int)=n:=by
 cases d with
 | list ds=>exact ⟨ds,rfl,of_decide_eq_true h⟩
 | _=>cases h
theorem aoq {α:Type} {k:Nat} {f:PyData->List α}:∀ (l:List PyData),(∀ u∈l,(f u).length<=k)->(l.flatMap f).length<=l.length * k
 | [],_=>by simp
 | u :: l,h=>by
  have c:=h u aB7
  have b:=aoq l fun v a=>h v (aB4 _ a)
  rw [List.flatMap_cons,aB0,aE2,Nat.add_mul]
  omega
theorem amt {n:Nat} {c:Int->Int->Bool}:((List.range n).flatMap fun (u:Nat)=>((List.range n).filter fun _=>true).map fun (v:Nat)=>PyData.bool (c (u:Int) (v:Int)))=((List.range n).flatMap fun (u:Nat)=>(List.range n).map fun (v:Nat)=>c (u:Int) (v:Int)).map .bool:=by
 rw [List.map_flatMap]
 congr 1
 funext u
 rw [aD7,List.filter_eq_self.mpr fun _ _=>rfl]
 rfl
section
variable {P:Program} {w:World} {K:Frag} {mg:Str->Option Value} {base:Heap}
theorem sc_is_long:FnScope ["n","thing"] ["n","thing"] (aal s_is_long):=by row_cond sc
theorem ag9 (T:Txt K mg):Can P w K mg base "is_long" 1 ["n","thing"] (spP K (azb)):=by
 obtain ⟨f,fd,D⟩:=T.d_is_long
 refine D.can (D.fn.ok sc_is_long (fun vs H Q E h=>lenP h fun ss b q=>by obtain ⟨n,d,rfl,k⟩:=q;rfl) (fun cdv A outer s H vs Q E c h=>?_))
 have nd:=sc_is_long.nd
 refine ⟨_,(aag (aat (ak2 (aai act (by rfl) T.b_isinstance abu (aaa (pv 1) (aaa (adi (v:=.ty "list") rfl T.b_list adk rfl) aab))) (ak1 (ae0 aek (aai abq (by rfl) T.b_len ace (aaa (pv 1) aab)) (pv 0) (aa0 _)))))),?_⟩
 refine abr h fun ss b q B g=>?_
 refine exS2 ss q fun n d a=>?_
 have k:=a
 clear a q
 show EvS B _ _ [some (.st (.int n)),some (.st d)]
 row_cond go
 cases d with
 | list ds =>
  refine ab9 ?_
  row_cond go
  exact k
 | _ =>
  refine ada ?_
  exact k
theorem sc_is_square:FnScope ["n","paper"] ["n","paper"] (aal s_is_square):=by row_cond sc
theorem akj (T:Txt K mg):Can P w K mg base "is_square" 2 ["n","paper"] (spP K (at6)):=by
 obtain ⟨f,fd,D⟩:=T.d_is_square
 refine D.can (D.fn.ok sc_is_square (fun vs H Q E h=>lenP h fun ss F q=>by obtain ⟨n,d,rfl,u,k⟩:=q;rfl) (fun cdv A outer s H vs Q E b h=>?_))
 have nd:=sc_is_square.nd
 refine ⟨_,(aac (aa8 (PW.pt (afc (acd (aci (aah (ag9 T) b (aaa (pv 0) (aaa (pv 1) aab))))) (ad5 (acd (aci (aai (af8 rfl) (by rfl) T.b_all alm (aaa (acg rfl (N:=["row","n"]) (src:=[none,some 0]) (by exact aa9 rfl rfl rfl rfl rfl rfl) (aa5 (pv 1)) (fun _ _ _ _=>(aak (i:=0) (show List.Nodup (["row","n"]:List Str) by decide +kernel) rfl (Or.inl rfl) (hf:=Or.inr rfl))) (fun _ _ _ _=>abd) (fun _ _ _ _=>(aah (ag9 T) b (aaa (pv 1) (aaa (pv 0) aab))))) aab)))))))
   (aag (aat abi))
   aaz)
  (aag (aat (aai (af8 rfl) (by rfl) T.b_all alm (aaa (aqx rfl (N:=["row","number"]) (src:=[none,none]) (by exact aa9 rfl rfl rfl rfl rfl rfl) (aa5 (pv 1)) (fun _ _ _ _=>(aak (i:=0) (show List.Nodup (["row","number"]:List Str) by decide +kernel) rfl (Or.inl rfl) (hf:=Or.inr rfl))) (fun _ _ _ _=>abd) (fun _ _ _ _=>(show PI _ _ _ (aoz K _) from aa5 (pv 0))) (fun _ _ _ _=>(aak (i:=1) (show List.Nodup (["row","number"]:List Str) by decide +kernel) rfl (Or.inl rfl) (hf:=Or.inr rfl))) (fun _ _ _ _=>abd) (fun _ _ _ _=>(aah (agb T) b (aaa (pv 1) aab)))) aab))))),?_⟩
 refine abr h fun ss F q B G=>?_
 refine exS2 ss q fun n d c=>?_
 have u:=c.1
 have k:=c.2
 clear c q
 show EvS B _ _ [some (.st (.int n)),some (.st d)]
 row_cond go
 refine ⟨_,_,rfl,?_⟩
 cases e:ads n d with
 | false =>
  row_cond go
  rw [show abt n d=false by
   cases d with
   | list ds=>simp only [abt,show decide ((ds.length:Int)=n)=false from e,Bool.false_and]
   | _=>rfl] at k
  exact k
 | true =>
  obtain ⟨ds,rfl,C⟩:=aj1 e
  row_cond go
  refine av1 (fun r => .bool (ads n r)) rfl (by omega) (fun r _ j p=>?_) ?_
  ·row_cond go
   exact ⟨n,r,rfl,rfl,rfl⟩
  ·row_cond go
   rw [show (ds.map fun r=>PyData.bool (ads n r))=(ds.map (ads n)).map .bool by rw [aD7];rfl]
   refine ai4 ?_
   rw [show (ds.map (ads n)).all id=ds.all (ads n) by simp [List.all_map]]
   row_cond go
   cases e2:ds.all (ads n) with
   | false =>
    row_cond go
    rw [show abt n (.list ds)=false by simp only [abt,e2,Bool.and_false,Bool.false_and]] at k
    exact k
   | true =>
    have b:∀ r∈ds,∃ xs,r=.list xs/\(xs.length:Int)=n:=fun r b=>aj1 (aF0.mp e2 r b)
    row_cond go
    have l:(ds.flatMap fun r=>((adh r).filter fun _=>true).map fun x=>PyData.bool (isInt x)).length<=999999:=by
     have:=aoq (k:=100) (f:=fun r=>((adh r).filter fun _=>true).map fun x=>PyData.bool (isInt x)) ds fun r a=>by
      obtain ⟨xs,rfl,g⟩:=b r a
      rw [aA3]
      refine aC9 (List.length_filter_le _ _) ?_
      show xs.length<=100
      omega
     have I:ds.length * 100<=100 * 100:=Nat.mul_le_mul_right _ (by omega)
     omega
    have m:ds.map id=ds:=List.map_id ds
    rw [← m]
    refine ami (xs:=ds) (fx:=id) adh id (fun _ x => .bool (isInt x)) (fun _ _=>true) (ajy rfl) l ?_ ?_ ?_
    ·intro r a j p o
     obtain ⟨xs,rfl,g⟩:=b r a
     show EvI j _ (some (.st (.list xs)) :: _) _
     row_cond go
     exact ⟨(List.map_id xs).symm,rfl⟩
    ·intro r a x g j p
     show EvT j _ (some (.st r) :: some (.st x) :: _) _
     row_cond go
     intro _
     row_cond go
     exact ⟨x,rfl,rfl,rfl⟩
    ·rw [show (ds.flatMap fun r=>((adh r).filter fun _=>true).map fun x=>PyData.bool (isInt x))=(ds.flatMap fun r=>(adh r).map isInt).map .bool by
      rw [List.map_flatMap]
      congr 1
      funext r
      rw [aD7,List.filter_eq_self.mpr fun _ _=>rfl]
      rfl]
     row_cond go
     refine ai4 ?_
     rw [show (ds.flatMap fun r=>(adh r).map isInt).all id=abt n (.list ds) by
      have v:(ds.flatMap fun r=>(adh r).map isInt).all id=ds.all aky:=by
       rw [aH4]
       simp only [aF0,List.mem_flatMap,aB6,id]
       constructor
       ·intro z r a
        obtain ⟨xs,rfl,_⟩:=b r a
        exact aF0.mpr fun x g=>z _ ⟨_,a,x,g,rfl⟩
       ·rintro z y ⟨r,a,x,g,rfl⟩
        obtain ⟨xs,rfl,_⟩:=b r a
        exact aF0.mp (z _ a) x g
      rw [v]
      simp only [abt,e2,show decide ((ds.length:Int)=n)=true from aD5 C,Bool.and_self,Bool.true_and]]
     row_cond go
     exact k
theorem sc_number_holds:FnScope ["tied","d","paper","a","b","number"] ["tied","d","paper","a","b"] (aal s_number_holds):=by row_cond sc
theorem ahm (T:Txt K mg):Can P w K mg base "number_holds" 1 ["tied","d","paper","a","b"] (spP K (awy)):=by
 obtain ⟨f,fd,D⟩:=T.d_number_holds
 refine D.can (D.fn.ok sc_number_holds (fun vs H Q E h=>lenP h fun ss R q=>by obtain ⟨n,J,tl,d,m,a,b,rfl,I,F,l,C,a0,G,b0,y,k⟩:=q;rfl) (fun cdv A outer s H vs Q E U h=>?_))
 have nd:=sc_number_holds.nd
 refine ⟨_,(aac (aaq (i:=5) nd rfl (Or.inr rfl) (aao aap (aao aap (pv 2) (pv 3) (fun _ _=>rfl)) (pv 4) (fun _ _=>rfl)))
  (aac (aa8 (aay aek (pv 3) (pv 4) (aa0 _))
   (aag (aat (ae0 aek (pv 5) aae (aa0 _))))
   aaz)
  (aac (aa8 (acd (ak6 agm agm aae (pv 5) (pv 1)))
   (aag (aat abi))
   aaz)
  (aag (aat (aai (arl rfl) (by rfl) T.b_any ax6 (aaa (acg rfl (N:=["place","b","number","paper"]) (src:=[none,some 4,some 5,some 2]) (by exact aa9 rfl rfl rfl rfl rfl rfl) (aa5 (aao aap (pv 0) (pv 3) (fun _ _=>rfl))) (fun _ _ _ _=>(aak (i:=0) (show List.Nodup (["place","b","number","paper"]:List Str) by decide +kernel) rfl (Or.inl rfl) (hf:=Or.inr rfl))) (fun _ _ _ _=>abd) (fun _ _ _ _=>(ae0 aek (aao (show IxR _ (acb K) from aap) (aao (show IxR _ (acb K) from aap) (pv 3) (pv 0) (fun _ _=>rfl)) (pv 1) (fun _ _=>rfl)) (aau ad8 (pv 2) aae) (aa0 _)))) aab))))))),?_⟩
 refine abr h fun ss R q B X=>?_
 refine exS7 ss q fun n J tl d m a b c=>?_
 have I:=c.1
 have F:=c.2.1
 have l:=c.2.2.1
 have C:=c.2.2.2.1
 have a0:=c.2.2.2.2.1
 have G:=c.2.2.2.2.2.1
 have b0:=c.2.2.2.2.2.2.1
 have y:=c.2.2.2.2.2.2.2.1
 have k:=c.2.2.2.2.2.2.2.2
 clear c q
 show EvS B _ _ [some (.st (tlV tl)),some (.st (.int d)),some (.st (.list (matD n m))),some (.st (.int a)),some (.st (.int b)),none]
 have ha:=ad0 (n:=n) (m:=m) a0 G
 have hb:=aei (n:=n) (r:=m a) b0 y
 row_cond go
 refine ac0 (fun h=>?_) (fun h=>?_)
 ·row_cond go
  refine k _ ?_
  rw [decide_eq_true_iff]
  exact ⟨fun e=>⟨fun _=>e,fun z=>absurd h z⟩,fun z=>z.1 h⟩
 ·row_cond go
  obtain ⟨g,j,x⟩:=F.get (v:=a) a0 (by omega)
  have S:atI ((tlD tl).map PyData.list) a=some (.list (g.map .int)):=ame (f:=PyData.list) (adp a0 (acw j))
  have O:=C g (aA2 j)
  by_cases q1:1<=m a b
  ·by_cases q2:m a b<=d
   ·row_cond go
    refine acu (xs:=g) (f:=PyData.int) (fun p => .bool (decide (m p b=m a b - 1))) rfl (by omega) (fun p o W Y=>?_) ?_
    ·have u:=l _ _ ((x p).mp o)
     have M:=ad0 (n:=n) (m:=m) u.1 u.2
     have L:=aei (n:=n) (r:=m p) b0 y
     row_cond go
     exact rfl
    ·row_cond go
     rw [show (g.map fun p=>PyData.bool (decide (m p b=m a b - 1)))=(g.map fun p=>decide (m p b=m a b - 1)).map .bool by rw [aD7];rfl]
     refine awj ?_
     row_cond go
     refine k _ ?_
     simp only [List.any_map,aE9,Function.comp,id,decide_eq_true_eq]
     constructor
     ·rintro ⟨p,o,e⟩
      exact ⟨fun z=>absurd z h,fun _=>⟨q1,q2,p,(x p).mp o,e⟩⟩
     ·rintro ⟨_,z⟩
      obtain ⟨_,_,p,o,e⟩:=z h
      exact ⟨p,(x p).mpr o,e⟩
   ·row_cond go
    refine k _ ⟨fun z=>(by cases z),fun z=>absurd (z.2 h).2.1 q2⟩
  ·row_cond go
   refine k _ ⟨fun z=>(by cases z),fun z=>absurd (z.2 h).1 q1⟩
theorem sc_far_shows:FnScope ["web","d","paper","n","tied"] ["web","d","paper"] (aal s_far_shows):=by row_cond sc
theorem akk (T:Txt K mg):Can P w K mg base "far_shows" 8 ["web","d","paper"] (spP K (awz)):=by
 obtain ⟨f,fd,D⟩:=T.d_far_shows
 refine D.can (D.fn.ok sc_far_shows (fun vs H Q E h=>lenP h fun ss X q=>by obtain ⟨n,d,es,p,rfl,W,I,j,l,U,L,M⟩:=q;rfl) (fun cdv A outer s H vs Q E F h=>?_))
 have nd:=sc_far_shows.nd
 refine ⟨_,(aac (abk (aah (aev T) F (aaa (pv 0) aab)))
  (aac (aaq (i:=3) nd rfl (Or.inr rfl) (aao aap (pv 0) aae (fun _ _=>rfl)))
  (aac (aa8 (PW.pt (afc (aay auj (pv 1) aae (aa0 _)) (ad5 (acd (aci (aah (akj T) F (aaa (pv 3) (aaa (pv 2) aab))))))))
   (aag (aat abi))
   aaz)
  (aac (aaq (i:=4) nd rfl (Or.inr rfl) (aah (adg T) F (aaa (pv 0) aab)))
  (aag (aat (aai (af8 rfl) (by rfl) T.b_all alm (aaa (aqx rfl (N:=["a","b","tied","d","paper","n"]) (src:=[none,none,some 4,some 1,some 2,some 3]) (by exact aa9 rfl rfl rfl rfl rfl rfl) (aa6 rfl T.b_range (aaa (pv 3) aab)) (fun _ _ _ _=>(aak (i:=0) (show List.Nodup (["a","b","tied","d","paper","n"]:List Str) by decide +kernel) rfl (Or.inl rfl) (hf:=Or.inr rfl))) (fun _ _ _ _=>abd) (fun _ _ _ _=>(aa6 rfl T.b_range (aaa (pv 5) aab))) (fun _ _ _ _=>(aak (i:=1) (show List.Nodup (["a","b","tied","d","paper","n"]:List Str) by decide +kernel) rfl (Or.inl rfl) (hf:=Or.inr rfl))) (fun _ _ _ _=>abd) (fun _ _ _ _=>(aah (ahm T) F (aaa (pv 2) (aaa (pv 3) (aaa (pv 4) (aaa (pv 0) (aaa (pv 1) aab)))))))) aab)))))))),?_⟩
 refine abr h fun ss X q B hK=>?_
 refine exS4 ss q fun n d es p g=>?_
 have W:=g.1
 have I:=g.2.1
 have j:=g.2.2.1
 have l:=g.2.2.2.1
 have U:=g.2.2.2.2.1
 have L:=g.2.2.2.2.2.1
 have M:=g.2.2.2.2.2.2
 clear g q
 show EvS B _ _ [some (.st (webD n es)),some (.st (.int d)),some (.st p),none,none]
 row_cond go
 refine ⟨n,es,rfl,W,I,j,l,U,?_⟩
 row_cond go
 have C:d < 0->X (.st (.bool false)):=fun hd=>by
  cases e:abt n p with
  | false=>exact L e
  | true =>
   obtain ⟨m,rfl⟩:=aj0 e
   exact M m rfl _ ⟨fun z=>(by cases z),fun z=>absurd z.1 (by omega)⟩
 by_cases hd:d < 0
 ·row_cond go
  exact C hd
 ·row_cond go
  refine ⟨n,_,rfl,I,?_⟩
  cases esq:abt n p with
  | false =>
   row_cond go
   exact L esq
  | true =>
  obtain ⟨m,rfl⟩:=aj0 esq
  have k:=M m rfl
  row_cond go
  refine ⟨n,es,rfl,by omega,I,j,l,fun tl ht Y=>acx aca ?_⟩
  row_cond go
  have x:∃ c:Int->Int->Bool,∀ a b,c a b=true ↔ afb (Tied es) d m a b:=⟨fun a b=>@decide (afb (Tied es) d m a b) (Classical.propDecidable _),fun a b=>@decide_eq_true_iff _ (Classical.propDecidable _)⟩
  obtain ⟨c,x⟩:=x
  have S:∀ {a b:Int} {G:Bool},(G=true ↔ afb (Tied es) d m a b)->G=c a b:=fun {a b G} h=>by rw [aH4,h,x]
  unfold rngD
  refine ami (xs:=List.range n.toNat) (fun _=>List.range n.toNat) (fun v:Nat => .int (0+(v:Int))) (fun u v => .bool (c (u:Int) (v:Int))) (fun _ _=>true) (ajy rfl) ?_ ?_ ?_ ?_
  ·rw [amt,aA3,List.length_flatMap]
   have h1:(List.range n.toNat).map (fun u:Nat=>((List.range n.toNat).map fun v:Nat=>c (u:Int) (v:Int)).length)=(List.range n.toNat).map fun _=>n.toNat:=aE5 fun u _=>by simp
   rw [h1,List.map_const',List.sum_replicate_nat,aD8]
   have h2:n.toNat * n.toNat<=100 * 100:=Nat.mul_le_mul (by omega) (by omega)
   omega
  ·intro u r Z hB o
   row_cond go
   exact rfl
  ·intro u r v R Z hB
   have J:(u:Int) < n:=by have:=aB8.mp r;omega
   have O:(v:Int) < n:=by have:=aB8.mp R;omega
   row_cond go
   intro _
   row_cond go
   refine ⟨n.toNat,Tied es,tl,d,m,0+(u:Int),0+(v:Int),rfl,by omega,by rw [show ((n.toNat:Nat):Int)=n by omega];exact ht,fun u v h=>by have:=(h.in j).2;omega,Y,by omega,by omega,by omega,by omega,fun G hb=>⟨?_,rfl⟩⟩
   rw [aI2,aI2] at hb
   rw [S hb]
  ·rw [amt]
   row_cond go
   refine ai4 ?_
   row_cond go
   refine k _ ?_
   simp only [aF0,List.mem_flatMap,aB6,aB8,id]
   constructor
   ·intro z
    refine ⟨by omega,fun a b a0 a1 b0 b1=>(x a b).mp (z _ ⟨a.toNat,by omega,b.toNat,by omega,?_⟩)⟩
    rw [show ((a.toNat:Nat):Int)=a by omega,show ((b.toNat:Nat):Int)=b by omega]
   ·rintro z y ⟨u,J,v,O,rfl⟩
    exact (x _ _).mpr (z.2 _ _ (by omega) (by omega) (by omega) (by omega))
end
section
variable {P:Program} {w:World} {K:Frag} {mg:Str->Option Value} {base:Heap}
theorem sc_far_paper:FnScope ["web"] ["web"] (aal s_far_paper):=by row_cond sc
theorem afr (T:Txt K mg):Can P w K mg base "far_paper" 9 ["web"] (spP K (aii)):=by
 obtain ⟨f,fd,D⟩:=T.d_far_paper
 refine D.can (D.fn.ok sc_far_paper (fun vs H Q E h=>lenP h fun ss l q=>by obtain ⟨n,es,rfl,i,g,b,c,d,k⟩:=q;rfl) (fun cdv A outer s H vs Q E j h=>?_))
 have nd:=sc_far_paper.nd
 refine ⟨_,(aag (aat (aah (ams T) j (aaa (pv 0) aab)))),?_⟩
 refine abr h fun ss l q B m=>?_
 refine exS2 ss q fun n es a=>?_
 have i:=a.1
 have g:=a.2.1
 have b:=a.2.2.1
 have c:=a.2.2.2.1
 have d:=a.2.2.2.2.1
 have k:=a.2.2.2.2.2
 clear a q
 show EvS B _ _ [some (.st (webD n es))]
 row_cond go
 exact ⟨n,es,rfl,i,g,b,c,d,k⟩
end
structure Dk (H:Hp) (d p:Addr) (i:Int) (qs:List Addr):Prop where
 dd:H d=some (.lst [.ref p,.int i])
 pp:H p=some (.lst (qs.map V.ref))
 ne:qs ≠ []
 le:qs.length<=63
 dp:d ≠ p
 dq:d ∉ qs
 pq:p ∉ qs
 ql:∀ q∈qs,∃ c f k:Int,H q=some (.lst [.int c,.int f,.int k])
def aor:Sp:=fun vs H Q _=>∃ (d p:Addr) (i many:Int) (qs:List Addr),vs=[.ref d,.int many]/\Dk H d p i qs/\0 < many/\many < 1073741824 /\
 ∀ (r:Int) (H':Hp) (i':Int),0<=r->r < many->Dk H' d p i' qs->(∀ a,a ≠ d->a ∉ qs->H' a=H a)->Q (.int r) H'
theorem Dk.pick {H:Hp} {d p:Addr} {i:Int} {qs:List Addr} (h:Dk H d p i qs) (j:Int):∃ q,q∈qs/\atI (qs.map V.ref) (j % ((qs.map V.ref).length:Int))=some (.ref q):=by
 have c:0 < qs.length:=aF5.mpr h.ne
 have b:=Int.emod_nonneg j (show ((qs.map V.ref).length:Int) ≠ 0 by rw [aA3];omega)
 have a:=aE3 j (show (0:Int) < ((qs.map V.ref).length:Int) by rw [aA3];omega)
 generalize j % ((qs.map V.ref).length:Int)=m at b a
 have hm:m.toNat < qs.length:=by rw [aA3] at a;omega
 exact ⟨qs[m.toNat],aE8 _,adp b (by rw [aA5,aA0 hm];rfl)⟩
theorem Dk.put {H:Hp} {d p q:Addr} {i a:Int} {qs:List Addr} (h:Dk H d p i qs) (b:q∈qs) (c f k:Int):Dk (upd (upd H d (.lst [.ref p,.int a])) q (.lst [.int c,.int f,.int k])) d p a qs:=by
 have g:d ≠ q:=fun e=>h.dq (e ▸ b)
 have j:p ≠ q:=fun e=>h.pq (e ▸ b)
 refine ⟨by rw [aad g,aaf],by rw [aad j,aad h.dp.symm];exact h.pp,h.ne,h.le,h.dp,h.dq,h.pq,fun z hz=>?_⟩
 by_cases e:z=q
 ·subst e;exact ⟨c,f,k,aaf⟩
 ·rw [aad e,aad (show z ≠ d from fun e=>h.dq (e ▸ hz))];exact h.ql z hz
def ODk:Own where
 P:=fun _ H v F=>∃ d p i qs,v=.ref d/\Dk H d p i qs/\∀ b,F b ↔ b=d\/b=p\/b∈qs
 mono:=fun ⟨d,p,i,qs,e,h,f⟩ _ hh=>⟨d,p,i,qs,e,⟨hh d _ ((f d).mpr (.inl rfl)) h.dd,hh p _ ((f p).mpr (.inr (.inl rfl))) h.pp,h.ne,h.le,h.dp,h.dq,h.pq,fun q hq=>by
  obtain ⟨c,g,k,e⟩:=h.ql q hq
  exact ⟨c,g,k,hh q _ ((f q).mpr (.inr (.inr hq))) e⟩⟩,f⟩
 dom:=fun ⟨d,p,i,qs,e,h,f⟩ b z=>by
  rcases (f b).mp z with rfl | rfl | z
  ·exact ⟨_,h.dd⟩
  ·exact ⟨_,h.pp⟩
  ·obtain ⟨c,g,k,e⟩:=h.ql b z
   exact ⟨_,e⟩
theorem aw1 {P:Program} {w:World} {K:Frag} {mg:Str->Option Value} {base:Heap} {x:Str} {k:Nat} {ps:List Str} {sp a:Sp} (c:Can P w K mg base x k ps sp) (h:∀ vs H Q E,a vs H Q E->sp vs H Q E):Can P w K mg base x k ps a:=by
 obtain ⟨f,fd,ok,m,kp,b⟩:=c
 exact ⟨f,fd,ok.imp h,m,kp,b⟩
def ar8:VIo:=fun A ss Q=>∃ many:Int,A=ODk/\ss=[.st (.int many)]/\0 < many/\many < 1073741824/\∀ r:Int,0<=r->r < many->Q ODk (.st (.int r))
theorem aw2 {K:Frag} {vs:List V} {H:Hp} {Q:VK} {E:XK} (h:spI K ar8 vs H Q E):aor vs H Q E:=by
 obtain ⟨v0,C,G,R,A,ss,F0,F,rfl,gh,ft,m,ap,fg,fr,l,⟨many,rfl,rfl,v,u,k⟩,B⟩:=h
 obtain ⟨d,p,i,qs,rfl,n,j⟩:=ap
 cases l with
 | cons ha hr =>
  cases hr
  cases (show Rp G _ (.int many) from ha)
  refine ⟨d,p,i,many,qs,rfl,n,v,u,fun r H' w s y b x=>B ODk _ (k r s y) _ G H' F0 (fun _=>False) ?_⟩
  have out:∀ a,¬ F0 a->H' a=H a:=fun a z=>x a (fun e=>z ((j a).mpr (.inl e))) (fun e=>z ((j a).mpr (.inr (.inr e))))
  have g:∀ a,F0 a->(∃ o,H' a=some o)/\∀ xs,H' a ≠ some (.tup xs):=fun a z=>by
   rcases (j a).mp z with rfl | rfl | z
   ·rw [b.dd];exact ⟨⟨_,rfl⟩,fun xs e=>by cases e⟩
   ·rw [b.pp];exact ⟨⟨_,rfl⟩,fun xs e=>by cases e⟩
   ·obtain ⟨c,f,D,e⟩:=b.ql a z
    rw [e];exact ⟨⟨_,rfl⟩,fun xs e=>by cases e⟩
  refine ⟨Same.refl _,fun a o e=>?_,fun a q e=>?_,fun a o e => .inl e,fun a o e=>?_,fun a o e=>?_,⟨d,p,w,qs,rfl,b,j⟩,fun a z => .inl z,fg,⟨.int _,fun a z=>z⟩,fun a z=>z.elim⟩
  ·rw [out a fun z=>by rw [fg a z] at e;cases e];exact gh a o e
  ·by_cases z:F0 a
   ·exact absurd e ((g a z).2 _)
   ·rw [out a z] at e;exact ft a q e
  ·rw [out a fun z=>by rw [fr a z] at e;cases e];exact m a o e
  ·by_cases z:F0 a
   ·exact (g a z).1
   ·rw [out a z];exact ⟨o,e⟩
def ar9:VP:=fun ss Q=>∃ ns:List Int,ss=[.scr ns]/\ns.length<=63/\Q (.own ODk)
theorem aos {K:Frag} {vs:List V} {H:Hp} {Q:VK} {E:XK} (h:spP K ar9 vs H Q E):∃ (a:Addr) (ns:List Int),vs=[.ref a]/\SqL K H a (ns.map V.int)/\ns.length<=63 /\
  ∀ (d p:Addr) (i:Int) (qs:List Addr) (H':Hp),Dk H' d p i qs->(∀ b,b=d\/b=p\/b∈qs->H b=none)->(∀ b,b ≠ d->b ≠ p->b ∉ qs->H' b=H b)->Q (.ref d) H':=by
 obtain ⟨G,ss,v,gh,ft,n,⟨ns,rfl,hn,k⟩,s⟩:=h
 cases n with
 | cons ha hr =>
  cases hr
  obtain ⟨a,rfl,q⟩:=(show ∃ a,_=V.ref a/\SqL K G a (ns.map V.int) from ha)
  refine ⟨a,ns,rfl,gh.seq q,hn,fun d p i qs H' l g m=>s _ k _ G H' (fun b=>b=d\/b=p\/b∈qs) ?_⟩
  have hh:Same H H':=fun a o e=>by
   rw [m a (fun z=>by rw [g a (.inl z)] at e;cases e) (fun z=>by rw [g a (.inr (.inl z))] at e;cases e) (fun z=>by rw [g a (.inr (.inr z))] at e;cases e)];exact e
  have j:∀ a,a=d\/a=p\/a∈qs->(∃ o,H' a=some o)/\∀ xs,H' a ≠ some (.tup xs):=fun a z=>by
   rcases z with rfl | rfl | z
   ·rw [l.dd];exact ⟨⟨_,rfl⟩,fun xs e=>by cases e⟩
   ·rw [l.pp];exact ⟨⟨_,rfl⟩,fun xs e=>by cases e⟩
   ·obtain ⟨c,f,u,e⟩:=l.ql a z
    rw [e];exact ⟨⟨_,rfl⟩,fun xs e=>by cases e⟩
  refine ⟨Same.refl _,gh.trans hh,hh,fun a o e => .inl e,g,fun a z=>?_,fun a z=>(j a z).1,⟨d,p,i,qs,rfl,l,fun b=>Iff.rfl⟩,fun _ a r e=>?_⟩
  ·cases e:G a with
   | none=>rfl
   | some o=>have:=gh a o e;rw [g a z] at this;cases this
  ·by_cases z:a=d\/a=p\/a∈qs
   ·exact absurd e ((j a z).2 _)
   ·rw [m a (fun y=>z (.inl y)) (fun y=>z (.inr (.inl y))) (fun y=>z (.inr (.inr y)))] at e;exact ft a r e
section
variable {P:Program} {w:World} {K:Frag} {mg:Str->Option Value} {base:Heap}
theorem sc_law_draw:FnScope ["deck","many","pool","found","number"] ["deck","many"] (aal s_law_draw):=by row_cond sc
theorem afs (T:Txt K mg):Can P w K mg base "_law_draw" 1 ["deck","many"] aor:=by
 obtain ⟨f,fd,D⟩:=T.d_law_draw
 refine D.can (D.fn.ok sc_law_draw (fun vs H Q E h=>by obtain ⟨d,p,i,many,qs,rfl,b,j,m,k⟩:=h;rfl) (fun cdv A outer s H vs Q E z h=>?_))
 obtain ⟨d,p,i,many,qs,rfl,b,j,m,k⟩:=h
 have nd:=sc_law_draw.nd
 refine ⟨_,(aac (aaq (i:=2) nd rfl (Or.inl rfl) (aao aap (aao aap (pv 0) aae (fun _ _=>rfl)) (aau ad9 (aao aap (pv 0) aae (fun _ _=>rfl)) (aai abq (by rfl) T.b_len ace (aaa (aao aap (pv 0) aae (fun _ _=>rfl)) aab))) (fun _ _=>rfl)))
  (aac (ad6 (aau abp (aao aap (pv 0) aae (fun _ _=>rfl)) aae) (afv (pv 0) aae aea))
  (aac (aa8 (PW.pt (afu (aay aek (aao aap (pv 2) aae (fun _ _=>rfl)) aae (aa0 _)) (aez (aay ao1 (aao aap (pv 2) aae (fun _ _=>rfl)) aae (aa0 _)))))
   (aac (aaq (i:=3) nd rfl (Or.inl rfl) (aau ad9 (aao aap (pv 2) aae (fun _ _=>rfl)) (pv 1)))
    (aac (ad6 (aau aik (aao aap (pv 2) aae (fun _ _=>rfl)) (pv 1)) (afv (pv 2) aae aea))
    (aag (aat (pv 3)))))
   aaz)
  (aac (ad6 (aau abp (aao aap (pv 2) aae (fun _ _=>rfl)) aae) (afv (pv 2) aae aea))
  (aac (aaq (i:=4) nd rfl (Or.inl rfl) (aau ad9 (aau abp (aau ad9 (aao aap (pv 2) aae (fun _ _=>rfl)) aae) (aau afw aae (aao aap (pv 2) aae (fun _ _=>rfl)))) aae))
  (aac (aaq (i:=4) nd rfl (Or.inl rfl) (aau ad9 (aau afw (pv 4) (pv 4)) aae))
  (aac (aaq (i:=4) nd rfl (Or.inl rfl) (aau ad9 (aau afw (pv 4) (aau abp (pv 4) aae)) aae))
  (aag (aat (aau ad9 (aau aik (pv 4) aae) (pv 1))))))))))),?_⟩
 show (_:TS) _ [some (.ref d),some (.int many),none,none,none] H
 obtain ⟨q,g,v⟩:=b.pick i
 obtain ⟨c,f,C,o⟩:=b.ql q g
 have n:=b.dd
 have y:=b.pp
 have r:(0:Int) < ((qs.map V.ref).length:Int):=by have:=aF5.mpr b.ne;rw [aA3];omega
 have B:q ≠ d:=fun e=>b.dq (e ▸ g)
 have fin:∀ (c f k:Int) (a:Addr),a ≠ d->a ∉ qs->upd (upd H d (.lst [.ref p,.int (i+1)])) q (.lst [.int c,.int f,.int k]) a=H a:=fun c f k a x l=>by
  rw [aad (show a ≠ q from fun e=>l (e ▸ g)),aad x]
 row_cond hgo
 refine ac0 (fun hf=>?_) (fun hf=>?_)
 ·row_cond hgo
  refine ac0 (fun u=>?_) (fun u=>?_)
  ·row_cond hgo
   exact k _ _ (i+1) (Int.emod_nonneg _ (by omega)) (aE3 _ j) (b.put g _ _ _) (fin _ _ _)
  ·row_cond hgo
   exact k _ _ (i+1) (Int.emod_nonneg _ (by omega)) (aE3 _ j) (b.put g _ _ _) (fin _ _ _)
 ·row_cond hgo
  exact k _ _ (i+1) (Int.emod_nonneg _ (by omega)) (aE3 _ j) (b.put g _ _ _) (fin _ _ _)
theorem aam (T:Txt K mg):Can P w K mg base "_law_draw" 1 ["deck","many"] (spI K ar8):=aw1 (afs T) fun _ _ _ _ h=>aw2 h
theorem sc_law_deck:FnScope ["script","pools","k","cell"] ["script"] (aal s_law_deck):=by row_cond sc
theorem amu (T:Txt K mg):Can P w K mg base "_law_deck" 1 ["script"] (spP K ar9):=by
 obtain ⟨f,fd,D⟩:=T.d_law_deck
 refine D.can (D.fn.ok sc_law_deck (fun vs H Q E h=>by obtain ⟨a,ns,rfl,G,hn,k⟩:=aos h;rfl) (fun cdv A outer s H vs Q E hr h=>?_))
 obtain ⟨a,ns,rfl,G,hn,k⟩:=aos h
 have nd:=sc_law_deck.nd
 refine ⟨_,(aac (aaq (i:=1) nd rfl (Or.inl rfl) (aa2 aab))
  (aac (abc aJ1 rfl (aa6 rfl T.b_range (aaa (aai (acy rfl) (by rfl) T.b_max adu (aaa aae (aaa (aai (acz rfl) (by rfl) T.b_min ae7 (aaa aae (aaa (aai abq (by rfl) T.b_len ace (aaa (pv 0) aab)) aab))) aab))) aab)) (aak (i:=2) nd rfl (Or.inl rfl))
   (aac (aaq (i:=3) nd rfl (Or.inl rfl) aae)
    (aac (aa8 (aay auj (pv 2) (aai abq (by rfl) T.b_len ace (aaa (pv 0) aab)) (aa0 _))
     (aag (aaq (i:=3) nd rfl (Or.inl rfl) (aao aap (pv 0) (pv 2) (fun _ _=>rfl))))
     aaz)
    (aag (abk (acp PySem.F.plainAttrs_list PySem.F.slot_list_append PySem.F.type_list_append abh (pv 1) (aaa (aa2 (aaa (pv 3) (aaa (acv ao9 (by rfl) T.b_int aln (aaa (ae0 azh (pv 3) (avl (n:=1000000000000000000) (by decide) (by refine ⟨by decide,by decide,by decide⟩)) (aa0 _)) aab)) (aaa (aau afw aae (pv 2)) aab)))) aab)))))))
  (aag (aat (aa2 (aaa (pv 1) (aaa aae aab))))))),?_⟩
 show (_:TS) _ [some (.ref a),none,none,none] H
 row_cond hgo
 refine ⟨by show 0<=sizeLine;decide,fun p I=>?_⟩
 row_cond hgo
 refine anq ((abg I).seq G) ?_
 rw [aA3]
 row_cond hgo
 refine anp (by split <;> split <;> omega) (by split <;> split <;> omega) ?_
 refine aqe (fun i σ H2=>∃ (r u:Option V) (qs:List Addr),σ=[some (.ref a),some (.ref p),r,u]/\H2 p=some (.lst (qs.map V.ref))/\qs.length=i/\p ∉ qs/\(∀ q∈qs,H q=none/\∃ c f k:Int,H2 q=some (.lst [.int c,.int f,.int k]))/\∀ b,b ≠ p->b ∉ qs->H2 b=H b)
  ⟨_,_,[],rfl,aaf,rfl,by simp,(fun q m=>nomatch m),fun b hb _=>aad hb⟩ ?_ ?_
 ·rintro i σ H2 hi ⟨r,u,qs,rfl,j,x,pq,m,B⟩
  have S:i < 63:=by
   revert hi
   split <;> split <;> omega
  have s2:Same H H2:=fun b o e=>by
   rw [B b (fun z=>by rw [z,I] at e;cases e) (fun z=>by rw [(m b z).1] at e;cases e)];exact e
  have fin:∀ (c f k:Int) (q:Addr) (r u:Option V),H2 q=none->∃ (J N:Option V) (l:List Addr),[some (V.ref a),some (.ref p),r,u]=[some (.ref a),some (.ref p),J,N]/\upd (upd H2 q (.lst [.int c,.int f,.int k])) p (.lst (qs.map V.ref ++ [.ref q])) p=some (.lst (l.map V.ref))/\l.length=i+1/\p ∉ l/\(∀ z∈l,H z=none/\∃ c' U k':Int,upd (upd H2 q (.lst [.int c,.int f,.int k])) p (.lst (qs.map V.ref ++ [.ref q])) z=some (.lst [.int c',.int U,.int k']))/\∀ b,b ≠ p->b ∉ l->upd (upd H2 q (.lst [.int c,.int f,.int k])) p (.lst (qs.map V.ref ++ [.ref q])) b=H b:=fun c f k q r u g=>by
   have C:q ≠ p:=fun e=>by rw [e,j] at g;cases g
   have M:H q=none:=by
    cases e:H q with
    | none=>rfl
    | some o=>rw [s2 q o e] at g;cases g
   refine ⟨r,u,qs ++ [q],rfl,by rw [aaf,aE1];rfl,by simp [x],fun z=>?_,fun z hz=>?_,fun b hb v=>?_⟩
   ·rcases aA7.mp z with z | z
    ·exact pq z
    ·exact C (aC1.mp z).symm
   ·have W:z ≠ p:=fun e=>by
     subst e
     rcases aA7.mp hz with z | z
     ·exact pq z
     ·exact C (aC1.mp z).symm
    rw [aad W]
    by_cases zq:z=q
    ·subst zq;exact ⟨M,c,f,k,aaf⟩
    ·rw [aad zq]
     exact m z ((aA7.mp hz).resolve_right fun y=>zq (aC1.mp y))
   ·rw [aad hb,aad (show b ≠ q from fun e=>v (aA7.mpr (.inr (aC1.mpr e))))]
    exact B b hb fun z=>v (aA7.mpr (.inl z))
  row_cond hgo
  refine anq (s2.seq G) ?_
  rw [aA3]
  row_cond hgo
  refine ac0 (fun X=>?_) (fun X=>?_)
  ·have L:i < ns.length:=by omega
   have R:atI (ns.map V.int) (0+(i:Int))=some (.int ns[i]):=adp (by omega) (by rw [aA5,show (0+(i:Int)).toNat=i by omega,aA0 L];rfl)
   row_cond hgo
   refine as6 (s2.seq G) R ?_
   row_cond hgo
   refine ⟨by show 3<=sizeLine;decide,fun q g=>?_⟩
   have C:p ≠ q:=fun e=>by rw [← e,j] at g;cases g
   row_cond hgo
   exact fin _ _ _ q _ _ g
  ·row_cond hgo
   refine ⟨by show 3<=sizeLine;decide,fun q g=>?_⟩
   have C:p ≠ q:=fun e=>by rw [← e,j] at g;cases g
   row_cond hgo
   exact fin _ _ _ q _ _ g
 ·rintro σ H2 ⟨r,u,qs,rfl,j,x,pq,m,B⟩
  have s2:Same H H2:=fun b o e=>by
   rw [B b (fun z=>by rw [z,I] at e;cases e) (fun z=>by rw [(m b z).1] at e;cases e)];exact e
  row_cond hgo
  refine ⟨by show 2<=sizeLine;decide,fun d hd=>?_⟩
  have dp:d ≠ p:=fun e=>by rw [e,j] at hd;cases hd
  have dq:d ∉ qs:=fun z=>by obtain ⟨_,c,f,k,e⟩:=m d z;rw [e] at hd;cases hd
  have O:H d=none:=by
   cases e:H d with
   | none=>rfl
   | some o=>rw [s2 d o e] at hd;cases hd
  refine k d p 0 qs _ ⟨aaf,by rw [aad dp.symm];exact j,?_,?_,dp,dq,pq,fun q z=>?_⟩ ?_ ?_
  ·intro e
   rw [e] at x
   revert x
   simp only [aI4]
   split <;> split <;> omega
  ·rw [x]
   split <;> split <;> omega
  ·rw [aad (show q ≠ d from fun e=>dq (e ▸ z))];exact (m q z).2
  ·rintro b (rfl | rfl | z)
   ·exact O
   ·exact I
   ·exact (m b z).1
  ·intro b b1 Y Z
   rw [aad b1];exact B b Y Z
end
theorem age {α β:Type} (f : α->β):∀ (l:List α) (k:Nat),(l.map f).eraseIdx k=(l.eraseIdx k).map f
 | [],_=>rfl
 | _ :: _,0=>rfl
 | a :: l,k+1=>by simp [age f l k]
theorem azc {j:Int} {n:Nat} (a:0<=j) (b:j < n):seqIndex? j n=some j.toNat:=by unfold seqIndex?;simp;omega
theorem Dk.frame {H H':Hp} {d p:Addr} {i:Int} {qs:List Addr} (h:Dk H d p i qs) (e:∀ a,a=d\/a=p\/a∈qs->H' a=H a):Dk H' d p i qs :=
 ⟨(e d (.inl rfl)).trans h.dd,(e p (.inr (.inl rfl))).trans h.pp,h.ne,h.le,h.dp,h.dq,h.pq,fun q b=>by rw [e q (.inr (.inr b))];exact h.ql q b⟩
def amv:VIo:=fun A ss Q=>∃ n:Int,A=ODk/\ss=[.st (.int n)]/\0<=n/\n<=61/\∀ row:List Int,Order n row->Q ODk (.own (OL (row.map .int)))
theorem amw {K:Frag} {vs:List V} {H:Hp} {Q:VK} {E:XK} (h:spI K amv vs H Q E):∃ (d p:Addr) (i n:Int) (qs:List Addr),vs=[.ref d,.int n]/\Dk H d p i qs/\0<=n/\n<=61 /\
  ∀ (row:List Int) (l:Addr) (H':Hp) (s:Int),Order n row->Dk H' d p s qs->H l=none->H' l=some (.lst (row.map V.int))->(∀ a o,a ≠ d->a ∉ qs->H a=some o->H' a=some o)->(∀ a xs,H' a=some (.tup xs)->H a=some (.tup xs))->Q (.ref l) H':=by
 obtain ⟨v0,L,G,R,A,ss,F0,M,rfl,gh,ft,v,ap,fg,fr,u,⟨n,rfl,rfl,B,y,k⟩,J⟩:=h
 obtain ⟨d,p,i,qs,rfl,r,m⟩:=ap
 cases u with
 | cons ha hr =>
  cases hr
  cases (show Rp G _ (.int n) from ha)
  refine ⟨d,p,i,n,qs,rfl,r,B,y,fun row l H' s w g j q F C=>J ODk _ (k row w) _ G H' F0 (fun b=>b=l) ?_⟩
  have out:∀ a o,¬ F0 a->H a=some o->H' a=some o:=fun a o z=>F a o (fun e=>z ((m a).mpr (.inl e))) (fun e=>z ((m a).mpr (.inr (.inr e))))
  have D:G l=none:=by
   cases e:G l with
   | none=>rfl
   | some o=>rw [gh l o e] at j;cases j
  refine ⟨Same.refl _,fun a o e=>?_,fun a x e=>?_,fun a o e => .inl e,fun a o e=>?_,fun a o e=>?_,⟨d,p,s,qs,rfl,g,m⟩,fun a z => .inl z,fg,⟨l,row.map V.int,rfl,q,Rps.ints row,fun b=>Iff.rfl⟩,fun a z=>?_⟩
  ·exact out a o (fun z=>by rw [fg a z] at e;cases e) (gh a o e)
  ·exact ft a x (C a _ e)
  ·exact out a o (fun z=>by rw [fr a z] at e;cases e) (v a o e)
  ·by_cases z:F0 a
   ·rcases (m a).mp z with rfl | rfl | z
    ·exact ⟨_,g.dd⟩
    ·exact ⟨_,g.pp⟩
    ·obtain ⟨c,f,I,e⟩:=g.ql a z
     exact ⟨_,e⟩
   ·exact ⟨o,out a o z e⟩
  ·subst z
   refine ⟨j,D,⟨_,q⟩,fun z=>?_⟩
   rcases (m a).mp z with rfl | rfl | z
   ·rw [r.dd] at j;cases j
   ·rw [r.pp] at j;cases j
   ·obtain ⟨c,f,I,e⟩:=r.ql a z
    rw [e] at j;cases j
section
variable {P:Program} {w:World} {K:Frag} {mg:Str->Option Value} {base:Heap}
theorem sc_law_order:FnScope ["deck","n","left"] ["deck","n"] (aal s_law_order):=by row_cond sc
theorem aft (T:Txt K mg):Can P w K mg base "_law_order" 2 ["deck","n"] (spI K amv):=by
 obtain ⟨f,fd,D⟩:=T.d_law_order
 refine D.can (D.fn.ok sc_law_order (fun vs H Q E h=>by obtain ⟨d,p,i,n,qs,rfl,M,h1,h2,k⟩:=amw h;rfl) (fun cdv A outer s H vs Q E hr h=>?_))
 obtain ⟨d,p,i,n,qs,rfl,M,h1,h2,k⟩:=amw h
 have nd:=sc_law_order.nd
 refine ⟨_,(aac (aaq (i:=2) nd rfl (Or.inr rfl) (amf rfl T.b_list rfl T.b_range rfl (aaa (pv 1) aab)))
  (aag (aat (acg rfl (N:=["k","left","deck"]) (src:=[none,some 2,some 0]) (by exact aa9 rfl rfl rfl rfl rfl rfl) (aa6 rfl T.b_range (aaa (pv 1) aab)) (fun _ _ _ _=>(aak (i:=0) (show List.Nodup (["k","left","deck"]:List Str) by decide +kernel) rfl (Or.inl rfl) (hf:=Or.inr rfl))) (fun _ _ _ _=>abd) (fun _ _ _ _=>(show PE _ _ (tBM K "list" alc _ _) from (acp PySem.F.plainAttrs_list PySem.F.slot_list_pop PySem.F.type_list_pop asj (pv 1) (aaa (aah (afs T) hr (aaa (pv 2) (aaa (aai (show aa1 _ (.builtin "len") (rLen K) from abq) (by rfl) T.b_len ace (aaa (pv 1) aab)) aab))) aab)))))))),?_⟩
 show (_:TS) _ [some (.ref d),some (.int n),none] H
 row_cond hgo
 unfold aic
 row_cond hgo
 refine ⟨n,rfl,h1,by omega,fun m hm=>?_⟩
 row_cond hgo
 refine anp (by omega) (by omega) ?_
 intro g b
 have J:∀ a,a=d\/a=p\/a∈qs->∃ o,H a=some o:=fun a z=>by
  rcases z with rfl | rfl | z
  ·exact ⟨_,M.dd⟩
  ·exact ⟨_,M.pp⟩
  ·obtain ⟨c,f,kk,e⟩:=M.ql a z
   exact ⟨_,e⟩
 have R:∀ a,a=d\/a=p\/a∈qs->a ≠ m:=fun a z e=>by
  obtain ⟨o,I⟩:=J a z
  rw [e,hm] at I;cases I
 have U:g ≠ m:=fun e=>by rw [e,aaf] at b;cases b
 rw [aad U] at b
 have S:∀ a,a=d\/a=p\/a∈qs->a ≠ g:=fun a z e=>by
  obtain ⟨o,I⟩:=J a z
  rw [e,b] at I;cases I
 refine asp (fun j ys σ H2=>∃ (v:Option V) (row left:List Int) (G:Int),σ=[v,some (.ref m),some (.ref d)]/\ys=row.map V.int/\row.length=j/\Order n (row ++ left)/\H2 m=some (.lst (left.map V.int))/\H2 g=some (.lst ys)/\Dk H2 d p G qs/\∀ a,a ≠ d->a ∉ qs->a ≠ m->a ≠ g->H2 a=H a)
  ⟨_,[],(List.range n.toNat).map fun (i:Nat)=>(i:Int),i,rfl,rfl,rfl,?_,?_,aaf,?_,?_⟩ (fun j ys σ H2 h=>by obtain ⟨v,row,left,G,_,_,_,_,_,e,_⟩:=h;exact e) ?_ ?_
 ·exact Order.id n
 ·rw [aad U.symm,aaf,aD7];rfl
 ·exact M.frame fun a z=>by rw [aad (S a z),aad (R a z)]
 ·intro a _ _ Y W
  rw [aad W,aad Y]
 ·rintro j ys σ H2 hj ⟨v,row,left,G,rfl,rfl,O,C,x,q,l,u⟩
  have L:left.length=n.toNat - j:=by have:=C.len;simp at this;omega
  have md:m ≠ d:=(R d (.inl rfl)).symm
  have mq:m ∉ qs:=fun z=>R m (.inr (.inr z)) rfl
  have ad:g ≠ d:=(S d (.inl rfl)).symm
  have aq:g ∉ qs:=fun z=>S g (.inr (.inr z)) rfl
  row_cond hgo
  refine ⟨d,p,G,_,qs,rfl,l,by rw [aA3];omega,by rw [aA3];omega,fun r H3 i3 r0 r1 X B=>?_⟩
  rw [aA3] at r1
  row_cond hgo
  obtain ⟨y,hy⟩:∃ y,left[r.toNat]?=some y:=⟨_,aA0 (show r.toNat < left.length by omega)⟩
  refine ass (y:=.int y) ((B m md mq).trans x) (by omega) (by omega) (azc r0 (by rw [aA3];exact r1)) (by rw [aA5,hy];rfl) ?_
  refine ⟨by rw [aad U];exact (B g ad aq).trans q,ael (by simp;omega),_,row ++ [y],left.eraseIdx r.toNat,i3,rfl,by simp,by simp [O],apv C hy,?_,aaf,?_,?_⟩
  ·rw [aad U.symm,aaf,age]
  ·exact X.frame fun a z=>by rw [aad (S a z),aad (R a z)]
  ·intro a b1 Z b3 b4
   rw [aad b4,aad b3,B a b1 Z];exact u a b1 Z b3 b4
 ·rintro ys σ H2 ⟨v,row,left,G,rfl,rfl,O,C,x,q,l,u⟩
  have L:left=[]:=by have:=C.len;simp at this;exact List.length_eq_zero_iff.mp (by omega)
  subst L
  rw [aE6] at C
  row_cond hgo
  refine k row g H2 G C l b q (fun a o Y W e=>?_) fun a xs e=>?_
  ·rw [u a Y W (fun z=>by rw [z,hm] at e;cases e) (fun z=>by rw [z,b] at e;cases e)];exact e
  ·rw [← u a (fun z=>?_) (fun z=>?_) (fun z=>?_) (fun z=>?_)]
   ·exact e
   ·rw [z,l.dd] at e;cases e
   ·obtain ⟨c,f,kk,e2⟩:=l.ql a z
    rw [e2] at e;cases e
   ·rw [z,x] at e;cases e
   ·rw [z,q] at e;cases e
end
def asa:VIo:=fun A ss Q=>A=ODk/\ss=[]/\∀ (n:Int) (es:List (Int × Int)),1<=n->n<=60->InN n es->es.length<=1900->Q ODk (.st (webD n es))
def mmP (p:Int × Int):Int × Int:=if p.2 < p.1 then (p.2,p.1) else p
theorem azd {p:Int × Int} {x y:Int} (b:ape [p.1,p.2] x) (a:ac9 [p.1,p.2] y):mmP p=(x,y):=by
 have g:=b.2 p.1 (by simp)
 have i:=b.2 p.2 (by simp)
 have f:=a.2 p.1 (by simp)
 have h:=a.2 p.2 (by simp)
 have d:=b.1
 have c:=a.1
 simp only [aA8,List.not_mem_nil,or_false] at d c
 unfold mmP
 split
 ·exact Prod.ext (by show p.2=x;omega) (by show p.1=y;omega)
 ·exact Prod.ext (by omega) (by omega)
theorem aze {n:Int} {ps:List (Int × Int)} (h:InN n ps):InN n (ps.map mmP):=fun q b=>by
 obtain ⟨p,a,rfl⟩:=aB6.mp b
 have:=h p a
 unfold mmP
 split
 ·exact ⟨this.2.2.1,this.2.2.2,this.1,this.2.1⟩
 ·exact this
theorem asb {l:List Int} (h:∀ x∈l,2<=x):0<=l.sum:=by
 induction l with
 | nil=>simp
 | cons a l ih =>
  have:=h a (by simp)
  have:=ih fun x b=>h x (by simp [b])
  simp;omega
theorem at7 {sz:List Int} (h:∀ x∈sz,2<=x) {i:Nat} {x:Int} (b:sz[i]?=some x):(sz.take (i+1)).sum=(sz.take i).sum+x/\(sz.take (i+1)).sum<=sz.sum/\0<=(sz.take i).sum:=by
 refine ⟨by rw [aH0,b];simp,?_,asb fun y a=>h y (aB9 a)⟩
 have:=congrArg List.sum (aC0 (i+1) sz)
 rw [List.sum_append] at this
 have:=asb fun y (a:y∈sz.drop (i+1))=>h y (aC3 a)
 omega
section
variable {P:Program} {w:World} {K:Frag} {mg:Str->Option Value} {base:Heap}
theorem sc_law_crowds:FnScope ["deck","sizes","n","row","ties","at","size","a","b"] ["deck"] (aal s_law_crowds):=by row_cond sc
theorem aja (T:Txt K mg):Can P w K mg base "_law_crowds" 3 ["deck"] (spI K (asa)):=by
 obtain ⟨f,fd,D⟩:=T.d_law_crowds
 refine D.can (D.fn.ok sc_law_crowds (fun vs H Q E h=>lenI h fun A ss Q' q=>by obtain ⟨rfl,rfl,k⟩:=q;rfl) (fun cdv A outer s H vs Q E z h=>?_))
 have nd:=sc_law_crowds.nd
 refine ⟨_,(aac (aaq (i:=1) nd rfl (Or.inl rfl) (aao aap (aa2 (aaa (aa2 (aaa (aau abp aae (aah (aam T) z (aaa (pv 0) (aaa aae aab)))) aab)) (aaa (aa2 (aaa (aau abp aae (aah (aam T) z (aaa (pv 0) (aaa aae aab)))) (aaa (aau abp aae (aah (aam T) z (aaa (pv 0) (aaa aae aab)))) aab))) aab))) (aah (aam T) z (aaa (pv 0) (aaa aae aab))) (fun _ _=>rfl)))
  (aac (aaq (i:=2) nd rfl (Or.inl rfl) (aau abp (aai (ajp rfl) (by rfl) T.b_sum aq2 (aaa (pv 1) aab)) (aah (aam T) z (aaa (pv 0) (aaa (aau ad8 aae (aai (ajp rfl) (by rfl) T.b_sum aq2 (aaa (pv 1) aab))) aab)))))
  (aac (aaq (i:=3) nd rfl (Or.inr rfl) (aah (aft T) z (aaa (pv 0) (aaa (pv 2) aab))))
  (aac (aaq (i:=4) nd rfl (Or.inl rfl) (aa2 aab))
  (aac (aaq (i:=5) nd rfl (Or.inl rfl) aae)
  (aac (abc aJ1 rfl (aa5 (pv 1)) (aak (i:=6) nd rfl (Or.inl rfl))
   (aac (abc aJ1 rfl (adt rfl T.b_range (aaa (pv 5) (aaa (aau abp (pv 5) (pv 6)) aab))) (aak (i:=7) nd rfl (Or.inr rfl))
     (aag (abk (acp PySem.F.plainAttrs_list PySem.F.slot_list_extend PySem.F.type_list_extend aqo (pv 4) (aaa (acg rfl (N:=["b","row","a"]) (src:=[none,some 3,some 7]) (by exact aa9 rfl rfl rfl rfl rfl rfl) (adt rfl T.b_range (aaa (aau abp (pv 7) aae) (aaa (aau abp (pv 5) (pv 6)) aab))) (fun _ _ _ _=>(aak (i:=0) (show List.Nodup (["b","row","a"]:List Str) by decide +kernel) rfl (Or.inl rfl) (hf:=Or.inr rfl))) (fun _ _ _ _=>abd) (fun _ _ _ _=>(ab1 (aaa (aao (show IxR _ (acb K) from aap) (pv 1) (pv 2) (fun _ _=>rfl)) (aaa (aao (show IxR _ (acb K) from aap) (pv 1) (pv 0) (fun _ _=>rfl)) aab))))) aab)))))
    (aag (aaq (i:=5) nd rfl (Or.inl rfl) (aau abp (pv 5) (pv 6))))))
  (aac (abc aJ1 rfl (adt rfl T.b_range (aaa (pv 5) (aaa (pv 2) aab))) (aak (i:=8) nd rfl (Or.inl rfl))
   (aag (aa8 (aay ao1 (aah (aam T) z (aaa (pv 0) (aaa aae aab))) aae (aa0 _))
     (aag (abk (acp PySem.F.plainAttrs_list PySem.F.slot_list_append PySem.F.type_list_append abh (pv 4) (aaa (ab1 (aaa (aao aap (pv 3) (aah (aam T) z (aaa (pv 0) (aaa (pv 8) aab))) (fun _ _=>rfl)) (aaa (aao aap (pv 3) (pv 8) (fun _ _=>rfl)) aab))) aab))))
     aaz)))
  (aag (aat (ab1 (aaa (pv 2) (aaa (aai aph (by rfl) T.b_sorted aeq (aaa (acg rfl (N:=["tie"]) (src:=[none]) (by exact aa9 rfl rfl rfl rfl rfl rfl) (aa5 (pv 4)) (fun _ _ _ _=>(aak (i:=0) (show List.Nodup (["tie"]:List Str) by decide +kernel) rfl (Or.inl rfl) (hf:=Or.inr rfl))) (fun _ _ _ _=>abd) (fun _ _ _ _=>(ab1 (aaa (aai (show aa1 _ (.builtin "min") (aks K) from (aq5 rfl)) (by rfl) T.b_min ae7 (aaa (pv 0) aab)) (aaa (aai (show aa1 _ (.builtin "max") (agr K) from (af3 rfl)) (by rfl) T.b_max adu (aaa (pv 0) aab)) aab))))) aab)) aab)))))))))))),?_⟩
 refine api h fun A0 ss Q' q B hK=>?_
 obtain ⟨rfl,rfl,k⟩:=q
 show EvS B _ _ [some (.io ODk),none,none,none,none,none,none,none,none]
 row_cond go
 refine ⟨11,rfl,rfl,by omega,by omega,fun r1 b6 a7=>?_⟩
 row_cond go
 refine ⟨15,rfl,rfl,by omega,by omega,fun r2 a5 b2=>?_⟩
 row_cond go
 refine ⟨15,rfl,rfl,by omega,by omega,fun r3 a9 b0=>?_⟩
 row_cond go
 refine ⟨2,rfl,rfl,by omega,by omega,fun S a6 b4=>?_⟩
 obtain ⟨sz,r,J,a4,a3⟩:∃ sz:List Int,atI [PyData.list [.int (12+r1)],.list [.int (2+r2),.int (2+r3)]] S=some (.list (sz.map .int))/\(∀ x∈sz,2<=x)/\(2<=sz.sum/\sz.sum<=32)/\sz.length<=2:=by
  rcases (show S=0\/S=1 by omega) with rfl | rfl
  ·exact ⟨[12+r1],rfl,fun x G=>by simp at G;omega,by simp;omega,by simp⟩
  ·exact ⟨[2+r2,2+r3],rfl,fun x G=>by simp at G;omega,by simp;omega,by simp⟩
 row_cond go
 refine an5 rfl ?_
 row_cond go
 refine an5 rfl ?_
 row_cond go
 refine ⟨61 - sz.sum,rfl,rfl,by omega,by omega,fun r5 b5 a8=>?_⟩
 row_cond go
 refine ⟨sz.sum+r5,rfl,rfl,by omega,by omega,fun row I=>acx aef ?_⟩
 obtain ⟨n,hn,b7,Y⟩:∃ n,n=sz.sum+r5/\sz.sum<=n/\n<=60:=⟨_,rfl,by omega,by omega⟩
 rw [← hn] at I
 rw [← hn]
 have r:∀ j:Int,0<=j->j < n->∃ x,atI (row.map PyData.int) j=some (.int x)/\0<=x/\x < n:=fun j O j1=>⟨acr row j,adp O (by rw [aA5,(I.at O j1).1];rfl),(I.at O j1).2⟩
 row_cond go
 refine acl (fun i e=>∃ C o m ps,e=[some (.io ODk),some (.st (.list (sz.map .int))),some (.st (.int n)),some (.st (.list (row.map .int))),some (.own (OL (ps.map prD))),some (.st (.int (sz.take i).sum)),C,o,m]/\InN n ps/\(ps.length:Int)<=32 * (sz.take i).sum) ⟨none,none,none,[],rfl,(fun p g=>by cases g),by simp⟩ ?_ ?_
 ·rintro i x e G d
  refine exS4 e d fun C o m ps b=>?_
  have l:=b.1
  have v:=b.2
  clear b d
  have b1:=J x (aA2 G)
  obtain ⟨t1,t2,t3⟩:=at7 J G
  rw [t1] at t2
  rw [t1]
  generalize (sz.take i).sum=c at v t2 t3
  row_cond go
  refine abx (fun j e=>∃ o m ps,e=[some (.io ODk),some (.st (.list (sz.map .int))),some (.st (.int n)),some (.st (.list (row.map .int))),some (.own (OL (ps.map prD))),some (.st (.int c)),some (.st (.int x)),o,m]/\InN n ps/\(ps.length:Int)<=32 * (c+j)) ⟨_,_,ps,rfl,l,by simpa using v⟩ ?_ ?_
  ·rintro j e hj d
   refine exS3 e d fun o m ps b=>?_
   have l:=b.1
   have v:=b.2
   clear b d
   have b3:c+(j:Int) < c+x:=by omega
   obtain ⟨xa,ea,U,L⟩:=r (c+(j:Int)) (by omega) (by omega)
   row_cond go
   unfold rngD
   refine acu (fun u:Nat=>prD (xa,acr row (c+(j:Int)+1+(u:Int)))) rfl (by simp;omega) (fun u hu B' hB=>?_) ?_
   ·have a0:=aB8.mp hu
    have hb:=I.at (a:=c+(j:Int)+1+(u:Int)) (by omega) (by omega)
    have eb:atI (row.map PyData.int) (c+(j:Int)+1+(u:Int))=some (.int (acr row (c+(j:Int)+1+(u:Int)))):=adp (by omega) (by rw [aA5,hb.1];rfl)
    row_cond go
    rfl
   ·refine ⟨_,_,rfl,rfl,by simp;omega,?_⟩
    dsimp only [List.set_cons_zero,List.set_cons_succ]
    refine ⟨_,_,ps ++ (List.range (c+x - (c+(j:Int)+1)).toNat).map fun u:Nat=>(xa,acr row (c+(j:Int)+1+(u:Int))),by rw [aE1,aD7];rfl,fun p g=>?_,by simp;omega⟩
    rcases aA7.mp g with g | g
    ·exact l p g
    ·obtain ⟨u,hu,rfl⟩:=aB6.mp g
     have a0:=aB8.mp hu
     have hb:=I.at (a:=c+(j:Int)+1+(u:Int)) (by omega) (by omega)
     exact ⟨U,L,hb.2.1,hb.2.2⟩
  ·rintro e d
   refine exS3 e d fun o m ps b=>?_
   have l:=b.1
   have v:=b.2
   clear b d
   row_cond go
   exact ⟨_,_,_,ps,rfl,l,by omega⟩
 ·rintro e d
  refine exS4 e d fun C o m ps b=>?_
  have l:=b.1
  have v:=b.2
  clear b d
  rw [aG4] at v ⊢
  row_cond go
  refine abx (fun j e=>∃ C o m ps,e=[some (.io ODk),some (.st (.list (sz.map .int))),some (.st (.int n)),some (.st (.list (row.map .int))),some (.own (OL (ps.map prD))),some (.st (.int sz.sum)),C,o,m]/\InN n ps/\(ps.length:Int)<=1024+j) ⟨_,_,_,ps,rfl,l,by omega⟩ ?_ ?_
  ·rintro j e hj d
   refine exS4 e d fun C o m ps b=>?_
   have l:=b.1
   have v:=b.2
   clear b d
   obtain ⟨xb,eb,a2,X⟩:=r (sz.sum+(j:Int)) (by omega) (by omega)
   row_cond go
   refine ⟨5,rfl,rfl,by omega,by omega,fun q qa qb=>?_⟩
   row_cond go
   refine ac0 (fun hq=>?_) (fun hq=>?_)
   ·row_cond go
    refine ⟨sz.sum+(j:Int),rfl,rfl,by omega,by omega,fun y ya yb=>?_⟩
    obtain ⟨xy,ey,M,Z⟩:=r y ya (by omega)
    row_cond go
    refine ⟨_,_,_,ps ++ [(xy,xb)],by rw [aE1];rfl,fun p g=>?_,by simp;omega⟩
    rcases aA7.mp g with g | g
    ·exact l p g
    ·rw [aC1.mp g];exact ⟨M,Z,a2,X⟩
   ·row_cond go
    exact ⟨_,_,_,ps,rfl,l,by push_cast;omega⟩
  ·rintro e d
   refine exS4 e d fun C o m ps b=>?_
   have l:=b.1
   have v:=b.2
   clear b d
   row_cond go
   refine ars (ps:=ps.map mmP) ?_
   row_cond go
   refine acu (fun p:Int × Int=>prD (mmP p)) rfl (by omega) (fun p g B' hB=>?_) ?_
   ·row_cond go
    refine atn (ns:=[p.1,p.2]) rfl (by simp) fun m1 R=>?_
    row_cond go
    refine atm (ns:=[p.1,p.2]) rfl (by simp) fun m2 W=>?_
    row_cond go
    exact ⟨by rw [azd R W],rfl⟩
   ·row_cond go
    refine ⟨by rw [aD7];rfl,fun qs g hs=>adc ?_⟩
    row_cond go
    exact k n qs (by omega) Y (fun p a1=>aze l p (g.mem_iff.mp a1)) (by rw [g.length_eq,aA3];omega)
end
theorem ag0 {n a b:Int} {ps:List (Int × Int)} (h:InN n ps) (f:0<=a) (i:a < n) (g:0<=b) (d:b < n):InN n (addP ps (a,b)):=fun p c=>by
 rcases addP_mem.mp c with c | rfl
 ·exact h p c
 ·exact ⟨f,i,g,d⟩
section
variable {P:Program} {w:World} {K:Frag} {mg:Str->Option Value} {base:Heap}
theorem sc_law_web:FnScope ["deck","n","row","kind","ties","k","heads","head","a","b"] ["deck"] (aal s_law_web):=by row_cond sc
theorem ane (T:Txt K mg):Can P w K mg base "_law_web" 4 ["deck"] (spI K (asa)):=by
 obtain ⟨f,fd,D⟩:=T.d_law_web
 refine D.can (D.fn.ok sc_law_web (fun vs H Q E h=>lenI h fun A ss Q' q=>by obtain ⟨rfl,rfl,k⟩:=q;rfl) (fun cdv A outer s H vs Q E c h=>?_))
 have nd:=sc_law_web.nd
 refine ⟨_,(aac (aa8 (aay aek (aah (aam T) c (aaa (pv 0) (aaa aae aab))) aae (aa0 _))
   (aag (aat (aah (aja T) c (aaa (pv 0) aab))))
   aaz)
  (aac (aaq (i:=1) nd rfl (Or.inl rfl) (aau abp aae (aah (aam T) c (aaa (pv 0) (aaa (aao aap (aa2 (aaa aae (aaa aae (aaa aae (aaa aae aab))))) (aah (aam T) c (aaa (pv 0) (aaa aae aab))) (fun _ _=>rfl)) aab)))))
  (aac (aaq (i:=2) nd rfl (Or.inl rfl) (aao aap (aa2 (aaa (amf rfl T.b_list rfl T.b_range rfl (aaa (pv 1) aab)) (aaa (aah (aft T) c (aaa (pv 0) (aaa (pv 1) aab))) aab))) (aah (aam T) c (aaa (pv 0) (aaa aae aab))) (fun _ _=>rfl)))
  (aac (aaq (i:=3) nd rfl (Or.inl rfl) (aah (aam T) c (aaa (pv 0) (aaa aae aab))))
  (aac (aaq (i:=4) nd rfl (Or.inl rfl) alf)
  (aac (abc aJ1 rfl (adt rfl T.b_range (aaa aae (aaa (pv 1) aab))) (aak (i:=5) nd rfl (Or.inl rfl))
   (aac (aaq (i:=6) nd rfl (Or.inl rfl) (aa2 (aaa (aau ad8 (pv 5) aae) (aaa (aah (aam T) c (aaa (pv 0) (aaa (pv 5) aab))) (aaa (aai (acy rfl) (by rfl) T.b_max adu (aaa aae (aaa (aau ad8 (aau ad8 (pv 5) aae) (aah (aam T) c (aaa (pv 0) (aaa aae aab)))) aab))) (aaa aae (aaa (aau aik (pv 5) aae) aab)))))))
    (aac (aaq (i:=7) nd rfl (Or.inl rfl) (aao aap (aau aqp (pv 6) (aa2 (aaa (aah (aam T) c (aaa (pv 0) (aaa (aai (acz rfl) (by rfl) T.b_min ae7 (aaa (pv 5) (aaa aae aab))) aab))) aab))) (pv 3) (fun _ _=>rfl)))
    (aag (ae3 (acq c) (pv 4) (ab1 (aaa (aai (acz rfl) (by rfl) T.b_min ae7 (aaa (aao aap (pv 2) (pv 5) (fun _ _=>rfl)) (aaa (aao aap (pv 2) (pv 7) (fun _ _=>rfl)) aab))) (aaa (aai (acy rfl) (by rfl) T.b_max adu (aaa (aao aap (pv 2) (pv 5) (fun _ _=>rfl)) (aaa (aao aap (pv 2) (pv 7) (fun _ _=>rfl)) aab))) aab))) abi rfl)))))
  (aac (aa8 (PW.pt (afu (aay aek (aah (aam T) c (aaa (pv 0) (aaa aae aab))) aae (aa0 _)) (aez (aay ao1 (pv 1) aae (aa0 _)))))
   (aag (ae3 (acq c) (pv 4) (ab1 (aaa (aai (acz rfl) (by rfl) T.b_min ae7 (aaa (aao aap (pv 2) aae (fun _ _=>rfl)) (aaa (aao aap (pv 2) (aui aqf aae) (fun _ _=>rfl)) aab))) (aaa (aai (acy rfl) (by rfl) T.b_max adu (aaa (aao aap (pv 2) aae (fun _ _=>rfl)) (aaa (aao aap (pv 2) (aui aqf aae) (fun _ _=>rfl)) aab))) aab))) abi rfl))
   aaz)
  (aac (abc aJ1 rfl (aa6 rfl T.b_range (aaa (aao aap (aa2 (aaa aae (aaa (aah (aam T) c (aaa (pv 0) (aaa aae aab))) (aaa (aah (aam T) c (aaa (pv 0) (aaa (aau abp (pv 1) aae) aab))) (aaa (aah (aam T) c (aaa (pv 0) (aaa (aau afw aae (pv 1)) aab))) aab))))) (aah (aam T) c (aaa (pv 0) (aaa aae aab))) (fun _ _=>rfl)) aab)) (aak (i:=5) nd rfl (Or.inl rfl))
   (aac (aaq (i:=8) nd rfl (Or.inl rfl) (aah (aam T) c (aaa (pv 0) (aaa (pv 1) aab))))
    (aac (aaq (i:=9) nd rfl (Or.inl rfl) (aah (aam T) c (aaa (pv 0) (aaa (pv 1) aab))))
    (aag (aa8 (aay agl (pv 8) (pv 9) (aa0 _))
     (aag (ae3 (acq c) (pv 4) (ab1 (aaa (aai (acz rfl) (by rfl) T.b_min ae7 (aaa (pv 8) (aaa (pv 9) aab))) (aaa (aai (acy rfl) (by rfl) T.b_max adu (aaa (pv 8) (aaa (pv 9) aab))) aab))) abi rfl))
     aaz)))))
  (aac (abc aJ1 rfl (aa6 rfl T.b_range (aaa (aao aap (aa2 (aaa aae (aaa aae (aaa (aah (aam T) c (aaa (pv 0) (aaa aae aab))) (aaa (aah (aam T) c (aaa (pv 0) (aaa (aau abp (pv 1) aae) aab))) aab))))) (aah (aam T) c (aaa (pv 0) (aaa aae aab))) (fun _ _=>rfl)) aab)) (aak (i:=5) nd rfl (Or.inl rfl))
   (aag (aa8 (aay (ay7 c.units) (pv 4) alf (aa0 _))
     (aag (abk (atw (acq c) (pv 4) (aao aap (aai (aey rfl) (by rfl) T.b_sorted aeq (aaa (pv 4) aab)) (aah (aam T) c (aaa (pv 0) (aaa (aai arx (by rfl) T.b_len ace (aaa (pv 4) aab)) aab))) (fun _ _=>rfl)) ⟨rfl,rfl,rfl,rfl⟩)))
     aaz)))
  (aag (aat (ab1 (aaa (pv 1) (aaa (aai (aey rfl) (by rfl) T.b_sorted aeq (aaa (pv 4) aab)) aab)))))))))))))),?_⟩
 refine api h fun A0 ss Q' q B hK=>?_
 obtain ⟨rfl,rfl,k⟩:=q
 show EvS B _ _ [some (.io ODk),none,none,none,none,none,none,none,none,none]
 row_cond go
 refine ⟨8,rfl,rfl,by omega,by omega,fun r0 e6 b4=>?_⟩
 row_cond go
 refine ac0 (fun X=>?_) (fun X=>?_)
 ·row_cond go
  exact ⟨rfl,rfl,fun n es O N d y=>⟨ODk,rfl,k n es O N d y⟩⟩
 ·row_cond go
  refine ⟨4,rfl,rfl,by omega,by omega,fun L e7 c1=>?_⟩
  obtain ⟨I,f1,f7,c7⟩:∃ I:Int,atI [PyData.int 4,PyData.int 12,PyData.int 12,PyData.int 60] L=some (.int I)/\4<=I/\I<=60:=by
   rcases (show L=0\/L=1\/L=2\/L=3 by omega) with rfl | rfl | rfl | rfl
   ·exact ⟨4,rfl,by omega,by omega⟩
   ·exact ⟨12,rfl,by omega,by omega⟩
   ·exact ⟨12,rfl,by omega,by omega⟩
   ·exact ⟨60,rfl,by omega,by omega⟩
  row_cond go
  refine ⟨I,rfl,rfl,by omega,by omega,fun r2 b6 e1=>?_⟩
  row_cond go
  obtain ⟨n,hn,O,N⟩:∃ n,1+r2=n/\1<=n/\n<=60:=⟨_,rfl,by omega,by omega⟩
  rw [hn]
  row_cond go
  refine ⟨n,rfl,rfl,by omega,by omega,fun F a6=>adc ?_⟩
  row_cond go
  refine ⟨2,rfl,rfl,by omega,by omega,fun W c3 c6=>?_⟩
  obtain ⟨row,a7,R⟩:∃ row:List Int,atI [PyData.list (rngD 0 n.toNat),PyData.list (F.map .int)] W=some (.list (row.map .int))/\Order n row:=by
   rcases (show W=0\/W=1 by omega) with rfl | rfl
   ·exact ⟨(List.range n.toNat).map fun (i:Nat)=>(i:Int),by show some _=some _;rw [awo],Order.id n⟩
   ·exact ⟨F,rfl,a6⟩
  have C:∀ j:Int,0<=j->j < n->∃ x,atI (row.map PyData.int) j=some (.int x)/\0<=x/\x < n:=fun j S j1=>⟨acr row j,adp S (by rw [aA5,(R.at S j1).1];rfl),(R.at S j1).2⟩
  row_cond go
  refine ⟨6,rfl,rfl,by omega,by omega,fun kind ka kb=>?_⟩
  row_cond go
  rw [ay2]
  refine abx (fun i e=>∃ o l v u g ps,e=[some (.io ODk),some (.st (.int n)),some (.st (.list (row.map .int))),some (.st (.int kind)),some (.own (OT (kE ps))),o,l,v,u,g]/\InN n ps/\ps.length<=i) ⟨_,_,_,_,_,[],rfl,(fun p z=>by cases z),aA6 _⟩ ?_ ?_
  ·rintro i e hi b
   refine exS6 e b fun o l v u g ps a=>?_
   have d:=a.1
   have y:=a.2
   clear a b
   have Y:1+(i:Int) < n:=by omega
   obtain ⟨xk,ek,f4,f6⟩:=C (1+(i:Int)) (by omega) Y
   have G:(kE ps).length<=999999:=by rw [adz];omega
   row_cond go
   refine ⟨1+(i:Int),rfl,rfl,by omega,by omega,fun d1 f8 e8=>?_⟩
   row_cond go
   refine ⟨3,rfl,rfl,by omega,by omega,fun d2 g2 c4=>?_⟩
   iterate 16 row_cond st
   refine acx aef ?_
   row_cond go
   refine ⟨_,rfl,rfl,by split <;> omega,by split <;> omega,fun d3 d8 Z=>?_⟩
   have c5:d3 < 1+(i:Int):=by split at Z <;> omega
   obtain ⟨hd,e9,a5,d0⟩:∃ hd:Int,atI ([PyData.int (1+(i:Int) - 1),PyData.int d1,PyData.int (if 1+(i:Int) - 1 - d2 > 0 then 1+(i:Int) - 1 - d2 else 0),PyData.int 0,PyData.int ((1+(i:Int)) / 2)] ++ [PyData.int d3]) kind=some (.int hd)/\0<=hd/\hd < 1+(i:Int):=by
    rcases (show kind=0\/kind=1\/kind=2\/kind=3\/kind=4\/kind=5 by omega) with rfl | rfl | rfl | rfl | rfl | rfl
    ·exact ⟨_,rfl,by omega,by omega⟩
    ·exact ⟨_,rfl,by omega,by omega⟩
    ·exact ⟨_,rfl,by split <;> omega,by split <;> omega⟩
    ·exact ⟨_,rfl,by omega,by omega⟩
    ·exact ⟨_,rfl,by omega,by omega⟩
    ·exact ⟨_,rfl,by omega,by omega⟩
   obtain ⟨xh,eh,g4,d9⟩:=C hd a5 (by omega)
   row_cond go
   rw [af9]
   exact ⟨_,_,_,_,_,_,rfl,ag0 d (by split <;> omega) (by split <;> omega) (by split <;> omega) (by split <;> omega),aC9 aeg (by omega)⟩
  ·rintro e b
   refine exS6 e b fun o l v u g ps a=>?_
   have d:=a.1
   have y:=a.2
   clear a b
   have G:(kE ps).length<=999999:=by rw [adz];omega
   obtain ⟨x0,e0,c8,f0⟩:=C 0 (by omega) (by omega)
   obtain ⟨xl,el,f3,d6⟩:∃ x,atI (row.map PyData.int) (-1)=some (.int x)/\0<=x/\x < n:=by
    obtain ⟨x,ex,x0,x1⟩:=C (n - 1) (by omega) (by omega)
    refine ⟨x,?_,x0,x1⟩
    have hl:(row.map PyData.int).length=n.toNat:=by rw [aA3];exact R.len
    have h2:ixN n.toNat (-1)=some (n.toNat - 1):=by unfold ixN;rw [aF2 (by omega),aF1 (by omega)];congr 1;omega
    have h3:ixN n.toNat (n - 1)=some (n.toNat - 1):=by unfold ixN;rw [aF1 (by omega),aF1 (by omega)];congr 1;omega
    unfold atI at ex ⊢
    rw [hl,h3] at ex
    rw [hl,h2]
    exact ex
   refine' an1 (by assumption) ?_
   refine al9 (fun c_ g1=>?_)
   refine atv (fun e=>∃ ps,e=[some (.io ODk),some (.st (.int n)),some (.st (.list (row.map .int))),some (.st (.int kind)),some (.own (OT (kE ps))),o,l,v,u,g]/\InN n ps/\ps.length<=61) ?_ ?_
   ·row_cond go
    refine ⟨4,rfl,rfl,by omega,by omega,fun q qa qb=>?_⟩
    row_cond go
    refine ac0 (fun h=>?_) (fun h=>?_)
    ·row_cond go
     refine ac0 (fun h=>?_) (fun h=>?_)
     ·row_cond go
      rw [af9]
      exact ⟨_,rfl,ag0 d (by split <;> omega) (by split <;> omega) (by split <;> omega) (by split <;> omega),aC9 aeg (by omega)⟩
     ·row_cond go
      exact ⟨ps,rfl,d,by omega⟩
    ·row_cond go
     exact ⟨ps,rfl,d,by omega⟩
   ·clear d y G ps
    rintro e b
    refine exS1 e b fun ps a=>?_
    have d:=a.1
    have y:=a.2
    clear a b
    row_cond go
    refine ⟨4,rfl,rfl,by omega,by omega,fun a1 b7 b9=>?_⟩
    row_cond go
    refine ⟨n+1,rfl,rfl,by omega,by omega,fun a2 a9 f2=>?_⟩
    row_cond go
    refine ⟨4 * n,rfl,rfl,by omega,by omega,fun a3 f5 d7=>?_⟩
    row_cond go
    refine ⟨4,rfl,rfl,by omega,by omega,fun J g0 d4=>?_⟩
    obtain ⟨m,em,m0,m1⟩:∃ m:Int,atI [PyData.int 0,PyData.int a1,PyData.int a2,PyData.int a3] J=some (.int m)/\0<=m/\m<=240:=by
     rcases (show J=0\/J=1\/J=2\/J=3 by omega) with rfl | rfl | rfl | rfl <;> exact ⟨_,rfl,by omega,by omega⟩
    row_cond go
    refine abx (fun i e=>∃ o l v u g ps,e=[some (.io ODk),some (.st (.int n)),some (.st (.list (row.map .int))),some (.st (.int kind)),some (.own (OT (kE ps))),o,l,v,u,g]/\InN n ps/\ps.length<=61+i) ⟨_,_,_,_,_,ps,rfl,d,y⟩ ?_ ?_
    ·rintro i e hi b
     refine exS6 e b fun o l v u g ps a=>?_
     have d:=a.1
     have y:=a.2
     clear a b
     have G:(kE ps).length<=999999:=by rw [adz];omega
     row_cond go
     refine ⟨n,rfl,rfl,by omega,by omega,fun ba e3 f9=>?_⟩
     row_cond go
     refine ⟨n,rfl,rfl,by omega,by omega,fun bb e5 c0=>?_⟩
     row_cond go
     refine avf (fun h=>?_) (fun h=>?_)
     ·row_cond go
      rw [af9]
      exact ⟨_,_,_,_,_,_,rfl,ag0 d (by split <;> omega) (by split <;> omega) (by split <;> omega) (by split <;> omega),aC9 aeg (by omega)⟩
     ·row_cond go
      exact ⟨_,_,_,_,_,ps,rfl,d,by omega⟩
    ·rintro e b
     refine exS6 e b fun o l v u g ps a=>?_
     have d:=a.1
     have y:=a.2
     clear a b
     row_cond go
     refine ⟨6,rfl,rfl,by omega,by omega,fun b1 b8 d5=>?_⟩
     row_cond go
     refine ⟨n+1,rfl,rfl,by omega,by omega,fun b2 e2 c2=>?_⟩
     row_cond go
     refine ⟨4,rfl,rfl,by omega,by omega,fun M b5 c9=>?_⟩
     obtain ⟨m',e4,b0,g3⟩:∃ m:Int,atI [PyData.int 0,PyData.int 1,PyData.int b1,PyData.int b2] M=some (.int m)/\0<=m/\m<=61:=by
      rcases (show M=0\/M=1\/M=2\/M=3 by omega) with rfl | rfl | rfl | rfl <;> exact ⟨_,rfl,by omega,by omega⟩
     row_cond go
     have U:ps.length<=301:=by omega
     refine abx (fun i e=>∃ o l v u g ps,e=[some (.io ODk),some (.st (.int n)),some (.st (.list (row.map .int))),some (.st (.int kind)),some (.own (OT (kE ps))),o,l,v,u,g]/\InN n ps/\ps.length<=301) ⟨_,_,_,_,_,ps,rfl,d,U⟩ ?_ ?_
     ·rintro i e hi b
      refine exS6 e b fun o l v u g ps a=>?_
      have d:=a.1
      have y:=a.2
      clear a b
      iterate 3 row_cond st
      refine ay8 (.inl rfl) ?_
      row_cond go
      cases hps:ps with
      | nil =>
       refine ada ?_
       row_cond go
       exact ⟨_,_,_,_,_,[],rfl,(fun p z=>by cases z),by simp⟩
      | cons p0 pr =>
       have a8:0 < ps.length:=by rw [hps];simp
       rw [← hps]
       rw [aF1 (show (!(kE ps).isEmpty)=true by rw [hps];rfl)]
       refine al8 (aa7 ?_)
       refine atx (.inl rfl) ?_
       refine auo ?_
       refine abv (afm (.inl rfl) fun qs z hs=>adc ?_)
       refine aju rfl ?_
       refine ahf (awp (.inl rfl) ?_)
       row_cond go
       rw [adz]
       refine ⟨_,rfl,rfl,by omega,by omega,fun r ra rb=>?_⟩
       obtain ⟨q,hq⟩:∃ q,qs[r.toNat]?=some q:=⟨_,aA0 (show r.toNat < qs.length by rw [z.length_eq];omega)⟩
       have eq:atI (qs.map prD) r=some (prD q):=adp ra (by rw [aA5,hq];rfl)
       obtain ⟨j,hj⟩:=List.getElem?_of_mem (z.mem_iff.mp (aA2 hq))
       row_cond go
       refine ⟨kE ps,[Sum.inl q.1,Sum.inl q.2],j,.bool true,rfl,rfl,by unfold kE;rw [aA5,hj];rfl,?_⟩
       dsimp only [List.set_cons_zero,List.set_cons_succ]
       row_cond go
       exact ⟨_,_,_,_,_,ps.eraseIdx j,by rw [show (kE ps).eraseIdx j=kE (ps.eraseIdx j) from age _ _ _],fun p z=>d p ((List.eraseIdx_sublist ps j).mem z),aC9 (List.length_eraseIdx_le ps j) y⟩
     ·rintro e b
      refine exS6 e b fun o l v u g ps a=>?_
      have d:=a.1
      have y:=a.2
      clear a b
      iterate 6 row_cond st
      refine abv (afm (.inl rfl) fun qs z hs=>adc ?_)
      row_cond go
      exact k n qs O N (fun p a0=>d p (z.mem_iff.mp a0)) (by rw [z.length_eq];omega)
end
structure FarD (n:Int) (f:Int->Option Nat) (es:List (Key × PyData)):Prop where
 mem:∀ k d,(k,d)∈es->∃ (v:Int) (j:Nat),k=.inl v/\d=.int (j:Int)/\0<=v/\v < n/\f v=some j
 all:∀ (v:Int) (j:Nat),f v=some j->((.inl v:Key),PyData.int (j:Int))∈es
 nd:(es.map (·.1)).Nodup
 len:es.length+cnt f n.toNat=n.toNat
theorem FarD.val {n:Int} {f:Int->Option Nat} {es:List (Key × PyData)} (h:FarD n f es) (v:Int):valD es (.inl v)=(f v).map fun j => .int (j:Int):=by
 unfold valD
 cases e:es.find? fun e=>decide (e.1=(.inl v:Key)) with
 | none =>
  rw [List.find?_eq_none] at e
  cases hf:f v with
  | none=>rfl
  | some j=>exact absurd (aD5 rfl) (e _ (h.all v j hf))
 | some p =>
  obtain ⟨k,d⟩:=p
  have g:k=.inl v:=by simpa using List.find?_some e
  obtain ⟨u,j,a,c,_,_,b⟩:=h.mem k d (List.mem_of_find?_eq_some e)
  rw [g] at a
  cases a
  rw [b,c]
  rfl
theorem at8 (n:Nat):cnt (fun _=>none) n=n:=by
 induction n with
 | zero=>rfl
 | succ n ih=>unfold cnt;rw [ih,aF1 rfl]
theorem FarD.start {n a:Int} (a0:0<=a) (c:a < n):FarD n (Gr.label (fun _=>none) a 0) [(.inl a,.int 0)]:=by
 refine ⟨fun k d hm=>?_,fun v j b=>?_,by simp,?_⟩
 ·have:(k,d)=((.inl a:Key),PyData.int 0):=by simpa using hm
  cases this
  exact ⟨a,0,rfl,rfl,a0,c,Gr.label_same⟩
 ·by_cases e:v=a
  ·subst e
   rw [Gr.label_same] at b
   cases b
   exact aC1.mpr rfl
  ·rw [Gr.label_ne e] at b
   cases b
 ·have g:=ady (far:=fun _=>none) (d:=0) a0 rfl (n:=n.toNat) (by omega)
  have f:=at8 n.toNat
  simp only [aE2,aI4]
  omega
theorem FarD.put {n v:Int} {f:Int->Option Nat} {es:List (Key × PyData)} {j:Nat} (h:FarD n f es) (v0:0<=v) (w:v < n) (r:f v=none):FarD n (Gr.label f v j) (putD es (.inl v) (.int (j:Int))):=by
 have a:∀ p∈es,p.1 ≠ (.inl v:Key):=fun p g e=>by
  obtain ⟨u,i,b,_,_,_,m⟩:=h.mem p.1 p.2 g
  rw [e] at b
  cases b
  rw [r] at m
  cases m
 have c:putD es (.inl v) (.int (j:Int))=es ++ [(.inl v,.int (j:Int))]:=by
  unfold putD
  rw [aF2]
  rw [aE9]
  rintro ⟨p,g,e⟩
  exact a p g (by simpa using e)
 rw [c]
 refine ⟨fun k d hm=>?_,fun u i l=>?_,?_,?_⟩
 ·rcases aA7.mp hm with hm | hm
  ·obtain ⟨u,i,b,q,m,z,s⟩:=h.mem k d hm
   have o:u ≠ v:=fun e=>a (k,d) hm (by rw [← e];exact b)
   exact ⟨u,i,b,q,m,z,by rw [Gr.label_ne o];exact s⟩
  ·have:(k,d)=((.inl v:Key),PyData.int (j:Int)):=by simpa using hm
   cases this
   exact ⟨v,j,rfl,rfl,v0,w,Gr.label_same⟩
 ·by_cases e:u=v
  ·subst e
   rw [Gr.label_same] at l
   cases l
   exact aB2 _ (aC1.mpr rfl)
  ·rw [Gr.label_ne e] at l
   exact aC6 _ (h.all u i l)
 ·rw [aE1,aE4]
  refine ⟨h.nd,by simp,fun x B y A=>?_⟩
  obtain ⟨p,g,rfl⟩:=aB6.mp B
  have:y=.inl v:=by simpa using A
  rw [this]
  exact a p g
 ·have b:=ady (d:=j) v0 r (n:=n.toNat) (by omega)
  have q:=h.len
  rw [aB0]
  simp only [aE2,aI4]
  omega
theorem FarD.ne {n:Int} {f:Int->Option Nat} {es:List (Key × PyData)} (h:FarD n f es) {v:Int} {j:Nat} (a:f v=some j):es ≠ []:=fun e=>by
 have:=h.all v j a
 rw [e] at this
 cases this
theorem FarD.congr {n:Int} {f g:Int->Option Nat} {es:List (Key × PyData)} (h:FarD n f es) (e:∀ v,f v=g v):FarD n g es:=by
 have:f=g:=funext e
 rw [← this]
 exact h
theorem auw:∀ (ns:List Int),aas (.list (ns.map .int))=true
 | []=>rfl
 | a :: ns=>by have:=auw ns;simp only [aas,aD0,plainDs] at *;simp [this]
theorem azf (ns:List Int):(PyData.list (ns.map .int)).depth<=60:=by
 have:PyData.depthAll (ns.map .int)<=1:=adq fun d hd=>by
  obtain ⟨_,_,rfl⟩:=aB6.mp hd
  simp [PyData.depth]
 simp only [PyData.depth]
 omega
theorem aw3 (ns:List Int):PyData.eqv (.list (ns.map .int)) (.list [])=ns.isEmpty:=by cases ns <;> rfl
structure FarsD (n:Int) (es:List (Int × Int)) (ess:List (List (Key × PyData))):Prop where
 len:(ess.length:Int)=n
 row:∀ (v:Int) fs,0<=v->ess[v.toNat]?=some fs->FarD n (Gr.farO (Tied es) v) fs
def aw4:VP:=fun ss Q=>∃ (n:Int) (es:List (Int × Int)),ss=[.st (webD n es)]/\0<=n/\n<=100/\InN n es/\es.length<=10000/\∀ tl,TiedL n (Tied es) tl->(∀ us∈tl,us.length<=20000)->Q (.own (ODL (tlD tl)))
def aw5:VP:=fun ss Q=>∃ (n:Int) (es:List (Int × Int)),ss=[.st (webD n es)]/\1<=n/\n<=100/\InN n es/\es.length<=10000/\∀ ess,FarsD n es ess->Q (.own (OL (ess.map abj)))
section
variable {P:Program} {w:World} {K:Frag} {mg:Str->Option Value} {base:Heap}
theorem sc_law_tied:FnScope ["web","found","a","b"] ["web"] (aal s_law_tied):=by row_cond sc
theorem agf (T:Txt K mg):Can P w K mg base "_law_tied" 1 ["web"] (spP K (aw4)):=by
 obtain ⟨f,fd,D⟩:=T.d_law_tied
 refine D.can (D.fn.ok sc_law_tied (fun vs H Q E h=>lenP h fun ss U q=>by obtain ⟨n,es,rfl,R,O,p,y,k⟩:=q;rfl) (fun cdv A outer s H vs Q E L h=>?_))
 have nd:=sc_law_tied.nd
 refine ⟨_,(aac (aaq (i:=1) nd rfl (Or.inl rfl) (acv (apx rfl) (by rfl) T.b_dict anr (aaa (acg rfl (N:=["place"]) (src:=[none]) (by exact aa9 rfl rfl rfl rfl rfl rfl) (aa6 rfl T.b_range (aaa (aao aap (pv 0) aae (fun _ _=>rfl)) aab)) (fun _ _ _ _=>(aak (i:=0) (show List.Nodup (["place"]:List Str) by decide +kernel) rfl (Or.inl rfl) (hf:=Or.inr rfl))) (fun _ _ _ _=>abd) (fun _ _ _ _=>(ab1 (aaa (pv 0) (aaa (aa2 aab) aab))))) aab)))
  (aac (abc aJ1 rfl (aa5 (aao aap (pv 0) aae (fun _ _=>rfl))) (aho rfl (acj (aak (i:=2) nd rfl (Or.inl rfl)) (acj (aak (i:=3) nd rfl (Or.inl rfl)) agj)))
   (aac (abk (acp PySem.F.plainAttrs_list PySem.F.slot_list_append PySem.F.type_list_append abh (ago (acq L) (pv 1) (pv 2) (fun _ _=>rfl)) (aaa (pv 3) aab)))
    (aag (abk (acp PySem.F.plainAttrs_list PySem.F.slot_list_append PySem.F.type_list_append abh (ago (acq L) (pv 1) (pv 3) (fun _ _=>rfl)) (aaa (pv 2) aab))))))
  (aag (aat (pv 1))))),?_⟩
 refine abr h fun ss U q B W=>?_
 refine exS2 ss q fun n es c=>?_
 have R:=c.1
 have O:=c.2.1
 have p:=c.2.2.1
 have y:=c.2.2.2.1
 have k:=c.2.2.2.2
 clear c q
 show EvS B _ _ [some (.st (webD n es)),none,none,none]
 row_cond go
 refine ar3 ?_
 row_cond go
 refine ⟨n.toNat,rfl,by omega,?_⟩
 row_cond go
 refine acl (fun i e=>∃ z J tl,e=[some (.st (webD n es)),some (.own (ODL (tlD tl))),z,J]/\TiedL n (Tied (es.take i)) tl/\∀ d∈tl,d.length<=2 * i)
  ⟨none,none,List.replicate n.toNat [],by simp [tlD],⟨by simp;omega,fun i d hi w=>?_⟩,fun d M=>?_⟩ ?_ ?_
 ·rw [aH3] at hi
  split at hi
  ·cases hi;simp [Tied]
  ·cases hi
 ·have:=List.eq_of_mem_replicate M
  subst this;simp
 ·rintro i ⟨a,b⟩ e G m
  refine exS3 e m fun z J tl c=>?_
  have r:=c.1
  have l:=c.2
  clear c m
  have hi:i < es.length:=(aA1.mp G).1
  obtain ⟨a0,I,b0,C⟩:=p _ (aA2 G)
  dsimp only at a0 I b0 C
  row_cond go
  obtain ⟨d,g,_⟩:=r.get a0 I
  have S:=l d (aA2 g)
  refine aih (n:=a.toNat) (ds:=d.map .int) rfl rfl rfl (by omega) (acw g) (by rw [aA3];omega) ?_
  dsimp only [List.set_cons_zero,List.set_cons_succ]
  have x:=r.put (q:=b) a0 I g
  rw [show d.map PyData.int ++ [.int b]=(d ++ [b]).map .int by simp,agw]
  have j:∀ us∈tl.set a.toNat (d ++ [b]),us.length<=2 * i+1:=fun us o=>by
   rcases List.mem_or_eq_of_mem_set o with h | h
   ·have:=l us h;omega
   ·subst h;simp;omega
  generalize tl.set a.toNat (d ++ [b])=tl2 at x j
  row_cond go
  obtain ⟨d,g,_⟩:=x.get b0 C
  have S:=j d (aA2 g)
  refine aih (n:=b.toNat) (ds:=d.map .int) rfl rfl rfl (by omega) (acw g) (by rw [aA3];omega) ?_
  dsimp only [List.set_cons_zero,List.set_cons_succ]
  rw [show d.map PyData.int ++ [.int a]=(d ++ [a]).map .int by simp,agw]
  refine ⟨_,_,_,rfl,(x.put (q:=a) b0 C g).iff fun u v=>(Tied.snoc G u v).symm,fun us o=>?_⟩
  rcases List.mem_or_eq_of_mem_set o with h | h
  ·have:=j us h;omega
  ·subst h;simp;omega
 ·rintro e m
  refine exS3 e m fun z J tl c=>?_
  have r:=c.1
  have l:=c.2
  clear c m
  rw [aG4] at r
  row_cond go
  exact k tl r fun us o=>by have:=l us o;omega
theorem sc_law_fars:FnScope ["web","tied","table","place","found","ring","far","later","one","other"] ["web"] (aal s_law_fars):=by row_cond sc
theorem agg (T:Txt K mg):Can P w K mg base "_law_fars" 2 ["web"] (spP K (aw5)):=by
 obtain ⟨f,fd,D⟩:=T.d_law_fars
 refine D.can (D.fn.ok sc_law_fars (fun vs H Q E h=>lenP h fun ss Q' q=>by obtain ⟨n,es,rfl,n0,n1,O,Z,k⟩:=q;rfl) (fun cdv A outer s H vs Q E hr h=>?_))
 have nd:=sc_law_fars.nd
 refine ⟨_,(aac (aaq (i:=1) nd rfl (Or.inl rfl) (aah (agf T) hr (aaa (pv 0) aab)))
  (aac (aaq (i:=2) nd rfl (Or.inl rfl) (aa2 aab))
  (aac (abc aJ1 rfl (aa6 rfl T.b_range (aaa (aao aap (pv 0) aae (fun _ _=>rfl)) aab)) (aak (i:=3) nd rfl (Or.inl rfl))
   (aac (aaq (i:=4) nd rfl (Or.inl rfl) (au7 (asn (pv 3) aae au6) rfl rfl (by simp) (by decide)))
    (aac (aaq (i:=5) nd rfl (Or.inl rfl) (aa2 (aaa (pv 3) aab)))
    (aac (aaq (i:=6) nd rfl (Or.inl rfl) aae)
    (aac (ak4 aJ1 (aay (aee hr.units) (pv 5) (aa2 aab) (aa0 _))
     (aac (aaq (i:=6) nd rfl (Or.inl rfl) (aau abp (pv 6) aae))
      (aac (aaq (i:=7) nd rfl (Or.inl rfl) (aa2 aab))
      (aac (abc aJ1 rfl (aa5 (pv 5)) (aak (i:=8) nd rfl (Or.inl rfl))
       (aag (abc aJ1 rfl (aa5 (ago (acq hr) (pv 1) (pv 8) (fun _ _=>rfl))) (aak (i:=9) nd rfl (Or.inl rfl))
         (aag (aa8 (aqa (ajj (acq hr) (pv 9) (pv 4)))
           (aac (ae3 (acq hr) (pv 4) (pv 9) (pv 6) rfl)
            (aag (abk (acp PySem.F.plainAttrs_list PySem.F.slot_list_append PySem.F.type_list_append abh (pv 7) (aaa (pv 9) aab)))))
           aaz)))))
      (aag (aaq (i:=5) nd rfl (Or.inl rfl) (pv 7)))))))
    (aag (abk (acp PySem.F.plainAttrs_list PySem.F.slot_list_append PySem.F.type_list_append abh (pv 2) (aaa (pv 4) aab)))))))))
  (aag (aat (pv 2)))))),?_⟩
 refine abr h fun ss Q' q B hK=>?_
 refine exS2 ss q fun n es b=>?_
 have n0:=b.1
 have n1:=b.2.1
 have O:=b.2.2.1
 have Z:=b.2.2.2.1
 have k:=b.2.2.2.2
 clear b q
 show EvS B _ _ [some (.st (webD n es)),none,none,none,none,none,none,none,none,none]
 row_cond go
 refine ⟨n,es,rfl,by omega,n1,O,Z,fun tl ht _=>acx aok ?_⟩
 have hT:∀ u v:Int,Tied es u v->0<=v/\v < n:=fun u v h=>(h.in O).2
 have a6:(tlD tl).map PyData.list ≠ []:=fun e=>by
  have:=ht.1
  have h2:=congrArg List.length e
  simp [tlD] at h2
  rw [h2] at this
  simp at this
  omega
 have U:∀ p:Int,0<=p->p < n->∃ X:List Int,valD (kvD ((tlD tl).map PyData.list)) (.inl p)=some (.list (X.map .int))/\∀ u,u∈X ↔ Tied es p u:=fun p p0 p1=>by
  obtain ⟨X,N,hw⟩:=ht.get p0 p1
  exact ⟨X,aoj p0 (by rw [aA5,acw N];rfl),hw⟩
 row_cond go
 refine abx (fun i e=>∃ ess v3 v4 v5 v6 Y G y,e=[some (.st (webD n es)),some (.st (abj (kvD ((tlD tl).map PyData.list)))),some (.own (OL (List.map abj ess))),v3,v4,v5,v6,Y,G,y]/\ess.length=i/\∀ (v:Int) fs,0<=v->ess[v.toNat]?=some fs->FarD n (Gr.farO (Tied es) v) fs) ⟨[],_,_,_,_,_,_,_,rfl,rfl,fun v fs _ h=>by simp at h⟩ ?_ ?_
 ·rintro i e hi g
  refine exS8 e g fun ess v3 v4 v5 v6 Y G y b=>?_
  have W:=b.1
  have I:=b.2
  clear b g
  obtain ⟨a,ha,a0,a1⟩:∃ a:Int,a=0+(i:Int)/\0<=a/\a < n:=⟨_,rfl,by omega,by omega⟩
  rw [← ha]
  row_cond go
  refine aru rfl ?_
  row_cond go
  refine an7 5 rfl aef ?_
  dsimp only [List.set_cons_zero,List.set_cons_succ]
  refine ajq (fun m e=>∃ Y G y far fe edge J,e=[some (.st (webD n es)),some (.st (abj (kvD ((tlD tl).map PyData.list)))),some (.own (OL (List.map abj ess))),some (.st (.int a)),some (.own (OD fe)),some (.st (.list (edge.map .int))),some (.st (.int ((J:Nat):Int))),Y,G,y]/\Gr.Ring (Tied es) a J far edge/\FarD n far fe/\(∀ v∈edge,0<=v/\v < n)/\m=2 * cnt far n.toNat+(if edge=[] then 0 else 1))
   ⟨_,_,_,_,_,_,[a],0,rfl,Gr.Ring.start,FarD.start a0 a1,fun v z=>by simp at z;subst z;exact ⟨a0,a1⟩,rfl⟩ ?_
  rintro m e g
  refine exS7 e g fun Y G y far fe edge J b=>?_
  have hR:=b.1
  have hF:=b.2.1
  have hb:=b.2.2.1
  have a4:=b.2.2.2
  clear b g
  subst a4
  row_cond go
  refine adm (auw _) rfl (azf _) ?_
  rw [aw3]
  cases hedge:edge with
  | nil =>
   subst hedge
   row_cond go
   rw [aF2 (show ¬ ((!([]:List Int).isEmpty)=true) from aA9)]
   row_cond go
   refine ⟨_,rfl,by rw [aA3];omega,?_⟩
   refine ⟨ess ++ [fe],_,_,_,_,_,_,_,by rw [aE1];rfl,by rw [aB0,W];rfl,fun v fs v0 z=>?_⟩
   by_cases hvi:v.toNat < i
   ·rw [aC2 (by omega)] at z
    exact I v fs v0 z
   ·have a8:=(aA1.mp z).1
    simp at a8
    have a5:v.toNat=i:=by omega
    rw [a5,aC7 (by omega),W,aI1] at z
    cases z
    rw [show v=a by omega]
    exact hF.congr hR.fin
  | cons e0 er =>
   rw [← hedge]
   have a3:edge ≠ []:=by rw [hedge];simp
   row_cond go
   rw [aF1 (show (!edge.isEmpty)=true by rw [hedge];rfl)]
   row_cond go
   refine acl (fun i e=>∃ G y c l beyond,e=[some (.st (webD n es)),some (.st (abj (kvD ((tlD tl).map PyData.list)))),some (.own (OL (List.map abj ess))),some (.st (.int a)),some (.own (OD l)),some (.st (.list (edge.map .int))),some (.st (.int ((J:Int)+1))),some (.own (OL (beyond.map .int))),G,y]/\Gr.Mid (Tied es) J far edge (fun u=>u∈edge.take i) c beyond/\FarD n c l/\cnt c n.toNat+beyond.length=cnt far n.toNat/\∀ v∈beyond,0<=v/\v < n)
    ⟨G,y,far,fe,[],rfl,Gr.Mid.start.imp fun u S=>by simp at S,hF,rfl,fun v z=>by simp at z⟩ ?_ ?_
   ·rintro i p e hp g
    refine exS5 e g fun G y c l beyond b=>?_
    have L:=b.1
    have o:=b.2.1
    have M:=b.2.2.1
    have r:=b.2.2.2
    clear b g
    have a2:=aA2 hp
    obtain ⟨p0,p1⟩:=hb p a2
    obtain ⟨X,N,hw⟩:=U p p0 p1
    row_cond go
    refine ahl ?_
    row_cond go
    refine ⟨kvD ((tlD tl).map PyData.list),.inl p,_,rfl,amo a6,rfl,N,?_⟩
    row_cond go
    refine acl (fun j e=>∃ y c l beyond,e=[some (.st (webD n es)),some (.st (abj (kvD ((tlD tl).map PyData.list)))),some (.own (OL (List.map abj ess))),some (.st (.int a)),some (.own (OD l)),some (.st (.list (edge.map .int))),some (.st (.int ((J:Int)+1))),some (.own (OL (beyond.map .int))),some (.st (.int p)),y]/\Gr.Mid (Tied es) J far edge (fun u=>u∈edge.take i) c beyond/\FarD n c l/\cnt c n.toNat+beyond.length=cnt far n.toNat/\(∀ v∈beyond,0<=v/\v < n)/\∀ x∈X.take j,c x ≠ none)
     ⟨y,c,l,beyond,rfl,L,o,M,r,fun x R=>by simp at R⟩ ?_ ?_
    ·rintro j u e S g
     refine exS4 e g fun y c l beyond b=>?_
     have L:=b.1
     have o:=b.2.1
     have M:=b.2.2.1
     have r:=b.2.2.2.1
     have C:=b.2.2.2.2
     clear b g
     have tu:Tied es p u:=(hw u).mp (aA2 S)
     obtain ⟨u0,u1⟩:=hT _ _ tu
     have a9:=o.val u
     have b2:=o.len
     have b1:l.length<=999999:=by omega
     row_cond go
     rw [a9]
     cases hf:c u with
     | none =>
      rw [aF1 (show (!((none:Option Nat).map fun (j:Nat)=>PyData.int (j:Int)).isSome)=true from rfl)]
      have b3:=ady (d:=J+1) u0 hf (n:=n.toNat) (by omega)
      have a7:∀ m,cnt far m<=m:=fun m=>by
       induction m with
       | zero=>exact aA6 _
       | succ m ih=>unfold cnt;split <;> omega
      have:=a7 n.toNat
      row_cond go
      refine ⟨some (.st (.int u)),Gr.label c u (J+1),_,beyond ++ [u],by simp,L.add a2 tu hf,o.put u0 u1 hf,by simp;omega,fun v z=>?_,fun x R=>?_⟩
      ·rcases aA7.mp z with h | h
       ·exact r v h
       ·have:v=u:=by simpa using h
        subst this;exact ⟨u0,u1⟩
      ·by_cases hx2:x=u
       ·subst hx2;rw [Gr.label_same];simp
       ·rw [Gr.label_ne hx2]
        rcases abz S R with h | h
        ·exact C x h
        ·exact absurd h hx2
     | some d =>
      rw [aF2 (show ¬ ((!((some d:Option Nat).map fun (j:Nat)=>PyData.int (j:Int)).isSome)=true) from aA9)]
      row_cond go
      refine ⟨_,c,l,beyond,rfl,L,o,M,r,fun x R=>?_⟩
      rcases abz S R with h | h
      ·exact C x h
      ·subst h;rw [hf];simp
    ·rintro e g
     refine exS4 e g fun y c l beyond b=>?_
     have L:=b.1
     have o:=b.2.1
     have M:=b.2.2.1
     have r:=b.2.2.2.1
     have C:=b.2.2.2.2
     clear b g
     rw [aG4] at C
     refine ⟨_,_,c,l,beyond,rfl,?_,o,M,r⟩
     refine (L.did (u:=p) fun x tx=>C x ((hw x).mpr tx)).imp fun x R=>?_
     exact abz hp R
   ·rintro e g
    refine exS5 e g fun G y c l beyond b=>?_
    have L:=b.1
    have o:=b.2.1
    have M:=b.2.2.1
    have r:=b.2.2.2
    clear b g
    row_cond go
    refine ⟨_,?_,_,_,_,c,l,beyond,J+1,rfl,hR.next L fun u S=>by rw [aG4];exact S,o,r,rfl⟩
    rw [aF2 a3]
    cases beyond with
    | nil=>rw [aF1 rfl];simp at M;omega
    | cons b0 br=>rw [aF2 (by simp)];simp at M;omega
 ·rintro e g
  refine exS8 e g fun ess v3 v4 v5 v6 Y G y b=>?_
  have W:=b.1
  have I:=b.2
  clear b g
  row_cond go
  exact k ess ⟨by omega,I⟩
end
theorem addAll_mem {p:Int × Int}:∀ {es ps:List (Int × Int)},p∈es.foldl addP ps ↔ p∈ps\/p∈es
 | [],ps=>by simp
 | e :: es,ps=>by
  rw [List.foldl_cons,addAll_mem,addP_mem,aA8,or_assoc]
theorem aij:∀ {es ps:List (Int × Int)},(es.foldl addP ps).length<=ps.length+es.length
 | [],_=>aA6 _
 | e :: es,ps=>by
  rw [List.foldl_cons,aE2]
  have b:=aij (es:=es) (ps:=addP ps e)
  have a:=aeg (ps:=ps) (p:=e)
  omega
theorem asc {T U:Int->Int->Prop} (h:∀ u v,T u v->U u v) {a v:Int} {d:Nat} (w:Gr.Walk T a d v):Gr.Walk U a d v:=by
 induction w with
 | refl=>exact .refl
 | step _ t ih=>exact .step ih (h _ _ t)
def aw6:VIo:=fun A ss Q=>A=ODk/\ss=[]/\∀ (n:Int) (es:List (Int × Int)),1<=n->n<=60->InN n es->es.length<=2000->Joined n es->Q ODk (.st (webD n es))
section
variable {P:Program} {w:World} {K:Frag} {mg:Str->Option Value} {base:Heap}
theorem sc_law_joined_web:FnScope ["deck","n","ties","fars","more","place"] ["deck"] (aal s_law_joined_web):=by row_cond sc
theorem agh (T:Txt K mg):Can P w K mg base "_law_joined_web" 5 ["deck"] (spI K (aw6)):=by
 obtain ⟨f,fd,D⟩:=T.d_law_joined_web
 refine D.can (D.fn.ok sc_law_joined_web (fun vs H Q E h=>lenI h fun A ss Z q=>by obtain ⟨rfl,rfl,k⟩:=q;rfl) (fun cdv A outer s H vs Q E x h=>?_))
 have nd:=sc_law_joined_web.nd
 refine ⟨_,(aac (ad6 (aah (ane T) x (aaa (pv 0) aab)) (aho rfl (acj (aak (i:=1) nd rfl (Or.inl rfl)) (acj (aak (i:=2) nd rfl (Or.inl rfl)) agj))))
  (aac (aaq (i:=3) nd rfl (Or.inl rfl) (aah (agg T) x (aaa (ab1 (aaa (pv 1) (aaa (pv 2) aab))) aab)))
  (aac (aaq (i:=4) nd rfl (Or.inl rfl) (acv (ap0 rfl x.units) (by rfl) T.b_dict anr (aaa (acg rfl (N:=["tie"]) (src:=[none]) (by exact aa9 rfl rfl rfl rfl rfl rfl) (aa5 (pv 2)) (fun _ _ _ _=>(aak (i:=0) (show List.Nodup (["tie"]:List Str) by decide +kernel) rfl (Or.inl rfl) (hf:=Or.inr rfl))) (fun _ _ _ _=>abd) (fun _ _ _ _=>(ab1 (aaa (pv 0) (aaa abi aab))))) aab)))
  (aac (abc aJ1 rfl (adt rfl T.b_range (aaa aae (aaa (pv 1) aab))) (aak (i:=5) nd rfl (Or.inl rfl))
   (aag (aa8 (aqa (ajj (acq x) (pv 5) (aao aap (pv 3) aae (fun _ _=>rfl))))
     (aag (ae3 (acq x) (pv 4) (ab1 (aaa aae (aaa (pv 5) aab))) abi rfl))
     aaz)))
  (aag (aat (ab1 (aaa (pv 1) (aaa (aai (aey rfl) (by rfl) T.b_sorted aeq (aaa (pv 4) aab)) aab))))))))),?_⟩
 refine api h fun A0 ss Z q B hK=>?_
 obtain ⟨rfl,rfl,k⟩:=q
 show EvS B _ _ [some (.io ODk),none,none,none,none,none]
 row_cond go
 refine ⟨rfl,rfl,fun n es L O l W=>?_⟩
 row_cond go
 refine ⟨n,es,rfl,L,by omega,l,by omega,fun ess y=>acx aef ?_⟩
 obtain ⟨fs,o⟩:∃ fs,ess[(0:Int).toNat]?=some fs:=⟨_,aA0 (by have:=y.len;simp;omega)⟩
 have M:=y.row 0 fs (by omega) o
 have a0:atI (ess.map abj) 0=some (abj fs):=ame (f:=abj) (adp (by omega) o)
 have J:fs ≠ []:=M.ne (Gr.farO_self (T:=Tied es) (a:=0))
 row_cond go
 refine ar5 ?_
 row_cond go
 refine ⟨es,rfl,by omega,?_⟩
 row_cond go
 refine abx (fun i e=>∃ I ps,e=[some (.io ODk),some (.st (.int n)),some (.st (.list (es.map prD))),some (.st (.list (ess.map abj))),some (.own (OT (kE ps))),I]/\InN n ps/\ps.length<=1900+i/\(∀ p∈es,p∈ps)/\∀ v:Int,1<=v->v < 1+(i:Int)->Gr.farO (Tied es) 0 v=none->(0,v)∈ps)
  ⟨_,_,rfl,fun p g=>l p ((addAll_mem.mp g).resolve_left (by simp)),by have:=aij (es:=es) (ps:=[]);simp at this;omega,fun p g=>addAll_mem.mpr (.inr g),fun v h1 h2=>by omega⟩ ?_ ?_
 ·rintro i e hi j
  refine exS2 e j fun I ps b=>?_
  have C:=b.1
  have S:=b.2.1
  have m:=b.2.2.1
  have c:=b.2.2.2
  clear b j
  have Y:(kE ps).length<=999999:=by rw [adz];omega
  have F:1+(i:Int) < n:=by omega
  row_cond go
  refine apw ?_
  row_cond go
  refine ⟨fs,.inl (1+(i:Int)),rfl,J,rfl,?_⟩
  rw [M.val]
  row_cond go
  cases hf:Gr.farO (Tied es) 0 (1+(i:Int)) with
  | none =>
   refine ab9 ?_
   row_cond go
   rw [af9]
   refine ⟨_,_,rfl,ag0 C (by omega) (by omega) (by omega) F,by have:=aeg (ps:=ps) (p:=(0,1+(i:Int)));omega,fun p g=>addP_mem.mpr (.inl (m p g)),fun v z X r=>addP_mem.mpr ?_⟩
   by_cases hvi:v=1+(i:Int)
   ·exact .inr (by rw [hvi])
   ·exact .inl (c v z (by omega) r)
  | some d =>
   refine ada ?_
   row_cond go
   refine ⟨_,_,rfl,C,by omega,m,fun v z X r=>?_⟩
   by_cases hvi:v=1+(i:Int)
   ·rw [hvi,hf] at r;cases r
   ·exact c v z (by omega) r
 ·rintro e j
  refine exS2 e j fun I ps b=>?_
  have C:=b.1
  have S:=b.2.1
  have m:=b.2.2.1
  have c:=b.2.2.2
  clear b j
  iterate 6 row_cond st
  refine abv (afm (.inl rfl) fun qs g hs=>adc ?_)
  row_cond go
  have R:∀ u v,Tied es u v->Tied qs u v:=fun u v h=>by
   rcases h with h | h
   ·exact .inl (g.mem_iff.mpr (m _ h))
   ·exact .inr (g.mem_iff.mpr (m _ h))
  refine k n qs L O (fun p G=>C p (g.mem_iff.mp G)) (by rw [g.length_eq];omega) fun v v0 z=>?_
  cases hf:Gr.farO (Tied es) 0 v with
  | some d =>
   obtain ⟨U,_⟩:=Gr.farO_some.mp hf
   obtain ⟨d',_,hd⟩:=Gr.Dist.of_walk (asc R U)
   exact ⟨d',hd⟩
  | none =>
   by_cases hv0:v=0
   ·rw [hv0];exact ⟨0,Gr.Dist.self _ _⟩
   ·have:=c v (by omega) (by omega) hf
    obtain ⟨d',_,hd⟩:=Gr.Dist.of_walk (.step .refl (show Tied qs 0 v from .inl (g.mem_iff.mpr this)))
    exact ⟨d',hd⟩
end
theorem aej {n:Int} {es:List (Int × Int)} (b:Joined n es) {u v:Int} (f:0<=u) (a:u < n) (v0:0<=v) (c:v < n):0<=dsF es u v/\Gr.Dist (Tied es) u v (dsF es u v).toNat:=by
 obtain ⟨d,e⟩:=afn b f a v0 c
 simp only [dsF,e,Option.getD_some]
 exact ⟨by omega,by rw [show ((d:Nat):Int).toNat=d by omega];exact Gr.farO_some.mp e⟩
theorem asd {es:List (Int × Int)} {u v:Int} {d:Nat} (h:Gr.Dist (Tied es) u v d):dsF es u v=d:=by
 simp only [dsF,Gr.farO_some.mpr h,Option.getD_some]
theorem at9 {n:Int} {es:List (Int × Int)} (d:Joined n es) (b:InN n es) {u v w:Int} (f:0<=u) (c:u < n) (t:Tied es v w):dsF es u w<=dsF es u v+1:=by
 have a:=t.in b
 have h:=aej d f c a.1.1 a.1.2
 have g:=aej d f c a.2.1 a.2.2
 have:=g.2.2 _ (.step h.2.1 t)
 omega
theorem amx (es:List (Int × Int)) (u:Int):dsF es u u=0:=by rw [asd (Gr.Dist.self _ u)];rfl
theorem amy (es:List (Int × Int)) (u v:Int):dsF es u v=dsF es v u:=by unfold dsF;rw [Gr.farO_comm fun _ _ t=>t.symm]
theorem aot {n:Int} {es:List (Int × Int)} (b:Joined n es) {u v:Int} (d:0<=u) (a:u < n) (v0:0<=v) (c:v < n) (h:dsF es u v<=0):u=v:=by
 obtain ⟨f,hd⟩:=aej b d a v0 c
 rw [show (dsF es u v).toNat=0 by omega] at hd
 cases hd.1
 rfl
theorem aw7 {n:Int} {es:List (Int × Int)} (c:Joined n es) (a:InN n es) {u v:Int} (j:0<=u) (i:u < n) (v0:0<=v) (f:v < n) (h:u ≠ v):∃ p,0<=p/\p < n/\Tied es u p/\dsF es p v=dsF es u v - 1:=by
 obtain ⟨s,hd⟩:=aej c v0 f j i
 obtain ⟨k,m⟩:∃ k,(dsF es v u).toNat=k+1:=by
  cases e:(dsF es v u).toNat with
  | zero=>exact absurd (aot c v0 f j i (by omega)).symm h
  | succ k=>exact ⟨k,rfl⟩
 rw [m] at hd
 have b:=hd.1
 cases b with
 | @step _ p _ b t =>
  have x:=t.in a
  obtain ⟨d,l,g⟩:=Gr.Dist.of_walk b
  have r:=asd g
  have q:=at9 c a v0 f t
  have w:=amy es v p
  have o:=amy es v u
  exact ⟨p,by omega,by omega,t.symm,by omega⟩
theorem aw8 {n:Nat} {m a:Int->Int->Int} (h:matD n m=matD n a) {u v:Int} (f:0<=u) (c:u < n) (v0:0<=v) (d:v < n):m u v=a u v:=by
 have g:=ad0 (m:=m) f c
 rw [h,ad0 f c] at g
 have i:rowD n (a u)=rowD n (m u):=PyData.list.inj (aC5 g)
 have b:=aei (r:=m u) v0 d
 rw [← i,aei v0 d] at b
 exact (PyData.int.inj (aC5 b)).symm
theorem aj2 {n d:Int} {es:List (Int × Int)} {m:Int->Int->Int} (i:Joined n es) (j:InN n es) (hm:matD n.toNat (dsF es)=matD n.toNat m) (w:1<=n):aop n es d m ↔ ∀ u v:Int,0<=u->u < n->0<=v->v < n->dsF es u v<=d:=by
 have e:∀ u v:Int,0<=u->u < n->0<=v->v < n->dsF es u v=m u v:=fun u v g l v0 o=>aw8 hm g (by omega) v0 (by omega)
 constructor
 ·intro h u v g l v0 o
  have r:=h.2 u v g l v0 o
  have x:=e u v g l v0 o
  by_cases z:u=v
  ·have:=r.1 z
   have:=h.1
   omega
  ·have:=(r.2 z).2.1
   omega
 ·intro h
  refine ⟨?_,fun a b a0 f b0 c=>⟨fun z=>?_,fun z=>?_⟩⟩
  ·have:=h 0 0 (by omega) (by omega) (by omega) (by omega)
   rw [amx] at this
   exact this
  ·rw [← e a b a0 f b0 c,z,amx]
  ·obtain ⟨p,p0,s,t,ep⟩:=aw7 i j a0 f b0 c z
   rw [← e a b a0 f b0 c]
   refine ⟨?_,h a b a0 f b0 c,p,t,by rw [← e p b p0 s b0 c];exact ep⟩
   have y:=(aej i a0 f b0 c).1
   by_cases q:1<=dsF es a b
   ·exact q
   ·exact absurd (aot i a0 f b0 c (by omega)) z
theorem aua (ps:List Int) (u:Int):((ps.map PyData.int).any fun z=>PyData.eqv z (.int u))=decide (u∈ps):=by
 rw [aH4,aE9,decide_eq_true_iff]
 constructor
 ·rintro ⟨d,hd,e⟩
  obtain ⟨x,a,rfl⟩:=aB6.mp hd
  simp [PyData.eqv] at e
  exact e ▸ a
 ·intro h
  exact ⟨.int u,aB6.mpr ⟨u,h,rfl⟩,by simp [PyData.eqv]⟩
theorem webP (n:Int) (es:List (Int × Int)):aas (webD n es)=true:=by
 have:=apu es
 simp only [webD,aas,plainDs,this,Bool.and_self]
theorem a0b (n:Int) (es:List (Int × Int)):(webD n es).depth<=60:=by
 have h:PyData.depthAll (es.map prD)<=1:=adq fun d hd=>by
  obtain ⟨p,_,rfl⟩:=aB6.mp hd
  exact art p
 simp only [webD,PyData.depth,PyData.depthAll]
 omega
theorem ase {α:Type} (xs:List α) (f : α->PyData) (d : α):xs.map f=(List.range xs.length).map fun i=>f (xs.getD i d):=by
 refine aF8 fun i=>?_
 rw [aA5,aA5]
 by_cases hi:i < xs.length
 ·rw [aD6 hi,aA0 hi,aH8,aH8,aD2,aA0 hi]
  rfl
 ·rw [aD9 (by omega),aD9 (by simp;omega)]
  rfl
theorem FarD.vals {n:Int} {f:Int->Option Nat} {fs:List (Key × PyData)} (h:FarD n f fs):∃ ns:List Int,fs.map (·.2)=ns.map .int/\∀ x:Int,x∈ns ↔ ∃ (v:Int) (j:Nat),0<=v/\v < n/\f v=some j/\x=(j:Int):=by
 refine ⟨fs.map fun p=>match p.2 with | .int i=>i | _=>0,?_,fun x=>?_⟩
 ·rw [aD7]
  refine aE5 fun p a=>?_
  obtain ⟨v,j,_,e,_⟩:=h.mem p.1 p.2 a
  simp only [Function.comp,e]
 ·rw [aB6]
  constructor
  ·rintro ⟨p,a,rfl⟩
   obtain ⟨v,j,_,e,v0,b,hf⟩:=h.mem p.1 p.2 a
   exact ⟨v,j,v0,b,hf,by rw [e]⟩
  ·rintro ⟨v,j,_,_,hf,rfl⟩
   exact ⟨_,h.all v j hf,rfl⟩
theorem amz (ns:List Int):aas (.list (ns.map .int))=true:=(aco _).mpr fun d hd=>by
 obtain ⟨x,_,rfl⟩:=aB6.mp hd
 rfl
theorem matP (n:Nat) (m:Int->Int->Int):aas (.list (matD n m))=true:=(aco _).mpr fun d hd=>by
 unfold matD at hd
 obtain ⟨u,_,rfl⟩:=aB6.mp hd
 rw [adn]
 exact amz _
theorem ap5 (ns:List Int):(PyData.list (ns.map PyData.int)).depth<=2:=by
 have h:PyData.depthAll (ns.map PyData.int)<=1:=adq fun d hd=>by
  obtain ⟨x,_,rfl⟩:=aB6.mp hd
  simp [PyData.depth]
 simp only [PyData.depth]
 omega
def aw9:VP:=fun ss Q=>∃ (n:Nat) (m:Int->Int->Int),ss=[.st (.list (matD n m))]/\n<=100/\Q (.st (.bool true))
def a0c:VP:=fun ss Q=>∃ (n x:Int) (es:List (Int × Int)),ss=[.st (webD n es),.st (.int x),.st (.list (matD n.toNat (dsF es)))]/\1<=n/\n<=100/\InN n es/\es.length<=10000/\Joined n es/\auv n.toNat (dsF es) x/\Q (.st (.bool true))
section
variable {P:Program} {w:World} {K:Frag} {mg:Str->Option Value} {base:Heap}
theorem sc_law_is_table:FnScope ["found","row"] ["found"] (aal s_law_is_table):=by row_cond sc
theorem ahn (T:Txt K mg):Can P w K mg base "_law_is_table" 1 ["found"] (spP K (aw9)):=by
 obtain ⟨f,fd,D⟩:=T.d_law_is_table
 refine D.can (D.fn.ok sc_law_is_table (fun vs H Q E h=>lenP h fun ss p q=>by obtain ⟨n,m,rfl,l,k⟩:=q;rfl) (fun cdv A outer s H vs Q E d h=>?_))
 have nd:=sc_law_is_table.nd
 refine ⟨_,(aac (aa8 (PW.pt (afc (acd (aci (aai act (by rfl) T.b_isinstance abu (aaa (pv 0) (aaa (adi (v:=.ty "list") rfl T.b_list adk rfl) aab))))) (ad5 (aay (aee d.units) (acg rfl (N:=["row"]) (src:=[none]) (by exact aa9 rfl rfl rfl rfl rfl rfl) (aa5 (pv 0)) (fun _ _ _ _=>(aak (i:=0) (show List.Nodup (["row"]:List Str) by decide +kernel) rfl (Or.inl rfl) (hf:=Or.inr rfl))) (fun _ _ _ _=>aim (acd (aci (aai (show aa1 _ (.builtin "isinstance") (rIsi K) from act) (by rfl) T.b_isinstance abu (aaa (pv 0) (aaa (adi (v:=.ty "list") rfl T.b_list adk rfl) aab)))))) (fun _ _ _ _=>(pv 0))) (aa2 aab) (aa0 _)))))
   (aag (aat abi))
   aaz)
  (aac (abc aJ1 rfl (aa5 (pv 0)) (aak (i:=1) nd rfl (Or.inl rfl))
   (aag (aa8 (aay (aee d.units) (acg rfl (N:=["number"]) (src:=[none]) (by exact aa9 rfl rfl rfl rfl rfl rfl) (aa5 (pv 1)) (fun _ _ _ _=>(aak (i:=0) (show List.Nodup (["number"]:List Str) by decide +kernel) rfl (Or.inl rfl) (hf:=Or.inr rfl))) (fun _ _ _ _=>aim (PW.pt (afc (acd (aci (aai (show aa1 _ (.builtin "isinstance") (rIsi K) from act) (by rfl) T.b_isinstance abu (aaa (pv 0) (aaa (adi (v:=.ty "int") rfl T.b_int aln rfl) aab))))) (ad5 (aci (aai (show aa1 _ (.builtin "isinstance") (rIsi K) from act) (by rfl) T.b_isinstance abu (aaa (pv 0) (aaa (adi (v:=.ty "bool") rfl T.b_bool ans rfl) aab)))))))) (fun _ _ _ _=>(pv 0))) (aa2 aab) (aa0 _))
     (aag (aat abi))
     aaz)))
  (aag (aat abi)))),?_⟩
 refine abr h fun ss p q B x=>?_
 refine exS2 ss q fun n m b=>?_
 have l:=b.1
 have k:=b.2
 clear b q
 show EvS B _ _ [some (.st (.list (matD n m))),none]
 row_cond go
 refine aiv ?_
 row_cond go
 unfold matD
 refine aga (fun u:Nat=>PyData.list (rowD n (m (u:Int)))) (fun _=>false) rfl (by simp;omega) (fun u g j r=>?_) ?_
 ·row_cond go
  exact fun z=>nomatch z
 ·rw [show ((List.range n).filter fun _=>false).map (fun u:Nat=>PyData.list (rowD n (m (u:Int))))=[] by simp]
  row_cond go
  refine adm rfl rfl (by decide) ?_
  row_cond go
  rw [aF2 (show ¬ ((!(PyData.list []).eqv (PyData.list []))=true) from aA9)]
  row_cond go
  refine acl (xs:=List.range n) (f:=fun u:Nat=>PyData.list (rowD n (m (u:Int)))) (fun i e=>∃ c,e=[some (.st (.list (matD n m))),c]) ⟨_,rfl⟩ ?_ ?_
  ·rintro i u e g a
   refine exE1 e a fun c=>?_
   clear a
   row_cond go
   rw [adn]
   refine aga (f:=PyData.int) (fun o:Int=>PyData.int o) (fun _=>false) rfl (by simp;omega) (fun o y j r=>?_) ?_
   ·row_cond go
    rw [aF2 (show ¬ ((!isiD "int" (PyData.int o))=true) from aA9)]
    row_cond go
    exact fun z=>nomatch z
   ·rw [show ∀ xs:List Int,(xs.filter fun _=>false).map (fun o:Int=>PyData.int o)=[] by simp]
    row_cond go
    refine adm rfl rfl (by decide) ?_
    row_cond go
    rw [aF2 (show ¬ ((!(PyData.list []).eqv (PyData.list []))=true) from aA9)]
    row_cond go
    exact ⟨_,rfl⟩
  ·rintro e a
   refine exE1 e a fun c=>?_
   clear a
   row_cond go
   exact k
theorem sc_law_shows:FnScope ["web","d","paper","n","tied","a","b","down"] ["web","d","paper"] (aal s_law_shows):=by row_cond sc
theorem akl (T:Txt K mg):Can P w K mg base "_law_shows" 2 ["web","d","paper"] (spP K (a0c)):=by
 obtain ⟨f,fd,D⟩:=T.d_law_shows
 refine D.can (D.fn.ok sc_law_shows (fun vs H Q E h=>lenP h fun ss Q' q=>by obtain ⟨n,x,es,rfl,n0,n1,y,L,Z,hx,k⟩:=q;rfl) (fun cdv A outer s H vs Q E R h=>?_))
 have nd:=sc_law_shows.nd
 refine ⟨_,(aac (aaq (i:=3) nd rfl (Or.inr rfl) (aao aap (pv 0) aae (fun _ _=>rfl)))
  (aac (aa8 (PW.pt (afc (aay agl (aai abq (by rfl) T.b_len ace (aaa (pv 2) aab)) (pv 3) (aa0 _)) (ad5 (aay (aee R.units) (acg rfl (N:=["row","n"]) (src:=[none,some 3]) (by exact aa9 rfl rfl rfl rfl rfl rfl) (aa5 (pv 2)) (fun _ _ _ _=>(aak (i:=0) (show List.Nodup (["row","n"]:List Str) by decide +kernel) rfl (Or.inl rfl) (hf:=Or.inr rfl))) (fun _ _ _ _=>aim (aay agl (aai (show aa1 _ (.builtin "len") (rLen K) from abq) (by rfl) T.b_len ace (aaa (pv 0) aab)) (pv 1) (aa0 _))) (fun _ _ _ _=>(pv 0))) (aa2 aab) (aa0 _)))))
   (aag (aat abi))
   aaz)
  (aac (aaq (i:=4) nd rfl (Or.inl rfl) (aah (agf T) R (aaa (pv 0) aab)))
  (aac (abc aJ1 rfl (aa6 rfl T.b_range (aaa (pv 3) aab)) (aak (i:=5) nd rfl (Or.inl rfl))
   (aag (abc aJ1 rfl (aa6 rfl T.b_range (aaa (pv 3) aab)) (aak (i:=6) nd rfl (Or.inr rfl))
     (aac (aa8 (PW.pt (afu (aay aek (pv 5) (pv 6) (aa0 _)) (aez (aay agl (aao aap (aao aap (pv 2) (pv 5) (fun _ _=>rfl)) (pv 6) (fun _ _=>rfl)) aae (aa0 _)))))
       (aag (aat abi))
       aaz)
      (aac (aa8 (PW.pt (afu (aay agl (pv 5) (pv 6) (aa0 _)) (aez (acd (ak6 agm agm aae (aao aap (aao aap (pv 2) (pv 5) (fun _ _=>rfl)) (pv 6) (fun _ _=>rfl)) (pv 1))))))
       (aag (aat abi))
       aaz)
      (aac (alj (i:=7) nd rfl (Or.inl rfl) rfl (N:=["other","b","paper"]) (src:=[none,some 6,some 2]) (by exact aa9 rfl rfl rfl rfl rfl rfl) (aa5 (ago (acq R) (pv 4) (pv 5) (fun _ _=>rfl))) (fun _ _ _ _=>(aak (i:=0) (show List.Nodup (["other","b","paper"]:List Str) by decide +kernel) rfl (Or.inl rfl) (hf:=Or.inr rfl))) (fun _ _ _ _=>abd) (fun _ _ _ _=>(aao (show IxR _ (acb K) from aap) (aao (show IxR _ (acb K) from aap) (pv 2) (pv 0) (fun _ _=>rfl)) (pv 1) (fun _ _=>rfl))))
      (aag (aa8 (PW.pt (afu (aay agl (pv 5) (pv 6) (aa0 _)) (aez (aay (ajo R.units) (aau ad8 (aao aap (aao aap (pv 2) (pv 5) (fun _ _=>rfl)) (pv 6) (fun _ _=>rfl)) aae) (pv 7) rfl))))
       (aag (aat abi))
       aaz))))))))
  (aag (aat abi)))))),?_⟩
 refine abr h fun ss Q' q B hK=>?_
 refine exS3 ss q fun n x es g=>?_
 have n0:=g.1
 have n1:=g.2.1
 have y:=g.2.2.1
 have L:=g.2.2.2.1
 have Z:=g.2.2.2.2.1
 have hx:=g.2.2.2.2.2.1
 have k:=g.2.2.2.2.2.2
 clear g q
 show EvS B _ _ [some (.st (webD n es)),some (.st (.int x)),some (.st (.list (matD n.toNat (dsF es)))),none,none,none,none,none]
 have hP:=(aj2 (d:=x) Z y rfl n0).mpr fun u v u0 u1 v0 v1=>hx.2 u v u0 (by omega) v0 (by omega)
 have a3:((matD n.toNat (dsF es)).length:Int)=n:=by rw [agz];omega
 row_cond go
 rw [show matD n.toNat (dsF es)=(List.range n.toNat).map fun u:Nat=>PyData.list (rowD n.toNat (dsF es (u:Int))) from rfl]
 refine aga (fun u:Nat=>PyData.list (rowD n.toNat (dsF es (u:Int)))) (fun _=>false) rfl (by simp;omega) (fun u hu B' hB=>?_) ?_
 ·have Y:((rowD n.toNat (dsF es (u:Int))).length:Int)=n:=by unfold rowD;rw [aA3,aD8];omega
  row_cond go
  rw [Y,aD5 rfl]
  exact ⟨rfl,rfl,fun z=>nomatch z⟩
 ·rw [show ((List.range n.toNat).filter fun _=>false).map (fun u:Nat=>PyData.list (rowD n.toNat (dsF es (u:Int))))=[] by simp]
  row_cond go
  refine adm rfl rfl (by decide) ?_
  row_cond go
  rw [aF2 (show ¬ ((!(PyData.list []).eqv (PyData.list []))=true) from aA9)]
  row_cond go
  refine ⟨n,es,rfl,by omega,n1,y,L,fun tl ht S=>acx aok ?_⟩
  have M:(tlD tl).map PyData.list ≠ []:=fun e=>by
   have:=ht.1
   have X:=congrArg List.length e
   simp [tlD] at X
   rw [X] at this
   simp at this
   omega
  have I:∀ p:Int,0<=p->p < n->∃ C:List Int,valD (kvD ((tlD tl).map PyData.list)) (.inl p)=some (.list (C.map .int))/\(∀ u,u∈C ↔ Tied es p u)/\C.length<=20000:=fun p p0 p1=>by
   obtain ⟨C,l,O⟩:=ht.get p0 p1
   exact ⟨C,aoj p0 (by rw [aA5,acw l];rfl),O,S C (aA2 l)⟩
  row_cond go
  refine abx (fun i e=>∃ W F J,e=[some (.st (webD n es)),some (.st (.int x)),some (.st (.list (matD n.toNat (dsF es)))),some (.st (.int n)),some (.st (abj (kvD ((tlD tl).map PyData.list)))),W,F,J]) ⟨_,_,_,rfl⟩ ?_ ?_
  ·rintro i e hi c
   refine exE3 e c fun W F J=>?_
   clear c
   row_cond go
   refine abx (fun j e=>∃ F J,e=[some (.st (webD n es)),some (.st (.int x)),some (.st (.list (matD n.toNat (dsF es)))),some (.st (.int n)),some (.st (abj (kvD ((tlD tl).map PyData.list)))),some (.st (.int (0+(i:Int)))),F,J]) ⟨_,_,rfl⟩ ?_ ?_
   ·rintro j e hj c
    refine exE2 e c fun F J=>?_
    clear c
    obtain ⟨a,ha,a0,a1⟩:∃ a,0+(i:Int)=a/\0<=a/\a < n:=⟨_,rfl,by omega,by omega⟩
    obtain ⟨b,hb,b0,b1⟩:∃ b,0+(j:Int)=b/\0<=b/\b < n:=⟨_,rfl,by omega,by omega⟩
    rw [ha,hb]
    have hH:=hP.2 a b a0 a1 b0 b1
    have q1:=ad0 (n:=n.toNat) (m:=dsF es) (x:=a) a0 (by omega)
    have q2:=aei (n:=n.toNat) (r:=dsF es a) (x:=b) b0 (by omega)
    obtain ⟨C,l,O,a2⟩:=I a a0 a1
    by_cases hab:a=b
    ·have h0:=hH.1 hab
     repeat (first | (refine ahl ?_) | row_cond st)
     refine ⟨kvD ((tlD tl).map PyData.list),.inl a,_,rfl,amo M,rfl,l,?_⟩
     row_cond go
     refine acu (fun o:Int => .int (dsF es o b)) rfl (by omega) (fun o U B' hB=>?_) ?_
     ·have G:=(((O o).mp U).in y).2
      have q3:=ad0 (n:=n.toNat) (m:=dsF es) (x:=o) G.1 (by omega)
      have q4:=aei (n:=n.toNat) (r:=dsF es o) (x:=b) b0 (by omega)
      row_cond go
      exact rfl
     ·row_cond go
      exact ⟨_,_,rfl⟩
    ·obtain ⟨h1,X,p,tp,hp⟩:=hH.2 hab
     repeat (first | (refine ahl ?_) | row_cond st)
     refine ⟨kvD ((tlD tl).map PyData.list),.inl a,_,rfl,amo M,rfl,l,?_⟩
     row_cond go
     refine acu (fun o:Int => .int (dsF es o b)) rfl (by omega) (fun o U B' hB=>?_) ?_
     ·have G:=(((O o).mp U).in y).2
      have q3:=ad0 (n:=n.toNat) (m:=dsF es) (x:=o) G.1 (by omega)
      have q4:=aei (n:=n.toNat) (r:=dsF es o) (x:=b) b0 (by omega)
      row_cond go
      exact rfl
     ·rw [show (C.map fun o:Int=>PyData.int (dsF es o b))=(C.map fun o=>dsF es o b).map PyData.int by rw [aD7];rfl]
      row_cond go
      refine an4 rfl (amz _) (by simp [PyData.depth]) ?_
      rw [aF1 rfl,aua,aD5 (aB6.mpr ⟨p,(O p).mpr tp,hp⟩)]
      row_cond go
      exact ⟨_,_,rfl⟩
   ·rintro e c
    refine exE2 e c fun F J=>?_
    clear c
    exact ⟨_,_,_,rfl⟩
  ·rintro e c
   refine exE3 e c fun W F J=>?_
   clear c
   row_cond go
   exact k
end
def ap6 (K:Frag):Sp:=fun vs H Q _=>∃ (a:Addr) (ns:List Int),vs=[.ref a]/\SqL K H a (ns.map V.int)/\ns.length<=63/\∀ H',Q (.bl true) H'
def aux:VP:=fun ss Q=>∃ ns:List Int,ss=[.scr ns]/\ns.length<=63/\Q (.st (.bool true))
theorem aub {K:Frag} {vs:List V} {H:Hp} {Q:VK} {E:XK} (h:ap6 K vs H Q E):spP K aux vs H Q E:=by
 obtain ⟨a,ns,rfl,b,c,k⟩:=h
 refine ⟨H,[.scr ns],fun s=>s=.st (.bool true),Same.refl _,fun a d h=>h,.cons ⟨a,rfl,b⟩ .nil,⟨ns,rfl,c,rfl⟩,fun s e v G' H' Fv o=>?_⟩
 subst e
 have r:=o.ok.1
 cases r
 exact k _
theorem asf (n:Nat) (m:Int->Int->Int):matL n m=((List.range n).map fun (u:Nat)=>(List.range n).map fun (i:Nat)=>m (u:Int) (i:Int)).map fun ns=>ns.map PyData.int:=by
 unfold matL
 rw [aD7]
 exact aE5 fun u _=>adn
def apD (n:Nat) (m:Int->Int->Int) (j:Nat):List (List PyData):=(List.range n).map fun (u:Nat)=>if u < j then rowD n (m (u:Int)) ++ [PyData.int (u:Int)] else rowD n (m (u:Int))
theorem auc (n:Nat) (m:Int->Int->Int):apD n m 0=matL n m:=by
 unfold apD matL
 exact aE5 fun u _=>aF2 (by omega)
theorem ag1 (n:Nat) (m:Int->Int->Int) (j:Nat):(apD n m j).length=n:=by simp [apD]
theorem axa {n:Nat} {m:Int->Int->Int} {j:Nat} (h:j < n):(apD n m j)[j]?=some (rowD n (m (j:Int))):=by
 unfold apD
 rw [aA5,aD6 h,aH8,aF2 (by omega)]
theorem aud {n:Nat} {m:Int->Int->Int} {j:Nat} (h:j < n):(apD n m j).set j (rowD n (m (j:Int)) ++ [PyData.int (j:Int)])=apD n m (j+1):=by
 refine aF8 fun i=>?_
 rw [aD1,ag1]
 by_cases hi:i < n
 ·unfold apD
  rw [aA5,aA5,aD6 hi,aH8,aH8]
  by_cases e:j=i
  ·subst e
   rw [aF1 rfl,aF1 h,aF1 (by omega)]
  ·rw [aF2 e]
   by_cases g:i < j
   ·rw [aF1 g,aF1 (by omega)]
   ·rw [aF2 g,aF2 (by omega)]
 ·rw [aF2 (by omega),aD9 (by rw [ag1];omega),aD9 (by rw [ag1];omega)]
theorem axb (n:Nat) (m:Int->Int->Int):(apD n m n).map PyData.list=(List.range n).map fun (u:Nat)=>PyData.list (rowD n (m (u:Int)) ++ [PyData.int (u:Int)]):=by
 unfold apD
 rw [aD7]
 exact aE5 fun u a=>by
  simp only [Function.comp]
  rw [aF1 (aB8.mp a)]
theorem apP (n:Nat) (m:Int->Int->Int):aas (.list ((List.range n).map fun (u:Nat)=>PyData.list (rowD n (m (u:Int)) ++ [PyData.int (u:Int)])))=true:=(aco _).mpr fun d hd=>by
 obtain ⟨u,_,rfl⟩:=aB6.mp hd
 rw [adn,show ∀ xs:List Int,xs.map PyData.int ++ [PyData.int (u:Int)]=(xs ++ [(u:Int)]).map PyData.int by simp]
 exact amz _
theorem am0 {ds:List PyData} (h:∀ d∈ds,∃ ns:List Int,d=.list (ns.map .int)):(PyData.list ds).depth<=60:=by
 have:PyData.depthAll ds<=3:=adq fun d hd=>by
  obtain ⟨ns,rfl⟩:=h d hd
  have:=ap5 ns
  omega
 simp only [PyData.depth]
 omega
section
variable {P:Program} {w:World} {K:Frag} {mg:Str->Option Value} {base:Heap}
theorem sc_law:FnScope ["script","deck","k","web","handed","far","found","kept","at"] ["script"] (aal s_law):=by row_cond sc
theorem axc (T:Txt K mg) {f:Addr} {fd:FuncData} (D:DefAt K mg "law" s_law ["script"] f fd):FnOk P w K mg base CX0 12 f fd ["script"] (spP K (aux)):=by
 refine D.fn.ok sc_law (fun vs H Q E h=>lenP h fun ss Q' q=>by obtain ⟨ns,rfl,R,kk⟩:=q;rfl) (fun cdv A outer s H vs Q E g h=>?_)
 have nd:=sc_law.nd
 refine ⟨_,(aac (aaq (i:=1) nd rfl (Or.inl rfl) (aah (amu T) g (aaa (pv 0) aab)))
  (aac (abc aJ1 rfl (aa6 rfl T.b_range (aaa aae aab)) (aak (i:=2) nd rfl (Or.inl rfl))
   (aac (aaq (i:=3) nd rfl (Or.inl rfl) (aah (agh T) g (aaa (pv 1) aab)))
    (aac (aaq (i:=4) nd rfl (Or.inl rfl) (ab1 (aaa (aao aap (pv 3) aae (fun _ _=>rfl)) (aaa (acv aib (by rfl) T.b_list adk (aaa (aao aap (pv 3) aae (fun _ _=>rfl)) aab)) aab))))
    (aac (aaq (i:=5) nd rfl (Or.inl rfl) (aai (af3 rfl) (by rfl) T.b_max adu (aaa (acg rfl (N:=["fars"]) (src:=[none]) (by exact aa9 rfl rfl rfl rfl rfl rfl) (aa5 (aah (agg T) g (aaa (pv 3) aab))) (fun _ _ _ _=>(aak (i:=0) (show List.Nodup (["fars"]:List Str) by decide +kernel) rfl (Or.inl rfl) (hf:=Or.inr rfl))) (fun _ _ _ _=>abd) (fun _ _ _ _=>(aai (show aa1 _ (.builtin "max") (agr K) from (af3 rfl)) (by rfl) T.b_max adu (aaa (acv (show aa1 _ (.type "list") amp from ap2 rfl) (by rfl) T.b_list adk (aaa (show PE _ _ (tBM0 K "dict" ap1 _) from axp PySem.F.plainAttrs_dict PySem.F.slot_dict_values PySem.F.type_dict_values aws (pv 0)) aab)) aab)))) aab)))
    (aac (aaq (i:=6) nd rfl (Or.inl rfl) (aah (afr T) g (aaa (pv 4) aab)))
    (aac (aa8 (PW.pt (afc (acd (aci (aah (ahn T) g (aaa (pv 6) aab)))) (ad5 (acd (aci (aah (akl T) g (aaa (pv 3) (aaa (pv 5) (aaa (pv 6) aab)))))))))
     (aag (aat abi))
     aaz)
    (aac (aa8 (aay awt (aah (akk T) g (aaa (pv 4) (aaa (pv 5) (aaa (pv 6) aab)))) abi (aa0 _))
     (aag (aat abi))
     aaz)
    (aac (aaq (i:=7) nd rfl (Or.inr rfl) (acg rfl (N:=["row"]) (src:=[none]) (by exact aa9 rfl rfl rfl rfl rfl rfl) (aa5 (pv 6)) (fun _ _ _ _=>(aak (i:=0) (show List.Nodup (["row"]:List Str) by decide +kernel) rfl (Or.inl rfl) (hf:=Or.inr rfl))) (fun _ _ _ _=>abd) (fun _ _ _ _=>(acv (show aa1 _ (.type "list") (aia K) from aib) (by rfl) T.b_list adk (aaa (pv 0) aab)))))
    (aac (abc aJ1 rfl (aa6 rfl T.b_range (aaa (aai abq (by rfl) T.b_len ace (aaa (pv 6) aab)) aab)) (aak (i:=8) nd rfl (Or.inl rfl))
     (aag (abk (acp PySem.F.plainAttrs_list PySem.F.slot_list_append PySem.F.type_list_append abh (aao aap (pv 6) (pv 8) (fun _ _=>rfl)) (aaa (pv 8) aab)))))
    (aac (aa8 (aay (aee g.units) (pv 6) (acg rfl (N:=["at","kept"]) (src:=[none,some 7]) (by exact aa9 rfl rfl rfl rfl rfl rfl) (aa6 rfl T.b_range (aaa (aai abq (by rfl) T.b_len ace (aaa (pv 7) aab)) aab)) (fun _ _ _ _=>(aak (i:=0) (show List.Nodup (["at","kept"]:List Str) by decide +kernel) rfl (Or.inl rfl) (hf:=Or.inr rfl))) (fun _ _ _ _=>abd) (fun _ _ _ _=>(aau aqp (aao (show IxR _ (acb K) from aap) (pv 1) (pv 0) (fun _ _=>rfl)) (aa2 (aaa (pv 0) aab))))) (aa0 _))
     (aag (aat abi))
     aaz)
    (aag (aa8 (PW.pt (afc (aay (aee g.units) (aah (afr T) g (aaa (pv 4) aab)) (pv 7) (aa0 _)) (ad5 (aay (aee g.units) (pv 4) (pv 3) (aa0 _)))))
     (aag (aat abi))
     aaz))))))))))))
  (aag (aat abi)))),?_⟩
 refine abr h fun ss Q' q B hK=>?_
 refine exS1 ss q fun ns C=>?_
 have R:=C.1
 have kk:=C.2
 clear C q
 show EvS B _ _ [some (.scr ns),none,none,none,none,none,none,none,none]
 row_cond go
 refine ⟨ns,rfl,R,?_⟩
 row_cond go
 refine abx (fun i e=>∃ v2 v3 v4 v5 Z v7 p,e=[some (.scr ns),some (.own ODk),v2,v3,v4,v5,Z,v7,p]) ⟨_,_,_,_,_,_,_,rfl⟩ ?_ ?_
 ·rintro i e hi b
  refine exE7 e b fun v2 v3 v4 v5 Z v7 p=>?_
  clear b
  row_cond go
  refine ⟨rfl,rfl,fun n es J n1 c hL I=>?_⟩
  have hn:1<=n.toNat:=by omega
  row_cond go
  refine ⟨n,es,rfl,J,by omega,c,by omega,fun ess o=>?_⟩
  obtain ⟨U,G⟩:=awx hn (dsF es)
  row_cond go
  rw [ase ess abj [],show ess.length=n.toNat by have:=o.len;omega]
  refine acu (f:=fun u:Nat=>abj (ess.getD u [])) (fun u:Nat => .int (U u)) rfl (by simp;omega) (fun u S L M=>?_) ?_
  ·have W:u < n.toNat:=aB8.mp S
   have a4:ess[((u:Int)).toNat]?=some (ess.getD u []):=by
    rw [Int.toNat_natCast,aD2,aA0 (by have:=o.len;omega)]
    rfl
   have hF:=o.row (u:Int) _ (by omega) a4
   obtain ⟨ms,a2,l⟩:=hF.vals
   have a5:∀ x,ac9 ms x->x=U u:=fun x r=>by
    have a1:ac9 ((List.range n.toNat).map fun (i:Nat)=>dsF es (u:Int) (i:Int)) x:=by
     refine ⟨?_,fun y hy=>?_⟩
     ·obtain ⟨v,j,v0,v1,hf,rfl⟩:=(l x).mp r.1
      refine aB6.mpr ⟨v.toNat,aB8.mpr (by omega),?_⟩
      rw [show ((v.toNat:Nat):Int)=v by omega]
      simp only [dsF,hf,Option.getD_some]
     ·obtain ⟨i,hi,rfl⟩:=aB6.mp hy
      obtain ⟨d,e⟩:=afn I (show 0<=(u:Int) by omega) (by omega) (show 0<=(i:Int) by omega) (by have:=aB8.mp hi;omega)
      refine r.2 _ ((l _).mpr ⟨(i:Int),d,by omega,by have:=aB8.mp hi;omega,e,?_⟩)
      simp only [dsF,e,Option.getD_some]
    exact at5 a1 (G u)
   have O:ms ≠ []:=fun e=>by
    have:=(l ((0:Nat):Int)).mpr ⟨(u:Int),0,by omega,by omega,Gr.farO_self,rfl⟩
    rw [e] at this
    cases this
   refine aup (ahf (abv (ar6 rfl (hF.ne (Gr.farO_self (T:=Tied es) (a:=(u:Int)))) (adc ?_))))
   rw [a2]
   row_cond go
   exact amc O fun x r=>⟨by rw [a5 x r],rfl⟩
  ·rw [show (List.range n.toNat).map (fun u:Nat=>PyData.int (U u))=((List.range n.toNat).map U).map .int by rw [aD7];rfl]
   row_cond go
   refine amc (by simp;omega) fun x r=>?_
   have hT:auv n.toNat (dsF es) x:=by
    refine ⟨?_,fun u v u0 u1 v0 v1=>?_⟩
    ·obtain ⟨u,S,e⟩:=aB6.mp r.1
     obtain ⟨v,hv,e2⟩:=aB6.mp (G u).1
     have:=aB8.mp S
     have:=aB8.mp hv
     exact ⟨(u:Int),(v:Int),by omega,by omega,by omega,by omega,e2.trans e⟩
    ·have h1:=(G u.toNat).2 _ (aB6.mpr ⟨v.toNat,aB8.mpr (by omega),rfl⟩)
     have h2:=r.2 _ (aB6.mpr ⟨u.toNat,aB8.mpr (by omega),rfl⟩)
     rw [show ((u.toNat:Nat):Int)=u by omega,show ((v.toNat:Nat):Int)=v by omega] at h1
     omega
   row_cond go
   refine ⟨n,es,rfl,J,by omega,c,by omega,I,?_⟩
   repeat (first | (refine aeu (i:=6) (.inl rfl) aca fun L M=>?_) | row_cond st)
   refine ⟨n.toNat,dsF es,by rw [agd];rfl,by omega,?_⟩
   repeat (first | (refine aeu (i:=6) (.inl rfl) aca fun L M=>?_) | row_cond st)
   refine ⟨n,x,es,by rw [agd];rfl,J,by omega,c,by omega,I,hT,?_⟩
   repeat (first | (refine aeu (i:=6) (.inl rfl) aca fun L M=>?_) | row_cond st)
   have Y:=ap4 (n:=n) (by omega) (dsF es)
   refine ⟨n,x,es,.list (matD n.toNat (dsF es)),by rw [agd];rfl,J,by omega,c,by omega,I,(fun z=>by rw [Y] at z;cases z),fun m hm bb a6=>?_⟩
   have hP:=(aj2 (d:=x) I c (by injection hm) J).mpr fun u v u0 u1 v0 v1=>hT.2 u v u0 (by omega) v0 (by omega)
   obtain rfl:bb=true:=a6.mpr hP
   row_cond go
   refine atz ?_
   have a3:((matL n.toNat (dsF es)).map PyData.list).length=n.toNat:=by simp [matL]
   repeat (first | (refine ap3 (i:=6) (.inl rfl) aca fun L M=>?_) | (refine aoc ?_) | row_cond st)
   refine ⟨matL n.toNat (dsF es),by rw [aA3],fun j d hd B2 a8=>?_,?_⟩
   ·rw [aA5] at hd
    obtain ⟨xs,X,rfl⟩:=Option.map_eq_some_iff.mp hd
    show EvO B2 _ [some (.st (.list xs))] _
    row_cond go
    exact ⟨xs,X,rfl⟩
   ·refine ⟨_,rfl,by rw [asf];exact aty,acx aca ?_⟩
    rw [agd]
    repeat (first | (refine aeu (i:=6) (.inl rfl) aca fun L M=>?_) | row_cond st)
    rw [a3,show (((n.toNat:Nat):Int)).toNat=n.toNat by omega]
    refine abx (fun j e=>∃ p,e=[some (.scr ns),some (.own ODk),some (.st (.int (0+(i:Int)))),some (.st (webD n es)),some (.st (webD n es)),some (.st (.int x)),some (.own (OLL (apD n.toNat (dsF es) j))),some (.st (.list (matD n.toNat (dsF es)))),p]) ⟨_,by rw [auc]⟩ ?_ ?_
    ·rintro j e hj b
     refine exE1 e b fun p=>?_
     clear b
     have a7:(rowD n.toNat (dsF es (j:Int))).length=n.toNat:=by unfold rowD;rw [aA3,aD8]
     have a0:ixN (apD n.toNat (dsF es) j).length (0+(j:Int))=some j:=by rw [ag1];unfold ixN;rw [aF1 (by omega),aF1 (by omega)];congr 1;omega
     repeat (first | (refine aa7 (afl rfl rfl rfl a0 (axa hj) (by omega) ?_)) | row_cond st)
     rw [show (0:Int)+(j:Int)=(j:Int) by omega,aud hj]
     dsimp only [List.set_cons_zero,List.set_cons_succ]
     exact ⟨_,rfl⟩
    ·rintro e b
     refine exE1 e b fun p=>?_
     clear b
     row_cond go
     rw [agz]
     row_cond go
     rw [show (((n.toNat:Nat):Int)).toNat=n.toNat by omega]
     unfold rngD
     refine acu (fun u:Nat=>PyData.list (rowD n.toNat (dsF es (u:Int)) ++ [PyData.int (u:Int)])) rfl (by simp;omega) (fun u S L M=>?_) ?_
     ·have W:=aB8.mp S
      have a7:(rowD n.toNat (dsF es (u:Int))).length=n.toNat:=by unfold rowD;rw [aA3,aD8]
      have q1:=ad0 (n:=n.toNat) (m:=dsF es) (x:=(u:Int)) (by omega) (by omega)
      rw [aI2]
      row_cond go
      exact rfl
     ·refine ⟨_,_,.inl rfl,aca,?_⟩
      rw [axb]
      refine adm (apP _ _) (apP _ _) (am0 fun d hd=>?_) ?_
      ·obtain ⟨u,_,rfl⟩:=aB6.mp hd
       exact ⟨((List.range n.toNat).map fun (i:Nat)=>dsF es (u:Int) (i:Int)) ++ [(u:Int)],by rw [adn];simp⟩
      rw [ahk (apP _ _)]
      row_cond go
      refine ⟨n,es,rfl,J,by omega,c,by omega,I,ard ?_⟩
      rw [agd]
      row_cond go
      refine adm (matP _ _) (matP _ _) (am0 fun d hd=>?_) ?_
      ·unfold matD at hd
       obtain ⟨u,_,rfl⟩:=aB6.mp hd
       exact ⟨_,by rw [adn]⟩
      rw [ahk (matP _ _)]
      row_cond go
      refine adm (webP n es) (webP n es) (a0b n es) ?_
      rw [ahk (webP n es)]
      row_cond go
      exact ⟨_,_,_,_,_,_,_,rfl⟩
 ·rintro e b
  refine exE7 e b fun v2 v3 v4 v5 Z v7 p=>?_
  clear b
  row_cond go
  exact kk
theorem azg (T:Txt K mg) {f:Addr} {fd:FuncData} (D:DefAt K mg "law" s_law ["script"] f fd):FnOk P w K mg base CX0 12 f fd ["script"] (ap6 K):=(axc T D).imp fun _ _ _ _ h=>aub h
end
theorem len0 {α:Type} {us:List α} (h:us.length=0):us=[]:=aG8 h
theorem len1 {α:Type} {us:List α} (h:us.length=1):∃ a0,us=[a0]:=by
 cases us with
 | nil=>cases h
 | cons a us=>exact ⟨a,by rw [len0 (Nat.succ.inj h)]⟩
theorem len2 {α:Type} {us:List α} (h:us.length=2):∃ a0 b,us=[a0,b]:=by
 cases us with
 | nil=>cases h
 | cons a us=>obtain ⟨b,e⟩:=len1 (Nat.succ.inj h);exact ⟨a,b,by rw [e]⟩
theorem len3 {α:Type} {us:List α} (h:us.length=3):∃ a0 b c,us=[a0,b,c]:=by
 cases us with
 | nil=>cases h
 | cons a us=>obtain ⟨b,c,e⟩:=len2 (Nat.succ.inj h);exact ⟨a,b,c,by rw [e]⟩
theorem len4 {α:Type} {us:List α} (h:us.length=4):∃ a0 c d b,us=[a0,c,d,b]:=by
 cases us with
 | nil=>cases h
 | cons a us=>obtain ⟨c,d,b,e⟩:=len3 (Nat.succ.inj h);exact ⟨a,c,d,b,by rw [e]⟩
theorem len5 {α:Type} {us:List α} (h:us.length=5):∃ a0 c f b d,us=[a0,c,f,b,d]:=by
 cases us with
 | nil=>cases h
 | cons a us=>obtain ⟨c,f,b,d,e⟩:=len4 (Nat.succ.inj h);exact ⟨a,c,f,b,d,by rw [e]⟩
def Bnd (x:Str) (st:Stmt) (ps:List Str):Prop:=∀ (kV doc pm:Value) (an:Option Addr) (cdv ct:Value) (us:List Value),us.length=ps.length->bindArgs (fnOf x x (ab7 st) (aby st) (aal st) .none kV doc pm an cdv ct) ⟨us,[]⟩=pure (ps.zip us)
def FnIn (K:Frag) (x:Str) (st:Stmt):Prop:=∃ f oc od kV dc pm an cd ct sl,nsIn K mainGlobals x=some (some (.ref f))/\K.lookup f=some ⟨oc,od,.func (fnOf x x (ab7 st) (aby st) (aal st) .none kV dc pm an cd ct),sl⟩/\codeIn K cd x=true/\keepIn K (.ref f)=true
theorem fn_in {K:Frag} {x:Str} {st:Stmt} {f:Addr} {od an:Option Addr} {sl:Array (Option Value)} {oc kV d pm b ct:Value} (a:nsIn K mainGlobals x=some (some (.ref f))) (l:K.lookup f=some ⟨oc,od,.func (fnOf x x (ab7 st) (aby st) (aal st) .none kV d pm an b ct),sl⟩) (c:codeIn K b x=true) (k:keepIn K (.ref f)=true):FnIn K x st:=⟨f,oc,od,kV,d,pm,an,b,ct,sl,a,l,c,k⟩
theorem bnd1 {st:Stmt} {x:Str} {ps:List Str} (c:ps.length=1) (h:∀ (kV doc pm:Value) (an:Option Addr) (cdv ct:Value) (b:Value),bindArgs (fnOf x x (ab7 st) (aby st) (aal st) .none kV doc pm an cdv ct) ⟨[b],[]⟩=pure (ps.zip [b])):Bnd x st ps:=by
 intro kV doc pm an cdv ct us a
 rw [c] at a
 obtain ⟨_,rfl⟩:=len1 a
 exact h _ _ _ _ _ _ _
theorem bnd2 {st:Stmt} {x:Str} {ps:List Str} (d:ps.length=2) (h:∀ (kV doc pm:Value) (an:Option Addr) (cdv ct:Value) (b a:Value),bindArgs (fnOf x x (ab7 st) (aby st) (aal st) .none kV doc pm an cdv ct) ⟨[b,a],[]⟩=pure (ps.zip [b,a])):Bnd x st ps:=by
 intro kV doc pm an cdv ct us c
 rw [d] at c
 obtain ⟨_,_,rfl⟩:=len2 c
 exact h _ _ _ _ _ _ _ _
theorem bnd3 {st:Stmt} {x:Str} {ps:List Str} (f:ps.length=3) (h:∀ (kV doc pm:Value) (an:Option Addr) (cdv ct:Value) (b a c:Value),bindArgs (fnOf x x (ab7 st) (aby st) (aal st) .none kV doc pm an cdv ct) ⟨[b,a,c],[]⟩=pure (ps.zip [b,a,c])):Bnd x st ps:=by
 intro kV doc pm an cdv ct us d
 rw [f] at d
 obtain ⟨_,_,_,rfl⟩:=len3 d
 exact h _ _ _ _ _ _ _ _ _
theorem bnd5 {st:Stmt} {x:Str} {ps:List Str} (i:ps.length=5) (h:∀ (kV doc pm:Value) (an:Option Addr) (cdv ct:Value) (c b a d g:Value),bindArgs (fnOf x x (ab7 st) (aby st) (aal st) .none kV doc pm an cdv ct) ⟨[c,b,a,d,g],[]⟩=pure (ps.zip [c,b,a,d,g])):Bnd x st ps:=by
 intro kV doc pm an cdv ct us f
 rw [i] at f
 obtain ⟨_,_,_,_,_,rfl⟩:=len5 f
 exact h _ _ _ _ _ _ _ _ _ _ _
theorem aa3 {K:Frag} {h:Heap} {mg:Str->Option Value} {x:Str} {st:Stmt} {ps:List Str} (X:K.In h) (G:h.Ns mainGlobals mg) (q:FnIn K x st)
  (hb:Bnd x st ps):∃ f fd,DefAt K mg x st ps f fd:=by
 obtain ⟨f,oc,od,kV,b,pm,an,d,ct,sl,a,l,c,k⟩:=q
 exact ⟨_,_,have F:=axs (st:=st) l c k;⟨F,mg_of X G a,F.binds hb⟩⟩
theorem txt_mk {K:Frag} {h:Heap} {mg:Str->Option Value} (X:K.In h) (G:h.Ns mainGlobals mg)
  (P:FnIn K "is_whole" s_is_whole)
  (O:FnIn K "is_between" s_is_between)
  (N:FnIn K "is_place" s_is_place)
  (R:FnIn K "tied_places" s_tied_places)
  (M:FnIn K "far_from" s_far_from)
  (L:FnIn K "need_place" s_need_place)
  (J:FnIn K "all_far" s_all_far)
  (S:FnIn K "is_joined" s_is_joined)
  (Q:FnIn K "need_joined" s_need_joined)
  (T:FnIn K "far_rows" s_far_rows)
  (D:FnIn K "far_paper" s_far_paper)
  (r:FnIn K "far_shows" s_far_shows)
  (B:FnIn K "is_square" s_is_square)
  (s:FnIn K "is_long" s_is_long)
  (H:FnIn K "number_holds" s_number_holds)
  (C:FnIn K "_law_deck" s_law_deck)
  (v:FnIn K "_law_draw" s_law_draw)
  (E:FnIn K "_law_tied" s_law_tied)
  (x:FnIn K "_law_fars" s_law_fars)
  (y:FnIn K "_law_order" s_law_order)
  (w:FnIn K "_law_crowds" s_law_crowds)
  (z:FnIn K "_law_web" s_law_web)
  (u:FnIn K "_law_joined_web" s_law_joined_web)
  (A:FnIn K "_law_shows" s_law_shows)
  (F:FnIn K "_law_is_table" s_law_is_table)
  (I:FnIn K "law" s_law)
  (b:nsIn K mainGlobals "ValueError" = some none)
  (o:nsIn K mainGlobals "all" = some none)
  (n:nsIn K mainGlobals "any" = some none)
  (d:nsIn K mainGlobals "range" = some none)
  (f:nsIn K mainGlobals "dict" = some none)
  (i:nsIn K mainGlobals "list" = some none)
  (a:nsIn K mainGlobals "isinstance" = some none)
  (q:nsIn K mainGlobals "int" = some none)
  (j:nsIn K mainGlobals "len" = some none)
  (l:nsIn K mainGlobals "max" = some none)
  (m:nsIn K mainGlobals "sum" = some none)
  (c:nsIn K mainGlobals "sorted" = some none)
  (g:nsIn K mainGlobals "bool" = some none)
  (p:nsIn K mainGlobals "min" = some none)
  : Txt K mg where
  b_ValueError:=mg_none_of X G b
  b_all:=mg_none_of X G o
  b_any:=mg_none_of X G n
  b_range:=mg_none_of X G d
  b_dict:=mg_none_of X G f
  b_list:=mg_none_of X G i
  b_isinstance:=mg_none_of X G a
  b_int:=mg_none_of X G q
  b_len:=mg_none_of X G j
  b_max:=mg_none_of X G l
  b_sum:=mg_none_of X G m
  b_sorted:=mg_none_of X G c
  b_bool:=mg_none_of X G g
  b_min:=mg_none_of X G p
  d_is_whole:=aa3 X G P (bnd1 rfl fun _ _ _ _ _ _ _=>rfl)
  d_is_between:=aa3 X G O (bnd3 rfl fun _ _ _ _ _ _ _ _ _=>rfl)
  d_is_place:=aa3 X G N (bnd2 rfl fun _ _ _ _ _ _ _ _=>rfl)
  d_tied_places:=aa3 X G R (bnd1 rfl fun _ _ _ _ _ _ _=>rfl)
  d_far_from:=aa3 X G M (bnd2 rfl fun _ _ _ _ _ _ _ _=>rfl)
  d_need_place:=aa3 X G L (bnd2 rfl fun _ _ _ _ _ _ _ _=>rfl)
  d_all_far:=aa3 X G J (bnd2 rfl fun _ _ _ _ _ _ _ _=>rfl)
  d_is_joined:=aa3 X G S (bnd1 rfl fun _ _ _ _ _ _ _=>rfl)
  d_need_joined:=aa3 X G Q (bnd1 rfl fun _ _ _ _ _ _ _=>rfl)
  d_far_rows:=aa3 X G T (bnd1 rfl fun _ _ _ _ _ _ _=>rfl)
  d_far_paper:=aa3 X G D (bnd1 rfl fun _ _ _ _ _ _ _=>rfl)
  d_far_shows:=aa3 X G r (bnd3 rfl fun _ _ _ _ _ _ _ _ _=>rfl)
  d_is_square:=aa3 X G B (bnd2 rfl fun _ _ _ _ _ _ _ _=>rfl)
  d_is_long:=aa3 X G s (bnd2 rfl fun _ _ _ _ _ _ _ _=>rfl)
  d_number_holds:=aa3 X G H (bnd5 rfl fun _ _ _ _ _ _ _ _ _ _ _=>rfl)
  d_law_deck:=aa3 X G C (bnd1 rfl fun _ _ _ _ _ _ _=>rfl)
  d_law_draw:=aa3 X G v (bnd2 rfl fun _ _ _ _ _ _ _ _=>rfl)
  d_law_tied:=aa3 X G E (bnd1 rfl fun _ _ _ _ _ _ _=>rfl)
  d_law_fars:=aa3 X G x (bnd1 rfl fun _ _ _ _ _ _ _=>rfl)
  d_law_order:=aa3 X G y (bnd2 rfl fun _ _ _ _ _ _ _ _=>rfl)
  d_law_crowds:=aa3 X G w (bnd1 rfl fun _ _ _ _ _ _ _=>rfl)
  d_law_web:=aa3 X G z (bnd1 rfl fun _ _ _ _ _ _ _=>rfl)
  d_law_joined_web:=aa3 X G u (bnd1 rfl fun _ _ _ _ _ _ _=>rfl)
  d_law_shows:=aa3 X G A (bnd3 rfl fun _ _ _ _ _ _ _ _ _=>rfl)
  d_law_is_table:=aa3 X G F (bnd1 rfl fun _ _ _ _ _ _ _=>rfl)
  d_law:=aa3 X G I (bnd1 rfl fun _ _ _ _ _ _ _=>rfl)
theorem walk {l:PySem.W.OpenLaw} {q:Program} {b:List Str} {y:(Str->Option Value)->Heap->Prop} {j:World->Heap->Prop} {d:DefRec} {K:Params->Frag} (hn:l.most=some 63) (c:d.params.defaults=[]) (g:d.name = "law")
  (m:∀ (w:World) (h:Heap),j w h->(K w.params).In h)
  (F:∀ (w:World) (mg:Str->Option Value) (h:Heap),(K w.params).In h->h.Ns mainGlobals mg->Txt (K w.params) mg) :
  PySem.W.WalkO q b y j l.row.toRowW d [] (fun f vs=>PySem.call f vs):=by
 refine L2.walk_of (n:=63) (k:=12) (x:="script") (CX:=fun _=>CX0) (sp:=fun w=>ap6 (K w.params)) hn (by decide) c ⟨rfl,by decide,by decide⟩ m (fun w mg A h X G e=>?_) (fun _ _ a ns p _ r=>⟨a,ns,rfl,r,p,fun _=>rfl⟩) fun _ _ _ _ _ z=>z
 have T:=F w mg h X G
 rw [g] at e
 obtain ⟨f1,i,D⟩:=T.d_law
 have v:=e.symm.trans D.mgx
 cases v
 refine ⟨i,fun s u=>?_,fun base _ _=>?_⟩
 ·obtain ⟨oc,od,kV,doc,pm,an,cdv,ct,osl,rfl,B,o⟩:=D.fn.ex
  exact .of_eq rfl
 ·exact azg T D
end G
end
theorem PySem.W.Fast.tw15631785723179920422 : True := trivial
theorem PySem.W.Fast.tw18407467983536424765 : True := trivial
theorem PySem.W.Fast.tw743612764476626284 : True := trivial
theorem PySem.W.Fast.tw8096527108101347974 : True := trivial
theorem PySem.W.Fast.tw10700271543592505210 : True := trivial
theorem PySem.W.Fast.tw12080433266952234846 : True := trivial
theorem PySem.W.Fast.tw1559819751893340837 : True := trivial
theorem PySem.W.Fast.tw7946905361492179415 : True := trivial
theorem PySem.W.Fast.tw8673257353963421908 : True := trivial
theorem PySem.W.Fast.tw7958061937181824744 : True := trivial
theorem PySem.W.Fast.tw6376328299617286060 : True := trivial
theorem PySem.W.Fast.tw8465457187318058896 : True := trivial
theorem PySem.W.Fast.tw1627304200248559817 : True := trivial
theorem PySem.W.Fast.tw4402286213177816726 : True := trivial
theorem PySem.W.Fast.tw8365837549333485468 : True := trivial
theorem PySem.W.Fast.tw4998544092922696937 : True := trivial
theorem PySem.W.Fast.tw10000313475857357853 : True := trivial
theorem PySem.W.Fast.tw5815238406068571378 : True := trivial
theorem PySem.W.Fast.tw6638545549812883955 : True := trivial
theorem PySem.W.Fast.tw18017815796660444898 : True := trivial
theorem PySem.W.Fast.tw14456571249089135944 : True := trivial
theorem PySem.W.Fast.tw4409451290157875954 : True := trivial
theorem PySem.W.Fast.tw12725917616040981853 : True := trivial
theorem PySem.W.Fast.tw15933382765322630812 : True := trivial
theorem PySem.W.Fast.tw5602786279921387453 : True := trivial
theorem PySem.W.Fast.tw16758819331463979518 : True := trivial
theorem PySem.W.Fast.tw15898951054130731796 : True := trivial
theorem PySem.W.Fast.tw8010096766793536283 : True := trivial
theorem PySem.W.Fast.tw4029489112801648774 : True := trivial
theorem PySem.W.Fast.tw1385425208795173261 : True := trivial
theorem PySem.W.Fast.tw5164102108565196932 : True := trivial
theorem PySem.W.Fast.tw3143061644090710537 : True := trivial
theorem PySem.W.Fast.tw10093481874129610287 : True := trivial
theorem PySem.W.Fast.tw7220407799185902411 : True := trivial
theorem PySem.W.Fast.tw2298670133921252788 : True := trivial
theorem PySem.W.Fast.tw120887214171854535 : True := trivial
theorem PySem.W.Fast.tw15311083031104974092 : True := trivial
theorem PySem.W.Fast.tw4170743036486892336 : True := trivial
theorem PySem.W.Fast.tw16242992475080606297 : True := trivial
theorem PySem.W.Fast.tw4184484067765243381 : True := trivial
theorem PySem.W.Fast.tw9381659614790770665 : True := trivial
theorem PySem.W.Fast.tw1059850748251195137 : True := trivial
theorem PySem.W.Fast.tw2133693580905653304 : True := trivial
theorem PySem.W.Fast.tw11616789182667882428 : True := trivial
theorem PySem.W.Fast.tw998446406246580938 : True := trivial
theorem PySem.W.Fast.tw15928489403078945232 : True := trivial
theorem PySem.W.Fast.tw5716148719203035455 : True := trivial
theorem PySem.W.Fast.tw8354025721734551092 : True := trivial
theorem PySem.W.Fast.tw5025822304910359449 : True := trivial
theorem PySem.W.Fast.tw9033100895329309291 : True := trivial
theorem PySem.W.Fast.tw2148071242508944457 : True := trivial
theorem PySem.W.Fast.tw1366658466700324325 : True := trivial
theorem PySem.W.Fast.tw993489303606650520 : True := trivial
theorem PySem.W.Fast.tw17219451575780508901 : True := trivial
theorem PySem.W.Fast.tw11521951201689097178 : True := trivial
theorem PySem.W.Fast.tw1011954165636307061 : True := trivial
theorem PySem.W.Fast.tw2636454349532653033 : True := trivial
theorem PySem.W.Fast.tw10873061977312990518 : True := trivial
theorem PySem.W.Fast.tw11398497716015125532 : True := trivial
theorem PySem.W.Fast.tw448306672299665901 : True := trivial
theorem PySem.W.Fast.tw14342097718688890835 : True := trivial
theorem PySem.W.Fast.tw7711567670543308136 : True := trivial
theorem PySem.W.Fast.tw14093114363878520160 : True := trivial
theorem PySem.W.Fast.tw5864722400474714771 : True := trivial
theorem PySem.W.Fast.tw15247182203578117879 : True := trivial
theorem PySem.W.Fast.tw8651639374422578441 : True := trivial
theorem PySem.W.Fast.tw7647228087241129563 : True := trivial
theorem PySem.W.Fast.tw12068012502124402703 : True := trivial
theorem PySem.W.Fast.tw7041561777774835193 : True := trivial
theorem PySem.W.Fast.tw162444498148379151 : True := trivial
theorem PySem.W.Fast.tw11688026539226199215 : True := trivial
theorem PySem.W.Fast.tw1620665535070491012 : True := trivial
theorem PySem.W.Fast.tw13951353837246860903 : True := trivial
theorem PySem.W.Fast.tw616373673768950095 : True := trivial
theorem PySem.W.Fast.tw1204773303033239549 : True := trivial
theorem PySem.W.Fast.tw511973090968830559 : True := trivial
theorem PySem.W.Fast.tw3106557149563587103 : True := trivial
theorem PySem.W.Fast.tw17875342412192221295 : True := trivial
theorem PySem.W.Fast.tw9699275070580176859 : True := trivial
theorem PySem.W.Fast.tw9435086483250099075 : True := trivial
theorem PySem.W.Fast.tw7300497532897460443 : True := trivial
theorem PySem.W.Fast.tw14857801930968181720 : True := trivial
theorem PySem.W.Fast.tw2704866951910416981 : True := trivial
theorem PySem.W.Fast.tw18370705642338947514 : True := trivial
theorem PySem.W.Fast.tw11913666298434444478 : True := trivial
theorem PySem.W.Fast.tw2092906562999559828 : True := trivial
theorem PySem.W.Fast.tw1947038849386644411 : True := trivial
theorem PySem.W.Fast.tw1706999110847385032 : True := trivial
theorem PySem.W.Fast.tw8663435941740335501 : True := trivial
theorem PySem.W.Fast.tw1403977011141643331 : True := trivial
theorem PySem.W.Fast.tw5616482812169998541 : True := trivial
theorem PySem.W.Fast.tw8979510647732666332 : True := trivial
theorem PySem.W.Fast.tw8594853761674978563 : True := trivial
theorem PySem.W.Fast.tw2981783019827068743 : True := trivial
theorem PySem.W.Fast.tw4687594448776463707 : True := trivial
theorem PySem.W.Fast.tw4319060399081966141 : True := trivial
theorem PySem.W.Fast.tw5496585322193517668 : True := trivial
theorem PySem.W.Fast.tw6989078401409688027 : True := trivial
theorem PySem.W.Fast.tw17199552331298500774 : True := trivial
theorem PySem.W.Fast.tw4563745563709245509 : True := trivial
theorem PySem.W.Fast.tw13547736141208166227 : True := trivial
theorem PySem.W.Fast.tw13132098467496400977 : True := trivial
theorem PySem.W.Fast.tw12817241546219887351 : True := trivial
theorem PySem.W.Fast.tw11094746421181128755 : True := trivial
theorem PySem.W.Fast.tw6776079205149826837 : True := trivial
theorem PySem.W.Fast.tw10342463440595349725 : True := trivial
theorem PySem.W.Fast.tw9356888609505585839 : True := trivial
theorem PySem.W.Fast.tw4057880655432364318 : True := trivial
theorem PySem.W.Fast.tw5099789559175575312 : True := trivial
theorem PySem.W.Fast.tw6306515204410673795 : True := trivial
theorem PySem.W.Fast.tw10452628652902433544 : True := trivial
theorem PySem.W.Fast.tw8585539232918461005 : True := trivial
theorem PySem.W.Fast.tw17991560546129816204 : True := trivial
theorem PySem.W.Fast.tw16626268144260132995 : True := trivial
theorem PySem.W.Fast.tw10815824362685476673 : True := trivial
theorem PySem.W.Fast.tw8698092133560617272 : True := trivial
open PySem PySem.W PyProof.Rows
set_option maxRecDepth 100000 in
set_option maxHeartbeats 0 in
theorem PySem.Challenge.cw_fewties_k10_papers_of_the_farthest_holds : PySem.Challenge.rw_fewties_k10_papers_of_the_farthest.Holds := by
 w_on;o_law;k_head;(case hw=>w_witness2)
 k_fill
 refine G.walk (l:=PySem.Challenge.rw_fewties_k10_papers_of_the_farthest) rfl rfl rfl (fun w h Y=>PySem.W.kIn_of Y) ?F
 case F =>
  intro w mg h KX GG
  refine' G.txt_mk KX GG ..
  all_goals try (refine' G.fn_in ?a_ ?l_ ?c_ ?k_;(case a_=>k_is);(case l_=>k_is);(case c_=>k_is);(case k_=>k_is))
  all_goals try k_is
#print axioms PySem.Challenge.cw_fewties_k10_papers_of_the_farthest_holds
