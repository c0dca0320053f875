import PyProof.Rows.All
import Wide.All
import OpenK.AllK
import Wide.FinOn
import PyProof.EqAt
import PyProof.EqKinds
import PyProof.TupleCall
import PyProof.NeData
import PyProof.P3In
import PyProof.WalkInts
import PyProof.Rows.SortWalk
import PyProof.SumWalkG
import PyProof.Rows.CallKwBuiltin
import KE.KDictList
import PyProof.WalksEnum
import PyProof.ZipIter
import PyProof.ConsumeWalk
import PyProof.ListRange
import PyProof.TupleOfSeq
import PyProof.Rows.RuleN_abs
import KE.KDictOf
import PyProof.AttrMissHeap
import PyProof.Rows.SetFrom
import KE.KDictLaws
import KE.KUnpackStar
import PyProof.ExcBaseAll.ValueError
import PyProof.ExcAttrAll.ValueError
import PySem.Challenge.RW_fewties_k27_hubs_refused
open PySem.W (Frag kitOne mg_of nsIn mg_none_of excIn fnOf mroIn keepIn codeIn)
set_option Elab.async false
set_option linter.all false
set_option compiler.extract_closed false
set_option maxRecDepth 100000
set_option maxHeartbeats 4000000
noncomputable section
abbrev aA0:=@List.getElem?_eq_getElem
abbrev aA1:=@List.getElem?_eq_some_iff
abbrev aA2:=@List.mem_of_getElem?
abbrev aA3:=@List.length_map
abbrev aA4:=@Array.getElem?_eq_getElem
abbrev aA5:=@List.getElem?_map
abbrev aA6:=@Nat.le_refl
abbrev aA7:=@List.mem_append
abbrev aA8:=@Array.length_toList
abbrev aA9:=@List.mem_cons
abbrev aB0:=@Bool.false_ne_true
abbrev aB1:=@List.length_append
abbrev aB2:=@List.size_toArray
abbrev aB3:=@List.mem_append_right
abbrev aB4:=@List.append_assoc
abbrev aB5:=@List.mem_cons_of_mem
abbrev aB6:=@Nat.ne_of_lt
abbrev aB7:=@List.mem_map
abbrev aB8:=@List.mem_cons_self
abbrev aB9:=@List.mem_range
abbrev aC0:=@List.mem_of_mem_take
abbrev aC1:=@List.take_append_drop
abbrev aC2:=@List.mem_singleton
abbrev aC3:=@List.getElem?_append_left
abbrev aC4:=@List.mem_of_mem_drop
abbrev aC5:=@Nat.lt_of_lt_of_le
abbrev aC6:=@Option.some.inj
abbrev aC7:=@List.mem_append_left
abbrev aC8:=@List.getElem?_append_right
abbrev aC9:=@List.pairwise_append
abbrev aD0:=@Nat.le_trans
abbrev aD1:=@List.map_cons
abbrev aD2:=@List.getElem?_set
abbrev aD3:=@List.getElem?_of_mem
abbrev aD4:=@List.getD_eq_getElem?_getD
abbrev aD5:=@Classical.byContradiction
abbrev aD6:=@Array.getElem?_toList
abbrev aD7:=@decide_eq_false
abbrev aD8:=@decide_eq_true
abbrev aD9:=@List.getElem?_range
abbrev aE0:=@List.map_map
abbrev aE1:=@List.length_range
abbrev aE2:=@List.mem_filter
abbrev aE3:=@List.getElem?_eq_none
abbrev aE4:=@Nat.lt_of_le_of_lt
abbrev aE5:=@List.map_append
abbrev aE6:=@List.length_cons
abbrev aE7:=@List.nodup_append
abbrev aE8:=@List.map_congr_left
abbrev aE9:=@List.append_nil
abbrev aF0:=@List.take_of_length_le
abbrev aF1:=@List.getElem_mem
abbrev aF2:=@List.getElem_toArray
abbrev aF3:=@List.length_filter_le
abbrev aF4:=@List.all_eq_true
abbrev aF5:=@if_pos
abbrev aF6:=@if_neg
abbrev aF7:=@List.getElem?_eq_none_iff
abbrev aF8:=@Nat.lt_succ_of_lt
abbrev aF9:=@List.length_pos_iff
abbrev aG0:=@Nat.zero_le
abbrev aG1:=@List.pairwise_map
abbrev aG2:=@List.ext_getElem?
abbrev aG3:=@beq_iff_eq
abbrev aG4:=@Nat.lt_irrefl
abbrev aG5:=@Nat.le_of_lt
abbrev aG6:=@Array.toList_append
abbrev aG7:=@List.pairwise_iff_getElem
abbrev aG8:=@List.take_length
abbrev aG9:=@List.lookup_cons
abbrev aH0:=@List.length_take
abbrev aH1:=@Bool.and_eq_true
abbrev aH2:=@List.eq_nil_of_length_eq_zero
abbrev aH3:=@List.replicate_succ
abbrev aH4:=@List.take_add_one
abbrev aH5:=@List.getElem?_take_of_lt
abbrev aH6:=@List.mem_iff_getElem
abbrev aH7:=@List.getElem?_replicate
abbrev aH8:=@Bool.eq_iff_iff
abbrev aH9:=@Array.size_push
abbrev aI0:=@List.Pairwise.imp_of_mem
abbrev aI1:=@Option.map_some
abbrev aI2:=@List.getElem?_drop
abbrev aI3:=@List.not_mem_nil
abbrev aI4:=@List.nodup_cons
abbrev aI5:=@List.pairwise_cons
abbrev aI6:=@Nat.sub_self
abbrev aI7:=@List.length_drop
abbrev aI8:=@List.length_nil
open PySem PySem.Spec in
abbrev aI9:=@wpAny_bind
open PySem PySem.Spec in
abbrev aJ0:=@wpAny_pure
open PySem PySem.Spec in
abbrev aJ1:=@Heap.get?_push_of_some
open PySem PySem.Spec in
abbrev aJ2:=@Heap.lt_size
open PySem PySem.Spec in
abbrev aJ3:=@Heap.get?_push_size
open PySem PySem.Spec in
abbrev aJ4:=@codeAny_mono
open PySem PySem.Spec in
abbrev aJ5:=@wpAny_holding
open PySem PySem.Spec in
abbrev aJ6:=@PassesOwn.never
open PySem PySem.Spec in
abbrev aJ7:=@Heap.get?_update_other
open PySem PySem.Spec in
abbrev aJ8:=@wpAny_mono
open PySem PySem.Spec in
abbrev aJ9:=@wpAny_newObj_type
open PySem PySem.Spec in
abbrev aK0:=@Around.under_plainId
open PySem PySem.Spec in
abbrev aK1:=@Heap.size_push
open PySem PySem.Spec in
abbrev aK2:=@wpAny_call_entry
open PySem PySem.Spec in
abbrev aK3:=@wpAny_truthy_bool
open PySem PySem.Spec in
abbrev aK4:=@wpAny_pyIter_list
open PySem PySem.Spec in
abbrev aK5:=@Heap.get?_update_self
open PySem PySem.Spec in
abbrev aK6:=@codeAny_builtin
namespace L2
open PySem PySem.Spec PyProof.Rows
abbrev Key:=Sum Int Str
def agc:Key->Value->Bool
 | .inl k,v=>Value.isInt k v
 | .inr x,v=>Value.isStrOf x v
def keyH (w:World):Key->Int
 | .inl k=>hashInt k
 | .inr x=>hashStr w x
theorem abl:∀ {k:Key} {v:Value},agc k v=true->(∃ i t,k=Sum.inl i/\v=Value.int i t)\/(∃ x t,k=Sum.inr x/\v=Value.str x t)
 | .inl i,v,h=>by
  obtain ⟨t,e⟩:=Value.isInt_shape (k:=i) (v:=v) h
  exact .inl ⟨i,t,rfl,e⟩
 | .inr x,v,h=>by
  obtain ⟨t,e⟩:=Value.isStrOf_shape (x:=x) (v:=v) h
  exact .inr ⟨x,t,rfl,e⟩
theorem aq6 (i:Int) (t:Tok):agc (.inl i) (.int i t)=true:=by simp [agc,Value.isInt]
theorem aq7 (x:Str) (t:Tok):agc (.inr x) (.str x t)=true:=by simp [agc,Value.isStrOf]
theorem ayx (a b:Int):decide ((Sum.inl a:Key)=Sum.inl b)=(a == b):=by
 by_cases e:a=b
 ·subst e;simp
 ·have h:¬ (Sum.inl a:Key)=Sum.inl b:=fun q=>e (Sum.inl.inj q)
  rw [aD7 h]
  exact (beq_eq_false_iff_ne.mpr e).symm
theorem ayy (a b:Str):decide ((Sum.inr a:Key)=Sum.inr b)=decide (a=b):=by
 by_cases e:a=b
 ·subst e;simp
 ·have h:¬ (Sum.inr a:Key)=Sum.inr b:=fun q=>e (Sum.inr.inj q)
  rw [aD7 h,aD7 e]
theorem ayz (a:Int) (b:Str):decide ((Sum.inl a:Key)=Sum.inr b)=false:=aD7 (fun q=>nomatch q)
theorem ay0 (a:Str) (b:Int):decide ((Sum.inr a:Key)=Sum.inl b)=false:=aD7 (fun q=>nomatch q)
def abg (prog:Program) (w:World):PySem.KeyKind prog w Key where
 is:=agc
 hash:=keyH w
 inj:=fun v a b ha hb=>by
  rcases abl ha with ⟨i,t,rfl,rfl⟩ | ⟨x,t,rfl,rfl⟩
  ·rcases abl hb with ⟨j,u,rfl,e⟩ | ⟨y,u,rfl,e⟩
   ·injection e with e1 _;rw [e1]
   ·exact nomatch e
  ·rcases abl hb with ⟨j,u,rfl,e⟩ | ⟨y,u,rfl,e⟩
   ·exact nomatch e
   ·injection e with e1 _;rw [e1]
 byValue:=fun k v h=>by
  rcases abl h with ⟨i,t,rfl,rfl⟩ | ⟨x,t,rfl,rfl⟩ <;> rfl
 pyHash:=fun hv h=>by
  rcases abl hv with ⟨i,t,rfl,rfl⟩ | ⟨x,t,rfl,rfl⟩
  ·exact wpAny_pyHash_int h
  ·exact wpAny_pyHash_str h
 eqBool:=fun hu hv h=>by
  rcases abl hu with ⟨i,t,rfl,rfl⟩ | ⟨x,t,rfl,rfl⟩
  ·rcases abl hv with ⟨j,u,rfl,rfl⟩ | ⟨y,u,rfl,rfl⟩
   ·rw [ayx] at h;exact wpAny_eqBool_int h
   ·rw [ayz] at h;exact SeqAt.EqAt.int_str i t y u _ _ _ _ h
  ·rcases abl hv with ⟨j,u,rfl,rfl⟩ | ⟨y,u,rfl,rfl⟩
   ·rw [ay0] at h;exact SeqAt.EqAt.str_int x t j u _ _ _ _ h
   ·rw [ayy] at h;exact wpAny_eqBool_str h
 «strs»:=fun k x t v h=>by
  rcases abl h with ⟨i,u,rfl,e⟩ | ⟨y,u,rfl,e⟩
  ·exact nomatch e
  ·injection e with e1 _
   subst e1
   cases v <;> rfl
theorem ans (prog:Program) (w:World) (i:Int) (t:Tok):(abg prog w).is (.inl i) (.int i t)=true:=aq6 i t
theorem ant (prog:Program) (w:World) (x:Str) (t:Tok):(abg prog w).is (.inr x) (.str x t)=true:=aq7 x t
inductive V where
 | non | bl (b:Bool) | int (i:Int) | str (x:Str) | byt (b:Array UInt8) | flt (b:UInt64) | ref (a:Addr) | ty (n:String)
 deriving DecidableEq
def RelV:V->Value->Prop
 | .non,u=>u=Value.none
 | .bl b,u=>u=Value.bool b
 | .int i,u=>∃ t,u=Value.int i t
 | .str x,u=>∃ t,u=Value.str x t
 | .byt b,u=>∃ t,u=Value.bytes b t
 | .flt b,u=>∃ t,u=Value.float b t
 | .ref a,u=>u=Value.ref a
 | .ty n,u=>u=Value.type n
abbrev Vals:List V->List Value->Prop:=Paired RelV
theorem Vals.length {xs:List V} {us:List Value} (r:Vals xs us):xs.length=us.length:=Paired.length r
theorem Vals.get:∀ {xs:List V} {us:List Value} {i:Nat} {x:V},Vals xs us->xs[i]?=some x->∃ u,us[i]?=some u/\RelV x u
 | _,_,_,_,.nil,e=>by simp at e
 | _,_,0,_,.cons r _,e=>by simp at e;subst e;exact ⟨_,rfl,r⟩
 | _,_,i+1,x,.cons _ t,e=>by
  obtain ⟨u,a,b⟩:=Vals.get (i:=i) (x:=x) t (by simpa using e)
  exact ⟨u,by simpa using a,b⟩
theorem Vals.set {x:V} {u:Value} (r:RelV x u):∀ {xs:List V} {us:List Value} (i:Nat),Vals xs us->Vals (xs.set i x) (us.set i u)
 | _,_,_,.nil => .nil
 | _,_,0,.cons _ t => .cons r t
 | _,_,i+1,.cons q t => .cons q (Vals.set r i t)
theorem Vals.append:∀ {xs ys:List V} {us ws:List Value},Vals xs us->Vals ys ws->Vals (xs ++ ys) (us ++ ws)
 | _,_,_,_,.nil,s=>s
 | _,_,_,_,.cons r t,s => .cons r (Vals.append t s)
def RelO:Option V->Option Value->Prop
 | some v,some u=>RelV v u
 | none,none=>True
 | _,_=>False
def KV {κ:Type}:List (κ × V)->List (κ × Value)->Prop:=Paired fun (p : κ × V) (q : κ × Value)=>p.1=q.1/\RelV p.2 q.2
def kV:Key->V
 | .inl i => .int i
 | .inr x => .str x
inductive HO where
 /-- a list -/
 | lst (xs:List V)
 /-- a tuple (never changes) -/
 | tup (xs:List V)
 /-- a dict whose keys are ints and texts; one whose keys are tuples of ints and texts (the empty one is both) -/
 | dK (kvs:List (Key × V)) | dT (kvs:List (List Key × V))
 /-- a set of ints: its members, its size -/
 | set (S:Int->Bool) (n:Nat)
 /-- an instance of the class at C, its dict at dx, its attributes -/
 | ins (C dx:Addr) (fs:List (Str × V))
 /-- the dict of the instance at x -/
 | own (x:Addr)
 /-- the dict of an exception -/
 | xd (fs:List (Str × V))
 /-- a bound method, f of x -/
 | met (f x:Addr)
 /-- a range object lo, lo + 1, .. below hi -/
 | rng (lo hi:Int)
 /-- a thing that is known to the object (the script; a dict while a loop walks it): read, never written while it is so -/
 | frz (o:Obj) (u:HO)
 /-- a code object's table -/
 | tbl (ps:Array Value)
 /-- any other thing, by what is true of its one object (a def of one's own: SetO a S n:=HO.ext fun h => ..) -/
 | ext (φ:Heap->Prop)
abbrev Hp:=Addr->Option HO
def upd (H:Hp) (a:Addr) (o:HO):Hp:=fun b=>if b=a then some o else H b
theorem aah {H:Hp} {a:Addr} {o:HO}:upd H a o a=some o:=by unfold upd;rw [aF5 rfl]
theorem aae {H:Hp} {a b:Addr} {o:HO} (h:b ≠ a):upd H a o b=H b:=by unfold upd;rw [aF6 h]
theorem aao {H:Hp} {a b:Addr} {o:HO} (h:H a=some o) (h':H b=none):a ≠ b:=by
 intro e;subst e;rw [h] at h';cases h'
section
variable (P:Program) (w:World)
def ObjOk (H:Hp) (h:Heap) (a:Addr):HO->Prop
 | .lst xs=>xs.length<=sizeLine/\∃ (its:List Value) (n:Nat),Vals xs its/\h.get? a=some { cls:=.type "list",data:=.seq its.toArray n }
 | .tup xs=>xs.length<=sizeLine/\∃ its:List Value,Vals xs its/\IsTup h a its.toArray
 | .dK kvs=>kvs.length<=sizeLine/\(a == sysModules)=false/\∃ vs,KV kvs vs/\h.DictOf (abg P w) a vs
 | .dT kvs=>kvs.length<=sizeLine/\(a == sysModules)=false/\∃ xs:List (List Key × Addr × Value),
   Paired (fun (p:List Key × V) (q:List Key × Addr × Value)=>p.1=q.1/\H q.2.1=some (.tup (p.1.map kV))/\RelV p.2 q.2.2) kvs xs /\
   ∃ o es ep,h.get? a=some o/\o.ExactDict/\o.data=.dict es ep/\es.toList=xs.map (entryOfKey (tupleKind (abg P w)))/\(xs.map (·.1)).Nodup
 | .set S n=>h.SetOf (intKind P w) a S n
 | .ins C dx fs=>H dx=some (.own a)/\fs.length<=1000/\dx ≠ a/\h.get? a=some (PySem.W.instObj C dx) /\
   ∃ mA,h.Ns1 dx mA/\(∀ f,RelO (fs.lookup f) (mA f))/\PySem.Within mA (fs.map (·.1))
 | .own _=>∃ o,h.get? a=some o
 | .xd fs=>∃ mA,h.Ns1 a mA/\∀ f,RelO (fs.lookup f) (mA f)
 | .rng lo hi=>∃ t u v,h.get? a=some { cls:=.type "range",data:=.fields #[.int lo t,.int hi u,.int 1 v] }
 | .frz o u=>h.get? a=some o/\ObjOk H h a u
 | .tbl ps=>h.get? a=some { cls:=.none,data:=.fields ps }
 | .met f x=>h.get? a=some (PySem.W.methodObj (.ref f) (.ref x))
 | .ext φ => φ h/\(∃ o,h.get? a=some o)/\∀ h1 h2:Heap,φ h1->(∀ o,h1.get? a=some o->h2.get? a=some o)->φ h2
def HOk (H:Hp) (h:Heap):Prop:=∀ a o,H a=some o->ObjOk P w H h a o
end
section
variable {P:Program} {w:World} {H H':Hp} {h h':Heap} {a:Addr} {o:HO}
theorem ObjOk.lt (x:ObjOk P w H h a o):a < h.objs.size:=by
 cases o with
 | lst xs=>obtain ⟨_,_,_,_,e⟩:=x;exact aJ2 e
 | tup xs=>obtain ⟨_,_,_,p⟩:=x;exact p.lt
 | dK kvs=>obtain ⟨_,_,_,_,o,_,_,e,_⟩:=x;exact aJ2 e
 | dT kvs=>obtain ⟨_,_,_,_,o,_,_,e,_⟩:=x;exact aJ2 e
 | set S n=>obtain ⟨o,_,_,_,e,_⟩:=x;exact aJ2 e
 | ins C dx fs=>obtain ⟨_,_,_,e,_⟩:=x;exact aJ2 e
 | own y=>obtain ⟨_,e⟩:=x;exact aJ2 e
 | xd fs=>obtain ⟨_,⟨_,_,_,e,_⟩,_⟩:=x;exact aJ2 e
 | rng lo hi=>obtain ⟨_,_,_,e⟩:=x;exact aJ2 e
 | frz ob u=>obtain ⟨e,_⟩:=x;exact aJ2 e
 | tbl ps=>exact aJ2 (show h.get? a=some _ from x)
 | met f y=>exact aJ2 (show h.get? a=some _ from x)
 | ext φ=>obtain ⟨_,⟨_,e⟩,_⟩:=x;exact aJ2 e
theorem Paired.mapP {α β:Type} {F G : α->β->Prop}:∀ {l₁:List α} {l₂:List β},Paired F l₁ l₂->(∀ a b,F a b->G a b)->Paired G l₁ l₂
 | _,_,.nil,_ => .nil
 | _,_,.cons r t,f => .cons (f _ _ r) (Paired.mapP t f)
theorem ObjOk.stay (x:ObjOk P w H h a o) (k:∀ b u,(b=a\/H b=some (.own a))->h.get? b=some u->h'.get? b=some u)
  (i:∀ b,H b=some (.own a)->H' b=some (.own a)) (l:∀ b xs,H b=some (.tup xs)->H' b=some (.tup xs)):ObjOk P w H' h' a o:=by
 induction o with
 | lst xs=>obtain ⟨z,its,n,r,e⟩:=x;exact ⟨z,its,n,r,k _ _ (.inl rfl) e⟩
 | tup xs=>obtain ⟨z,its,r,g,e,c⟩:=x;exact ⟨z,its,r,g,k _ _ (.inl rfl) e,c⟩
 | dK kvs=>obtain ⟨z,y,vs,r,g,es,ep,e,c⟩:=x;exact ⟨z,y,vs,r,g,es,ep,k _ _ (.inl rfl) e,c⟩
 | dT kvs =>
  obtain ⟨z,y,xs,r,g,es,ep,e,c⟩:=x
  exact ⟨z,y,xs,Paired.mapP r fun p q z=>⟨z.1,l _ _ z.2.1,z.2.2⟩,g,es,ep,k _ _ (.inl rfl) e,c⟩
 | set S n=>obtain ⟨g,es,ep,t,e,c⟩:=x;exact ⟨g,es,ep,t,k _ _ (.inl rfl) e,c⟩
 | ins C dx fs =>
  obtain ⟨d,z,ne,e,mA,⟨od,es,ep,j,c⟩,r⟩:=x
  exact ⟨i _ d,z,ne,k _ _ (.inl rfl) e,mA,⟨od,es,ep,k _ _ (.inr d) j,c⟩,r⟩
 | own y=>obtain ⟨g,e⟩:=x;exact ⟨g,k _ _ (.inl rfl) e⟩
 | xd fs=>obtain ⟨mA,⟨od,es,ep,e,c⟩,r⟩:=x;exact ⟨mA,⟨od,es,ep,k _ _ (.inl rfl) e,c⟩,r⟩
 | rng lo hi=>obtain ⟨t,u,v,e⟩:=x;exact ⟨t,u,v,k _ _ (.inl rfl) e⟩
 | frz g u ih=>obtain ⟨e,q⟩:=x;exact ⟨k _ _ (.inl rfl) e,ih q⟩
 | tbl ps =>
  have e:h.get? a=some { cls:=.none,data:=.fields ps }:=x
  show h'.get? a=some { cls:=.none,data:=.fields ps }
  exact k a _ (.inl rfl) e
 | met f y =>
  have e:h.get? a=some (PySem.W.methodObj (.ref f) (.ref y)):=x
  show h'.get? a=some (PySem.W.methodObj (.ref f) (.ref y))
  exact k a _ (.inl rfl) e
 | ext φ=>obtain ⟨p,⟨o,e⟩,st⟩:=x;exact ⟨st _ _ p fun o q=>k _ _ (.inl rfl) q,⟨o,k _ _ (.inl rfl) e⟩,st⟩
theorem HOk.lt (x:HOk P w H h) (e:H a=some o):a < h.objs.size:=(x a o e).lt
theorem HOk.fresh (x:HOk P w H h) (e:h.objs.size<=a):H a=none:=by
 cases q:H a with
 | none=>rfl
 | some u=>exact absurd (aC5 (x.lt q) e) (aG4 _)
theorem HOk.kept (x:HOk P w H h) (k:∀ b u,h.get? b=some u->h'.get? b=some u):HOk P w H h':=fun a o e =>
 (x a o e).stay (fun b u _ q=>k b u q) (fun _ q=>q) fun _ _ q=>q
theorem HOk.laid (x:HOk P w H h) (k:∀ b u,h.get? b=some u->h'.get? b=some u) (d:h.objs.size<=a) (new:ObjOk P w (upd H a o) h' a o):HOk P w (upd H a o) h':=fun b u e=>by
 have hn:=x.fresh d
 by_cases hb:b=a
 ·subst hb;rw [aah] at e;cases e;exact new
 ·rw [aae hb] at e
  exact (x b u e).stay (fun c v _ q=>k c v q) (fun c q=>by rw [aae (aao q hn)];exact q) fun c xs q=>by rw [aae (aao q hn)];exact q
end
def Rd (H:Hp) (a:Addr) (u:HO):Prop:=H a=some u\/∃ o,H a=some (.frz o u)
theorem Rd.ok {P:Program} {w:World} {H:Hp} {h:Heap} {a:Addr} {u:HO} (r:Rd H a u) (x:HOk P w H h):ObjOk P w H h a u:=by
 rcases r with r | ⟨o,r⟩
 ·exact x a u r
 ·obtain ⟨_,q⟩:=x a _ r
  exact q
def Mut:Option HO->Prop
 | some (.lst _)=>True
 | some (.dK _)=>True
 | some (.dT _)=>True
 | some (.set _ _)=>True
 | some (.ins _ _ _)=>True
 | some (.ext _)=>True
 | _=>False
section
variable {P:Program} {w:World} {H:Hp} {h h':Heap} {x e:Addr} {o':HO}
theorem HOk.write (ok:HOk P w H h) (g:Mut (H x)) (j:e=x\/H e=some (.own x)) (k:∀ b u,b ≠ e->h.get? b=some u->h'.get? b=some u) (i:∃ u,h'.get? e=some u)
  (new:ObjOk P w (upd H x o') h' x o'):HOk P w (upd H x o') h':=fun b u q=>by
 have a:∀ c y,H c=some (.own y)->c ≠ x:=fun c y r z=>by subst z;rw [r] at g;exact g
 have d:∀ c xs,H c=some (.tup xs)->c ≠ x:=fun c xs r z=>by subst z;rw [r] at g;exact g
 by_cases hb:b=x
 ·subst hb;rw [aah] at q;cases q;exact new
 ·rw [aae hb] at q
  by_cases hbe:b=e
  ·have l:H b=some (.own x):=by
    rcases j with z | z
    ·exact absurd (hbe.trans z) hb
    ·rw [hbe];exact z
   rw [q] at l;cases l
   obtain ⟨v,m⟩:=i
   exact ⟨v,by rw [hbe];exact m⟩
  ·refine (ok b u q).stay (fun c v f r=>k c v ?_ r) (fun c r=>by rw [aae (a c b r)];exact r) fun c xs r=>by rw [aae (d c xs r)];exact r
   rcases f with rfl | f
   ·exact hbe
   ·rintro rfl
    rcases j with z | z
    ·exact a c b f z
    ·rw [f] at z;cases z;exact hb rfl
end
structure Un (fs ex:List Addr) (H H':Hp) (h h':Heap):Prop where
 keep:∀ b o,h.get? b=some o->H b=none->b ∉ fs->b ∉ ex->h'.get? b=some o
 slot:∀ b o,h.get? b=some o->H b=none->b∈fs->b ∉ ex->∃ sl,h'.get? b=some { o with slots:=sl }
 free:∀ b o,h.get? b=some o->H b=none->b ∉ ex->H' b=none
 there:∀ b o,h.get? b=some o->b ∉ ex->∃ o',h'.get? b=some o'
 tups:∀ b xs,H b=some (.tup xs)->H' b=some (.tup xs)
 frzs:∀ b o u,H b=some (.frz o u)->H' b=some (.frz o u)
 tbls:∀ b ps,H b=some (.tbl ps)->∃ more,H' b=some (.tbl (ps ++ more))
section
variable {fs fs' ex ex':List Addr} {H H1 H2:Hp} {h h1 h2 h':Heap} {a x e:Addr} {o:HO}
theorem Un.any (u:Un fs ex H H1 h h1) {b:Addr} {a:Obj} (q:h.get? b=some a) (n:H b=none) (c:b ∉ ex):∃ sl,h1.get? b=some { a with slots:=sl }:=by
 by_cases hb:b∈fs
 ·exact u.slot b a q n hb c
 ·exact ⟨a.slots,u.keep b a q n hb c⟩
theorem Un.kept (k:∀ b u,h.get? b=some u->h'.get? b=some u):Un fs ex H H h h' :=
 ⟨fun b a q _ _ _=>k b a q,fun b a q _ _ _=>⟨a.slots,k b a q⟩,fun _ _ _ n _=>n,fun b a q _=>⟨a,k b a q⟩,fun _ _ q=>q,fun _ _ _ q=>q,fun _ ps q=>⟨#[],by rw [q];simp⟩⟩
theorem Un.refl:Un fs ex H H h h:=Un.kept fun _ _ q=>q
theorem Un.laid (k:∀ b u,h.get? b=some u->h'.get? b=some u) (c:h.objs.size<=a) (hn:H a=none):Un fs ex H (upd H a o) h h' where
 keep:=fun b u q _ _ _=>k b u q
 slot:=fun b u q _ _ _=>⟨u.slots,k b u q⟩
 free:=fun b u q n _=>by rw [aae (aB6 (aC5 (aJ2 q) c))];exact n
 there:=fun b u q _=>⟨u,k b u q⟩
 tups:=fun b xs q=>by rw [aae (aao q hn)];exact q
 frzs:=fun b u xs q=>by rw [aae (aao q hn)];exact q
 tbls:=fun b ps q=>⟨#[],by rw [aae (aao q hn),q];simp⟩
theorem Un.write (a:Mut (H x)) (f:e=x\/H e=some (.own x)) (k:∀ b u,b ≠ e->h.get? b=some u->h'.get? b=some u) (c:∃ u,h'.get? e=some u):Un fs ex H (upd H x o) h h':=by
 have d:∀ b,H b=none->b ≠ x:=fun b n z=>by subst z;rw [n] at a;exact a
 have hb:∀ b,H b=none->b ≠ e:=fun b n z=>by
  subst z
  rcases f with r | r
  ·exact d b n r
  ·rw [n] at r;cases r
 have hm:∀ b u,H b=some u->¬ Mut (some u)->b ≠ x:=fun b u q nm z=>by subst z;rw [q] at a;exact nm a
 refine ⟨fun b u q n _ _=>k b u (hb b n) q,fun b u q n _ _=>⟨u.slots,k b u (hb b n) q⟩,fun b u q n _=>by rw [aae (d b n)];exact n,fun b u q _=>?_,
  fun b xs q=>by rw [aae (hm b _ q fun z=>z)];exact q,fun b u xs q=>by rw [aae (hm b _ q fun z=>z)];exact q,fun b ps q=>⟨#[],by rw [aae (hm b _ q fun z=>z),q];simp⟩⟩
 by_cases hbe:b=e
 ·subst hbe;exact c
 ·exact ⟨u,k b u hbe q⟩
end
def trk (h:Heap) (H:Hp):List Addr:=(List.range h.objs.size).filter fun a=>(H a).isSome
def hidT (h:Heap) (H:Hp):Heap:=PySem.W.hideAll h (trk h H)
theorem aq8 (h:Heap) (H:Hp):(hidT h H).objs.size=h.objs.size:=PySem.W.hideAll_size _ _
theorem atl {h:Heap} {H:Hp} {b:Addr} {o:Obj} (e:h.get? b=some o) (n:H b=none):(hidT h H).get? b=some o :=
 PySem.W.hideAll_get _ e fun hm=>by
  have q:(H b).isSome=true:=(aE2.mp hm).2
  rw [n] at q;simp at q
theorem awq {h:Heap} {H:Hp} {b:Addr} {o:Obj} (e:(hidT h H).get? b=some o):h.get? b=some o/\H b=none:=by
 have a:h.get? b=some o:=PySem.W.of_hideAll (trk h H) e
 refine ⟨a,?_⟩
 cases q:H b with
 | none=>rfl
 | some x =>
  have hm:b∈trk h H:=aE2.mpr ⟨aB9.mpr (aJ2 a),by simp [q]⟩
  have z:(hidT h H).get? b=none:=PySem.W.hideAll_none (trk h H) hm
  rw [z] at e;cases e
def awr (g h:Heap) (L:Addr):List (Addr × Obj):=(List.range h.objs.size).filterMap fun a=>if a=L\/(g.get? a).isSome=true then none else (h.get? a).map fun o=>(a,o)
def rest (g h:Heap) (L d:Addr):List (Addr × Obj):=(awr g h L).filter fun p=>decide (p.1 ≠ d)
structure Mod (K:Frag) (mg:Str->Option Value) (base:Heap):Prop where
 kin:K.In base
 glob:base.Ns mainGlobals mg
 blt:∃ mb,base.Ns builtinsNs mb/\∀ x:Str,x ≠ "__name__"->mb x=bootBuiltins x
 nolimit:base.NoLimit
/-- the context: a def's body (or a comprehension's block) running. base: fixed through the whole law; s₀, H₀: the entry; outer: the frames whose slots others may change (a def's callers); stack: all frames that run;
  ex: iterators that were made ahead of the entry and are walked here (a comprehension's);fn: the names whose cells were made at the entry (a def: all;a comprehension's block: its own);calm: not within an except suite;pn: pins that every state bears;xe: what is wanted of an exception that leaves the code -/
structure Cx where
 prog:Program
 w:World
 K:Frag
 mg:Str->Option Value
 base:Heap
 A:Around
 N:List Str
 s₀:Shared
 H₀:Hp
 env:Env
 outer:List Env
 stack:List Env
 ex:List Addr
 fn:Str->Bool
 calm:Bool
 pn:List (Addr × Obj)
 xe:Value->Shared->Prop
def frs (l:List Env):List Addr:=l.filterMap (·.frame)
abbrev Cx.fs (X:Cx):List Addr:=frs X.outer
def Vis (sc:Scope) (x:Str):Prop:=sc.names.lookup x=some .local\/sc.names.lookup x=some .cell\/sc.names.lookup x=some .free
def Loc (sc:Scope) (x:Str):Prop:=sc.names.lookup x=some .local\/sc.names.lookup x=some .cell
def Look (env:Env) (h:Heap) (m:Str->Option Value) (x:Str) (u:Value):Prop :=
 (env.kindOf x=some .local/\m x=some u)\/((env.kindOf x=some .cell\/env.kindOf x=some .free)/\∃ c,env.cells.lookup x=some c/\h.IsCell c (some u))
structure Cx.Ok (X:Cx):Prop where
 mod:Mod X.K X.mg X.base
 kind:X.env.scope.kind=.function
 glob:X.env.globals=mainGlobals
 blt:X.env.builtins=builtinsNs
 above:X.s₀.heap.objs.size<=X.env.locals
 inj:∀ x y c,X.env.cells.lookup x=some c->X.env.cells.lookup y=some c->x=y
 has:∀ x,(X.env.kindOf x=some .cell\/X.env.kindOf x=some .free)->∃ c,X.env.cells.lookup x=some c
 cab:∀ x c,X.fn x=true->X.env.cells.lookup x=some c->X.s₀.heap.objs.size<=c
 hd:X.calm=true->X.A.handled=none
 frames:X.A.frames=some X.stack
 stk:X.stack=X.outer\/(X.stack=X.env :: X.outer/\X.env.frame=some X.env.locals)
 exf:∀ b∈X.ex,b ≠ X.env.locals/\∀ x c,X.env.cells.lookup x=some c->c ≠ b
 bs:∀ b o,X.base.get? b=some o->X.s₀.heap.get? b=some o/\X.H₀ b=none
 bsz:X.base.objs.size<=X.s₀.heap.objs.size
 noex:∀ b o,X.base.get? b=some o->b ∉ X.ex
 exfs:∀ b∈X.ex,b ∉ X.fs
 funs:X.s₀.heap.FunFrames X.base X.outer
 frf:∀ b∈X.fs,X.H₀ b=none
structure Inv (X:Cx) (pins:List (Addr × Obj)) (σ:List (Option V)) (H:Hp) (s:Shared):Prop where
 ok:X.Ok
 os:s.os=X.s₀.os
 bare:AllBare s.gens
 base:Un X.fs X.ex X.H₀ H X.s₀.heap s.heap
 loc:∃ m,s.heap.Ns X.env.locals m/\∀ (i:Nat) (x:Str) (v:V),X.N[i]?=some x->σ[i]?=some (some v)->Vis X.env.scope x->∃ u,RelV v u/\Look X.env s.heap m x u
 cell:∀ x c,X.env.cells.lookup x=some c->∃ v,s.heap.IsCell c v
 free:H X.env.locals=none
 freeC:∀ x c,X.env.cells.lookup x=some c->H c=none
 pin:∀ p∈X.pn ++ pins,s.heap.get? p.1=some p.2/\H p.1=none/\p.1 ≠ X.env.locals/\p.1 ∉ X.fs/\∀ v,p.2.data ≠ .cell v
 hok:HOk X.prog X.w H s.heap
 len : σ.length=X.N.length
section
variable {X:Cx} {pins:List (Addr × Obj)} {σ:List (Option V)} {H H':Hp} {s:Shared} {h':Heap}
theorem Cx.Ok.nofr (ok:X.Ok) {b:Addr} {o:Obj} (e:X.base.get? b=some o):b ∉ X.fs:=fun hb=>by
 have:=(ok.funs.mem hb).1
 rw [e] at this;cases this
theorem Inv.bs (I:Inv X pins σ H s):∀ b o,X.base.get? b=some o->s.heap.get? b=some o/\H b=none:=fun b o e =>
 ⟨I.base.keep b o (I.ok.bs b o e).1 (I.ok.bs b o e).2 (I.ok.nofr e) (I.ok.noex b o e),I.base.free b o (I.ok.bs b o e).1 (I.ok.bs b o e).2 (I.ok.noex b o e)⟩
theorem Inv.bk (I:Inv X pins σ H s):∀ b o,X.base.get? b=some o->s.heap.get? b=some o:=fun b o e=>(I.bs b o e).1
theorem Inv.mod (I:Inv X pins σ H s):Mod X.K X.mg X.base:=I.ok.mod
theorem Inv.kIn (I:Inv X pins σ H s):X.K.In s.heap:=I.ok.mod.kin.keeps I.bk
theorem Inv.lt (I:Inv X pins σ H s):X.env.locals < s.heap.objs.size:=let ⟨_,hn,_⟩:=I.loc;hn.lt
theorem Inv.sz (I:Inv X pins σ H s):X.s₀.heap.objs.size<=s.heap.objs.size:=aD0 I.ok.above (aG5 I.lt)
theorem Inv.nofs (I:Inv X pins σ H s) {a:Addr} (h:s.heap.objs.size<=a):a ∉ X.fs:=fun hb=>by
 obtain ⟨_,o,b,_⟩:=I.ok.funs.mem hb
 exact absurd (aC5 (aJ2 b) (aD0 I.sz h)) (aG4 _)
theorem Inv.cne (I:Inv X pins σ H s):∀ x c,X.env.cells.lookup x=some c->c ≠ X.env.locals:=fun x c e z=>by
 obtain ⟨v,o,d,hd⟩:=I.cell x c e
 obtain ⟨m,⟨o',es,ep,a,b,_⟩,_⟩:=I.loc
 rw [z,a] at d;cases d;rw [b] at hd;cases hd
theorem Inv.funs (I:Inv X pins σ H s):s.heap.FunFrames X.base X.outer:=by
 have all:∀ (l:List Env),(∀ b∈frs l,b∈X.fs)->X.s₀.heap.FunFrames X.base l->s.heap.FunFrames X.base l:=by
  intro l
  induction l with
  | nil=>intro _ _;trivial
  | cons env r ih =>
   intro hs d
   obtain ⟨f,⟨L,o,hf,hn,c,hd⟩,g⟩:=d
   have a:L∈X.fs:=hs L (by unfold frs;rw [List.filterMap_cons,hf];exact aB8)
   obtain ⟨sl,e⟩:=I.base.slot L o c (I.ok.frf L a) a fun z=>I.ok.exfs L z a
   exact ⟨f,⟨L,_,hf,hn,e,hd⟩,ih (fun b hb=>hs b (by unfold frs;rw [List.filterMap_cons,hf];exact aB5 _ hb)) g⟩
 exact all X.outer (fun _ hb=>hb) I.ok.funs
theorem Inv.stack (I:Inv X pins σ H s):s.heap.FunFrames X.base X.stack:=by
 rcases I.ok.stk with e | ⟨e,hf⟩
 ·rw [e];exact I.funs
 ·rw [e]
  obtain ⟨m,hn,_⟩:=I.loc
  refine .cons (by rw [I.ok.kind];decide) hf hn ?_ I.funs
  exact Heap.get?_none_of_le (aD0 I.ok.bsz I.ok.above)
theorem Inv.stkSub (I:Inv X pins σ H s):∀ b∈frs X.stack,b∈X.env.locals :: X.fs:=fun b hb=>by
 rcases I.ok.stk with e | ⟨e,hf⟩
 ·rw [e] at hb;exact aB5 _ hb
 ·rw [e] at hb
  unfold frs at hb
  rw [List.filterMap_cons,hf] at hb
  exact hb
theorem Inv.stkFree (I:Inv X pins σ H s):∀ b∈frs X.stack,H b=none:=fun b hb=>by
 rcases aA9.mp (I.stkSub b hb) with e | hb
 ·rw [e];exact I.free
 ·obtain ⟨_,o,a,_⟩:=I.ok.funs.mem hb
  exact I.base.free b o a (I.ok.frf b hb) fun z=>I.ok.exfs b z hb
theorem Inv.step {g':Array GenState} {t':Nat} {d':Drawn} {ch:List Addr} (I:Inv X pins σ H s)
  (g:∀ b∈ch,(b∈X.ex\/X.s₀.heap.objs.size<=b)/\b ≠ X.env.locals/\(∀ x c,X.env.cells.lookup x=some c->c ≠ b)/\∀ p∈X.pn ++ pins,p.1 ≠ b)
  (keep:∀ b o,b ≠ X.env.locals->b ∉ X.fs->b ∉ ch->s.heap.get? b=some o->H b=none->h'.get? b=some o)
  (slot:∀ b o,b ≠ X.env.locals->b∈X.fs->b ∉ ch->s.heap.get? b=some o->H b=none->∃ sl,h'.get? b=some { o with slots:=sl }) (free:∀ b o,b ∉ ch->s.heap.get? b=some o->H b=none->H' b=none)
  (there:∀ b o,b ∉ ch->s.heap.get? b=some o->∃ o',h'.get? b=some o')
  (tups:∀ b xs,H b=some (.tup xs)->H' b=some (.tup xs)) (frzs:∀ b o u,H b=some (.frz o u)->H' b=some (.frz o u)) (tbls:∀ b ps,H b=some (.tbl ps)->∃ more,H' b=some (.tbl (ps ++ more)))
  (ns:∀ m,s.heap.Ns X.env.locals m->h'.Ns X.env.locals m) (hok:HOk X.prog X.w H' h') (M:AllBare g') :
  Inv X pins σ H' { s with heap:=h',gens:=g',drawn:=d',toks:=t' }:=by
 have B:∀ b o,X.s₀.heap.get? b=some o->b ≠ X.env.locals:=fun b o e=>aB6 (aC5 (aJ2 e) I.ok.above)
 have t:∀ b o,X.s₀.heap.get? b=some o->b ∉ X.ex->b ∉ ch:=fun b o e a hb=>by
  rcases (g b hb).1 with z | z
  ·exact a z
  ·exact absurd (aC5 (aJ2 e) z) (aG4 _)
 have h:∀ x c,X.env.cells.lookup x=some c->∀ v,s.heap.IsCell c v->h'.IsCell c v:=fun x c e v L=>by
  obtain ⟨o,y,hd⟩:=L
  have f:c ∉ ch:=fun z=>(g c z).2.2.1 x c e rfl
  by_cases hc:c∈X.fs
  ·obtain ⟨sl,q⟩:=slot c o (I.cne x c e) hc f y (I.freeC x c e)
   exact ⟨_,q,hd⟩
  ·exact ⟨o,keep c o (I.cne x c e) hc f y (I.freeC x c e),hd⟩
 refine ⟨I.ok,I.os,M,⟨fun b o e n hb a=>?_,fun b o e n hb a=>?_,fun b o e n a=>?_,fun b o e a=>?_,fun b xs e=>tups b xs (I.base.tups b xs e),fun b o xs e=>frzs b o xs (I.base.frzs b o xs e),fun b ps e=>?_⟩,?_,fun x c e=>?_,?_,fun x c e=>?_,fun p E=>?_,hok,I.len⟩
 ·exact keep b o (B b o e) hb (t b o e a) (I.base.keep b o e n hb a) (I.base.free b o e n a)
 ·obtain ⟨sl,j⟩:=I.base.slot b o e n hb a
  obtain ⟨C,A⟩:=slot b _ (B b o e) hb (t b o e a) j (I.base.free b o e n a)
  exact ⟨C,A⟩
 ·obtain ⟨o',j⟩:=I.base.there b o e a
  exact free b o' (t b o e a) j (I.base.free b o e n a)
 ·obtain ⟨o',j⟩:=I.base.there b o e a
  exact there b o' (t b o e a) j
 ·obtain ⟨J,j⟩:=I.base.tbls b ps e
  obtain ⟨G,A⟩:=tbls b _ j
  exact ⟨J ++ G,by rw [A,Array.append_assoc]⟩
 ·obtain ⟨m,hn,K⟩:=I.loc
  refine ⟨m,ns m hn,fun i x v j A F=>?_⟩
  obtain ⟨u,r,l⟩:=K i x v j A F
  refine ⟨u,r,?_⟩
  rcases l with l | ⟨k,c,e,z⟩
  ·exact .inl l
  ·exact .inr ⟨k,c,e,h x c e _ z⟩
 ·obtain ⟨v,z⟩:=I.cell x c e
  exact ⟨v,h x c e v z⟩
 ·obtain ⟨m,⟨o,_,_,y,_⟩,_⟩:=I.loc
  exact free _ o (fun z=>(g _ z).2.1 rfl) y I.free
 ·obtain ⟨v,o,y,hd⟩:=I.cell x c e
  exact free c o (fun z=>(g c z).2.2.1 x c e rfl) y (I.freeC x c e)
 ·obtain ⟨e,n,ne,D,d⟩:=I.pin p E
  have f:p.1 ∉ ch:=fun z=>(g p.1 z).2.2.2 p E rfl
  exact ⟨keep p.1 p.2 ne D f e n,free p.1 p.2 f e n,ne,D,d⟩
theorem Inv.un {t':Nat} (I:Inv X pins σ H s) (u:Un X.fs [] H H' s.heap h') (hok:HOk X.prog X.w H' h'):Inv X pins σ H' { s with heap:=h',toks:=t' }:=by
 obtain ⟨m,⟨o,es,ep,d,r⟩,_⟩:=id I.loc
 obtain ⟨sl,f⟩:=u.any d I.free (by simp)
 exact I.step (g':=s.gens) (d':=s.drawn) (ch:=[]) (fun _ z=>nomatch z) (fun b o _ hb _ e n=>u.keep b o e n hb (by simp)) (fun b o _ hb _ e n=>u.slot b o e n hb (by simp)) (fun b o _ e n=>u.free b o e n (by simp)) (fun b o _ e=>u.there b o e (by simp)) u.tups u.frzs u.tbls (fun h hm=>by
  obtain ⟨o',es',c,a,g⟩:=hm
  rw [d] at a;cases a
  exact ⟨_,es',c,f,g⟩) hok I.bare
theorem Inv.call {g':Array GenState} {t':Nat} {d':Drawn} {ch:List Addr} (I:Inv X pins σ H s) (u:Un (frs X.stack) ch H H' s.heap h') (hok:HOk X.prog X.w H' h') (l:AllBare g')
  (d:∀ b∈ch,(b∈X.ex\/X.s₀.heap.objs.size<=b)/\b ≠ X.env.locals/\(∀ x c,X.env.cells.lookup x=some c->c ≠ b)/\∀ p∈X.pn ++ pins,p.1 ≠ b) :
  Inv X pins σ H' { s with heap:=h',gens:=g',drawn:=d',toks:=t' }:=by
 obtain ⟨m,⟨o,es,ep,i,r⟩,_⟩:=id I.loc
 obtain ⟨sl,g⟩:=u.any i I.free fun z=>(d _ z).2.1 rfl
 exact I.step (ch:=ch) d (fun b o g hb a e n=>u.keep b o e n (fun z=>(aA9.mp (I.stkSub b z)).elim g hb) a) (fun b o _ _ a e n=>u.any e n a) (fun b o a e n=>u.free b o e n a) (fun b o a e=>u.there b o e a) u.tups u.frzs u.tbls (fun q hm=>by
  obtain ⟨o',es',h,f,j⟩:=hm
  rw [i] at f;cases f
  exact ⟨_,es',h,g,j⟩) hok l
theorem Inv.turned {t':Nat} {it:Addr} (I:Inv X pins σ H s) (k:∀ b o,b ≠ it->s.heap.get? b=some o->h'.get? b=some o) (hn:H it=none) (f:it ≠ X.env.locals)
  (h:it∈X.ex\/X.s₀.heap.objs.size<=it) (i:∀ x c,X.env.cells.lookup x=some c->c ≠ it) (j:∀ p∈X.pn ++ pins,p.1 ≠ it):Inv X pins σ H { s with heap:=h',toks:=t' }:=by
 have d:∀ b u,H b=some u->b ≠ it:=fun b u e z=>by rw [z,hn] at e;cases e
 refine I.step (g':=s.gens) (d':=s.drawn) (ch:=[it]) (fun b hb=>?_) (fun b o _ _ a e _=>k b o (fun z=>a (by simp [z])) e) (fun b o _ _ a e _=>⟨o.slots,k b o (fun z=>a (by simp [z])) e⟩) (fun _ _ _ _ n=>n)
  (fun b o a e=>⟨o,k b o (fun z=>a (by simp [z])) e⟩) (fun _ _ e=>e) (fun _ _ _ e=>e) (fun b ps e=>⟨#[],by rw [e];simp⟩) (fun m hm=>?_) (fun b u e=>?_) I.bare
 ·have e:b=it:=by simpa using hb
  subst e
  exact ⟨h,f,i,j⟩
 ·obtain ⟨o,es,ep,g,r⟩:=hm
  exact ⟨o,es,ep,k _ o (Ne.symm f) g,r⟩
 ·refine (I.hok b u e).stay (fun c v a q=>k c v ?_ q) (fun _ q=>q) fun _ _ q=>q
  rcases a with z | z
  ·rw [z];exact d b u e
  ·exact d c _ z
theorem Inv.tok (I:Inv X pins σ H s) (t:Nat):Inv X pins σ H { s with toks:=t }:=I.un (h':=s.heap) (t':=t) Un.refl I.hok
theorem Inv.kept {t':Nat} (I:Inv X pins σ H s) (k:∀ b u,s.heap.get? b=some u->h'.get? b=some u):Inv X pins σ H { s with heap:=h',toks:=t' }:=I.un (Un.kept k) (I.hok.kept k)
theorem Inv.laid {a:Addr} {o:HO} {t':Nat} (I:Inv X pins σ H s) (k:∀ b u,s.heap.get? b=some u->h'.get? b=some u) (c:s.heap.objs.size<=a) (new:ObjOk X.prog X.w (upd H a o) h' a o) :
  Inv X pins σ (upd H a o) { s with heap:=h',toks:=t' }:=I.un (Un.laid k c (I.hok.fresh c)) (I.hok.laid k c new)
theorem Inv.write {x e:Addr} {o:HO} {t':Nat} (I:Inv X pins σ H s) (d:Mut (H x)) (c:e=x\/H e=some (.own x)) (k:∀ b u,b ≠ e->s.heap.get? b=some u->h'.get? b=some u) (a:∃ u,h'.get? e=some u)
  (new:ObjOk X.prog X.w (upd H x o) h' x o):Inv X pins σ (upd H x o) { s with heap:=h',toks:=t' }:=I.un (Un.write d c k a) (I.hok.write d c k a new)
theorem Inv.pins_of {a:List (Addr × Obj)} (I:Inv X pins σ H s) (h:∀ p∈a,s.heap.get? p.1=some p.2/\H p.1=none/\p.1 ≠ X.env.locals/\p.1 ∉ X.fs/\∀ v,p.2.data ≠ .cell v):Inv X a σ H s :=
 ⟨I.ok,I.os,I.bare,I.base,I.loc,I.cell,I.free,I.freeC,fun p b=>(aA7.mp b).elim (fun z=>I.pin p (aC7 _ z)) (h p),I.hok,I.len⟩
theorem nodup_ix {N:List Str} (d:N.Nodup) {i j:Nat} {x:Str} (a:N[i]?=some x) (b:N[j]?=some x):i=j:=by
 obtain ⟨g,f⟩:=aA1.mp a
 obtain ⟨h,c⟩:=aA1.mp b
 exact (List.getElem_inj d).mp (f.trans c.symm)
theorem ajq {M:Model} {A:Around} {E:Value->Shared->Prop} {i:Nat} {x:Str} {v:V} {u:Value} {Q:Unit->Shared->Prop} (I:Inv X pins σ H s) (hN:X.N.Nodup) (hi:X.N[i]?=some x) (t:Loc X.env.scope x) (r:RelV v u)
  (h:∀ s',Inv X pins (σ.set i (some v)) H s'->(∃ a,Heap.SameBut a s.heap s'.heap/\(a=X.env.locals\/X.env.cells.lookup x=some a))->Q () s') (hf:X.fn x=true\/X.env.scope.names.lookup x=some .local:=by first | exact .inl rfl | exact .inr rfl | assumption):wpAny M A (storeName X.env x u) Q E s:=by
 obtain ⟨m,hn,hl⟩:=id I.loc
 have O:(X.env.scope.kind == .class || (X.env.scope.kind == .module && X.env.locals != X.env.globals))=false:=by rw [I.ok.kind];rfl
 have F:i < σ.length:=by rw [I.len];exact (aA1.mp hi).1
 have cne:=I.cne
 have g:∀ {a:Addr} {h':Heap},(∃ o,s.heap.get? a=some o/\H a=none)->Heap.SameBut a s.heap h'->HOk X.prog X.w H h':=fun {a h'} ha hs b ob e=>by
  obtain ⟨_,_,B⟩:=ha
  refine (I.hok b ob e).stay (fun c P l q=>(hs.2 c ?_).trans q) (fun _ q=>q) fun _ _ q=>q
  rintro rfl
  rcases l with rfl | l
  ·rw [B] at e;cases e
  ·rw [B] at l;cases l
 rcases t with D | D
 ·refine wpAny_storeName_local D hn (fun h' a0 hs=>?_) O
  obtain ⟨oL,_,_,Z,_⟩:=id hn
  refine h _ ⟨I.ok,I.os,I.bare,⟨fun b o e n hb t=>?_,fun b o e n hb t=>?_,I.base.free,fun b o e t=>?_,I.base.tups,I.base.frzs,I.base.tbls⟩,⟨_,a0,fun j y W f C S=>?_⟩,fun y c e=>?_,I.free,I.freeC,fun p hp=>?_,g ⟨oL,Z,I.free⟩ hs,by simpa using I.len⟩ ⟨_,hs,.inl rfl⟩
  ·exact (hs.2 b (aB6 (aC5 (aJ2 e) I.ok.above))).trans (I.base.keep b o e n hb t)
  ·obtain ⟨sl,f⟩:=I.base.slot b o e n hb t
   exact ⟨sl,(hs.2 b (aB6 (aC5 (aJ2 e) I.ok.above))).trans f⟩
  ·obtain ⟨o',f⟩:=I.base.there b o e t
   exact ⟨o',(hs.2 b (aB6 (aC5 (aJ2 e) I.ok.above))).trans f⟩
  ·by_cases hj:j=i
   ·subst hj
    rw [hi] at f;cases f
    rw [List.getElem?_set_self F] at C
    cases C
    exact ⟨u,r,.inl ⟨D,by simp⟩⟩
   ·rw [List.getElem?_set_ne (Ne.symm hj)] at C
    obtain ⟨T,Y,q⟩:=hl j y W f C S
    refine ⟨T,Y,?_⟩
    rcases q with ⟨k,e⟩ | ⟨k,c,e,z⟩
    ·refine .inl ⟨k,?_⟩
     have:y ≠ x:=fun e=>hj (nodup_ix hN f (e ▸ hi))
     simp [this,e]
    ·exact .inr ⟨k,c,e,z.sameBut hs (cne y c e)⟩
  ·obtain ⟨P,z⟩:=I.cell y c e
   exact ⟨P,z.sameBut hs (cne y c e)⟩
  ·obtain ⟨e,n,ne,U,d⟩:=I.pin p hp
   exact ⟨(hs.2 p.1 ne).trans e,n,ne,U,d⟩
 ·have G:X.fn x=true:=by
   rcases hf with z | z
   ·exact z
   ·rw [z] at D;cases D
  obtain ⟨c,l⟩:=I.ok.has x (.inl D)
  obtain ⟨P,z⟩:=I.cell x c l
  refine wpAny_storeName_cell I.ok.kind D l z (fun h' L hs=>?_)
  obtain ⟨oc,K,J⟩:=id z
  refine h { s with heap:=h' } ⟨I.ok,I.os,I.bare,⟨fun b o e n hb t=>?_,fun b o e n hb t=>?_,I.base.free,fun b o e t=>?_,I.base.tups,I.base.frzs,I.base.tbls⟩,⟨m,hn.sameBut hs (Ne.symm (cne x c l)),fun j y W f C S=>?_⟩,fun y R e=>?_,I.free,I.freeC,fun p hp=>?_,g ⟨oc,K,I.freeC x c l⟩ hs,by simpa using I.len⟩ ⟨c,hs,.inr l⟩
  ·exact (hs.2 b (aB6 (aC5 (aJ2 e) (I.ok.cab x c G l)))).trans (I.base.keep b o e n hb t)
  ·obtain ⟨sl,f⟩:=I.base.slot b o e n hb t
   exact ⟨sl,(hs.2 b (aB6 (aC5 (aJ2 e) (I.ok.cab x c G l)))).trans f⟩
  ·obtain ⟨o',f⟩:=I.base.there b o e t
   exact ⟨o',(hs.2 b (aB6 (aC5 (aJ2 e) (I.ok.cab x c G l)))).trans f⟩
  ·by_cases hj:j=i
   ·subst hj
    rw [hi] at f;cases f
    rw [List.getElem?_set_self F] at C
    cases C
    exact ⟨u,r,.inr ⟨.inl D,c,l,L⟩⟩
   ·rw [List.getElem?_set_ne (Ne.symm hj)] at C
    obtain ⟨T,Y,q⟩:=hl j y W f C S
    refine ⟨T,Y,?_⟩
    rcases q with q | ⟨k,R,e,z'⟩
    ·exact .inl q
    ·refine .inr ⟨k,R,e,z'.sameBut hs ?_⟩
     rintro rfl
     exact hj (nodup_ix hN f (I.ok.inj _ _ _ e l ▸ hi))
  ·by_cases hcc:R=c
   ·subst hcc;exact ⟨_,L⟩
   ·obtain ⟨w2,z2⟩:=I.cell y R e
    exact ⟨w2,z2.sameBut hs hcc⟩
  ·obtain ⟨e,n,ne,U,d⟩:=I.pin p hp
   refine ⟨(hs.2 p.1 ?_).trans e,n,ne,U,d⟩
   intro q
   rw [q,K] at e
   have q':oc=p.2:=aC6 e
   exact d P (by rw [← q'];exact J)
theorem ag8 {M:Model} {A:Around} {E:Value->Shared->Prop} {i:Nat} {x:Str} {v:V} {u:Value} {Q:Unit->Shared->Prop} (I:Inv X pins σ H s) (a:X.N.Nodup) (hi:X.N[i]?=some x) (b:Loc X.env.scope x) (r:RelV v u)
  (h:∀ s',Inv X pins (σ.set i (some v)) H s'->Q () s') (hf:X.fn x=true\/X.env.scope.names.lookup x=some .local:=by first | exact .inl rfl | exact .inr rfl | assumption):wpAny M A (storeName X.env x u) Q E s :=
 ajq I a hi b r (fun s' c _=>h s' c) hf
theorem Inv.call' {s':Shared} {ch:List Addr} (I:Inv X pins σ H s) (f:s'.os=s.os) (u:Un (frs X.stack) ch H H' s.heap s'.heap) (hok:HOk X.prog X.w H' s'.heap) (d:AllBare s'.gens)
  (a:∀ b∈ch,(b∈X.ex\/X.s₀.heap.objs.size<=b)/\b ≠ X.env.locals/\(∀ x c,X.env.cells.lookup x=some c->c ≠ b)/\∀ p∈X.pn ++ pins,p.1 ≠ b):Inv X pins σ H' s':=by
 obtain ⟨h',g',d',t',o'⟩:=s'
 have e:o'=s.os:=f
 subst e
 exact I.call (g':=g') (t':=t') (d':=d') u hok d a
end
abbrev XK:=Value->Option Addr->Hp->Prop
abbrev St:=List (Option V)
abbrev VK:=V->Hp->Prop
abbrev TE:=St->Hp->VK->Prop
abbrev TT:=St->Hp->(Bool->Hp->Prop)->Prop
abbrev TA:=St->Hp->(List V->Hp->Prop)->Prop
structure Ends where
 nx:St->Hp->Prop
 rt:VK
 bk:St->Hp->Prop:=fun _ _=>False
 ct:St->Hp->Prop:=fun _ _=>False
abbrev TS:=Ends->St->Hp->Prop
def EP (X:Cx) (pins:List (Addr × Obj)) (σ:St) (Q:VK) (u:Value) (s':Shared):Prop:=∃ v H',Inv X pins σ H' s'/\RelV v u/\Q v H'
def TP (X:Cx) (pins:List (Addr × Obj)) (σ:St) (Q:Bool->Hp->Prop) (b:Bool) (s':Shared):Prop:=∃ H',Inv X pins σ H' s'/\Q b H'
def AP (X:Cx) (pins:List (Addr × Obj)) (σ:St) (Q:List V->Hp->Prop) (us:List Value) (s':Shared):Prop:=∃ vs H',Inv X pins σ H' s'/\Vals vs us/\Q vs H'
def SP (X:Cx) (pins:List (Addr × Obj)) (D:Ends) (f:Flow) (s':Shared):Prop :=
 match f with
 | .next=>∃ σ' H',Inv X pins σ' H' s'/\D.nx σ' H'
 | .brk=>∃ σ' H',Inv X pins σ' H' s'/\D.bk σ' H'
 | .cont=>∃ σ' H',Inv X pins σ' H' s'/\D.ct σ' H'
 | .ret u=>∃ v σ' H',Inv X pins σ' H' s'/\RelV v u/\D.rt v H'
def PE (X:Cx) (e:Expr) (t:TE):Prop :=
 ∀ (pins:List (Addr × Obj)) (s:Shared) (σ:St) (H:Hp) (Q:VK),Inv X pins σ H s->t σ H Q->wpAny (model X.prog X.w) X.A (eval e X.env) (EP X pins σ Q) X.xe s
def PT (X:Cx) (e:Expr) (t:TT):Prop :=
 ∀ (pins:List (Addr × Obj)) (s:Shared) (σ:St) (H:Hp) (Q:Bool->Hp->Prop),Inv X pins σ H s->t σ H Q->wpAny (model X.prog X.w) X.A (isTrue e X.env (eval e X.env)) (TP X pins σ Q) X.xe s
def PW (X:Cx) (e:Expr) (t:TT):Prop :=
 ∀ (whole:Sem Value) (pins:List (Addr × Obj)) (s:Shared) (σ:St) (H:Hp) (Q:Bool->Hp->Prop),Inv X pins σ H s->t σ H Q->wpAny (model X.prog X.w) X.A (isTrue e X.env whole) (TP X pins σ Q) X.xe s
theorem PW.pt {X:Cx} {e:Expr} {t:TT} (h:PW X e t):PT X e t:=h _
def PA (X:Cx) (es:List Expr) (t:TA):Prop :=
 ∀ (pos:Pos) (pins:List (Addr × Obj)) (s:Shared) (σ:St) (H:Hp) (Q:List V->Hp->Prop),Inv X pins σ H s->t σ H Q->wpAny (model X.prog X.w) X.A (spliced (backTo pos (starEach es X.env))) (AP X pins σ Q) X.xe s
def PS (X:Cx) (st:Stmt) (t:TS):Prop :=
 ∀ (pins:List (Addr × Obj)) (s:Shared) (σ:St) (H:Hp) (D:Ends),Inv X pins σ H s->t D σ H->wpAny (model X.prog X.w) X.A (exec st X.env) (SP X pins D) X.xe s
def PSs (X:Cx) (st:List Stmt) (t:TS):Prop :=
 ∀ (pins:List (Addr × Obj)) (s:Shared) (σ:St) (H:Hp) (D:Ends),Inv X pins σ H s->t D σ H->wpAny (model X.prog X.w) X.A (execs st X.env) (SP X pins D) X.xe s
theorem thn {α:Type} {t:Sem α} {Q b : α->Shared->Prop} {M:Model} {A:Around} {E:Value->Shared->Prop} {s:Shared} (h:wpAny M A t Q E s) (c:∀ a s,Q a s->b a s):wpAny M A t b E s:=aJ8 h c fun _ _ x=>x
section
variable {X:Cx}
def tVar (i:Nat):TE:=fun σ H Q=>∃ v,σ[i]?=some (some v)/\Q v H
def tC (v:V):TE:=fun _ H Q=>Q v H
theorem ay1 {i:Nat} {x:Str} {f:Pos} (n:X.N[i]?=some x) (j:Vis X.env.scope x) (hd:(x == ("__debug__" : Str))=false:=by decide) (d:(x == ("__classdict__" : Str))=false:=by decide):PE X (.Name x f) (tVar i):=by
 intro pins s σ H Q I h
 obtain ⟨v,e,h⟩:=h
 obtain ⟨m,hn,o⟩:=I.loc
 obtain ⟨u,r,l⟩:=o i x v n e j
 have fin:EP X pins σ Q u s:=⟨v,H,I,r,h⟩
 rcases l with ⟨b,hm⟩ | ⟨b,c,g,a⟩
 ·exact wpAny_Name (wpAny_loadName_local I.ok.kind b hn hm fin) hd
 ·rcases b with b | b
  ·exact wpAny_Name (wpAny_loadName_cell I.ok.kind b g a fin) hd
  ·exact wpAny_Name (wpAny_loadName_free I.ok.kind b g a fin d) hd
theorem aad {i j pos}:PE X (.Constant (.int i) j pos) (tC (.int i)):=fun _ _ _ H _ I h=>wpAny_Constant_int ⟨.int i,H,I.tok _,⟨_,rfl⟩,h⟩
theorem ad2 {b j pos}:PE X (.Constant (.bool b) j pos) (tC (.bl b)):=fun _ _ _ H _ I h=>Constant_bool ⟨.bl b,H,I,rfl,h⟩
theorem ac0 {j pos}:PE X (.Constant .none j pos) (tC .non):=fun _ _ _ H _ I h=>Constant_none ⟨.non,H,I,rfl,h⟩
theorem ace {x j pos}:PE X (.Constant (.str x) j pos) (tC (.str x)):=fun _ _ _ H _ I h=>Calls.Constant_str ⟨.str x,H,I.tok _,⟨_,rfl⟩,h⟩
def Gl (X:Cx) (x:Str):Prop:=X.env.kindOf x=some .globalImplicit
theorem aew {E:Value->Shared->Prop} {pins:List (Addr × Obj)} {s:Shared} {σ:St} {H:Hp} {x:Str} {u:Value} {a:Pos} {Q:Value->Shared->Prop} (I:Inv X pins σ H s) (b:Gl X x) (hm:X.mg x=some u) (h:Q u s)
  (hd:(x == ("__debug__" : Str))=false:=by decide):wpAny (model X.prog X.w) X.A (eval (.Name x a) X.env) Q E s :=
 Calls.Name_function_global I.ok.kind b (Calls.loadGlobal_global (by rw [I.ok.glob];exact I.mod.glob.keeps I.bk) hm h) hd
theorem ado {E:Value->Shared->Prop} {pins:List (Addr × Obj)} {s:Shared} {σ:St} {H:Hp} {x:Str} {u:Value} {a:Pos} {Q:Value->Shared->Prop} (I:Inv X pins σ H s) (d:Gl X x) (hm:X.mg x=none) (f:bootBuiltins x=some u) (h:Q u s)
  (hn:x ≠ "__name__":=by decide) (hd:(x == ("__debug__" : Str))=false:=by decide):wpAny (model X.prog X.w) X.A (eval (.Name x a) X.env) Q E s:=by
 obtain ⟨mb,b,c⟩:=I.mod.blt
 exact Calls.Name_function_global I.ok.kind d (Calls.loadGlobal_builtin (by rw [I.ok.glob];exact I.mod.glob.keeps I.bk) hm (by rw [I.ok.blt];exact b.keeps I.bk) ((c x hn).trans f) h) hd
theorem ach {x:Str} {v:V} {u:Value} {a:Pos} (b:Gl X x) (hm:X.mg x=some u) (r:RelV v u) (hd:(x == ("__debug__" : Str))=false:=by decide):PE X (.Name x a) (tC v) :=
 fun _ _ _ H _ I h=>aew I b hm ⟨v,H,I,r,h⟩ hd
theorem aex {x:Str} {v:V} {u:Value} {a:Pos} (b:Gl X x) (hm:X.mg x=none) (c:bootBuiltins x=some u) (r:RelV v u) (hn:x ≠ "__name__":=by decide) (hd:(x == ("__debug__" : Str))=false:=by decide):PE X (.Name x a) (tC v) :=
 fun _ _ _ H _ I h=>ado I b hm c ⟨v,H,I,r,h⟩ hn hd
variable {a b:Expr} {ta tb:TE} {pos:Pos}
def tB (t:TE):TT:=fun σ H Q=>t σ H fun x H1=>∃ c,x=.bl c/\Q c H1
theorem ac1 {e:Expr} {t:TE} (h:PE X e t) (i:∀ whole,isTrue e X.env whole=(do let v ← whole;standAt e.pos;holding [v] (truthy v)):=by intro _;rfl):PT X e (tB t):=by
 intro pins s σ H Q I c
 refine isTrue_plain (thn (h pins s σ H _ I c) fun v s1 ⟨x,f,b,a,g⟩=>?_) (i _)
 obtain ⟨d,rfl,q⟩:=g
 cases a
 exact aK3 ⟨f,b,q⟩
variable {tA tB':TT} {rest:List Expr}
def tAnd (t u:TT):TT:=fun σ H Q=>t σ H fun c H1=>if c=true then u σ H1 Q else Q false H1
def tOr (t u:TT):TT:=fun σ H Q=>t σ H fun c H1=>if c=true then Q true H1 else u σ H1 Q
def tNot (t:TT):TT:=fun σ H Q=>t σ H fun c H1=>Q (!c) H1
theorem agd (ha:PT X a tA):PW X (.BoolOp .And [a] pos) tA:=by
 intro b pins s σ H Q I h
 refine isTrue_and (thn (ha pins s σ H Q I h) fun c s1 e=>?_)
 cases c with
 | true=>exact isTrue_and_nil e
 | false=>exact e
theorem ahu (ha:PT X a tA):PW X (.BoolOp .Or [a] pos) tA:=by
 intro b pins s σ H Q I h
 refine isTrue_or (thn (ha pins s σ H Q I h) fun c s1 e=>?_)
 cases c with
 | false=>exact isTrue_or_nil e
 | true=>exact e
theorem ahv (ha:PT X a tA) (hb:PW X (.BoolOp .And (b :: rest) pos) tB'):PW X (.BoolOp .And (a :: b :: rest) pos) (tAnd tA tB'):=by
 intro i pins s σ H Q I h
 refine isTrue_and (thn (ha pins s σ H _ I h) fun c s1 ⟨g,f,d⟩=>?_)
 cases c with
 | true=>exact hb i pins s1 σ g Q f d
 | false=>exact ⟨g,f,d⟩
theorem ale (ha:PT X a tA) (hb:PW X (.BoolOp .Or (b :: rest) pos) tB'):PW X (.BoolOp .Or (a :: b :: rest) pos) (tOr tA tB'):=by
 intro i pins s σ H Q I h
 refine isTrue_or (thn (ha pins s σ H _ I h) fun c s1 ⟨g,f,d⟩=>?_)
 cases c with
 | true=>exact ⟨g,f,d⟩
 | false=>exact hb i pins s1 σ g Q f d
theorem ac5 (ha:PT X a tA):PT X (.UnaryOp .Not a pos) (tNot tA):=by
 intro pins s σ H Q I h
 exact isTrue_not (ha pins s σ H (fun c b=>Q (!c) b) I h)
def apw (ta tb:TE):TE:=fun σ H Q=>ta σ H fun x H1=>∃ c,x=.bl c/\if c=true then tb σ H1 Q else Q (.bl false) H1
def apx (ta:TE):TE:=fun σ H Q=>ta σ H fun x H1=>∃ c,x=.bl c/\Q (.bl (!c)) H1
theorem ahw {op} {t:TE} (h:PE X a t):PE X (.BoolOp op [a] pos) t:=fun pins s σ H Q I b=>BoolOp_one (h pins s σ H Q I b)
theorem afr (ha:PE X a ta) (hb:PE X (.BoolOp .And (b :: rest) pos) tb):PE X (.BoolOp .And (a :: b :: rest) pos) (apw ta tb):=by
 intro pins s σ H Q I h
 refine BoolOp_and (thn (ha pins s σ H _ I h) fun v s1 ⟨x,g,f,i,d⟩=>?_)
 obtain ⟨c,rfl,d⟩:=d
 cases i
 refine aK3 ?_
 cases c with
 | true=>exact hb pins s1 σ g Q f d
 | false=>exact ⟨.bl false,g,f,rfl,d⟩
theorem ay2 (ha:PE X a ta):PE X (.UnaryOp .Not a pos) (apx ta):=by
 intro pins s σ H Q I h
 refine UnaryOp_ (thn (ha pins s σ H _ I h) fun v s1 ⟨x,g,d,f,b⟩=>?_)
 obtain ⟨c,rfl,b⟩:=b
 cases f
 exact not_of (aK3 ⟨.bl (!c),g,d,rfl,b⟩)
end
def SqL (K:Frag) (H:Hp) (a:Addr) (xs:List V):Prop :=
 Rd H a (.lst xs) ∨
  ∃ (o:Obj) (its:Array Value) (n:Nat),K.lookup a=some o/\o.cls=.type "list"/\o.dict=none/\o.data=.seq its n/\its.size<=sizeLine/\Vals xs its.toList
def SqT (K:Frag) (H:Hp) (a:Addr) (xs:List V):Prop :=
 Rd H a (.tup xs) ∨
  ∃ (o:Obj) (its:Array Value) (n:Nat),K.lookup a=some o/\o.cls=.type "tuple"/\o.data=.seq its n/\its.size<=sizeLine/\Vals xs its.toList
def absV:Value->Option V
 | .none=>some .non
 | .bool b=>some (.bl b)
 | .int i _=>some (.int i)
 | .str x _=>some (.str x)
 | .bytes b _=>some (.byt b)
 | .float b _=>some (.flt b)
 | .ref a=>some (.ref a)
 | .type n=>some (.ty n)
 | _=>none
theorem RelV.abs {x:V} {u:Value} (r:RelV x u):absV u=some x:=by
 cases x with
 | non=>cases r;rfl
 | bl _=>cases r;rfl
 | int _=>obtain ⟨t,rfl⟩:=r;rfl
 | str _=>obtain ⟨t,rfl⟩:=r;rfl
 | byt _=>obtain ⟨t,rfl⟩:=r;rfl
 | flt _=>obtain ⟨t,rfl⟩:=r;rfl
 | ref _=>cases r;rfl
 | ty _=>cases r;rfl
theorem RelV.inj {x y:V} {u:Value} (r:RelV x u) (q:RelV y u):x=y:=aC6 (r.abs.symm.trans q.abs)
theorem Vals.inj:∀ {xs ys:List V} {us:List Value},Vals xs us->Vals ys us->xs=ys
 | _,_,_,.nil,.nil=>rfl
 | _,_,_,.cons r t,.cons r' t'=>by rw [r.inj r',Vals.inj t t']
section
variable {X:Cx} {pins:List (Addr × Obj)} {σ:St} {H:Hp} {s:Shared} {a:Addr} {xs ys:List V}
theorem SqL.of {K:Frag} (h:H a=some (.lst xs)):SqL K H a xs:=.inl (.inl h)
theorem SqT.of {K:Frag} (h:H a=some (.tup xs)):SqT K H a xs:=.inl (.inl h)
theorem Inv.list (I:Inv X pins σ H s) (h:SqL X.K H a xs):∃ its:List Value,Vals xs its/\PlainL s.heap a its.toArray/\xs.length<=sizeLine:=by
 rcases h with h | ⟨o,its,n,b,c,hd,hs,hz,r⟩
 ·obtain ⟨z,its,n,r,e⟩:=h.ok I.hok
  exact ⟨its,r,⟨_,n,e,rfl,rfl,rfl⟩,z⟩
 ·refine ⟨its.toList,r,⟨o,n,I.kIn a o b,c,hd,by simpa using hs⟩,?_⟩
  have e:=r.length
  simp only [aA8] at e
  omega
theorem Inv.tuple (I:Inv X pins σ H s) (h:SqT X.K H a xs):∃ its:List Value,Vals xs its/\IsTup s.heap a its.toArray/\xs.length<=sizeLine:=by
 rcases h with h | ⟨o,its,n,b,c,hs,hz,r⟩
 ·obtain ⟨z,its,r,p⟩:=h.ok I.hok
  exact ⟨its,r,p,z⟩
 ·refine ⟨its.toList,r,⟨o,I.kIn a o b,c,n,by simpa using hs⟩,?_⟩
  have e:=r.length
  simp only [aA8] at e
  omega
theorem Inv.list_inj (I:Inv X pins σ H s) (h:SqL X.K H a xs) (h':SqL X.K H a ys):xs=ys:=by
 obtain ⟨its,r,⟨o,n,e,_,_,d⟩,_⟩:=I.list h
 obtain ⟨its',c,⟨o',g,b,_,_,d'⟩,_⟩:=I.list h'
 rw [e] at b;cases b
 rw [d] at d'
 injection d' with f _
 have:its=its':=by simpa using congrArg Array.toList f
 subst this
 exact r.inj c
end
abbrev Cx.wish (X:Cx) (E:Value->Shared->Prop):Cx:={ X with xe:=E }
abbrev Cx.nox (X:Cx):Cx:=X.wish fun _ _=>False
theorem Cx.Ok.wish {X:Cx} (ok:X.Ok) (E:Value->Shared->Prop):(X.wish E).Ok :=
 ⟨ok.mod,ok.kind,ok.glob,ok.blt,ok.above,ok.inj,ok.has,ok.cab,ok.hd,ok.frames,ok.stk,ok.exf,ok.bs,ok.bsz,ok.noex,ok.exfs,ok.funs,ok.frf⟩
theorem Cx.Ok.unwish {X:Cx} {E:Value->Shared->Prop} (ok:(X.wish E).Ok):X.Ok :=
 ⟨ok.mod,ok.kind,ok.glob,ok.blt,ok.above,ok.inj,ok.has,ok.cab,ok.hd,ok.frames,ok.stk,ok.exf,ok.bs,ok.bsz,ok.noex,ok.exfs,ok.funs,ok.frf⟩
section
variable {X:Cx} {pins:List (Addr × Obj)} {σ:St} {H:Hp} {s:Shared} {E:Value->Shared->Prop}
theorem Inv.wish (I:Inv X pins σ H s) (E:Value->Shared->Prop):Inv (X.wish E) pins σ H s:=⟨I.ok.wish E,I.os,I.bare,I.base,I.loc,I.cell,I.free,I.freeC,I.pin,I.hok,I.len⟩
theorem Inv.unwish (I:Inv (X.wish E) pins σ H s):Inv X pins σ H s:=⟨I.ok.unwish,I.os,I.bare,I.base,I.loc,I.cell,I.free,I.freeC,I.pin,I.hok,I.len⟩
theorem SP.unwish {D:Ends} {f:Flow} {s':Shared} (h:SP (X.wish E) pins D f s'):SP X pins D f s':=by
 cases f with
 | next=>obtain ⟨a,H',I,q⟩:=h;exact ⟨a,H',I.unwish,q⟩
 | brk=>obtain ⟨a,H',I,q⟩:=h;exact ⟨a,H',I.unwish,q⟩
 | cont=>obtain ⟨a,H',I,q⟩:=h;exact ⟨a,H',I.unwish,q⟩
 | ret u=>obtain ⟨v,a,H',I,r,q⟩:=h;exact ⟨v,a,H',I.unwish,r,q⟩
theorem PSs.nox {st:List Stmt} {t:TS} (h:PSs X.nox st t):PSs X st t:=fun pins s σ H D I a =>
 aJ8 (h pins s σ H D (I.wish _) a) (fun _ _ q=>q.unwish) fun _ _ z=>False.elim z
end
section
variable {X:Cx} {st:Stmt} {rest:List Stmt} {t u:TS} {e:Expr} {te:TE} {pos:Pos}
def avy:TS:=fun D σ H=>D.nx σ H
def tSeq (t u:TS):TS:=fun D σ H=>t { D with nx:=u D } σ H
theorem aa1:PSs X [] avy:=fun _ _ σ H _ I h=>wpAny_execs_nil ⟨σ,H,I,h⟩
theorem aac (b:PS X st t) (c:PSs X rest u):PSs X (st :: rest) (tSeq t u):=by
 intro pins s σ H D I h
 refine wpAny_execs_cons (thn (b pins s σ H { D with nx:=u D } I h) fun f s1 q=>?_)
 cases f with
 | next =>
  obtain ⟨a,H',d,q⟩:=q
  exact c pins s1 a H' D d q
 | ret v=>exact q
 | brk=>exact q
 | cont=>exact q
theorem aag (a:PS X st t):PSs X [st] t:=by
 intro pins s σ H D I h
 refine wpAny_execs_cons (thn (a pins s σ H D I h) fun f s1 q=>?_)
 cases f with
 | next=>exact wpAny_execs_nil q
 | ret v=>exact q
 | brk=>exact q
 | cont=>exact q
theorem Inv.quiet {pins:List (Addr × Obj)} {σ:St} {H:Hp} {s:Shared} (I:Inv X pins σ H s):interactive X.env=false:=by simp [interactive,I.ok.kind]
def avz (te:TE):TS:=fun D σ H=>te σ H fun _ H1=>D.nx σ H1
theorem abh (c:PE X e te) (hs:swapsWith e none pos.line X.env=pure false:=by rfl):PS X (.Expr e pos) (avz te):=by
 intro pins s σ H D I h
 exact wpAny_Expr_any (thn (c pins s σ H _ I h) fun v s1 ⟨x,d,b,f,a⟩=>⟨σ,d,b,a⟩) I.quiet hs
def tRet (te:TE):TS:=fun D σ H=>te σ H D.rt
theorem aas (d:PE X e te):PS X (.Return (some e) pos) (tRet te):=by
 intro pins s σ H D I h
 exact wpAny_Return_some (thn (d pins s σ H _ I h) fun v s1 ⟨x,f,b,c,a⟩=>⟨x,σ,f,b,c,a⟩)
def tIfS (c:TT) (t u:TS):TS:=fun D σ H=>c σ H fun b H1=>if b=true then t D σ H1 else u D σ H1
theorem aba {c:Expr} {a b:List Stmt} {g:TT} (l:PT X c g) (ha:PSs X a t) (hb:PSs X b u):PS X (.If c a b pos) (tIfS g t u):=by
 intro pins s σ H D I h
 refine wpAny_If (thn (l pins s σ H _ I h) fun d s1 ⟨i,f,j⟩=>?_)
 cases d with
 | true=>exact ha pins s1 σ i D f j
 | false=>exact hb pins s1 σ i D f j
def aq9:TS:=fun _ _ _=>False
theorem ad9:PS X st aq9:=fun _ _ _ _ _ _ h=>h.elim
theorem afs {a:List Stmt}:PSs X a aq9:=fun _ _ _ _ _ _ h=>h.elim
end
abbrev TG:=V->St->Hp->(St->Hp->Prop)->Prop
abbrev TGs:=List V->St->Hp->(St->Hp->Prop)->Prop
def PG (X:Cx) (target:Expr) (t:TG):Prop :=
 ∀ (pins:List (Addr × Obj)) (s:Shared) (σ:St) (H:Hp) (v:V) (u:Value) (Q:St->Hp->Prop),Inv X pins σ H s->RelV v u->t v σ H Q ->
  wpAny (model X.prog X.w) X.A (assign target X.env u) (fun _ s'=>∃ σ' H',Inv X pins σ' H' s'/\Q σ' H') X.xe s
def PGs (X:Cx) (ts:List Expr) (t:TGs):Prop :=
 ∀ (pins:List (Addr × Obj)) (s:Shared) (σ:St) (H:Hp) (vs:List V) (us:List Value) (Q:St->Hp->Prop),Inv X pins σ H s->Vals vs us->t vs σ H Q ->
  wpAny (model X.prog X.w) X.A (assignInOrder ((assignEach ts X.env).map (·.2)) us) (fun _ s'=>∃ σ' H',Inv X pins σ' H' s'/\Q σ' H') X.xe s
abbrev TSet:=V->V->V->Hp->(Hp->Prop)->Prop
def PSet (X:Cx) (t:TSet):Prop :=
 ∀ (pins:List (Addr × Obj)) (s:Shared) (σ:St) (H:Hp) (o i v:V) (ov iv u:Value) (Q:Hp->Prop),Inv X pins σ H s->RelV o ov->RelV i iv->RelV v u->t o i v H Q ->
  wpAny (model X.prog X.w) X.A (setItem ov iv u) (fun _ s'=>∃ H',Inv X pins σ H' s'/\Q H') X.xe s
section
variable {X:Cx} {pos:Pos}
def abc (i:Nat):TG:=fun v σ H Q=>Q (σ.set i (some v)) H
theorem aan {i:Nat} {x:Str} (a:X.N.Nodup) (hi:X.N[i]?=some x) (b:Loc X.env.scope x) (hf:X.fn x=true\/X.env.scope.names.lookup x=some .local:=by first | exact .inl rfl | exact .inr rfl | assumption):PG X (.Name x pos) (abc i):=by
 intro pins s σ H v u Q I r h
 exact wpAny_assign_Name (ag8 I a hi b r (fun s' c=>⟨_,H,c,h⟩) hf)
def gNil:TGs:=fun vs σ H Q=>vs=[]/\Q σ H
def age (t:TG) (u:TGs):TGs:=fun vs σ H Q=>∃ v r,vs=v :: r/\t v σ H fun σ' H'=>u r σ' H' Q
theorem acq:PGs X [] gNil:=by
 intro pins s σ H vs us Q I r h
 obtain ⟨e,h⟩:=h
 subst e
 cases r
 exact assignInOrder_nil ⟨σ,H,I,h⟩
theorem aa5 {e:Expr} {es:List Expr} {t:TG} {u:TGs} (d:PG X e t) (f:PGs X es u)
  (hs:(assignEach (e :: es) X.env).map (·.2)=assign e X.env :: (assignEach es X.env).map (·.2):=by rfl):PGs X (e :: es) (age t u):=by
 intro pins s σ H vs us Q I r h
 obtain ⟨v,j,c,h⟩:=h
 subst c
 cases r with
 | cons r rr =>
  rw [hs]
  refine assignInOrder_cons (thn (d pins s σ H _ _ _ I r h) fun _ s1 ⟨a,g,b,i⟩=>?_)
  exact f pins s1 a g _ _ Q b rr i
def gTup (K:Frag) (n:Nat) (t:TGs):TG:=fun v σ H Q=>∃ a xs,v=.ref a/\SqT K H a xs/\xs.length=n/\t xs σ H Q
theorem ac6 {es:List Expr} {k:Nat} {t:TGs} {n:Nat} (p:X.calm=true) (h:PGs X es t)
  (hn:(assignEach es X.env).length=n:=by rfl) (d:(assignEach es X.env).findIdx? (·.1)=none:=by rfl):PG X (.Tuple es k pos) (gTup X.K n t):=by
 intro pins s σ H v u Q I r c
 obtain ⟨a,xs,j,i,l,c⟩:=c
 subst j
 cases r
 obtain ⟨its,f,m,hz⟩:=I.tuple i
 refine assign_Tuple_tuple (I.ok.hd p) m (by simp [hn,← l,f.length]) d fun h' q=>?_
 have g:Inv X pins σ H { s with heap:=h' }:=I.kept (t':=s.toks) fun b o e=>q b o (aB6 (aJ2 e)) e
 exact h pins _ σ H xs _ Q g (by simpa using f) c
def gSub (to ti:TE) (t:TSet):TG:=fun v σ H Q=>to σ H fun o H1=>ti σ H1 fun i H2=>t o i v H2 fun H3=>Q σ H3
theorem aey {o i:Expr} {to c:TE} {t:TSet} (j:PE X o to) (hi:PE X i c) (hs:PSet X t)
  (ha:∀ v,assign (.Subscript o i pos) X.env v=(do
   let a ← holding [v] (eval o X.env)
   let b ← holding [v,a] (eval i X.env)
   standAt pos
   holding [v,a,b] (setItem a b v)
   release [v,a,b] []):=by intro _;rfl):PG X (.Subscript o i pos) (gSub to c t):=by
 intro pins s σ H v u Q I r h
 rw [ha]
 refine aI9 (aJ5 (thn (j pins s σ H _ I h) fun a s1 ⟨x,q,m,f,w⟩=>?_))
 refine aI9 (aJ5 (thn (hi pins s1 σ q _ m w) fun b s2 ⟨y,H2,n,p,d⟩=>?_))
 refine aI9 (wpAny_standAt (aI9 (aJ5 (thn (hs pins s2 σ H2 x y v a b u _ n f p r d) fun _ z ⟨H3,g,l⟩=>?_))))
 exact wpAny_release ⟨σ,H3,g,l⟩
def tAsg (te:TE) (g:TG):TS:=fun D σ H=>te σ H fun x H1=>g x σ H1 D.nx
theorem ab6 {tg e:Expr} {te:TE} {g:TG} (j:PE X e te) (l:PG X tg g) (hs:swapsWithSole [tg] e pos.line X.env=pure false:=by rfl) (c:swappedStores [tg] e X.env=pure none:=by rfl)
  (d:(assignEach [tg] X.env).map (·.2)=[assign tg X.env]:=by rfl):PS X (.Assign [tg] e pos) (tAsg te g):=by
 intro pins s σ H D I h
 refine wpAny_Assign_stores (thn (j pins s σ H _ I h) fun v s1 ⟨x,f,b,a,i⟩=>?_) hs c
 rw [d]
 exact thn (l pins s1 σ f x v _ b a i) fun _ s2 q=>q
theorem aak {i:Nat} {x:Str} {e:Expr} {te:TE} {a:Pos} (f:X.N.Nodup) (hi:X.N[i]?=some x) (m:Loc X.env.scope x) (l:PE X e te) (hs:swapsWith e (some (.Name x a)) pos.line X.env=pure false:=by rfl) (hf:X.fn x=true\/X.env.scope.names.lookup x=some .local:=by first | exact .inl rfl | exact .inr rfl | assumption) :
  PS X (.Assign [.Name x a] e pos) (tAsg te (abc i)):=by
 intro pins s σ H D I h
 refine wpAny_Assign_Name (thn (l pins s σ H _ I h) fun v s1 ⟨y,g,c,b,j⟩=>?_) hs
 exact ag8 c f hi m b (fun s2 d=>⟨_,g,d,j⟩) hf
end
section
variable {X:Cx} {pos:Pos}
def ara (c:TT) (tb:TS):TS:=fun D σ H=>∃ W:Nat->St->Hp->Prop,(∃ m,W m σ H)/\∀ m σ H,W m σ H ->
 c σ H fun b H1=>if b=true then ∃ N:St->Hp->Prop,(∀ σ' H',N σ' H'->∃ m',m' < m/\W m' σ' H')/\tb { D with nx:=N,ct:=N,bk:=D.nx } σ H1 else D.nx σ H1
theorem ag9 {c:Expr} {body:List Stmt} {x:TT} {r:TS} (y:PassesOwn (model X.prog X.w) X.A X.env X.xe) (E:PT X c x) (hb:PSs X body r):PS X (.While c body [] pos) (ara x r):=by
 intro pins s σ H D I h
 obtain ⟨W,⟨F,C⟩,g⟩:=h
 refine wpAny_While (codeAny_whileLoop (fun n s'=>∃ i H',Inv X pins i H' s'/\W n i H') ?_ F ⟨σ,H,I,C⟩)
 rintro n s1 ⟨d,z,B,G⟩
 refine wpAny_passesOwn y (thn (E pins s1 d z _ B (g n d z G)) fun b s2 ⟨H2,t,j⟩=>?_)
 cases b with
 | true =>
  obtain ⟨N,u,j⟩:=j
  rw [aF5 rfl]
  refine wpAny_passesOwn y (thn (hb pins s2 d H2 _ t j) fun f J l=>?_)
  cases f with
  | next =>
   obtain ⟨a,H3,m,p⟩:=l
   obtain ⟨q,hm,o⟩:=u a H3 p
   exact ⟨q,hm,a,H3,m,o⟩
  | cont =>
   obtain ⟨a,H3,m,p⟩:=l
   obtain ⟨q,hm,o⟩:=u a H3 p
   exact ⟨q,hm,a,H3,m,o⟩
  | brk=>exact l
  | ret v=>exact l
 | false =>
  rw [aF6 aB0]
  exact wpAny_execs_nil ⟨d,H2,t,j⟩
end
structure It where
 go:Nat->Hp->Prop
 yld:Nat->Hp->V->Hp->Prop
 stop:Nat->Hp->Prop
def FpOk (X:Cx) (pins:List (Addr × Obj)) (H:Hp) (b:Addr):Prop :=
 H b=none/\b ≠ X.env.locals/\b ∉ X.fs/\(b∈X.ex\/X.s₀.heap.objs.size<=b)/\(∀ x c,X.env.cells.lookup x=some c->c ≠ b)/\∀ p∈X.pn ++ pins,p.1 ≠ b
theorem Inv.fpOk {X:Cx} {pins:List (Addr × Obj)} {σ:St} {H H':Hp} {s:Shared} {b:Addr} (I:Inv X pins σ H s) (hb:s.heap.objs.size<=b) (hn:H' b=none):FpOk X pins H' b:=by
 refine ⟨hn,Nat.ne_of_gt (aC5 I.lt hb),I.nofs hb,.inr (aD0 I.sz hb),fun x c e z=>?_,fun p a z=>?_⟩
 ·obtain ⟨v,q⟩:=I.cell x c e
  exact absurd (aC5 q.lt (by rw [z];exact hb)) (aG4 _)
 ·exact absurd (aC5 (aJ2 (I.pin p a).1) (by rw [z];exact hb)) (aG4 _)
structure Turn (P:Program) (w:World) (K:Frag) (tg:Expr) (J:It) (fp:List Addr) (it:Addr) (tn:Nat->Heap->Prop):Prop where
 mem:it∈fp
 obj:∀ i h,tn i h->∀ b∈fp,∃ o,h.get? b=some o/\∀ v,o.data ≠ .cell v
 keep:∀ i h h',tn i h->(∀ b∈fp,∀ o,h.get? b=some o->h'.get? b=some o)->tn i h'
 item:∀ (X:Cx),X.prog=P->X.w=w->X.K=K->X.calm=true->∀ (i:Nat) (pins:List (Addr × Obj)) (s:Shared) (σ:St) (H:Hp) (E:Value->Shared->Prop),Inv X pins σ H s->(∀ b∈fp,FpOk X pins H b)->tn i s.heap->J.go i H ->
  wpAny (model P w) X.A (pyNext (.ref it)) (fun r s1=>∃ u,r=some u /\
   wpAny (model P w) X.A (letOwnedTupleGo tg (.ref it) u) (fun _ s2=>∃ x H',Inv X pins σ H' s2/\RelV x u/\J.yld i H x H'/\tn (i+1) s2.heap/\∀ b∈fp,H' b=none) E s1) E s
 done:∀ (X:Cx),X.prog=P->X.w=w->X.K=K->X.calm=true->∀ (i:Nat) (pins:List (Addr × Obj)) (s:Shared) (σ:St) (H:Hp) (E:Value->Shared->Prop),Inv X pins σ H s->(∀ b∈fp,FpOk X pins H b)->tn i s.heap->J.stop i H ->
  wpAny (model P w) X.A (pyNext (.ref it)) (fun r s1=>r=none/\Inv X pins σ H s1) E s
 self:∀ (A:Around) (i:Nat) (s:Shared) (Q:Value->Shared->Prop) (E:Value->Shared->Prop),tn i s.heap->Q (.ref it) s->wpAny (model P w) A (pyIter (.ref it)) Q E s
abbrev TI:=St->Hp->(It->Hp->Prop)->Prop
def PIE (X:Cx) (pins:List (Addr × Obj)) (σ:St) (tg:Expr) (R:It->Hp->Prop) (itv:Value) (s2:Shared):Prop :=
 ∃ (it:Addr) (fp:List Addr) (tn:Nat->Heap->Prop) (J:It) (H':Hp),itv=.ref it/\Inv X pins σ H' s2/\Turn X.prog X.w X.K tg J fp it tn/\tn 0 s2.heap/\(∀ b∈fp,FpOk X pins H' b)/\R J H'
def PI (X:Cx) (tg iter:Expr) (wi:TI):Prop :=
 ∀ (pins:List (Addr × Obj)) (s:Shared) (σ:St) (H:Hp) (R:It->Hp->Prop),Inv X pins σ H s->wi σ H R ->
  wpAny (model X.prog X.w) X.A (eval iter X.env) (fun v s1=>wpAny (model X.prog X.w) X.A (pyIter v) (PIE X pins σ tg R) X.xe s1) X.xe s
theorem av0 {M:Model} {A:Around} {E:Value->Shared->Prop} {s:Shared} {tg:Expr} {it:Addr} {u:Value} {o:Obj} {n:String} {vs:Array Value} {Q:Unit->Shared->Prop} (b:s.heap.get? it=some o) (c:o.cls=.type n) (hd:o.data=.fields vs)
  (hn:["enumerate","zip","dict_itemiterator","dict_reverseitemiterator","odict_iterator","itertools.zip_longest","itertools.pairwise"].contains n=false) (a:Q () s):wpAny M A (letOwnedTupleGo tg (.ref it) u) Q E s:=by
 unfold letOwnedTupleGo
 cases tg <;> first
  | exact aJ0 a
  | (cases u <;> first
    | exact aJ0 a
    | (refine aI9 (wpAny_load b ?_)
       rw [c,hd]
       show wpAny M A (if (["enumerate","zip","dict_itemiterator","dict_reverseitemiterator","odict_iterator","itertools.zip_longest","itertools.pairwise"].contains n && vs[0]? == some (rawInt _))=true then _ else _) Q E s
       rw [aF6 (by intro h;rw [hn,Bool.false_and] at h;cases h)]
       exact aJ0 a))
def Itl (K:Frag) (a:Addr):It :=
 ⟨fun i H=>∃ xs x,SqL K H a xs/\xs[i]?=some x,fun i H x H'=>H'=H/\∀ xs,SqL K H a xs->xs[i]?=some x,fun i H=>∃ xs,SqL K H a xs/\xs.length<=i⟩
def Itr (lo:Int) (n:Nat):It:=⟨fun i _=>i < n,fun i H x H'=>H'=H/\x=.int (lo+i),fun i _=>n<=i⟩
theorem arb {P:Program} {w:World} {K:Frag} {tg:Expr} (a it:Addr):Turn P w K tg (Itl K a) [it] it (fun i h=>h.IsListIter it a i) where
 mem:=by simp
 obj:=fun i h st b hb=>by
  have e:b=it:=by simpa using hb
  subst e
  obtain ⟨o,e,c,d⟩:=st
  exact ⟨o,e,fun v z=>by rw [d] at z;cases z⟩
 keep:=fun i h h' st k=>st.at fun o e=>k it (by simp) o e
 item:=by
  intro X g m l C i pins s σ H E I hf st A
  subst g m l
  obtain ⟨xs,x,f,B⟩:=A
  obtain ⟨its,n,p,hz⟩:=I.list f
  obtain ⟨u,J,M⟩:=n.get B
  obtain ⟨t,q,D,r,j,y⟩:=hf it (by simp)
  refine wpAny_pyNext_list_item st p.isList (x:=u) (by simpa using J) fun h' st' sb=>?_
  have G:Inv X pins σ H { s with heap:=h' }:=I.turned (t':=s.toks) (fun b o hb e=>(sb.2 b hb).trans e) t q r j y
  obtain ⟨o,e,c,d⟩:=id st'
  exact ⟨u,rfl,av0 (s:={ s with heap:=h' }) e c d (by decide) ⟨x,H,G,M,⟨rfl,fun ys L=>by rw [I.list_inj L f];exact B⟩,st',fun b hb=>(hf b hb).1⟩⟩
 done:=by
  intro X g m l C i pins s σ H E I hf st A
  subst g m l
  obtain ⟨xs,f,B⟩:=A
  obtain ⟨its,n,p,hz⟩:=I.list f
  obtain ⟨t,q,D,r,j,y⟩:=hf it (by simp)
  have N:=n.length
  exact wpAny_pyNext_list_end (I.ok.hd C) st p.isList (by simp;omega) fun h' F=>⟨rfl,I.turned (t':=s.toks) (fun b o hb e=>F b o hb e) t q r j y⟩
 self:=fun _ _ _ _ _ st h=>wpAny_pyIter_listiter st h
theorem apy {P:Program} {w:World} {K:Frag} {tg:Expr} (it:Addr) (lo:Int) (n:Nat):Turn P w K tg (Itr lo n) [it] it (fun i h=>IsRangeIter h it (lo+(i:Nat) * 1) ((n:Int) - (i:Nat)) 1) where
 mem:=by simp
 obj:=fun i h st b hb=>by
  have e:b=it:=by simpa using hb
  subst e
  exact ⟨_,st,fun v z=>by
   have x:Data.fields _=Data.cell v:=z
   cases x⟩
 keep:=fun i h h' st k=>k it (by simp) _ st
 item:=by
  intro X a f d j i pins s σ H E I hf st q
  subst a f d
  obtain ⟨m,g,u,l,c,p⟩:=hf it (by simp)
  have W:=Walks.range (prog:=X.prog) (w:=X.w) (I.ok.hd j) it lo 1 n
  refine W.item i s _ _ q st fun v h' r C st' A=>?_
  obtain ⟨t,rfl⟩:=C
  have B:Inv X pins σ H { s with heap:=h',toks:=r }:=I.turned (fun b o hb e=>A b o (by simpa using hb) e) m g l c p
  refine ⟨_,rfl,av0 (s:={ s with heap:=h',toks:=r }) (n:="range_iterator") st' rfl rfl (by decide) ⟨.int (lo+i),H,B,⟨t,?_⟩,⟨rfl,rfl⟩,st',fun b hb=>(hf b hb).1⟩⟩
  rw [Int.mul_one]
 done:=by
  intro X a f d j i pins s σ H E I hf st q
  subst a f d
  obtain ⟨m,g,u,l,c,p⟩:=hf it (by simp)
  exact wpAny_pyNext_range_end (I.ok.hd j) st (by have:n<=i:=q;omega) fun h' y=>⟨rfl,I.turned (t':=s.toks) (fun b o hb e=>y b o hb e) m g l c p⟩
 self:=fun _ _ _ _ _ st h=>wpAny_pyIter_rangeiter st h
section
variable {X:Cx} {tg:Expr}
def apz (K:Frag) (tl:TE):TI:=fun σ H R=>tl σ H fun x H1=>∃ a,x=.ref a/\(∃ xs,SqL K H1 a xs)/\R (Itl K a) H1
theorem abo {l:Expr} {tl:TE} (g:PE X l tl):PI X tg l (apz X.K tl):=by
 intro pins s σ H R I h
 refine thn (g pins s σ H _ I h) fun v s1 ⟨x,i,c,d,j⟩=>?_
 obtain ⟨a,e,⟨xs,f⟩,q⟩:=j
 subst e
 cases d
 obtain ⟨its,m,p,hz⟩:=c.list f
 refine aK4 p.isList ?_
 refine ⟨s1.heap.objs.size,[s1.heap.objs.size],_,_,i,rfl,c.kept (t':=s1.toks) fun b o e=>aJ1 _ e,arb a _,⟨_,aJ3 _ rfl,rfl,rfl⟩,fun b hb=>?_,q⟩
 have e:b=s1.heap.objs.size:=by simpa using hb
 subst e
 exact c.fpOk (aA6 _) (c.hok.fresh (aA6 _))
theorem aln {pins:List (Addr × Obj)} {σ:St} {H:Hp} {s:Shared} {R:It->Hp->Prop} {E:Value->Shared->Prop} {lo hi:Int} {t u v:Tok} {c:Nat} (I:Inv X pins σ H s) (g : -(2 ^ 62)<=lo) (h:lo < 2 ^ 62) (i : -(2 ^ 62)<=hi) (j:hi < 2 ^ 62)
  (q:R (Itr lo (hi - lo).toNat) H):wpAny (model X.prog X.w) X.A (pyIter (.ref s.heap.objs.size)) (PIE X pins σ tg R) E { s with heap:=s.heap.push { cls:=.type "range",data:=.fields #[.int lo t,.int hi u,.int 1 v] },toks:=c }:=by
 refine wpAny_pyIter_range (IsRange.new ..) (small_one g h i j) ?_
 have a:Inv X pins σ H { s with heap:=s.heap.push { cls:=.type "range",data:=.fields #[.int lo t,.int hi u,.int 1 v] },toks:=c }:=I.kept fun b o e=>aJ1 _ e
 refine ⟨(s.heap.push { cls:=.type "range",data:=.fields #[.int lo t,.int hi u,.int 1 v] }).objs.size,[(s.heap.push { cls:=.type "range",data:=.fields #[.int lo t,.int hi u,.int 1 v] }).objs.size],_,_,H,rfl,
  a.kept (t':=c) fun b o e=>aJ1 _ e,apy _ lo (hi - lo).toNat,?_,fun b hb=>?_,q⟩
 ·have f:lo+((0:Nat):Int) * 1=lo:=by simp
  have d:(((hi - lo).toNat:Nat):Int) - ((0:Nat):Int)=Builtin.Range.rangeSize lo hi 1:=by rw [rangeSize_one];split <;> omega
  show IsRangeIter _ _ (lo+((0:Nat):Int) * 1) ((((hi - lo).toNat:Nat):Int) - ((0:Nat):Int)) 1
  rw [f,d]
  exact aJ3 _ rfl
 ·have e:b=(s.heap.push { cls:=.type "range",data:=.fields #[.int lo t,.int hi u,.int 1 v] }).objs.size:=by simpa using hb
  subst e
  exact a.fpOk (aA6 _) (a.hok.fresh (aA6 _))
def av1 (ta:TA):TI:=fun σ H R=>ta σ H fun vs H1=>∃ j:Int,vs=[.int j]/\-(2 ^ 62)<=j/\j < 2 ^ 62/\R (Itr 0 j.toNat) H1
def av2 (ta:TA):TI:=fun σ H R=>ta σ H fun vs H1=>∃ i j:Int,vs=[.int i,.int j]/\(-(2 ^ 62)<=i/\i < 2 ^ 62/\-(2 ^ 62)<=j/\j < 2 ^ 62)/\R (Itr i (j - i).toNat) H1
theorem abw {a:Expr} {d:TA} {p b:Pos} (l:Gl X "range") (hm:X.mg "range" = none) (ha:PA X [a] d) (hs:starEach [a] X.env=[(false,eval a X.env)]:=by rfl):PI X tg (.Call (.Name "range" p) [a] [] b) (av1 d):=by
 intro pins s σ H R I h
 refine Call_ (ado I l hm boot_range (PyProof.Rows.callWith_type1 (thn (ha b pins s σ H _ I h) fun us s1 ⟨vs,m,i,g,c⟩=>?_) hs rfl))
 obtain ⟨j,e,c,f,q⟩:=c
 subst e
 cases g with
 | cons r rr =>
  cases rr
  obtain ⟨t,rfl⟩:=r
  exact call_range_1 (aln i (by omega) (by omega) c f (by simpa using q))
theorem aft {a b:Expr} {g:TA} {p c:Pos} (v:Gl X "range") (hm:X.mg "range" = none) (ha:PA X [a,b] g) (hs:starEach [a,b] X.env=[(false,eval a X.env),(false,eval b X.env)]:=by rfl) (d:starEach [b] X.env=[(false,eval b X.env)]:=by rfl) :
  PI X tg (.Call (.Name "range" p) [a,b] [] c) (av2 g):=by
 intro pins s σ H R I h
 refine Call_ (ado I v hm boot_range (PyProof.Rows.callWith_type1 (thn (ha c pins s σ H _ I h) fun us s1 ⟨vs,w,o,m,f⟩=>?_) (by rw [hs,d]) (by rw [d];rfl)))
 obtain ⟨i,j,e,⟨f,l,n,u⟩,q⟩:=f
 subst e
 cases m with
 | cons r rr =>
  cases rr with
  | cons r' rr =>
   cases rr
   obtain ⟨t,rfl⟩:=r
   obtain ⟨t',rfl⟩:=r'
   exact call_range_2 (aln o f l n u q)
def tFor (wi:TI) (g:TG) (tb:TS):TS:=fun D σ H=>wi σ H fun J H1=>∃ W:Nat->Nat->St->Hp->Prop,(∃ m,W 0 m σ H1)/\∀ i m σ H,W i m σ H ->
 (J.stop i H/\D.nx σ H)\/(J.go i H/\∃ N:St->Hp->Prop,(∀ σ' H',N σ' H'->∃ m',m' < m/\W (i+1) m' σ' H')/\∀ x H',J.yld i H x H'->g x σ H' fun σ2 H2=>tb { D with nx:=N,ct:=N,bk:=D.nx } σ2 H2)
def afu (fp:List Addr) (h:Heap):List (Addr × Obj):=fp.filterMap fun b=>(h.get? b).map fun o=>(b,o)
theorem ad3 {fp:List Addr} {h:Heap} {b:Addr} {o:Obj} (hb:b∈fp) (e:h.get? b=some o):(b,o)∈afu fp h:=List.mem_filterMap.mpr ⟨b,hb,by rw [e];rfl⟩
theorem arc {fp:List Addr} {h:Heap} {p:Addr × Obj} (a:p∈afu fp h):p.1∈fp/\h.get? p.1=some p.2:=by
 obtain ⟨b,hb,e⟩:=List.mem_filterMap.mp a
 cases q:h.get? b with
 | none=>rw [q] at e;cases e
 | some o =>
  rw [q] at e
  have c:(b,o)=p:=aC6 e
  subst c
  exact ⟨hb,q⟩
theorem Inv.pinned {pins:List (Addr × Obj)} {σ:St} {H:Hp} {s:Shared} {fp:List Addr} (I:Inv X pins σ H s) (hf:∀ b∈fp,FpOk X pins H b) (f:∀ b∈fp,∃ o,s.heap.get? b=some o/\∀ v,o.data ≠ .cell v):Inv X (pins ++ afu fp s.heap) σ H s :=
 I.pins_of fun p g=>(aA7.mp g).elim (fun z=>I.pin p (aB3 _ z)) fun z=>by
  obtain ⟨hb,e⟩:=arc z
  obtain ⟨i,h,c,_⟩:=hf p.1 hb
  obtain ⟨o,a,d⟩:=f p.1 hb
  rw [e] at a;cases a
  exact ⟨e,i,h,c,d⟩
theorem Inv.unpinned {pins pl:List (Addr × Obj)} {σ:St} {H:Hp} {s:Shared} (I:Inv X (pins ++ pl) σ H s):Inv X pins σ H s:=I.pins_of fun p a=>I.pin p (aB3 _ (aC7 _ a))
theorem ab7 {l:Expr} {body:List Stmt} {wi:TI} {g:TG} {tb:TS} {Q:Pos} (K:PassesOwn (model X.prog X.w) X.A X.env X.xe) (hc:X.calm=true) (hi:PI X tg l wi) (hg:PG X tg g) (hb:PSs X body tb)
  (hs:∀ x,foldedSetIterable l X.env x=pure x:=by intro _;rfl):PS X (.For tg l body [] Q) (tFor wi g tb):=by
 intro pins s σ H D I h
 refine wpAny_For (thn (hi pins s σ H _ I h) fun v s1 h1=>thn h1 fun a0 s2 h2=>?_) hs
 obtain ⟨it,fp,tn,J,H2,e,I2,T,L,Y,W,⟨m0,w0⟩,C⟩:=h2
 subst e
 -- what stays true of the iterator's objects through the loop
 have t:∀ {H':Hp},(∀ b∈fp,H' b=none)->∀ b∈fp,FpOk X pins H' b:=fun hn b hb=>⟨hn b hb,(Y b hb).2⟩
 refine codeAny_forLoop_any (fun n s'=>∃ i y H',Inv X pins y H' s'/\tn i s'.heap/\(∀ b∈fp,H' b=none)/\W i n y H') ?_ m0 ⟨0,σ,H2,I2,L,fun b hb=>(Y b hb).1,w0⟩
 rintro n s3 ⟨i,j,H3,U,F,G,w3⟩
 rcases C i n j H3 w3 with ⟨stop,qn⟩ | ⟨go,N,hN,step⟩
 ·refine wpAny_passesOwn K (thn (T.done X rfl rfl rfl hc i pins s3 j H3 X.xe U (t G) F stop) fun r s4 ⟨M,I4⟩=>?_)
  subst M
  exact wpAny_execs_nil ⟨j,H3,I4,qn⟩
 ·refine wpAny_passesOwn K (thn (T.item X rfl rfl rfl hc i pins s3 j H3 X.xe U (t G) F go) fun r s4 ⟨u,M,h4⟩=>?_)
  subst M
  refine wpAny_passesOwn K (thn h4 fun _ Z ⟨x,H5,I5,r5,y5,B,R⟩=>?_)
  have P:=I5.pinned (t R) (T.obj _ _ B)
  refine wpAny_passesOwn K (thn (hg _ Z j H5 x u _ P r5 (step x H5 y5)) fun _ s6 ⟨O,H6,I6,q6⟩=>?_)
  refine wpAny_passesOwn K (thn (hb _ s6 O H6 _ I6 q6) fun f S z=>?_)
  have p:∀ {a:St} {q:Hp},Inv X (pins ++ afu fp Z.heap) a q S->N a q->∃ m,m < n/\∃ i y H',Inv X pins y H' S/\tn i S.heap/\(∀ b∈fp,H' b=none)/\W i m y H':=fun {a q} c E=>by
   obtain ⟨m',hm,w7⟩:=hN a q E
   refine ⟨m',hm,i+1,a,q,c.unpinned,T.keep _ _ _ B fun b hb o e=>(c.pin (b,o) (aB3 _ (aB3 _ (ad3 hb e)))).1,fun b hb=>?_,w7⟩
   obtain ⟨o,e,d⟩:=T.obj _ _ B b hb
   exact (c.pin (b,o) (aB3 _ (aB3 _ (ad3 hb e)))).2.1
  cases f with
  | next=>obtain ⟨a,q,c,E⟩:=z;exact p c E
  | cont=>obtain ⟨a,q,c,E⟩:=z;exact p c E
  | brk=>obtain ⟨a,q,c,z⟩:=z;exact ⟨a,q,c.unpinned,z⟩
  | ret v=>obtain ⟨x7,a,q,c,r7,z⟩:=z;exact ⟨x7,a,q,c.unpinned,r7,z⟩
end
abbrev R2:=V->V->Hp->VK->Prop
def OpR (X:Cx) (f:Value->Value->Sem Value) (r:R2):Prop :=
 ∀ (pins:List (Addr × Obj)) (s:Shared) (σ:St) (H:Hp) (x y:V) (v u:Value) (Q:VK),Inv X pins σ H s->RelV x v->RelV y u->r x y H Q ->
  wpAny (model X.prog X.w) X.A (f v u) (EP X pins σ Q) X.xe s
def UnR (X:Cx) (f:Value->Sem Value) (r:V->Hp->VK->Prop):Prop :=
 ∀ (pins:List (Addr × Obj)) (s:Shared) (σ:St) (H:Hp) (x:V) (v:Value) (Q:VK),Inv X pins σ H s->RelV x v->r x H Q ->
  wpAny (model X.prog X.w) X.A (f v) (EP X pins σ Q) X.xe s
def abd (X:Cx) (f:Value) (r:List V->Hp->VK->Prop):Prop :=
 ∀ (pins:List (Addr × Obj)) (s:Shared) (σ:St) (H:Hp) (xs:List V) (us:List Value) (Q:VK),Inv X pins σ H s->Vals xs us->r xs H Q ->
  wpAny (model X.prog X.w) X.A (call f us) (EP X pins σ Q) X.xe s
def TruR (X:Cx) (r:V->Hp->(Bool->Hp->Prop)->Prop):Prop :=
 ∀ (pins:List (Addr × Obj)) (s:Shared) (σ:St) (H:Hp) (x:V) (v:Value) (Q:Bool->Hp->Prop),Inv X pins σ H s->RelV x v->r x H Q ->
  wpAny (model X.prog X.w) X.A (truthy v) (TP X pins σ Q) X.xe s
def tOp (r:R2) (ta tb:TE):TE:=fun σ H Q=>ta σ H fun x H1=>tb σ H1 fun y H2=>r x y H2 Q
def tUn (r:V->Hp->VK->Prop) (ta:TE):TE:=fun σ H Q=>ta σ H fun x H1=>r x H1 Q
def rI (C:Int->Int->Prop) (g:Int->Int->V):R2:=fun x y H Q=>∃ i j,x=.int i/\y=.int j/\C i j/\Q (g i j) H
def rI0 (g:Int->Int->V):R2:=fun x y H Q=>∃ i j,x=.int i/\y=.int j/\Q (g i j) H
def rU (g:Int->V):V->Hp->VK->Prop:=fun x H Q=>∃ i,x=.int i/\Q (g i) H
section
variable {X:Cx} {a b c:Expr} {ta tb tc:TE} {pos:Pos}
theorem binT (ha:PE X a ta) (hb:PE X b tb) {pins:List (Addr × Obj)} {s:Shared} {σ:St} {H:Hp} {R:V->V->Hp->Prop} (I:Inv X pins σ H s)
  (h:ta σ H fun x g=>tb σ g fun y H2=>R x y H2) {Q:Value->Shared->Prop} {f:Value->Value->Sem Value}
  (hf:∀ v u s2 x y H2,Inv X pins σ H2 s2->RelV x v->RelV y u->R x y H2->wpAny (model X.prog X.w) X.A (f v u) Q X.xe s2) :
  wpAny (model X.prog X.w) X.A (eval a X.env) (fun v c=>wpAny (model X.prog X.w) X.A (eval b X.env) (fun u d=>wpAny (model X.prog X.w) X.A (f v u) Q X.xe d) X.xe c) X.xe s:=by
 refine thn (ha pins s σ H _ I h) fun v s1 ⟨x,g,l,j,o⟩=>?_
 refine thn (hb pins s1 σ g _ l o) fun u s2 ⟨y,H2,m,n,i⟩=>?_
 exact hf v u s2 x y H2 m j n i
theorem aam {op:Operator} {r:R2} (c:OpR X (binaryOp op) r) (ha:PE X a ta) (hb:PE X b tb):PE X (.BinOp a op b pos) (tOp r ta tb):=by
 intro pins s σ H Q I h
 exact wpAny_BinOp (binT ha hb I h fun v u s2 x y H2 f g d q=>c pins s2 σ H2 x y v u Q f g d q)
theorem a1e {op:UnaryOp} {r:V->Hp->VK->Prop} (f:UnR X (unaryOp op) r) (ha:PE X a ta):PE X (.UnaryOp op a pos) (tUn r ta):=by
 intro pins s σ H Q I h
 exact UnaryOp_ (thn (ha pins s σ H _ I h) fun v s1 ⟨x,g,c,d,b⟩=>f pins s1 σ g x v Q c d b)
theorem opI {f:Value->Value->Sem Value} {C:Int->Int->Prop} {g:Int->Int->Int}
  (a:∀ (i j:Int) (t u:Tok) (s:Shared) (Q:Value->Shared->Prop) (E:Value->Shared->Prop),C i j->Q (.int (g i j) s.toks) { s with toks:=s.toks+1 }->wpAny (model X.prog X.w) X.A (f (.int i t) (.int j u)) Q E s) :
  OpR X f (rI C fun i j => .int (g i j)):=by
 intro pins s σ H x y v u Q I c b h
 obtain ⟨i,j,rfl,rfl,d,q⟩:=h
 obtain ⟨t,rfl⟩:=c
 obtain ⟨t',rfl⟩:=b
 exact a i j t t' s _ _ d ⟨.int (g i j),H,I.tok _,⟨_,rfl⟩,q⟩
theorem opI0 {f:Value->Value->Sem Value} {g:Int->Int->Int}
  (a:∀ (i j:Int) (t u:Tok) (s:Shared) (Q:Value->Shared->Prop) (E:Value->Shared->Prop),Q (.int (g i j) s.toks) { s with toks:=s.toks+1 }->wpAny (model X.prog X.w) X.A (f (.int i t) (.int j u)) Q E s) :
  OpR X f (rI0 fun i j => .int (g i j)):=by
 intro pins s σ H x y v u Q I c b h
 obtain ⟨i,j,rfl,rfl,q⟩:=h
 obtain ⟨t,rfl⟩:=c
 obtain ⟨t',rfl⟩:=b
 exact a i j t t' s _ _ ⟨.int (g i j),H,I.tok _,⟨_,rfl⟩,q⟩
theorem opB0 {f:Value->Value->Sem Value} {g:Int->Int->Bool}
  (a:∀ (i j:Int) (t u:Tok) (s:Shared) (Q:Value->Shared->Prop) (E:Value->Shared->Prop),Q (.bool (g i j)) s->wpAny (model X.prog X.w) X.A (f (.int i t) (.int j u)) Q E s) :
  OpR X f (rI0 fun i j => .bl (g i j)):=by
 intro pins s σ H x y v u Q I c b h
 obtain ⟨i,j,rfl,rfl,q⟩:=h
 obtain ⟨t,rfl⟩:=c
 obtain ⟨t',rfl⟩:=b
 exact a i j t t' s _ _ ⟨.bl (g i j),H,I,rfl,q⟩
def CDiv (i j:Int):Prop:=0 < j/\j < 1073741824
def CPow (i j:Int):Prop:=0<=j/\j<=1000000/\i.natAbs < 2 ^ 64
def CMul (i j:Int):Prop:=(-(2 ^ 64) < i/\i < 2 ^ 64)\/(-(2 ^ 64) < j/\j < 2 ^ 64)
theorem CMul.ok {i j:Int} (h:CMul i j):IntMulOk i j:=by
 rcases h with ⟨a,b⟩ | ⟨a,b⟩
 ·exact .of_left (intBits_le_64 a b)
 ·exact .of_right (intBits_le_64 a b)
theorem abb:OpR X (binaryOp .Add) (rI0 fun i j => .int (i+j)):=opI0 fun _ _ _ _ _ _ _ q=>add_int q
theorem abx:OpR X (binaryOp .Sub) (rI0 fun i j => .int (i - j)):=opI0 fun _ _ _ _ _ _ _ q=>sub_int q
theorem act:OpR X (binaryOp .Mult) (rI CMul fun i j => .int (i * j)):=opI fun _ _ _ _ _ _ _ a q=>mul_int q a.ok
theorem aez:OpR X (binaryOp .FloorDiv) (rI CDiv fun i j => .int (i / j)):=opI fun i j _ _ _ _ _ a q=>by
 have b:(0:Int) < j:=a.1
 have c:j < 1073741824:=a.2
 exact floordiv_int (by omega) (by rw [Int.fdiv_eq_ediv_of_nonneg i (by omega)];exact q) (.inl (PyProof.noPylong_small (by omega)))
theorem aea:OpR X (binaryOp .Mod) (rI (fun _ j=>0 < j) fun i j => .int (i % j)):=opI fun i j _ _ _ _ _ a q=>by
 have b:(0:Int) < j:=a
 exact mod_int' (by omega) (by rw [Int.fmod_eq_emod_of_nonneg i (by omega)];exact q)
theorem ay3:OpR X (binaryOp .Pow) (rI CPow fun i j => .int (i ^ j.toNat)):=opI fun _ _ _ _ _ _ _ a q=>pow_int_small a.1 a.2.1 a.2.2 q
theorem unI {f:Value->Sem Value} {g:Int->Int}
  (a:∀ (i:Int) (t:Tok) (s:Shared) (Q:Value->Shared->Prop) (E:Value->Shared->Prop),Q (.int (g i) s.toks) { s with toks:=s.toks+1 }->wpAny (model X.prog X.w) X.A (f (.int i t)) Q E s) :
  UnR X f (rU fun i => .int (g i)):=by
 intro pins s σ H x v Q I b h
 obtain ⟨i,rfl,q⟩:=h
 obtain ⟨t,rfl⟩:=b
 exact a i t s _ _ ⟨.int (g i),H,I.tok _,⟨_,rfl⟩,q⟩
theorem ay4:UnR X (unaryOp .USub) (rU fun i => .int (-i)):=unI fun _ _ _ _ _ q=>neg_int q
end
def scal:V->V->Bool
 | .non,.non=>true | .non,.int _=>true | .int _,.non=>true | .non,.bl _=>true | .bl _,.non=>true | .non,.str _=>true | .str _,.non=>true
 | .int _,.int _=>true | .bl _,.bl _=>true | .str _,.str _=>true | .byt _,.byt _=>true
 | .int _,.str _=>true | .str _,.int _=>true | .bl _,.str _=>true | .str _,.bl _=>true
 | _,_=>false
def rEq:R2:=fun x y H Q=>scal x y=true/\Q (.bl (decide (x=y))) H
def rNe:R2:=fun x y H Q=>scal x y=true/\Q (.bl (!decide (x=y))) H
theorem agf {i j:Int}:decide (V.int i=V.int j)=(i == j):=by
 rw [aH8]
 simp
theorem alo {i j:Bool}:decide (V.bl i=V.bl j)=(i == j):=by
 rw [aH8]
 simp
theorem an9 {i j:Str}:decide (V.str i=V.str j)=(i == j):=by
 rw [aH8]
 simp
theorem aoa {i j:Array UInt8}:decide (V.byt i=V.byt j)=(i.toList == j.toList):=by
 rw [aH8]
 cases i
 cases j
 simp
section
variable {X:Cx} {a b c:Expr} {ta tb tc:TE} {pos:Pos}
theorem aaz {pins:List (Addr × Obj)} {σ:St} {H:Hp} {s:Shared} {Q:VK} {k a:Bool} (I:Inv X pins σ H s) (q:Q (.bl k) H) (e:k=a):EP X pins σ Q (.bool a) s:=by
 subst e
 exact ⟨.bl k,H,I,rfl,q⟩
theorem agg:OpR X (compareOp .Eq) rEq:=by
 intro pins s σ H x y v u Q I b a h
 obtain ⟨hs,q⟩:=h
 cases x with
 | non =>
  cases b
  cases y with
  | non=>cases a;exact PySem.EqNone.eq_none_none (aaz I q (by simp))
  | bl j=>cases a;exact PySem.EqNone.eq_none_bool (aaz I q (by simp))
  | int j=>obtain ⟨t',rfl⟩:=a;exact PySem.EqNone.eq_none_int (aaz I q (by simp))
  | str j=>obtain ⟨t',rfl⟩:=a;exact PySem.EqNone.eq_none_str (aaz I q (by simp))
  | _=>exact absurd (show false=true from hs) aB0
 | bl i =>
  cases b
  cases y with
  | non=>cases a;exact PySem.EqNone.eq_bool_none (aaz I q (by simp))
  | bl j=>cases a;exact eq_bool (aaz I q alo)
  | str j=>obtain ⟨t',rfl⟩:=a;exact PySem.EqMixed.eq_bool_str (aaz I q (by simp))
  | _=>exact absurd (show false=true from hs) aB0
 | int i =>
  obtain ⟨t,rfl⟩:=b
  cases y with
  | non=>cases a;exact PySem.EqNone.eq_int_none (aaz I q (by simp))
  | int j=>obtain ⟨t',rfl⟩:=a;exact eq_int (aaz I q agf)
  | str j=>obtain ⟨t',rfl⟩:=a;exact PySem.EqMixed.eq_int_str (aaz I q (by simp))
  | _=>exact absurd (show false=true from hs) aB0
 | str i =>
  obtain ⟨t,rfl⟩:=b
  cases y with
  | non=>cases a;exact PySem.EqNone.eq_str_none (aaz I q (by simp))
  | bl j=>cases a;exact PySem.EqMixed.eq_str_bool (aaz I q (by simp))
  | int j=>obtain ⟨t',rfl⟩:=a;exact PySem.EqMixed.eq_str_int (aaz I q (by simp))
  | str j=>obtain ⟨t',rfl⟩:=a;exact eq_str (aaz I q an9)
  | _=>exact absurd (show false=true from hs) aB0
 | byt i =>
  obtain ⟨t,rfl⟩:=b
  cases y with
  | byt j=>obtain ⟨t',rfl⟩:=a;exact PySem.W.eq_bytes (aaz I q aoa)
  | _=>exact absurd (show false=true from hs) aB0
 | _=>cases y <;> exact absurd (show false=true from hs) aB0
theorem ahx:OpR X (compareOp .NotEq) rNe:=by
 intro pins s σ H x y v u Q I b a h
 obtain ⟨hs,q⟩:=h
 cases x with
 | non =>
  cases b
  cases y with
  | non=>cases a;exact PySem.EqNone.ne_none_none (aaz I q (by simp))
  | bl j=>cases a;exact PySem.EqNone.ne_none_bool (aaz I q (by simp))
  | int j=>obtain ⟨t',rfl⟩:=a;exact PySem.EqNone.ne_none_int (aaz I q (by simp))
  | str j=>obtain ⟨t',rfl⟩:=a;exact PySem.EqNone.ne_none_str (aaz I q (by simp))
  | _=>exact absurd (show false=true from hs) aB0
 | bl i =>
  cases b
  cases y with
  | non=>cases a;exact PySem.EqNone.ne_bool_none (aaz I q (by simp))
  | bl j=>cases a;exact ne_bool (aaz I q (congrArg not alo))
  | str j=>obtain ⟨t',rfl⟩:=a;exact PySem.EqMixed.ne_bool_str (aaz I q (by simp))
  | _=>exact absurd (show false=true from hs) aB0
 | int i =>
  obtain ⟨t,rfl⟩:=b
  cases y with
  | non=>cases a;exact PySem.EqNone.ne_int_none (aaz I q (by simp))
  | int j=>obtain ⟨t',rfl⟩:=a;exact ne_int (aaz I q (congrArg not agf))
  | str j=>obtain ⟨t',rfl⟩:=a;exact PySem.EqMixed.ne_int_str (aaz I q (by simp))
  | _=>exact absurd (show false=true from hs) aB0
 | str i =>
  obtain ⟨t,rfl⟩:=b
  cases y with
  | non=>cases a;exact PySem.EqNone.ne_str_none (aaz I q (by simp))
  | bl j=>cases a;exact PySem.EqMixed.ne_str_bool (aaz I q (by simp))
  | int j=>obtain ⟨t',rfl⟩:=a;exact PySem.EqMixed.ne_str_int (aaz I q (by simp))
  | str j=>obtain ⟨t',rfl⟩:=a;exact ne_str (aaz I q (congrArg not an9))
  | _=>exact absurd (show false=true from hs) aB0
 | byt i =>
  obtain ⟨t,rfl⟩:=b
  cases y with
  | byt j=>obtain ⟨t',rfl⟩:=a;exact PySem.W.ne_bytes (aaz I q (congrArg not aoa))
  | _=>exact absurd (show false=true from hs) aB0
 | _=>cases y <;> exact absurd (show false=true from hs) aB0
theorem ae8:OpR X (compareOp .Lt) (rI0 fun i j => .bl (decide (i < j))):=opB0 fun _ _ _ _ _ _ _ q=>lt_int q
theorem ap0:OpR X (compareOp .LtE) (rI0 fun i j => .bl (decide (i<=j))):=opB0 fun _ _ _ _ _ _ _ q=>le_int q
theorem ae9:OpR X (compareOp .Gt) (rI0 fun i j => .bl (decide (j < i))):=opB0 fun _ _ _ _ _ _ _ q=>gt_int q
theorem a1f:OpR X (compareOp .GtE) (rI0 fun i j => .bl (decide (j<=i))):=opB0 fun _ _ _ _ _ _ _ q=>ge_int q
theorem ay5:OpR X (compareOp .Is) (fun x y H Q=>y=.non/\Q (.bl (decide (x=.non))) H):=by
 intro pins s σ H x y v u Q I a b h
 obtain ⟨rfl,q⟩:=h
 cases b
 refine is_none_gen (aaz I q ?_)
 cases x <;> first
  | (cases a;rfl)
  | (obtain ⟨t,rfl⟩:=a;rfl)
theorem aax (b:Expr) {op:CmpOp} (h:op ≠ .In:=by decide) (c:op ≠ .NotIn:=by decide):behindInMarks op b=false:=by
 have d:(op == CmpOp.In)=false:=by cases op <;> first | rfl | exact absurd rfl h
 have a:(op == CmpOp.NotIn)=false:=by cases op <;> first | rfl | exact absurd rfl c
 cases b <;> simp [behindInMarks,d,a]
theorem adb {op:CmpOp} {r:R2} (c:OpR X (compareOp op) r) (ha:PE X a ta) (hb:PE X b tb) (hm:behindInMarks op b=false):PE X (.Compare a [op] [b] pos) (tOp r ta tb):=by
 intro pins s σ H Q I h
 exact wpAny_Compare1 (binT ha hb I h fun v u s2 x y H2 f g d q=>c pins s2 σ H2 x y v u Q f g d q) hm
def av3 (t:TE):TT:=fun σ H Q=>t σ H fun x H'=>∃ k,x=.bl k/\Q k H'
theorem aav {op:CmpOp} {r:R2} (j:OpR X (compareOp op) r) (ha:PE X a ta) (hb:PE X b tb) (hm:behindInMarks op b=false):PT X (.Compare a [op] [b] pos) (av3 (tOp r ta tb)):=by
 intro pins s σ H Q I h
 refine wpAny_isTrue_Compare1 (thn (ha pins s σ H _ I h) fun v s1 ⟨x,p,m,g,q⟩=>thn (hb pins s1 σ p _ m q) fun u s2 ⟨y,H2,n,o,f⟩ =>
  thn (j pins s2 σ H2 x y v u _ n g o f) fun c t ⟨z,H3,i,d,k,e,l⟩=>?_) hm
 subst e
 cases d
 exact aK3 ⟨H3,i,l⟩
def alp (r r':R2) (ta tb tc:TE):TE:=fun σ H Q=>ta σ H fun x H1=>tb σ H1 fun y H2=>r x y H2 fun z H3=>∃ k,z=.bl k /\
 (if k=true then tc σ H3 fun w' H4=>r' y w' H4 Q else Q (.bl false) H3)
theorem atm {op f:CmpOp} {r j:R2} (w:OpR X (compareOp op) r) (g:OpR X (compareOp f) j) (ha:PE X a ta) (hb:PE X b tb) (F:PE X c tc)
  (hm:lastMarks [op,f] [b,c]=false:=by with_unfolding_all rfl):PE X (.Compare a [op,f] [b,c] pos) (alp r j ta tb tc):=by
 intro pins s σ H Q I h
 refine Compare_chain (thn (ha pins s σ H _ I h) fun v s1 ⟨x,G,B,q,J⟩=>chain_link (thn (hb pins s1 σ G _ B J) fun u s2 ⟨y,H2,C,m,o⟩ =>
  thn (w pins s2 σ H2 x y v u _ C q m o) fun d A ⟨z,H3,i,n,k,e,l⟩=>?_)) hm
 subst e
 cases n
 refine aK3 ?_
 cases k with
 | false=>exact ite_ff ⟨.bl false,H3,i,rfl,l⟩
 | true=>exact ite_tt (chain_last (thn (F pins A σ H3 _ i l) fun E L ⟨t,D,p,M,K⟩=>g pins L σ D y t u E Q p m M K))
def TruV (K:Frag) (x:V) (H:Hp) (k:Bool):Prop :=
 match x with
 | .non=>k=false
 | .bl b=>k=b
 | .int i=>k=(i != 0)
 | .str y=>y.length<=sizeLine/\k=((y.length:Int) != 0)
 | .byt y=>y.size<=sizeLine/\k=((y.size:Int) != 0)
 | .ref p=>(∃ xs,SqL K H p xs/\k = !xs.isEmpty)\/(∃ xs,SqT K H p xs/\k = !xs.isEmpty)\/∃ kvs,H p=some (.dK kvs)/\k = !kvs.isEmpty
 | _=>False
theorem ap1 {κ:Type} {kvs:List (κ × V)} {vs:List (κ × Value)} (r:KV kvs vs):(!vs.isEmpty) = !kvs.isEmpty:=by
 cases r <;> rfl
theorem ahy {xs:List V} {its:List Value} (r:Vals xs its):(!its.toArray.isEmpty) = !xs.isEmpty:=by
 cases r <;> simp
theorem afv:(sizeLine:Nat) < 2 ^ 63:=by rw [sizeLine_eq];decide
theorem ay6:TruR X (fun x H Q=>∃ k,TruV X.K x H k/\Q k H):=by
 intro pins s σ H x v Q I d h
 obtain ⟨k,e,q⟩:=h
 have l:=afv
 have hs:sizeLine=16777216:=sizeLine_eq
 cases x with
 | non =>
  cases d
  have a:k=false:=e
  subst a
  exact truthy_none ⟨H,I,q⟩
 | bl b =>
  cases d
  have a:k=b:=e
  subst a
  exact aK3 ⟨H,I,q⟩
 | int i =>
  obtain ⟨t,rfl⟩:=d
  have a:k=(i != 0):=e
  subst a
  exact PySem.P.truthy_int ⟨H,I,q⟩
 | str y =>
  obtain ⟨t,rfl⟩:=d
  obtain ⟨j,a⟩:y.length<=sizeLine/\k=((y.length:Int) != 0):=e
  subst a
  exact PySem.P.truthy_str (by omega) ⟨H,I.tok _,q⟩
 | byt y =>
  obtain ⟨t,rfl⟩:=d
  obtain ⟨j,a⟩:y.size<=sizeLine/\k=((y.size:Int) != 0):=e
  subst a
  exact PySem.W.truthy_bytes (by omega) ⟨H,I.tok _,q⟩
 | ref p =>
  cases d
  have a:(∃ xs,SqL X.K H p xs/\k = !xs.isEmpty)\/(∃ xs,SqT X.K H p xs/\k = !xs.isEmpty)\/∃ kvs,H p=some (.dK kvs)/\k = !kvs.isEmpty:=e
  rcases a with ⟨xs,f,a⟩ | ⟨xs,f,a⟩ | ⟨kvs,f,a⟩
  ·subst a
   obtain ⟨its,r,pl,hz⟩:=I.list f
   have c:=r.length
   exact wpAny_truthy_list pl.isList (by simp only [aB2];omega) ⟨H,I.tok _,by rw [ahy r];exact q⟩
  ·subst a
   obtain ⟨its,r,pl,hz⟩:=I.tuple f
   have c:=r.length
   exact truthy_tuple pl (by simp only [aB2];omega) ⟨H,I.tok _,by rw [ahy r];exact q⟩
  ·subst a
   obtain ⟨hz,g,vs,r,m⟩:kvs.length<=sizeLine/\(p == sysModules)=false/\∃ vs,KV kvs vs/\s.heap.DictOf (abg X.prog X.w) p vs:=I.hok p _ f
   have c:kvs.length=vs.length:=Paired.length r
   exact wpAny_truthy_dict g m (by omega) ⟨H,I.tok _,by rw [ap1 r];exact q⟩
 | _=>exact (show False from e).elim
theorem atn (ha:PE X a ta) (g:∀ whole,isTrue a X.env whole=(do let v ← whole;standAt a.pos;holding [v] (truthy v))) :
  PT X a (fun σ H Q=>ta σ H fun x H'=>∃ k,TruV X.K x H' k/\Q k H'):=by
 intro pins s σ H Q I h
 exact isTrue_plain (thn (ha pins s σ H _ I h) fun v s1 ⟨x,d,c,b,f⟩=>ay6 pins s1 σ d x v Q c b f) (g _)
theorem ac7 {x:V} {us:List Value} (r:Vals [x] us):∃ u,us=[u]/\RelV x u:=by
 cases r with
 | cons r1 r2=>cases r2;exact ⟨_,rfl,r1⟩
theorem agh {x y:V} {us:List Value} (r:Vals [x,y] us):∃ u a,us=[u,a]/\RelV x u/\RelV y a:=by
 cases r with
 | cons r1 r2 =>
  cases r2 with
  | cons r3 r4=>cases r4;exact ⟨_,_,rfl,r1,r3⟩
theorem ard (a:X.calm=true):abd X (.builtin "max") (fun xs H Q=>∃ i j,xs=[.int i,.int j]/\Q (.int (if j > i then j else i)) H):=by
 intro pins s σ H xs us Q I r h
 obtain ⟨i,j,rfl,q⟩:=h
 obtain ⟨u,c,rfl,⟨t,rfl⟩,⟨t',rfl⟩⟩:=agh r
 refine max_two_ints (I.ok.hd a) fun h' b k=>⟨_,H,I.kept k,?_,q⟩
 by_cases hj:j > i
 ·rw [aF5 hj,aF5 hj];exact ⟨_,rfl⟩
 ·rw [aF6 hj,aF6 hj];exact ⟨_,rfl⟩
theorem arf (a:X.calm=true):abd X (.builtin "min") (fun xs H Q=>∃ i j,xs=[.int i,.int j]/\Q (.int (if j < i then j else i)) H):=by
 intro pins s σ H xs us Q I r h
 obtain ⟨i,j,rfl,q⟩:=h
 obtain ⟨u,c,rfl,⟨t,rfl⟩,⟨t',rfl⟩⟩:=agh r
 refine min_two_ints (I.ok.hd a) fun h' b k=>⟨_,H,I.kept k,?_,q⟩
 by_cases hj:j < i
 ·rw [aF5 hj,aF5 hj];exact ⟨_,rfl⟩
 ·rw [aF6 hj,aF6 hj];exact ⟨_,rfl⟩
theorem arh:abd X (.type "int") (fun xs H Q=>(∃ i,xs=[.int i]/\Q (.int i) H)\/∃ k,xs=[.bl k]/\Q (.int (if k then 1 else 0)) H):=by
 intro pins s σ H xs us Q I r h
 rcases h with ⟨i,rfl,q⟩ | ⟨k,rfl,q⟩
 ·obtain ⟨u,rfl,t,rfl⟩:=ac7 r
  exact call_int_int ⟨.int i,H,I,⟨_,rfl⟩,q⟩
 ·obtain ⟨u,rfl,a⟩:=ac7 r
  cases a
  exact call_int_bool ⟨.int (if k then 1 else 0),H,I.tok _,⟨_,rfl⟩,q⟩
end
structure ObjM (h:Heap) (x dx C:Addr) (mA:Str->Option Value):Prop where
 obj:h.get? x=some (PySem.W.instObj C dx)
 ns:h.Ns1 dx mA
 ne:dx ≠ x
theorem ari {h:Heap} {dx:Addr} {mA:Str->Option Value} (n:h.Ns1 dx mA):∃ od,h.get? dx=some od/\∀ name,PySem.W.lookIn name od=some (mA name):=by
 obtain ⟨o,es,ep,c,hd,g,_,hm⟩:=n
 refine ⟨o,c,fun name=>?_⟩
 have e:=hm name
 unfold nsFind findBy at e
 rw [← Array.find?_toList] at e
 unfold PySem.W.lookIn
 rw [hd]
 dsimp only
 split
 ·rename_i y q
  rw [q] at e
  exact congrArg some e
 ·rename_i q
  rw [q] at e
  have a:es.toList.any (·.refKey)=false:=by
   rw [List.any_eq_false]
   intro y d
   obtain ⟨z,t,b⟩:=g y (Array.mem_toList_iff.mp d)
   simp [DictEntry.refKey,b]
  have f:¬ es.toList.any (·.refKey)=true:=by rw [a];exact aB0
  rw [aF6 f]
  exact congrArg some e
theorem ObjM.look {h:Heap} {x dx C:Addr} {mA:Str->Option Value} (I:ObjM h x dx C mA):∃ od,PySem.W.InstAt h x (PySem.W.instObj C dx) C (some od)/\∀ name,PySem.W.lookIn name od=some (mA name) :=
 let ⟨od,b,a⟩:=ari I.ns
 ⟨od,⟨I.obj,rfl,rfl,b⟩,a⟩
section
variable {prog:Program} {w:World} {A:Around} {E:Value->Shared->Prop} {s:Shared} {K:Frag} {x dx C f:Addr} {mA:Str->Option Value} {name:Str} {v:Value}
end
def putF (f:Str) (v:V):List (Str × V)->List (Str × V)
 | []=>[(f,v)]
 | (g,x) :: r=>if g=f then (g,v) :: r else (g,x) :: putF f v r
section
variable {P:Program} {w:World} {H H':Hp} {h h':Heap} {a C dx:Addr} {fs fs':List (Str × V)}
theorem ins_get (hok:HOk P w H h) (e:H a=some (.ins C dx fs)):∃ mA,ObjM h a dx C mA/\(∀ f,RelO (fs.lookup f) (mA f))/\PySem.Within mA (fs.map (·.1))/\fs.length<=1000/\H dx=some (.own a):=by
 obtain ⟨d,z,ne,b,mA,n,r,q⟩:=(show ObjOk P w H h a (.ins C dx fs) from hok a _ e)
 exact ⟨mA,⟨b,n,ne⟩,r,q,z,d⟩
end
structure Cls (K:Frag) (C:Addr):Prop where
 pg:PySem.W.plainGet K C Str.empty=true
 hd:PySem.W.hasDictIn K C=true
 po:PySem.W.plainOver K C=true
 sa:PySem.W.findIn K (.ref C) "__setattr__" = some (some (.builtin "object.__setattr__"))
theorem Cls.get {K:Frag} {C:Addr} (c:Cls K C) (f:Str):PySem.W.plainGet K C f=true:=c.pg
section
variable {X:Cx} {pins:List (Addr × Obj)} {σ:St} {H:Hp} {s:Shared} {a C dx:Addr} {fs:List (Str × V)} {f:Str} {v:V} {A:Around} {E:Value->Shared->Prop}
end
section
variable {X:Cx} {o e value:Expr} {f:Str} {pos pos' tpos:Pos} {ta tv:TE}
end
section
variable {X:Cx} {pins:List (Addr × Obj)} {σ:St} {H:Hp} {s:Shared} {A:Around} {E:Value->Shared->Prop} {Q:Value->Shared->Prop} {c:Value} {b:Bool}
inductive TyOf (K:Frag) (H:Hp):V->Value->Prop where
 | non:TyOf K H .non (.type "NoneType")
 | bl (x:Bool):TyOf K H (.bl x) (.type "bool")
 | int (i:Int):TyOf K H (.int i) (.type "int")
 | str (x:Str):TyOf K H (.str x) (.type "str")
 | flt (x:UInt64):TyOf K H (.flt x) (.type "float")
 | lst {a:Addr} {xs:List V} (e:H a=some (.lst xs)):TyOf K H (.ref a) (.type "list")
 | frz {a:Addr} {o:Obj} {xs:List V} (e:H a=some (.frz o (.lst xs))):TyOf K H (.ref a) (.type "list")
 | tup {a:Addr} {xs:List V} (e:H a=some (.tup xs)):TyOf K H (.ref a) (.type "tuple")
 | dK {a:Addr} {kvs:List (Key × V)} (e:H a=some (.dK kvs)):TyOf K H (.ref a) (.type "dict")
 | dT {a:Addr} {kvs:List (List Key × V)} (e:H a=some (.dT kvs)):TyOf K H (.ref a) (.type "dict")
 | ins {a C dx:Addr} {fs:List (Str × V)} (e:H a=some (.ins C dx fs)) (cl:Cls K C) (ha:PySem.W.findIn K (.ref C) "__class__" = some (some (.builtin "object.__class__")))
   (hn:PySem.W.specialIn K (.builtin "object.__class__") "__get__" = some (some (.builtin "getset_descriptor.__get__"))) (htk:PySem.W.takesIn K (.builtin "object.__class__")=some true)
   (hm:mroIn K C (.type "object")=some true):TyOf K H (.ref a) (.ref C)
theorem arj {x:V} {u t:Value} (I:Inv X pins σ H s) (d:RelV x u) (ty:TyOf X.K H x t) (e:kitOne X.K t c=some b) (h:∀ j,Q (.bool b) { s with toks:=j }) :
  wpAny (model X.prog X.w) A (call (.builtin "isinstance") [u,c]) Q E s:=by
 cases ty with
 | non=>cases (show u=Value.none from d);exact PySem.W.kia_one PySem.W.kitx_none I.kIn True.intro e (fun z=>nomatch z) h
 | bl y=>cases (show u=Value.bool y from d);exact PySem.W.kia_one PySem.W.kitx_bool I.kIn True.intro e (fun z=>nomatch z) h
 | int i=>obtain ⟨t,q⟩:=(show ∃ t,u=Value.int i t from d);cases q;exact PySem.W.kia_one PySem.W.kitx_int I.kIn True.intro e (fun z=>nomatch z) h
 | str y=>obtain ⟨t,q⟩:=(show ∃ t,u=Value.str y t from d);cases q;exact PySem.W.kia_one PySem.W.kitx_str I.kIn True.intro e (fun z=>nomatch z) h
 | flt y=>obtain ⟨t,q⟩:=(show ∃ t,u=Value.float y t from d);cases q;exact PySem.W.kia_one PySem.W.kitx_float I.kIn True.intro e (fun z=>nomatch z) h
 | @lst a xs ea =>
  cases (show u=Value.ref a from d)
  obtain ⟨_,_,n,_,f⟩:=(show ObjOk X.prog X.w H s.heap a (.lst xs) from I.hok a _ ea)
  exact PySem.W.kia_one PySem.W.kitx_list I.kIn ⟨_,f,rfl⟩ e (fun z=>nomatch z) h
 | @frz a ob xs ea =>
  cases (show u=Value.ref a from d)
  obtain ⟨_,_,_,n,_,f⟩:=(show ObjOk X.prog X.w H s.heap a (.frz ob (.lst xs)) from I.hok a _ ea)
  exact PySem.W.kia_one PySem.W.kitx_list I.kIn ⟨_,f,rfl⟩ e (fun z=>nomatch z) h
 | @tup a xs ea =>
  cases (show u=Value.ref a from d)
  obtain ⟨_,_,_,p⟩:=(show ObjOk X.prog X.w H s.heap a (.tup xs) from I.hok a _ ea)
  obtain ⟨o,f,g,_⟩:=p
  exact PySem.W.kia_one PySem.W.kitx_tuple I.kIn ⟨o,f,g⟩ e (fun z=>nomatch z) h
 | @dK a kvs ea =>
  cases (show u=Value.ref a from d)
  obtain ⟨_,_,vs,_,p⟩:=(show ObjOk X.prog X.w H s.heap a (.dK kvs) from I.hok a _ ea)
  obtain ⟨o,es,ep,f,g,_⟩:=p
  exact PySem.W.kia_one PySem.W.kitx_dict I.kIn ⟨o,f,g.1⟩ e (fun z=>nomatch z) h
 | @dT a kvs ea =>
  cases (show u=Value.ref a from d)
  obtain ⟨_,_,xs,_,o,es,ep,f,g,_⟩:=(show ObjOk X.prog X.w H s.heap a (.dT kvs) from I.hok a _ ea)
  exact PySem.W.kia_one PySem.W.kitx_dict I.kIn ⟨o,f,g.1⟩ e (fun z=>nomatch z) h
 | @ins a C dx fs ea cl ha hn htk hm =>
  cases (show u=Value.ref a from d)
  obtain ⟨mA,O,_⟩:=ins_get I.hok ea
  obtain ⟨od,J,_⟩:=O.look
  exact PySem.W.kia_one (PySem.W.kitx_own (cl.get _) cl.hd ha hn htk hm) I.kIn J e (fun z=>nomatch z) h
end
structure Room (k:Nat) (A:Around):Prop where
 hd:A.handled=none
 dp:A.depth+3 * k+5 < recursionLimit
 un:A.units+16 * k+200 < cLine
theorem Room.mono {j k:Nat} {A:Around} (r:Room k A) (h:j<=k):Room j A:=⟨r.hd,by have:=r.dp;omega,by have:=r.un;omega⟩
theorem Room.deeper {k:Nat} {A:Around} (r:Room (k+1) A) (env:Env):Room k (A.deeper env) :=
 ⟨r.hd,by have:=r.dp;show A.depth+1+3 * k+5 < _;omega,by have:=r.un;show A.units+3+16 * k+200 < _;omega⟩
theorem Room.depth {k:Nat} {A:Around} (r:Room k A):A.depth < recursionLimit:=by have:=r.dp;omega
theorem Room.units {k:Nat} {A:Around} (r:Room k A):A.units+64 < cLine:=by have:=r.un;omega
theorem Room.units0 {k:Nat} {A:Around} (r:Room k A):A.units < cLine:=by have:=r.un;omega
def tNil:TA:=fun _ H Q=>Q [] H
def aa2 (ta:TE) (tr:TA):TA:=fun σ H Q=>ta σ H fun x H1=>tr σ H1 fun xs H2=>Q (x :: xs) H2
section
variable {X:Cx} {e:Expr} {es:List Expr} {te:TE} {t:TA} {pos:Pos}
theorem aab:PA X [] tNil:=fun _ _ _ _ H Q I h=>Calls.spliced_nil ⟨[],H,I,.nil,h⟩
theorem aaa (ha:PE X e te) (l:PA X es t) (hs:starEach (e :: es) X.env=(false,eval e X.env) :: starEach es X.env:=by rfl):PA X (e :: es) (aa2 te t):=by
 intro a pins s σ H Q I h
 rw [hs]
 show wpAny _ _ (spliced ((false,eval e X.env) :: backTo a (starEach es X.env))) _ _ s
 refine Calls.spliced_cons (thn (ha pins s σ H _ I h) fun u s1 ⟨x,i,d,c,j⟩=>?_)
 exact thn (l a pins s1 σ i _ d j) fun us s2 ⟨xs,H2,f,g,b⟩=>⟨x :: xs,H2,f,.cons c g,b⟩
def tTup (t:TA):TE:=fun σ H Q=>t σ H fun xs H1=>xs.length<=sizeLine/\∀ p,H1 p=none->Q (.ref p) (upd H1 p (.tup xs))
def tLst (t:TA):TE:=fun σ H Q=>t σ H fun xs H1=>xs.length<=sizeLine/\∀ p,H1 p=none->Q (.ref p) (upd H1 p (.lst xs))
theorem aa6 {x1} (h:PA X es t):PE X (.Tuple es x1 pos) (tTup t):=by
 intro pins s σ H Q I d
 refine wpAny_Tuple_spliced (thn (h pos pins s σ H _ I d) fun us s1 ⟨xs,c,a,r,z,q⟩=>⟨by rw [← r.length];exact z,?_⟩)
 have hf:c s1.heap.objs.size=none:=a.hok.fresh (aA6 _)
 refine ⟨.ref s1.heap.objs.size,upd c s1.heap.objs.size (.tup xs),a.laid (t':=s1.toks) (fun b u e=>aJ1 _ e) (aA6 _) ?_,rfl,q _ hf⟩
 exact ⟨z,us,r,⟨_,aJ3 _ rfl,rfl,_,rfl⟩⟩
theorem aa3 (h:PA X es t):PE X (.List es pos) (tLst t):=by
 intro pins s σ H Q I d
 refine wpAny_List_spliced (thn (h pos pins s σ H _ I d) fun us s1 ⟨xs,c,a,r,z,q⟩=>⟨by rw [← r.length];exact z,?_⟩)
 have hf:c s1.heap.objs.size=none:=a.hok.fresh (aA6 _)
 refine ⟨.ref s1.heap.objs.size,upd c s1.heap.objs.size (.lst xs),a.laid (t':=s1.toks) (fun b u e=>aJ1 _ e) (aA6 _) ?_,rfl,q _ hf⟩
 exact ⟨z,us,0,r,aJ3 _ rfl⟩
end
abbrev Sp:=List V->Hp->VK->XK->Prop
abbrev CXT:=List Env->Hp->Shared->XK->Value->Shared->Prop
structure Env0 (P:Program) (w:World) (K:Frag) (mg:Str->Option Value) (base:Heap) (A:Around) (outer:List Env) (s:Shared) (H:Hp):Prop where
 frames:A.frames=some outer
 mod:Mod K mg base
 bs:∀ b o,base.get? b=some o->s.heap.get? b=some o/\H b=none
 bsz:base.objs.size<=s.heap.objs.size
 funs:s.heap.FunFrames base outer
 frf:∀ b∈frs outer,H b=none
 hok:HOk P w H s.heap
 bare:AllBare s.gens
def CE (outer:List Env) (P:Program) (w:World) (H:Hp) (s:Shared) (Q:VK) (u:Value) (s':Shared):Prop :=
 ∃ v H',s'.os=s.os/\AllBare s'.gens/\Un (frs outer) [] H H' s.heap s'.heap/\HOk P w H' s'.heap/\RelV v u/\Q v H'
def CR (CX:CXT) (outer:List Env) (P:Program) (w:World) (H:Hp) (s:Shared) (Q:VK) (E:XK) (r:Result) (s':Shared):Prop :=
 match r with
 | .ok (.ret u)=>CE outer P w H s Q u s'
 | .ok _=>False
 | .error e=>CX outer H s E e s'
structure FnOk (P:Program) (w:World) (K:Frag) (mg:Str->Option Value) (base:Heap) (CX:CXT) (k:Nat) (f:Addr) (fd:FuncData) (ps:List Str) (sp:Sp):Prop where
 len:∀ vs H Q E,sp vs H Q E->vs.length=ps.length
 run:∀ (A:Around) (outer:List Env) (s:Shared) (H:Hp) (args:Args) (us:List Value) (vs:List V) (Q:VK) (E:XK),Room k A->Env0 P w K mg base A outer s H->BindsTo s fd args (ps.zip us)->Vals vs us->sp vs H Q E ->
  codeAny (model P w) A (.call (.ref f) args) (CR CX outer P w H s Q E) s
theorem FnOk.imp {P:Program} {w:World} {K:Frag} {mg:Str->Option Value} {base:Heap} {CX:CXT} {k:Nat} {f:Addr} {fd:FuncData} {ps:List Str} {sp a:Sp} (F:FnOk P w K mg base CX k f fd ps sp)
  (h:∀ vs H Q E,a vs H Q E->sp vs H Q E):FnOk P w K mg base CX k f fd ps a :=
 ⟨fun vs H Q E q=>F.len vs H Q E (h _ _ _ _ q),fun A outer s H args us vs Q E b c hb d hs=>F.run A outer s H args us vs Q E b c hb d (h _ _ _ _ hs)⟩
section
variable {X:Cx} {pins:List (Addr × Obj)} {σ:St} {H:Hp} {s s':Shared}
theorem Inv.env0 (I:Inv X pins σ H s):Env0 X.prog X.w X.K X.mg X.base X.A X.stack s H :=
 ⟨I.ok.frames,I.ok.mod,I.bs,aD0 I.ok.bsz I.sz,I.stack,I.stkFree,I.hok,I.bare⟩
theorem Inv.after {Q:VK} {u:Value} (I:Inv X pins σ H s) (h:CE X.stack X.prog X.w H s Q u s'):EP X pins σ Q u s':=by
 obtain ⟨v,H',os,bare,un,hok,r,q⟩:=h
 obtain ⟨hh,g,d,t,os'⟩:=s'
 obtain rfl:os'=s.os:=os
 exact ⟨v,H',I.call (h':=hh) (g':=g) (d':=d) (t':=t) (ch:=[]) un hok bare (fun b z=>absurd z (by simp)),r,q⟩
end
def abf (sp:Sp) (dvs:List V) (E:XK) (t:TA):TE:=fun σ H Q=>t σ H fun vs H1=>sp (vs ++ dvs) H1 Q E
def Binds (K:Frag) (fd:FuncData) (ps:List Str) (ds:List Value):Prop :=
 ∀ (s:Shared) (us:List Value),K.In s.heap->(us ++ ds).length=ps.length->BindsTo s fd ⟨us,[]⟩ (ps.zip (us ++ ds))
theorem Binds.all {K:Frag} {fd:FuncData} {ps:List Str} (h:∀ us:List Value,us.length=ps.length->bindArgs fd ⟨us,[]⟩=pure (ps.zip us)):Binds K fd ps []:=fun s us _ a=>by
 rw [aE9] at a ⊢
 exact .of_eq (h us a)
def ahz (CX:CXT) (X:Cx) (E:XK):Prop:=∀ (pins:List (Addr × Obj)) (σ:St) (H:Hp) (s:Shared) (e:Value) (s':Shared),Inv X pins σ H s->CX X.stack H s E e s'->X.xe e s'
section
variable {X:Cx} {CX:CXT} {k:Nat} {f C:Addr} {fd:FuncData} {ps:List Str} {sp:Sp} {dvs:List V} {ds:List Value} {E:XK} {x m:Str} {p pos apos:Pos} {e o:Expr} {es:List Expr} {ta:TE} {t:TA}
theorem alq {pins:List (Addr × Obj)} {σ:St} {H:Hp} {s:Shared} {Q:VK} {us:List Value} {vs:List V} (F:FnOk X.prog X.w X.K X.mg X.base CX k f fd ps sp) (d:Room k X.A) (hb:Binds X.K fd ps ds) (hd:Vals dvs ds) (g:ahz CX X E)
  (I:Inv X pins σ H s) (r:Vals vs us) (h:sp (vs ++ dvs) H Q E):wpAny (model X.prog X.w) X.A (call (.ref f) us) (EP X pins σ Q) X.xe s:=by
 have b:Vals (vs ++ dvs) (us ++ ds):=r.append hd
 have c:(us ++ ds).length=ps.length:=by rw [← b.length];exact F.len _ _ _ _ h
 refine wpAny_call (aJ4 (F.run X.A X.stack s H ⟨us,[]⟩ (us ++ ds) (vs ++ dvs) Q E d I.env0 (hb s us I.kIn c) b h) fun r s' a=>?_)
 cases r with
 | error e=>exact g pins σ H s e s' I a
 | ok fl =>
  cases fl with
  | ret u=>exact I.after a
  | next=>exact False.elim a
  | brk=>exact False.elim a
  | cont=>exact False.elim a
theorem aob (F:FnOk X.prog X.w X.K X.mg X.base CX k f fd ps sp) (g:Room k X.A) (i:Gl X x) (hm:X.mg x=some (.ref f)) (d:keepIn X.K (.ref f)=true) (hb:Binds X.K fd ps ds) (hd:Vals dvs ds) (l:ahz CX X E)
  (ha:PA X (e :: es) t) (b:(x == ("__debug__" : Str))=false:=by decide) (j:starEach (e :: es) X.env=(false,eval e X.env) :: starEach es X.env:=by rfl) (a:(backTo pos (starEach es X.env)).any (·.1)=false:=by rfl) :
  PE X (.Call (.Name x p) (e :: es) [] pos) (abf sp dvs E t):=by
 intro pins s σ H Q I h
 refine wpAny_Call_Name_kw (aew I i hm ?_ b)
 refine PySem.W.callWith_K (h₀:=X.base) I.ok.mod.kin d (thn (ha pos pins s σ H _ I h) fun us s1 ⟨vs,m,c,r,q⟩=>⟨c.kIn,?_⟩) j a
 exact alq F g hb hd l c r q
end
section
variable {X:Cx} {CX:CXT} {k:Nat} {f C:Addr} {fd:FuncData} {ps ks:List Str} {sp:Sp} {E:XK} {x m:Str} {p pos apos kpos:Pos} {e o:Expr} {es:List Expr} {kws:List Keyword} {te ta:TE} {t tk:TA} {nm:Option Str}
variable {g:List Value->List Value->List Value} {gV:List V->List V->List V}
end
structure FnScope (N P:List Str) (sc:Scope):Prop where
 kind:sc.kind=.function
 co:sc.isCoroutine=false
 gen:sc.isGenerator=false
 nd:N.Nodup
 pre:N.take P.length=P
 par:∀ x∈P,sc.names.lookup x=some .local\/sc.names.lookup x=some .cell
 nofree:∀ y∈sc.names,y.2 ≠ .free
theorem ajr {kindOf:Str->Option NameKind} {x:Str}:∀ {binds:List (Str × Value)} {m:Str->Option Value},(∀ v,(x,v) ∉ binds)->bindL kindOf binds m x=m x
 | [],_,_=>rfl
 | (n,v) :: r,m,h=>by
  unfold bindL
  rw [ajr fun w a=>h w (aB5 _ a)]
  split
  ·have:x ≠ n:=by rintro rfl;exact h v aB8
   simp [this]
  ·rfl
theorem ajs {kindOf:Str->Option NameKind} {x:Str}:∀ {binds:List (Str × Value)} {m:Str->Option Value},(∀ v,(x,v) ∉ binds)->bindC kindOf binds m x=m x
 | [],_,_=>rfl
 | (n,v) :: r,m,h=>by
  unfold bindC
  rw [ajs fun w a=>h w (aB5 _ a)]
  split
  ·rfl
  ·have:x ≠ n:=by rintro rfl;exact h v aB8
   simp [this]
theorem ajt {kindOf:Str->Option NameKind} {x:Str} {v:Value}:∀ {P:List Str} {vs:List Value} {i:Nat} {m:Str->Option Value},P.Nodup->P[i]?=some x->vs[i]?=some v->kindOf x=some .local ->
  bindL kindOf (P.zip vs) m x=some v
 | [],_,_,_,_,h,_,_=>by simp at h
 | _ :: _,[],_,_,_,_,h,_=>by simp at h
 | p :: P,w :: vs,0,m,nd,h1,h2,hk=>by
  simp at h1 h2;subst h1;subst h2
  show bindL kindOf ((p,w) :: P.zip vs) m p=_
  unfold bindL
  rw [ajr fun v a=>(aI4.mp nd).1 (List.of_mem_zip a).1,aF5 hk]
  simp
 | p :: P,w :: vs,i+1,m,nd,h1,h2,hk=>by
  show bindL kindOf ((p,w) :: P.zip vs) m x=_
  unfold bindL
  exact ajt (i:=i) (aI4.mp nd).2 (by simpa using h1) (by simpa using h2) hk
theorem aju {kindOf:Str->Option NameKind} {x:Str} {v:Value}:∀ {P:List Str} {vs:List Value} {i:Nat} {m:Str->Option Value},P.Nodup->P[i]?=some x->vs[i]?=some v->kindOf x ≠ some .local ->
  bindC kindOf (P.zip vs) m x=some v
 | [],_,_,_,_,h,_,_=>by simp at h
 | _ :: _,[],_,_,_,_,h,_=>by simp at h
 | p :: P,w :: vs,0,m,nd,h1,h2,hk=>by
  simp at h1 h2;subst h1;subst h2
  show bindC kindOf ((p,w) :: P.zip vs) m p=_
  unfold bindC
  rw [ajs fun v a=>(aI4.mp nd).1 (List.of_mem_zip a).1,aF6 hk]
  simp
 | p :: P,w :: vs,i+1,m,nd,h1,h2,hk=>by
  show bindC kindOf ((p,w) :: P.zip vs) m x=_
  unfold bindC
  exact aju (i:=i) (aI4.mp nd).2 (by simpa using h1) (by simpa using h2) hk
def start (N:List Str) (vs:List V):St:=vs.map some ++ List.replicate (N.length - vs.length) none
def cxOf (CX:CXT) (P:Program) (w:World) (K:Frag) (mg:Str->Option Value) (base:Heap) (N:List Str) (qual:Str) (scope:Scope) (f:Addr) (cd:Value) (A:Around) (outer:List Env) (s:Shared) (H:Hp) (E:XK):Cx where
 prog:=P
 w:=w
 K:=K
 mg:=mg
 base:=base
 A:=A.deeper (envOfC qual scope s.heap.objs.size f cd)
 N:=N
 s₀:=s
 H₀:=H
 env:=envOfC qual scope s.heap.objs.size f cd
 outer:=outer
 stack:=envOfC qual scope s.heap.objs.size f cd :: outer
 ex:=[]
 calm:=true
 fn:=fun _=>true
 pn:=[]
 xe:=fun e s'=>wpAny (model P w) (A.deeper (envOfC qual scope s.heap.objs.size f cd)) (leaving (envOfC qual scope s.heap.objs.size f cd) e) (fun _ s''=>CX outer H s E e s'') (fun e' s''=>CX outer H s E e' s'') s'
theorem alr {sc:Scope} {n:Nat} {x:Str} (h:sc.names.lookup x=some .cell):∃ c,(cellsFrom n sc.names []).lookup x=some c:=by
 have q:=PySem.W.cellsFrom_some sc.names n [] (.inl h)
 exact Option.isSome_iff_exists.mp q
theorem ark {CX:CXT} {P:Program} {w:World} {K:Frag} {mg:Str->Option Value} {base:Heap} {N ps:List Str} {qual:Str} {scope:Scope} {f:Addr} {B:Value} {A:Around} {outer:List Env} {s s1:Shared} {H:Hp} {E:XK} {us:List Value} {vs:List V}
  (S:FnScope N ps scope) (hd:A.handled=none) (g:Env0 P w K mg base A outer s H) (I:vs.length=ps.length) (r:Vals vs us)
  (x:InCallC s s.heap.objs.size (bindL (envOfC qual scope s.heap.objs.size f B).kindOf (ps.zip us) fun _=>none) (cellsFrom (s.heap.objs.size+1) scope.names []) (bindC (envOfC qual scope s.heap.objs.size f B).kindOf (ps.zip us) fun _=>none) s1) :
  Inv (cxOf CX P w K mg base N qual scope f B A outer s H E) [] (start N vs) H s1:=by
 have F:ps.length<=N.length:=by have:=congrArg List.length S.pre;rw [aH0] at this;omega
 obtain ⟨t,L,rfl,C⟩:=x.done
 have l:∀ b:Addr,b ∉ (cxOf CX P w K mg base N qual scope f B A outer s H E).ex:=fun b z=>absurd (show b∈([]:List Addr) from z) (by simp)
 refine ⟨⟨g.mod,S.kind,rfl,rfl,aA6 _,fun y z c t d=>?_,fun y j=>?_,fun y c _ h=>?_,fun _=>hd,Around.frames_deeper g.frames,.inr ⟨rfl,rfl⟩,fun b z=>absurd z (l b),g.bs,g.bsz,fun b _ _=>l b,fun b z=>absurd z (l b),g.funs,g.frf⟩,
  rfl,g.bare,Un.kept C,⟨_,x.toInCall.ns,fun i y v t d J=>?_⟩,fun y c h=>⟨_,x.cell y c h⟩,g.hok.fresh (aA6 _),fun y c h=>?_,fun p m=>absurd (show p∈([]:List (Addr × Obj)) from m) (by simp),g.hok.kept C,?_⟩
 ·exact name_of_addr x.apart (PySem.mem_of_lookup t) (PySem.mem_of_lookup d)
 ·have j:scope.names.lookup y=some .cell\/scope.names.lookup y=some .free:=j
  rcases j with j | j
  ·exact alr j
  ·exact absurd rfl (S.nofree _ (PySem.mem_of_lookup j))
 ·exact aG5 (x.above y c (PySem.mem_of_lookup h))
 ·have hi:i < vs.length:=by
   unfold start at d
   by_cases hi:i < vs.length
   ·exact hi
   ·rw [aC8 (by simpa using hi)] at d
    rw [aH7] at d
    split at d <;> cases d
  have ha:vs[i]?=some v:=by
   unfold start at d
   rw [aC3 (by simpa using hi),aA5] at d
   cases e:vs[i]? with
   | none=>rw [e] at d;cases d
   | some a=>rw [e] at d;cases d;rfl
  obtain ⟨u,D,G⟩:=r.get ha
  have m:ps[i]?=some y:=by
   rw [← S.pre,aH5 (by omega)];exact t
  have o:ps.Nodup:=by rw [← S.pre];exact S.nd.sublist (List.take_sublist _ _)
  refine ⟨u,G,?_⟩
  rcases S.par y (aA2 m) with k | k
  ·exact .inl ⟨k,ajt o m D k⟩
  ·obtain ⟨c,e⟩:=alr (n:=s.heap.objs.size+1) k
   refine .inr ⟨.inl k,c,e,?_⟩
   have q:=x.cell y c e
   rw [aju o m D (by show scope.names.lookup y ≠ _;rw [k];decide)] at q
   exact q
 ·exact g.hok.fresh (aG5 (x.above y c (PySem.mem_of_lookup h)))
 ·unfold start
  show _=N.length
  rw [aB1,aA3,List.length_replicate]
  omega
theorem av4 {CX:CXT} {P:Program} {w:World} {K:Frag} {mg:Str->Option Value} {base:Heap} {k:Nat} {f:Addr} {name qual:Str} {a:Arguments} {body:List Stmt} {scope:Scope} {z kV doc pm cdv ct oc:Value} {an od:Option Addr}
  {osl:Array (Option Value)} {N ps:List Str} {sp:Sp} (C:K.lookup f=some ⟨oc,od,.func (fnOf name qual a body scope z kV doc pm an cdv ct),osl⟩) (m:codeIn K cdv qual=true) (S:FnScope N ps scope)
  (len:∀ vs H Q E,sp vs H Q E->vs.length=ps.length)
  (d:∀ (A:Around) (outer:List Env) (s:Shared) (H:Hp) (vs:List V) (Q:VK) (E:XK),Room k (A.deeper (envOfC qual scope s.heap.objs.size f cdv))->sp vs H Q E ->
   ∃ t,PSs (cxOf CX P w K mg base N qual scope f cdv A outer s H E) body t/\t { nx:=fun _ H'=>Q .non H',rt:=Q } (start N vs) H) :
  FnOk P w K mg base CX (k+1) f (fnOf name qual a body scope z kV doc pm an cdv ct) ps sp:=by
 refine ⟨len,fun A outer s H args us vs Q E p i hb r h=>?_⟩
 have G:=len _ _ _ _ h
 have B:K.In s.heap:=i.mod.kin.keeps fun b o e=>(i.bs b o e).1
 have j:s.heap.NoLimit:=i.mod.nolimit.keeps fun b o e=>(i.bs b o e).1
 have g:∀ y∈ps.zip us,scope.names.lookup y.1=some .local\/(scope.names.lookup y.1=some .cell/\((cellsFrom (s.heap.objs.size+1) scope.names []).lookup y.1).isSome=true):=fun ⟨n,v⟩ F=>by
  rcases S.par n (List.of_mem_zip F).1 with q | q
  ·exact .inl q
  ·exact .inr ⟨q,PySem.W.cellsFrom_some _ _ _ (.inl q)⟩
 refine codeAny_call_function p.depth (B _ _ C) rfl S.co S.gen rfl (PySem.W.codeRec_of B m) (hb _ _ _ _ ?_)
 refine wpAny_newFunctionEnv_cells S.kind g fun env O s1 x=>?_
 subst O
 refine ⟨j.keeps x.toInCall.keep,codeAny_func ?_⟩
 obtain ⟨t,L,D⟩:=d A outer s H vs Q E (p.deeper _) h
 have I:Inv (cxOf CX P w K mg base N qual scope f cdv A outer s H E) [] (start N vs) H s1:=ark S p.hd i G r x
 refine aJ8 (L [] s1 (start N vs) H _ I D) (fun M s' hs=>?_) fun e s' hs=>hs
 have fin:∀ {c:St} {H':Hp} {v:V} {u:Value},Inv (cxOf CX P w K mg base N qual scope f cdv A outer s H E) [] c H' s'->RelV v u->Q v H'->CE outer P w H s Q u s' :=
  fun {c H' v u} J l q=>⟨v,H',J.os,J.bare,J.base,J.hok,l,q⟩
 cases M with
 | ret u =>
  obtain ⟨v,c,H',J,l,q⟩:=hs
  exact fin J l q
 | next =>
  obtain ⟨c,H',J,q⟩:=hs
  exact fin (v:=V.non) (u:=Value.none) J rfl q
 | brk =>
  obtain ⟨_,_,_,q⟩:=hs
  exact False.elim q
 | cont =>
  obtain ⟨_,_,_,q⟩:=hs
  exact False.elim q
section
variable {X:Cx} {x:Str} {p pos:Pos} {e:Expr} {es:List Expr} {t:TA} {id T:String} {r:List V->Hp->VK->Prop}
def tCB (r:List V->Hp->VK->Prop) (t:TA):TE:=fun σ H Q=>t σ H fun vs H1=>r vs H1 Q
theorem aal (f:abd X (.builtin id) r) (j:Gl X x) (hm:X.mg x=none) (m:bootBuiltins x=some (.builtin id)) (ha:PA X (e :: es) t) (hn:x ≠ "__name__":=by decide) (b:(x == ("__debug__" : Str))=false:=by decide)
  (l:starEach (e :: es) X.env=(false,eval e X.env) :: starEach es X.env:=by rfl) (a:(backTo pos (starEach es X.env)).any (·.1)=false:=by rfl):PE X (.Call (.Name x p) (e :: es) [] pos) (tCB r t):=by
 intro pins s σ H Q I h
 refine wpAny_Call_Name_kw (ado I j hm m ?_ hn b)
 exact PyProof.Rows.callWith_builtin1 (thn (ha pos pins s σ H _ I h) fun us s1 ⟨vs,g,d,c,i⟩=>f pins s1 σ g vs us Q d c i) l a
theorem adp (f:abd X (.type T) r) (j:Gl X x) (hm:X.mg x=none) (m:bootBuiltins x=some (.type T)) (ha:PA X (e :: es) t) (hn:x ≠ "__name__":=by decide) (b:(x == ("__debug__" : Str))=false:=by decide)
  (l:starEach (e :: es) X.env=(false,eval e X.env) :: starEach es X.env:=by rfl) (a:(backTo pos (starEach es X.env)).any (·.1)=false:=by rfl):PE X (.Call (.Name x p) (e :: es) [] pos) (tCB r t):=by
 intro pins s σ H Q I h
 refine wpAny_Call_Name_kw (ado I j hm m ?_ hn b)
 exact PyProof.Rows.callWith_type1 (thn (ha pos pins s σ H _ I h) fun us s1 ⟨vs,g,d,c,i⟩=>f pins s1 σ g vs us Q d c i) l a
end
end L2
namespace HT
open PySem PyProof.Rows
def lexLt:List Int->List Int->Bool
 | [],[]=>false
 | [],_ :: _=>true
 | _ :: _,[]=>false
 | x :: xs,y :: ys=>if x=y then lexLt xs ys else decide (x < y)
theorem ad4 (x y:Int) (xs ys:List Int):lexLt (x :: xs) (y :: ys)=if x=y then lexLt xs ys else decide (x < y):=rfl
theorem ako:lexLt [] []=false:=rfl
theorem aiu (y:Int) (ys:List Int):lexLt [] (y :: ys)=true:=rfl
theorem aiv (x:Int) (xs:List Int):lexLt (x :: xs) []=false:=rfl
theorem ato (A:Around) (s:Shared) (a:Int) (t:Tok) (c:Int) (u:Tok):∃ e,SeqAt.EqAt A s (.int a t) (.int c u) e/\(e=true ↔ a=c) :=
 ⟨(a == c),SeqAt.EqAt.int_int a t c u,by simp⟩
theorem atp (A:Around) (s:Shared) (a:Int) (t:Tok) (c:Int) (u:Tok) (prog:Program) (w:World) (E:Value->Shared->Prop) (Q:Value->Shared->Prop) (h:Q (.bool (decide (a < c))) s) :
  wpAny (model prog w) A (richCompare .Lt (.int a t) (.int c u)) Q E s :=
 (PyProof.Rows.lt_int h:wpAny (model prog w) A (compareOp .Lt (.int a t) (.int c u)) Q E s)
section
open PySem.SeqAt
open PySem.AutoSeq1 (wpAny_loadPart')
open PySem.MeetsSeq PySem.MeetsSeq2 PySem.MeetsSeq3
theorem akp (l b:Addr) (items f:Array Value) (n N:Nat) (dd F:Option Addr) (sl H:Array (Option Value)) (ns E:List Int) (hi:IntsAre items.toList ns) (J:IntsAre f.toList E) :
  Meets (Builtin.«tuple.__lt__» ⟨[.ref l,.ref b],[]⟩)
   (fun _ R s=>s.heap.get? l=some { cls:=.type "tuple",dict:=dd,data:=.seq items n,slots:=sl }/\s.heap.get? b=some { cls:=.type "tuple",dict:=F,data:=.seq f N,slots:=H } /\
    R (.ok (.ret (.bool (lexLt ns E)))) s) :=
 .of_wp fun prog w A R s h=>by
  obtain ⟨D,g,d,C,os⟩:=s;obtain ⟨M,hb,h⟩:=h
  have Q:=AutoSeq1.sub_tuple_tuple
  have S:items.size=ns.length:=by rw [← hi.length];simp
  have U:f.size=E.length:=by rw [← J.length];simp
  wp_walk using wpAny_loadPart' M,wpAny_loadPart' hb,wpAny_forIn_list _ (fun rest b s'=>b.1=none/\s'=⟨D,g,d,C,os⟩/\∃ (vs ws:List Value) (j m:List Int),rest=vs.zip ws /\
   IntsAre vs j/\IntsAre ws m/\j.length+f.size=m.length+items.size/\R (.ok (.ret (.bool (lexLt j m)))) ⟨D,g,d,C,os⟩) _
  case turn =>
   rintro ⟨y,x⟩ rest b s' ⟨B,rfl,vs,ws,j,m,hz,z,o,i,r⟩
   cases z with
   | nil=>rw [List.zip_nil_left] at hz;cases hz
   | cons a t hvi' =>
    cases o with
    | nil=>rw [List.zip_nil_right] at hz;cases hz
    | cons c u hwi' =>
     rw [List.zip_cons_cons] at hz
     injection hz with G v
     injection G with L P
     subst L P
     rw [ad4] at r
     simp only [aE6] at i
     obtain ⟨e,O,p⟩:=ato A.in1 ⟨D,g,d,C,os⟩ a t c u
     refine aI9 (O prog w _ _ ?_)
     cases e with
     | true =>
      rw [aF5 (p.mp rfl)] at r
      wp_walk
      exact ⟨rfl,rfl,_,_,_,_,v,hvi',hwi',by omega,r⟩
     | false =>
      rw [aF6 (fun q=>absurd (p.mpr q) aB0)] at r
      have I:=atp A.in1 ⟨D,g,d,C,os⟩ a t c u prog w
      wp_walk using I
      exact ⟨_,rfl,by simpa using r⟩
  case fin =>
   rintro ⟨b1,T⟩ s' ⟨B,rfl,vs,ws,j,m,hz,z,o,i,r⟩
   simp only at B
   subst B
   have K:lexLt j m=decide (items.size < f.size):=by
    cases z with
    | nil =>
     cases o with
     | nil =>
      simp only [aI8] at i
      rw [ako]
      exact (aD7 (by omega)).symm
     | cons c u hw =>
      simp only [aI8,aE6] at i
      rw [aiu]
      exact (aD8 (by omega)).symm
    | cons a t K =>
     cases o with
     | nil =>
      simp only [aI8,aE6] at i
      rw [aiv]
      exact (aD7 (by omega)).symm
     | cons c u hw =>
      rw [List.zip_cons_cons] at hz
      cases hz
   rw [K] at r
   wp_walk
   exact ⟨_,rfl,by simpa [Builtin.Tuple.tupleCompareSizes] using r⟩
  case h =>
   exact ⟨rfl,rfl,items.toList,f.toList,ns,E,rfl,hi,J,by omega,h⟩
end
section
variable {prog:Program} {w:World} {A:Around} {E:Value->Shared->Prop} {s:Shared}
theorem lt_tupInts {l b:Addr} {items a:Array Value} {ns c:List Int} {Q:Value->Shared->Prop} (t:IsTup s.heap l items) (hb:IsTup s.heap b a) (hi:IntsAre items.toList ns) (v:IntsAre a.toList c)
  (r:A.units < cLine) (h:Q (.bool (lexLt ns c)) s):wpAny (model prog w) A (compareOp .Lt (.ref l) (.ref b)) Q E s:=by
 obtain ⟨⟨cls,dd,data,sl⟩,o,p,n,hd⟩:=id t
 obtain ⟨⟨q,i,j,m⟩,d,f,u,g⟩:=id hb
 simp only at p hd f g
 subst p hd f g
 exact richCompare_meets_room (op:=.Lt) ⟨_,o,rfl⟩ ⟨_,d,rfl⟩ PySem.F.slot_tuple_lt PySem.F.entry_tuple_lt (PySem.F.args_tuple_lt_2 _ _) (akp l b items a n u dd i sl m ns c hi v)
  ⟨o,d,show Value.bool (lexLt ns c) ≠ Value.notImplemented/\Q (.bool (lexLt ns c)) s from ⟨(fun x=>nomatch x),h⟩⟩ r
end
end HT
namespace L2
open PySem PySem.Spec PyProof.Rows
abbrev TO:=St->Hp->(Option Int->Hp->Prop)->Prop
theorem acb {ns:List Int}:∀ {us:List Value},Vals (ns.map V.int) us->IntsAre us ns:=by
 induction ns with
 | nil=>intro us r;rw [List.map_nil] at r;cases r;exact .nil
 | cons n ns ih =>
  intro us r
  rw [aD1] at r
  cases r with
  | cons r1 r2 =>
   obtain ⟨t,e⟩:=r1
   subst e
   exact .cons n t (ih r2)
section
variable {X:Cx} {e:Expr} {te:TE} {lo hi:Option Expr} {tl th:TO} {pos p2:Pos}
def SlR (X:Cx) (r:V->Option Int->Option Int->Hp->VK->Prop):Prop :=
 ∀ (pins:List (Addr × Obj)) (s:Shared) (σ:St) (H:Hp) (x:V) (v vl vu:Value) (lo hi:Option Int) (sl:Addr) (Q:VK),Inv X pins σ H s->RelV x v->s.heap.IsSliceOf sl vl vu .none->IsPart vl lo->IsPart vu hi->r x lo hi H Q ->
  ∃ T id,typeLookup (.type T) "__getitem__" = pure (some (.builtin id))/\s.TypeIs v T/\wpAny (model X.prog X.w) X.A (getItem v (.ref sl)) (EP X pins σ Q) X.xe s
def rLtT (K:Frag):R2:=fun x y H Q=>∃ a b ns ms,x=.ref a/\y=.ref b/\SqT K H a (ns.map V.int)/\SqT K H b (ms.map V.int)/\Q (.bl (HT.lexLt ns ms)) H
theorem ay7 (l:X.A.units < cLine):OpR X (compareOp .Lt) (rLtT X.K):=by
 intro pins s σ H x y v u Q I j g h
 obtain ⟨a,b,ns,d,rfl,rfl,ha,hb,q⟩:=h
 cases j
 cases g
 obtain ⟨its,f,i,_⟩:=I.tuple ha
 obtain ⟨c,n,p2,_⟩:=I.tuple hb
 have m:IntsAre its.toArray.toList ns:=acb f
 have o:IntsAre c.toArray.toList d:=acb n
 exact HT.lt_tupInts i p2 m o l ⟨.bl (HT.lexLt ns d),H,I,rfl,q⟩
end
def ixN (n:Nat) (i:Int):Option Nat:=if 0<=i then (if i < n then some i.toNat else none) else if -(n:Int)<=i then some (i+n).toNat else none
def atI {α:Type} (xs:List α) (i:Int):Option α:=(ixN xs.length i).bind fun j=>xs[j]?
theorem aoc {n:Nat} {i:Int} {j:Nat} (h:ixN n i=some j):seqIndex? i n=some j/\j < n/\-(n:Int)<=i/\i < n:=by
 unfold ixN at h
 by_cases h0:0<=i
 ·rw [aF5 h0] at h
  by_cases h1:i < n
  ·rw [aF5 h1] at h
   have e:i.toNat=j:=aC6 h
   exact ⟨by rw [seqIndex_of h0 h1,e],by omega,by omega,h1⟩
  ·rw [aF6 h1] at h;cases h
 ·rw [aF6 h0] at h
  by_cases h1 : -(n:Int)<=i
  ·rw [aF5 h1] at h
   have e:(i+n).toNat=j:=aC6 h
   exact ⟨by rw [seqIndex_neg (by omega) h1,e],by omega,h1,by omega⟩
  ·rw [aF6 h1] at h;cases h
theorem aod {α:Type} {xs:List α} {i:Int} {v : α} (h:atI xs i=some v):∃ j,seqIndex? i xs.length=some j/\xs[j]?=some v/\j < xs.length/\-(xs.length:Int)<=i/\i < xs.length:=by
 unfold atI at h
 cases e:ixN xs.length i with
 | none=>rw [e] at h;cases h
 | some j =>
  rw [e] at h
  obtain ⟨b,c,a,d⟩:=aoc e
  exact ⟨j,b,h,c,a,d⟩
theorem agi {α:Type} {xs:List α} {j:Nat} {v : α} (h:xs[j]?=some v):atI xs (j:Int)=some v:=by
 have a:j < xs.length:=(aA1.mp h).1
 have e:ixN xs.length (j:Int)=some j:=by
  unfold ixN
  rw [aF5 (by omega),aF5 (by omega)];simp
 unfold atI;rw [e];exact h
def aws (b:Expr):Prop:=∀ o i,subscripted b false o i=operate [o,i] (getItem o i)
def IxR (X:Cx) (r:R2):Prop :=
 ∀ (value slice:Expr) (pins:List (Addr × Obj)) (s:Shared) (σ:St) (H:Hp) (x y:V) (v u:Value) (Q:VK),Inv X pins σ H s->RelV x v->RelV y u->r x y H Q ->
  subscripted slice false v u=operate [v,u] (getItem v u)->wpAny (model X.prog X.w) X.A (subscriptTail value slice v u) (EP X pins σ Q) X.xe s
def MtR (X:Cx) (id:String) (r:V->List V->Hp->VK->Prop):Prop :=
 ∀ (pins:List (Addr × Obj)) (s:Shared) (σ:St) (H:Hp) (x:V) (xs:List V) (v:Value) (us:List Value) (Q:VK),Inv X pins σ H s->RelV x v->Vals xs us->r x xs H Q ->
  wpAny (model X.prog X.w) X.A (call (.builtin id) (v :: us)) (EP X pins σ Q) X.xe s
section
variable {X:Cx} {a b:Expr} {ta tb:TE} {pos:Pos}
theorem IxR.or {r d:R2} (h:IxR X r) (h':IxR X d):IxR X (fun x y H Q=>r x y H Q\/d x y H Q):=by
 intro b a pins s σ H x y v u Q I f c q hs
 rcases q with q | q
 ·exact h b a pins s σ H x y v u Q I f c q hs
 ·exact h' b a pins s σ H x y v u Q I f c q hs
theorem aat {r:R2} (g:IxR X r) (ha:PE X a ta) (hb:PE X b tb) (hs:aws b):PE X (.Subscript a b pos) (tOp r ta tb):=by
 intro pins s σ H Q I h
 exact Subscript_ (binT ha hb I h fun v u s2 x y H2 d f c q=>g a b pins s2 σ H2 x y v u Q d f c q (hs _ _))
def rIxL (K:Frag):R2:=fun x y H Q=>∃ p xs i v,x=.ref p/\y=.int i/\SqL K H p xs/\atI xs i=some v/\Q v H
def rIxT (K:Frag):R2:=fun x y H Q=>∃ p xs i v,x=.ref p/\y=.int i/\SqT K H p xs/\atI xs i=some v/\Q v H
theorem ix_list:IxR X (rIxL X.K):=by
 intro d b pins s σ H x y v u Q I n l h hs
 obtain ⟨p,xs,i,z,rfl,rfl,m,B,q⟩:=h
 cases n
 obtain ⟨t,rfl⟩:=l
 obtain ⟨its,r,pl,hz⟩:=I.list m
 obtain ⟨j,a,o,E,C,D⟩:=aod B
 obtain ⟨w,g,c⟩:=r.get o
 have A:=r.length
 have hn:=afv
 have fin:EP X pins σ Q w s:=⟨z,H,I,c,q⟩
 by_cases h0:0<=i
 ·have f:i.toNat=j:=by
   rw [seqIndex_of h0 D] at a
   exact aC6 a
  exact item_listR pl.isList h0 (by omega) (by rw [f];simpa using g) fin hs
 ·have f:(i+(its.toArray.size:Int)).toNat=j:=by
   rw [seqIndex_neg (by omega) C] at a
   rw [aB2,← A]
   exact aC6 a
  exact subscriptTail_builtinR (x:=w) pl.isList.typeIs slot_list_getitem.lookup
   (wpAny_getItem_list_neg (Q:=fun r s'=>r=w/\EP X pins σ Q r s') pl.isList (by omega) (by rw [aB2] <;> omega) (by omega) (by rw [f];simpa using g) ⟨rfl,fin⟩) hs
theorem ay8:IxR X (rIxT X.K):=by
 intro c a pins s σ H x y v u Q I g d h hs
 obtain ⟨p,xs,i,z,rfl,rfl,f,A,q⟩:=h
 cases g
 obtain ⟨t,rfl⟩:=d
 obtain ⟨its,r,pl,hz⟩:=I.tuple f
 obtain ⟨j,l,m,B,C,D⟩:=aod A
 obtain ⟨w,n,b⟩:=r.get m
 have o:=r.length
 have hn:=afv
 have fin:EP X pins σ Q w s:=⟨z,H,I,b,q⟩
 exact subscriptTail_builtinR (x:=w) pl.typeIs slot_tuple_getitem.lookup
  (getItem_tuple (j:=j) (Q:=fun r s'=>r=w/\EP X pins σ Q r s') pl (by omega) (by omega) (by rw [aB2,← o];exact l) (by simpa using n) ⟨rfl,fin⟩) hs
theorem ap2 (its:List Value) (n j:Nat) (u:Value):Obj.mapSeq (·.setIfInBounds j u) { cls:=.type "list",data:=.seq its.toArray n }={ cls:=.type "list",data:=.seq (its.set j u).toArray n }:=by
 simp [Obj.mapSeq]
theorem Inv.lst {pins:List (Addr × Obj)} {σ:St} {H:Hp} {s:Shared} {p:Addr} {xs:List V} (I:Inv X pins σ H s) (h:H p=some (.lst xs)) :
  ∃ (its:List Value) (n:Nat),Vals xs its/\s.heap.get? p=some { cls:=.type "list",data:=.seq its.toArray n }/\xs.length<=sizeLine:=by
 obtain ⟨z,its,n,r,e⟩:=I.hok p _ h
 exact ⟨its,n,r,e,z⟩
theorem Inv.lstUpd {pins:List (Addr × Obj)} {σ:St} {H:Hp} {s:Shared} {p:Addr} {xs ys:List V} {its its':List Value} {n a:Nat} {f:Obj->Obj} (I:Inv X pins σ H s) (h:H p=some (.lst xs))
  (c:s.heap.get? p=some { cls:=.type "list",data:=.seq its.toArray n }) (hf:f { cls:=.type "list",data:=.seq its.toArray n }={ cls:=.type "list",data:=.seq its'.toArray a }) (r:Vals ys its') (hz:ys.length<=sizeLine) (t:Nat) :
  Inv X pins σ (upd H p (.lst ys)) { s with heap:=s.heap.update p f,toks:=t }:=by
 have e:(s.heap.update p f).get? p=some { cls:=.type "list",data:=.seq its'.toArray a }:=by
  rw [aK5 f c (by rw [hf] <;> rfl),hf]
 refine I.write (x:=p) (e:=p) (by rw [h];trivial) (.inl rfl) (fun b u hb q=>(aJ7 _ _ (Ne.symm hb)).trans q) ⟨_,e⟩ ?_
 exact ⟨hz,its',a,r,e⟩
def ap3:V->V->V->Hp->(Hp->Prop)->Prop:=fun o i v H Q=>∃ p xs k j,o=.ref p/\i=.int k/\H p=some (.lst xs)/\ixN xs.length k=some j/\Q (upd H p (.lst (xs.set j v)))
theorem adc:PSet X ap3:=by
 intro pins s σ H o i v B A u Q I x y w h
 obtain ⟨p,xs,k,j,rfl,rfl,f,z,q⟩:=h
 cases x
 obtain ⟨t,rfl⟩:=y
 obtain ⟨its,n,r,b,hz⟩:=I.lst f
 obtain ⟨a,C,g,l⟩:=aoc z
 have c:=r.length
 have hn:=afv
 have m:Inv X pins σ (upd H p (.lst (xs.set j v))) { s with heap:=s.heap.update p (Obj.mapSeq (·.setIfInBounds j u)) } :=
  I.lstUpd f b (ap2 its n j u) (r.set w j) (by rw [List.length_set];exact hz) s.toks
 by_cases h0:0<=k
 ·have d:k.toNat=j:=by
   rw [seqIndex_of h0 l] at a
   exact aC6 a
  exact PySem.W.ki_setAt b h0 (by omega) (by rw [aB2,← c];exact l) (by rw [d];exact ⟨_,m,q⟩)
 ·have d:(k+(its.toArray.size:Int)).toNat=j:=by
   rw [seqIndex_neg (by omega) g] at a
   rw [aB2,← c]
   exact aC6 a
  exact PySem.W.ki_setBack b (by omega) (by rw [aB2,← c];exact g) (by omega) (by rw [d];exact ⟨_,m,q⟩)
theorem als:abd X (.builtin "len") (fun xs H Q=>∃ p ys,xs=[.ref p]/\(SqL X.K H p ys\/SqT X.K H p ys)/\Q (.int ys.length) H):=by
 intro pins s σ H xs us Q I r h
 obtain ⟨p,ys,rfl,b,q⟩:=h
 obtain ⟨u,rfl,d⟩:=ac7 r
 cases d
 have hn:=afv
 rcases b with b | b
 ·obtain ⟨its,c,pl,hz⟩:=I.list b
  have a:=c.length
  exact Calls.call_len_list pl.isList (by simp only [aB2] <;> omega) ⟨.int ys.length,H,I.tok _,⟨s.toks+1,by rw [aB2,a]⟩,q⟩
 ·obtain ⟨its,c,pl,hz⟩:=I.tuple b
  have a:=c.length
  exact len_tuple pl (by simp only [aB2] <;> omega) ⟨.int ys.length,H,I.tok _,⟨s.toks+1,by rw [aB2,a]⟩,q⟩
theorem alt:abd X (.type "list") (fun xs H Q=>∃ p ys,xs=[.ref p]/\(SqL X.K H p ys\/SqT X.K H p ys)/\∀ l,H l=none->Q (.ref l) (upd H l (.lst ys))):=by
 intro pins s σ H xs us Q I r h
 obtain ⟨p,ys,rfl,f,q⟩:=h
 obtain ⟨u,rfl,j⟩:=ac7 r
 cases j
 have fin:∀ (its:List Value),Vals ys its->ys.length<=sizeLine->∀ (h':Heap) (c:Nat),(∀ b o',s.heap.get? b=some o'->h'.get? b=some o') ->
   h'.get? s.heap.objs.size=some { cls:=.type "list",dict:=none,data:=.seq its.toArray c,slots:=#[] }->EP X pins σ Q (.ref s.heap.objs.size) { s with heap:=h' }:=fun its a hz h' c kp e =>
  ⟨.ref s.heap.objs.size,_,I.laid (t':=s.toks) kp (aA6 _) (show ObjOk X.prog X.w _ h' _ (.lst ys) from ⟨hz,its,c,a,e⟩),rfl,q _ (I.hok.fresh (aA6 _))⟩
 rcases f with f | f
 ·obtain ⟨its,a,pl,hz⟩:=I.list f
  have d:=a.length
  obtain ⟨o,g,i,n,hd⟩:=pl.isList
  exact call_list_seq p (.inl rfl) g i hd (fun h' c kp e=>fin its a hz h' c kp e) (by simp only [aB2] <;> omega)
 ·obtain ⟨its,a,pl,hz⟩:=I.tuple f
  have d:=a.length
  obtain ⟨o,g,i,n,hd⟩:=pl
  exact call_list_seq p (.inr rfl) g i hd (fun h' c kp e=>fin its a hz h' c kp e) (by simp only [aB2] <;> omega)
def tyV (K:Frag) (T:String) (x:V) (H:Hp):Prop:=match x with
 | .str _=>T = "str"
 | .int _=>T = "int"
 | .ref p=>(T = "list"/\∃ xs,SqL K H p xs)\/(T = "tuple"/\∃ o,K.lookup p=some o/\o.cls=.type "tuple"/\o.dict=none) ∨
   (T = "dict"/\((∃ kvs,H p=some (.dK kvs))\/∃ kvs,H p=some (.dT kvs)))\/(T = "set"/\∃ S n,H p=some (.set S n))
 | _=>False
theorem ay9 {pins:List (Addr × Obj)} {σ:St} {H:Hp} {s:Shared} {T:String} {x:V} {v:Value} (I:Inv X pins σ H s) (r:RelV x v) (ty:tyV X.K T x H) :
  s.TypeIs v T/\∀ a,v=.ref a->∃ f,s.heap.get? a=some f/\f.dict=none:=by
 cases x with
 | str z =>
  obtain ⟨t,rfl⟩:=r
  cases (show T = "str" from ty)
  exact ⟨typeIs_str s z t,fun _ e=>nomatch e⟩
 | int i =>
  obtain ⟨t,rfl⟩:=r
  cases (show T = "int" from ty)
  exact ⟨typeIs_int s i t,fun _ e=>nomatch e⟩
 | ref p =>
  cases r
  rcases ty with ⟨rfl,xs,g⟩ | ⟨rfl,o,b,h,hd⟩ | ⟨rfl,b⟩ | ⟨rfl,S,n,b⟩
  ·obtain ⟨its,_,pl,_⟩:=I.list g
   refine ⟨pl.isList.typeIs,fun a e=>?_⟩
   cases e
   obtain ⟨o,n,e,c,hd,_⟩:=pl
   exact ⟨o,e,hd⟩
  ·refine ⟨⟨o,I.kIn p o b,h⟩,fun a e=>?_⟩
   cases e
   exact ⟨o,I.kIn _ o b,hd⟩
  ·have z:∃ o,s.heap.get? p=some o/\o.ExactDict:=by
    rcases b with ⟨kvs,b⟩ | ⟨kvs,b⟩
    ·obtain ⟨_,_,_,_,o,_,_,e,ex,_⟩:=I.hok p _ b
     exact ⟨o,e,ex⟩
    ·obtain ⟨_,_,_,_,o,_,_,e,ex,_⟩:=I.hok p _ b
     exact ⟨o,e,ex⟩
   obtain ⟨o,e,ex⟩:=z
   refine ⟨⟨o,e,ex.1⟩,fun a d=>?_⟩
   cases d
   exact ⟨o,e,ex.2.1⟩
  ·obtain ⟨o,_,_,_,e,ex,_⟩:=I.hok p _ b
   refine ⟨⟨o,e,ex.1⟩,fun a d=>?_⟩
   cases d
   exact ⟨o,e,ex.2.1⟩
 | _=>exact False.elim ty
def tBM (K:Frag) (T:String) (r:V->List V->Hp->VK->Prop) (to:TE) (t:TA):TE:=fun σ H Q=>to σ H fun x H1=>tyV K T x H1/\t σ H1 fun xs H2=>r x xs H2 Q
variable {o e:Expr} {es:List Expr} {to:TE} {t:TA} {name:Str} {apos cpos:Pos} {T id:String} {r:V->List V->Hp->VK->Prop}
theorem aby (p:PlainAttrs T) (slot:Slot T name id) (g:typeOf (.builtin id)=pure (.type "method_descriptor")) (hm:MtR X id r) (n:PE X o to) (ha:PA X (e :: es) t)
  (d:attributeBase o name X.env (eval o X.env)=eval o X.env:=by rfl)
  (f:((backTo cpos (starEach (e :: es) X.env)).all (fun x => !x.1) && (backToKw cpos (keywordEach [] X.env)).all (fun x=>x.1.isSome)
   && decide ((e :: es).length+([]:List Keyword).length+(if ([]:List Keyword).isEmpty then 0 else 1) < 30))=true:=by rfl)
  (c:(apos.endLine == cpos.line)=true:=by rfl) (hs:starEach (e :: es) X.env=(false,eval e X.env) :: starEach es X.env:=by rfl) (b:(backTo cpos (starEach es X.env)).any (·.1)=false:=by rfl) :
  PE X (.Call (.Attribute o name apos) (e :: es) [] cpos) (tBM X.K T r to t):=by
 intro pins s σ H Q I h
 refine wpAny_Call_method_late d f c rfl (thn (n pins s σ H _ I h) fun v s1 ⟨x,z,j,i,ty,A⟩=>?_)
 obtain ⟨u,w⟩:=ay9 j i ty
 refine ⟨T,id,p,slot,g,u,w,?_⟩
 have l:=ha cpos pins s1 σ z _ j A
 rw [hs] at l ⊢
 refine Calls.callWith_builtin (by show (false || (backTo cpos (starEach es X.env)).any (·.1))=false;rw [b] <;> rfl) (Calls.evalArgs_plain ?_)
 exact thn l fun us s2 ⟨vs,H2,q,y,m⟩=>hm pins s2 σ H2 x vs v us Q q i y m
/- xs.append(e), list.index on a module's tuple .. are MtR facts of 06m -/
end
def MtM (X:Cx) (id:String) (r:V->List V->Hp->VK->Prop):Prop :=
 ∀ (pins:List (Addr × Obj)) (s:Shared) (σ:St) (H:Hp) (x:V) (xs:List V) (v:Value) (us:List Value) (Q:VK),Inv X pins σ H s->RelV x v->Vals xs us->r x xs H Q ->
  wpAny (model X.prog X.w) X.A (call (.builtin id) (v :: us)) (EP X pins σ Q) X.xe s
theorem Vals.one:∀ {x:V} {us:List Value},Vals [x] us->∃ u,us=[u]/\RelV x u
 | _,_,.cons r .nil=>⟨_,rfl,r⟩
theorem Vals.eraseIdx:∀ {xs:List V} {us:List Value} (i:Nat),Vals xs us->Vals (xs.eraseIdx i) (us.eraseIdx i)
 | _,_,_,.nil => .nil
 | _,_,0,.cons _ t=>t
 | _,_,i+1,.cons r t => .cons r (Vals.eraseIdx i t)
theorem Vals.rep {xs:List V} {us:List Value} (h:Vals xs us):∀ k:Nat,Vals (List.replicate k xs).flatten (List.replicate k us).flatten
 | 0 => .nil
 | k+1=>by
  rw [aH3,aH3,List.flatten_cons,List.flatten_cons]
  exact Vals.append h (Vals.rep h k)
theorem ajv {α:Type}:∀ (l:List α) (i:Nat),(l.eraseIdx i).length<=l.length
 | [],_=>aA6 _
 | _ :: _,0=>Nat.le_succ _
 | _ :: r,i+1=>Nat.succ_le_succ (ajv r i)
theorem ajw (its:List Value):∀ (k:Nat) (a:List Value),
  List.foldl (fun c d=>c ++ d) a.toArray (List.replicate k its.toArray)=(a ++ (List.replicate k its).flatten).toArray
 | 0,a=>by simp
 | k+1,a=>by
  have e:a.toArray ++ its.toArray=(a ++ its).toArray:=by simp
  have b:(a ++ its) ++ (List.replicate k its).flatten=a ++ (List.replicate (k+1) its).flatten:=by
   rw [aH3,List.flatten_cons,aB4]
  rw [← b,← ajw its k (a ++ its),← e,aH3,List.foldl_cons]
section
variable {X:Cx} {pins:List (Addr × Obj)} {σ:St} {H:Hp} {s:Shared} {l b:Addr} {xs ys zs:List V}
theorem Inv.lset {its its':List Value} {n:Nat} {f:Array Value->Array Value} {t':Nat} (I:Inv X pins σ H s) (a:H l=some (.lst xs))
  (e:s.heap.get? l=some { cls:=.type "list",data:=.seq its.toArray n }) (hf:f its.toArray=its'.toArray) (b:Vals ys its') (hz:ys.length<=sizeLine) :
  Inv X pins σ (upd H l (.lst ys)) { s with heap:=s.heap.update l (Obj.mapSeq f),toks:=t' }:=by
 have q:=PySem.IsL.update e f
 rw [hf] at q
 refine I.write (x:=l) (e:=l) (by rw [a];exact trivial) (.inl rfl) (fun d u hb c=>(aJ7 s.heap (Obj.mapSeq f) (Ne.symm hb)).trans c) ⟨_,q⟩ ?_
 exact ⟨hz,its',_,b,q⟩
theorem Inv.lnew {its:List Value} {t':Nat} (I:Inv X pins σ H s) (a:Vals ys its) (hz:ys.length<=sizeLine) :
  Inv X pins σ (upd H s.heap.objs.size (.lst ys)) { s with heap:=s.heap.push { cls:=.type "list",data:=.seq its.toArray },toks:=t' } :=
 I.laid (fun _ _ q=>aJ1 _ q) (aA6 _) ⟨hz,its,0,a,aJ3 _ rfl⟩
theorem Inv.fresh (I:Inv X pins σ H s):H s.heap.objs.size=none:=I.hok.fresh (aA6 _)
theorem Inv.lstM (I:Inv X pins σ H s) (a:H l=some (.lst xs)):xs.length<=sizeLine/\∃ (its:List Value) (n:Nat),Vals xs its/\xs.length=its.length/\s.heap.get? l=some { cls:=.type "list",data:=.seq its.toArray n }:=by
 obtain ⟨z,its,n,r,e⟩:=I.hok l _ a
 exact ⟨z,its,n,r,r.length,e⟩
theorem alu {n:Nat} (h:n<=sizeLine):Builtin.List.listTooLong n=false:=by
 unfold Builtin.List.listTooLong
 exact aD7 (by omega)
end
section
variable {X:Cx}
def ade:V->List V->Hp->VK->Prop:=fun x vs H Q=>∃ l xs y,x=.ref l/\vs=[y]/\H l=some (.lst xs)/\xs.length < sizeLine/\Q .non (upd H l (.lst (xs ++ [y])))
theorem abn:MtM X "list.append" ade:=by
 intro pins s σ H x vs v us Q I b c h
 obtain ⟨l,xs,y,rfl,rfl,a,hz,q⟩:=h
 cases b
 obtain ⟨u,rfl,d⟩:=c.one
 obtain ⟨z,its,n,r,f,e⟩:=I.lstM a
 refine call_meets F.slot_list_append ⟨_,e,rfl⟩ F.entry_list_append (F.args_list_append_2 _ _) (PySem.list_append l its.toArray n u (by rw [aB2];omega)) ⟨e,?_⟩
 refine ⟨.non,_,I.lset (its':=its ++ [u]) a e (by simp) (r.append (.cons d .nil)) ?_,rfl,q⟩
 rw [aB1,List.length_singleton]
 omega
def aiw:V->List V->Hp->VK->Prop:=fun x vs H Q=>∃ l b xs zs,x=.ref l/\vs=[.ref b]/\H l=some (.lst xs)/\H b=some (.lst zs)/\xs.length+zs.length<=sizeLine/\Q .non (upd H l (.lst (xs ++ zs)))
theorem arl:MtM X "list.extend" aiw:=by
 intro pins s σ H x vs v us Q I j m h
 obtain ⟨l,b,xs,y,rfl,rfl,f,p,hz,q⟩:=h
 cases j
 obtain ⟨u,rfl,t⟩:=m.one
 cases t
 obtain ⟨z,its,n,r,A,e⟩:=I.lstM f
 obtain ⟨B,a,w,o,g,i⟩:=I.lstM p
 have d:its.toArray.size+a.toArray.size<=sizeLine:=by rw [aB2,aB2];omega
 have c:¬ (!its.toArray.isEmpty && Builtin.List.listTooLong (its.toArray.size+a.toArray.size))=true:=by
  rw [alu d,Bool.and_false]
  exact aB0
 refine call_meets F.slot_list_extend ⟨_,e,rfl⟩ F.entry_list_extend (F.args_list_extend_2 _ _)
  (AutoSeq1.list_extend_list_list_0 l its.toArray n b a.toArray w c (by rw [aB2];omega) (by omega)) ⟨e,i,?_⟩
 refine ⟨.non,_,I.lset (its':=its ++ a) f e (by simp) (r.append o) ?_,rfl,q⟩
 rw [aB1]
 omega
def ah0:V->List V->Hp->VK->Prop:=fun x vs H Q=>∃ l xs i k y,x=.ref l/\vs=[.int i]/\H l=some (.lst xs)/\-(2 ^ 63)<=i/\i < 2 ^ 63/\seqIndex? i xs.length=some k/\xs[k]?=some y/\Q y (upd H l (.lst (xs.eraseIdx k)))
theorem atq:MtM X "list.pop" ah0:=by
 intro pins s σ H x vs v us Q I d f h
 obtain ⟨l,xs,i,k,y,rfl,rfl,b,j,m,p,g,q⟩:=h
 cases d
 obtain ⟨u,rfl,A⟩:=f.one
 obtain ⟨t,rfl⟩:=A
 obtain ⟨z,its,n,r,o,e⟩:=I.lstM b
 obtain ⟨w,c,a⟩:=r.get g
 refine call_meets F.slot_list_pop ⟨_,e,rfl⟩ F.entry_list_pop (F.args_list_pop_2 _ _)
  (MeetsSeq.list_pop_at l its.toArray n i t k w (fitsIndex_both j m) (by rw [aB2,← o];exact p) (by rw [← aD6];exact c) (by rw [aB2];omega)) ⟨e,?_⟩
 refine ⟨y,_,I.lset (its':=its.eraseIdx k) b e ?_ (r.eraseIdx k) ?_,a,q⟩
 ·show its.toArray.eraseIdxIfInBounds k=(its.eraseIdx k).toArray
  rw [List.eraseIdxIfInBounds_toArray]
 ·have:=ajv xs k
  omega
def rCat:R2:=fun x y H Q=>∃ l b xs zs,x=.ref l/\y=.ref b/\H l=some (.lst xs)/\H b=some (.lst zs)/\xs.length+zs.length<=sizeLine/\∀ p,H p=none->Q (.ref p) (upd H p (.lst (xs ++ zs)))
theorem afw:OpR X (binaryOp .Add) rCat:=by
 intro pins s σ H x y v u Q I i f h
 obtain ⟨l,b,xs,p,rfl,rfl,c,m,hz,q⟩:=h
 cases i
 cases f
 obtain ⟨z,its,n,r,t,e⟩:=I.lstM c
 obtain ⟨A,a,w,j,d,g⟩:=I.lstM m
 refine PySem.P.add_list e g ?_ (by rw [aB2,aB2];omega)
 have o:its.toArray ++ a.toArray=(its ++ a).toArray:=by simp
 rw [o]
 exact ⟨.ref _,_,I.lnew (t':=s.toks) (r.append j) (by rw [aB1];omega),rfl,q _ I.fresh⟩
def rRep:R2:=fun x y H Q=>∃ l k xs,x=.ref l/\y=.int k/\H l=some (.lst xs)/\-(2 ^ 63)<=k/\k < 2 ^ 63/\xs.length * k.toNat<=sizeLine /\
 ∀ p,H p=none->Q (.ref p) (upd H p (.lst (List.replicate k.toNat xs).flatten))
theorem aoe {α:Type} (xs:List α) (k:Nat):(List.replicate k xs).flatten.length=k * xs.length:=by
 induction k with
 | zero=>simp
 | succ k ih=>rw [aH3,List.flatten_cons,aB1,ih,Nat.succ_mul,Nat.add_comm]
theorem arm:OpR X (binaryOp .Mult) rRep:=by
 intro pins s σ H x y v u Q I w p h
 obtain ⟨l,k,xs,rfl,rfl,o,A,B,hz,q⟩:=h
 cases w
 obtain ⟨t,rfl⟩:=p
 obtain ⟨z,its,n,r,C,e⟩:=I.lstM o
 have c:its.toArray.size * k.toNat<=sizeLine:=by rw [aB2,← C];exact hz
 have d:¬ its.toArray.size * k.toNat > (2 ^ 63 - 1) / 8:=by
  have:(sizeLine:Nat)<=(2 ^ 63 - 1) / 8:=by decide
  omega
 have g:¬ (!Builtin.List.listFitsIndex k)=true:=by
  rw [fitsIndex_both A B]
  exact aB0
 have b:¬ Builtin.List.listTooLong (its.toArray.size * k.toNat)=true:=by
  rw [alu c]
  exact aB0
 have f:List.foldl (fun i j=>i ++ j) #[] (List.replicate (if its.toArray.isEmpty=true then 0 else k.toNat) its.toArray)=(List.replicate k.toNat its).flatten.toArray:=by
  have D:∀ m:Nat,List.foldl (fun i j=>i ++ j) #[] (List.replicate m its.toArray)=(List.replicate m its).flatten.toArray:=fun m=>by
   have:=ajw its m []
   rw [List.nil_append] at this
   exact this
  rw [D]
  cases its with
  | nil=>simp
  | cons a r'=>rw [aF6 (by simp)]
 refine wpAny_binaryOp_repeat_ref (T:="list") (U:="int") (by decide) ⟨_,e,rfl⟩ (fun s'=>typeIs_int s' k t) noFill_list_mul F.fills_int_mul F.slot_int_rmul repeat_list F.slot_int_index.lookup
  (call_meets F.slot_int_rmul (typeIs_int s k t) F.entry_int_rmul (F.args_int_rmul_2 _ _) (int___rmul___int_list k t l its.toArray n)
   ⟨e,rfl,⟨_,e,rfl⟩,call_meets F.slot_list_mul ⟨_,e,rfl⟩ F.entry_list_mul (F.args_list_mul_2 _ _) (AutoListH.list___mul___list_int_3 l its.toArray n k t g d b) ⟨e,?_⟩⟩)
 rw [f]
 exact ⟨.ref _,_,I.lnew (t':=s.toks) (r.rep k.toNat) (by rw [aoe,Nat.mul_comm];exact hz),rfl,q _ I.fresh⟩
end
section
variable {prog:Program} {w:World} {A:Around} {E:Value->Shared->Prop} {s:Shared}
end
section
variable {X:Cx}
end
section
variable {κ:Type} [DecidableEq κ]
def valV (kvs:List (κ × V)) (k : κ):Option V:=(kvs.find? fun kv=>decide (kv.1=k)).map (·.2)
def putK (kvs:List (κ × V)) (k : κ) (v:V):List (κ × V) :=
 if (kvs.any fun kv=>decide (kv.1=k))=true then kvs.map (fun kv=>if kv.1=k then (kv.1,v) else kv) else kvs ++ [(k,v)]
def av5 (kvs:List (κ × V)) (k : κ):List (κ × V):=kvs.filter fun kv=>decide (kv.1 ≠ k)
theorem afa {p : κ × V} {r:List (κ × V)} {k : κ} (e:p.1=k):valV (p :: r) k=some p.2:=by simp [valV,List.find?_cons,e]
theorem aeb {p : κ × V} {r:List (κ × V)} {k : κ} (e:¬ p.1=k):valV (p :: r) k=valV r k:=by simp [valV,List.find?_cons,e]
theorem aha (k : κ):∀ kvs:List (κ × V),(kvs.any fun a=>decide (a.1=k))=(valV kvs k).isSome
 | []=>rfl
 | p :: r=>by
  rw [List.any_cons]
  by_cases e:p.1=k
  ·simp only [afa e,aD8 e,Bool.true_or,Option.isSome_some]
  ·rw [aeb e,aD7 e,Bool.false_or];exact aha k r
theorem RelO.getD {o:Option V} {u:Option Value} {d:V} {d':Value} (r:RelO o u) (a:RelV d d'):RelV (o.getD d) (u.getD d'):=by
 cases o with
 | none=>cases u with
  | none=>exact a
  | some _=>exact (show False from r).elim
 | some _=>cases u with
  | none=>exact (show False from r).elim
  | some _=>exact r
theorem KV.val {kvs:List (κ × V)} {vs:List (κ × Value)} (r:KV kvs vs) (k : κ):RelO (valV kvs k) (valueAt vs k):=by
 unfold KV at r
 induction r with
 | nil=>exact True.intro
 | @cons p q ps qs h t ih =>
  obtain ⟨c,d⟩:=h
  by_cases e:p.1=k
  ·have a:q.1=k:=c.symm.trans e
   have b:valueAt (q :: qs) k=some q.2:=by simp [valueAt,List.find?_cons,a]
   rw [afa e,b];exact d
  ·have a:¬ q.1=k:=fun z=>e (c.trans z)
   have b:valueAt (q :: qs) k=valueAt qs k:=by simp [valueAt,List.find?_cons,a]
   rw [aeb e,b];exact ih
theorem KV.length {kvs:List (κ × V)} {vs:List (κ × Value)} (r:KV kvs vs):kvs.length=vs.length:=Paired.length r
end
theorem ap4 {P:Program} {w:World} {k:Key} {u:Value} (r:RelV (kV k) u):(abg P w).is k u=true:=by
 cases k with
 | inl i=>obtain ⟨t,e⟩:=(show ∃ t,u=Value.int i t from r);subst e;exact ans P w i t
 | inr x=>obtain ⟨t,e⟩:=(show ∃ t,u=Value.str x t from r);subst e;exact ant P w x t
theorem ajx {P:Program} {w:World}:∀ {ks:List Key} {us:List Value},Vals (ks.map kV) us->ItemsAre (abg P w) ks us
 | [],_,r=>by rw [List.map_nil] at r;cases r;exact .nil
 | k :: ks,_,r=>by
  rw [aD1] at r
  cases r with
  | cons h t=>exact .cons (ap4 h) (ajx t)
abbrev KT (H:Hp):List (List Key × V)->List (List Key × Addr × Value)->Prop:=Paired fun p q=>p.1=q.1/\H q.2.1=some (.tup (p.1.map kV))/\RelV p.2 q.2.2
theorem KT.val {H:Hp} {kvs:List (List Key × V)} {xs:List (List Key × Addr × Value)} (r:KT H kvs xs) (k:List Key):RelO (valV kvs k) ((atKey xs k).map (·.2)):=by
 induction r with
 | nil=>exact True.intro
 | @cons p q ps qs h t ih =>
  obtain ⟨c,_,d⟩:=h
  by_cases e:p.1=k
  ·have a:q.1=k:=c.symm.trans e
   have b:atKey (q :: qs) k=some q.2:=by simp [atKey,List.find?_cons,a]
   rw [afa e,b];exact d
  ·have a:¬ q.1=k:=fun z=>e (c.trans z)
   have b:atKey (q :: qs) k=atKey qs k:=by simp [atKey,List.find?_cons,a]
   rw [aeb e,b];exact ih
section
variable {P:Program} {w:World} {H:Hp} {h:Heap} {a:Addr}
theorem av6 {u:HO} (ok:HOk P w H h) (e:Rd H a u):ObjOk P w H h a u:=e.ok ok
theorem ap5 {kvs:List (Key × V)} (ok:HOk P w H h) (e:Rd H a (.dK kvs)):kvs.length<=sizeLine/\(a == sysModules)=false/\∃ vs,KV kvs vs/\h.DictOf (abg P w) a vs :=
 show ObjOk P w H h a (.dK kvs) from av6 ok e
theorem a1g {kvs:List (Key × V)} (ok:HOk P w H h) (e:H a=some (.dK kvs)):kvs.length<=sizeLine/\(a == sysModules)=false/\∃ vs,KV kvs vs/\h.DictOf (abg P w) a vs:=ap5 ok (.inl e)
theorem arn {ks:List Key} (ok:HOk P w H h) (e:H a=some (.tup (ks.map kV))):(tupleKind (abg P w)).is h ks a:=by
 obtain ⟨_,its,r,o,c,d,n,b⟩:=(show ObjOk P w H h a (.tup (ks.map kV)) from ok a _ e)
 exact ⟨o,its.toArray,n,c,d,b,by simpa using ajx r⟩
theorem av7 {kvs:List (List Key × V)} (ok:HOk P w H h) (e:Rd H a (.dT kvs)):kvs.length<=sizeLine/\(a == sysModules)=false /\
  ∃ xs,KT H kvs xs/\h.DictOfH (tupleKind (abg P w)) a xs:=by
 obtain ⟨z,y,xs,r,o,es,ep,c,d,f,g,i⟩:=(show ObjOk P w H h a (.dT kvs) from av6 ok e)
 refine ⟨z,y,xs,r,o,es,ep,c,d,f,g,fun x b=>?_,i⟩
 have all:∀ {l:List (List Key × V)} {m:List (List Key × Addr × Value)},KT H l m->∀ x∈m,(tupleKind (abg P w)).is h x.1 x.2.1:=by
  intro l m q
  induction q with
  | nil=>intro x b;exact nomatch b
  | @cons p q ps qs hq t ih =>
   intro x b
   rcases aA9.mp b with e | b
   ·subst e
    exact arn ok (by rw [← hq.1];exact hq.2.1)
   ·exact ih x b
 exact all r x b
end
def DGet (H:Hp) (a:Addr) (y:V) (r:Option V):Prop :=
 (∃ kvs k,Rd H a (.dK kvs)/\y=kV k/\r=valV kvs k)\/∃ kvs k b,Rd H a (.dT kvs)/\y=.ref b/\H b=some (.tup (k.map kV))/\r=valV kvs k
def DPut (H:Hp) (a:Addr) (y v:V) (H':Hp):Prop :=
 (∃ kvs k,H a=some (.dK kvs)/\y=kV k/\kvs.length < sizeLine/\H'=upd H a (.dK (putK kvs k v))) ∨
 ∃ kvs k b,H a=some (.dT kvs)/\y=.ref b/\H b=some (.tup (k.map kV))/\kvs.length < sizeLine/\H'=upd H a (.dT (putK kvs k v))
section
variable {X:Cx} {pins:List (Addr × Obj)} {σ:St} {H:Hp} {s:Shared} {a:Addr} {y v:V} {u r:Value} {o:Option V} {A:Around} {E:Value->Shared->Prop}
theorem Inv.big (I:Inv X pins σ H s):sysModules < s.heap.objs.size:=by
 have h:mainGlobals < s.heap.objs.size:=(I.mod.glob.keeps I.bk).lt
 exact Nat.lt_trans (by decide) h
theorem awt {h':Heap} {t':Nat} {c:HO} (I:Inv X pins σ H s) (f:Mut (H a)) (hs:Heap.SameBut a s.heap h') (d:∃ q,h'.get? a=some q) (new:ObjOk X.prog X.w (upd H a c) h' a c) :
  Inv X pins σ (upd H a c) { s with heap:=h',toks:=t' } :=
 I.write (x:=a) (e:=a) f (.inl rfl) (fun b q hb z=>(hs.2 b hb).trans z) d new
theorem aza {P:Program} {w:World} {H':Hp} {h':Heap} {kvs:List (Key × V)} {vs:List (Key × Value)} (z:kvs.length<=sizeLine) (hd:(a == sysModules)=false) (b:KV kvs vs) (dd:h'.DictOf (abg P w) a vs) :
  ObjOk P w H' h' a (.dK kvs):=⟨z,hd,vs,b,dd⟩
end
section
variable {X:Cx} {pins:List (Addr × Obj)} {σ:St} {H:Hp} {s:Shared} {a:Addr} {kvs:List (Key × V)} {k:Key} {u:Value} {A:Around} {E:Value->Shared->Prop}
end
section
variable {X:Cx} {o i e value:Expr} {pos pos' tpos:Pos} {td ty tv:TE}
end
theorem atr {P:Program} {w:World} {H:Hp} (h:Heap) (hb:sysModules < h.objs.size):ObjOk P w H (h.push { cls:=.type "dict",data:=.dict #[] }) h.objs.size (.dK []) :=
 ⟨aG0 _,beq_eq_false_iff_ne.mpr (Ne.symm (aB6 hb)),[],.nil,Heap.DictOf.new h⟩
def aro:TE:=fun _ H Q=>∀ p,H p=none->Q (.ref p) (upd H p (.dK []))
section
variable {X:Cx} {pos:Pos}
theorem alv:PE X (.Dict [] [] pos) aro:=fun pins s σ H Q I h =>
 wpAny_Dict_empty ⟨.ref s.heap.objs.size,_,I.laid (a:=s.heap.objs.size) (o:=.dK []) (t':=s.toks) (fun _ _ q=>aJ1 _ q) (aA6 _) (atr s.heap I.big),rfl,h _ (I.hok.fresh (aA6 _))⟩
end
structure M1 (X:Cx) (o:Expr) (m:Str) (apos:Pos) (e:Expr) (cpos:Pos):Prop where
 base:attributeBase o m X.env (eval o X.env)=eval o X.env
 few:((backTo cpos (starEach [e] X.env)).all (fun x => !x.1) && (backToKw cpos (keywordEach [] X.env)).all (fun x=>x.1.isSome)
  && decide (([e]:List Expr).length+([]:List Keyword).length+(if ([]:List Keyword).isEmpty then 0 else 1) < 30))=true
 line:(apos.endLine == cpos.line)=true
 trees:backTo cpos (starEach [e] X.env)=[(false,eval e X.env)]
structure M2 (X:Cx) (o:Expr) (m:Str) (apos:Pos) (e f:Expr) (cpos:Pos):Prop where
 base:attributeBase o m X.env (eval o X.env)=eval o X.env
 few:((backTo cpos (starEach [e,f] X.env)).all (fun x => !x.1) && (backToKw cpos (keywordEach [] X.env)).all (fun x=>x.1.isSome)
  && decide (([e,f]:List Expr).length+([]:List Keyword).length+(if ([]:List Keyword).isEmpty then 0 else 1) < 30))=true
 line:(apos.endLine == cpos.line)=true
 trees:backTo cpos (starEach [e,f] X.env)=[(false,eval e X.env),(false,eval f X.env)]
def IsD (H:Hp) (a:Addr):Prop:=(∃ kvs,Rd H a (.dK kvs))\/∃ kvs,Rd H a (.dT kvs)
theorem arp {X:Cx} {pins:List (Addr × Obj)} {σ:St} {H:Hp} {s:Shared} {a:Addr} (I:Inv X pins σ H s) (d:IsD H a) :
  s.TypeIs (.ref a) "dict"/\(∀ b,Value.ref a=.ref b->∃ c,s.heap.get? b=some c/\c.dict=none)/\(a == sysModules)=false:=by
 rcases d with ⟨kvs,e⟩ | ⟨kvs,e⟩
 ·obtain ⟨_,hd,vs,_,dd⟩:=ap5 I.hok e
  refine ⟨dd.typeIs,fun b q=>?_,hd⟩
  cases q
  obtain ⟨c,_,_,f,g,_⟩:=dd
  exact ⟨c,f,g.2.1⟩
 ·obtain ⟨_,hd,xs,_,dd⟩:=av7 I.hok e
  refine ⟨dd.typeIs,fun b q=>?_,hd⟩
  cases q
  obtain ⟨c,_,_,f,g,_⟩:=dd
  exact ⟨c,f,g.2.1⟩
section
variable {X:Cx} {pins:List (Addr × Obj)} {σ:St} {H:Hp} {s:Shared} {a:Addr} {y d:V} {u r:Value} {o:Option V} {A:Around} {E:Value->Shared->Prop}
theorem azb {Q:Value->Shared->Prop} (p:A.units+1 < cLine) (I:Inv X pins σ H s) (g:DGet H a y o) (i:RelV y u) (m:RelV d r) (h:∀ j s',Inv X pins σ H s'->RelV (o.getD d) j->Q j s') :
  wpAny (model X.prog X.w) A (call (.builtin "dict.get") [.ref a,u,r]) Q E s:=by
 rcases g with ⟨kvs,k,e,f,l⟩ | ⟨kvs,k,b,e,f,n,l⟩
 ·subst f
  obtain ⟨z,hd,vs,c,dd⟩:=ap5 I.hok e
  refine call_meetsIn PySem.F.slot_dict_get dd.typeIs PySem.F.entry_dict_get (PySem.F.args_dict_get_3 _ _ _) (meets_dict_get_default (abg X.prog X.w) a (ap4 i) hd r) ⟨_,dd.mapOf,h _ _ (I.tok _) ?_⟩
  rw [l]
  exact (c.val k).getD m
 ·subst f
  cases (show u=Value.ref b from i)
  obtain ⟨z,hd,xs,c,dd⟩:=av7 I.hok e
  refine call_meetsIn PySem.F.slot_dict_get dd.typeIs PySem.F.entry_dict_get (PySem.F.args_dict_get_3 _ _ _) (meetsH_dict_get_default (tupleKind (abg X.prog X.w)) a b hd r) ⟨tupleKind_room_in1 p,k,xs,arn I.hok n,dd,h _ _ (I.tok _) ?_⟩
  rw [l]
  exact (c.val k).getD m
end
def ah1 (td ty tx:TE):TE:=fun σ H Q=>td σ H fun x H1=>∃ a,x=.ref a/\IsD H1 a/\ty σ H1 fun y H2=>tx σ H2 fun z H3=>∃ o,DGet H3 a y o/\Q (o.getD z) H3
section
variable {X:Cx} {o e f:Expr} {apos cpos:Pos} {td ty tx:TE}
theorem ats (B:X.A.units+1 < cLine) (q:PE X o td) (G:PE X e ty) (hf:PE X f tx) (m:M2 X o "get" apos e f cpos):PE X (.Call (.Attribute o "get" apos) [e,f] [] cpos) (ah1 td ty tx):=by
 intro pins s σ H Q I h
 refine wpAny_Call_method m.base m.few m.line PySem.F.plainAttrs_dict PySem.F.slot_dict_get PySem.F.type_dict_get (thn (q pins s σ H _ I h) fun u s1 ⟨x,C,c,w,a,ex,d,E⟩=>?_)
 subst ex
 obtain rfl:u=Value.ref a:=w
 obtain ⟨i,j,_⟩:=arp c d
 refine ⟨i,j,?_⟩
 rw [m.trees]
 refine Calls.callWith_builtin rfl (Calls.evalArgs_plain (Calls.spliced_cons (thn (G pins s1 σ C _ c E) fun J s2 ⟨y,H2,v,r,l⟩ =>
  Calls.spliced_cons (thn (hf pins s2 σ H2 _ v l) fun fv L ⟨z,H3,p,D,K,g,t⟩=>Calls.spliced_nil ?_))))
 exact azb B p g r D fun M N n b=>⟨_,H3,n,b,t⟩
end
section
variable {X:Cx} {pins:List (Addr × Obj)} {σ:St} {H:Hp} {s:Shared} {a:Addr} {kvs:List (Key × V)} {A:Around} {E:Value->Shared->Prop}
end
section
variable {X:Cx} {pins:List (Addr × Obj)} {σ:St} {H:Hp} {s:Shared} {a:Addr} {y:V} {u:Value} {A:Around} {E:Value->Shared->Prop}
end
end L2
namespace Att
open PySem PySem.W PySem.Calls PyProof.Rows
theorem ah2 {P:Params} {h:Heap}:∀ (ns:List Int) (vs:List Value),WellAll P h vs (ns.map WData.int)->IntsAre vs ns:=by
 intro ns
 induction ns with
 | nil =>
  intro vs w
  rw [List.map_nil] at w
  cases w
  exact .nil
 | cons n ns ih =>
  intro vs w
  rw [aD1] at w
  cases w with
  | cons a b =>
   cases a
   exact .cons _ _ (ih _ b)
theorem arq {l:OpenLaw} {n:Nat} (hn:l.most=some n) {P:Params} {h:Heap} {args:List WData} {b:List Value}
  (c:l.row.toRowW.claim.pre args=true) (m:WellAll P h b args) :
  ∃ a vs ns,b=[Value.ref a]/\args=[WData.list (ns.map WData.int)]/\h.get? a=some { cls:=.type "list",data:=.seq vs.toArray }/\IntsAre vs ns/\ns.length<=n:=by
 have j:WShape.hasAll [] args [.list .int]=true:=(pre_splitW c).1
 have o:l.pre.holds [] { args:=args }=true:=(pre_splitW c).2
 obtain ⟨d,r,rfl,p,s⟩:=hasAllW_cons j
 obtain rfl:=hasAllW_nil s
 obtain ⟨xs,rfl,t⟩:=hasW_list p
 obtain ⟨ns,rfl⟩:=items_int t
 have f:ns.length<=n:=by
  unfold OpenLaw.pre at o
  have g:(WTm.not (.lt (.lit (.int (n:Int))) (.len (.arg 0)))).holds [] { args:=[.list (ns.map .int)] }=true:=by
   have g:=(holds_andW o).1
   rw [hn] at g
   exact g
  have i:=condW_of g (w_not (w_lt w_lit (w_len_list (w_arg rfl))))
  rw [aA3] at i
  refine Nat.le_of_not_lt fun q=>?_
  have u:(n:Int) < ((ns.length:Nat):Int):=by omega
  first
   | (rw [aD8 u] at i;exact absurd i (by decide))
   | (simp at i;omega)
 cases m with
 | cons w1 w2 =>
  cases w2
  cases w1 with
  | list ho hall=>exact ⟨_,_,ns,rfl,rfl,ho,ah2 ns _ hall,f⟩
theorem ars (l:OpenLaw) (args:List WData):l.row.toRowW.claim.post args (.bool true) args=true :=
 postW_of (r:=l.row.toRowW) (X:=(true == true))
  (show WShape.has [] (.bool true) .bool=true by first | rfl | decide | simp [WShape.has,WShape.arms,WShape.armsAll])
  (show (WTm.eq .res (.lit (.bool true))).value [] { args:=args,res:=some (.bool true),after:=args }=some (.bool (true == true)) from w_eq_bool (w_res rfl) w_lit) rfl
theorem attach_call {l:OpenLaw} {n:Nat} {q:Program} {c:List Str} {XP:(Str->Option Value)->Heap->Prop} {v:World->Heap->Prop} {d:DefRec}
  (hn:l.most=some n) (t:d.params.defaults=[])
  (call:∀ (w:World) (s₀ b:Shared) (mg mb:Str->Option Value) (fa:Addr) (o:Obj) (pm m doc:Value) (a:Addr) (vs:List Value) (ns:List Int),
   Ground q c [] XP w s₀ mg mb b.heap->v w b.heap ->
   b.heap.get? fa=some o->o.data=.func (docDef d.name d.params d.body d.scope pm m doc)->b.heap.CodeRec m d.name->mg d.name=some (.ref fa) ->
   b.heap.get? a=some { cls:=.type "list",data:=.seq vs.toArray }->IntsAre vs ns->ns.length<=n->b.gens = #[] ->
   codeAny (model l.prog w) callerA (.call (.ref fa) ⟨[.ref a],[]⟩) (fun r s'=>r=.ok (.ret (.bool true))/\OldK b.heap s'.heap/\s'.os=b.os/\AllBare s'.gens) b) :
  WalkO q c XP v l.row.toRowW d [] (fun f vs=>PySem.call f vs):=by
 intro w s₀ b mg mb G Y fa o pm m doc D kV B hd u y p I args x as j z A s C
 obtain rfl:D=.none:=Dflts.none y t
 obtain rfl:kV=.none:=Dflts.noKw y
 obtain ⟨a,vs,ns,rfl,rfl,h,g,i⟩:=arq hn j s
 refine enter_call (aJ4 (call w s₀ b mg mb fa o pm m doc a vs ns G Y B (fd_plain hd) u p h g i I) fun r s' E=>?_)
 obtain ⟨rfl,F,H,J⟩:=E
 exact ⟨.inl ⟨.bool true,.bool true,[],rfl,fun _=>rfl,.bool true,ars l _,fun _=>⟨List.Pairwise.nil,fun _ hm=>(nomatch hm)⟩⟩,F,H,J⟩
section
variable {prog:Program} {w:World} {A:Around} {E:Value->Shared->Prop} {s:Shared} {K:Frag}
end
end Att
namespace L2
open PySem PySem.Spec PyProof.Rows
theorem afx:∀ {vs:List Value} {ns:List Int},IntsAre vs ns->Vals (ns.map V.int) vs
 | _,_,.nil => .nil
 | _,_,.cons n t h => .cons ⟨t,rfl⟩ (afx h)
def Only (H:Hp):Prop:=∀ b,H b=none\/∃ o xs,H b=some (.frz o (.lst xs))
theorem att {P:Program} {w:World} {K:Frag} {mg mb:Str->Option Value} {CX:CXT} {k:Nat} {fa a:Addr} {fd:FuncData} {x:Str} {sp:Sp} {c:Shared} {vs:List Value} {ns:List Int}
  (Q:K.In c.heap) (B:c.heap.Ns mainGlobals mg) (hb:c.heap.Ns builtinsNs mb) (E:∀ x:Str,x ≠ "__name__"->mb x=bootBuiltins x) (A:c.heap.NoLimit) (U:c.gens = #[])
  (ha:c.heap.get? a=some { cls:=.type "list",data:=.seq vs.toArray }) (hi:IntsAre vs ns) (M:ns.length<=sizeLine) (T:Room k callerA)
  (F:∀ base:Heap,K.In base->base.Ns mainGlobals mg->FnOk P w K mg base CX k fa fd [x] sp) (j:∀ (s:Shared) (u:Value),BindsTo s fd ⟨[u],[]⟩ [(x,u)])
  (C:∀ H:Hp,Only H->SqL K H a (ns.map V.int)->sp [.ref a] H (fun v _=>v=.bl true) fun _ _ _=>False)
  (I:∀ H e s',CX [] H c (fun _ _ _=>False) e s'->False) :
  codeAny (model P w) callerA (.call (.ref fa) ⟨[.ref a],[]⟩) (fun r s'=>r=.ok (.ret (.bool true))/\OldK c.heap s'.heap/\s'.os=c.os/\AllBare s'.gens) c:=by
 have O:=afx hi
 have l:=hi.length
 -- from an abstract heap in which nothing but the script may be tracked
 have i:∀ H:Hp,Only H->SqL K H a (ns.map V.int)->HOk P w H c.heap->(∀ b,H b ≠ none->b=a)->(H a ≠ none->K.lookup a=none) ->
   codeAny (model P w) callerA (.call (.ref fa) ⟨[.ref a],[]⟩) (fun r s'=>r=.ok (.ret (.bool true))/\OldK c.heap s'.heap/\s'.os=c.os/\AllBare s'.gens) c:=by
  intro H J Z hok N X
  have f:∀ {b:Addr} {o:Obj},c.heap.get? b=some o->H b=none->(hidT c.heap H).get? b=some o:=fun e n=>atl e n
  have D:∀ {b:Addr} {o:Obj} {es:Array DictEntry} {ep:Nat},c.heap.get? b=some o->o.data=.dict es ep->H b=none:=fun {b o es ep} e d=>by
   cases q:H b with
   | none=>rfl
   | some u =>
    have G:b=a:=N b (by rw [q];simp)
    subst G
    rw [ha] at e;cases e
    have d':Data.seq vs.toArray _=Data.dict es ep:=d
    cases d'
  have g:∀ {b:Addr} {m:Str->Option Value},c.heap.Ns b m->(hidT c.heap H).Ns b m:=fun {b m} ⟨o,es,ep,e,d,r⟩=>⟨o,es,ep,f e (D e d),d,r⟩
  have p:K.In (hidT c.heap H):=fun b o e=>f (Q b o e) (by
   cases q:H b with
   | none=>rfl
   | some u =>
    have G:b=a:=N b (by rw [q];simp)
    subst G
    rw [X (by rw [q];simp)] at e;cases e)
  have R:Mod K mg (hidT c.heap H):=⟨p,g B,⟨mb,g hb,E⟩,let ⟨mc,h1,h2⟩:=A;⟨mc,g h1,h2⟩⟩
  have S:Env0 P w K mg (hidT c.heap H) callerA [] c H:=⟨rfl,R,fun b o e=>awq e,Nat.le_of_eq (aq8 _ _),trivial,fun b hb=>absurd (show b∈([]:List Addr) from hb) (by simp),hok,.of_eq U⟩
  refine aJ4 ((F _ p (g B)).run callerA [] c H ⟨[.ref a],[]⟩ [.ref a] [.ref a] _ _ T S (j c (.ref a)) (.cons rfl .nil) (C H J Z)) fun r s' h=>?_
  cases r with
  | error e=>exact (I H e s' h).elim
  | ok fl =>
   cases fl with
   | next=>exact False.elim h
   | brk=>exact False.elim h
   | cont=>exact False.elim h
   | ret u =>
    obtain ⟨v,H',os,bare,un,y,r',q⟩:=h
    have q':v=.bl true:=q
    subst q'
    obtain rfl:u=Value.bool true:=r'
    refine ⟨rfl,OldK.of_keep fun b o e=>?_,os,bare⟩
    cases q:H b with
    | none=>exact un.keep b o e q (by intro z;exact absurd (show b∈([]:List Addr) from z) (by simp)) (by simp)
    | some u =>
     rcases J b with z | ⟨Y,xs,z⟩
     ·rw [q] at z;cases z
     ·have z2:=un.frzs b Y _ z
      obtain ⟨L,_⟩:=hok b _ z
      obtain ⟨W,_⟩:=y b _ z2
      rw [e] at L;cases L
      exact W
 cases hk:K.lookup a with
 | some o =>
  -- the script is one of the module's own objects
  have e:=Q a o hk
  rw [ha] at e
  cases e
  refine i (fun _=>none) (fun _ => .inl rfl) (.inr ⟨_,vs.toArray,_,hk,rfl,rfl,rfl,by rw [aB2,l];exact M,by simpa using O⟩) (fun b u z=>by have t:(none:Option HO)=some u:=z;cases t) (fun b z=>absurd rfl z) fun z=>absurd rfl z
 | none =>
  refine i (fun b=>if b=a then some (.frz { cls:=.type "list",data:=.seq vs.toArray } (.lst (ns.map V.int))) else none) (fun b=>?_) (.inl (.inr ⟨{ cls:=.type "list",data:=.seq vs.toArray },aF5 rfl⟩)) (fun b u z=>?_) (fun b z=>?_) fun _=>hk
  ·by_cases hb:b=a
   ·exact .inr ⟨_,_,aF5 hb⟩
   ·exact .inl (aF6 hb)
  ·by_cases hb:b=a
   ·have t:=(aF5 hb).symm.trans z
    cases t
    subst hb
    exact ⟨ha,by rw [aA3];exact M,vs,_,O,ha⟩
   ·have t:=(aF6 hb).symm.trans z
    cases t
  ·by_cases hb:b=a
   ·exact hb
   ·exact absurd (aF6 hb) z
abbrev KOf {K:Frag} {h:Heap} (_:K.In h):Frag:=K
theorem walk_of {l:PySem.W.OpenLaw} {n k:Nat} {q:Program} {i:List Str} {XP:(Str->Option Value)->Heap->Prop} {B:World->Heap->Prop} {d:DefRec} {K:Params->Frag} {CX:World->CXT} {sp:World->Sp} {x:Str}
  (hn:l.most=some n) (y:n<=sizeLine) (z:d.params.defaults=[]) (M:Room k callerA)
  (L:∀ (w:World) (h:Heap),B w h->(K w.params).In h)
  (F:∀ (w:World) (mg:Str->Option Value) (fa:Addr) (h:Heap),(K w.params).In h->h.Ns mainGlobals mg->mg d.name=some (.ref fa) ->
   ∃ fd:FuncData,(∀ (s:Shared) (u:Value),BindsTo s fd ⟨[u],[]⟩ [(x,u)]) /\
    ∀ base:Heap,(K w.params).In base->base.Ns mainGlobals mg->FnOk l.prog w (K w.params) mg base (CX w) k fa fd [x] (sp w))
  (t:∀ (w:World) (H:Hp) (a:Addr) (ns:List Int),ns.length<=n->Only H->SqL (K w.params) H a (ns.map V.int)->sp w [.ref a] H (fun v _=>v=.bl true) fun _ _ _=>False)
  (A:∀ (w:World) (H:Hp) (s:Shared) (e:Value) (s':Shared),CX w [] H s (fun _ _ _=>False) e s'->False) :
  PySem.W.WalkO q i XP B l.row.toRowW d [] (fun f vs=>PySem.call f vs):=by
 refine Att.attach_call hn z fun w s₀ m mg mb fa o pm P doc a vs ns G Y O hd J r p j c N=>?_
 have C:=L w _ Y
 obtain ⟨fd,hb,E⟩:=F w mg fa _ C G.T.g r
 exact att C G.T.g G.T.b G.T.builtins G.T.nolimit N p j (aD0 c y) M E hb (fun H D I=>t w H a ns c D I) fun H e s'=>A w H m e s'
end L2
/- THE LAST THEOREM (shape; LID, My.* are yours):
  My.Adr: a structure of the addresses that your layer names (classes,functions);My.Txt K t: a structure (Prop) of the equations over K;
  My.txt_mk:{K} {implicit addresses ..} (e1:nsIn K mainGlobals "law" = some (some (.ref f))) (e2:K.lookup f=some ⟨oc,od,.func (fnOf "law" "law" params body scope dV kV doc pm an cdv ct),sl⟩) (e3:codeIn K cdv "law" = true) .. : ∃ t,My.Txt K t
set_option maxRecDepth 100000 in
set_option maxHeartbeats 0 in
theorem PySem.Challenge.cw_LID_holds : PySem.Challenge.rw_LID.Holds := by
 w_on;o_law;k_head;(case hw=>w_witness2)
 k_fill
 refine L2.walk_of (l:=PySem.Challenge.rw_LID) (n:=63) (k:=40) (x:="script") (CX:=fun w => ..) (sp:=fun _=>My.sp_law) rfl (by decide) rfl ⟨rfl,by decide,by decide⟩ (fun w h Y=>PySem.W.kIn_of Y) ?F ?S ?C
 case F =>
  intro w mg fa h KX G hmg
  have T:∃ t,My.Txt (L2.KOf KX) t:=by
   dsimp only [L2.KOf]                          -- K must stand as «<heap const> w.params» for k_is
   refine' My.txt_mk ?e1 ?e2 ?e3 ..
   (case e1=>PySem.W.k_is)                    -- in the order: a name -> its address -> its object -> its parts
   (case e2=>PySem.W.k_is)
   ..
  obtain ⟨t,T⟩:=T
  have e0:=hmg.symm.trans (mg_of KX G T.law)
  cases e0                                       -- fa is the law's own address
  exact ⟨_,fun s u => .of_eq rfl,fun base kb nb=>My.law_fn T kb nb⟩     -- if «.of_eq rfl» comes too early: refine' ⟨_,?b,fun base kb nb=>My.law_fn T kb nb⟩;exact fun s u => .of_eq rfl
 case S=>exact fun w H a ns hl hO hS => ..
 case C=>exact ..
(the tactic k_is has no namespace: write k_is) -/
namespace L2
open PySem PySem.Spec PyProof.Rows
def aci (s:Stmt):Arguments:=match s with
 | .FunctionDef _ a _ _ _ _ _ _ _ _=>a
 | _=>{ posonlyargs:=[],args:=[],vararg:=none,kwonlyargs:=[],kw_defaults:=[],kwarg:=none,defaults:=[] }
def abu (s:Stmt):List Stmt:=match s with
 | .FunctionDef _ _ b _ _ _ _ _ _ _=>b
 | _=>[]
def aai (s:Stmt):Scope:=match s with
 | .FunctionDef _ _ _ _ _ _ sc _ _ _=>sc
 | _=>{ kind:=.function,names:=[],isGenerator:=false,isCoroutine:=false }
abbrev CX0:CXT:=fun _ _ _ _ _ _=>False
abbrev E0:XK:=fun _ _ _=>False
theorem a1h {X:Cx}:ahz CX0 X E0:=fun _ _ _ _ _ _ _ h=>h.elim
structure Fun (K:Frag) (x qual:Str) (st:Stmt) (f:Addr) (fd:FuncData):Prop where
 ex:∃ (oc:Value) (od:Option Addr) (kV doc pm:Value) (an:Option Addr) (cdv ct:Value) (osl:Array (Option Value)),
  fd=fnOf x qual (aci st) (abu st) (aai st) .none kV doc pm an cdv ct/\K.lookup f=some ⟨oc,od,.func fd,osl⟩/\codeIn K cdv qual=true
 kp:keepIn K (.ref f)=true
section
variable {P:Program} {w:World} {K:Frag} {mg:Str->Option Value} {base:Heap}
theorem Fun.ok {x qual:Str} {st:Stmt} {f:Addr} {fd:FuncData} {N ps:List Str} {k:Nat} {sp:Sp} (F:Fun K x qual st f fd) (S:FnScope N ps (aai st)) (len:∀ vs H Q E,sp vs H Q E->vs.length=ps.length)
  (a:∀ (cdv:Value) (A:Around) (outer:List Env) (s:Shared) (H:Hp) (vs:List V) (Q:VK) (E:XK),Room k (A.deeper (envOfC qual (aai st) s.heap.objs.size f cdv))->sp vs H Q E ->
   ∃ t,PSs (cxOf CX0 P w K mg base N qual (aai st) f cdv A outer s H E).nox (abu st) t/\t { nx:=fun _ H'=>Q .non H',rt:=Q } (start N vs) H):FnOk P w K mg base CX0 (k+1) f fd ps sp:=by
 obtain ⟨oc,od,kV,doc,pm,an,cdv,ct,osl,rfl,g,b⟩:=F.ex
 refine av4 g b S len fun A outer s H vs Q E d c=>?_
 obtain ⟨t,h,q⟩:=a cdv A outer s H vs Q E d c
 exact ⟨t,h.nox,q⟩
theorem Fun.binds {x qual:Str} {st:Stmt} {f:Addr} {fd:FuncData} {ps:List Str} (F:Fun K x qual st f fd)
  (h:∀ (kV doc pm:Value) (an:Option Addr) (cdv ct:Value) (us:List Value),us.length=ps.length->bindArgs (fnOf x qual (aci st) (abu st) (aai st) .none kV doc pm an cdv ct) ⟨us,[]⟩=pure (ps.zip us)):Binds K fd ps []:=by
 obtain ⟨oc,od,kV,doc,pm,an,cdv,ct,osl,rfl,b,a⟩:=F.ex
 exact .all (h kV doc pm an cdv ct)
theorem azc {x qual:Str} {st:Stmt} {f:Addr} {oc:Value} {od an:Option Addr} {osl:Array (Option Value)} {kV doc pm cdv ct:Value} (l:K.lookup f=some ⟨oc,od,.func (fnOf x qual (aci st) (abu st) (aai st) .none kV doc pm an cdv ct),osl⟩)
  (c:codeIn K cdv qual=true) (k:keepIn K (.ref f)=true):Fun K x qual st f (fnOf x qual (aci st) (abu st) (aai st) .none kV doc pm an cdv ct):=⟨⟨oc,od,kV,doc,pm,an,cdv,ct,osl,rfl,l,c⟩,k⟩
end
theorem a1i {A:Around} {k:Nat} (a:Room k A):A.units+1 < cLine:=aE4 (Nat.add_le_add_left (by decide:1<=64) _) a.units
theorem adq {n:Nat} (h:n<=1000):n < sizeLine:=aE4 h (by decide)
section
variable {X:Cx}
theorem pv (i:Nat) {x:Str} {a:Pos} (c:X.N[i]?=some x:=by rfl) (d:Vis X.env.scope x:=by first | exact Or.inl rfl | exact Or.inr (Or.inl rfl) | exact Or.inr (Or.inr rfl)) (hd:(x == ("__debug__" : Str))=false:=by decide)
  (b:(x == ("__classdict__" : Str))=false:=by decide):PE X (.Name x a) (tVar i):=ay1 c d hd b
end
theorem iteF {A B:Prop} (h:B):if false=true then A else B:=by
 rw [aF6 aB0]
 exact h
theorem iteT {A B:Prop} (h:A):if true=true then A else B:=by
 rw [aF5 rfl]
 exact h
def Same (H H':Hp):Prop:=∀ b o,H b=some o->H' b=some o
theorem Same.refl (H:Hp):Same H H:=fun _ _ h=>h
theorem Same.trans {H d H2:Hp} (a:Same H d) (b:Same d H2):Same H H2:=fun c o h=>b c o (a c o h)
theorem Same.seq {K:Frag} {H H':Hp} {a:Addr} {xs:List V} (e:Same H H') (h:SqL K H a xs):SqL K H' a xs:=by
 rcases h with (h | ⟨o,h⟩) | h
 ·exact .inl (.inl (e _ _ h))
 ·exact .inl (.inr ⟨o,e _ _ h⟩)
 ·exact .inr h
section
variable {X:Cx}
end
section
variable {κ:Type} [DecidableEq κ]
end
def clos (env:Env):List (Str × NameKind)->List (Str × Addr)->List (Str × Addr)
 | [],cs=>cs
 | (n,k) :: r,cs=>if k == NameKind.free then (match env.cells.lookup n with | some a=>clos env r ((n,a) :: cs) | none=>clos env r cs) else clos env r cs
theorem ah3 {env:Env} {sc:Scope} (h:∀ n,(n,NameKind.free)∈sc.names->∃ a,env.cells.lookup n=some a):closureFor sc env=pure (clos env sc.names []):=by
 have all:∀ (l:List (Str × NameKind)) (cs:List (Str × Addr)),(∀ n,(n,NameKind.free)∈l->∃ a,env.cells.lookup n=some a) ->
   (forIn l cs fun (x:Str × NameKind) (cs:List (Str × Addr))=>match x with | (name,kind)=>if kind == NameKind.free then (do let a ← cellOf env name;pure (ForInStep.yield ((name,a) :: cs))) else pure (ForInStep.yield cs))=(pure (clos env l cs):Sem _):=by
  intro l
  induction l with
  | nil=>intro cs _;rfl
  | cons p r ih =>
   intro cs c
   obtain ⟨n,k⟩:=p
   rw [List.forIn_cons]
   unfold clos
   dsimp only
   cases hk:(k == NameKind.free) with
   | false =>
    simp only [Bool.false_eq_true,if_false,pure_bind]
    exact ih cs fun m hm=>c m (aB5 _ hm)
   | true =>
    have f:k=NameKind.free:=by simpa using hk
    subst f
    obtain ⟨a,ha⟩:=c n aB8
    have d:cellOf env n=pure a:=by unfold cellOf;rw [ha]
    simp only [if_true,d,pure_bind,ha]
    exact ih _ fun m hm=>c m (aB5 _ hm)
 have e:=all sc.names [] h
 unfold closureFor
 refine Eq.trans (b:=(pure (clos env sc.names []):Sem _) >>= fun cs=>pure cs) ?_ (pure_bind _ _)
 exact congrArg (fun z:Sem (List (Str × Addr))=>z >>= fun cs=>pure cs) e
theorem aek {env:Env} {x:Str} {c:Addr}:∀ {l:List (Str × NameKind)} {cs:List (Str × Addr)},(clos env l cs).lookup x=some c->env.cells.lookup x=some c\/cs.lookup x=some c
 | [],cs,h => .inr h
 | (n,k) :: r,cs,h=>by
  unfold clos at h
  by_cases hk:(k == NameKind.free)=true
  ·rw [aF5 hk] at h
   cases ha:env.cells.lookup n with
   | none=>rw [ha] at h;exact aek h
   | some a =>
    rw [ha] at h
    rcases aek h with e | e
    ·exact .inl e
    ·rw [aG9] at e
     cases hx:(x == n) with
     | true =>
      rw [hx] at e
      have:x=n:=by simpa using hx
      subst this
      cases e
      exact .inl ha
     | false=>rw [hx] at e;exact .inr e
  ·rw [aF6 hk] at h
   exact aek h
theorem ael {env:Env} {x:Str}:∀ {l:List (Str × NameKind)} {cs:List (Str × Addr)},(∃ c,cs.lookup x=some c)->∃ c,(clos env l cs).lookup x=some c
 | [],cs,h=>h
 | (n,k) :: r,cs,h=>by
  unfold clos
  by_cases hk:(k == NameKind.free)=true
  ·rw [aF5 hk]
   cases ha:env.cells.lookup n with
   | none=>exact ael h
   | some a =>
    refine ael ?_
    rw [aG9]
    cases hx:(x == n) with
    | true=>exact ⟨_,rfl⟩
    | false=>exact h
  ·rw [aF6 hk]
   exact ael h
theorem aec {env:Env} {x:Str} (h:∃ a,env.cells.lookup x=some a):∀ {l:List (Str × NameKind)} {cs:List (Str × Addr)},(x,NameKind.free)∈l->∃ c,(clos env l cs).lookup x=some c
 | [],_,hm=>absurd hm (by simp)
 | (n,k) :: r,cs,hm=>by
  rcases aA9.mp hm with e | hm
  ·cases e
   obtain ⟨a,ha⟩:=h
   unfold clos
   rw [aF5 (by rfl),ha]
   refine ael ⟨a,?_⟩
   rw [aG9]
   simp
  ·unfold clos
   by_cases hk:(k == NameKind.free)=true
   ·rw [aF5 hk]
    cases ha:env.cells.lookup n with
    | none=>exact aec h hm
    | some a=>exact aec h hm
   ·rw [aF6 hk]
    exact aec h hm
theorem afy {env:Env} {x:Str}:∀ {names:List (Str × NameKind)},(∀ y∈names,y.2 ≠ .cell) ->
  ((names.map fun (n,k)=>if (k == NameKind.free && env.scope.kind == .function && env.kindOf n == some .cell) then (n,NameKind.cell) else (n,k)).lookup x=some .cell ∨
   (names.map fun (n,k)=>if (k == NameKind.free && env.scope.kind == .function && env.kindOf n == some .cell) then (n,NameKind.cell) else (n,k)).lookup x=some .free)->names.lookup x=some .free
 | [],_,h=>by rcases h with h | h <;> simp at h
 | (n,k) :: r,hc,h=>by
  have a:=@afy env x r fun y b=>hc y (aB5 _ b)
  rw [aG9]
  simp only [aD1] at h
  by_cases hq:(k == NameKind.free && env.scope.kind == .function && env.kindOf n == some .cell)=true
  ·rw [aF5 hq] at h
   have c:k=NameKind.free:=by
    have:=hq;simp only [aH1] at this;simpa using this.1.1
   subst c
   cases hx:(x == n) with
   | true=>rfl
   | false=>simp only [aG9,hx] at h;exact a h
  ·rw [aF6 hq] at h
   cases hx:(x == n) with
   | true =>
    simp only [aG9,hx] at h
    rcases h with h | h
    ·cases h;exact absurd rfl (hc (n,NameKind.cell) aB8)
    ·exact h
   | false=>simp only [aG9,hx] at h;exact a h
theorem aem {env:Env} {x:Str}:∀ {names:List (Str × NameKind)},names.lookup x=some .free ->
  ((names.map fun (n,k)=>if (k == NameKind.free && env.scope.kind == .function && env.kindOf n == some .cell) then (n,NameKind.cell) else (n,k)).lookup x=some .cell ∨
   (names.map fun (n,k)=>if (k == NameKind.free && env.scope.kind == .function && env.kindOf n == some .cell) then (n,NameKind.cell) else (n,k)).lookup x=some .free)
 | [],h=>by simp at h
 | (n,k) :: r,h=>by
  have a:=@aem env x r
  rw [aG9] at h
  simp only [aD1]
  by_cases hq:(k == NameKind.free && env.scope.kind == .function && env.kindOf n == some .cell)=true
  ·rw [aF5 hq]
   cases hx:(x == n) with
   | true=>left;simp [aG9,hx]
   | false=>rw [hx] at h;simp only [aG9,hx];exact a h
  ·rw [aF6 hq]
   cases hx:(x == n) with
   | true=>rw [hx] at h;right;simp only [aG9,hx];exact h
   | false=>rw [hx] at h;simp only [aG9,hx];exact a h
def Cx.comp (X:Cx) (N:List Str) (sc:Scope) (C:Addr) (s0:Shared) (H0:Hp) (ex:List Addr):Cx where
 prog:=X.prog
 w:=X.w
 K:=X.K
 mg:=X.mg
 base:=X.base
 A:=X.A
 N:=N
 s₀:=s0
 H₀:=H0
 env:=compEnvC sc (clos X.env sc.names []) C X.env
 outer:=X.stack
 stack:=X.stack
 ex:=ex
 fn:=fun _=>false
 calm:=X.calm
 pn:=[]
 xe:=fun _ _=>False
def pick (src:List (Option Nat)) (σ:St):St:=src.map fun o=>match o with | some j=>(σ[j]?).getD none | none=>none
structure LcOk (X:Cx) (N:List Str) (sc:Scope) (src:List (Option Nat)):Prop where
 kind:sc.kind=.function
 nocell:∀ y∈sc.names,y.2 ≠ .cell
 own:∀ y∈sc.names,y.2=.local->sc.names.lookup y.1=some .local
 outs:∀ y∈sc.names,y.2=.free->X.env.kindOf y.1=some .cell\/X.env.kindOf y.1=some .free
 len:src.length=N.length
 from':∀ (i j:Nat),src[i]?=some (some j)->∃ x,N[i]?=some x/\X.N[j]?=some x/\sc.names.lookup x=some .free
theorem LcOk.clo {X:Cx} {N:List Str} {sc:Scope} {src:List (Option Nat)} (L:LcOk X N sc src) (ok:X.Ok):closureFor sc X.env=pure (clos X.env sc.names []) :=
 ah3 fun n hn=>ok.has n (L.outs (n,.free) hn rfl)
theorem atu {X:Cx} {pins:List (Addr × Obj)} {σ:St} {H:Hp} {s:Shared} {N:List Str} {sc:Scope} {src:List (Option Nat)} {fp:List Addr} {n:Heap} {t':Nat}
  (L:LcOk X N sc src) (I:Inv X pins σ H s) (hf:∀ b∈fp,FpOk X pins H b) (f:∀ b∈fp,b < s.heap.objs.size)
  (hn:n.Ns s.heap.objs.size fun _=>none) (g:∀ b o,s.heap.get? b=some o->n.get? b=some o) :
  Inv (X.comp N sc s.heap.objs.size s H fp) [] (pick src σ) H { s with heap:=n,toks:=t' }:=by
 have look:∀ {x c},(clos X.env sc.names []).lookup x=some c->X.env.cells.lookup x=some c:=fun {x c} e=>by
  rcases aek e with z | z
  ·exact z
  ·simp at z
 refine ⟨⟨I.ok.mod,L.kind,I.ok.glob,I.ok.blt,aA6 _,fun x y c h a=>?_,fun x M=>?_,fun x c z _=>?_,I.ok.hd,I.ok.frames,.inl rfl,fun b hb=>⟨?_,fun x c e=>?_⟩,I.bs,aD0 I.ok.bsz I.sz,fun b o e hb=>?_,fun b hb z=>?_,I.stack,I.stkFree⟩,
  rfl,I.bare,Un.kept g,⟨_,hn,fun i x v h a O=>?_⟩,fun x c e=>?_,I.hok.fresh (aA6 _),fun x c e=>I.freeC x c (look e),fun p G=>?_,I.hok.kept g,?_⟩
 ·exact I.ok.inj x y c (look h) (look a)
 ·have q:=afy (env:=X.env) (x:=x) L.nocell M
  exact aec (I.ok.has x (L.outs (x,.free) (PySem.mem_of_lookup q) rfl)) (PySem.mem_of_lookup q)
 ·exact Bool.noConfusion z
 ·exact aB6 (f b hb)
 ·exact (hf b hb).2.2.2.2.1 x c (look e)
 ·rcases (hf b hb).2.2.2.1 with z | z
  ·exact I.ok.noex b o e z
  ·exact absurd (aC5 (aJ2 e) (aD0 I.ok.bsz z)) (aG4 _)
 ·rcases aA9.mp (I.stkSub b z) with q | q
  ·exact (hf b hb).2.1 q
  ·exact (hf b hb).2.2.1 q
 ·unfold pick at a
  rw [aA5] at a
  cases q:src[i]? with
  | none=>rw [q] at a;cases a
  | some o =>
   rw [q] at a
   cases o with
   | none=>cases a
   | some j =>
    obtain ⟨y,E,K,t⟩:=L.from' i j q
    have w:N[i]?=some x:=h
    rw [w] at E
    cases E
    have F : σ[j]?=some (some v):=by
     cases q2 : σ[j]? with
     | none=>simp [q2] at a
     | some z=>simp [q2] at a;rw [a]
    have f:=L.outs (x,.free) (PySem.mem_of_lookup t) rfl
    have A:Vis X.env.scope x:=by
     rcases f with z | z
     ·exact .inr (.inl z)
     ·exact .inr (.inr z)
    obtain ⟨m,_,J⟩:=I.loc
    obtain ⟨u,r,l⟩:=J j x v K F A
    refine ⟨u,r,.inr ⟨?_,?_⟩⟩
    ·exact aem (env:=X.env) t
    ·rcases l with ⟨z,_⟩ | ⟨_,c,D,oc,d,hd⟩
     ·rcases f with B | B <;> (rw [B] at z;cases z)
     ·obtain ⟨P,C⟩:=aec (env:=X.env) ⟨c,D⟩ (PySem.mem_of_lookup t) (cs:=[])
      have:=look C
      rw [D] at this;cases this
      exact ⟨c,C,oc,g c oc d,hd⟩
 ·obtain ⟨v,oc,d,hd⟩:=I.cell x c (look e)
  exact ⟨v,oc,g c oc d,hd⟩
 ·exact absurd (show p∈([]:List (Addr × Obj)) from G) (by simp)
 ·show (pick src σ).length=N.length
  unfold pick
  rw [aA3]
  exact L.len
def PIf (X:Cx) (ifs:List Expr) (t:TT):Prop :=
 ∀ (pins:List (Addr × Obj)) (s:Shared) (σ:St) (H:Hp) (Q:Bool->Hp->Prop),Inv X pins σ H s->t σ H Q ->
  wpAny (model X.prog X.w) X.A (forIn ifs true fun c r=>if r=true then do let ok ← isTrue c X.env (eval c X.env);pure (ForInStep.yield ok) else pure (ForInStep.yield r)) (TP X pins σ Q) X.xe s
def tYes:TT:=fun _ H Q=>Q true H
theorem acj {X:Cx}:PIf X [] tYes:=fun _ _ _ H _ I h=>wpAny_tests_nil ⟨H,I,h⟩
theorem agj {X:Cx} {c:Expr} {t:TT} (h:PT X c t):PIf X [c] t:=fun pins s σ H Q I q=>wpAny_tests_one (h pins s σ H Q I q)
abbrev LW:=Nat->Nat->List V->St->Hp->Prop
def alw (J:It) (g:TG) (tif:TT) (te:TE) (acc:Addr) (Qd:List V->Hp->Prop) (W:LW):Prop:=∀ (i m:Nat) (ys:List V) (σ:St) (H:Hp),W i m ys σ H->H acc=some (.lst ys)/\((J.stop i H/\Qd ys H)\/(J.go i H /\
 ∃ Nx:List V->St->Hp->Prop,(∀ ys' σ' H',Nx ys' σ' H'->∃ m',m' < m/\W (i+1) m' ys' σ' H')/\∀ x H2,J.yld i H x H2 ->
 g x σ H2 fun σ3 H3=>tif σ3 H3 fun b H4=>if b=true then te σ3 H4 fun y H5=>H5 acc=some (.lst ys)/\ys.length < sizeLine/\Nx (ys ++ [y]) σ3 (upd H5 acc (.lst (ys ++ [y]))) else Nx ys σ3 H4))
theorem art {X:Cx} {tg p B:Expr} {q:List Expr} {sc:Scope} {F:Pos} {J:It} {fp:List Addr} {it:Addr} {tn:Nat->Heap->Prop} {g:TG} {N:TT} {te:TE} {a:Addr} {Qd:List V->Hp->Prop} {W:LW} {R:Result->Shared->Prop}
  (T:Turn X.prog X.w X.K tg J fp it tn) (hc:X.calm=true) (l:∀ e s,¬ X.xe e s) (hg:PG X tg g) (U:PIf X q N) (he:PE X B te)
  (D:alw J g N te a Qd W) (hR:∀ ys σ H s,Inv X [] σ H s->Qd ys H->R (.ok .next) s)
  {i m:Nat} {ys:List V} {σ:St} {H:Hp} {s:Shared} (I:Inv X [] σ H s) (st:tn i s.heap) (hf:∀ b∈fp,FpOk X [] H b) (w:W i m ys σ H) :
  codeAny (model X.prog X.w) X.A (.compLoop (.ListComp B [⟨tg,p,q,0⟩] sc F) 0 (.ref it) (.ref a) X.env) R s:=by
 have f:∀ {H':Hp},(∀ b∈fp,H' b=none)->∀ b∈fp,FpOk X [] H' b:=fun hn b hb=>⟨hn b hb,(hf b hb).2⟩
 refine codeAny_loop rfl (fun n s'=>∃ i ys h H',Inv X [] h H' s'/\tn i s'.heap/\(∀ b∈fp,H' b=none)/\W i n ys h H') ?_ m ⟨i,ys,σ,H,I,st,fun b hb=>(hf b hb).1,w⟩
 rintro n s1 ⟨i,ys,c,Q,I1,M,L,w1⟩
 show wpAny _ X.A ((compTurn (.ListComp B [⟨tg,p,q,0⟩] sc F) 0 (.ref it) (.ref a) X.env).onRaise (fun x=>do noteFrame x X.env;theTreesLotGoes x)) _ _ s1
 refine wpAny_noted ?_
 rw [compTurn_list]
 refine aI9 (wpAny_standAt (aI9 ?_))
 obtain ⟨a2,⟨stop,qd⟩ | ⟨go,Nx,G,step⟩⟩:=D i n ys c Q w1
 ·refine thn (T.done X rfl rfl rfl hc i [] s1 c Q _ I1 (f L) M stop) fun r s2 ⟨Y,I2⟩=>?_
  subst Y
  exact aJ0 (hR ys c Q s2 I2 qd)
 ·refine thn (T.item X rfl rfl rfl hc i [] s1 c Q _ I1 (f L) M go) fun r s2 ⟨u,Y,h2⟩=>?_
  subst Y
  refine aI9 (thn h2 fun _ s3 ⟨x,H3,I3,r3,y3,t,a1⟩=>?_)
  have a0:=I3.pinned (f a1) (T.obj _ _ t)
  refine aI9 (aJ8 (hg _ s3 c H3 x u _ a0 r3 (step x H3 y3)) (fun _ s4 ⟨v,H4,I4,q4⟩=>?_) fun e s' z=>(l e s' z).elim)
  have back:∀ {j:St} {E:Hp} {O:Shared} {zs:List V},Inv X ([] ++ afu fp s3.heap) j E O->(∃ S,S < n/\W (i+1) S zs j E)->∃ m,m < n/\∃ i ys h H',Inv X [] h H' O/\tn i O.heap/\(∀ b∈fp,H' b=none)/\W i m ys h H':=fun {j E O zs} C Z=>by
   obtain ⟨S,hm,Z⟩:=Z
   refine ⟨S,hm,i+1,zs,j,E,C.unpinned,T.keep _ _ _ t fun b hb o e=>(C.pin (b,o) (aB3 _ (aB3 _ (ad3 hb e)))).1,fun b hb=>?_,Z⟩
   obtain ⟨o,e,d⟩:=T.obj _ _ t b hb
   exact (C.pin (b,o) (aB3 _ (aB3 _ (ad3 hb e)))).2.1
  refine aI9 (aJ8 (U _ s4 v H4 _ I4 q4) (fun b s5 ⟨H5,I5,P⟩=>?_) fun e s' z=>(l e s' z).elim)
  cases b with
  | false =>
   rw [aF6 aB0] at P
   exact aJ0 ⟨rfl,back I5 (G _ _ _ P)⟩
  | true =>
   rw [aF5 rfl] at P
   refine aI9 (aI9 (aJ8 (he _ s5 v H5 _ I5 P) (fun yv s6 ⟨y,H6,I6,r6,a6,l6,w6⟩=>?_) fun e s' z=>(l e s' z).elim))
   have ap:=abn (X:=X) _ s6 v H6 (.ref a) [y] (.ref a) [yv] (fun _ H'=>H'=upd H6 a (.lst (ys ++ [y]))) I6 rfl (.cons r6 .nil) ⟨a,ys,y,rfl,rfl,a6,l6,rfl⟩
   refine aI9 (aJ8 ap (fun _ O ⟨v7,E,C,_,e7⟩=>?_) fun e s' z=>(l e s' z).elim)
   subst e7
   exact aJ0 (aJ0 ⟨rfl,back C (G _ _ _ w6)⟩)
def tLC (src:List (Option Nat)) (wi:TI) (g:TG) (tif:TT) (te:TE):TE:=fun σ H Q=>wi σ H fun J H1=>∀ acc,H1 acc=none->∃ W:LW,(∃ m,W 0 m [] (pick src σ) (upd H1 acc (.lst [])))/\alw J g tif te acc (fun _ H'=>Q (.ref acc) H') W
section
variable {X:Cx} {N:List Str} {tg iter elt:Expr} {ifs:List Expr} {sc:Scope} {src:List (Option Nat)} {wi:TI} {g:TG} {tif:TT} {te:TE} {pos:Pos}
theorem awu (hc:X.calm=true) (L:LcOk X N sc src) (Y:∀ C B E ex,PG (X.comp N sc C B E ex) tg g) (G:∀ C B E ex,PIf (X.comp N sc C B E ex) ifs tif) (Z:∀ C B E ex,PE (X.comp N sc C B E ex) elt te)
  {pins:List (Addr × Obj)} {d:Shared} {σ:St} {H3:Hp} {Q:VK} (h:Inv X pins σ H3 d) {it a:Addr} {fp:List Addr} {J:It} {tn:Nat->Heap->Prop} (T:Turn X.prog X.w X.K tg J fp it tn) (r:tn 0 d.heap) (j:∀ b∈fp,FpOk X pins H3 b)
  {W:LW} {m0:Nat} (w0:W 0 m0 [] (pick src σ) H3) (q:alw J g tif te a (fun _ H'=>Q (.ref a) H') W) (use:Option (Value->Sem Unit)) (P:Value->Shared->Prop)
  (R:∀ C H' s' m,Inv X pins σ H' s'->Q (.ref a) H'->s'.heap.Ns C m->H' C=none->C ≠ X.env.locals->(C∈X.ex\/X.s₀.heap.objs.size<=C)->(∀ x c,X.env.cells.lookup x=some c->c ≠ C)->(∀ p∈X.pn ++ pins,p.1 ≠ C) ->
   compPost (model X.prog X.w) X.A X.xe use P (.ref a) C (.ok .next) s') :
  wpAny (model X.prog X.w) X.A (newFunctionEnv sc X.env.globals (clos X.env sc.names []) [] X.env.qual none .none (some X.env)) (fun f D =>
    codeAny (model X.prog X.w) X.A (.compStart (.ListComp elt [⟨tg,iter,ifs,0⟩] sc pos) 0 (.ref it) (.ref a) { f with scope:=relabel sc X.env }) (compPost (model X.prog X.w) X.A X.xe use P (.ref a) f.locals) D) X.xe d:=by
 refine wpAny_newFunctionEnv L.nocell (by intro y S;simp at S) (fun H l t=>?_) L.kind
 have I:∀ b∈fp,b < d.heap.objs.size:=fun b hb=>by
  obtain ⟨o,M,_⟩:=T.obj _ _ r b hb
  exact aJ2 M
 have u:∀ b o,d.heap.get? b=some o->H.get? b=some o:=fun b o e=>t.extBut b o (aB6 (aJ2 e)) (aJ1 _ e)
 have F:=atu (t':=d.toks+([]:List (Str × Value)).length) L h j I (by simpa using l) u
 have n:tn 0 H:=T.keep _ _ _ r fun b _ o e=>u b o e
 have f4:∀ b∈fp,FpOk (X.comp N sc d.heap.objs.size d H3 fp) [] H3 b:=fun b hb =>
  ⟨(j b hb).1,(F.ok.exf b hb).1,F.ok.exfs b hb,.inl hb,(F.ok.exf b hb).2,fun p O=>absurd (show p∈([]:List (Addr × Obj)) from O) (by simp)⟩
 have fin:∀ (ys:List V) s H' s',Inv (X.comp N sc d.heap.objs.size d H3 fp) [] s H' s'->Q (.ref a) H'->compPost (model X.prog X.w) X.A X.xe use P (.ref a) d.heap.objs.size (.ok .next) s':=fun ys s H' s' i q'=>by
  have U:Inv X pins σ H' s':=h.call' (ch:=fp) i.os i.base i.hok i.bare fun b hb=>⟨(j b hb).2.2.2.1,(j b hb).2.1,(j b hb).2.2.2.2.1,(j b hb).2.2.2.2.2⟩
  obtain ⟨m,hn,_⟩:=i.loc
  refine R _ H' s' m U q' hn i.free (Nat.ne_of_gt h.lt) (.inr h.sz) (fun x c e z=>?_) fun p O z=>?_
  ·obtain ⟨v,o,M,_⟩:=h.cell x c e
   exact absurd (aJ2 M) (by rw [z];exact aG4 _)
  ·exact absurd (aJ2 (h.pin p O).1) (by rw [z];exact aG4 _)
 have loop:codeAny (model X.prog X.w) X.A (.compLoop (.ListComp elt [⟨tg,iter,ifs,0⟩] sc pos) 0 (.ref it) (.ref a) (X.comp N sc d.heap.objs.size d H3 fp).env)
   (compPost (model X.prog X.w) X.A X.xe use P (.ref a) d.heap.objs.size) { d with heap:=H,toks:=d.toks+([]:List (Str × Value)).length } :=
  art (X:=X.comp N sc d.heap.objs.size d H3 fp) T hc (fun _ _ z=>z) (Y _ _ _ _) (G _ _ _ _) (Z _ _ _ _) q fin F n f4 w0
 exact codeAny_compStart_list loop (T.self _ 0 _ _ _ n loop)
theorem alx (K:X.calm=true) (L:LcOk X N sc src) (hi:PI X tg iter wi) (M:∀ C i l ex,PG (X.comp N sc C i l ex) tg g) (q:∀ C i l ex,PIf (X.comp N sc C i l ex) ifs tif) (O:∀ C i l ex,PE (X.comp N sc C i l ex) elt te)
  {pins:List (Addr × Obj)} {s:Shared} {σ:St} {H:Hp} {Q:VK} (I:Inv X pins σ H s) (h:tLC src wi g tif te σ H Q) (use:Option (Value->Sem Unit)) (P:Value->Shared->Prop)
  (D:∀ f C H' s' m,Inv X pins σ H' s'->Q (.ref f) H'->s'.heap.Ns C m->H' C=none->C ≠ X.env.locals->(C∈X.ex\/X.s₀.heap.objs.size<=C)->(∀ x c,X.env.cells.lookup x=some c->c ≠ C)->(∀ p∈X.pn ++ pins,p.1 ≠ C) ->
   compPost (model X.prog X.w) X.A X.xe use P (.ref f) C (.ok .next) s')
  (hs:∀ x,foldedSetIterable iter X.env x=pure x) :
  wpAny (model X.prog X.w) X.A (comprehension (.ListComp elt [⟨tg,iter,ifs,0⟩] sc pos) sc X.env (firstIterPos [⟨tg,iter,ifs,0⟩] pos) (newList []) false (eval iter X.env) use) P X.xe s:=by
 refine wpAny_comprehension_free rfl hs (L.clo I.ok) L.kind L.own (thn (hi pins s σ H _ I h) fun v s1 F=>thn F fun z s2 G=>?_)
 obtain ⟨it,fp,tn,J,H2,e,t,T,j,r,y⟩:=G
 subst e
 have a:H2 s2.heap.objs.size=none:=t.hok.fresh (aA6 _)
 obtain ⟨W,⟨R,E⟩,d⟩:=y s2.heap.objs.size a
 have n:∀ b∈fp,b < s2.heap.objs.size:=fun b hb=>by
  obtain ⟨o,B,_⟩:=T.obj _ _ j b hb
  exact aJ2 B
 refine aJ9 ?_
 refine awu K L M q O (H3:=upd H2 s2.heap.objs.size (.lst [])) ?_ T ?_ ?_ E d use P (D _)
 ·exact t.laid (t':=s2.toks) (fun b u e=>aJ1 _ e) (aA6 _) ⟨aG0 _,[],0,.nil,aJ3 _ rfl⟩
 ·exact T.keep _ _ _ j fun b _ o e=>aJ1 _ e
 ·exact fun b hb=>⟨by rw [aae (aB6 (n b hb))];exact (r b hb).1,(r b hb).2⟩
theorem adl (p:X.calm=true) (L:LcOk X N sc src) (hi:PI X tg iter wi) (r:∀ C a c ex,PG (X.comp N sc C a c ex) tg g) (f:∀ C a c ex,PIf (X.comp N sc C a c ex) ifs tif) (t:∀ C a c ex,PE (X.comp N sc C a c ex) elt te)
  (hs:∀ x,foldedSetIterable iter X.env x=pure x:=by intro _;rfl):PE X (.ListComp elt [⟨tg,iter,ifs,0⟩] sc pos) (tLC src wi g tif te):=by
 intro pins s σ H Q I h
 rw [eval_ListComp]
 refine alx p L hi r f t I h none _ (fun d C H' s' m J q hn l j u i n=>?_) hs
 refine ⟨m,hn,fun h' sb=>⟨.ref d,H',?_,rfl,q⟩⟩
 exact J.turned (t':=s'.toks) (fun b o hb e=>sb.extBut b o hb e) l j u i n
end
section
variable {X:Cx} {N:List Str} {tg iter elt:Expr} {ifs:List Expr} {sc:Scope} {src:List (Option Nat)} {wi:TI} {g:TG} {tif:TT} {te:TE} {pos spos px:Pos}
theorem afb {i:Nat} {x:Str} (B:X.N.Nodup) (l:X.N[i]?=some x) (P:Loc X.env.scope x) (K:X.calm=true) (L:LcOk X N sc src) (hi:PI X tg iter wi) (M:∀ C d j ex,PG (X.comp N sc C d j ex) tg g)
  (r:∀ C d j ex,PIf (X.comp N sc C d j ex) ifs tif) (O:∀ C d j ex,PE (X.comp N sc C d j ex) elt te)
  (u:swapsWith (.ListComp elt [⟨tg,iter,ifs,0⟩] sc pos) (some (.Name x px)) spos.line X.env=pure true:=by rfl)
  (hf:X.fn x=true\/X.env.scope.names.lookup x=some .local:=by first | exact .inl rfl | exact .inr rfl | assumption)
  (hs:∀ x,foldedSetIterable iter X.env x=pure x:=by intro _;rfl):PS X (.Assign [.Name x px] (.ListComp elt [⟨tg,iter,ifs,0⟩] sc pos) spos) (tAsg (tLC src wi g tif te) (abc i)):=by
 intro pins s σ H D I h
 rw [exec_Assign_Name_used _ _ _ _ u]
 refine aI9 (wpAny_standAt (aI9 ?_))
 show wpAny _ X.A (do let _ ← comprehension (.ListComp elt [⟨tg,iter,ifs,0⟩] sc pos) sc X.env _ (newList []) false (eval iter X.env) (some (assign (.Name x px) X.env))) _ _ s
 refine aI9 (aJ8 (alx K L hi M r O I h (some (assign (.Name x px) X.env)) (fun _ s'=>SP X pins D .next s') (fun c C H' s' m J q hn y w n f F=>?_) hs) (fun _ s' E=>aJ0 (aJ0 E)) fun _ _ e=>e)
 show wpAny _ X.A (assign (.Name x px) X.env (.ref c)) _ _ _
 refine wpAny_assign_Name (ajq J B l P (v:=.ref c) rfl (fun s2 G ⟨a,sb,ha⟩=>?_) hf)
 have p:C ≠ a:=by
  rcases ha with z | z
  ·rw [z];exact w
  ·exact (f x a z).symm
 refine ⟨m,hn.sameBut sb p,fun h' t=>⟨_,H',?_,q⟩⟩
 exact G.turned (t':=s2.toks) (fun b o hb e=>t.extBut b o hb e) y w n f F
end
section
variable {g:TG} {tif:TT} {te:TE} {acc:Addr} {Qd:List V->Hp->Prop} {σ0:St} {H0:Hp}
end
section
variable {X:Cx} {N:List Str} {t1 i1 t2 i2 elt:Expr} {f1 f2:List Expr} {sc:Scope} {src:List (Option Nat)} {wi wi2:TI} {g g2:TG} {tif tif2:TT} {te:TE} {pos:Pos}
end
def rLen (K:Frag):List V->Hp->VK->Prop:=fun xs H Q=>∃ p ys,xs=[.ref p]/\(SqL K H p ys\/SqT K H p ys)/\Q (.int ys.length) H
theorem abz {X:Cx}:abd X (.builtin "len") (rLen X.K):=als
def alf:List V->Hp->VK->Prop:=fun xs H Q=>∃ i j,xs=[.int i,.int j]/\Q (.int (if j > i then j else i)) H
def alg:List V->Hp->VK->Prop:=fun xs H Q=>∃ i j,xs=[.int i,.int j]/\Q (.int (if j < i then j else i)) H
theorem ah4 {X:Cx} (a:X.calm=true):abd X (.builtin "max") alf:=ard a
theorem acr {X:Cx} (a:X.calm=true):abd X (.builtin "min") alg:=arf a
def alh:List V->Hp->VK->Prop:=fun xs H Q=>(∃ i,xs=[.int i]/\Q (.int i) H)\/∃ k,xs=[.bl k]/\Q (.int (if k then 1 else 0)) H
theorem ah5 {X:Cx}:abd X (.type "int") alh:=arh
section
variable {σ:St} {H:Hp} {D:Ends} {K:Frag}
theorem aof {i:Nat} {v:V} {Q:St->Hp->Prop} (h:Q (σ.set i (some v)) H):abc i v σ H Q:=h
theorem aru {Q:List V->Hp->Prop} (h:Q [] H):tNil σ H Q:=h
theorem azd {t:TA} {Q:VK} (h:t σ H fun xs a=>xs.length<=sizeLine/\∀ p,a p=none->Q (.ref p) (upd a p (.lst xs))):tLst t σ H Q:=h
theorem arv {i j:Int} {Q:VK} (h:Q (.bl (decide (i=j))) H):rEq (.int i) (.int j) H Q:=by
 have e:decide (V.int i=V.int j)=decide (i=j):=by rw [agf];exact Bool.beq_eq_decide_eq i j
 exact ⟨rfl,by rw [e];exact h⟩
theorem aze {i j:Int} {Q:VK} (h:Q (.bl (!decide (i=j))) H):rNe (.int i) (.int j) H Q:=by
 have e:decide (V.int i=V.int j)=decide (i=j):=by rw [agf];exact Bool.beq_eq_decide_eq i j
 exact ⟨rfl,by rw [e];exact h⟩
theorem azf {i j:Bool} {Q:VK} (h:Q (.bl (decide (i=j))) H):rEq (.bl i) (.bl j) H Q:=by
 have e:decide (V.bl i=V.bl j)=decide (i=j):=by rw [alo];cases i <;> cases j <;> rfl
 exact ⟨rfl,by rw [e];exact h⟩
theorem azg {a:Addr} {xs:List V} {i:Int} {v:V} {Q:VK} (ha:H a=some (.lst xs)) (b:atI xs i=some v) (h:Q v H):rIxL K (.ref a) (.int i) H Q:=⟨a,xs,i,v,rfl,rfl,SqL.of ha,b,h⟩
theorem azh {a:Addr} {xs:List V} {i:Int} {v:V} {Q:VK} (ha:H a=some (.tup xs)) (b:atI xs i=some v) (h:Q v H):rIxT K (.ref a) (.int i) H Q:=⟨a,xs,i,v,rfl,rfl,SqT.of ha,b,h⟩
theorem aog {a:Addr} {xs:List V} {k:Int} {j:Nat} {v:V} {Q:Hp->Prop} (ha:H a=some (.lst xs)) (b:ixN xs.length k=some j) (h:Q (upd H a (.lst (xs.set j v)))):ap3 (.ref a) (.int k) v H Q:=⟨a,xs,k,j,rfl,rfl,ha,b,h⟩
theorem adr {a:Addr} {xs:List V} {y:V} {Q:VK} (ha:H a=some (.lst xs)) (b:xs.length < sizeLine) (h:Q .non (upd H a (.lst (xs ++ [y])))):ade (.ref a) [y] H Q:=⟨a,xs,y,rfl,rfl,ha,b,h⟩
theorem arw {a b:Addr} {xs c:List V} {Q:VK} (ha:H a=some (.lst xs)) (hb:H b=some (.lst c)) (d:xs.length+c.length<=sizeLine) (h:Q .non (upd H a (.lst (xs ++ c)))):aiw (.ref a) [.ref b] H Q:=⟨a,b,xs,c,rfl,rfl,ha,hb,d,h⟩
theorem azi {a b:Addr} {xs c:List V} {Q:VK} (ha:H a=some (.lst xs)) (hb:H b=some (.lst c)) (d:xs.length+c.length<=sizeLine) (h:∀ p,H p=none->Q (.ref p) (upd H p (.lst (xs ++ c)))):rCat (.ref a) (.ref b) H Q:=⟨a,b,xs,c,rfl,rfl,ha,hb,d,h⟩
theorem aoh {a:Addr} {xs:List V} {Q:VK} (ha:H a=some (.lst xs)) (h:Q (.int xs.length) H):rLen K [.ref a] H Q:=⟨a,xs,rfl,.inl (SqL.of ha),h⟩
theorem awv {a:Addr} {xs:List V} {Q:VK} (ha:H a=some (.tup xs)) (h:Q (.int xs.length) H):rLen K [.ref a] H Q:=⟨a,xs,rfl,.inr (SqT.of ha),h⟩
theorem aoi {i j:Int} {Q:VK} (h:Q (.int (if j > i then j else i)) H):alf [.int i,.int j] H Q:=⟨i,j,rfl,h⟩
theorem aoj {i j:Int} {Q:VK} (h:Q (.int (if j < i then j else i)) H):alg [.int i,.int j] H Q:=⟨i,j,rfl,h⟩
theorem aok {k:Bool} {Q:VK} (h:Q (.int (if k then 1 else 0)) H):alh [.bl k] H Q:=.inr ⟨k,rfl,h⟩
theorem aix {c:Prop} [Decidable c] {A B:Prop} (a:c) (h:A):if decide c=true then A else B:=by rw [aD8 a];exact iteT h
theorem aiy {c:Prop} [Decidable c] {A B:Prop} (a:¬ c) (h:B):if decide c=true then A else B:=by rw [aD7 a];exact iteF h
theorem acf {c:Prop} [Decidable c] {A B:Prop} (a:c->A) (b:¬ c->B):if decide c=true then A else B:=by
 by_cases hc:c
 ·exact aix hc (a hc)
 ·exact aiy hc (b hc)
theorem ixN0 {n:Nat}:ixN (n+1) 0=some 0:=by unfold ixN;rw [aF5 (by decide),aF5 (by omega)];rfl
theorem ixN2 {n:Nat}:ixN (n+3) 2=some 2:=by unfold ixN;rw [aF5 (by decide),aF5 (by omega)];rfl
end
structure CallOk (P:Program) (w:World) (K:Frag) (mg:Str->Option Value) (base:Heap) (x:Str) (k:Nat) (ps:List Str) (sp:Sp) (f:Addr) (fd:FuncData):Prop where
 ok:FnOk P w K mg base CX0 k f fd ps sp
 mgx:mg x=some (.ref f)
 kp:keepIn K (.ref f)=true
 bd:Binds K fd ps []
def Can (P:Program) (w:World) (K:Frag) (mg:Str->Option Value) (base:Heap) (x:Str) (k:Nat) (ps:List Str) (sp:Sp):Prop:=∃ f fd,CallOk P w K mg base x k ps sp f fd
structure DefAt (K:Frag) (mg:Str->Option Value) (x:Str) (st:Stmt) (ps:List Str) (f:Addr) (fd:FuncData):Prop where
 fn:Fun K x x st f fd
 mgx:mg x=some (.ref f)
 bd:Binds K fd ps []
theorem DefAt.can {P:Program} {w:World} {K:Frag} {mg:Str->Option Value} {base:Heap} {x:Str} {st:Stmt} {k:Nat} {ps:List Str} {sp:Sp} {f:Addr} {fd:FuncData} (D:DefAt K mg x st ps f fd) (ok:FnOk P w K mg base CX0 k f fd ps sp):Can P w K mg base x k ps sp :=
 ⟨f,fd,ok,D.mgx,D.fn.kp,D.bd⟩
section
variable {X:Cx} {k j:Nat} {ps:List Str} {sp:Sp} {x:Str} {p pos:Pos} {e:Expr} {es:List Expr} {t:TA}
theorem aaf (F:Can X.prog X.w X.K X.mg X.base x k ps sp) (c:Room j X.A) (ha:PA X (e :: es) t) (h:k<=j:=by decide) (d:Gl X x:=by rfl) (b:(x == ("__debug__" : Str))=false:=by decide)
  (g:starEach (e :: es) X.env=(false,eval e X.env) :: starEach es X.env:=by rfl) (a:(backTo pos (starEach es X.env)).any (·.1)=false:=by rfl) :
  PE X (.Call (.Name x p) (e :: es) [] pos) (abf sp [] E0 t):=by
 obtain ⟨f,fd,C⟩:=F
 exact aob C.ok (c.mono h) d C.mgx C.kp C.bd .nil a1h ha b g a
end
theorem abp {X:Cx} {N:List Str} {sc:Scope} {src:List (Option Nat)} (b:sc.kind=.function) (c:sc.names.all (fun y=>y.2 != .cell)=true) (f:sc.names.all (fun y=>y.2 != .local || sc.names.lookup y.1 == some .local)=true)
  (g:sc.names.all (fun y=>y.2 != .free || X.env.kindOf y.1 == some .cell || X.env.kindOf y.1 == some .free)=true) (l:src.length=N.length)
  (d:(List.range src.length).all (fun i=>match src[i]? with | some (some j)=>(match N[i]?,X.N[j]? with | some x,some y=>x == y && sc.names.lookup x == some .free | _,_=>false) | _=>true)=true):LcOk X N sc src:=by
 refine ⟨b,fun y a e=>?_,fun y a e=>?_,fun y a e=>?_,l,fun i j e=>?_⟩
 ·have:=aF4.mp c y a
  rw [e] at this
  exact absurd this (by decide)
 ·have:=aF4.mp f y a
  rw [e] at this
  simpa using this
 ·have:=aF4.mp g y a
  rw [e] at this
  simpa using this
 ·have hi:i < src.length:=(aA1.mp e).1
  have:=aF4.mp d i (aB9.mpr hi)
  rw [e] at this
  dsimp only at this
  cases h7:N[i]? with
  | none=>rw [h7] at this;cases this
  | some x =>
   cases h8:X.N[j]? with
   | none=>rw [h7,h8] at this;cases this
   | some y =>
    rw [h7,h8] at this
    simp only [aH1] at this
    have h:x=y:=by simpa using this.1
    subst h
    exact ⟨x,rfl,rfl,by simpa using this.2⟩
section
variable {σ:St} {H:Hp} {D:Ends} {K:Frag}
theorem azj {a:Addr} {xs:List V} {i:Int} {v:V} {Q:VK} (ha:SqL K H a xs) (b:atI xs i=some v) (h:Q v H):rIxL K (.ref a) (.int i) H Q:=⟨a,xs,i,v,rfl,rfl,ha,b,h⟩
theorem aww {a:Addr} {xs:List V} {Q:VK} (ha:SqL K H a xs) (h:Q (.int xs.length) H):rLen K [.ref a] H Q:=⟨a,xs,rfl,.inl ha,h⟩
theorem arx {Q:Bool->Hp->Prop} (h:Q true H):tYes σ H Q:=h
theorem atv {a:Addr} {xs:List V} {i:Int} {k:Nat} {y:V} {Q:VK} (ha:H a=some (.lst xs)) (c : -(2 ^ 63)<=i) (d:i < 2 ^ 63) (b:seqIndex? i xs.length=some k) (f:xs[k]?=some y) (h:Q y (upd H a (.lst (xs.eraseIdx k)))):ah0 (.ref a) [.int i] H Q :=
 ⟨a,xs,i,k,y,rfl,rfl,ha,c,d,b,f,h⟩
end
end L2
namespace L2
open PySem
theorem ac8:bootBuiltins "len" = some (.builtin "len"):=by decide +kernel
theorem ads:bootBuiltins "max" = some (.builtin "max"):=by decide +kernel
theorem ae0:bootBuiltins "min" = some (.builtin "min"):=by decide +kernel
theorem adt:bootBuiltins "sorted" = some (.builtin "sorted"):=by decide +kernel
theorem aa7:bootBuiltins "isinstance" = some (.builtin "isinstance"):=by decide +kernel
theorem ary:bootBuiltins "all" = some (.builtin "all"):=by decide +kernel
theorem aly:bootBuiltins "int" = some (.type "int"):=by decide +kernel
theorem agk:bootBuiltins "list" = some (.type "list"):=by decide +kernel
theorem azk:bootBuiltins "set" = some (.type "set"):=by decide +kernel
theorem atw:bootBuiltins "tuple" = some (.type "tuple"):=by decide +kernel
theorem awx:bootBuiltins "bool" = some (.type "bool"):=by decide +kernel
theorem azl:bootBuiltins "zip" = some (.type "zip"):=by decide +kernel
end L2
namespace TS
open PySem PyProof.Rows
def aiz:Bool->Keyed->Array Keyed->Nat->Nat->Nat->StateT SortSt Sem (Option Nat):=sortPriv% PySem.Builtin.gallop
def atx:Array Keyed->Array Keyed->StateT SortSt Sem (Array Keyed):=sortPriv% PySem.Builtin.mergeLo
def aty:Array Keyed->Array Keyed->StateT SortSt Sem (Array Keyed):=sortPriv% PySem.Builtin.mergeHi
def alz:Nat->StateT SortSt Sem Bool:=sortPriv% PySem.Builtin.mergeAt
def awy:Nat->Nat->StateT SortSt Sem (Option Nat):=sortPriv% PySem.Builtin.countRun
def atz:Nat->Nat->Nat->StateT SortSt Sem Bool:=sortPriv% PySem.Builtin.binarySort
def a1j:StateT SortSt Sem Unit:=sortPriv% PySem.Builtin.sortRuns
structure Cmp (M:Model) (A:Around) (E:Value->Shared->Prop) (s:Shared) (κ:SortKind) (S:Keyed->Prop) (R:Keyed->Keyed->Bool):Prop where
 ask:∀ x y,S x->S y->∀ (Q:Option Bool->SortSt->Prop) (st:SortSt),kindOf st = κ->Q (some (R x y)) st->wpS M A E s (lt' x y) Q st
 asy:∀ x y,S x->S y->R x y=true->R y x=false
 tr:∀ x y z,S x->S y->S z->R y x=false->R z y=false->R z x=false
section
variable {M:Model} {A:Around} {E:Value->Shared->Prop} {s:Shared} {κ:SortKind} {S:Keyed->Prop} {R:Keyed->Keyed->Bool}
theorem aaw {arr:Array Keyed} {i:Nat} {x:Keyed} {Q:Keyed->SortSt->Prop} {st:SortSt} (a:arr[i]?=some x) (h:Q x st):wpS M A E s (elem' arr i) Q st:=by
 rw [elem'_eq,a]
 exact wpS_pure h
theorem adf {x:String} {Q:Unit->SortSt->Prop} {st:SortSt} (h:Q () st):wpS M A E s (liftM (PySem.rule x):StateT SortSt Sem Unit) Q st :=
 wpS_lift (wpAny_rule ⟨rfl,h⟩)
def bey (left:Bool) (key:Keyed) (arr:Array Keyed) (base i:Nat):StateT SortSt Sem (Option Bool):=do
 let x ← elem' arr (base+i)
 if left=true then lt' x key else do
  let r ← lt' key x
  pure (Option.map (fun b => !b) r)
theorem ajy {left:Bool} {p:Keyed} {arr:Array Keyed} {base n a:Nat} {B:Nat->Bool}
  (hb:∀ i,i < n->∀ (Q:Option Bool->SortSt->Prop) (st:SortSt),kindOf st = κ->Q (some (B i)) st->wpS M A E s (bey left p arr base i) Q st)
  (mono:∀ i j,i < j->j < n->B j=true->B i=true) (hh:a < n) {Q:Option Nat->SortSt->Prop} {st:SortSt} (x:kindOf st = κ)
  (h:∀ k,k<=n->(∀ i,i < k->B i=true)->(∀ i,k<=i->i < n->B i=false)->Q (some k) st):wpS M A E s (aiz left p arr base n a) Q st:=by
 have c:∀ i j,i < j->j < n->B i=false->B j=false:=fun i j y L hi=>by
  cases e:B j with
  | false=>rfl
  | true=>rw [mono i j y L e] at hi;cases hi
 -- the last loop
 have last:∀ (lo hi:Nat) (F:Option (Option Nat) × Nat × Nat->StateT SortSt Sem (Option Nat)),lo<=hi->hi<=n->(∀ i,i < lo->B i=true)->(∀ i,hi<=i->i < n->B i=false) ->
   (∀ lo hi,F (none,lo,hi)=pure (some hi)) ->
   wpS M A E s (forIn [:n] ((none,lo,hi):Option (Option Nat) × Nat × Nat) (fun (_:Nat) z=>if z.2.1 ≥ z.2.2 then pure (ForInStep.done (none,z.2.1,z.2.2)) else bey left p arr base (z.2.1+(z.2.2 - z.2.1) / 2) >>= fun r=>match r with
    | some more=>if more=true then pure (ForInStep.yield (none,z.2.1+(z.2.2 - z.2.1) / 2+1,z.2.2)) else pure (ForInStep.yield (none,z.2.1,z.2.1+(z.2.2 - z.2.1) / 2))
    | _=>pure (ForInStep.done (some none,z.2.1,z.2.2))) >>= F) Q st:=by
  intro lo hi F H I J K C
  refine wpS_bind (wpS_forRange (fun t z st'=>st'=st/\z.1=none/\z.2.1<=z.2.2/\z.2.2<=n/\z.2.2 - z.2.1+t<=n/\(∀ i,i < z.2.1->B i=true)/\(∀ i,z.2.2<=i->i < n->B i=false)) ?_ ?_ ⟨rfl,rfl,H,I,by dsimp only;omega,J,K⟩)
  ·rintro t ⟨o,l,u⟩ st' _ D ⟨rfl,e,q,d,b,g,w⟩
   dsimp only at e q d b g w ⊢
   subst e
   by_cases hlu:l ≥ u
   ·rw [aF5 hlu]
    have:l=u:=by omega
    subst this
    exact wpS_pure (by dsimp only;rw [C];exact wpS_pure (h l d g w))
   ·rw [aF6 hlu]
    have hm:l+(u - l) / 2 < u:=by omega
    refine wpS_bind (hb _ (by omega) _ _ x ?_)
    dsimp only
    cases e:B (l+(u - l) / 2) with
    | true =>
     rw [aF5 rfl]
     refine wpS_pure ⟨rfl,rfl,by dsimp only;omega,d,by dsimp only;omega,fun i hi=>?_,w⟩
     dsimp only at hi
     by_cases hi2:i=l+(u - l) / 2
     ·rw [hi2];exact e
     ·exact mono i _ (by omega) (by omega) e
    | false =>
     rw [aF6 (by simp)]
     refine wpS_pure ⟨rfl,rfl,by dsimp only;omega,by dsimp only;omega,by dsimp only;omega,g,fun i hi hn=>?_⟩
     dsimp only at hi
     by_cases hi2:i=l+(u - l) / 2
     ·rw [hi2];exact e
     ·exact c _ i (by omega) hn e
  ·rintro ⟨o,l,u⟩ st' ⟨rfl,e,q,d,b,g,w⟩
   dsimp only at e q d b g w ⊢
   subst e
   have : l = u := by have:n ≤ max 0 n := by omega
                      omega
   subst this
   rw [C]
   exact wpS_pure (h l d g w)
 refine wpS_bind (f:=fun G=>_) (m:=bey left p arr base a) (hb a hh _ st x ?_)
 dsimp only
 cases e0:B a with
 | true =>
  rw [aF5 rfl]
  refine wpS_bind ?_
  refine wpS_forRange (fun t (z:Option (Option Nat) × Nat × Nat) st'=>st'=st/\z.1=none/\z.2.1 < z.2.2/\a+z.2.1 < n/\B (a+z.2.1)=true/\t+1<=z.2.2) ?_ ?_ ⟨rfl,rfl,by decide,by dsimp only;omega,e0,Nat.le_refl _⟩
  ·rintro t ⟨o,l,u⟩ st' _ D ⟨rfl,e,q,d,b,g⟩
   dsimp only at e q d b g ⊢
   subst e
   by_cases hu:u ≥ n - a
   ·rw [aF5 hu]
    refine wpS_pure ?_
    dsimp only
    refine last _ _ _ (by omega) (by omega) (fun i hi=>?_) (fun i hi hn=>by omega) (fun _ _=>rfl)
    by_cases hi2:i=a+l
    ·rw [hi2];exact b
    ·exact mono i _ (by omega) d b
   ·rw [aF6 hu]
    refine wpS_bind (m:=bey left p arr base (a+u)) (hb _ (by omega) _ _ x ?_)
    dsimp only
    cases e1:B (a+u) with
    | true =>
     rw [aF6 (by decide)]
     exact wpS_pure ⟨rfl,rfl,by dsimp only;omega,by dsimp only;omega,e1,by dsimp only;omega⟩
    | false =>
     rw [aF5 (by decide)]
     refine wpS_pure ?_
     dsimp only
     refine last _ _ _ (by omega) (by omega) (fun i hi=>?_) (fun i hi hn=>?_) (fun _ _=>rfl)
     ·by_cases hi2:i=a+l
      ·rw [hi2];exact b
      ·exact mono i _ (by omega) d b
     ·by_cases hi2:i=a+u
      ·rw [hi2];exact e1
      ·exact c _ i (by omega) hn e1
  ·rintro ⟨o,l,u⟩ st' ⟨rfl,e,q,d,b,g⟩
   dsimp only at e q d b g ⊢
   subst e
   dsimp only
   refine last _ _ _ (by omega) (by omega) (fun i hi=>?_) (fun i hi hn=>by omega) (fun _ _=>rfl)
   by_cases hi2:i=a+l
   ·rw [hi2];exact b
   ·exact mono i _ (by omega) d b
 | false =>
  rw [aF6 (by decide)]
  refine wpS_bind ?_
  refine wpS_forRange (fun t (z:Option (Option Nat) × Nat × Nat) st'=>st'=st/\z.1=none/\z.2.1 < z.2.2/\z.2.1<=a/\B (a - z.2.1)=false/\t+1<=z.2.2) ?_ ?_ ⟨rfl,rfl,by decide,aG0 _,e0,aA6 _⟩
  ·rintro t ⟨o,l,u⟩ st' _ D ⟨rfl,e,q,d,b,g⟩
   dsimp only at e q d b g ⊢
   subst e
   have v:∀ i,a - l<=i->i < n->B i=false:=fun i hi hn=>by
    by_cases hi2:i=a - l
    ·rw [hi2];exact b
    ·exact c _ i (by omega) hn b
   by_cases hu:u ≥ a+1
   ·rw [aF5 hu]
    refine wpS_pure ?_
    dsimp only
    exact last _ _ _ (by omega) (by omega) (fun i hi=>by omega) v (fun _ _=>rfl)
   ·rw [aF6 hu]
    refine wpS_bind (m:=bey left p arr base (a - u)) (hb _ (by omega) _ _ x ?_)
    dsimp only
    cases e1:B (a - u) with
    | true =>
     rw [aF5 rfl]
     refine wpS_pure ?_
     dsimp only
     refine last _ _ _ (by omega) (by omega) (fun i hi=>?_) v (fun _ _=>rfl)
     by_cases hi2:i=a - u
     ·rw [hi2];exact e1
     ·exact mono i _ (by omega) (by omega) e1
    | false =>
     rw [aF6 (by decide)]
     exact wpS_pure ⟨rfl,rfl,by dsimp only;omega,by dsimp only;omega,e1,by dsimp only;omega⟩
  ·rintro ⟨o,l,u⟩ st' ⟨rfl,e,q,d,b,g⟩
   dsimp only at e q d b g ⊢
   subst e
   dsimp only
   refine last _ _ _ (by omega) (by omega) (fun i hi=>by omega) (fun i hi hn=>?_) (fun _ _=>rfl)
   by_cases hi2:i=a - l
   ·rw [hi2];exact b
   ·exact c _ i (by omega) hn b
end
def Srt (R:Keyed->Keyed->Bool) (l:List Keyed):Prop:=l.Pairwise fun x y=>R y x=false
structure Mid (R:Keyed->Keyed->Bool) (L out a b:List Keyed):Prop where
 perm:(out ++ a ++ b).Perm L
 so:Srt R out
 le:∀ x∈out,∀ y∈a ++ b,R y x=false
 sa:Srt R a
 sb:Srt R b
section
variable {R:Keyed->Keyed->Bool} {L out a b p:List Keyed}
theorem Mid.takeA (m:Mid R L out (p ++ a) b) (h:∀ x∈p,∀ y∈b,R y x=false):Mid R L (out ++ p) a b:=by
 have sp:=aC9.mp m.sa
 refine ⟨by have:=m.perm;rw [← aB4] at this;exact this,aC9.mpr ⟨m.so,sp.1,fun x d y c=>m.le x d y (aC7 _ (aC7 _ c))⟩,fun x d y c=>?_,sp.2.1,m.sb⟩
 rcases aA7.mp d with d | d
 ·refine m.le x d y ?_
  rcases aA7.mp c with c | c
  ·exact aC7 _ (aB3 _ c)
  ·exact aB3 _ c
 ·rcases aA7.mp c with c | c
  ·exact sp.2.2 x d y c
  ·exact h x d y c
theorem Mid.takeB (m:Mid R L out a (p ++ b)) (h:∀ x∈p,∀ y∈a,R y x=false):Mid R L (out ++ p) a b:=by
 have sp:=aC9.mp m.sb
 refine ⟨List.Perm.trans ?_ m.perm,aC9.mpr ⟨m.so,sp.1,fun x d y c=>m.le x d y (aB3 _ (aC7 _ c))⟩,fun x d y c=>?_,m.sa,sp.2.1⟩
 ·rw [← aB4 (out ++ a) p b]
  refine List.Perm.append_right b ?_
  rw [aB4,aB4]
  exact List.Perm.append_left out List.perm_append_comm
 ·rcases aA7.mp d with d | d
  ·refine m.le x d y ?_
   rcases aA7.mp c with c | c
   ·exact aC7 _ c
   ·exact aB3 _ (aB3 _ c)
  ·rcases aA7.mp c with c | c
   ·exact h x d y c
   ·exact sp.2.2 x d y c
theorem Mid.done (m:Mid R L out a b) (h:a=[]\/b=[]):(out ++ a ++ b).Perm L/\Srt R (out ++ a ++ b):=by
 refine ⟨m.perm,?_⟩
 rw [aB4]
 refine aC9.mpr ⟨m.so,?_,m.le⟩
 rcases h with h | h
 ·subst h;exact m.sb
 ·subst h;rw [aE9];exact m.sa
theorem Mid.last (m:Mid R L out a b) (h:∀ y∈b,∀ x∈a,R x y=false):(out ++ b ++ a).Perm L/\Srt R (out ++ b ++ a):=by
 refine ⟨List.Perm.trans ?_ m.perm,?_⟩
 ·rw [aB4,aB4]
  exact List.Perm.append_left out List.perm_append_comm
 ·rw [aB4]
  refine aC9.mpr ⟨m.so,aC9.mpr ⟨m.sb,m.sa,h⟩,fun x d y c=>m.le x d y ?_⟩
  rcases aA7.mp c with c | c
  ·exact aB3 _ c
  ·exact aC7 _ c
end
structure Eqv (st st':SortSt):Prop where
 k:kindOf st'=kindOf st
 a:arrOf st'=arrOf st
 p:pendingOf st'=pendingOf st
 f:failedOf st'=failedOf st
theorem Eqv.refl (st:SortSt):Eqv st st:=⟨rfl,rfl,rfl,rfl⟩
theorem Eqv.trans {a b c:SortSt} (h:Eqv a b) (g:Eqv b c):Eqv a c:=⟨g.k.trans h.k,g.a.trans h.a,g.p.trans h.p,g.f.trans h.f⟩
theorem agl (a:Array Keyed) (i:Nat):(a.extract i a.size).toList=a.toList.drop i:=by
 rw [Array.toList_extract];simp only [List.extract_eq_take_drop];exact aF0 (by simp)
theorem ai0 (a:Array Keyed) (i k:Nat):(a.extract i (i+k)).toList=(a.toList.drop i).take k:=by
 rw [Array.toList_extract];simp [List.extract]
theorem abi {a:Array Keyed} {i:Nat} (h:i < a.size):a.toList.drop i=a[i] :: a.toList.drop (i+1):=by
 rw [List.drop_eq_getElem_cons (by simpa using h)];simp
section
variable {M:Model} {A:Around} {E:Value->Shared->Prop} {s:Shared} {κ:SortKind} {S:Keyed->Prop} {R:Keyed->Keyed->Bool}
theorem Cmp.irr {x:Keyed} (C:Cmp M A E s κ S R) (a:S x):R x x=false:=by
 cases e:R x x with
 | false=>rfl
 | true=>have:=C.asy x x a a e;rw [e] at this;cases this
theorem afz (C:Cmp M A E s κ S R) {a:Keyed} {arr:Array Keyed} {base n g:Nat} (f:S a) (H:∀ x∈arr.toList,S x) (hn:base+n<=arr.size) (hs:Srt R ((arr.toList.drop base).take n)) (hh:g < n)
  {Q:Option Nat->SortSt->Prop} {st:SortSt} (N:kindOf st = κ)
  (h:∀ k,k<=n->(∀ x∈(arr.toList.drop base).take k,R a x=false)->(∀ x∈((arr.toList.drop base).take n).drop k,R a x=true)->Q (some k) st) :
  wpS M A E s (aiz false a arr base n g) Q st:=by
 have at':∀ i,i < n->∃ x,arr[base+i]?=some x/\S x/\((arr.toList.drop base).take n)[i]?=some x:=fun i hi=>by
  have p:base+i < arr.size:=by omega
  refine ⟨arr[base+i],aA4 p,H _ (by simp),?_⟩
  rw [aH5 hi,aI2]
  simp [p]
 have l:∀ i j x y,i < j->j < n->arr[base+i]?=some x->arr[base+j]?=some y->R y x=false:=fun i j x y m q ex G=>by
  obtain ⟨U,c,_,b⟩:=at' i (by omega)
  obtain ⟨W,z,_,t⟩:=at' j q
  rw [ex] at c;cases c
  rw [G] at z;cases z
  obtain ⟨O,b⟩:=aA1.mp b
  obtain ⟨K,t⟩:=aA1.mp t
  have:=aG7.mp hs i j O K m
  rw [b,t] at this
  exact this
 refine ajy (κ:=κ) (B:=fun i=>match arr[base+i]? with | some x => !(R a x) | none=>false) (fun i hi T st' u D=>?_) (fun i j m q o=>?_) hh N fun k r I J=>h k r (fun x w=>?_) fun x w=>?_
 ·obtain ⟨x,c,v,_⟩:=at' i hi
  unfold bey
  refine wpS_bind (aaw c ?_)
  rw [aF6 (by decide)]
  refine wpS_bind (C.ask _ _ f v _ _ u ?_)
  refine wpS_pure ?_
  simp only [c] at D
  exact D
 ·obtain ⟨x,c,v,_⟩:=at' i (by omega)
  obtain ⟨y,b,P,_⟩:=at' j q
  simp only [c,b] at o ⊢
  have F:=l i j x y m q c b
  have L:R a y=false:=by simpa using o
  have:=C.tr x y a v P f F L
  simp [this]
 ·obtain ⟨i,hi,e⟩:=List.getElem_of_mem w
  have d:i < k:=by rw [aH0] at hi;omega
  obtain ⟨y,c,_,b⟩:=at' i (by omega)
  have hb:=I i d
  simp only [c] at hb
  have ex:x=y:=by
   have:((arr.toList.drop base).take k)[i]?=some x:=by rw [aA0 hi,e]
   rw [aH5 d] at this
   rw [aH5 (by omega)] at b
   rw [this] at b;exact aC6 b
  subst ex
  simpa using hb
 ·obtain ⟨i,hi,e⟩:=List.getElem_of_mem w
  have d:k+i < n:=by rw [aI7,aH0] at hi;omega
  obtain ⟨y,c,_,b⟩:=at' (k+i) d
  have hb:=J (k+i) (by omega) d
  simp only [c] at hb
  have ex:x=y:=by
   have:(((arr.toList.drop base).take n).drop k)[i]?=some x:=by rw [aA0 hi,e]
   rw [aI2] at this
   rw [this] at b;exact aC6 b
  subst ex
  simpa using hb
theorem ahb (C:Cmp M A E s κ S R) {a:Keyed} {arr:Array Keyed} {base n g:Nat} (f:S a) (H:∀ x∈arr.toList,S x) (hn:base+n<=arr.size) (hs:Srt R ((arr.toList.drop base).take n)) (hh:g < n)
  {Q:Option Nat->SortSt->Prop} {st:SortSt} (L:kindOf st = κ)
  (h:∀ k,k<=n->(∀ x∈(arr.toList.drop base).take k,R x a=true)->(∀ x∈((arr.toList.drop base).take n).drop k,R x a=false)->Q (some k) st) :
  wpS M A E s (aiz true a arr base n g) Q st:=by
 have at':∀ i,i < n->∃ x,arr[base+i]?=some x/\S x/\((arr.toList.drop base).take n)[i]?=some x:=fun i hi=>by
  have p:base+i < arr.size:=by omega
  refine ⟨arr[base+i],aA4 p,H _ (by simp),?_⟩
  rw [aH5 hi,aI2]
  simp [p]
 have m:∀ i j x y,i < j->j < n->arr[base+i]?=some x->arr[base+j]?=some y->R y x=false:=fun i j x y o q ex G=>by
  obtain ⟨T,c,_,b⟩:=at' i (by omega)
  obtain ⟨U,z,_,t⟩:=at' j q
  rw [ex] at c;cases c
  rw [G] at z;cases z
  obtain ⟨N,b⟩:=aA1.mp b
  obtain ⟨K,t⟩:=aA1.mp t
  have:=aG7.mp hs i j N K o
  rw [b,t] at this
  exact this
 refine ajy (κ:=κ) (B:=fun i=>match arr[base+i]? with | some x=>R x a | none=>false) (fun i hi P st' u D=>?_) (fun i j o q l=>?_) hh L fun k r I J=>h k r (fun x w=>?_) fun x w=>?_
 ·obtain ⟨x,c,v,_⟩:=at' i hi
  unfold bey
  refine wpS_bind (aaw c ?_)
  rw [aF5 rfl]
  simp only [c] at D
  exact C.ask _ _ v f _ _ u D
 ·obtain ⟨x,c,v,_⟩:=at' i (by omega)
  obtain ⟨y,b,O,_⟩:=at' j q
  simp only [c,b] at l ⊢
  have F:=m i j x y o q c b
  cases e:R x a with
  | true=>rfl
  | false =>
   have:=C.tr a x y f v O e F
   rw [this] at l;cases l
 ·obtain ⟨i,hi,e⟩:=List.getElem_of_mem w
  have d:i < k:=by rw [aH0] at hi;omega
  obtain ⟨y,c,_,b⟩:=at' i (by omega)
  have hb:=I i d
  simp only [c] at hb
  have ex:x=y:=by
   have:((arr.toList.drop base).take k)[i]?=some x:=by rw [aA0 hi,e]
   rw [aH5 d] at this
   rw [aH5 (by omega)] at b
   rw [this] at b;exact aC6 b
  subst ex
  exact hb
 ·obtain ⟨i,hi,e⟩:=List.getElem_of_mem w
  have d:k+i < n:=by rw [aI7,aH0] at hi;omega
  obtain ⟨y,c,_,b⟩:=at' (k+i) d
  have hb:=J (k+i) (by omega) d
  simp only [c] at hb
  have ex:x=y:=by
   have:(((arr.toList.drop base).take n).drop k)[i]?=some x:=by rw [aA0 hi,e]
   rw [aI2] at this
   rw [this] at b;exact aC6 b
  subst ex
  exact hb
end
section
variable {M:Model} {A:Around} {E:Value->Shared->Prop} {s:Shared} {κ:SortKind} {S:Keyed->Prop} {R:Keyed->Keyed->Bool}
structure Two (S:Keyed->Prop) (R:Keyed->Keyed->Bool) (a b:Array Keyed):Prop where
 ha:∀ x∈a.toList,S x
 hb:∀ x∈b.toList,S x
 sa:Srt R a.toList
 sb:Srt R b.toList
 a0:0 < a.size
 b0:0 < b.size
 first:∀ x∈a.toList,∀ y,b[0]?=some y->R x y=false
 last:∀ y∈b.toList,∀ x,a[a.size - 1]?=some x->R x y=false
def Fin2 (R:Keyed->Keyed->Bool) (a b m:Array Keyed):Prop:=m.toList.Perm (a.toList ++ b.toList)/\Srt R m.toList
structure Lo (S:Keyed->Prop) (R:Keyed->Keyed->Bool) (a b out:Array Keyed) (ia ib:Nat):Prop where
 mid:Mid R (a.toList ++ b.toList) out.toList (a.toList.drop ia) (b.toList.drop ib)
 ia:ia<=a.size
 ib:ib<=b.size
theorem Lo.len {a b out:Array Keyed} {ia ib:Nat} (l:Lo S R a b out ia ib):out.size+(a.size - ia)+(b.size - ib)=a.size+b.size:=by
 have:=l.mid.perm.length_eq
 simp at this
 omega
theorem Lo.doneA {a b out:Array Keyed} {ia ib:Nat} (l:Lo S R a b out ia ib) (h:ib=b.size\/ia=a.size):Fin2 R a b (out ++ a.extract ia ++ b.extract ib):=by
 have:=l.mid.done (by
  rcases h with h | h
  ·right;rw [h];simp
  ·left;rw [h];simp)
 unfold Fin2
 rw [aG6,aG6,agl,agl]
 exact this
theorem arz {a:Array Keyed} {i:Nat} (h:i+1=a.size):a.toList.drop i=[a[a.size - 1]'(by omega)]:=by
 have hi:i < a.size:=by omega
 rw [abi hi]
 have:i=a.size - 1:=by omega
 subst this
 have e:a.toList.drop (a.size - 1+1)=[]:=by
  apply List.drop_eq_nil_of_le
  simp;omega
 rw [e]
theorem Lo.lastA {a b out:Array Keyed} {ia ib:Nat} (T:Two S R a b) (l:Lo S R a b out ia ib) (h:ia+1=a.size):Fin2 R a b (out ++ b.extract ib ++ a.extract ia):=by
 have:=l.mid.last (by
  intro y d x c
  rw [arz h] at c
  have ex:x=a[a.size - 1]'(by omega):=by simpa using c
  refine T.last y (aC4 d) x ?_
  rw [ex]
  exact aA4 _)
 unfold Fin2
 rw [aG6,aG6,agl,agl]
 exact this
theorem aed {x:Keyed} {l:List Keyed} (C:Cmp M A E s κ S R) (h:Srt R (x :: l)) (b:S x):∀ y∈x :: l,R y x=false:=by
 intro y a
 rcases aA9.mp a with e | a
 ·rw [e];exact C.irr b
 ·exact (aI5.mp h).1 y a
theorem Lo.pushB {a b out:Array Keyed} {ia ib:Nat} (C:Cmp M A E s κ S R) (T:Two S R a b) (l:Lo S R a b out ia ib) (hb:ib < b.size) (h:∀ x∈a.toList.drop ia,R x b[ib]=false):Lo S R a b (out.push b[ib]) ia (ib+1):=by
 refine ⟨?_,l.ia,hb⟩
 have m:=l.mid
 rw [abi hb] at m
 rw [Array.toList_push]
 exact m.takeB (p:=[b[ib]]) (fun x d y c=>by
  have:x=b[ib]:=by simpa using d
  rw [this];exact h y c)
theorem Lo.pushA {a b out:Array Keyed} {ia ib:Nat} (l:Lo S R a b out ia ib) (ha:ia < a.size) (h:∀ y∈b.toList.drop ib,R y a[ia]=false):Lo S R a b (out.push a[ia]) (ia+1) ib:=by
 refine ⟨?_,ha,l.ib⟩
 have m:=l.mid
 rw [abi ha] at m
 rw [Array.toList_push]
 exact m.takeA (p:=[a[ia]]) (fun x d y c=>by
  have:x=a[ia]:=by simpa using d
  rw [this];exact h y c)
theorem Lo.runA {a b out:Array Keyed} {ia ib k:Nat} (l:Lo S R a b out ia ib) (d:ia+k<=a.size) (h:∀ x∈(a.toList.drop ia).take k,∀ y∈b.toList.drop ib,R y x=false):Lo S R a b (out ++ a.extract ia (ia+k)) (ia+k) ib:=by
 refine ⟨?_,d,l.ib⟩
 have m:=l.mid
 rw [← aC1 k (a.toList.drop ia)] at m
 rw [aG6,ai0]
 have c:=m.takeA h
 rw [List.drop_drop] at c
 exact c
theorem Lo.runB {a b out:Array Keyed} {ia ib k:Nat} (l:Lo S R a b out ia ib) (d:ib+k<=b.size) (h:∀ x∈(b.toList.drop ib).take k,∀ y∈a.toList.drop ia,R y x=false):Lo S R a b (out ++ b.extract ib (ib+k)) ia (ib+k):=by
 refine ⟨?_,l.ia,d⟩
 have m:=l.mid
 rw [← aC1 k (b.toList.drop ib)] at m
 rw [aG6,ai0]
 have c:=m.takeB h
 rw [List.drop_drop] at c
 exact c
theorem acn {l:List Keyed} {i:Nat} (h:Srt R l):Srt R (l.drop i):=List.Pairwise.sublist (List.drop_sublist i l) h
theorem jpn {α β:Type} {prog : β->StateT SortSt Sem α} {P : β->Prop} {Q : α->SortSt->Prop} {st:SortSt} {G:Prop} (use:(∀ m,P m->wpS M A E s (prog m) Q st)->G) (a:∀ m,P m->wpS M A E s (prog m) Q st):G:=use a
theorem jpn2 {α:Type} {prog:Array Keyed->Nat->StateT SortSt Sem α} {P:Array Keyed->Nat->Prop} {Q : α->SortSt->Prop} {st:SortSt} {G:Prop} (use:(∀ o i,P o i->wpS M A E s (prog o i) Q st)->G) (a:∀ o i,P o i->wpS M A E s (prog o i) Q st):G:=use a
section
variable {ρ β γ δ ε ζ η:Type}
@[elab_as_elim] theorem un5 {J : β->γ->δ->ε->Prop} {G:Option ρ × β × γ × δ × ε->Prop} (z:Option ρ × β × γ × δ × ε) (h:z.1=none/\J z.2.1 z.2.2.1 z.2.2.2.1 z.2.2.2.2) (k:∀ x y u v,J x y u v->G (none,x,y,u,v)):G z:=by
 have e:z=(none,z.2.1,z.2.2.1,z.2.2.2.1,z.2.2.2.2):=by rw [← h.1]
 rw [e];exact k _ _ _ _ h.2
@[elab_as_elim] theorem un6 {J : β->γ->δ->ε->ζ->Prop} {G:Option ρ × β × γ × δ × ε × ζ->Prop} (z:Option ρ × β × γ × δ × ε × ζ) (h:z.1=none/\J z.2.1 z.2.2.1 z.2.2.2.1 z.2.2.2.2.1 z.2.2.2.2.2) (k:∀ x y u v a,J x y u v a->G (none,x,y,u,v,a)):G z:=by
 have e:z=(none,z.2.1,z.2.2.1,z.2.2.2.1,z.2.2.2.2.1,z.2.2.2.2.2):=by rw [← h.1]
 rw [e];exact k _ _ _ _ _ h.2
@[elab_as_elim] theorem un7 {J : β->γ->δ->ε->ζ->η->Prop} {G:Option ρ × β × γ × δ × ε × ζ × η->Prop} (z:Option ρ × β × γ × δ × ε × ζ × η) (h:z.1=none/\J z.2.1 z.2.2.1 z.2.2.2.1 z.2.2.2.2.1 z.2.2.2.2.2.1 z.2.2.2.2.2.2) (k:∀ x y u v a b,J x y u v a b->G (none,x,y,u,v,a,b)):G z:=by
 have e:z=(none,z.2.1,z.2.2.1,z.2.2.2.1,z.2.2.2.2.1,z.2.2.2.2.2.1,z.2.2.2.2.2.2):=by rw [← h.1]
 rw [e];exact k _ _ _ _ _ _ h.2
@[elab_as_elim] theorem unR {κ:Type} {F : ρ->Prop} {J : κ->Prop} {G:Option ρ × κ->Prop} (z:Option ρ × κ) (h:(∃ r,z.1=some r/\F r)\/(z.1=none/\J z.2)) (k1:∀ r x,F r->G (some r,x)) (k2:z.1=none/\J z.2->G z):G z:=by
 rcases h with ⟨r,e,a⟩ | h
 ·have e:z=(some r,z.2):=by rw [← e]
  rw [e];exact k1 _ _ a
 ·exact k2 h
end
theorem aap {c:Prop} [Decidable c] {α:Type} {a b:StateT SortSt Sem α} {Q : α->SortSt->Prop} {st:SortSt} (d:c->wpS M A E s a Q st) (f:¬ c->wpS M A E s b Q st):wpS M A E s (if c then a else b) Q st:=by
 by_cases h:c
 ·rw [aF5 h];exact d h
 ·rw [aF6 h];exact f h
theorem ap6 (C:Cmp M A E s κ S R) {a b:Array Keyed} (T:Two S R a b) {Q:Array Keyed->SortSt->Prop} {st:SortSt} (hk:kindOf st = κ)
  (h:∀ m st',Eqv st st'->Fin2 R a b m->Q m st'):wpS M A E s (atx a b) Q st:=by
 have L:∀ i (h:i < a.size),S a[i]:=fun i h=>T.ha _ (by simp)
 have N:∀ i (h:i < b.size),S b[i]:=fun i h=>T.hb _ (by simp)
 have b0:=T.b0
 have a0:=T.a0
 refine wpS_bind (adf ?_)
 refine wpS_bind (aaw (x:=b[0]'b0) (aA4 b0) ?_)
 have l1:Lo S R a b #[b[0]'b0] 0 1:=by
  have l0:Lo S R a b #[] 0 0:=⟨⟨by simp,List.Pairwise.nil,fun x w=>by simp at w,T.sa,T.sb⟩,aG0 _,aG0 _⟩
  exact l0.pushB C T b0 fun x w=>T.first x (by simpa using w) _ (aA4 b0)
 refine aap (fun e1=>wpS_pure (h _ _ (Eqv.refl _) (l1.doneA (.inl (aG3.mp e1))))) (fun e1=>?_)
 refine aap (fun e2=>wpS_pure (h _ _ (Eqv.refl _) (l1.lastA T (aG3.mp e2)))) (fun e2=>?_)
 replace e1:1 ≠ b.size:=fun q=>e1 (aG3.mpr q)
 replace e2:0+1 ≠ a.size:=fun q=>e2 (aG3.mpr q)
 refine wpS_bind (wpS_get ?_)
 refine wpS_bind (wpS_mono (Q:=fun (z:Option (Array Keyed) × Array Keyed × Nat × Nat × Nat) st'=>Eqv st st'/\∃ r,z.1=some r/\Fin2 R a b r) ?_ ?_)
 ·refine wpS_forRange (fun t (z:Option (Array Keyed) × Array Keyed × Nat × Nat × Nat) st'=>Eqv st st'/\z.1=none/\Lo S R a b z.2.1 z.2.2.1 z.2.2.2.1/\z.2.2.1+1 < a.size/\z.2.2.2.1 < b.size/\t+1<=z.2.1.size) ?_ ?_ ⟨Eqv.refl _,rfl,l1,by dsimp only;omega,by dsimp only;omega,by simp⟩
  ·intro t z a7 _ ht n
   have q1:=n.1
   refine un5 (J:=fun out ia ib _=>Lo S R a b out ia ib/\ia+1 < a.size/\ib < b.size/\t+1<=out.size) z n.2 fun out ia ib mg v=>?_
   dsimp only
   refine wpS_bind (wpS_mono (Q:=fun (z:Option (Array Keyed) × Array Keyed × Nat × Nat × Nat × Nat) st'=>Eqv st st'/\((∃ r,z.1=some r/\Fin2 R a b r)\/(z.1=none/\Lo S R a b z.2.1 z.2.2.1 z.2.2.2.1/\z.2.2.1+1 < a.size/\z.2.2.2.1 < b.size/\t+2<=z.2.1.size))) ?_ ?_)
   ·refine wpS_forRange (fun i (z:Option (Array Keyed) × Array Keyed × Nat × Nat × Nat × Nat) st'=>Eqv st st'/\z.1=none/\Lo S R a b z.2.1 z.2.2.1 z.2.2.2.1/\z.2.2.1+1 < a.size/\z.2.2.2.1 < b.size/\t+1+min i 1<=z.2.1.size) ?_ ?_ ⟨q1,rfl,v.1,v.2.1,v.2.2.1,v.2.2.2⟩
    ·intro i z o _ hi n
     have q:=n.1
     refine un6 (J:=fun out ia ib _ _=>Lo S R a b out ia ib/\ia+1 < a.size/\ib < b.size/\t+1+min i 1<=out.size) z n.2 fun out ia ib ac bc v=>?_
     have l:=v.1
     have G:=v.2.1
     have d:=v.2.2.1
     have a1:=v.2.2.2
     have g:ia < a.size:=Nat.lt_of_succ_lt G
     refine wpS_bind (aaw (x:=b[ib]) (aA4 d) ?_)
     refine wpS_bind (aaw (x:=a[ia]) (aA4 g) ?_)
     refine wpS_bind (C.ask _ _ (N ib d) (L ia g) _ _ (q.k.trans hk) ?_)
     dsimp only
     refine aap (fun er=>?_) (fun er=>?_)
     ·refine wpS_bind (aaw (x:=b[ib]) (aA4 d) ?_)
      have F:Lo S R a b (out.push b[ib]) ia (ib+1):=l.pushB C T d fun x w=>by
       rw [abi g] at w
       have hd:Srt R (a[ia] :: a.toList.drop (ia+1)):=by rw [← abi g];exact acn T.sa
       have sx:S x:=T.ha x (aC4 (i:=ia) (by rw [abi g];exact w))
       exact C.tr _ _ _ (N ib d) (L ia g) sx (C.asy _ _ (N ib d) (L ia g) er) (aed C hd (L ia g) x w)
      refine aap (fun D=>wpS_pure ⟨q,.inl ⟨_,rfl,F.doneA (.inl (aG3.mp D))⟩⟩) (fun D=>?_)
      have hf:ib+1 < b.size/\t+2<=(out.push b[ib]).size:=by
       have X:ib+1 ≠ b.size:=fun q=>D (aG3.mpr q)
       rw [aH9];omega
      refine aap (fun _=>wpS_pure ⟨q,.inr ⟨rfl,F,G,hf⟩⟩) (fun _=>wpS_pure ⟨q,rfl,F,G,hf.1,aD0 (by omega) hf.2⟩)
     ·refine wpS_bind (aaw (x:=a[ia]) (aA4 g) ?_)
      have F:Lo S R a b (out.push a[ia]) (ia+1) ib:=l.pushA g fun y H=>by
       rw [abi d] at H
       have hd:Srt R (b[ib] :: b.toList.drop (ib+1)):=by rw [← abi d];exact acn T.sb
       have sy:S y:=T.hb y (aC4 (i:=ib) (by rw [abi d];exact H))
       exact C.tr _ _ _ (L ia g) (N ib d) sy (eq_false_of_ne_true er) (aed C hd (N ib d) y H)
      refine aap (fun D=>wpS_pure ⟨q,.inl ⟨_,rfl,F.lastA T (aG3.mp D)⟩⟩) (fun D=>?_)
      have hf:ia+1+1 < a.size/\ib < b.size/\t+2<=(out.push a[ia]).size:=by
       have X:ia+1+1 ≠ a.size:=fun q=>D (aG3.mpr q)
       rw [aH9];omega
      refine aap (fun _=>wpS_pure ⟨q,.inr ⟨rfl,F,hf⟩⟩) (fun _=>wpS_pure ⟨q,rfl,F,hf.1,d,aD0 (by omega) hf.2.2⟩)
    ·exact fun z o n=>⟨n.1,.inr ⟨n.2.1,n.2.2.1,n.2.2.2.1,n.2.2.2.2.1,aD0 (by omega) n.2.2.2.2.2⟩⟩
   ·intro z o n
    have W:=n.1
    refine unR (J:=fun y:Array Keyed × Nat × Nat × Nat × Nat=>Lo S R a b y.1 y.2.1 y.2.2.1/\y.2.1+1 < a.size/\y.2.2.1 < b.size/\t+2<=y.1.size) z n.2 (fun r x Z=>wpS_pure ⟨W,r,rfl,Z⟩) fun hN=>?_
    refine un6 (J:=fun out ia ib _ _=>Lo S R a b out ia ib/\ia+1 < a.size/\ib < b.size/\t+2<=out.size) z hN fun out ia ib ac bc v=>?_
    dsimp only
    refine wpS_bind (adf ?_)
    refine wpS_bind (wpS_mono (Q:=fun (z:Option (Array Keyed) × Array Keyed × Nat × Nat × Nat × Nat × Nat) st'=>Eqv st st'/\((∃ r,z.1=some r/\Fin2 R a b r)\/(z.1=none/\Lo S R a b z.2.1 z.2.2.1 z.2.2.2.1/\z.2.2.1+1 < a.size/\z.2.2.2.1 < b.size/\t+2<=z.2.1.size))) ?_ ?_)
    ·refine wpS_forRange (fun i (z:Option (Array Keyed) × Array Keyed × Nat × Nat × Nat × Nat × Nat) st'=>Eqv st st'/\z.1=none/\Lo S R a b z.2.1 z.2.2.1 z.2.2.2.1/\z.2.2.1+1 < a.size/\z.2.2.2.1 < b.size/\t+2<=z.2.1.size) ?_ (fun z o n=>⟨n.1,.inr n.2⟩) ⟨W,rfl,v⟩
     intro i z o _ hi n
     have q:=n.1
     refine un7 (J:=fun out ia ib _ _ _=>Lo S R a b out ia ib/\ia+1 < a.size/\ib < b.size/\t+2<=out.size) z n.2 fun out ia ib mg ac bc v=>?_
     have l:=v.1
     have G:=v.2.1
     have d:=v.2.2.1
     have a1:=v.2.2.2
     dsimp only
     refine' jpn (M:=M) (A:=A) (E:=E) (s:=s) (st:=o) (β:=Nat) (P:=fun _=>True) (prog:=?prog) (fun O=>?use) (fun a4 _=>?pf)
     case use =>
      refine aap (fun hm=>?_) (fun hm=>?_)
      ·generalize mg - 1=m
       exact O m trivial
      ·exact O mg trivial
     refine wpS_bind (wpS_mono (Q:=fun _ K=>Eqv o K) (wpS_modify ⟨rfl,rfl,rfl,rfl⟩) fun _ K I=>?_)
     replace I:=q.trans I
     refine wpS_bind (aaw (x:=b[ib]) (aA4 d) ?_)
     refine wpS_bind (afz C (N ib d) T.ha (by omega) (by rw [aF0 (by simp)];exact acn T.sa) (by omega) (I.k.trans hk) fun k a5 h1 h2=>?_)
     rw [aF0 (by simp),List.drop_drop] at h2
     dsimp only
     refine' jpn2 (M:=M) (A:=A) (E:=E) (s:=s) (st:=K) (P:=fun j c=>Lo S R a b j c ib/\c+1 < a.size/\(∀ x∈a.toList.drop c,R x b[ib]=false)/\t+2<=j.size) (prog:=?prog2) (fun O=>?use2) (fun j c h5=>?pf2)
     case use2 =>
      have u:∀ x∈a.toList.drop (ia+k),R x b[ib]=false:=fun x w=>C.asy _ _ (N ib d) (T.ha x (aC4 w)) (h2 x w)
      refine aap (fun k0=>?_) (fun k0=>?_)
      ·have F:Lo S R a b (out ++ a.extract ia (ia+k)) (ia+k) ib:=l.runA (by omega) fun x w y H=>by
        rw [abi d] at H
        have hd:Srt R (b[ib] :: b.toList.drop (ib+1)):=by rw [← abi d];exact acn T.sb
        have sy:S y:=T.hb y (aC4 (i:=ib) (by rw [abi d];exact H))
        exact C.tr _ _ _ (T.ha x (aC4 (aC0 w))) (N ib d) sy (h1 x w) (aed C hd (N ib d) y H)
       refine aap (fun D=>wpS_pure ⟨I,.inl ⟨_,rfl,F.lastA T (aG3.mp D)⟩⟩) (fun D=>?_)
       refine aap (fun e4=>wpS_pure ⟨I,.inl ⟨_,rfl,F.doneA (.inr (aG3.mp e4))⟩⟩) (fun e4=>?_)
       have U:Lo S R a b (out ++ a.extract ia (ia+k)) (ia+k) ib/\ia+k+1 < a.size/\(∀ x∈a.toList.drop (ia+k),R x b[ib]=false)/\t+2<=(out ++ a.extract ia (ia+k)).size:=by
        have X:ia+k+1 ≠ a.size:=fun q=>D (aG3.mpr q)
        have a6:ia+k ≠ a.size:=fun q=>e4 (aG3.mpr q)
        exact ⟨F,by omega,u,by rw [Array.size_append];omega⟩
       revert U
       clear D e4 F u
       generalize out ++ a.extract ia (ia+k)=j
       generalize ia+k=c
       intro U
       exact O j c U
      ·have:k=0:=by omega
       rw [this] at u
       exact O out ia ⟨l,G,u,a1⟩
     have l3:=h5.1
     have Y:=h5.2.1
     have a2:=h5.2.2.1
     have a3:=h5.2.2.2
     have f:c < a.size:=Nat.lt_of_succ_lt Y
     refine wpS_bind (aaw (x:=b[ib]) (aA4 d) ?_)
     have l4:=l3.pushB C T d a2
     refine aap (fun e5=>wpS_pure ⟨I,.inl ⟨_,rfl,l4.doneA (.inl (aG3.mp e5))⟩⟩) (fun e5=>?_)
     replace e5:ib+1 ≠ b.size:=fun q=>e5 (aG3.mpr q)
     refine wpS_bind (aaw (x:=a[c]) (aA4 f) ?_)
     refine wpS_bind (ahb C (L c f) T.hb (by omega) (by rw [aF0 (by simp)];exact acn T.sb) (by omega) (I.k.trans hk) fun k2 a9 h3 h4=>?_)
     rw [aF0 (by simp),List.drop_drop] at h4
     dsimp only
     refine' jpn2 (M:=M) (A:=A) (E:=E) (s:=s) (st:=K) (P:=fun p B=>Lo S R a b p c B/\B < b.size/\(∀ y∈b.toList.drop B,R y a[c]=false)/\t+2<=p.size) (prog:=?prog3) (fun O=>?use3) (fun p B h6=>?pf3)
     case use3 =>
      refine aap (fun k0=>?_) (fun k0=>?_)
      ·have hd:Srt R (a[c] :: a.toList.drop (c+1)):=by rw [← abi f];exact acn T.sa
       have l5:Lo S R a b (j.push b[ib] ++ b.extract (ib+1) (ib+1+k2)) c (ib+1+k2):=l4.runB (by omega) fun x w y H=>by
        rw [abi f] at H
        have sy:S y:=T.ha y (aC4 (i:=c) (by rw [abi f];exact H))
        have sx:S x:=T.hb x (aC4 (aC0 w))
        exact C.tr _ _ _ sx (L c f) sy (C.asy _ _ sx (L c f) (h3 x w)) (aed C hd (L c f) y H)
       refine aap (fun e6=>wpS_pure ⟨I,.inl ⟨_,rfl,l5.doneA (.inl (aG3.mp e6))⟩⟩) (fun e6=>?_)
       have U:Lo S R a b (j.push b[ib] ++ b.extract (ib+1) (ib+1+k2)) c (ib+1+k2)/\ib+1+k2 < b.size/\(∀ y∈b.toList.drop (ib+1+k2),R y a[c]=false)/\t+2<=(j.push b[ib] ++ b.extract (ib+1) (ib+1+k2)).size:=by
        have a8:ib+1+k2 ≠ b.size:=fun q=>e6 (aG3.mpr q)
        exact ⟨l5,by omega,h4,by rw [Array.size_append,aH9];omega⟩
       revert U
       clear e6 l5 hd
       generalize j.push b[ib] ++ b.extract (ib+1) (ib+1+k2)=p
       generalize ib+1+k2=B
       intro U
       exact O p B U
      ·have:k2=0:=by omega
       rw [this] at h4
       exact O (j.push b[ib]) (ib+1) ⟨l4,by omega,h4,by rw [aH9];omega⟩
     refine wpS_bind (aaw (x:=a[c]) (aA4 f) ?_)
     have l7:=h6.1.pushA f h6.2.2.1
     refine aap (fun e7=>wpS_pure ⟨I,.inl ⟨_,rfl,l7.lastA T (aG3.mp e7)⟩⟩) (fun e7=>?_)
     have hf:c+1+1 < a.size/\B < b.size/\t+2<=(p.push a[c]).size:=by
      have b1:c+1+1 ≠ a.size:=fun q=>e7 (aG3.mpr q)
      have h7:=h6.2.2.2
      exact ⟨by omega,h6.2.1,by rw [aH9];omega⟩
     exact aap (fun _=>wpS_pure ⟨I,.inr ⟨rfl,l7,hf⟩⟩) (fun _=>wpS_pure ⟨I,rfl,l7,hf⟩)
    ·intro z o n
     have W:=n.1
     refine unR (J:=fun y:Array Keyed × Nat × Nat × Nat × Nat × Nat=>Lo S R a b y.1 y.2.1 y.2.2.1/\y.2.1+1 < a.size/\y.2.2.1 < b.size/\t+2<=y.1.size) z n.2 (fun r x Z=>wpS_pure ⟨W,r,rfl,Z⟩) fun hN=>?_
     refine un7 (J:=fun out ia ib _ _ _=>Lo S R a b out ia ib/\ia+1 < a.size/\ib < b.size/\t+2<=out.size) z hN fun out ia ib mg ac bc v=>?_
     dsimp only
     refine wpS_bind (wpS_modify ?_)
     exact wpS_pure ⟨W.trans ⟨rfl,rfl,rfl,rfl⟩,rfl,v⟩
  ·intro z o n
   exfalso
   have h1:=n.2.2.1.len
   have h2:=n.2.2.2
   have:a.size+b.size<=max 0 (a.size+b.size):=by omega
   omega
 ·intro z o n
  have W:=n.1
  exact unR (J:=fun _=>False) z (.inl n.2) (fun r x Z=>wpS_pure (h r o W Z)) fun hN=>hN.2.elim
end
structure MidH (R:Keyed->Keyed->Bool) (L a b tl:List Keyed):Prop where
 perm:(a ++ b ++ tl).Perm L
 so:Srt R tl
 le:∀ x∈a ++ b,∀ y∈tl,R y x=false
 sa:Srt R a
 sb:Srt R b
section
variable {R:Keyed->Keyed->Bool} {L tl a b p:List Keyed}
theorem MidH.takeA (m:MidH R L (a ++ p) b tl) (h:∀ x∈b,∀ y∈p,R y x=false):MidH R L a b (p ++ tl):=by
 have sp:=aC9.mp m.sa
 refine ⟨List.Perm.trans ?_ m.perm,aC9.mpr ⟨sp.2.1,m.so,fun x c y d=>m.le x (aC7 _ (aB3 _ c)) y d⟩,fun x c y d=>?_,sp.1,m.sb⟩
 ·rw [← aB4,aB4 a p b,aB4 a b p]
  exact List.Perm.append_right tl (List.Perm.append_left a List.perm_append_comm)
 ·rcases aA7.mp d with d | d
  ·rcases aA7.mp c with c | c
   ·exact sp.2.2 x c y d
   ·exact h x c y d
  ·refine m.le x ?_ y d
   rcases aA7.mp c with c | c
   ·exact aC7 _ (aC7 _ c)
   ·exact aB3 _ c
theorem MidH.takeB (m:MidH R L a (b ++ p) tl) (h:∀ x∈a,∀ y∈p,R y x=false):MidH R L a b (p ++ tl):=by
 have sp:=aC9.mp m.sb
 refine ⟨by have:=m.perm;simp only [aB4] at this ⊢;exact this,aC9.mpr ⟨sp.2.1,m.so,fun x c y d=>m.le x (aB3 _ (aB3 _ c)) y d⟩,fun x c y d=>?_,m.sa,sp.1⟩
 rcases aA7.mp d with d | d
 ·rcases aA7.mp c with c | c
  ·exact h x c y d
  ·exact sp.2.2 x c y d
 ·refine m.le x ?_ y d
  rcases aA7.mp c with c | c
  ·exact aC7 _ c
  ·exact aB3 _ (aC7 _ c)
theorem MidH.done (m:MidH R L a b tl) (h:a=[]\/b=[]):(a ++ b ++ tl).Perm L/\Srt R (a ++ b ++ tl):=by
 refine ⟨m.perm,aC9.mpr ⟨?_,m.so,m.le⟩⟩
 rcases h with h | h
 ·subst h;exact m.sb
 ·subst h;rw [aE9];exact m.sa
theorem MidH.first (m:MidH R L a b tl) (h:∀ y∈b,∀ x∈a,R x y=false):(b ++ a ++ tl).Perm L/\Srt R (b ++ a ++ tl):=by
 refine ⟨List.Perm.trans (List.Perm.append_right tl List.perm_append_comm) m.perm,aC9.mpr ⟨aC9.mpr ⟨m.sb,m.sa,h⟩,m.so,fun x c y d=>m.le x ?_ y d⟩⟩
 rcases aA7.mp c with c | c
 ·exact aB3 _ c
 ·exact aC7 _ c
end
theorem ab8 {a:Array Keyed} {i:Nat} (c:0 < i) (h:i<=a.size):a.toList.take i=a.toList.take (i - 1) ++ [a[i - 1]'(by omega)]:=by
 obtain ⟨j,rfl⟩:∃ j,i=j+1:=⟨i - 1,by omega⟩
 rw [List.take_succ]
 have b:j < a.size:=by omega
 simp [b]
theorem ali (a:Array Keyed) (k:Nat):(a.extract 0 k).toList=a.toList.take k:=by
 rw [Array.toList_extract];simp [List.extract]
theorem al0 (a:Array Keyed) (k n:Nat):(a.extract k n).toList=(a.toList.take n).drop k:=by
 rw [Array.toList_extract];simp [List.extract,List.drop_take]
section
variable {M:Model} {A:Around} {E:Value->Shared->Prop} {s:Shared} {κ:SortKind} {S:Keyed->Prop} {R:Keyed->Keyed->Bool}
structure Hi (S:Keyed->Prop) (R:Keyed->Keyed->Bool) (a b out:Array Keyed) (na nb:Nat):Prop where
 mid:MidH R (a.toList ++ b.toList) (a.toList.take na) (b.toList.take nb) out.toList.reverse
 na:na<=a.size
 nb:nb<=b.size
theorem Hi.len {a b out:Array Keyed} {na nb:Nat} (l:Hi S R a b out na nb):out.size+na+nb=a.size+b.size:=by
 have:=l.mid.perm.length_eq
 have c:=l.na
 have d:=l.nb
 simp at this
 omega
theorem Hi.doneA {a b out:Array Keyed} {na nb:Nat} (l:Hi S R a b out na nb) (h:na=0\/nb=0):Fin2 R a b (a.extract 0 na ++ b.extract 0 nb ++ out.reverse):=by
 have:=l.mid.done (by
  rcases h with h | h
  ·left;rw [h];simp
  ·right;rw [h];simp)
 unfold Fin2
 rw [aG6,aG6,ali,ali,Array.toList_reverse]
 exact this
theorem Hi.firstB {a b out:Array Keyed} {na nb:Nat} (T:Two S R a b) (l:Hi S R a b out na nb) (h:nb=1):Fin2 R a b (b.extract 0 nb ++ a.extract 0 na ++ out.reverse):=by
 subst h
 have:=l.mid.first (by
  intro y c x f
  rw [ab8 (by decide) l.nb] at c
  have d:y=b[0]'T.b0:=by simpa using c
  exact T.first x (aC0 f) y (by rw [d];exact aA4 _))
 unfold Fin2
 rw [aG6,aG6,ali,ali,Array.toList_reverse]
 exact this
theorem ab4 {l:List Keyed} {i:Nat} (h:Srt R l):Srt R (l.take i):=List.Pairwise.sublist (List.take_sublist i l) h
theorem adu {x:Keyed} {l:List Keyed} (C:Cmp M A E s κ S R) (h:Srt R (l ++ [x])) (b:S x):∀ y∈l ++ [x],R x y=false:=by
 intro y a
 rcases aA7.mp a with a | a
 ·exact (aC9.mp h).2.2 y a x (by simp)
 ·have:y=x:=by simpa using a
  rw [this];exact C.irr b
theorem Hi.pushA {a b out:Array Keyed} {na nb:Nat} (l:Hi S R a b out na nb) (f:0 < na) (h:∀ x∈b.toList.take nb,R (a[na - 1]'(by have:=l.na;omega)) x=false):Hi S R a b (out.push (a[na - 1]'(by have:=l.na;omega))) (na - 1) nb:=by
 refine ⟨?_,by have:=l.na;omega,l.nb⟩
 have m:=l.mid
 rw [ab8 f l.na] at m
 rw [Array.toList_push,List.reverse_append]
 exact m.takeA (p:=[_]) (fun x d y c=>by
  rw [aC2.mp c];exact h x d)
theorem Hi.pushB {a b out:Array Keyed} {na nb:Nat} (l:Hi S R a b out na nb) (f:0 < nb) (h:∀ x∈a.toList.take na,R (b[nb - 1]'(by have:=l.nb;omega)) x=false):Hi S R a b (out.push (b[nb - 1]'(by have:=l.nb;omega))) na (nb - 1):=by
 refine ⟨?_,l.na,by have:=l.nb;omega⟩
 have m:=l.mid
 rw [ab8 f l.nb] at m
 rw [Array.toList_push,List.reverse_append]
 exact m.takeB (p:=[_]) (fun x d y c=>by
  rw [aC2.mp c];exact h x d)
theorem Hi.runA {a b out:Array Keyed} {na nb k:Nat} (l:Hi S R a b out na nb) (d:k<=na) (h:∀ x∈b.toList.take nb,∀ y∈(a.toList.take na).drop k,R y x=false):Hi S R a b (out ++ (a.extract k na).reverse) k nb:=by
 refine ⟨?_,by have:=l.na;omega,l.nb⟩
 have m:=l.mid
 rw [← aC1 k (a.toList.take na)] at m
 rw [aG6,Array.toList_reverse,al0,List.reverse_append,List.reverse_reverse]
 have c:=m.takeA h
 rw [List.take_take,Nat.min_eq_left d] at c
 exact c
theorem Hi.runB {a b out:Array Keyed} {na nb k:Nat} (l:Hi S R a b out na nb) (d:k<=nb) (h:∀ x∈a.toList.take na,∀ y∈(b.toList.take nb).drop k,R y x=false):Hi S R a b (out ++ (b.extract k nb).reverse) na k:=by
 refine ⟨?_,l.na,by have:=l.nb;omega⟩
 have m:=l.mid
 rw [← aC1 k (b.toList.take nb)] at m
 rw [aG6,Array.toList_reverse,al0,List.reverse_append,List.reverse_reverse]
 have c:=m.takeB h
 rw [List.take_take,Nat.min_eq_left d] at c
 exact c
theorem ap7 (C:Cmp M A E s κ S R) {a b:Array Keyed} (T:Two S R a b) {Q:Array Keyed->SortSt->Prop} {st:SortSt} (hk:kindOf st = κ)
  (h:∀ m st',Eqv st st'->Fin2 R a b m->Q m st'):wpS M A E s (aty a b) Q st:=by
 have I:∀ i (h:i < a.size),S a[i]:=fun i h=>T.ha _ (by simp)
 have L:∀ i (h:i < b.size),S b[i]:=fun i h=>T.hb _ (by simp)
 have b0:=T.b0
 have a0:=T.a0
 have la:a.size - 1 < a.size:=by omega
 refine wpS_bind (adf ?_)
 refine wpS_bind (aaw (x:=a[a.size - 1]'la) (aA4 la) ?_)
 have l1:Hi S R a b #[a[a.size - 1]'la] (a.size - 1) b.size:=by
  have l0:Hi S R a b #[] a.size b.size:=⟨⟨by simp [aF0],List.Pairwise.nil,fun x j y Z=>by simp at Z,ab4 T.sa,ab4 T.sb⟩,aA6 _,aA6 _⟩
  exact l0.pushA a0 fun x j=>T.last x (aC0 j) _ (aA4 la)
 refine aap (fun e1=>wpS_pure (h _ _ (Eqv.refl _) (l1.doneA (.inl (aG3.mp e1))))) (fun e1=>?_)
 refine aap (fun e2=>wpS_pure (h _ _ (Eqv.refl _) (l1.firstB T (aG3.mp e2)))) (fun e2=>?_)
 replace e1:a.size - 1 ≠ 0:=fun q=>e1 (aG3.mpr q)
 replace e2:b.size ≠ 1:=fun q=>e2 (aG3.mpr q)
 refine wpS_bind (wpS_get ?_)
 have b2:∀ {na nb:Nat} (F:0 < na) (K:na<=a.size) (X:0 < nb) (W:nb<=b.size),R (b[nb - 1]'(by omega)) (a[na - 1]'(by omega))=true->∀ x∈b.toList.take nb,R (a[na - 1]'(by omega)) x=false:=fun {na nb} F K X W er x j=>by
  have sx:S x:=T.hb x (aC0 j)
  have hs:Srt R (b.toList.take (nb - 1) ++ [b[nb - 1]'(by omega)]):=by rw [← ab8 X W];exact ab4 T.sb
  rw [ab8 X W] at j
  exact C.tr _ _ _ sx (L _ _) (I _ _) (adu C hs (L _ _) x j) (C.asy _ _ (L _ _) (I _ _) er)
 have b1:∀ {na nb:Nat} (F:0 < na) (K:na<=a.size) (X:0 < nb) (W:nb<=b.size),R (b[nb - 1]'(by omega)) (a[na - 1]'(by omega))=false->∀ x∈a.toList.take na,R (b[nb - 1]'(by omega)) x=false:=fun {na nb} F K X W er x j=>by
  have sx:S x:=T.ha x (aC0 j)
  have hs:Srt R (a.toList.take (na - 1) ++ [a[na - 1]'(by omega)]):=by rw [← ab8 F K];exact ab4 T.sa
  rw [ab8 F K] at j
  exact C.tr _ _ _ sx (I _ _) (L _ _) (adu C hs (I _ _) x j) er
 refine wpS_bind (wpS_mono (Q:=fun (z:Option (Array Keyed) × Nat × Nat × Array Keyed × Nat) st'=>Eqv st st'/\∃ r,z.1=some r/\Fin2 R a b r) ?_ ?_)
 ·refine wpS_forRange (fun t (z:Option (Array Keyed) × Nat × Nat × Array Keyed × Nat) st'=>Eqv st st'/\z.1=none/\Hi S R a b z.2.2.2.1 z.2.1 z.2.2.1/\0 < z.2.1/\1 < z.2.2.1/\t+1<=z.2.2.2.1.size) ?_ ?_ ⟨Eqv.refl _,rfl,l1,by dsimp only;omega,by dsimp only;omega,by simp⟩
  ·intro t z b7 _ ht f
   have q1:=f.1
   refine un5 (J:=fun na nb out _=>Hi S R a b out na nb/\0 < na/\1 < nb/\t+1<=out.size) z f.2 fun na nb out mg o=>?_
   dsimp only
   refine wpS_bind (wpS_mono (Q:=fun (z:Option (Array Keyed) × Nat × Nat × Array Keyed × Nat × Nat) st'=>Eqv st st'/\((∃ r,z.1=some r/\Fin2 R a b r)\/(z.1=none/\Hi S R a b z.2.2.2.1 z.2.1 z.2.2.1/\0 < z.2.1/\1 < z.2.2.1/\t+2<=z.2.2.2.1.size))) ?_ ?_)
   ·refine wpS_forRange (fun i (z:Option (Array Keyed) × Nat × Nat × Array Keyed × Nat × Nat) st'=>Eqv st st'/\z.1=none/\Hi S R a b z.2.2.2.1 z.2.1 z.2.2.1/\0 < z.2.1/\1 < z.2.2.1/\t+1+min i 1<=z.2.2.2.1.size) ?_ ?_ ⟨q1,rfl,o.1,o.2.1,o.2.2.1,o.2.2.2⟩
    ·intro i z g _ hi f
     have q:=f.1
     refine un6 (J:=fun na nb out _ _=>Hi S R a b out na nb/\0 < na/\1 < nb/\t+1+min i 1<=out.size) z f.2 fun na nb out ac bc o=>?_
     have l:=o.1
     have u:=o.2.1
     have a3:=o.2.2.1
     have a4:=o.2.2.2
     have ia:na - 1 < a.size:=by have:=l.na;omega
     have ib:nb - 1 < b.size:=by have:=l.nb;omega
     refine wpS_bind (aaw (x:=b[nb - 1]) (aA4 ib) ?_)
     refine wpS_bind (aaw (x:=a[na - 1]) (aA4 ia) ?_)
     refine wpS_bind (C.ask _ _ (L _ ib) (I _ ia) _ _ (q.k.trans hk) ?_)
     dsimp only
     refine aap (fun er=>?_) (fun er=>?_)
     ·refine wpS_bind (aaw (x:=a[na - 1]) (aA4 ia) ?_)
      have D:=l.pushA u (b2 u l.na (by omega) l.nb er)
      refine aap (fun v=>wpS_pure ⟨q,.inl ⟨_,rfl,D.doneA (.inl (aG3.mp v))⟩⟩) (fun v=>?_)
      have hf:0 < na - 1/\1 < nb/\t+2<=(out.push a[na - 1]).size:=by
       have a2:na - 1 ≠ 0:=fun q=>v (aG3.mpr q)
       rw [aH9];omega
      exact aap (fun _=>wpS_pure ⟨q,.inr ⟨rfl,D,hf⟩⟩) (fun _=>wpS_pure ⟨q,rfl,D,hf.1,a3,aD0 (by omega) hf.2.2⟩)
     ·refine wpS_bind (aaw (x:=b[nb - 1]) (aA4 ib) ?_)
      have D:=l.pushB (by omega) (b1 u l.na (by omega) l.nb (eq_false_of_ne_true er))
      refine aap (fun v=>wpS_pure ⟨q,.inl ⟨_,rfl,D.firstB T (aG3.mp v)⟩⟩) (fun v=>?_)
      have hf:1 < nb - 1/\t+2<=(out.push b[nb - 1]).size:=by
       have a2:nb - 1 ≠ 1:=fun q=>v (aG3.mpr q)
       rw [aH9];omega
      exact aap (fun _=>wpS_pure ⟨q,.inr ⟨rfl,D,u,hf⟩⟩) (fun _=>wpS_pure ⟨q,rfl,D,u,hf.1,aD0 (by omega) hf.2⟩)
    ·exact fun z g f=>⟨f.1,.inr ⟨f.2.1,f.2.2.1,f.2.2.2.1,f.2.2.2.2.1,aD0 (by omega) f.2.2.2.2.2⟩⟩
   ·intro z g f
    have q2:=f.1
    refine unR (J:=fun y:Nat × Nat × Array Keyed × Nat × Nat=>Hi S R a b y.2.2.1 y.1 y.2.1/\0 < y.1/\1 < y.2.1/\t+2<=y.2.2.1.size) z f.2 (fun r x hr=>wpS_pure ⟨q2,r,rfl,hr⟩) fun hN=>?_
    refine un6 (J:=fun na nb out _ _=>Hi S R a b out na nb/\0 < na/\1 < nb/\t+2<=out.size) z hN fun na nb out ac bc o=>?_
    dsimp only
    refine wpS_bind (adf ?_)
    refine wpS_bind (wpS_mono (Q:=fun (z:Option (Array Keyed) × Nat × Nat × Array Keyed × Nat × Nat × Nat) st'=>Eqv st st'/\((∃ r,z.1=some r/\Fin2 R a b r)\/(z.1=none/\Hi S R a b z.2.2.2.1 z.2.1 z.2.2.1/\0 < z.2.1/\1 < z.2.2.1/\t+2<=z.2.2.2.1.size))) ?_ ?_)
    ·refine wpS_forRange (fun i (z:Option (Array Keyed) × Nat × Nat × Array Keyed × Nat × Nat × Nat) st'=>Eqv st st'/\z.1=none/\Hi S R a b z.2.2.2.1 z.2.1 z.2.2.1/\0 < z.2.1/\1 < z.2.2.1/\t+2<=z.2.2.2.1.size) ?_ (fun z g f=>⟨f.1,.inr f.2⟩) ⟨q2,rfl,o⟩
     intro i z g _ hi f
     have q:=f.1
     refine un7 (J:=fun na nb out _ _ _=>Hi S R a b out na nb/\0 < na/\1 < nb/\t+2<=out.size) z f.2 fun na nb out mg ac bc o=>?_
     have l:=o.1
     have u:=o.2.1
     have a3:=o.2.2.1
     have a4:=o.2.2.2
     have b4:=l.na
     have N:=l.nb
     have ib:nb - 1 < b.size:=by omega
     dsimp only
     refine' jpn (M:=M) (A:=A) (E:=E) (s:=s) (st:=g) (β:=Nat) (P:=fun _=>True) (prog:=?prog) (fun O=>?use) (fun b6 _=>?pf)
     case use =>
      refine aap (fun hm=>?_) (fun hm=>?_)
      ·generalize mg - 1=m
       exact O m trivial
      ·exact O mg trivial
     refine wpS_bind (wpS_mono (Q:=fun _ H=>Eqv g H) (wpS_modify ⟨rfl,rfl,rfl,rfl⟩) fun _ H G=>?_)
     replace G:=q.trans G
     refine wpS_bind (aaw (x:=b[nb - 1]) (aA4 ib) ?_)
     refine wpS_bind (afz C (L _ ib) T.ha (by omega) (by rw [List.drop_zero];exact ab4 T.sa) (by omega) (G.k.trans hk) fun k a5 F K=>?_)
     rw [List.drop_zero] at F K
     dsimp only
     generalize hac:na - k=ac2
     refine' jpn2 (M:=M) (A:=A) (E:=E) (s:=s) (st:=H) (P:=fun d c=>Hi S R a b d c nb/\0 < c/\(∀ x∈a.toList.take c,R b[nb - 1] x=false)/\t+2<=d.size) (prog:=?prog2) (fun O=>?use2) (fun d c h5=>?pf2)
     case use2 =>
      refine aap (fun k0=>?_) (fun k0=>?_)
      ·have a7:Srt R (b.toList.take (nb - 1) ++ [b[nb - 1]]):=by rw [← ab8 (by omega) N];exact ab4 T.sb
       have D:Hi S R a b (out ++ (a.extract k na).reverse) k nb:=l.runA a5 fun x j y Z=>by
        have sx:S x:=T.hb x (aC0 j)
        have sy:S y:=T.ha y (aC0 (aC4 Z))
        rw [ab8 (by omega) N] at j
        exact C.tr _ _ _ sx (L _ ib) sy (adu C a7 (L _ ib) x j) (C.asy _ _ (L _ ib) sy (K y Z))
       refine aap (fun v=>wpS_pure ⟨G,.inl ⟨_,rfl,D.doneA (.inl (aG3.mp v))⟩⟩) (fun v=>?_)
       have Y:Hi S R a b (out ++ (a.extract k na).reverse) k nb/\0 < k/\(∀ x∈a.toList.take k,R b[nb - 1] x=false)/\t+2<=(out ++ (a.extract k na).reverse).size:=by
        have a2:k ≠ 0:=fun q=>v (aG3.mpr q)
        exact ⟨D,by omega,F,by rw [Array.size_append];omega⟩
       revert Y
       clear v D
       generalize out ++ (a.extract k na).reverse=d
       generalize k=c
       intro Y
       exact O d c Y
      ·have:k=na:=by omega
       rw [this] at F
       exact O out na ⟨l,u,F,a4⟩
     have l3:=h5.1
     have B:=h5.2.1
     have a8:=h5.2.2.1
     have b5:=h5.2.2.2
     have w:=l3.na
     have ia:c - 1 < a.size:=by omega
     refine wpS_bind (aaw (x:=b[nb - 1]) (aA4 ib) ?_)
     have l4:=l3.pushB (by omega) a8
     refine aap (fun e5=>wpS_pure ⟨G,.inl ⟨_,rfl,l4.firstB T (aG3.mp e5)⟩⟩) (fun e5=>?_)
     replace e5:nb - 1 ≠ 1:=fun q=>e5 (aG3.mpr q)
     refine wpS_bind (aaw (x:=a[c - 1]) (aA4 ia) ?_)
     refine wpS_bind (ahb C (I _ ia) T.hb (by omega) (by rw [List.drop_zero];exact ab4 T.sb) (by omega) (G.k.trans hk) fun k2 a9 X W=>?_)
     rw [List.drop_zero] at X W
     dsimp only
     generalize hbc:nb - 1 - k2=bc2
     refine' jpn2 (M:=M) (A:=A) (E:=E) (s:=s) (st:=H) (P:=fun n p=>Hi S R a b n c p/\1 < p/\(∀ x∈b.toList.take p,R a[c - 1] x=false)/\t+2<=n.size) (prog:=?prog3) (fun O=>?use3) (fun n p h6=>?pf3)
     case use3 =>
      have a1:∀ x∈b.toList.take k2,R a[c - 1] x=false:=fun x j=>C.asy _ _ (T.hb x (aC0 j)) (I _ ia) (X x j)
      refine aap (fun k0=>?_) (fun k0=>?_)
      ·have a6:Srt R (a.toList.take (c - 1) ++ [a[c - 1]]):=by rw [← ab8 B w];exact ab4 T.sa
       have l5:Hi S R a b (d.push b[nb - 1] ++ (b.extract k2 (nb - 1)).reverse) c k2:=l4.runB a9 fun x j y Z=>by
        have sx:S x:=T.ha x (aC0 j)
        have sy:S y:=T.hb y (aC0 (aC4 Z))
        rw [ab8 B w] at j
        exact C.tr _ _ _ sx (I _ ia) sy (adu C a6 (I _ ia) x j) (W y Z)
       refine aap (fun e6=>wpS_pure ⟨G,.inl ⟨_,rfl,l5.firstB T (aG3.mp e6)⟩⟩) (fun e6=>?_)
       refine aap (fun U=>wpS_pure ⟨G,.inl ⟨_,rfl,l5.doneA (.inr (aG3.mp U))⟩⟩) (fun U=>?_)
       have Y:Hi S R a b (d.push b[nb - 1] ++ (b.extract k2 (nb - 1)).reverse) c k2/\1 < k2/\(∀ x∈b.toList.take k2,R a[c - 1] x=false)/\t+2<=(d.push b[nb - 1] ++ (b.extract k2 (nb - 1)).reverse).size:=by
        have b8:k2 ≠ 1:=fun q=>e6 (aG3.mpr q)
        have b3:k2 ≠ 0:=fun q=>U (aG3.mpr q)
        exact ⟨l5,by omega,a1,by rw [Array.size_append,aH9];omega⟩
       revert Y
       clear e6 U l5
       generalize d.push b[nb - 1] ++ (b.extract k2 (nb - 1)).reverse=n
       generalize k2=p
       intro Y
       exact O n p Y
      ·have:k2=nb - 1:=by omega
       rw [this] at a1
       exact O (d.push b[nb - 1]) (nb - 1) ⟨l4,by omega,a1,by rw [aH9];omega⟩
     refine wpS_bind (aaw (x:=a[c - 1]) (aA4 ia) ?_)
     have l7:=h6.1.pushA B h6.2.2.1
     refine aap (fun U=>wpS_pure ⟨G,.inl ⟨_,rfl,l7.doneA (.inl (aG3.mp U))⟩⟩) (fun U=>?_)
     have hf:0 < c - 1/\1 < p/\t+2<=(n.push a[c - 1]).size:=by
      have b3:c - 1 ≠ 0:=fun q=>U (aG3.mpr q)
      have h7:=h6.2.2.2
      exact ⟨by omega,h6.2.1,by rw [aH9];omega⟩
     exact aap (fun _=>wpS_pure ⟨G,.inr ⟨rfl,l7,hf⟩⟩) (fun _=>wpS_pure ⟨G,rfl,l7,hf⟩)
    ·intro z g f
     have q2:=f.1
     refine unR (J:=fun y:Nat × Nat × Array Keyed × Nat × Nat × Nat=>Hi S R a b y.2.2.1 y.1 y.2.1/\0 < y.1/\1 < y.2.1/\t+2<=y.2.2.1.size) z f.2 (fun r x hr=>wpS_pure ⟨q2,r,rfl,hr⟩) fun hN=>?_
     refine un7 (J:=fun na nb out _ _ _=>Hi S R a b out na nb/\0 < na/\1 < nb/\t+2<=out.size) z hN fun na nb out mg ac bc o=>?_
     dsimp only
     refine wpS_bind (wpS_modify ?_)
     exact wpS_pure ⟨q2.trans ⟨rfl,rfl,rfl,rfl⟩,rfl,o⟩
  ·intro z g f
   exfalso
   have F:=f.2.2.1.len
   have K:=f.2.2.2
   have:a.size+b.size<=max 0 (a.size+b.size):=by omega
   omega
 ·intro z g f
  have q2:=f.1
  exact unR (J:=fun _=>False) z (.inl f.2) (fun r x hr=>wpS_pure (h r g q2 hr)) fun hN=>hN.2.elim
end
theorem ajz (base:Nat):∀ (b v u w:List Keyed) (j:Nat) (xs:Array Keyed),xs.toList=u ++ v ++ w->v.length=b.length->u.length=base+j ->
  ((b.zipIdx j).foldl (fun a x=>match x with | (p,j)=>a.setIfInBounds (base+j) p) xs).toList=u ++ b ++ w
 | [],v,u,w,j,xs,h1,h2,h3=>by
  have:v=[]:=aH2 h2
  subst this
  exact h1
 | m :: b,v,u,w,j,xs,h1,h2,h3=>by
  cases v with
  | nil=>cases h2
  | cons y v =>
   rw [List.zipIdx_cons,List.foldl_cons]
   have c:=ajz base b v (u ++ [m]) w (j+1) (xs.setIfInBounds (base+j) m) (by
    rw [Array.toList_setIfInBounds,h1,← h3]
    simp [List.set_append]) (by simpa using h2) (by simp [h3];omega)
   rw [c]
   simp
section
variable {M:Model} {A:Around} {E:Value->Shared->Prop} {s:Shared} {κ:SortKind} {S:Keyed->Prop} {R:Keyed->Keyed->Bool}
theorem awz {σ:Type} {st st' : σ} {Q:PUnit->σ->Prop} (h:Q ⟨⟩ st'):wpS M A E s (set st':StateT σ Sem PUnit) Q st:=by
 unfold wpS
 rw [StateT.run_set]
 exact aJ0 ⟨rfl,h⟩
theorem ap8 (C:Cmp M A E s κ S R) {st:SortSt} {i pw pw2:Nat} {pre a b g:List Keyed} (D:(arrOf st).toList=pre ++ a ++ b ++ g) (hS:∀ x∈(arrOf st).toList,S x)
  (a6:(pendingOf st)[i]?=some (pre.length,a.length,pw)) (a0:(pendingOf st)[i+1]?=some (pre.length+a.length,b.length,pw2)) (na:a ≠ []) (nb:b ≠ []) (P:Srt R a) (O:Srt R b) (hk:kindOf st = κ) (hf:failedOf st=none)
  {Q:Bool->SortSt->Prop}
  (h:∀ st' m,kindOf st' = κ->failedOf st'=none->pendingOf st'=((pendingOf st).setIfInBounds i (pre.length,a.length+b.length,pw)).eraseIdxIfInBounds (i+1)->(arrOf st').toList=pre ++ m ++ g->m.Perm (a ++ b)->Srt R m->Q true st') :
  wpS M A E s (alz i) Q st:=by
 have la:0 < a.length:=aF9.mpr na
 have lb:0 < b.length:=aF9.mpr nb
 have J:∀ x∈a,S x:=fun x c=>hS x (by rw [D];simp [c])
 have L:∀ x∈b,S x:=fun x c=>hS x (by rw [D];simp [c])
 have lx:(arrOf st).size=pre.length+a.length+b.length+g.length:=by
  have:=congrArg List.length D
  simp at this
  omega
 have v:((arrOf st).toList.drop pre.length).take a.length=a:=by rw [D];simp [aB4]
 have B:((arrOf st).toList.drop (pre.length+a.length)).take b.length=b:=by
  rw [show pre.length+a.length=(pre ++ a).length by simp,D,aB4 (pre ++ a),List.drop_left,List.take_left]
 refine wpS_bind (wpS_get ?_)
 rw [a6,a0]
 refine wpS_bind (wpS_mono (Q:=fun _ n=>kindOf n = κ/\failedOf n=none/\arrOf n=arrOf st/\pendingOf n=((pendingOf st).setIfInBounds i (pre.length,a.length+b.length,pw)).eraseIdxIfInBounds (i+1)) (awz ⟨hk,hf,rfl,rfl⟩) fun _ n ⟨k1,f1,a1,p1⟩=>?_)
 obtain ⟨b0,bt,Z⟩:∃ b0 bt,b=b0 :: bt:=by cases b with | nil=>exact absurd rfl nb | cons x r=>exact ⟨x,r,rfl⟩
 have a5:(arrOf st)[pre.length+a.length]?=some b0:=by
  rw [← aD6,D,Z]
  simp [List.getElem?_append]
 have u:S b0:=L b0 (by rw [Z];simp)
 have w:∀ y∈b,R y b0=false:=fun y d=>by rw [Z] at d O;exact aed C O u y d
 -- nothing is laid together: the two stand in order already
 have plain:(∀ x∈a,∀ y∈b,R y x=false)->∀ st',Eqv n st'->Q true st':=fun hc st' q=>by
  refine h st' (a ++ b) (q.k.trans k1) (q.f.trans f1) (q.p.trans p1) ?_ (List.Perm.refl _) (aC9.mpr ⟨P,O,hc⟩)
  rw [q.a,a1,D]
  simp [aB4]
 refine wpS_bind (aaw a5 ?_)
 refine wpS_bind (afz C u hS (by omega) (by rw [v];exact P) la k1 fun k a4 h1 h2=>?_)
 rw [v] at h2
 have G:∀ x∈a.take k,R b0 x=false:=fun x c=>h1 x (by
  have:((arrOf st).toList.drop pre.length).take k=a.take k:=by rw [← v,List.take_take,Nat.min_eq_left a4]
  rw [this];exact c)
 dsimp only
 refine aap (fun e=>?_) (fun e=>?_)
 ·have e':a.length - k=0:=by simpa using e
  refine wpS_pure (plain (fun x c y d=>?_) n (Eqv.refl _))
  have:a.take k=a:=aF0 (by omega)
  rw [this] at G
  exact C.tr x b0 y (J x c) u (L y d) (G x c) (w y d)
 ·have e':a.length - k ≠ 0:=by simpa using e
  -- the last of a
  have K:pre.length+k+(a.length - k) - 1=pre.length+(a.length - 1):=by omega
  have o:a.length - 1 < a.length:=by omega
  have a2:(arrOf st)[pre.length+k+(a.length - k) - 1]?=some (a[a.length - 1]'o):=by
   rw [← aD6,D,K]
   simp [List.getElem?_append,o,aB4]
  have Sl:S (a[a.length - 1]'o):=J _ (aF1 o)
  have t:a=a.take (a.length - 1) ++ [a[a.length - 1]'o]:=by
   have:=List.take_succ (l:=a) (i:=a.length - 1)
   rw [show a.length - 1+1=a.length by omega,aG8] at this
   simpa [o] using this
  have H:∀ x∈a,R (a[a.length - 1]'o) x=false:=fun x c=>by
   have hs:Srt R (a.take (a.length - 1) ++ [a[a.length - 1]'o]):=by rw [← t];exact P
   exact adu C hs Sl x (by rw [← t];exact c)
  refine wpS_bind (aaw a2 ?_)
  refine wpS_bind (ahb C Sl hS (by omega) (by rw [B];exact O) (by omega) k1 fun j a8 h3 h4=>?_)
  rw [B] at h4
  have W:((arrOf st).toList.drop (pre.length+a.length)).take j=b.take j:=by rw [← B,List.take_take,Nat.min_eq_left a8]
  rw [W] at h3
  dsimp only
  refine aap (fun e2=>?_) (fun e2=>?_)
  ·have U:j=0:=by simpa using e2
   subst U
   refine wpS_pure (plain (fun x c y d=>?_) n (Eqv.refl _))
   exact C.tr x _ y (J x c) Sl (L y d) (H x c) (h4 y (by simpa using d))
  ·have U:j ≠ 0:=by simpa using e2
   have ex:((arrOf st).extract (pre.length+k) (pre.length+a.length)).toList=a.drop k:=by
    rw [al0,D]
    simp [aB4,List.take_append,List.drop_append]
   have N:((arrOf st).extract (pre.length+a.length) (pre.length+a.length+j)).toList=b.take j:=by
    rw [ai0,W]
   generalize hX:(arrOf st).extract (pre.length+k) (pre.length+a.length)=X at ex
   generalize hY:(arrOf st).extract (pre.length+a.length) (pre.length+a.length+j)=Y at N
   have sX:X.size=a.length - k:=by have:=congrArg List.length ex;simpa using this
   have sY:Y.size=j:=by have:=congrArg List.length N;simp at this;omega
   have T:Two S R X Y:=by
    refine ⟨fun x c=>J x (aC4 (by rw [← ex];exact c)),fun x c=>L x (aC0 (by rw [← N];exact c)),by rw [ex];exact acn P,by rw [N];exact ab4 O,by omega,by omega,fun x c y d=>?_,fun y d x c=>?_⟩
    ·rw [← aD6,N,Z] at d
     have:y=b0:=by
      obtain ⟨j',rfl⟩:∃ j',j=j'+1:=⟨j - 1,by omega⟩
      simpa using d.symm
     rw [this]
     rw [ex] at c
     exact C.asy _ _ u (J x (aC4 c)) (h2 x c)
    ·rw [← aD6,ex,sX] at c
     rw [aI2,show k+(a.length - k - 1)=a.length - 1 by omega,aA0 o] at c
     cases c
     rw [N] at d
     exact C.asy _ _ (L y (aC0 d)) Sl (h3 y d)
   have fin:∀ (m:Array Keyed) (st':SortSt),Eqv n st'->Fin2 R X Y m->wpS M A E s (do
     modify fun (z:SortSt)=>setArr z (List.foldl (fun a x=>match x with | (p,j)=>a.setIfInBounds (pre.length+k+j) p) (arrOf z) m.toList.zipIdx)
     let z ← get
     pure (failedOf z).isNone) Q st':=by
    intro m st' q ⟨F,ms⟩
    rw [ex,N] at F
    refine wpS_bind (wpS_modify ?_)
    refine wpS_bind (wpS_get ?_)
    refine wpS_pure ?_
    show Q (failedOf st').isNone _
    rw [q.f,f1]
    have lm:m.toList.length=(a.drop k).length+(b.take j).length:=by rw [F.length_eq,aB1]
    have I:∀ z∈m.toList,z∈a.drop k\/z∈b.take j:=fun z hz=>aA7.mp (F.mem_iff.mp hz)
    refine h _ (a.take k ++ m.toList ++ b.drop j) (q.k.trans k1) (q.f.trans f1) (q.p.trans p1) ?_ ?_ ?_
    ·show (List.foldl _ (arrOf st') m.toList.zipIdx).toList=_
     have base:(arrOf st').toList=(pre ++ a.take k) ++ (a.drop k ++ b.take j) ++ (b.drop j ++ g):=by
      rw [q.a,a1,D]
      have t1:=aC1 k a
      have t2:=aC1 j b
      calc pre ++ a ++ b ++ g=pre ++ (a.take k ++ a.drop k) ++ (b.take j ++ b.drop j) ++ g:=by rw [t1,t2]
       _=_:=by simp only [aB4]
     have:=ajz (pre.length+k) m.toList (a.drop k ++ b.take j) (pre ++ a.take k) (b.drop j ++ g) 0 (arrOf st') base (by rw [aB1,lm]) (by rw [aB1,aH0];omega)
     rw [this]
     simp only [aB4]
    ·have t1:=aC1 k a
     have t2:=aC1 j b
     calc (a.take k ++ m.toList ++ b.drop j).Perm (a.take k ++ (a.drop k ++ b.take j) ++ b.drop j):=List.Perm.append_right _ (List.Perm.append_left _ F)
      _ = a ++ b:=by
       simp only [aB4]
       rw [t2,← aB4,t1]
    ·have a3:Srt R (a.take k ++ a.drop k):=by rw [aC1];exact P
     have a7:Srt R (b.take j ++ b.drop j):=by rw [aC1];exact O
     have ca:=(aC9.mp a3).2.2
     have cb:=(aC9.mp a7).2.2
     refine aC9.mpr ⟨aC9.mpr ⟨ab4 P,ms,fun x c y d=>?_⟩,acn O,fun x c y d=>?_⟩
     ·rcases I y d with d | d
      ·exact ca x c y d
      ·exact C.tr x b0 y (J x (aC0 c)) u (L y (aC0 d)) (G x c) (w y (aC0 d))
     ·have Sy:=L y (aC4 d)
      rcases aA7.mp c with c | c
      ·exact C.tr x b0 y (J x (aC0 c)) u Sy (G x c) (w y (aC4 d))
      ·rcases I x c with c | c
       ·exact C.tr x _ y (J x (aC4 c)) Sl Sy (H x (aC4 c)) (h4 y d)
       ·exact cb x c y d
   refine aap (fun e3=>?_) (fun e3=>?_)
   ·exact wpS_bind (ap6 C T k1 fun m st' q fm=>fin m st' q fm)
   ·exact wpS_bind (ap7 C T k1 fun m st' q fm=>fin m st' q fm)
end
def e (xs:Array Keyed) (k:Nat):Keyed:=(xs[k]?).getD (.none,.none)
theorem ah6 {xs:Array Keyed} {k:Nat} (h:k < xs.size):xs[k]?=some (e xs k):=by
 unfold e;rw [aA4 h];rfl
def Asc (R:Keyed->Keyed->Bool) (xs:Array Keyed) (l h:Nat):Prop:=∀ i j,l<=i->i<=j->j < h->R (e xs j) (e xs i)=false
def Des (R:Keyed->Keyed->Bool) (xs:Array Keyed) (l h:Nat):Prop:=∀ i j,l<=i->i<=j->j < h->R (e xs i) (e xs j)=false
structure Bs (κ:SortKind) (p0:Array (Nat × Nat × Nat)) (a0:Array Keyed) (lo:Nat) (st:SortSt):Prop where
 k:kindOf st = κ
 f:failedOf st=none
 p:pendingOf st=p0
 perm:(arrOf st).toList.Perm a0.toList
 pre:∀ k,k < lo->(arrOf st)[k]?=a0[k]?
theorem at3 {xs:Array Keyed} {src d:Nat} (hs:src < xs.size) (hd:d<=src) (k:Nat):e (bubble xs src d) k=if k=src - d then e xs src else if src - d < k/\k<=src then e xs (k - 1) else e xs k:=by
 unfold e
 rw [getElem?_bubble hs d hd]
 repeat' split
 all_goals rfl
theorem acv {xs:Array Keyed} {i j:Nat} (a:j<=xs.size) (k:Nat):e (mirror xs i j ((j - i) / 2)) k=if i<=k/\k < j then e xs (i+j - 1 - k) else e xs k:=by
 unfold e
 rw [getElem?_mirror_all a]
 split <;> rfl
section
variable {M:Model} {A:Around} {E:Value->Shared->Prop} {s:Shared} {κ:SortKind} {S:Keyed->Prop} {R:Keyed->Keyed->Bool} {p0:Array (Nat × Nat × Nat)} {a0:Array Keyed} {lo:Nat}
theorem Bs.size {st:SortSt} (B:Bs κ p0 a0 lo st):(arrOf st).size=a0.size:=by
 have:=B.perm.length_eq
 simpa using this
theorem Bs.sat {st:SortSt} (B:Bs κ p0 a0 lo st) (b:∀ x∈a0.toList,S x) {k:Nat} (a:k < a0.size):S (e (arrOf st) k):=by
 have h:=ah6 (xs:=arrOf st) (k:=k) (by rw [B.size];exact a)
 refine b _ (B.perm.mem_iff.mp ?_)
 rw [← aD6] at h
 exact aA2 h
theorem af0 (C:Cmp M A E s κ S R) (b:∀ x∈a0.toList,S x) {st:SortSt} (B:Bs κ p0 a0 lo st) {i j:Nat} (hi:i < a0.size) (a:j < a0.size) {Q:Option Bool->SortSt->Prop} (h:Q (some (R (e (arrOf st) i) (e (arrOf st) j))) st) :
  wpS M A E s (ltAt' i j) Q st:=by
 rw [ltAt'_eq]
 refine wpS_bind (wpS_get ?_)
 refine wpS_bind (aaw (ah6 (by rw [B.size];exact hi)) ?_)
 refine wpS_bind (aaw (ah6 (by rw [B.size];exact a)) ?_)
 exact C.ask _ _ (B.sat b hi) (B.sat b a) _ _ B.k h
theorem at4 (C:Cmp M A E s κ S R) {xs:Array Keyed} {l h:Nat} (b:∀ k,k<=h->S (e xs k)) (g:l < h) (a:Asc R xs l h) (n:R (e xs h) (e xs (h - 1))=false):Asc R xs l (h+1):=by
 intro i j c d f
 by_cases hj:j=h
 ·subst hj
  by_cases hi:i=j
  ·subst hi;exact C.irr (b _ (aA6 _))
  ·exact C.tr _ (e xs (j - 1)) _ (b _ (by omega)) (b _ (by omega)) (b _ (by omega)) (a i (j - 1) c (by omega) (by omega)) n
 ·exact a i j c d (by omega)
theorem afc (C:Cmp M A E s κ S R) {xs:Array Keyed} {l h:Nat} (b:∀ k,k<=h->S (e xs k)) (g:l < h) (a:Des R xs l h) (n:R (e xs (h - 1)) (e xs h)=false):Des R xs l (h+1):=by
 intro i j c d f
 by_cases hj:j=h
 ·subst hj
  by_cases hi:i=j
  ·subst hi;exact C.irr (b _ (aA6 _))
  ·exact C.tr _ (e xs (j - 1)) _ (b _ (by omega)) (b _ (by omega)) (b _ (by omega)) n (a i (j - 1) c (by omega) (by omega))
 ·exact a i j c d (by omega)
theorem Bs.set {st:SortSt} (B:Bs κ p0 a0 lo st) {xs:Array Keyed} (b:xs.Perm (arrOf st)) (c:∀ k,k < lo->xs[k]?=(arrOf st)[k]?):Bs κ p0 a0 lo (setArr st xs) :=
 ⟨B.k,B.f,B.p,b.toList.trans B.perm,fun k a=>(c k a).trans (B.pre k a)⟩
theorem ap9 (C:Cmp M A E s κ S R) (D:∀ x∈a0.toList,S x) {st:SortSt} (B:Bs κ p0 a0 lo st) {n ok:Nat} (hn:lo+n<=a0.size) (hok:ok<=n) (P:1<=n) (hs:Asc R (arrOf st) lo (lo+ok)) {Q:Bool->SortSt->Prop}
  (h:∀ st',Bs κ p0 a0 lo st'->Asc R (arrOf st') lo (lo+n)->Q true st'):wpS M A E s (atz lo n ok) Q st:=by
 refine wpS_bind (wpS_mono (Q:=fun (z:Option Bool × Unit) st'=>z.1=none/\Bs κ p0 a0 lo st'/\Asc R (arrOf st') lo (lo+n)) ?_ ?_)
 ·refine wpS_forRange (fun k (z:Option Bool × Unit) st'=>z.1=none/\Bs κ p0 a0 lo st'/\Asc R (arrOf st') lo (lo+k)) ?_ ?_ ⟨rfl,B,fun i j m f w=>?_⟩
  ·rintro k ⟨o,_⟩ b K O ⟨rfl,q,as⟩
   have d:∀ j,j < lo+n->S (e (arrOf b) j):=fun j G=>q.sat D (by omega)
   refine wpS_bind (wpS_mono (Q:=fun (z:Option Bool × Nat × Nat) st'=>st'=b/\z.1=none/\z.2.1<=k/\(∀ i,i < z.2.1->R (e (arrOf b) (lo+k)) (e (arrOf b) (lo+i))=false)/\(∀ i,z.2.1<=i->i < k->R (e (arrOf b) (lo+k)) (e (arrOf b) (lo+i))=true)) ?_ ?_)
   ·refine wpS_forRange (fun t (z:Option Bool × Nat × Nat) st'=>st'=b/\z.1=none/\z.2.1<=z.2.2/\z.2.2<=k/\z.2.2 - z.2.1+t<=k/\(∀ i,i < z.2.1->R (e (arrOf b) (lo+k)) (e (arrOf b) (lo+i))=false)/\(∀ i,z.2.2<=i->i < k->R (e (arrOf b) (lo+k)) (e (arrOf b) (lo+i))=true)) ?_ ?_
     ⟨rfl,rfl,Nat.zero_le _,Nat.le_refl _,by dsimp only;omega,fun i hi=>absurd hi (Nat.not_lt_zero _),fun i m f=>by dsimp only at m;omega⟩
    ·rintro t ⟨o,l,r⟩ a _ T ⟨rfl,c,m,f,w,p,g⟩
     dsimp only at c m f w p g ⊢
     subst c
     refine aap (fun y=>?_) (fun y=>?_)
     ·have:l=r:=by omega
      subst this
      exact wpS_pure ⟨rfl,rfl,f,p,g⟩
     ·have hm:(l+r) / 2 < r:=by omega
      have F:l<=(l+r) / 2:=by omega
      refine wpS_bind (af0 C D q (by omega) (by omega) ?_)
      dsimp only
      cases er:R (e (arrOf a) (lo+k)) (e (arrOf a) (lo+(l+r) / 2)) with
      | true =>
       rw [aF5 rfl]
       refine wpS_pure ⟨rfl,rfl,F,by dsimp only;omega,by dsimp only;omega,p,fun i u H=>?_⟩
       dsimp only at u
       cases e2:R (e (arrOf a) (lo+k)) (e (arrOf a) (lo+i)) with
       | true=>rfl
       | false =>
        have:=C.tr _ _ _ (d _ (by omega)) (d _ (by omega)) (d _ (by omega)) (as (lo+(l+r) / 2) (lo+i) (by omega) (by omega) (by omega)) e2
        rw [this] at er;cases er
      | false =>
       rw [aF6 (by decide)]
       refine wpS_pure ⟨rfl,rfl,by dsimp only;omega,f,by dsimp only;omega,fun i u=>?_,g⟩
       dsimp only at u
       exact C.tr _ _ _ (d _ (by omega)) (d _ (by omega)) (d _ (by omega)) (as (lo+i) (lo+(l+r) / 2) (by omega) (by omega) (by omega)) er
    ·rintro ⟨o,l,r⟩ a ⟨rfl,c,m,f,w,p,g⟩
     dsimp only at c m f w p g ⊢
     have : l = r := by have:k ≤ max 0 k := by omega
                        omega
     subst this
     exact ⟨rfl,c,f,p,g⟩
   ·rintro ⟨o,l,r⟩ a ⟨rfl,c,m,p,g⟩
    dsimp only at c m p g ⊢
    subst c
    dsimp only
    have v:lo+k < (arrOf a).size:=by rw [q.size];omega
    have hd:(lo+k) - (lo+l)=k - l:=by omega
    refine wpS_bind (wpS_modify ?_)
    have I:∀ j,e (bubble (arrOf a) (lo+k) (lo+k - (lo+l))) j=if j=lo+l then e (arrOf a) (lo+k) else if lo+l < j/\j<=lo+k then e (arrOf a) (j - 1) else e (arrOf a) j:=fun j=>by
     rw [at3 v (by omega),show lo+k - (lo+k - (lo+l))=lo+l by omega]
    refine wpS_pure ⟨rfl,q.set (bubble_perm _ _ _) (fun j G=>?_),fun i j u H N=>?_⟩
    ·show (bubble (arrOf a) (lo+k) (lo+k - (lo+l)))[j]?=_
     rw [getElem?_bubble v _ (by omega),aF6 (by omega),aF6 (by omega)]
    ·show R (e (bubble (arrOf a) (lo+k) (lo+k - (lo+l))) j) (e (bubble (arrOf a) (lo+k) (lo+k - (lo+l))) i)=false
     rw [I,I]
     have L:∀ j,j < lo+n->S (e (arrOf a) j):=d
     by_cases j1:j=lo+l
     ·rw [aF5 j1]
      by_cases i4:i=lo+l
      ·rw [aF5 i4];exact C.irr (d _ (by omega))
      ·rw [aF6 i4,aF6 (by omega)]
       have:=p (i - lo) (by omega)
       rw [show lo+(i - lo)=i by omega] at this
       exact this
     ·rw [aF6 j1]
      by_cases j2:lo+l < j/\j<=lo+k
      ·rw [aF5 j2]
       have J:=g (j - 1 - lo) (by omega) (by omega)
       rw [show lo+(j - 1 - lo)=j - 1 by omega] at J
       by_cases i4:i=lo+l
       ·rw [aF5 i4];exact C.asy _ _ (d _ (by omega)) (d _ (by omega)) J
       ·rw [aF6 i4]
        by_cases i5:lo+l < i/\i<=lo+k
        ·rw [aF5 i5];exact as (i - 1) (j - 1) (by omega) (by omega) (by omega)
        ·rw [aF6 i5];exact as i (j - 1) (by omega) (by omega) (by omega)
      ·rw [aF6 j2,aF6 (by omega),aF6 (by omega)]
       exact as i j (by omega) (by omega) (by omega)
  ·rintro ⟨o,_⟩ b ⟨c,q,as⟩
   exact ⟨c,q,fun i j u H N=>as i j u H (by omega)⟩
  ·by_cases G:j < lo+ok
   ·exact hs i j m f G
   ·have:i=j:=by omega
    subst this
    exact C.irr (B.sat D (by omega))
 ·rintro ⟨o,_⟩ b ⟨c,q,as⟩
  dsimp only at c ⊢
  subst c
  exact wpS_pure (h b q as)
end
def Eqb (R:Keyed->Keyed->Bool) (xs:Array Keyed) (l h:Nat):Prop:=∀ i j,l<=i->i < h->l<=j->j < h->R (e xs i) (e xs j)=false
section
variable {M:Model} {A:Around} {E:Value->Shared->Prop} {s:Shared} {κ:SortKind} {S:Keyed->Prop} {R:Keyed->Keyed->Bool} {p0:Array (Nat × Nat × Nat)} {a0:Array Keyed} {lo:Nat}
theorem aol {α:Type} {prog:StateT SortSt Sem α} {P:SortSt->Prop} {Q : α->SortSt->Prop} {G:Prop} (use:(∀ st,P st->wpS M A E s prog Q st)->G) (a:∀ st,P st->wpS M A E s prog Q st):G:=use a
theorem al1 (C:Cmp M A E s κ S R) (f:∀ x∈a0.toList,S x) {st:SortSt} (B:Bs κ p0 a0 lo st) {a nrem:Nat} (l:1<=a) (i:a<=nrem) (hn:lo+nrem<=a0.size) (as:Asc R (arrOf st) lo (lo+a)) {Q:Option (Option Nat) × Nat->SortSt->Prop}
  (h:∀ n,a<=n->n<=nrem->Asc R (arrOf st) lo (lo+n)->(n < nrem->R (e (arrOf st) (lo+n)) (e (arrOf st) (lo+n - 1))=true)->Q (none,n) st) :
  wpS M A E s (forIn [a:nrem] ((none,a):Option (Option Nat) × Nat) (fun (_:Nat) z=>ltAt' (lo+z.2) (lo+z.2 - 1) >>= fun x=>match x with
   | some smaller=>if smaller=true then pure (ForInStep.done (none,z.2)) else pure (ForInStep.yield (none,z.2+1))
   | _=>pure (ForInStep.done (some none,z.2)))) Q st:=by
 refine wpS_forRange (fun t (z:Option (Option Nat) × Nat) st'=>st'=st/\z=(none,t)/\Asc R (arrOf st) lo (lo+t)) ?_ ?_ ⟨rfl,rfl,as⟩
 ·rintro t ⟨o,n⟩ c g j ⟨rfl,d,b⟩
  cases d
  dsimp only
  refine wpS_bind (af0 C f B (by omega) (by omega) ?_)
  dsimp only
  cases er:R (e (arrOf c) (lo+t)) (e (arrOf c) (lo+t - 1)) with
  | true =>
   rw [aF5 rfl]
   exact wpS_pure (h t g (by omega) b fun _=>er)
  | false =>
   rw [aF6 (by decide)]
   exact wpS_pure ⟨rfl,rfl,at4 C (h:=lo+t) (fun k m=>B.sat f (by omega)) (by omega) b er⟩
 ·rintro ⟨o,n⟩ c ⟨rfl,d,b⟩
  cases d
  rw [show max a nrem=nrem by omega] at b ⊢
  exact h nrem i (aA6 _) b fun z=>absurd z (aG4 _)
theorem at5 (C:Cmp M A E s κ S R) {st:SortSt} (B:Bs κ p0 a0 lo st) {n:Nat} (hn:lo+n<=a0.size) (a:Des R (arrOf st) lo (lo+n)) :
  Bs κ p0 a0 lo (setArr st (mirror (arrOf st) lo (lo+n) ((lo+n - lo) / 2)))/\Asc R (mirror (arrOf st) lo (lo+n) ((lo+n - lo) / 2)) lo (lo+n):=by
 have hz:lo+n<=(arrOf st).size:=by rw [B.size];exact hn
 refine ⟨B.set (mirror_perm _ _ _ _) (fun k f=>by rw [getElem?_mirror_all hz,aF6 (by omega)]),fun i j c d b=>?_⟩
 rw [acv hz,acv hz,aF5 (by omega),aF5 (by omega)]
 exact a _ _ (by omega) (by omega) (by omega)
theorem ai1 (C:Cmp M A E s κ S R) (b:∀ x∈a0.toList,S x) {st:SortSt} (B:Bs κ p0 a0 lo st) {l h m:Nat} (n:lo<=l) (hh:h<=a0.size) (hm:h<=m) (d:m<=a0.size) (a:Des R (arrOf st) lo m) (eq:Eqb R (arrOf st) l h) :
  Bs κ p0 a0 lo (setArr st (mirror (arrOf st) l h ((h - l) / 2)))/\Des R (mirror (arrOf st) l h ((h - l) / 2)) lo m:=by
 have hz:h<=(arrOf st).size:=by rw [B.size];exact hh
 refine ⟨B.set (mirror_perm _ _ _ _) (fun k c=>by rw [getElem?_mirror_all hz,aF6 (by omega)]),fun i j f g p=>?_⟩
 rw [acv hz,acv hz]
 have o:∀ k,k < m->S (e (arrOf st) k):=fun k c=>B.sat b (by omega)
 by_cases c1:l<=i/\i < h
 ·rw [aF5 c1]
  by_cases c2:l<=j/\j < h
  ·rw [aF5 c2]
   exact eq _ _ (by omega) (by omega) (by omega) (by omega)
  ·rw [aF6 c2]
   exact a _ _ (by omega) (by omega) (by omega)
 ·rw [aF6 c1]
  by_cases c2:l<=j/\j < h
  ·rw [aF5 c2]
   exact a _ _ (by omega) (by omega) (by omega)
  ·rw [aF6 c2]
   exact a _ _ (by omega) (by omega) (by omega)
theorem ar0 (C:Cmp M A E s κ S R) (p:∀ x∈a0.toList,S x) {st:SortSt} (B:Bs κ p0 a0 lo st) {nrem:Nat} (h1:1<=nrem) (hn:lo+nrem<=a0.size) {Q:Option Nat->SortSt->Prop}
  (h:∀ st' n,Bs κ p0 a0 lo st'->1<=n->n<=nrem->Asc R (arrOf st') lo (lo+n)->Q (some n) st'):wpS M A E s (awy lo nrem) Q st:=by
 refine wpS_bind (al1 C p B (aA6 1) h1 hn (fun i j r u Z=>?_) fun n n1 n2 as br=>?_)
 ·have:i=j:=by omega
  subst this
  exact C.irr (B.sat p (by omega))
 dsimp only
 refine aap (fun en=>wpS_pure (h st n B n1 n2 as)) (fun en=>?_)
 have a6:n ≠ nrem:=by simpa using en
 have W:n < nrem:=by omega
 have J:=br W
 refine aol (M:=M) (A:=A) (E:=E) (s:=s) (α:=Option Nat) (Q:=Q) (P:=fun w=>Bs κ p0 a0 lo w/\Des R (arrOf w) lo (lo+n)/\R (e (arrOf w) (lo+n)) (e (arrOf w) (lo+n - 1))=true) (prog:=?prog) (fun L=>?use) (fun w ⟨N,X,a3⟩=>?pf)
 case use =>
  refine aap (fun g1=>?_) (fun g1=>?_)
  ·refine wpS_bind (af0 C p B (by omega) (by omega) ?_)
   dsimp only
   cases er:R (e (arrOf st) lo) (e (arrOf st) (lo+n - 1)) with
   | true=>rw [aF5 rfl];exact wpS_pure (h st n B n1 n2 as)
   | false =>
    rw [aF6 (by decide)]
    -- all of them are equal
    have c:∀ k,k < lo+n->S (e (arrOf st) k):=fun k K=>B.sat p (by omega)
    have all:Eqb R (arrOf st) lo (lo+n):=fun i j r u D y=>by
     -- j<=last<=first<=i
     have a1:=as j (lo+n - 1) D (by omega) (by omega)
     have a2:=as lo i (aA6 _) r u
     exact C.tr _ _ _ (c j y) (c lo (by omega)) (c i u) (C.tr _ _ _ (c j y) (c (lo+n - 1) (by omega)) (c lo (by omega)) a1 er) a2
    have X:Des R (arrOf st) lo (lo+n):=fun i j r u Z=>all i j r (by omega) (by omega) Z
    have hz:lo+n<=(arrOf st).size:=by rw [B.size];omega
    obtain ⟨q,a⟩:=ai1 C p B (aA6 lo) (show lo+n<=a0.size by omega) (aA6 _) (by omega) X all
    refine wpS_bind (wpS_modify ?_)
    refine L _ ⟨q,a,?_⟩
    show R (e (mirror (arrOf st) lo (lo+n) ((lo+n - lo) / 2)) (lo+n)) (e (mirror (arrOf st) lo (lo+n) ((lo+n - lo) / 2)) (lo+n - 1))=true
    rw [acv hz,acv hz,aF6 (by omega),aF5 (by omega)]
    rw [show lo+(lo+n) - 1 - (lo+n - 1)=lo by omega]
    cases e2:R (e (arrOf st) (lo+n)) (e (arrOf st) lo) with
    | true=>rfl
    | false =>
     have:=C.tr _ _ _ (c (lo+n - 1) (by omega)) (c lo (by omega)) (B.sat p (show lo+n < a0.size by omega)) er e2
     rw [this] at J;cases J
  ·have:n=1:=by omega
   subst this
   refine L st ⟨B,fun i j r u Z=>?_,J⟩
   have:i=j:=by omega
   subst this
   exact C.irr (B.sat p (by omega))
 case pf =>
  -- the falling part
  refine wpS_bind (adf ?_)
  refine wpS_bind (wpS_mono (Q:=fun (z:Option (Option Nat) × Nat × Nat) st'=>z.1=none/\Bs κ p0 a0 lo st'/\z.2.1<=nrem/\z.2.2+1<=z.2.1/\Des R (arrOf st') lo (lo+z.2.1)/\Eqb R (arrOf st') (lo+z.2.1 - (z.2.2+1)) (lo+z.2.1)) ?_ ?_)
  ·refine wpS_forRange (fun t (z:Option (Option Nat) × Nat × Nat) st'=>z.1=none/\z.2.1=t/\Bs κ p0 a0 lo st'/\z.2.2+1<=z.2.1/\Des R (arrOf st') lo (lo+z.2.1)/\Eqb R (arrOf st') (lo+z.2.1 - (z.2.2+1)) (lo+z.2.1)) ?_ ?_ ⟨rfl,rfl,N,by dsimp only;omega,?_,fun i j r u D y=>?_⟩
   ·rintro t ⟨o,m,b⟩ f t1 t2 ⟨F,T,q,I,a,d⟩
    dsimp only at F T I a d ⊢
    subst F T
    have c:∀ k,k < a0.size->S (e (arrOf f) k):=fun k K=>q.sat p K
    refine wpS_bind (af0 C p q (by omega) (by omega) ?_)
    dsimp only
    cases er:R (e (arrOf f) (lo+m)) (e (arrOf f) (lo+m - 1)) with
    | true =>
     rw [aF5 rfl]
     refine aap (fun g=>?_) (fun g=>?_)
     ·have hz:lo+m<=(arrOf f).size:=by rw [q.size];omega
      obtain ⟨G,v⟩:=ai1 C p q (l:=lo+m - (b+1)) (h:=lo+m) (by omega) (by omega) (aA6 _) (by omega) a d
      have O:∀ k,e (mirror (arrOf f) (lo+m - (b+1)) (lo+m) ((lo+m - (lo+m - (b+1))) / 2)) k=if lo+m - (b+1)<=k/\k < lo+m then e (arrOf f) (lo+m - (b+1)+(lo+m) - 1 - k) else e (arrOf f) k:=fun k=>acv hz k
      refine wpS_bind (wpS_modify ?_)
      refine wpS_pure ⟨rfl,rfl,G,by dsimp only;omega,?_,fun i j r u D y=>?_⟩
      ·show Des R (mirror (arrOf f) (lo+m - (b+1)) (lo+m) ((lo+m - (lo+m - (b+1))) / 2)) lo (lo+(m+1))
       refine afc C (h:=lo+m) (fun k K=>G.sat p (by omega)) (by omega) v ?_
       rw [O,O,aF5 (by omega),aF6 (by omega)]
       rw [show lo+m - (b+1)+(lo+m) - 1 - (lo+m - 1)=lo+m - (b+1) by omega]
       exact C.tr _ _ _ (c _ (by omega)) (c (lo+m - 1) (by omega)) (c _ (by omega)) (C.asy _ _ (c _ (by omega)) (c _ (by omega)) er) (a _ _ (by omega) (by omega) (by omega))
      ·dsimp only at r u D y
       have:i=j:=by omega
       subst this
       exact C.irr (G.sat p (by omega))
     ·have:b=0:=by omega
      subst this
      refine wpS_pure ⟨rfl,rfl,q,by dsimp only;omega,afc C (h:=lo+m) (fun k K=>c k (by omega)) (by omega) a (C.asy _ _ (c _ (by omega)) (c _ (by omega)) er),fun i j r u D y=>?_⟩
      dsimp only at r u D y
      have:i=j:=by omega
      subst this
      exact C.irr (c _ (by omega))
    | false =>
     rw [aF6 (by decide)]
     refine wpS_bind (af0 C p q (by omega) (by omega) ?_)
     dsimp only
     cases er2:R (e (arrOf f) (lo+m - 1)) (e (arrOf f) (lo+m)) with
     | true =>
      rw [aF5 rfl]
      exact wpS_pure ⟨rfl,q,by dsimp only;omega,I,a,d⟩
     | false =>
      rw [aF6 (by decide)]
      refine wpS_pure ⟨rfl,rfl,q,by dsimp only;omega,afc C (h:=lo+m) (fun k K=>c k (by omega)) (by omega) a er2,fun i j r u D y=>?_⟩
      dsimp only at r u D y
      by_cases ci:i=lo+m
      ·by_cases cj:j=lo+m
       ·rw [ci,cj];exact C.irr (c _ (by omega))
       ·rw [ci]
        exact C.tr _ _ _ (c j (by omega)) (c (lo+m - 1) (by omega)) (c _ (by omega)) (d (lo+m - 1) j (by omega) (by omega) (by omega) (by omega)) er
      ·by_cases cj:j=lo+m
       ·rw [cj]
        exact C.tr _ _ _ (c _ (by omega)) (c (lo+m - 1) (by omega)) (c i (by omega)) er2 (d i (lo+m - 1) (by omega) (by omega) (by omega) (by omega))
       ·exact d i j (by omega) (by omega) (by omega) (by omega)
   ·rintro ⟨o,m,b⟩ f ⟨F,T,q,I,a,d⟩
    dsimp only at F T I a d ⊢
    exact ⟨F,q,by omega,I,a,d⟩
   ·exact afc C (h:=lo+n) (fun k K=>N.sat p (by omega)) (by omega) X (C.asy _ _ (N.sat p (by omega)) (N.sat p (by omega)) a3)
   ·dsimp only at r u D y
    have:i=j:=by omega
    subst this
    exact C.irr (N.sat p (by omega))
  ·rintro ⟨o,m,b⟩ f ⟨F,q,hm,I,a,d⟩
   dsimp only at F hm I a d ⊢
   subst F
   dsimp only
   refine aol (M:=M) (A:=A) (E:=E) (s:=s) (α:=Option Nat) (Q:=Q) (P:=fun H=>Bs κ p0 a0 lo H/\Des R (arrOf H) lo (lo+m)) (prog:=?prog2) (fun L=>?use2) (fun H ⟨G,v⟩=>?pf2)
   case use2 =>
    refine aap (fun g=>?_) (fun g=>?_)
    ·obtain ⟨G,v⟩:=ai1 C p q (l:=lo+m - (b+1)) (h:=lo+m) (by omega) (by omega) (aA6 _) (by omega) a d
     refine wpS_bind (wpS_modify ?_)
     exact L _ ⟨G,v⟩
    ·exact L _ ⟨q,a⟩
   case pf2 =>
    obtain ⟨B5,Y⟩:=at5 C G (n:=m) (by omega) v
    refine wpS_bind (wpS_modify ?_)
    refine wpS_bind (al1 C p B5 (by omega) hm hn Y fun n' a5 U a4 _=>?_)
    exact wpS_pure (h _ n' B5 (by omega) U a4)
end
def flat (rs:List (List Keyed × Nat)):List Keyed:=(rs.map (·.1)).flatten
def pend:Nat->List (List Keyed × Nat)->List (Nat × Nat × Nat)
 | _,[]=>[]
 | k,(r,pw) :: t=>(k,r.length,pw) :: pend (k+r.length) t
theorem ahc:flat []=[]:=rfl
theorem abt (r:List Keyed × Nat) (t:List (List Keyed × Nat)):flat (r :: t)=r.1 ++ flat t:=rfl
theorem abm (p q:List (List Keyed × Nat)):flat (p ++ q)=flat p ++ flat q:=by simp [flat]
theorem ab5:∀ (k:Nat) (p q:List (List Keyed × Nat)),pend k (p ++ q)=pend k p ++ pend (k+(flat p).length) q
 | k,[],q=>by simp [pend,ahc]
 | k,(r,pw) :: t,q=>by
  simp only [List.cons_append,pend,abt,aB1,List.cons.injEq,true_and]
  rw [ab5 (k+r.length) t q,Nat.add_assoc]
theorem adm:∀ (k:Nat) (p:List (List Keyed × Nat)),(pend k p).length=p.length
 | _,[]=>rfl
 | k,(r,pw) :: t=>by simp [pend,adm _ t]
section
variable {M:Model} {A:Around} {E:Value->Shared->Prop} {s:Shared} {κ:SortKind} {S:Keyed->Prop} {R:Keyed->Keyed->Bool} {a0:Array Keyed}
structure Rn (κ:SortKind) (R:Keyed->Keyed->Bool) (a0:Array Keyed) (rs:List (List Keyed × Nat)) (rest:List Keyed) (st:SortSt):Prop where
 k:kindOf st = κ
 f:failedOf st=none
 arr:(arrOf st).toList=flat rs ++ rest
 pn:(pendingOf st).toList=pend 0 rs
 ok:∀ r∈rs,r.1 ≠ []/\Srt R r.1
 perm:(arrOf st).toList.Perm a0.toList
theorem aw0 {α:Type} (a b:List α) (x c y : α):((a ++ x :: y :: b).set a.length c).eraseIdx (a.length+1)=a ++ c :: b:=by
 rw [List.set_append_right _ _ (aA6 _),aI6,List.set_cons_zero,List.eraseIdx_append_of_length_le (by omega)]
 rw [show a.length+1 - a.length=1 by omega]
 rfl
theorem ah7 (C:Cmp M A E s κ S R) (D:∀ x∈a0.toList,S x) {st:SortSt} {rs:List (List Keyed × Nat)} {rest:List Keyed} (N:Rn κ R a0 rs rest st) {i:Nat} (hi:i+1 < rs.length) {Q:Bool->SortSt->Prop}
  (h:∀ st' l,Rn κ R a0 l rest st'->l.length+1=rs.length->(flat l).length=(flat rs).length->Q true st'):wpS M A E s (alz i) Q st:=by
 obtain ⟨p,a,pw,b,pw2,q,e,F⟩:∃ p a pw b pw2 q,rs=p ++ (a,pw) :: (b,pw2) :: q/\p.length=i:=by
  have B:rs=rs.take i ++ rs.drop i:=(aC1 i rs).symm
  have hd:rs.drop i=rs[i] :: rs[i+1] :: rs.drop (i+2):=by
   rw [List.drop_eq_getElem_cons (by omega),List.drop_eq_getElem_cons hi]
  exact ⟨rs.take i,rs[i].1,rs[i].2,rs[i+1].1,rs[i+1].2,rs.drop (i+2),by rw [← hd];exact B,by simp;omega⟩
 subst F
 have d:=N.ok (a,pw) (by rw [e];simp)
 have j:=N.ok (b,pw2) (by rw [e];simp)
 have n:(pendingOf st).toList=pend 0 p ++ ((flat p).length,a.length,pw) :: ((flat p).length+a.length,b.length,pw2) :: pend ((flat p).length+a.length+b.length) q:=by
  rw [N.pn,e,ab5];simp [pend]
 have c:(pend 0 p).length=p.length:=adm 0 p
 have g:(arrOf st).toList=flat p ++ a ++ b ++ (flat q ++ rest):=by
  rw [N.arr,e,abm,abt,abt];simp [aB4]
 refine ap8 C (i:=p.length) (pw:=pw) (pw2:=pw2) g (fun x H=>D x (N.perm.mem_iff.mp H)) ?_ ?_ d.1 j.1 d.2 j.2 N.k N.f fun st' m w y v t pm G=>?_
 ·rw [← aD6,n,aC8 (by omega),c,aI6];rfl
 ·rw [← aD6,n,aC8 (by omega),c,show p.length+1 - p.length=1 by omega];rfl
 ·refine h st' (p ++ (m,pw) :: q) ⟨w,y,?_,?_,fun r o=>?_,?_⟩ (by rw [e];simp;omega) ?_
  ·rw [t,abm,abt];simp [aB4]
  ·rw [v,Array.toList_eraseIdxIfInBounds,Array.toList_setIfInBounds,n,← c,aw0,ab5]
   simp [pend,pm.length_eq,Nat.add_assoc]
  ·rcases aA7.mp o with o | o
   ·exact N.ok r (by rw [e];simp [o])
   ·rcases aA9.mp o with rfl | o
    ·refine ⟨?_,G⟩
     intro z
     have:=pm.length_eq
     have u:m=[]:=z
     rw [u] at this
     have:=aF9.mpr d.1
     simp at *
     omega
    ·exact N.ok r (by rw [e];simp [o])
  ·rw [t]
   refine List.Perm.trans ?_ N.perm
   rw [g]
   have:(flat p ++ a ++ b ++ (flat q ++ rest))=flat p ++ (a ++ b) ++ (flat q ++ rest):=by simp [aB4]
   rw [this]
   exact (pm.append_left (flat p)).append_right _
  ·rw [e,abm,abm,abt,abt,abt]
   simp [pm.length_eq]
   omega
theorem Rn.run {rs:List (List Keyed × Nat)} {rest:List Keyed} {st st':SortSt} {n:Nat} (N:Rn κ R a0 rs rest st) (B:Bs κ (pendingOf st) (arrOf st) (flat rs).length st') (u:1<=n) (hn:(flat rs).length+n<=(arrOf st).size) (as:Asc R (arrOf st') (flat rs).length ((flat rs).length+n)) :
  ∃ r a,r.length=n/\r ≠ []/\Srt R r/\Rn κ R a0 rs (r ++ a) st':=by
 have m:=B.size
 have b:(arrOf st').toList.take (flat rs).length=flat rs:=by
  have l:(arrOf st').toList.take (flat rs).length=(arrOf st).toList.take (flat rs).length:=by
   apply aG2
   intro k
   rw [List.getElem?_take,List.getElem?_take]
   split
   ·rename_i d
    have:=B.pre k d
    simpa using this
   ·rfl
  rw [l,N.arr,List.take_left]
 refine ⟨((arrOf st').toList.drop (flat rs).length).take n,((arrOf st').toList.drop (flat rs).length).drop n,?_,?_,?_,B.k,B.f,?_,?_,N.ok,B.perm.trans N.perm⟩
 ·simp;omega
 ·intro z
  have:=congrArg List.length z
  simp at this
  omega
 ·unfold Srt
  rw [aG7]
  intro i j hi g q
  have c:j < n:=by simp at g;omega
  have get:∀ k,k < n->∀ (d:k < (((arrOf st').toList.drop (flat rs).length).take n).length),(((arrOf st').toList.drop (flat rs).length).take n)[k]=e (arrOf st') ((flat rs).length+k):=by
   intro k d o
   rw [List.getElem_take,List.getElem_drop]
   have s:=ah6 (xs:=arrOf st') (k:=(flat rs).length+k) (by omega)
   have t:(flat rs).length+k < (arrOf st').toList.length:=by simp;omega
   have h:(arrOf st').toList[(flat rs).length+k]?=some (e (arrOf st') ((flat rs).length+k)):=by simpa using s
   rw [aA0 t] at h
   exact aC6 h
  rw [get i (by omega) hi,get j c g]
  exact as _ _ (by omega) (by omega) (by omega)
 ·rw [aC1]
  conv=>lhs;rw [← aC1 (flat rs).length (arrOf st').toList,b]
 ·rw [B.p];exact N.pn
theorem Rn.bs {rs:List (List Keyed × Nat)} {rest:List Keyed} {st:SortSt} (N:Rn κ R a0 rs rest st):Bs κ (pendingOf st) (arrOf st) (flat rs).length st:=⟨N.k,N.f,rfl,List.Perm.refl _,fun _ _=>rfl⟩
theorem Rn.size {rs:List (List Keyed × Nat)} {rest:List Keyed} {st:SortSt} (N:Rn κ R a0 rs rest st):(arrOf st).size=a0.size:=by
 have:=N.perm.length_eq;simpa using this
theorem Rn.len {rs:List (List Keyed × Nat)} {rest:List Keyed} {st:SortSt} (N:Rn κ R a0 rs rest st):(flat rs).length+rest.length=a0.size:=by
 have:=congrArg List.length N.arr
 have a:=N.size
 simp at this
 omega
theorem at6 {rs:List (List Keyed × Nat)} (h:∀ r∈rs,r.1 ≠ []):rs.length<=(flat rs).length:=by
 induction rs with
 | nil=>simp [flat]
 | cons r t ih =>
  rw [abt,aB1,aE6]
  have:=ih fun q a=>h q (aB5 _ a)
  have:=aF9.mpr (h r aB8)
  omega
theorem al2 {α:Type} (f : α->α):∀ (l:List α) (x : α),(l ++ [x]).modify l.length f=l ++ [f x]
 | [],x=>rfl
 | y :: l,x=>by
  show (y :: (l ++ [x])).modify (l.length+1) f=_
  rw [List.modify_succ_cons,al2 f l x];rfl
theorem anu {α:Type} (arr:Array α) (f : α->α) {l:List α} {x : α} (h:arr.toList=l ++ [x]):(arr.modify (arr.size - 1) f).toList=l ++ [f x]:=by
 have hs:arr.size=l.length+1:=by have:=congrArg List.length h;simpa using this
 rw [Array.toList_modify,h,hs,show l.length+1 - 1=l.length by omega]
 exact al2 f l x
theorem aw1 {α:Type} (arr:Array α) {l:List α} {x : α} (h:arr.toList=l ++ [x]):arr.back?=some x:=by
 have hs:arr.size=l.length+1:=by have:=congrArg List.length h;simpa using this
 rw [Array.back?_eq_getElem?,← aD6,h,hs]
 simp
theorem aom:∀ (rs:List (List Keyed × Nat)),rs ≠ []->∃ p x,rs=p ++ [x]
 | rs,h=>⟨rs.dropLast,rs.getLast h,(List.dropLast_concat_getLast h).symm⟩
theorem Rn.push {rs:List (List Keyed × Nat)} {r rest:List Keyed} {st st':SortSt} (N:Rn κ R a0 rs (r ++ rest) st) (c:r ≠ []) (hs:Srt R r) (k:kindOf st'=kindOf st) (f:failedOf st'=failedOf st) (a:arrOf st'=arrOf st)
  (p:pendingOf st'=(pendingOf st).push ((flat rs).length,r.length,0)):Rn κ R a0 (rs ++ [(r,0)]) rest st':=by
 refine ⟨k.trans N.k,f.trans N.f,?_,?_,fun q b=>?_,by rw [a];exact N.perm⟩
 ·rw [a,N.arr,abm];simp [flat,aB4]
 ·rw [p,Array.toList_push,N.pn,ab5];simp [pend]
 ·rcases aA7.mp b with b | b
  ·exact N.ok q b
  ·have:q=(r,0):=by simpa using b
   subst this;exact ⟨c,hs⟩
theorem Rn.pow {rs:List (List Keyed × Nat)} {rest:List Keyed} {st st':SortSt} {pw:Nat} (N:Rn κ R a0 rs rest st) (hz:rs ≠ []) (k:kindOf st'=kindOf st) (f:failedOf st'=failedOf st) (a:arrOf st'=arrOf st)
  (p:pendingOf st'=(pendingOf st).modify ((pendingOf st).size - 1) fun x=>(x.1,x.2.1,pw)):∃ c,Rn κ R a0 c rest st'/\(flat c).length=(flat rs).length:=by
 obtain ⟨q,⟨b,d⟩,e⟩:=aom rs hz
 subst e
 have h:(pendingOf st).toList=pend 0 q ++ [((flat q).length,b.length,d)]:=by rw [N.pn,ab5];simp [pend]
 refine ⟨q ++ [(b,pw)],⟨k.trans N.k,f.trans N.f,?_,?_,fun x g=>?_,by rw [a];exact N.perm⟩,by simp [abm,abt,ahc]⟩
 ·rw [a,N.arr];simp [abm,abt,ahc]
 ·rw [p,anu _ _ h,ab5];simp [pend]
 ·rcases aA7.mp g with g | g
  ·exact N.ok x (by simp [g])
  ·have:x=(b,pw):=by simpa using g
   subst this
   exact N.ok (b,d) (by simp)
theorem azm {c:Prop} [Decidable c] {x y z:Nat} (a:x+1 < z) (b:y+1 < z):(if c then x else y)+1 < z:=by
 split
 ·exact a
 ·exact b
theorem Rn.powK {rs:List (List Keyed × Nat)} {rest:List Keyed} {st st':SortSt} {pw:Nat} {G:SortSt->Prop} (N:Rn κ R a0 rs rest st) (hz:rs ≠ []) (h:∀ b,Rn κ R a0 b rest st'->(flat b).length=(flat rs).length->G st') (k:kindOf st'=kindOf st) (f:failedOf st'=failedOf st) (a:arrOf st'=arrOf st)
  (p:pendingOf st'=(pendingOf st).modify ((pendingOf st).size - 1) fun x=>(x.1,x.2.1,pw)):G st':=by
 obtain ⟨b,d,c⟩:=N.pow hz k f a p
 exact h b d c
theorem aw2 (C:Cmp M A E s κ S R) (Y:∀ x∈a0.toList,S x) {st:SortSt} (h0:arrOf st=a0) (hk:kindOf st = κ) (hf:failedOf st=none) (hp:pendingOf st = #[]) {Q:Unit->SortSt->Prop}
  (h:∀ st',failedOf st'=none->(arrOf st').toList.Perm a0.toList->Srt R (arrOf st').toList->Q () st'):wpS M A E s a1j Q st:=by
 have o:(arrOf st).size=a0.size:=by rw [h0]
 refine wpS_bind (wpS_get ?_)
 dsimp only
 refine wpS_bind (wpS_mono (Q:=fun (c:Option Unit × Nat) t=>c.1=none/\∃ rs,Rn κ R a0 rs [] t) ?_ ?_)
 ·refine wpS_forRange (fun i (c:Option Unit × Nat) t=>c.1=none/\∃ rs rest,Rn κ R a0 rs rest t/\c.2=(flat rs).length/\i<=c.2) ?_ ?_ ⟨rfl,[],a0.toList,⟨hk,hf,by rw [h0];rfl,by rw [hp];rfl,fun r F=>(by cases F),by rw [h0]⟩,rfl,aA6 _⟩
  ·rintro i ⟨c1,lo⟩ t _ hi ⟨D,rs,rest,N,X,B⟩
   dsimp only at D X B ⊢
   subst D X
   have T:=N.len
   have b1:i < a0.size:=by rw [← o];exact hi
   refine aap (fun a3=>?_) (fun a1=>?_)
   ·have b0:a0.size<=(flat rs).length:=by rw [← o];exact a3
    refine wpS_pure ⟨rfl,rs,?_⟩
    have:rest=[]:=aH2 (by omega)
    subst this
    exact N
   ·have a8:(flat rs).length < a0.size:=by
     have:¬ (flat rs).length ≥ (arrOf st).size:=a1
     omega
    refine wpS_bind (ar0 C (fun x hx=>Y x (N.perm.mem_iff.mp hx)) N.bs (nrem:=(arrOf st).size - (flat rs).length) (by omega) (by rw [N.size];omega) fun b3 n B2 n1 n2 O=>?_)
    dsimp only
    have y:=N.size
    refine aap (fun l=>?g1) (fun l=>?g2)
    case' g1 =>
     refine wpS_bind (adf ?_)
     generalize hmr:min (_:Nat) _=nn
     refine wpS_bind (ap9 C (fun x hx=>Y x (N.perm.mem_iff.mp hx)) B2 (n:=nn) (ok:=n) ?_ ?_ ?_ O fun b2 B3 a4=>?_)
     ·have:nn<=(arrOf st).size - (flat rs).length:=by rw [← hmr];exact Nat.min_le_left _ _
      rw [y];omega
     ·rw [← hmr];exact Nat.le_min.mpr ⟨n2,aG5 l⟩
     ·have:n<=nn:=by rw [← hmr];exact Nat.le_min.mpr ⟨n2,aG5 l⟩
      omega
     rw [aF6 (by decide)]
     have K:1<=nn:=by
      have:n<=nn:=by rw [← hmr];exact Nat.le_min.mpr ⟨n2,aG5 l⟩
      omega
     have a9:nn<=(arrOf st).size - (flat rs).length:=by rw [← hmr];exact Nat.min_le_left _ _
     obtain ⟨r,g,F,v,H,U⟩:=N.run B3 K (by rw [y];omega) a4
     clear hmr
     subst F
    case' g2 =>
     obtain ⟨r,g,F,v,H,U⟩:=N.run B2 n1 (by rw [y];omega) O
     clear l
     subst F
    all_goals
     refine wpS_bind (wpS_get ?_)
     rcases Classical.em (rs=[]) with hz | hz
     ·have w:=U.pn
      rw [hz] at w
      have hb:=Array.back?_eq_none_iff.mpr (Array.toList_eq_nil_iff.mp w)
      rw [hb]
      dsimp only
      refine wpS_bind (wpS_modify (wpS_pure ⟨rfl,rs ++ [(r,0)],g,U.push v H rfl rfl rfl rfl,?_,?_⟩))
      ·rw [abm,aB1];simp [flat]
      ·have:=aF9.mpr v
       show i+1<=(flat rs).length+r.length
       omega
     ·obtain ⟨q,⟨b,P⟩,eq⟩:=aom rs hz
      have w:=U.pn
      rw [eq,ab5,show pend (0+(flat q).length) [(b,P)]=[((flat q).length,b.length,P)] by simp [pend]] at w
      have hb:=aw1 _ w
      rw [hb]
      dsimp only
      refine wpS_bind (wpS_mono (Q:=fun (c:Option Unit × Unit) d=>c.1=none/\∃ a,Rn κ R a0 a (r ++ g) d/\a ≠ []/\(flat a).length=(flat rs).length) ?_ ?_)
      ·refine wpS_forRange (fun _ (c:Option Unit × Unit) d=>c.1=none/\∃ a,Rn κ R a0 a (r ++ g) d/\a ≠ []/\(flat a).length=(flat rs).length) ?_ (fun c d h4=>h4) ⟨rfl,rs,U,hz,rfl⟩
       rintro i4 ⟨c4,Z⟩ d _ _ ⟨u,a,m,W,p⟩
       dsimp only at u
       subst u
       refine wpS_bind (wpS_get ?_)
       have L:(pendingOf d).size=a.length:=by
        have:=congrArg List.length m.pn
        rw [adm] at this
        simpa using this
       by_cases J:(pendingOf d).size > 1
       ·rw [aF5 J]
        obtain ⟨x4,a7⟩:∃ x4,(pendingOf d)[(pendingOf d).size - 2]?=some x4:=⟨_,aA4 (by omega)⟩
        obtain ⟨y1,y2,y3⟩:=x4
        rw [a7]
        dsimp only
        refine aap (fun _=>wpS_pure ⟨rfl,a,m,W,p⟩) (fun _=>?_)
        rw [L]
        refine wpS_bind (ah7 C Y m (i:=a.length - 2) (by omega) fun a5 I N5 l5 f5=>?_)
        rw [aF6 (by decide)]
        refine wpS_pure ⟨rfl,I,N5,?_,by omega⟩
        rintro rfl
        simp at l5
        omega
       ·rw [aF6 J]
        exact wpS_pure ⟨rfl,a,m,W,p⟩
      ·rintro ⟨c4,Z⟩ d ⟨u,a,m,W,p⟩
       dsimp only at u ⊢
       subst u
       dsimp only
       refine wpS_bind (wpS_modify ?_)
       refine m.powK (G:=fun z=>wpS M A E s _ _ z) W (fun a2 N6 l6=>?_) rfl rfl rfl rfl
       refine wpS_bind (wpS_modify (wpS_pure ⟨rfl,a2 ++ [(r,0)],g,N6.push v H rfl rfl rfl ?_,?_,?_⟩))
       ·rw [l6,p]
       ·rw [abm,aB1,l6,p];simp [flat]
       ·have:=aF9.mpr v
        show i+1<=(flat rs).length+r.length
        omega
  ·rintro ⟨c1,lo⟩ t ⟨D,rs,rest,N,X,B⟩
   dsimp only at D X B ⊢
   refine ⟨D,rs,?_⟩
   have T:=N.len
   have a6:(arrOf st).size<=lo:=aD0 (Nat.le_max_right 0 _) B
   have:rest=[]:=aH2 (by rw [o] at a6;omega)
   subst this
   exact N
 ·rintro ⟨c1,lo⟩ t ⟨D,rs,N⟩
  dsimp only at D ⊢
  subst D
  dsimp only
  refine wpS_bind (wpS_mono (Q:=fun (c:Option Unit × Unit) d=>c.1=none/\∃ a,Rn κ R a0 a [] d/\a.length<=1) ?_ ?_)
  ·refine wpS_forRange (fun j (c:Option Unit × Unit) d=>c.1=none/\∃ a,Rn κ R a0 a [] d/\(a.length<=1\/a.length+j<=a0.size)) ?_ ?_ ⟨rfl,rs,N,.inr ?_⟩
   ·rintro j ⟨c4,Z⟩ d _ _ ⟨u,a,m,p⟩
    dsimp only at u
    subst u
    refine wpS_bind (wpS_get ?_)
    have L:(pendingOf d).size=a.length:=by
     have:=congrArg List.length m.pn
     rw [adm] at this
     simpa using this
    refine aap (fun J=>wpS_pure ⟨rfl,a,m,?_⟩) (fun J=>?_)
    ·have:(pendingOf d).size<=1:=J
     omega
    ·have b4:¬ (pendingOf d).size<=1:=J
     refine wpS_bind (ah7 C Y m (i:=_) ?_ fun a5 I N5 l5 f5=>?_)
     ·refine azm ?_ ?_
      ·show (pendingOf d).size - 2 - 1+1 < a.length
       omega
      ·show (pendingOf d).size - 2+1 < a.length
       omega
     rw [aF6 (by decide)]
     exact wpS_pure ⟨rfl,I,N5,by omega⟩
   ·rintro ⟨c4,Z⟩ d ⟨u,a,m,p⟩
    refine ⟨u,a,m,?_⟩
    rcases p with p | p
    ·exact p
    ·have:(arrOf st).size<=max 0 (arrOf st).size:=Nat.le_max_right _ _
     have h3:a.length+max 0 (arrOf st).size<=a0.size:=p
     omega
   ·have:=at6 fun r F=>(N.ok r F).1
    have:=N.len
    omega
  ·rintro ⟨c4,Z⟩ d ⟨u,a,m,p⟩
   dsimp only at u ⊢
   subst u
   dsimp only
   refine wpS_pure (h d m.f m.perm ?_)
   rw [m.arr]
   match a,p with
   | [],_=>exact List.Pairwise.nil
   | [x],_=>simpa [flat] using (m.ok x (by simp)).2
end
end TS
namespace L2
open PySem PySem.Spec PyProof.Rows
mutual
inductive Rep (H:Hp):V->PyData->Prop
 | non:Rep H .non .none
 | bl (b:Bool):Rep H (.bl b) (.bool b)
 | int (i:Int):Rep H (.int i) (.int i)
 | str (x:Str):Rep H (.str x) (.str x)
 | lst {a:Addr} {xs:List V} {ds:List PyData}:H a=some (.lst xs)->Reps H xs ds->Rep H (.ref a) (.list ds)
 | tup {a:Addr} {xs:List V} {ds:List PyData}:H a=some (.tup xs)->Reps H xs ds->Rep H (.ref a) (.tuple ds)
inductive Reps (H:Hp):List V->List PyData->Prop
 | nil:Reps H [] []
 | cons {v:V} {vs:List V} {d:PyData} {ds:List PyData}:Rep H v d->Reps H vs ds->Reps H (v :: vs) (d :: ds)
end
mutual
theorem Rep.same {H H':Hp} (s:Same H H'):∀ {v:V} {d:PyData},Rep H v d->Rep H' v d
 | _,_,.non => .non
 | _,_,.bl b => .bl b
 | _,_,.int i => .int i
 | _,_,.str x => .str x
 | _,_,.lst h r => .lst (s _ _ h) (Reps.same s r)
 | _,_,.tup h r => .tup (s _ _ h) (Reps.same s r)
theorem Reps.same {H H':Hp} (s:Same H H'):∀ {vs:List V} {ds:List PyData},Reps H vs ds->Reps H' vs ds
 | _,_,.nil => .nil
 | _,_,.cons r t => .cons (Rep.same s r) (Reps.same s t)
end
section
variable {X:Cx} {pins:List (Addr × Obj)} {σ:St} {H:Hp} {s:Shared}
mutual
theorem Rep.reads (I:Inv X pins σ H s):∀ {v:V} {d:PyData} {u:Value},Rep H v d->RelV v u->∃ as,Reads s.heap u d as
 | _,_,_,.non,r=>by cases r;exact ⟨_,.none⟩
 | _,_,_,.bl b,r=>by cases r;exact ⟨_,.bool b⟩
 | _,_,_,.int i,r=>by obtain ⟨t,rfl⟩:=r;exact ⟨_,.int i t⟩
 | _,_,_,.str x,r=>by obtain ⟨t,rfl⟩:=r;exact ⟨_,.str x t⟩
 | _,_,_,.lst (a:=a) (xs:=xs) h q,r=>by
  cases r
  obtain ⟨_,its,n,f,e⟩:=(show ObjOk X.prog X.w H s.heap a (.lst xs) from I.hok a _ h)
  obtain ⟨as,g⟩:=Reps.reads I q f
  exact ⟨_,.list e rfl rfl (by simpa using g)⟩
 | _,_,_,.tup (a:=a) (xs:=xs) h q,r=>by
  cases r
  obtain ⟨_,its,f,o,e,c,n,dd⟩:=(show ObjOk X.prog X.w H s.heap a (.tup xs) from I.hok a _ h)
  obtain ⟨as,g⟩:=Reps.reads I q f
  exact ⟨_,.tuple e c dd (by simpa using g)⟩
theorem Reps.reads (I:Inv X pins σ H s):∀ {vs:List V} {ds:List PyData} {us:List Value},Reps H vs ds->Vals vs us->∃ as,ReadsAll s.heap us ds as
 | _,_,_,.nil,.nil=>⟨_,.nil⟩
 | _,_,_,.cons r t,.cons q qs=>by
  obtain ⟨as,a⟩:=Rep.reads I r q
  obtain ⟨bs,rb⟩:=Reps.reads I t qs
  exact ⟨_,.cons a rb⟩
end
end
mutual
def aaq:PyData->Bool
 | .none | .int _=>true
 | .list xs | .tuple xs=>plainDs xs
 | _=>false
def plainDs:List PyData->Bool
 | []=>true
 | x :: xs=>aaq x && plainDs xs
end
mutual
theorem aco:∀ (d:PyData),aaq d=true->d.canLay0=true
 | .none,_=>by simp [PyData.canLay0]
 | .int _,_=>by simp [PyData.canLay0]
 | .list xs,h=>by simp only [PyData.canLay0];exact plain_lays xs (by simpa [aaq] using h)
 | .tuple xs,h=>by simp only [PyData.canLay0];exact plain_lays xs (by simpa [aaq] using h)
 | .bool _,h=>by simp [aaq] at h
 | .str _,h=>by simp [aaq] at h
 | .dict _,h=>by simp [aaq] at h
theorem plain_lays:∀ (ds:List PyData),plainDs ds=true->PyData.canLayAll0 ds=true
 | [],_=>by simp [PyData.canLayAll0]
 | x :: xs,h=>by
  have h':aaq x=true/\plainDs xs=true:=by simpa [plainDs] using h
  simp only [PyData.canLayAll0,aco x h'.1,plain_lays xs h'.2,Bool.and_self]
end
mutual
theorem af1:∀ (d e:PyData),aaq d=true->aaq e=true->(PyData.eqv d e=true ↔ d=e)
 | .none,e,_,h=>by cases e <;> simp_all [aaq,PyData.eqv]
 | .int i,e,_,h=>by cases e <;> simp_all [aaq,PyData.eqv]
 | .list xs,e,g,h=>by
  cases e with
  | list ys=>simp only [PyData.eqv,PyData.list.injEq];exact eqvAll_plain xs ys (by simpa [aaq] using g) (by simpa [aaq] using h)
  | _=>simp_all [aaq,PyData.eqv]
 | .tuple xs,e,g,h=>by
  cases e with
  | tuple ys=>simp only [PyData.eqv,PyData.tuple.injEq];exact eqvAll_plain xs ys (by simpa [aaq] using g) (by simpa [aaq] using h)
  | _=>simp_all [aaq,PyData.eqv]
 | .bool _,_,h,_=>by simp [aaq] at h
 | .str _,_,h,_=>by simp [aaq] at h
 | .dict _,_,h,_=>by simp [aaq] at h
theorem eqvAll_plain:∀ (ds es:List PyData),plainDs ds=true->plainDs es=true->(PyData.eqvAll ds es=true ↔ ds=es)
 | [],[],_,_=>by simp [PyData.eqvAll]
 | [],_ :: _,_,_=>by simp [PyData.eqvAll]
 | _ :: _,[],_,_=>by simp [PyData.eqvAll]
 | x :: xs,y :: ys,g,h=>by
  have g':aaq x=true/\plainDs xs=true:=by simpa [plainDs] using g
  have h':aaq y=true/\plainDs ys=true:=by simpa [plainDs] using h
  simp only [PyData.eqvAll,aH1,List.cons.injEq,af1 x y g'.1 h'.1,eqvAll_plain xs ys g'.2 h'.2]
end
theorem ag4 (ds:List PyData):plainDs ds=true ↔ ∀ d∈ds,aaq d=true:=by
 induction ds with
 | nil=>simp [plainDs]
 | cons d ds ih=>simp [plainDs,ih]
def rNeD:R2:=fun x y H Q=>∃ d e,Rep H x d/\Rep H y e/\aaq d=true/\aaq e=true/\d.depth<=60/\Q (.bl (!PyData.eqv d e)) H
section
variable {X:Cx}
theorem azn (i:X.A.units+64 < cLine):OpR X (compareOp .NotEq) rNeD:=by
 intro pins s σ H x y v u Q I b a h
 obtain ⟨d,e,g,re,hd,f,hz,q⟩:=h
 obtain ⟨as,c⟩:=g.reads I b
 obtain ⟨bs,rb⟩:=re.reads I a
 refine SeqAt.compareNe_reads c rb (aco _ hd) (aco _ f) ?_ ⟨.bl _,H,I,rfl,q⟩
 have:=Nat.min_le_left d.depth e.depth
 omega
def rInD (neg:Bool):R2:=fun x y H Q=>∃ d es,Rep H x d/\(Rep H y (.list es)\/Rep H y (.tuple es))/\aaq d=true/\plainDs es=true/\d.depth<=60/\Q (.bl (if neg then !es.any (fun z=>PyData.eqv z d) else es.any (fun z=>PyData.eqv z d))) H
theorem azo (i:X.A.units+64 < cLine):OpR X (compareOp .In) (rInD false):=by
 intro pins s σ H x y v u Q I f a h
 obtain ⟨d,es,g,re,hd,c,hz,q⟩:=h
 obtain ⟨as,b⟩:=g.reads I f
 have hm:=Nat.min_le_right (PyData.depthAll es) d.depth
 rcases re with re | re
 ·obtain ⟨bs,rb⟩:=re.reads I a
  exact SeqAt.in_list_reads rb b (plain_lays _ c) (aco _ hd) (by omega) ⟨.bl _,H,I,rfl,q⟩
 ·obtain ⟨bs,rb⟩:=re.reads I a
  exact SeqAt.in_tuple_reads rb b (plain_lays _ c) (aco _ hd) (by omega) ⟨.bl _,H,I,rfl,q⟩
theorem adw (i:X.A.units+64 < cLine):OpR X (compareOp .NotIn) (rInD true):=by
 intro pins s σ H x y v u Q I f a h
 obtain ⟨d,es,g,re,hd,c,hz,q⟩:=h
 obtain ⟨as,b⟩:=g.reads I f
 have hm:=Nat.min_le_right (PyData.depthAll es) d.depth
 rcases re with re | re
 ·obtain ⟨bs,rb⟩:=re.reads I a
  exact SeqAt.notIn_list_reads rb b (plain_lays _ c) (aco _ hd) (by omega) ⟨.bl _,H,I,rfl,q⟩
 ·obtain ⟨bs,rb⟩:=re.reads I a
  exact SeqAt.notIn_tuple_reads rb b (plain_lays _ c) (aco _ hd) (by omega) ⟨.bl _,H,I,rfl,q⟩
def rIsi (K:Frag):List V->Hp->VK->Prop:=fun xs H Q=>∃ (x:V) (T:String) (t:Value) (b:Bool),xs=[x,.ty T]/\TyOf K H x t/\kitOne K t (.type T)=some b/\Q (.bl b) H
theorem afd:abd X (.builtin "isinstance") (rIsi X.K):=by
 intro pins s σ H xs us Q I r h
 obtain ⟨x,T,t,b,rfl,ty,e,q⟩:=h
 obtain ⟨u,c,rfl,d,a⟩:=agh r
 cases a
 exact arj I d ty e fun f=>⟨.bl b,H,I.tok _,rfl,q⟩
end
end L2
namespace HT
open PySem PyProof.Rows
section
open PySem.SeqAt
open PySem.AutoSeq1 (wpAny_loadPart')
open PySem.MeetsSeq PySem.MeetsSeq2 PySem.MeetsSeq3
end
section
variable {prog:Program} {w:World} {A:Around} {E:Value->Shared->Prop} {s:Shared}
end
end HT
namespace L2
open PySem PySem.Spec PyProof.Rows
section
variable {X:Cx}
def al3 (K:Frag):List V->Hp->VK->Prop:=fun xs H Q=>∃ (a:Addr) (ns:List Int),xs=[.ref a]/\SqL K H a (ns.map V.int)/\ns.length < 64/\∀ (ns':List Int) (p:Addr),ns'.Perm ns->ns'.Pairwise (·<=·)->H p=none->Q (.ref p) (upd H p (.lst (ns'.map V.int)))
theorem aqa:abd X (.builtin "sorted") (al3 X.K):=by
 intro pins s σ H xs us Q I r h
 obtain ⟨a,ns,rfl,ha,f,q⟩:=h
 obtain ⟨u,rfl,p⟩:=ac7 r
 cases p
 obtain ⟨its,j,l,hz⟩:=I.list ha
 have m:IntsAre its.toArray.toList ns:=acb j
 have i:IntsAre its ns:=by simpa using m
 refine sorted_ints (vs:=its) l.isList i (by rw [i.length];exact f) fun out d b1 g n=>?_
 obtain ⟨e,t⟩:=sortedAll_at s.heap its out
 have c:H (s.heap.objs.size+1)=none:=I.hok.fresh (Nat.le_succ _)
 refine ⟨.ref (s.heap.objs.size+1),_,I.laid (t':=s.toks) (o:=.lst (d.map V.int)) (fun b v q=>sortedAll_old q) (Nat.le_succ _) ?_,rfl,q d _ g n c⟩
 refine ⟨?_,out.toList,e,afx b1,by rw [t]⟩
 rw [aA3,g.length_eq]
 exact aG5 (adq (by omega))
end
end L2
namespace HT
open PySem PyProof.Rows
theorem ai2 (val:Nat->Int):∀ k,argBest (fun i j=>decide (val i > val j)) k<=k/\∀ i,i<=k->val i<=val (argBest (fun i j=>decide (val i > val j)) k)
 | 0 => ⟨Nat.le_refl _, fun i hi => by have:i=0 := by omega
                                       subst this;exact Int.le_refl _⟩
 | k+1=>by
  obtain ⟨b,a⟩:=ai2 val k
  unfold argBest
  by_cases hc:val (k+1) > val (argBest (fun i j=>decide (val i > val j)) k)
  ·rw [aF5 (aD8 hc)]
   refine ⟨aA6 _,fun i hi=>?_⟩
   by_cases e:i=k+1
   ·subst e;exact Int.le_refl _
   ·have:=a i (by omega)
    exact Int.le_trans this (Int.le_of_lt hc)
  ·rw [aF6 (by simpa using hc)]
   refine ⟨by omega,fun i hi=>?_⟩
   by_cases e:i=k+1
   ·subst e;omega
   ·exact a i (by omega)
def val (ns:List Int) (i:Nat):Int:=(ns[i]?).getD 0
theorem ah8 {us:List Value} {ns:List Int} (hi:IntsAre us ns) (i:Nat) (v:Value) (h:us.toArray[i]?=some v):∃ t,v=.int (val ns i) t:=by
 induction hi generalizing i with
 | nil=>simp at h
 | cons n t r ih =>
  cases i with
  | zero=>simp at h;subst h;exact ⟨t,by simp [val]⟩
  | succ i =>
   obtain ⟨t',e⟩:=ih i (by simpa using h)
   exact ⟨t',by simpa [val] using e⟩
theorem aon {ns:List Int} {i:Nat} (h:i < ns.length):val ns i∈ns:=by
 unfold val
 rw [aA0 h]
 exact aF1 h
theorem ar1 {ns:List Int} {x:Int} (h:x∈ns):∃ i,i < ns.length/\val ns i=x:=by
 obtain ⟨i,hi,e⟩:=aH6.mp h
 exact ⟨i,hi,by unfold val;rw [aA0 hi];exact e⟩
section
variable {prog:Program} {w:World} {A:Around} {E:Value->Shared->Prop} {s:Shared}
theorem max_list {l:Addr} {us:List Value} {ns:List Int} {Q:Value->Shared->Prop} (hh:A.handled=none) (f:s.heap.IsList l us.toArray) (hi:IntsAre us ns) (d:ns ≠ [])
  (h:∀ m t h' c,m∈ns->(∀ x∈ns,x<=m)->(∀ b o,s.heap.get? b=some o->h'.get? b=some o)->Q (.int m t) { s with heap:=h',toks:=c }) :
  wpAny (model prog w) A (call (.builtin "max") [.ref l]) Q E s:=by
 have a:l < s.heap.objs.size:=by obtain ⟨_,e,_⟩:=f;exact aJ2 e
 have hz:us.length=ns.length:=hi.length
 have u:0 < ns.length:=aF9.mpr d
 refine call_max_walk (aK4 f ?_)
 refine ⟨_,[s.heap.objs.size,l],_,_,_,_,_,rfl,Walks.list (A:=A.in1) hh _ l (aB6 a) us.toArray,⟨⟨_,aJ3 _ rfl,rfl,rfl⟩,f.push _⟩,fun b hb=>?_,by simp;omega,CmpOf.ints_gt (val ns) (fun i v=>ah8 hi i v),fun v h' c j q=>?_⟩
 ·show b < (s.heap.push _).objs.size
  rw [aK1]
  rcases aA9.mp hb with rfl | hb
  ·exact Nat.lt_succ_self _
  ·rcases aA9.mp hb with rfl | hb
   ·exact aF8 a
   ·cases hb
 ·obtain ⟨t,e⟩:=ah8 hi _ _ j
  obtain ⟨b1,g⟩:=ai2 (val ns) (us.toArray.size - 1)
  have hs:us.toArray.size=ns.length:=by simp [hz]
  rw [hs] at b1 g
  subst e
  refine h _ t h' c (aon (by rw [hs];omega)) (fun x r=>?_) fun b o e=>?_
  ·obtain ⟨i,n,e⟩:=ar1 r
   have:=g i (by omega)
   rw [e] at this
   rw [hs]
   exact this
  ·refine q b o (fun hm=>?_) (aJ1 _ e)
   rcases aA9.mp hm with p | hm
   ·exact absurd (p ▸ aJ2 e) (aG4 _)
   ·cases hm
theorem max_tup {l:Addr} {us:List Value} {ns:List Int} {Q:Value->Shared->Prop} (hh:A.handled=none) (g:s.heap.IsTuple l us.toArray) (hi:IntsAre us ns) (f:ns ≠ [])
  (h:∀ m t h' d,m∈ns->(∀ x∈ns,x<=m)->(∀ b o,s.heap.get? b=some o->h'.get? b=some o)->Q (.int m t) { s with heap:=h',toks:=d }) :
  wpAny (model prog w) A.in1 (pyIter (.ref l)) (fun it a=>∃ I fp j n P St bt,it=.ref I/\Walks prog w A.in1 I fp j n P St/\St 0 a.heap/\(∀ b∈fp,b < a.heap.objs.size)/\0 < n/\CmpOf prog w A.in1 .Gt P bt /\
   ∀ v h' d,P (argBest bt (n - 1)) v->(∀ b o,b ∉ j->a.heap.get? b=some o->h'.get? b=some o)->Q v { a with heap:=h',toks:=d }) E s:=by
 have c:l < s.heap.objs.size:=by obtain ⟨_,e,_⟩:=g;exact aJ2 e
 have hz:us.length=ns.length:=hi.length
 have B:0 < ns.length:=aF9.mpr f
 refine wpAny_pyIter_tuple g ?_
 refine ⟨_,[s.heap.objs.size,l],[_],_,_,_,_,rfl,Walks.tuple (A:=A.in1) hh _ l (aB6 c) us.toArray,⟨⟨_,aJ3 _ rfl,rfl,rfl⟩,g.push _⟩,fun b hb=>?_,by simp;omega,CmpOf.ints_gt (val ns) (fun i v=>ah8 hi i v),fun v h' d q z=>?_⟩
 ·show b < (s.heap.push _).objs.size
  rw [aK1]
  rcases aA9.mp hb with rfl | hb
  ·exact Nat.lt_succ_self _
  ·rcases aA9.mp hb with rfl | hb
   ·exact aF8 c
   ·cases hb
 ·obtain ⟨t,e⟩:=ah8 hi _ _ q
  obtain ⟨b1,p⟩:=ai2 (val ns) (us.toArray.size - 1)
  have hs:us.toArray.size=ns.length:=by simp [hz]
  rw [hs] at b1 p
  subst e
  refine h _ t h' d (aon (by rw [hs];omega)) (fun x u=>?_) fun b o e=>?_
  ·obtain ⟨i,r,e⟩:=ar1 u
   have:=p i (by omega)
   rw [e] at this
   rw [hs]
   exact this
  ·refine z b o (fun hm=>?_) (aJ1 _ e)
   rcases aA9.mp hm with y | hm
   ·exact absurd (y ▸ aJ2 e) (aG4 _)
   ·cases hm
end
end HT
namespace L2
open PySem PySem.Spec PyProof.Rows
section
variable {X:Cx}
def ad5 (ns:List Int) (m:Int):Prop:=m∈ns/\∀ x∈ns,x<=m
def ah9 (K:Frag):List V->Hp->VK->Prop:=fun xs H Q=>∃ (a:Addr) (ns:List Int),xs=[.ref a]/\(SqL K H a (ns.map V.int)\/SqT K H a (ns.map V.int))/\ns ≠ []/\∀ m,ad5 ns m->Q (.int m) H
theorem acx (j:X.calm=true):abd X (.builtin "max") (ah9 X.K):=by
 intro pins s σ H xs us Q I r h
 obtain ⟨a,ns,rfl,ha,b,q⟩:=h
 obtain ⟨u,rfl,n⟩:=ac7 r
 cases n
 rcases ha with ha | ha
 ·obtain ⟨its,c,f,_⟩:=I.list ha
  have g:IntsAre its.toArray.toList ns:=acb c
  exact HT.max_list (I.ok.hd j) f.isList (by simpa using g) b fun m t h' l i d kp=>⟨.int m,H,I.kept kp,⟨_,rfl⟩,q m ⟨i,d⟩⟩
 ·obtain ⟨its,c,f,_⟩:=I.tuple ha
  have g:IntsAre its.toArray.toList ns:=acb c
  refine call_max_walk (HT.max_tup (I.ok.hd j) f (by simpa using g) b fun m t h' l i d kp=>⟨.int m,H,I.kept kp,⟨_,rfl⟩,q m ⟨i,d⟩⟩)
end
def tTru (K:Frag) (ta:TE):TT:=fun σ H Q=>ta σ H fun x H'=>∃ k,TruV K x H' k/\Q k H'
def rIsN:R2:=fun x y H Q=>y=.non/\Q (.bl (decide (x=.non))) H
section
variable {X:Cx} {a:Expr} {ta:TE}
theorem azp (ha:PE X a ta) (b:∀ whole,isTrue a X.env whole=(do let v ← whole;standAt a.pos;holding [v] (truthy v)):=by intro _;rfl):PT X a (tTru X.K ta):=atn ha b
def acl (K:Frag):R2:=fun x y H Q=>rIxL K x y H Q\/rIxT K x y H Q
theorem aau:IxR X (acl X.K):=ix_list.or ay8
theorem ai3 {i j n:Int} {d f:Nat} {b p2 a:Pos} (h:i ^ j.toNat=n) (c:CPow i j):PE X (.BinOp (.Constant (.int i) d b) .Pow (.Constant (.int j) f p2) a) (tC (.int n)):=by
 intro pins s σ H Q I q
 subst h
 exact aam ay3 aad aad pins s σ H Q I ⟨i,j,rfl,rfl,c,q⟩
theorem ai4:OpR X (compareOp .Is) rIsN:=ay5
end
section
variable {σ:St} {H:Hp} {D:Ends} {K:Frag}
theorem afe {a:Addr} {xs:List V} {i:Int} {v:V} {Q:VK} (ha:H a=some (.lst xs)) (b:atI xs i=some v) (h:Q v H):acl K (.ref a) (.int i) H Q:=.inl (azg ha b h)
theorem at7 {a:Addr} {xs:List V} {i:Int} {v:V} {Q:VK} (ha:H a=some (.tup xs)) (b:atI xs i=some v) (h:Q v H):acl K (.ref a) (.int i) H Q:=.inr (azh ha b h)
theorem at8 {a:Addr} {xs:List V} {i:Int} {v:V} {Q:VK} (ha:SqL K H a xs) (b:atI xs i=some v) (h:Q v H):acl K (.ref a) (.int i) H Q:=.inl (azj ha b h)
theorem ab0 {A B:Prop} (h:A):if true=true then A else B:=by rw [aF5 rfl];exact h
theorem acg {A B:Prop} (h:B):if false=true then A else B:=by rw [aF6 aB0];exact h
theorem ai5 {A B:Prop} (h:B):if (!true)=true then A else B:=by rw [aF6 (by decide)];exact h
theorem ai6 {A B:Prop} (h:A):if (!false)=true then A else B:=by rw [aF5 (by decide)];exact h
theorem at9 {c:Prop} [Decidable c] {A B:Prop} (a:c) (h:B):if (!decide c)=true then A else B:=by rw [aD8 a];exact ai5 h
theorem aua {c:Prop} [Decidable c] {A B:Prop} (a:¬ c) (h:A):if (!decide c)=true then A else B:=by rw [aD7 a];exact ai6 h
theorem ahd {K:Frag}:kitOne K (.type "NoneType") (.type "int")=some false:=by first | rfl | decide
theorem ag0 {K:Frag}:kitOne K (.type "NoneType") (.type "bool")=some false:=by first | rfl | decide
theorem af2 {K:Frag}:kitOne K (.type "NoneType") (.type "tuple")=some false:=by first | rfl | decide
theorem ag1 {K:Frag}:kitOne K (.type "NoneType") (.type "list")=some false:=by first | rfl | decide
theorem ahe {K:Frag}:kitOne K (.type "NoneType") (.type "str")=some false:=by first | rfl | decide
theorem ag2 {K:Frag}:kitOne K (.type "NoneType") (.type "dict")=some false:=by first | rfl | decide
theorem al4 {K:Frag}:kitOne K (.type "bool") (.type "int")=some true:=by first | rfl | decide
theorem akq {K:Frag}:kitOne K (.type "bool") (.type "bool")=some true:=by first | rfl | decide
theorem ai7 {K:Frag}:kitOne K (.type "bool") (.type "tuple")=some false:=by first | rfl | decide
theorem akr {K:Frag}:kitOne K (.type "bool") (.type "list")=some false:=by first | rfl | decide
theorem al5 {K:Frag}:kitOne K (.type "bool") (.type "str")=some false:=by first | rfl | decide
theorem aks {K:Frag}:kitOne K (.type "bool") (.type "dict")=some false:=by first | rfl | decide
theorem anv {K:Frag}:kitOne K (.type "int") (.type "int")=some true:=by first | rfl | decide
theorem al6 {K:Frag}:kitOne K (.type "int") (.type "bool")=some false:=by first | rfl | decide
theorem akt {K:Frag}:kitOne K (.type "int") (.type "tuple")=some false:=by first | rfl | decide
theorem al7 {K:Frag}:kitOne K (.type "int") (.type "list")=some false:=by first | rfl | decide
theorem anw {K:Frag}:kitOne K (.type "int") (.type "str")=some false:=by first | rfl | decide
theorem al8 {K:Frag}:kitOne K (.type "int") (.type "dict")=some false:=by first | rfl | decide
theorem anx {K:Frag}:kitOne K (.type "str") (.type "int")=some false:=by first | rfl | decide
theorem al9 {K:Frag}:kitOne K (.type "str") (.type "bool")=some false:=by first | rfl | decide
theorem aku {K:Frag}:kitOne K (.type "str") (.type "tuple")=some false:=by first | rfl | decide
theorem ama {K:Frag}:kitOne K (.type "str") (.type "list")=some false:=by first | rfl | decide
theorem anz {K:Frag}:kitOne K (.type "str") (.type "str")=some true:=by first | rfl | decide
theorem amb {K:Frag}:kitOne K (.type "str") (.type "dict")=some false:=by first | rfl | decide
theorem amc {K:Frag}:kitOne K (.type "list") (.type "int")=some false:=by first | rfl | decide
theorem akv {K:Frag}:kitOne K (.type "list") (.type "bool")=some false:=by first | rfl | decide
theorem ai8 {K:Frag}:kitOne K (.type "list") (.type "tuple")=some false:=by first | rfl | decide
theorem akw {K:Frag}:kitOne K (.type "list") (.type "list")=some true:=by first | rfl | decide
theorem amd {K:Frag}:kitOne K (.type "list") (.type "str")=some false:=by first | rfl | decide
theorem akx {K:Frag}:kitOne K (.type "list") (.type "dict")=some false:=by first | rfl | decide
theorem aky {K:Frag}:kitOne K (.type "tuple") (.type "int")=some false:=by first | rfl | decide
theorem ai9 {K:Frag}:kitOne K (.type "tuple") (.type "bool")=some false:=by first | rfl | decide
theorem aia {K:Frag}:kitOne K (.type "tuple") (.type "tuple")=some true:=by first | rfl | decide
theorem aja {K:Frag}:kitOne K (.type "tuple") (.type "list")=some false:=by first | rfl | decide
theorem akz {K:Frag}:kitOne K (.type "tuple") (.type "str")=some false:=by first | rfl | decide
theorem ajb {K:Frag}:kitOne K (.type "tuple") (.type "dict")=some false:=by first | rfl | decide
theorem ame {K:Frag}:kitOne K (.type "dict") (.type "int")=some false:=by first | rfl | decide
theorem ak0 {K:Frag}:kitOne K (.type "dict") (.type "bool")=some false:=by first | rfl | decide
theorem ajc {K:Frag}:kitOne K (.type "dict") (.type "tuple")=some false:=by first | rfl | decide
theorem ak1 {K:Frag}:kitOne K (.type "dict") (.type "list")=some false:=by first | rfl | decide
theorem amf {K:Frag}:kitOne K (.type "dict") (.type "str")=some false:=by first | rfl | decide
theorem ak2 {K:Frag}:kitOne K (.type "dict") (.type "dict")=some true:=by first | rfl | decide
end
end L2
namespace L2
open PySem
section
variable {σ:St} {H:Hp} {K:Frag}
theorem abj {p:Addr} {o:HO} (a:H p=none):Same H (upd H p o):=fun b u e=>by rw [aae (aao e a)];exact e
theorem Same.at {H H':Hp} {b:Addr} {o:HO} (s:Same H H') (h:H b=some o):H' b=some o:=s b o h
end
section
variable {σ:St} {H:Hp} {K:Frag}
end
end L2
namespace Gr
inductive Walk (T:Int->Int->Prop) (u:Int):Nat->Int->Prop
 | refl:Walk T u 0 u
 | step {k:Nat} {v w:Int}:Walk T u k v->T v w->Walk T u (k+1) w
def Dist (T:Int->Int->Prop) (u v:Int) (d:Nat):Prop:=Walk T u d v/\∀ k,Walk T u k v->d<=k
theorem Dist.uniq {T:Int->Int->Prop} {u v:Int} {d e:Nat} (h:Dist T u v d) (g:Dist T u v e):d=e:=Nat.le_antisymm (h.2 _ g.1) (g.2 _ h.1)
theorem Dist.self (T:Int->Int->Prop) (u:Int):Dist T u u 0:=⟨.refl,fun _ _=>aG0 _⟩
theorem Dist.of_walk {T:Int->Int->Prop} {u v:Int} {k:Nat} (h:Walk T u k v):∃ d,d<=k/\Dist T u v d:=by
 induction k using Nat.strongRecOn with
 | ind k ih =>
  by_cases hx:∃ j,j < k/\Walk T u j v
  ·obtain ⟨j,a,w⟩:=hx
   obtain ⟨d,hd,e⟩:=ih j a w
   exact ⟨d,by omega,e⟩
  ·refine ⟨k,aA6 _,h,fun j w=>?_⟩
   by_cases a:j < k
   ·exact absurd ⟨j,a,w⟩ hx
   ·omega
theorem Dist.pred {T:Int->Int->Prop} {u w:Int} {d:Nat} (h:Dist T u w (d+1)):∃ v,T v w/\Dist T u v d:=by
 obtain ⟨b,hm⟩:=h
 cases b with
 | step hv ht =>
  rename_i v
  refine ⟨v,ht,hv,fun k a=>?_⟩
  have:=hm (k+1) (.step a ht)
  omega
theorem Dist.next {T:Int->Int->Prop} {u v w:Int} {d:Nat} (h:Dist T u v d) (t:T v w):∃ e,e<=d+1/\Dist T u w e:=Dist.of_walk (.step h.1 t)
structure Bfs (T:Int->Int->Prop) (a:Int) (line:List Int) (ds:List Nat) (at_:Nat):Prop where
 len:ds.length=line.length
 fst:line[0]?=some a
 nd:line.Nodup
 le:at_<=line.length
 dist:∀ (i:Nat) v d,line[i]?=some v->ds[i]?=some d->Dist T a v d
 mono:∀ (i j:Nat) d e,i<=j->ds[i]?=some d->ds[j]?=some e->d<=e
 near:∀ (i j:Nat) d e,at_<=i->ds[i]?=some d->ds[j]?=some e->e<=d+1
 done:∀ (i:Nat) v w,i < at_->line[i]?=some v->T v w->w∈line
theorem Bfs.start (T:Int->Int->Prop) (a:Int):Bfs T a [a] [0] 0:=by
 refine ⟨rfl,rfl,by simp,aG0 _,fun i v d c b=>?_,fun i j d e h c b=>?_,fun i j d e h c b=>?_,fun i v w h=>absurd h (by omega)⟩
 ·match i,c,b with
  | 0,c,b=>simp at c b;subst c b;exact Dist.self T a
  | i+1,c,_=>simp at c
 ·match j,b with
  | 0,b =>
   have:i=0:=by omega
   subst this
   rw [c] at b;cases b;exact aA6 _
  | j+1,b=>simp at b
 ·match i,j,c,b with
  | 0,0,c,b=>rw [c] at b;cases b;omega
  | i+1,_,c,_=>simp at c
  | 0,j+1,_,b=>simp at b
theorem Bfs.all {T:Int->Int->Prop} {a:Int} {line:List Int} {ds:List Nat} {at_:Nat} {d:Nat} (b:Bfs T a line ds at_) (hd:ds[at_]?=some d) :
  ∀ k w,k<=d->Dist T a w k->w∈line:=by
 intro k
 induction k with
 | zero =>
  intro w _ h
  have:w=a:=by
   cases h.1;rfl
  subst this
  exact aA2 b.fst
 | succ k ih =>
  intro w o h
  obtain ⟨v,l,j⟩:=h.pred
  have m:=ih v (by omega) j
  obtain ⟨i,hi,e⟩:=aH6.mp m
  have g:line[i]?=some v:=by rw [aA0 hi,e]
  have c:i < ds.length:=by rw [b.len];exact hi
  have f:ds[i]?=some ds[i]:=aA0 c
  have n:=(b.dist i v _ g f).uniq j
  by_cases hlt:i < at_
  ·exact b.done i v w hlt g l
  ·have:=b.mono at_ i d _ (by omega) hd f
   omega
theorem Bfs.add {T:Int->Int->Prop} {a:Int} {line:List Int} {ds:List Nat} {at_:Nat} {p w:Int} {d:Nat} (b:Bfs T a line ds at_) (o:line[at_]?=some p) (hd:ds[at_]?=some d) (t:T p w) (n:w ∉ line) :
  Bfs T a (line ++ [w]) (ds ++ [d+1]) at_:=by
 have s:at_ < line.length:=(aA1.mp o).1
 have z:Dist T a w (d+1):=by
  obtain ⟨e,C,h⟩:=(b.dist _ _ _ o hd).next t
  by_cases f:e<=d
  ·exact absurd (b.all hd e w f h) n
  ·have:e=d+1:=by omega
   rw [← this];exact h
 have g:∀ (j:Nat) e,(ds ++ [d+1])[j]?=some e->(ds[j]?=some e)\/(j=ds.length/\e=d+1):=by
  intro j e h
  rw [List.getElem?_append] at h
  split at h
  ·exact .inl h
  ·rename_i hj
   right
   have:j - ds.length=0:=by
    match hz:j - ds.length,h with
    | 0,_=>rfl
    | k+1,h=>simp at h
   rw [this] at h
   simp at h
   exact ⟨by omega,h.symm⟩
 refine ⟨by simp [b.len],?_,?_,by simp;omega,fun i v e c f=>?_,fun i j x y h c f=>?_,fun i j x y h c f=>?_,fun i v u h c tu=>?_⟩
 ·rw [aC3 (by omega)];exact b.fst
 ·rw [aE7]
  exact ⟨b.nd,by simp,fun x B y q=>by simp at q;subst q;intro e;subst e;exact n B⟩
 ·rcases g _ _ f with f | ⟨r,l⟩
  ·have hi:i < ds.length:=(aA1.mp f).1
   rw [aC3 (by rw [← b.len];exact hi)] at c
   exact b.dist i v e c f
  ·subst l
   rw [aC8 (by rw [← b.len];omega)] at c
   have:i - line.length=0:=by rw [← b.len];omega
   rw [this] at c
   simp at c;subst c
   exact z
 ·rcases g _ _ c with c | ⟨r,l⟩
  ·rcases g _ _ f with f | ⟨m,l⟩
   ·exact b.mono i j x y h c f
   ·subst l
    by_cases hia:at_<=i
    ·exact b.near at_ i d x (aA6 _) hd c
    ·have:=b.mono i at_ x d (by omega) c hd;omega
  ·rcases g _ _ f with f | ⟨m,A⟩
   ·have:=(aA1.mp f).1;omega
   ·omega
 ·rcases g _ _ c with c | ⟨r,l⟩
  ·rcases g _ _ f with f | ⟨m,l⟩
   ·exact b.near i j x y h c f
   ·subst l
    have:=b.mono at_ i d x h hd c;omega
  ·subst l
   rcases g _ _ f with f | ⟨m,l⟩
   ·have:=b.near at_ j d y (aA6 _) hd f;omega
   ·omega
 ·rw [aC3 (by omega)] at c
  exact aC7 _ (b.done i v u h c tu)
theorem Bfs.next {T:Int->Int->Prop} {a:Int} {line:List Int} {ds:List Nat} {at_:Nat} {p:Int} (b:Bfs T a line ds at_) (g:line[at_]?=some p) (h:∀ w,T p w->w∈line):Bfs T a line ds (at_+1):=by
 have c:at_ < line.length:=(aA1.mp g).1
 refine ⟨b.len,b.fst,b.nd,c,b.dist,b.mono,fun i j d e hi=>b.near i j d e (by omega),fun i v w hi f t=>?_⟩
 by_cases e:i=at_
 ·subst e
  rw [g] at f;cases f
  exact h w t
 ·exact b.done i v w (by omega) f t
theorem Bfs.fin {T:Int->Int->Prop} {a:Int} {line:List Int} {ds:List Nat} (b:Bfs T a line ds line.length):∀ k w,Walk T a k w->w∈line:=by
 intro k w h
 induction h with
 | refl=>exact aA2 b.fst
 | step _ t ih =>
  obtain ⟨i,hi,e⟩:=aH6.mp ih
  exact b.done i _ _ hi (by rw [aA0 hi,e]) t
end Gr
namespace L2
open PySem PySem.Spec PyProof.Rows
section
variable {σ:St} {H:Hp} {D:Ends} {K:Frag}
end
theorem few_places:∀ (n:Nat) (l:List Int),l.Nodup->(∀ v∈l,0<=v/\v < (n:Int))->l.length<=n
 | 0,l,_,h=>by
  cases l with
  | nil=>simp
  | cons v r=>have:=h v (by simp);omega
 | n+1,l,hn,h=>by
  have c:=few_places n (l.erase (n:Int)) (hn.erase _) fun v a=>by
   have hm:=List.mem_of_mem_erase a
   have hb:=h v hm
   have b:v ≠ (n:Int):=by
    rintro rfl
    exact absurd a (List.Nodup.not_mem_erase hn)
   omega
  have d:l.length<=(l.erase (n:Int)).length+1:=by
   rw [List.length_erase]
   split <;> omega
  omega
end L2
namespace L2
open PySem
end L2
namespace HT
open PySem PyProof.Rows
section
variable {prog:Program} {w:World} {A:Around} {E:Value->Shared->Prop} {s:Shared}
end
end HT
namespace L2
open PySem PySem.Spec PyProof.Rows
section
variable {X:Cx}
end
section
variable {X:Cx} {pins:List (Addr × Obj)} {σ:St} {H:Hp} {s:Shared} {A:Around} {E:Value->Shared->Prop} {Q:Value->Shared->Prop} {b:Bool}
end
section
variable {X:Cx}
end
end L2
namespace HT
open PySem PyProof.Rows L2
def LtAt (A:Around) (s:Shared) (y x:Value) (b:Bool):Prop :=
 ∀ (prog:Program) (w:World) (E:Value->Shared->Prop) (Q:Value->Shared->Prop),Q (.bool b) s->wpAny (model prog w) A (richCompare .Lt y x) Q E s
section
open PySem.SeqAt
open PySem.AutoSeq1 (wpAny_loadPart')
open PySem.MeetsSeq PySem.MeetsSeq2 PySem.MeetsSeq3
inductive Its (A:Around) (s:Shared):List Value->List Value->Bool->Prop
 | nn:Its A s [] [] false
 | nc {x:Value} {ys:List Value}:Its A s [] (x :: ys) true
 | cn {x:Value} {xs:List Value}:Its A s (x :: xs) [] false
 | eq {x y:Value} {xs ys:List Value} {b:Bool}:EqAt A s x y true->Its A s xs ys b->Its A s (x :: xs) (y :: ys) b
 | ne {x y:Value} {xs ys:List Value} {b:Bool}:EqAt A s x y false->LtAt A s x y b->Its A s (x :: xs) (y :: ys) b
end
section
variable {A:Around} {s:Shared}
end
end HT
namespace L2
open PySem PySem.Spec PyProof.Rows
section
variable {X:Cx}
end
end L2
namespace L2
open PySem
end L2
namespace TS
open PySem PyProof.Rows HT
theorem aoo:∀ x y:List Int,HT.lexLt x y=true->HT.lexLt y x=false
 | [],[],h=>by simp [HT.lexLt] at h
 | [],_ :: _,_=>rfl
 | _ :: _,[],h=>by simp [HT.lexLt] at h
 | a :: x,b :: y,h=>by
  rw [ad4] at h ⊢
  by_cases e:a=b
  ·subst e
   rw [aF5 rfl] at h ⊢
   exact aoo x y h
  ·rw [aF6 e] at h
   rw [aF6 (fun z=>e z.symm)]
   have:=of_decide_eq_true h
   exact aD7 (by omega)
theorem ar2:∀ x y z:List Int,HT.lexLt y x=false->HT.lexLt z y=false->HT.lexLt z x=false
 | _,[],[],h,_=>h
 | [],[],_ :: _,_,_=>rfl
 | _ :: _,[],_ :: _,h,_=>by simp [HT.lexLt] at h
 | _,_ :: _,[],_,h=>by simp [HT.lexLt] at h
 | [],_ :: _,_ :: _,_,_=>rfl
 | a :: x,b :: y,c :: z,h,g=>by
  rw [ad4] at h g ⊢
  by_cases e:b=a
  ·subst e
   rw [aF5 rfl] at h
   by_cases e2:c=b
   ·subst e2
    rw [aF5 rfl] at g ⊢
    exact ar2 x y z h g
   ·rw [aF6 e2] at g ⊢
    exact g
  ·rw [aF6 e] at h
   have h':=of_decide_eq_false h
   by_cases e2:c=b
   ·subst e2
    rw [aF6 e]
    exact h
   ·rw [aF6 e2] at g
    have g':=of_decide_eq_false g
    rw [aF6 (by omega)]
    exact aD7 (by omega)
def TI (h:Heap) (a:Addr) (ns:List Int):Prop:=∃ o xs n,h.get? a=some o/\o.cls=.type "tuple"/\o.data=.seq xs n/\IntsAre xs.toList ns
def kfV (kf:Addr->List Int):Value->List Int
 | .ref a=>kf a
 | _=>[]
section
variable {prog:Program} {w:World} {A:Around} {E:Value->Shared->Prop} {s:Shared}
theorem ag5 {fin:Bool} {Q:Bool->Shared->Prop}:∀ {xs ys:List Value} {ns c:List Int} (i:Nat),IntsAre xs ns->IntsAre ys c->(ns.length < c.length->fin=true)->(c.length<=ns.length->fin=false)->Q (HT.lexLt ns c) s ->
  PySem.W.KatLex prog w A true fin Q (xs.zip ys) i s
 | _,_,_,_,i,.nil,.nil,_,h2,q=>by
  rw [h2 (aA6 _)];exact q
 | _,_,_,_,i,.nil,.cons b u r,h1,_,q=>by
  rw [h1 (by simp)];exact q
 | _,_,_,_,i,.cons a t r,.nil,_,h2,q=>by
  rw [List.zip_nil_right,h2 (by simp)];exact q
 | _,_,_,_,i,.cons a t r,.cons b u r2,h1,h2,q=>by
  rw [List.zip_cons_cons]
  refine PySem.W.kat_cons (SeqAt.EqAt.int_int a t b u prog w _ _ ?_)
  rw [ad4] at q
  by_cases e:a=b
  ·subst e
   rw [aF5 rfl] at q
   rw [show (a == a)=true by simp]
   exact PySem.W.kat_yes (ag5 (i+1) r r2 (fun z=>h1 (by simpa using z)) (fun z=>h2 (by simpa using z)) q)
  ·rw [aF6 e] at q
   rw [show (a == b)=false by simpa using e]
   refine PySem.W.kat_no ?_
   by_cases hi:i=0
   ·subst hi
    exact oneLt_int q
   ·rw [show (true && i == 0)=false by simpa using hi]
    exact PySem.W.kat_one _ _ (PyProof.Rows.lt_int q)
def tS (h:Heap) (kf:Addr->List Int) (x:Keyed):Prop:=x.1=x.2/\∃ a,x.1=.ref a/\TI h a (kf a)
def tR (kf:Addr->List Int) (x y:Keyed):Bool:=HT.lexLt (kfV kf x.1) (kfV kf y.1)
theorem cmp_tups (i:Addr->List Int):Cmp (model prog w) A E s (tuples' true) (tS s.heap i) (tR i):=by
 refine ⟨fun x y v r Q st t q=>?_,fun x y _ _=>aoo _ _,fun x y z _ _ _=>ar2 _ _ _⟩
 obtain ⟨G,H⟩:=x
 obtain ⟨D,C⟩:=y
 obtain ⟨_,a,j,o,xs,n,p,F,l,d⟩:=v
 obtain ⟨_,b,h,o',ys,B,u,I,m,c⟩:=r
 dsimp only at j h
 subst j h
 rw [lt'_eq]
 refine wpS_bind (wpS_get ?_)
 rw [t]
 refine wpS_bind (wpS_lift (wpAny_attempt (PySem.W.kat_lt p l u m (ag5 0 d c (fun z=>?_) (fun z=>?_) ⟨rfl,?_⟩))))
 ·have f:=d.length;have g:=c.length
  simp at f g
  exact aD8 (by omega)
 ·have f:=d.length;have g:=c.length
  simp at f g
  exact aD7 (by omega)
 ·exact wpS_pure q
theorem aqb {vs:List Value} {ps:List Keyed} (h:ps.Perm (vs.zip vs)):(∀ p∈ps,p.1=p.2/\p.1∈vs)/\(ps.map (·.2)).Perm vs:=by
 refine ⟨fun p b=>mem_zip_self (h.mem_iff.mp b),?_⟩
 have a:=h.map (fun p=>p.2)
 have e:(vs.zip vs).map (fun p=>p.2)=vs:=List.map_snd_zip (aA6 _)
 rwa [e] at a
theorem list_sort_any {a:Addr} {vs:List Value} {n:Nat} {P:PySem.Fin->Shared->Prop} (j:s.heap.get? a=some (seqObj "list" vs.toArray n)) (c:vs.length<=sizeLine)
  (q:2<=vs.length->∀ h',(∀ b o,b ≠ a->s.heap.get? b=some o->h'.get? b=some o)->∃ κ S R,(∀ (Q:SortKind->Shared->Prop),Q κ { s with heap:=h' }->wpAny (model prog w) A (keyKind' vs.toArray) Q E { s with heap:=h' })/\Cmp (model prog w) A E { s with heap:=h' } κ S R/\(∀ v∈vs,S (v,v)) /\
   ∀ out:List Value,out.Perm vs->out.Pairwise (fun x y=>R (y,y) (x,x)=false)->P (.done (.ret .none)) { s with heap:=sortedHeap s.heap a vs out.toArray })
  (D:vs.length < 2->P (.done (.ret .none)) { s with heap:=sortedHeap s.heap a vs vs.toArray }) :
  wpAny (model prog w) A (Builtin.«list.sort» ⟨[.ref a],[]⟩) P E s:=by
 rw [list_sort_plain]
 have ha:a < s.heap.objs.size:=aJ2 j
 refine aI9 (listItems_at j rfl ?_)
 refine aI9 (listUpdate_at j rfl ?_ (by rw [aB2];exact c) (aG0 _))
 obtain ⟨p,g⟩:∃ p,(s.heap.update a (Obj.mapSeq fun _ => #[])).get? a=some (seqObj "list" #[] p):=⟨_,get?_update_seq j (fun _ => #[])⟩
 refine aI9 (seqEpoch_at g rfl ?_)
 refine aI9 (wpAny_newTuple ?_ (by show vs.length<=_;exact c))
 refine aI9 (wpAny_newList ?_ (aG0 _))
 refine aJ5 ?_
 have d:(((s.heap.update a (Obj.mapSeq fun _ => #[])).push (seqObj "tuple" vs.toArray 0)).push (seqObj "list" #[] 0)).get? a=some (seqObj "list" #[] p):=by
  rw [Heap.get?_push_ne _ _ _ (by rw [size_push',Heap.size_update];exact aB6 (aF8 ha)),Heap.get?_push_ne _ _ _ (by rw [Heap.size_update];exact aB6 ha)]
  exact g
 show wpAny (model prog w) A _ P E { s with heap:=((s.heap.update a (Obj.mapSeq fun _ => #[])).push (seqObj "tuple" vs.toArray 0)).push (seqObj "list" #[] 0) }
 dsimp only
 have G:vs.toArray.size=vs.length:=by simp
 have kp:∀ b o,b ≠ a->s.heap.get? b=some o->(((s.heap.update a (Obj.mapSeq fun _ => #[])).push (seqObj "tuple" vs.toArray 0)).push (seqObj "list" #[] 0)).get? b=some o:=fun b o hb e=>by
  refine aJ1 _ (aJ1 _ ?_)
  rw [Heap.get?_update_ne _ _ _ _ hb];exact e
 by_cases h2:vs.toArray.size < 2
 ·rw [aF5 h2,aF5 h2]
  refine aI9 (aJ0 ?_)
  rw [StateT.run_pure]
  refine aI9 (aJ0 ?_)
  dsimp only
  have m:(arrOf (SortSt.mk' general' (vs.toArray.zip vs.toArray) #[] 7 none)).map (·.2)=vs.toArray:=by
   show (vs.toArray.zip vs.toArray).map (·.2)=vs.toArray
   apply Array.toList_inj.mp
   rw [Array.toList_map,Array.toList_zip]
   exact List.map_snd_zip (aA6 _)
  rw [m]
  refine aI9 (seqEpoch_at d rfl ?_)
  refine aI9 (listUpdate_at d rfl ?_ (aG0 _) (by rw [aB2];exact Nat.le_succ_of_le c))
  simp only [bne_self_eq_false,Bool.false_eq_true,if_false]
  exact aJ0 (D (by omega))
 ·rw [aF6 h2,aF6 h2]
  obtain ⟨κ,S,R,I,C,z,h⟩:=q (by omega) _ kp
  refine aI9 (I _ ?_)
  refine aI9 (aJ8 (aw2 C (a0:=vs.toArray.zip vs.toArray) (st:=SortSt.mk' κ (vs.toArray.zip vs.toArray) #[] 7 none) (Q:=fun _ st'=>failedOf st'=none/\(arrOf st').toList.Perm (vs.zip vs)/\Srt R (arrOf st').toList) (fun x r=>?_) rfl rfl rfl rfl fun st' L u s'=>⟨L,by simpa using u,s'⟩) ?_ fun _ _ e=>e)
  ·have:x∈vs.zip vs:=by simpa using r
   obtain ⟨i,f⟩:=mem_zip_self this
   obtain ⟨H,J⟩:=x
   dsimp only at i f
   subst i
   exact z _ f
  rintro ⟨⟨⟩,st'⟩ s' ⟨rfl,hf,F,hs⟩
  dsimp only
  obtain ⟨i,f⟩:=aqb F
  have m:(arrOf st').map (·.2)=(((arrOf st').toList.map (·.2)).toArray):=by
   apply Array.toList_inj.mp
   simp
  rw [m]
  have l:((arrOf st').toList.map (·.2)).length=vs.length:=f.length_eq
  refine aI9 (seqEpoch_at d rfl ?_)
  refine aI9 (listUpdate_at d rfl ?_ (aG0 _) (by rw [aB2,l];exact Nat.le_succ_of_le c))
  rw [hf]
  simp only [bne_self_eq_false,Bool.false_eq_true,if_false]
  refine aJ0 (h _ f ?_)
  rw [aG1]
  refine aI0 ?_ hs
  intro x y r B K
  have ex:=(i x r).1
  have t:=(i y B).1
  obtain ⟨H,J⟩:=x
  obtain ⟨N,M⟩:=y
  dsimp only at ex t
  subst ex t
  exact K
theorem sorted_any {l:Addr} {vs:List Value} {Q:Value->Shared->Prop} (r:s.heap.IsList l vs.toArray) (a:vs.length<=sizeLine)
  (i:2<=vs.length->∀ h',(∀ b o,s.heap.get? b=some o->h'.get? b=some o)->∃ κ S R,(∀ (Q:SortKind->Shared->Prop),Q κ { s with heap:=h' }->wpAny (model prog w) A.in1.in1 (keyKind' vs.toArray) Q E { s with heap:=h' })/\Cmp (model prog w) A.in1.in1 E { s with heap:=h' } κ S R/\(∀ v∈vs,S (v,v)) /\
   ∀ out:List Value,out.Perm vs->out.Pairwise (fun x y=>R (y,y) (x,x)=false)->Q (.ref (s.heap.objs.size+1)) { s with heap:=sortedAll s.heap vs out.toArray })
  (p:vs.length < 2->Q (.ref (s.heap.objs.size+1)) { s with heap:=sortedAll s.heap vs vs.toArray }) :
  wpAny (model prog w) A (call (.builtin "sorted") [.ref l]) Q E s:=by
 refine Calls.call_function_entry kind_sorted plain_sorted entry_sorted (args_sorted1 _) ?_
 unfold Builtin.«sorted»
 refine aI9 (m:=checkCount "sorted" 1 1 _) (aJ0 ?_)
 refine aI9 (collect_list r ?_ a)
 refine aI9 (wpAny_newList ?_ a)
 have d:((s.heap.push (seqObj "list" #[] 0)).update s.heap.objs.size (Obj.mapSeq (· ++ vs.toArray))).objs.size=s.heap.objs.size+1:=by
  rw [Heap.size_update,size_push']
 have f:(((s.heap.push (seqObj "list" #[] 0)).update s.heap.objs.size (Obj.mapSeq (· ++ vs.toArray))).push (seqObj "list" vs.toArray 0)).get? (s.heap.objs.size+1)=some (seqObj "list" vs.toArray 0):=by
  rw [← d];exact aJ3 _ rfl
 have keep:∀ b o,s.heap.get? b=some o->(((s.heap.push (seqObj "list" #[] 0)).update s.heap.objs.size (Obj.mapSeq (· ++ vs.toArray))).push (seqObj "list" vs.toArray 0)).get? b=some o:=fun b o q=>by
  have c:b < s.heap.objs.size:=aJ2 q
  rw [Heap.get?_push_ne _ _ _ (by rw [d];exact aB6 (aF8 c)),Heap.get?_update_ne _ _ _ _ (aB6 c),Heap.get?_push_ne _ _ _ (aB6 c)]
  exact q
 show wpAny _ _ _ _ _ { s with heap:=((s.heap.push (seqObj "list" #[] 0)).update s.heap.objs.size (Obj.mapSeq (· ++ vs.toArray))).push (seqObj "list" vs.toArray 0) }
 rw [d]
 refine aI9 (aJ5 (aK2 slot_list_sort ⟨_,f,rfl⟩ entry_list_sort ?body (args_list_sort _)))
 case body =>
  refine list_sort_any (s:={ s with heap:=((s.heap.push (seqObj "list" #[] 0)).update s.heap.objs.size (Obj.mapSeq (· ++ vs.toArray))).push (seqObj "list" vs.toArray 0) }) f a (fun h h' kp=>?_) fun c=>?_
  ·obtain ⟨κ,S,R,t,C,n,g⟩:=i h h' fun b o e=>kp b o (aB6 (aF8 (aJ2 e))) (keep b o e)
   exact ⟨κ,S,R,t,C,n,fun out u j=>⟨_,rfl,aJ0 ⟨_,rfl,g out u j⟩⟩⟩
  ·exact ⟨_,rfl,aJ0 ⟨_,rfl,p c⟩⟩
end
end TS
namespace L2
open PySem PySem.Spec PyProof.Rows
def toI:V->Int
 | .int i=>i
 | _=>0
def kH (H:Hp):V->List Int
 | .ref t=>match H t with
  | some (.tup xs)=>xs.map toI
  | _=>[]
 | _=>[]
theorem aw3 (ns:List Int):(ns.map V.int).map toI=ns:=by
 rw [aE0]
 have:(toI ∘ V.int)=id:=by funext i;rfl
 rw [this,List.map_id]
theorem aib {H:Hp} {t:Addr} {ns:List Int} (h:H t=some (.tup (ns.map V.int))):kH H (.ref t)=ns:=by
 simp only [kH,h];exact aw3 ns
def TupI (H:Hp) (v:V):Prop:=∃ t ns,v=.ref t/\H t=some (.tup (ns.map V.int))/\ns ≠ []
def acs:Value->V
 | .ref a => .ref a
 | _ => .non
theorem af3:∀ {us:List Value},(∀ u∈us,∃ a,u=.ref a)->Vals (us.map acs) us
 | [],_ => .nil
 | u :: us,h=>by
  obtain ⟨a,e⟩:=h u aB8
  subst e
  exact .cons rfl (af3 fun v b=>h v (aB5 _ b))
theorem aj0 {H:Hp}:∀ {vs:List V} {us:List Value},Vals vs us->(∀ v∈vs,TupI H v)->(∀ u∈us,∃ a,u=.ref a)/\us.map acs=vs
 | _,_,.nil,_=>⟨fun u g=>(by cases g),rfl⟩
 | v :: vs,u :: us,.cons r t,h=>by
  obtain ⟨a,ns,rfl,_,_⟩:=h v aB8
  cases r
  obtain ⟨c,d⟩:=aj0 t fun v f=>h v (aB5 _ f)
  refine ⟨fun x b=>?_,by rw [aD1,d];rfl⟩
  rcases aA9.mp b with rfl | b
  ·exact ⟨_,rfl⟩
  ·exact c x b
section
variable {X:Cx}
def aic (K:Frag):List V->Hp->VK->Prop:=fun xs H Q=>∃ (a:Addr) (vs:List V),xs=[.ref a]/\SqL K H a vs/\(∀ v∈vs,TupI H v) /\
 ∀ (vs':List V) (p:Addr),vs'.Perm vs->vs'.Pairwise (fun x y=>HT.lexLt (kH H y) (kH H x)=false)->H p=none->Q (.ref p) (upd H p (.lst vs'))
theorem ahf {H:Hp} {pins:List (Addr × Obj)} {σ:St} {s:Shared} (I:Inv X pins σ H s) {h':Heap} (kp:∀ b o,s.heap.get? b=some o->h'.get? b=some o):∀ {vs:List V} {us:List Value},Vals vs us->(∀ v∈vs,TupI H v) ->
  (∃ fs,PySem.W.KatTups h' us fs/\fs.length=us.length/\∀ f∈fs,∃ i t,f=.int i t)/\∀ u∈us,∃ a,u=.ref a/\TS.TI h' a (kH H (.ref a))
 | _,_,.nil,_=>⟨⟨[],trivial,rfl,fun f hf=>by cases hf⟩,fun u z=>by cases z⟩
 | v :: vs,u :: us,.cons r t,h=>by
  obtain ⟨a,ns,rfl,e,d⟩:=h v aB8
  cases r
  obtain ⟨⟨fs,k1,k2,k3⟩,D⟩:=ahf I kp t fun v y=>h v (aB5 _ y)
  obtain ⟨_,its,B,o,q,p,n,m⟩:=(show ObjOk X.prog X.w H s.heap a (.tup (ns.map V.int)) from I.hok a _ e)
  have hi:IntsAre its ns:=by simpa using (acb B:IntsAre its.toArray.toList ns)
  have C:TS.TI h' a (kH H (.ref a)):=⟨o,its.toArray,n,kp _ _ q,p,m,by rw [aib e];simpa using hi⟩
  obtain ⟨f,hf,i,c,A⟩:∃ f,its.toArray[0]?=some f/\∃ i t,f=.int i t:=by
   cases hi with
   | nil=>exact absurd rfl d
   | cons i c _=>exact ⟨_,by simp,i,c,rfl⟩
  refine ⟨⟨f :: fs,PySem.W.KatTups.cons (kp _ _ q) p m hf k1,by simp [k2],fun g j=>?_⟩,fun x l=>?_⟩
  ·rcases aA9.mp j with rfl | j
   ·exact ⟨i,c,A⟩
   ·exact k3 g j
  ·rcases aA9.mp l with rfl | l
   ·exact ⟨a,rfl,C⟩
   ·exact D x l
theorem amh {α:Type} {R : α->α->Prop}:∀ {l:List α},l.length < 2->l.Pairwise R
 | [],_=>List.Pairwise.nil
 | [_],_=>List.pairwise_singleton _ _
 | _ :: _ :: _,h=>absurd h (by simp)
theorem aff:abd X (.builtin "sorted") (aic X.K):=by
 intro pins s σ H xs us Q I r h
 obtain ⟨a,vs,rfl,ha,n,q⟩:=h
 obtain ⟨u,rfl,G⟩:=ac7 r
 cases G
 obtain ⟨its,j,w,hz⟩:=I.list ha
 obtain ⟨b1,E⟩:=aj0 j n
 have c:its.length<=sizeLine:=by rw [← j.length];exact hz
 have d:H (s.heap.objs.size+1)=none:=I.hok.fresh (Nat.le_succ _)
 have fin:∀ out:List Value,out.Perm its->(out.map acs).Pairwise (fun x y=>HT.lexLt (kH H y) (kH H x)=false)->EP X pins σ Q (.ref (s.heap.objs.size+1)) { s with heap:=sortedAll s.heap its out.toArray }:=by
  intro out f hs
  obtain ⟨e,J⟩:=sortedAll_at s.heap its out.toArray
  have g:Vals (out.map acs) out:=af3 fun u A=>b1 u (f.mem_iff.mp A)
  refine ⟨.ref (s.heap.objs.size+1),_,I.laid (t':=s.toks) (o:=.lst (out.map acs)) (fun b O q=>sortedAll_old q) (Nat.le_succ _) ?_,rfl,q _ _ ?_ hs d⟩
  ·refine ⟨by rw [aA3,f.length_eq];exact c,out,e,g,by rw [J]⟩
  ·rw [← E];exact f.map acs
 refine TS.sorted_any w.isList c (fun p h' kp=>?_) fun l=>?_
 ·obtain ⟨⟨fs,k1,k2,k3⟩,D⟩:=ahf I kp j n
  have m:(Value.type "int" != Value.type "tuple")=true:=by rfl
  refine ⟨tuples' true,TS.tS h' (fun a=>kH H (.ref a)),TS.tR (fun a=>kH H (.ref a)),fun N z=>?_,TS.cmp_tups (s:={ s with heap:=h' }) (fun a=>kH H (.ref a)),fun v g=>?_,fun out f hs=>fin out f ?_⟩
  ·refine PySem.W.kat_kind (T:=.type "int") (s:={ s with heap:=h' }) k1 (by omega) (fun v g=>?_) (by rfl) ?_
   ·obtain ⟨i,t,rfl⟩:=k3 v g
    exact .now
   ·rw [m];exact z
  ·obtain ⟨a,e,C⟩:=D v g
   exact ⟨rfl,a,e,C⟩
  ·rw [aG1]
   refine aI0 ?_ hs
   intro x y L B F
   obtain ⟨M,rfl⟩:=b1 x (f.mem_iff.mp L)
   obtain ⟨P,rfl⟩:=b1 y (f.mem_iff.mp B)
   exact F
 ·refine fin its (List.Perm.refl _) ?_
  exact amh (by rw [aA3];exact l)
end
end L2
namespace HT
open PySem PySem.Spec PyProof.Rows L2
section
variable {prog:Program} {w:World} {A:Around} {kw:List (Str × Value)} {R:Result->Shared->Prop} {I S:Addr} {fp wr:List Addr} {n:Nat} {P:Nat->Value->Prop} {St:Nat->Heap->Prop} {Hd:Heap->Prop}
end
section
variable {prog:Program} {w:World} {A:Around} {E:Value->Shared->Prop} {s:Shared}
end
end HT
namespace L2
open PySem PySem.Spec PyProof.Rows
section
variable {X:Cx} {x:Str} {p pos kpos:Pos} {e en:Expr} {t:TA}
end
end L2
namespace HT
open PySem PySem.Spec PyProof.Rows
section
variable {prog:Program} {w:World} {A:Around} {E:Value->Shared->Prop} {s:Shared}
end
end HT
namespace L2
open PySem PySem.Spec PyProof.Rows
section
variable {X:Cx}
end
end L2
namespace VL
open PySem PySem.Spec L2
def kD:Key->PyData
 | .inl i => .int i
 | .inr x => .str x
mutual
inductive Rp (G:Hp):V->PyData->Prop
 | non:Rp G .non .none
 | bl (b:Bool):Rp G (.bl b) (.bool b)
 | int (i:Int):Rp G (.int i) (.int i)
 | str (x:Str):Rp G (.str x) (.str x)
 | lst {a:Addr} {xs:List V} {ds:List PyData}:G a=some (.lst xs)->Rps G xs ds->Rp G (.ref a) (.list ds)
 | tup {a:Addr} {xs:List V} {ds:List PyData}:G a=some (.tup xs)->Rps G xs ds->Rp G (.ref a) (.tuple ds)
 | dk {a:Addr} {kvs:List (Key × V)} {es:List (Key × PyData)} {ds:List (PyData × PyData)}:G a=some (.dK kvs)->RpK G kvs es->ds=es.map (fun p=>(kD p.1,p.2))->Rp G (.ref a) (.dict ds)
 | dt {a:Addr} {kvs:List (List Key × V)} {es:List (List Key × PyData)} {ds:List (PyData × PyData)}:G a=some (.dT kvs)->RpT G kvs es->ds=es.map (fun p=>(.tuple (p.1.map kD),p.2))->Rp G (.ref a) (.dict ds)
inductive Rps (G:Hp):List V->List PyData->Prop
 | nil:Rps G [] []
 | cons {v:V} {vs:List V} {d:PyData} {ds:List PyData}:Rp G v d->Rps G vs ds->Rps G (v :: vs) (d :: ds)
inductive RpK (G:Hp):List (Key × V)->List (Key × PyData)->Prop
 | nil:RpK G [] []
 | cons {k:Key} {v:V} {d:PyData} {r:List (Key × V)} {s:List (Key × PyData)}:Rp G v d->RpK G r s->RpK G ((k,v) :: r) ((k,d) :: s)
inductive RpT (G:Hp):List (List Key × V)->List (List Key × PyData)->Prop
 | nil:RpT G [] []
 | cons {k:List Key} {v:V} {d:PyData} {r:List (List Key × V)} {s:List (List Key × PyData)}:Rp G v d->RpT G r s->RpT G ((k,v) :: r) ((k,d) :: s)
end
mutual
theorem Rp.same {G G':Hp} (s:Same G G'):∀ {v:V} {d:PyData},Rp G v d->Rp G' v d
 | _,_,.non => .non
 | _,_,.bl b => .bl b
 | _,_,.int i => .int i
 | _,_,.str x => .str x
 | _,_,.lst h r => .lst (s _ _ h) (Rps.same s r)
 | _,_,.tup h r => .tup (s _ _ h) (Rps.same s r)
 | _,_,.dk h r e => .dk (s _ _ h) (RpK.same s r) e
 | _,_,.dt h r e => .dt (s _ _ h) (RpT.same s r) e
theorem Rps.same {G G':Hp} (s:Same G G'):∀ {vs:List V} {ds:List PyData},Rps G vs ds->Rps G' vs ds
 | _,_,.nil => .nil
 | _,_,.cons r t => .cons (Rp.same s r) (Rps.same s t)
theorem RpK.same {G G':Hp} (s:Same G G'):∀ {vs:List (Key × V)} {ds:List (Key × PyData)},RpK G vs ds->RpK G' vs ds
 | _,_,.nil => .nil
 | _,_,.cons r t => .cons (Rp.same s r) (RpK.same s t)
theorem RpT.same {G G':Hp} (s:Same G G'):∀ {vs:List (List Key × V)} {ds:List (List Key × PyData)},RpT G vs ds->RpT G' vs ds
 | _,_,.nil => .nil
 | _,_,.cons r t => .cons (Rp.same s r) (RpT.same s t)
end
theorem Rps.length {G:Hp}:∀ {vs:List V} {ds:List PyData},Rps G vs ds->vs.length=ds.length
 | _,_,.nil=>rfl
 | _,_,.cons _ t=>by simp [Rps.length t]
theorem Rps.get {G:Hp}:∀ {vs:List V} {ds:List PyData} {i:Nat} {d:PyData},Rps G vs ds->ds[i]?=some d->∃ v,vs[i]?=some v/\Rp G v d
 | _,_,_,_,.nil,e=>by simp at e
 | _,_,0,_,.cons r _,e=>by simp at e;subst e;exact ⟨_,rfl,r⟩
 | _,_,i+1,d,.cons _ t,e=>by
  obtain ⟨u,a,b⟩:=Rps.get (i:=i) (d:=d) t (by simpa using e)
  exact ⟨u,by simpa using a,b⟩
theorem Rps.append {G:Hp}:∀ {vs ws:List V} {ds es:List PyData},Rps G vs ds->Rps G ws es->Rps G (vs ++ ws) (ds ++ es)
 | _,_,_,_,.nil,s=>s
 | _,_,_,_,.cons r t,s => .cons r (Rps.append t s)
theorem Rps.set {G:Hp} {v:V} {d:PyData} (h:Rp G v d):∀ {vs:List V} {ds:List PyData} (i:Nat),Rps G vs ds->Rps G (vs.set i v) (ds.set i d)
 | _,_,_,.nil => .nil
 | _,_,0,.cons _ t => .cons h t
 | _,_,i+1,.cons r t => .cons r (Rps.set h i t)
theorem Rps.erase {G:Hp}:∀ {vs:List V} {ds:List PyData} (i:Nat),Rps G vs ds->Rps G (vs.eraseIdx i) (ds.eraseIdx i)
 | _,_,_,.nil => .nil
 | _,_,0,.cons _ t=>t
 | _,_,i+1,.cons r t => .cons r (Rps.erase i t)
theorem Rps.rep {G:Hp} {vs:List V} {ds:List PyData} (h:Rps G vs ds):∀ (k:Nat),Rps G (List.replicate k vs).flatten (List.replicate k ds).flatten
 | 0 => .nil
 | k+1=>by
  rw [aH3,aH3,List.flatten_cons,List.flatten_cons]
  exact h.append (Rps.rep h k)
theorem Rps.ints {G:Hp}:∀ (ns:List Int),Rps G (ns.map V.int) (ns.map PyData.int)
 | [] => .nil
 | n :: ns => .cons (.int n) (Rps.ints ns)
theorem Rps.ints_inv {G:Hp}:∀ {ns:List Int} {vs:List V},Rps G vs (ns.map PyData.int)->vs=ns.map V.int
 | [],_,.nil=>rfl
 | n :: ns,_,.cons r t=>by
  cases r
  rw [Rps.ints_inv t];rfl
mutual
theorem Rp.rep {G:Hp}:∀ {v:V} {d:PyData},Rp G v d->aaq d=true->Rep G v d
 | _,_,.non,_ => .non
 | _,_,.bl b,_ => .bl b
 | _,_,.int i,_ => .int i
 | _,_,.str x,_ => .str x
 | _,_,.lst h r,p => .lst h (Rps.reps r (by simpa [aaq] using p))
 | _,_,.tup h r,p => .tup h (Rps.reps r (by simpa [aaq] using p))
 | _,_,.dk h r e,p=>by simp [aaq] at p
 | _,_,.dt h r e,p=>by simp [aaq] at p
theorem Rps.reps {G:Hp}:∀ {vs:List V} {ds:List PyData},Rps G vs ds->plainDs ds=true->Reps G vs ds
 | _,_,.nil,_ => .nil
 | _,_,.cons r t,p=>by
  simp only [plainDs,aH1] at p
  exact .cons (Rp.rep r p.1) (Rps.reps t p.2)
end
structure Own where
 P:Hp->Hp->V->(Addr->Prop)->Prop
 mono:∀ {G H G' H':Hp} {v:V} {F:Addr->Prop},P G H v F->Same G G'->(∀ a o,F a->H a=some o->H' a=some o)->P G' H' v F
 dom:∀ {G H:Hp} {v:V} {F:Addr->Prop},P G H v F->∀ a,F a->∃ o,H a=some o
inductive Sl where
 | st (d:PyData) | own (A:Own) | io (A:Own) | scr (ns:List Int)
abbrev En:=List (Option Sl)
structure Bs where
 K:Frag
 G:Hp
 H:Hp
 R:Hp
 S:St
 F:Nat->Addr->Prop
def SlOk (B:Bs) (G H:Hp) (i:Nat) (v:V) (F:Addr->Prop):Sl->Prop
 | .st d=>Rp G v d/\∀ a,¬ F a
 | .own A=>A.P G H v F/\∀ a,F a->B.H a=none
 | .io A=>A.P G H v F/\(∀ a,F a->B.F i a\/B.H a=none)/\B.S[i]?=some (some v)
 | .scr ns=>(∃ a,v=.ref a/\SqL B.K G a (ns.map V.int))/\∀ a,¬ F a
def FT (G H:Hp):Prop:=∀ (a:Addr) (ks:List Key),H a=some (.tup (ks.map kV))->G a=some (.tup (ks.map kV))
structure VI (B:Bs) (G H:Hp) (σ:St) (env:En) (F:Nat->Addr->Prop):Prop where
 gh:Same G H
 g0:Same B.G G
 gn:∀ a o,G a=some o->B.G a=some o\/B.H a=none
 rs:Same B.R H
 rb:Same B.R B.H
 bh:∀ a o,B.H a=some o->∃ o',H a=some o'
 fg:∀ i a,F i a->G a=none
 fr:∀ i a,F i a->B.R a=none
 fd:∀ i j a,F i a->F j a->i=j
 fo:∀ i a,F i a->∃ o,H a=some o
 sl:∀ i s,env[i]?=some (some s)->∃ v,σ[i]?=some (some v)/\SlOk B G H i v (F i) s
 ln : σ.length=env.length
 ft:FT G H
def RsOk (G H:Hp) (v:V) (F:Addr->Prop):Sl->Prop
 | .st d=>Rp G v d/\∀ a,¬ F a
 | .own A=>A.P G H v F
 | _=>False
structure RsX (B:Bs) (G H:Hp) (v:V) (Fv:Addr->Prop) (s:Sl) (F:Nat->Addr->Prop):Prop where
 ok:RsOk G H v Fv s
 fb:∀ a,Fv a->B.H a=none
 fg:∀ a,Fv a->G a=none
 fo:∀ a,Fv a->∃ o,H a=some o
 fd:∀ j a,Fv a->¬ F j a
structure Out (G H:Hp) (v:V) (G' H':Hp) (s:Sl) (Fv:Addr->Prop):Prop where
 gg:Same G G'
 gh:Same G' H'
 hh:Same H H'
 gn:∀ a o,G' a=some o->G a=some o\/H a=none
 fn:∀ a,Fv a->H a=none
 fg:∀ a,Fv a->G' a=none
 fo:∀ a,Fv a->∃ o,H' a=some o
 ok:RsOk G' H' v Fv s
 ft:FT G H->FT G' H'
theorem aqc {α:Type} {o:Option α} (h:o ≠ none):∃ x,o=some x:=by
 cases o with
 | none=>exact absurd rfl h
 | some x=>exact ⟨x,rfl⟩
theorem SlOk.mono {B:Bs} {G H G' H':Hp} {i:Nat} {v:V} {F:Addr->Prop} {s:Sl} (h:SlOk B G H i v F s) (g:Same G G') (hh:∀ a o,F a->H a=some o->H' a=some o):SlOk B G' H' i v F s:=by
 cases s with
 | st d=>exact ⟨h.1.same g,h.2⟩
 | own A=>exact ⟨A.mono h.1 g hh,h.2⟩
 | io A=>exact ⟨A.mono h.1 g hh,h.2⟩
 | scr ns =>
  obtain ⟨⟨a,e,q⟩,n⟩:=h
  exact ⟨⟨a,e,g.seq q⟩,n⟩
section
variable {B:Bs} {G H G' H':Hp} {σ:St} {env:En} {F:Nat->Addr->Prop} {v:V} {s:Sl} {Fv:Addr->Prop}
theorem VI.no_r (I:VI B G H σ env F) {a:Addr} (h:H a=none):B.R a=none:=by
 cases e:B.R a with
 | none=>rfl
 | some o=>rw [I.rs a o e] at h;cases h
theorem VI.no_b (I:VI B G H σ env F) {a:Addr} (h:H a=none):B.H a=none:=by
 cases e:B.H a with
 | none=>rfl
 | some o=>obtain ⟨o',b⟩:=I.bh a o e;rw [b] at h;cases h
theorem VI.no_g (I:VI B G H σ env F) {a:Addr} (h:H a=none):G a=none:=by
 cases e:G a with
 | none=>rfl
 | some o=>rw [I.gh a o e] at h;cases h
theorem VI.no_f (I:VI B G H σ env F) {a:Addr} (h:H a=none) (i:Nat):¬ F i a:=fun z=>by
 obtain ⟨o,e⟩:=I.fo i a z;rw [e] at h;cases h
theorem VI.grow (I:VI B G H σ env F) (gg:Same G G') (gh:Same G' H') (hh:Same H H') (gn:∀ a o,G' a=some o->G a=some o\/H a=none) (ft:FT G' H'):VI B G' H' σ env F where
 gh:=gh
 g0:=I.g0.trans gg
 gn:=fun a o e=>by
  rcases gn a o e with e | e
  ·exact I.gn a o e
  ·exact .inr (I.no_b e)
 rs:=I.rs.trans hh
 rb:=I.rb
 bh:=fun a o e=>by obtain ⟨o',b⟩:=I.bh a o e;exact ⟨o',hh _ _ b⟩
 fg:=fun i a z=>by
  cases e:G' a with
  | none=>rfl
  | some o =>
   rcases gn a o e with e | e
   ·rw [I.fg i a z] at e;cases e
   ·exact absurd z (I.no_f e i)
 fr:=I.fr
 fd:=I.fd
 fo:=fun i a z=>by obtain ⟨o,e⟩:=I.fo i a z;exact ⟨o,hh _ _ e⟩
 sl:=fun i s e=>by
  obtain ⟨v,d,c⟩:=I.sl i s e
  exact ⟨v,d,c.mono gg fun a o _ q=>hh _ _ q⟩
 ln:=I.ln
 ft:=ft
theorem VI.out (I:VI B G H σ env F) (o:Out G H v G' H' s Fv):VI B G' H' σ env F/\RsX B G' H' v Fv s F :=
 ⟨I.grow o.gg o.gh o.hh o.gn (o.ft I.ft),o.ok,fun a z=>I.no_b (o.fn a z),o.fg,o.fo,fun j a z y=>I.no_f (o.fn a z) j y⟩
theorem VI.b_r (I:VI B G H σ env F) {a:Addr} (h:B.H a=none):B.R a=none:=by
 cases e:B.R a with
 | none=>rfl
 | some o=>rw [I.rb a o e] at h;cases h
def putF (F:Nat->Addr->Prop) (i:Nat) (Fv:Addr->Prop):Nat->Addr->Prop:=fun j a=>if j=i then Fv a else F j a
theorem putF_same {i:Nat} {a:Addr}:putF F i Fv i a ↔ Fv a:=by unfold putF;rw [aF5 rfl]
theorem ae1 {i:Nat}:putF F i Fv i=Fv:=by funext a;unfold putF;rw [aF5 rfl]
theorem aa8 {i j:Nat} (h:j ≠ i):putF F i Fv j=F j:=by funext a;unfold putF;rw [aF6 h]
theorem VI.slot (I:VI B G H σ env F) (i:Nat) (o:Option V) (os:Option Sl) (fg:∀ a,Fv a->G a=none) (fr:∀ a,Fv a->B.R a=none) (fo:∀ a,Fv a->∃ o,H a=some o) (fd:∀ j a,j ≠ i->Fv a->¬ F j a)
  (ok:∀ s,os=some s->∃ v,o=some v/\SlOk B G H i v Fv s):VI B G H (σ.set i o) (env.set i os) (putF F i Fv) where
 gh:=I.gh
 g0:=I.g0
 gn:=I.gn
 rs:=I.rs
 rb:=I.rb
 bh:=I.bh
 fg:=fun j a z=>by
  by_cases h:j=i
  ·subst h;exact fg a (putF_same.mp z)
  ·rw [aa8 h] at z;exact I.fg j a z
 fr:=fun j a z=>by
  by_cases h:j=i
  ·subst h;exact fr a (putF_same.mp z)
  ·rw [aa8 h] at z;exact I.fr j a z
 fd:=fun j k a y z=>by
  by_cases h:j=i
  ·by_cases g:k=i
   ·rw [h,g]
   ·subst h;rw [aa8 g] at z;exact absurd z (fd k a g (putF_same.mp y))
  ·by_cases g:k=i
   ·subst g;rw [aa8 h] at y;exact absurd y (fd j a h (putF_same.mp z))
   ·rw [aa8 h] at y;rw [aa8 g] at z;exact I.fd j k a y z
 fo:=fun j a z=>by
  by_cases h:j=i
  ·subst h;exact fo a (putF_same.mp z)
  ·rw [aa8 h] at z;exact I.fo j a z
 sl:=fun j t e=>by
  by_cases h:j=i
  ·subst h
   rw [aD2,aF5 rfl] at e
   by_cases hl:j < env.length
   ·rw [aF5 hl] at e
    obtain ⟨v,b,q⟩:=ok t (aC6 e)
    refine ⟨v,by rw [aD2,aF5 rfl,aF5 (by rw [I.ln];exact hl),b],?_⟩
    rw [ae1];exact q
   ·rw [aF6 hl] at e;cases e
  ·rw [aD2,aF6 (fun z=>h z.symm)] at e
   obtain ⟨v,b,q⟩:=I.sl j t e
   refine ⟨v,by rw [aD2,aF6 (fun z=>h z.symm)];exact b,?_⟩
   rw [aa8 h];exact q
 ln:=by simp [I.ln]
 ft:=I.ft
theorem VI.store (I:VI B G H σ env F) (r:RsX B G H v Fv s F) (i:Nat):VI B G H (σ.set i (some v)) (env.set i (some s)) (putF F i Fv):=by
 refine I.slot i (some v) (some s) r.fg (fun a z=>I.b_r (r.fb a z)) r.fo (fun j a _ z=>r.fd j a z) fun t e=>?_
 cases e
 refine ⟨v,rfl,?_⟩
 have:=r.ok
 cases s with
 | st d=>exact this
 | own A=>exact ⟨this,r.fb⟩
 | io A=>exact this.elim
 | scr ns=>exact this.elim
theorem VI.drop (I:VI B G H σ env F) (i:Nat):VI B G H σ (env.set i none) (putF F i fun _=>False):=by
 have:=I.slot (Fv:=fun _=>False) i ((σ[i]?).getD none) none (fun a z=>z.elim) (fun a z=>z.elim) (fun a z=>z.elim) (fun j a _ z=>z.elim) (fun s e=>by cases e)
 rwa [show σ.set i ((σ[i]?).getD none) = σ from ?_] at this
 apply aG2
 intro j
 rw [aD2]
 by_cases h:i=j
 ·subst h
  rw [aF5 rfl]
  by_cases hl:i < σ.length
  ·rw [aF5 hl,aA0 hl];rfl
  ·rw [aF6 hl,aF7.mpr (by omega)]
 ·rw [aF6 h]
theorem VI.change {A:Own} (I:VI B G H σ env F) (i:Nat) {H2:Hp} {F2:Addr->Prop} {os os':Sl} (e:env[i]?=some (some os)) (g : σ[i]?=some (some v))
  (keep:∀ a o,¬ F i a->H a=some o->H2 a=some o) (p:∀ a o,H a=some o->∃ o',H2 a=some o') (c:∀ a,F2 a->(F i a\/H a=none)/\∃ o,H2 a=some o) (n:A.P G H2 v F2) (N:FT G H2)
  (hs:(os'=.own A/\∃ d,os=.own d)\/(os'=.io A/\∃ d,os=.io d)):VI B G H2 σ (env.set i (some os')) (putF F i F2):=by
 obtain ⟨Q,f,q⟩:=I.sl i os e
 rw [g] at f;cases f
 have l:∀ j a,j ≠ i->F j a->¬ F i a:=fun j a b y z=>b (I.fd j i a y z)
 have O:∀ a,F2 a->G a=none:=fun a z=>by
  rcases (c a z).1 with y | y
  ·exact I.fg i a y
  ·exact I.no_g y
 have J:VI B G H2 σ (env.set i none) (putF F i fun _=>False):=by
  have D:=I.drop i
  refine ⟨fun a o x=>keep a o (fun z=>by rw [I.fg i a z] at x;cases x) (I.gh a o x),D.g0,D.gn,fun a o x=>keep a o (fun z=>by rw [I.fr i a z] at x;cases x) (I.rs a o x),D.rb,fun a o x=>?_,D.fg,D.fr,D.fd,fun j a z=>?_,fun j s x=>?_,D.ln,N⟩
  ·obtain ⟨o',w⟩:=I.bh a o x
   exact p a o' w
  ·obtain ⟨o,x⟩:=D.fo j a z
   exact p a o x
  ·obtain ⟨u,L,M⟩:=D.sl j s x
   refine ⟨u,L,M.mono (Same.refl G) fun a o z y=>?_⟩
   by_cases b:j=i
   ·subst b;exact (putF_same.mp z).elim
   ·rw [aa8 b] at z
    exact keep a o (l j a b z) y
 have m:=J.slot (Fv:=F2) i (some v) (some os') O (fun a z=>by
   rcases (c a z).1 with y | y
   ·exact I.fr i a y
   ·exact I.no_r y) (fun a z=>(c a z).2) (fun j a b z y=>by
   rw [aa8 b] at y
   rcases (c a z).1 with x | x
   ·exact l j a b y x
   ·exact I.no_f x j y) fun t C=>by
   cases C
   refine ⟨v,rfl,?_⟩
   rcases hs with ⟨rfl,d,rfl⟩ | ⟨rfl,d,rfl⟩
   ·refine ⟨n,fun a z=>?_⟩
    rcases (c a z).1 with y | y
    ·exact q.2 a y
    ·exact I.no_b y
   ·refine ⟨n,fun a z=>?_,q.2.2⟩
    rcases (c a z).1 with y | y
    ·exact q.2.1 a y
    ·exact .inr (I.no_b y)
 have K : σ.set i (some v) = σ:=by
  apply aG2
  intro j
  rw [aD2]
  by_cases h:i=j
  ·subst h
   rw [aF5 rfl,g,aF5 (aA1.mp g).1]
  ·rw [aF6 h]
 have E:(env.set i none).set i (some os')=env.set i (some os'):=by simp
 have r:putF (putF F i fun _=>False) i F2=putF F i F2:=by
  funext j a
  by_cases h:j=i
  ·subst h;rw [ae1,ae1]
  ·rw [aa8 h,aa8 h,aa8 h]
 rw [K,E,r] at m
 exact m
end
open Classical in
def jn (G H:Hp) (F:Addr->Prop):Hp:=fun a=>if F a then H a else G a
theorem ad6 {G H:Hp} {F:Addr->Prop} {a:Addr} (h:F a):jn G H F a=H a:=aF5 h
theorem alj {G H:Hp} {F:Addr->Prop} {a:Addr} (h:¬ F a):jn G H F a=G a:=aF6 h
theorem abk {G H:Hp} {F:Addr->Prop} (h:∀ a,F a->G a=none):Same G (jn G H F):=fun a o e=>by
 rw [alj (fun z=>by rw [h a z] at e;cases e)];exact e
theorem aqd {G H:Hp} {F:Addr->Prop} (h:Same G H):Same (jn G H F) H:=fun a o e=>by
 by_cases z:F a
 ·rw [ad6 z] at e;exact e
 ·rw [alj z] at e;exact h a o e
def Frz (A:Own) (d:PyData):Prop:=∀ (G H:Hp) (v:V) (F:Addr->Prop),A.P G H v F->(∀ a,F a->G a=none)->Same G H->Rp (jn G H F) v d
def FQ:Sl->(PyData->Prop)->Prop
 | .st d,R=>R d
 | .own A,R=>∃ d,Frz A d/\R d
 | _,_=>False
def OL (ds:List PyData):Own where
 P:=fun G H v F=>∃ a vs,v=.ref a/\H a=some (.lst vs)/\Rps G vs ds/\∀ b,F b ↔ b=a
 mono:=fun ⟨a,vs,e,h,r,f⟩ g hh=>⟨a,vs,e,hh a _ ((f a).mpr rfl) h,r.same g,f⟩
 dom:=fun ⟨a,vs,e,h,r,f⟩ b z=>by rw [(f b).mp z];exact ⟨_,h⟩
def OD (es:List (Key × PyData)):Own where
 P:=fun G H v F=>∃ a kvs,v=.ref a/\H a=some (.dK kvs)/\RpK G kvs es/\∀ b,F b ↔ b=a
 mono:=fun ⟨a,vs,e,h,r,f⟩ g hh=>⟨a,vs,e,hh a _ ((f a).mpr rfl) h,r.same g,f⟩
 dom:=fun ⟨a,vs,e,h,r,f⟩ b z=>by rw [(f b).mp z];exact ⟨_,h⟩
theorem ab1 {ds:List PyData}:Frz (OL ds) (.list ds):=fun G H v F ⟨a,vs,e,h,r,f⟩ n g=>by
 subst e
 exact .lst (by rw [ad6 ((f a).mpr rfl)];exact h) (r.same (abk n))
theorem ar3 {es:List (Key × PyData)}:Frz (OD es) (.dict (es.map fun p=>(kD p.1,p.2))):=fun G H v F ⟨a,vs,e,h,r,f⟩ n g=>by
 subst e
 exact .dk (by rw [ad6 ((f a).mpr rfl)];exact h) (r.same (abk n)) rfl
theorem av8 {d:PyData} {R:PyData->Prop} (h:R d):FQ (.st d) R:=h
theorem aen {ds:List PyData} {R:PyData->Prop} (h:R (.list ds)):FQ (.own (OL ds)) R:=⟨_,ab1,h⟩
theorem a1k {es:List (Key × PyData)} {R:PyData->Prop} (h:R (.dict (es.map fun p=>(kD p.1,p.2)))):FQ (.own (OD es)) R:=⟨_,ar3,h⟩
section
variable {B:Bs} {G H G' H':Hp} {σ:St} {env:En} {F:Nat->Addr->Prop} {v:V} {s:Sl} {Fv:Addr->Prop}
theorem VI.freeze (I:VI B G H σ env F) (fb:∀ a,Fv a->B.H a=none) (fd:∀ j a,Fv a->¬ F j a) (fg:∀ a,Fv a->G a=none):VI B (jn G H Fv) H σ env F where
 gh:=aqd I.gh
 g0:=I.g0.trans (abk fg)
 gn:=fun a o e=>by
  by_cases z:Fv a
  ·exact .inr (fb a z)
  ·rw [alj z] at e;exact I.gn a o e
 rs:=I.rs
 rb:=I.rb
 bh:=I.bh
 fg:=fun i a z=>by
  rw [alj (fun y=>fd i a y z)];exact I.fg i a z
 fr:=I.fr
 fd:=I.fd
 fo:=I.fo
 sl:=fun i s e=>by
  obtain ⟨v,c,b⟩:=I.sl i s e
  exact ⟨v,c,b.mono (abk fg) fun a o _ q=>q⟩
 ln:=I.ln
 ft:=fun a ks e=>abk fg _ _ (I.ft a ks e)
theorem VI.frz {A:Own} {d:PyData} {i:Nat} (I:VI B G H σ env F) (e:env[i]?=some (some (.own A))) (f:Frz A d) :
  ∃ v,σ[i]?=some (some v)/\Rp (jn G H (F i)) v d/\Same G (jn G H (F i))/\VI B (jn G H (F i)) H σ (env.set i (some (.st d))) (putF F i fun _=>False):=by
 obtain ⟨v,b,q⟩:=I.sl i _ e
 have c:=f G H v (F i) q.1 (I.fg i) I.gh
 refine ⟨v,b,c,abk (I.fg i),?_⟩
 have D:=(I.drop i).freeze (Fv:=F i) q.2 (fun j a z y=>by
  by_cases h:j=i
  ·subst h;exact (putF_same.mp y).elim
  ·rw [aa8 h] at y;exact h (I.fd j i a y z)) (I.fg i)
 have J:=D.slot (Fv:=fun _=>False) i (some v) (some (.st d)) (fun a z=>z.elim) (fun a z=>z.elim) (fun a z=>z.elim) (fun j a _ z=>z.elim) (fun t l=>by cases l;exact ⟨v,rfl,c,fun a z=>z⟩)
 have m : σ.set i (some v) = σ:=by
  apply aG2
  intro j
  rw [aD2]
  by_cases h:i=j
  ·subst h
   rw [aF5 rfl,b,aF5 (aA1.mp b).1]
  ·rw [aF6 h]
 have g:putF (putF F i fun _=>False) i (fun _=>False)=putF F i fun _=>False:=by
  funext j a
  by_cases h:j=i
  ·subst h;rw [ae1,ae1]
  ·rw [aa8 h,aa8 h]
 rw [m,g,List.set_set] at J
 exact J
theorem Out.refl {d:PyData} (g:Same G H) (r:Rp G v d):Out G H v G H (.st d) (fun _=>False):=⟨Same.refl _,g,Same.refl _,fun a o e => .inl e,fun a z=>z.elim,fun a z=>z.elim,fun a z=>z.elim,⟨r,fun a z=>z⟩,fun t=>t⟩
theorem aw4 {p:Addr} {o:HO} (g:Same G H) (h:H p=none):Same (upd G p o) (upd H p o):=fun a u e=>by
 by_cases z:a=p
 ·subst z;rw [aah] at e ⊢;exact e
 ·rw [aae z] at e ⊢;exact g a u e
theorem acd {p:Addr} (g:Same G H) (h:H p=none):G p=none:=by
 cases e:G p with
 | none=>rfl
 | some o=>rw [g p o e] at h;cases h
theorem Out.newT {p:Addr} {xs:List V} {ds:List PyData} (g:Same G H) (h:H p=none) (r:Rps G xs ds):Out G H (.ref p) (upd G p (.tup xs)) (upd H p (.tup xs)) (.st (.tuple ds)) (fun _=>False) where
 gg:=abj (acd g h)
 gh:=aw4 g h
 hh:=abj h
 gn:=fun a o e=>by
  by_cases z:a=p
  ·subst z;exact .inr h
  ·rw [aae z] at e;exact .inl e
 fn:=fun a z=>z.elim
 fg:=fun a z=>z.elim
 fo:=fun a z=>z.elim
 ok:=⟨.tup aah (r.same (abj (acd g h))),fun a z=>z⟩
 ft:=fun t a ks e=>by
  by_cases z:a=p
  ·subst z;rw [aah] at e ⊢;exact e
  ·rw [aae z] at e ⊢;exact t a ks e
theorem Out.newO {p:Addr} {o:HO} {A:Own} (g:Same G H) (h:H p=none) (b:∀ xs,o ≠ .tup xs) (r:A.P G (upd H p o) (.ref p) (· = p)):Out G H (.ref p) G (upd H p o) (.own A) (· = p) where
 gg:=Same.refl _
 gh:=g.trans (abj h)
 hh:=abj h
 gn:=fun a o e => .inl e
 fn:=fun a z=>by rw [z];exact h
 fg:=fun a z=>by rw [z];exact acd g h
 fo:=fun a z=>by rw [z];exact ⟨_,aah⟩
 ok:=r
 ft:=fun t a ks e=>by
  by_cases z:a=p
  ·subst z;rw [aah] at e;exact absurd (aC6 e) (b _)
  ·rw [aae z] at e;exact t a ks e
theorem Out.newL {p:Addr} {xs:List V} {ds:List PyData} (g:Same G H) (h:H p=none) (r:Rps G xs ds):Out G H (.ref p) G (upd H p (.lst xs)) (.own (OL ds)) (· = p) :=
 .newO g h (fun _ z=>nomatch z) ⟨p,xs,rfl,aah,r,fun b=>Iff.rfl⟩
theorem Out.newD {p:Addr} {xs:List (Key × V)} {ds:List (Key × PyData)} (g:Same G H) (h:H p=none) (r:RpK G xs ds):Out G H (.ref p) G (upd H p (.dK xs)) (.own (OD ds)) (· = p) :=
 .newO g h (fun _ z=>nomatch z) ⟨p,xs,rfl,aah,r,fun b=>Iff.rfl⟩
end
def EvO (B:Bs) (te:TE) (env:En) (Q':Sl->En->Prop):Prop:=∀ (σ:St) (G H:Hp) (F:Nat->Addr->Prop) (Q:VK),VI B G H σ env F ->
 (∀ v G' H' F' Fv s env',VI B G' H' σ env' F'->Same G G'->RsX B G' H' v Fv s F'->Q' s env'->Q v H')->te σ H Q
def Ev (B:Bs) (te:TE) (env:En) (Q':PyData->En->Prop):Prop:=∀ (σ:St) (G H:Hp) (F:Nat->Addr->Prop) (Q:VK),VI B G H σ env F ->
 (∀ v G' H' F' d env',VI B G' H' σ env' F'->Same G G'->Rp G' v d->Q' d env'->Q v H')->te σ H Q
def EvT (B:Bs) (tt:TT) (env:En) (Q':Bool->En->Prop):Prop:=∀ (σ:St) (G H:Hp) (F:Nat->Addr->Prop) (Q:Bool->Hp->Prop),VI B G H σ env F ->
 (∀ b G' H' F' env',VI B G' H' σ env' F'->Same G G'->Q' b env'->Q b H')->tt σ H Q
def EvA (B:Bs) (ta:TA) (env:En) (Q':List PyData->En->Prop):Prop:=∀ (σ:St) (G H:Hp) (F:Nat->Addr->Prop) (Q:List V->Hp->Prop),VI B G H σ env F ->
 (∀ vs G' H' F' ds env',VI B G' H' σ env' F'->Same G G'->Rps G' vs ds->Q' ds env'->Q vs H')->ta σ H Q
structure ItOk (G:Hp) (J:It) (ds:List PyData):Prop where
 go:∀ i G' H',Same G G'->Same G' H'->i < ds.length->J.go i H'
 stop:∀ i G' H',Same G G'->Same G' H'->i=ds.length->J.stop i H'
 yld:∀ i G' H' x H'' d,Same G G'->Same G' H'->FT G' H'->ds[i]?=some d->J.yld i H' x H''->∃ G'',Out G' H' x G'' H'' (.st d) (fun _=>False)
def EvI (B:Bs) (ti:TI) (env:En) (Q':List PyData->En->Prop):Prop:=∀ (σ:St) (G H:Hp) (F:Nat->Addr->Prop) (R:It->Hp->Prop),VI B G H σ env F ->
 (∀ J G' H' F' ds env',VI B G' H' σ env' F'->Same G G'->ItOk G' J ds->Q' ds env'->R J H')->ti σ H R
def EvG (B:Bs) (g:TG) (s:Sl) (env:En) (Q':En->Prop):Prop:=∀ (σ:St) (G H:Hp) (F:Nat->Addr->Prop) (v:V) (Fv:Addr->Prop) (Q:St->Hp->Prop),VI B G H σ env F->RsX B G H v Fv s F ->
 (∀ σ' G' H' F' env',VI B G' H' σ' env' F'->Same G G'->Q' env'->Q σ' H')->g v σ H Q
def EvGs (B:Bs) (g:TGs) (ds:List PyData) (env:En) (Q':En->Prop):Prop:=∀ (σ:St) (G H:Hp) (F:Nat->Addr->Prop) (vs:List V) (Q:St->Hp->Prop),VI B G H σ env F->Rps G vs ds ->
 (∀ σ' G' H' F' env',VI B G' H' σ' env' F'->Same G G'->Q' env'->Q σ' H')->g vs σ H Q
structure VEnds where
 nx:En->Prop
 rt:Sl->En->Prop
 bk:En->Prop:=fun _=>False
 ct:En->Prop:=fun _=>False
structure RelE (B:Bs) (G:Hp) (D:Ends) (D':VEnds):Prop where
 nx:∀ σ G' H F env,VI B G' H σ env F->Same G G'->D'.nx env->D.nx σ H
 rt:∀ σ G' H F env v Fv s,VI B G' H σ env F->Same G G'->RsX B G' H v Fv s F->D'.rt s env->D.rt v H
 bk:∀ σ G' H F env,VI B G' H σ env F->Same G G'->D'.bk env->D.bk σ H
 ct:∀ σ G' H F env,VI B G' H σ env F->Same G G'->D'.ct env->D.ct σ H
def EvS (B:Bs) (ts:TS) (D':VEnds) (env:En):Prop:=∀ (σ:St) (G H:Hp) (F:Nat->Addr->Prop) (D:Ends),VI B G H σ env F->RelE B G D D'->ts D σ H
theorem RelE.later {B:Bs} {G G':Hp} {D:Ends} {D':VEnds} (r:RelE B G D D') (g:Same G G'):RelE B G' D D' :=
 ⟨fun σ a H F env I q=>r.nx σ a H F env I (g.trans q),fun σ a H F env v Fv s I q=>r.rt σ a H F env v Fv s I (g.trans q),fun σ a H F env I q=>r.bk σ a H F env I (g.trans q),fun σ a H F env I q=>r.ct σ a H F env I (g.trans q)⟩
section
variable {B:Bs} {env:En} {Q':PyData->En->Prop} {QO:Sl->En->Prop} {QT:Bool->En->Prop} {QA:List PyData->En->Prop} {te ta tb:TE}
theorem acu {G H:Hp} {v:V} {d:PyData} {F:Nat->Addr->Prop} (r:Rp G v d):RsX B G H v (fun _=>False) (.st d) F:=⟨⟨r,fun a z=>z⟩,fun a z=>z.elim,fun a z=>z.elim,fun a z=>z.elim,fun j a z=>z.elim⟩
theorem abq (h:Ev B te env fun d e=>QO (.st d) e):EvO B te env QO:=fun σ G H F Q I k =>
 h σ G H F Q I fun v G' H' F' d a b g r q=>k v G' H' F' _ (.st d) a b g (acu r) q
theorem abr (h:EvO B te env fun s e=>FQ s fun d=>Q' d e):Ev B te env Q':=fun σ G H F Q I k =>
 h σ G H F Q I fun v G' H' F' Fv s a b g r q=>by
  cases s with
  | st d=>exact k v G' H' F' d a b g r.ok.1 q
  | own A =>
   obtain ⟨d,f,q⟩:=q
   exact k v _ H' F' d a (b.freeze r.fb r.fd r.fg) (g.trans (abk r.fg)) (f G' H' v Fv r.ok r.fg b.gh) q
  | io A=>exact q.elim
  | scr ns=>exact q.elim
theorem azq {i:Nat} {d:PyData} (e:env[i]?=some (some (.st d))) (q:Q' d env):Ev B (tVar i) env Q':=fun σ G H F Q I k=>by
 obtain ⟨v,a,r⟩:=I.sl i _ e
 exact ⟨v,a,k v G H F d env I (Same.refl _) r.1 q⟩
theorem aw5 {i:Nat} {A:Own} {d:PyData} (e:env[i]?=some (some (.own A))) (f:Frz A d) (q:Q' d (env.set i (some (.st d)))):Ev B (tVar i) env Q':=fun σ G H F Q I k=>by
 obtain ⟨v,a,r,g,J⟩:=I.frz e f
 exact ⟨v,a,k v _ H _ d _ J g r q⟩
theorem aee {i:Nat} {A:Own} (e:env[i]?=some (some (.own A))) (q:QO (.own A) (env.set i none)):EvO B (tVar i) env QO:=fun σ G H F Q I k=>by
 obtain ⟨v,b,r⟩:=I.sl i _ e
 refine ⟨v,b,k v G H _ (F i) (.own A) _ (I.drop i) (Same.refl _) ⟨r.1,r.2,I.fg i,I.fo i,fun j a z y=>?_⟩ q⟩
 by_cases h:j=i
 ·subst h;exact putF_same.mp y
 ·rw [aa8 h] at y;exact h (I.fd j i a y z)
theorem azr {i:Int} (q:Q' (.int i) env):Ev B (tC (.int i)) env Q':=fun σ G H F Q I k=>k _ G H F _ env I (Same.refl _) (.int i) q
theorem a1l {b:Bool} (q:Q' (.bool b) env):Ev B (tC (.bl b)) env Q':=fun σ G H F Q I k=>k _ G H F _ env I (Same.refl _) (.bl b) q
theorem azs (q:Q' .none env):Ev B (tC .non) env Q':=fun σ G H F Q I k=>k _ G H F _ env I (Same.refl _) .non q
theorem azt {x:Str} (q:Q' (.str x) env):Ev B (tC (.str x)) env Q':=fun σ G H F Q I k=>k _ G H F _ env I (Same.refl _) (.str x) q
def Op2 (r:R2) (x y:PyData) (R:Sl->Prop):Prop:=∀ (G H:Hp) (vx vy:V) (Q:VK),Same G H->Rp G vx x->Rp G vy y->(∀ v G' H' s Fv,Out G H v G' H' s Fv->R s->Q v H')->r vx vy H Q
def Op1 (r:V->Hp->VK->Prop) (x:PyData) (R:Sl->Prop):Prop:=∀ (G H:Hp) (vx:V) (Q:VK),Same G H->Rp G vx x->(∀ v G' H' s Fv,Out G H v G' H' s Fv->R s->Q v H')->r vx H Q
def OpA (r:List V->Hp->VK->Prop) (ds:List PyData) (R:Sl->Prop):Prop:=∀ (G H:Hp) (vs:List V) (Q:VK),Same G H->Rps G vs ds->(∀ v G' H' s Fv,Out G H v G' H' s Fv->R s->Q v H')->r vs H Q
theorem ami {r:R2} (h:Ev B ta env fun x c=>Ev B tb c fun y a=>Op2 r x y fun s=>QO s a):EvO B (tOp r ta tb) env QO:=fun σ G H F Q I k =>
 h σ G H F _ I fun j i u q x c m A g z=>z σ i u q _ m fun p w H2 F2 y a b d t f =>
  f w H2 j p Q b.gh (g.same d) t fun v n H3 s Fv o l=>k v n H3 F2 Fv s a (b.out o).1 (A.trans (d.trans o.gg)) (b.out o).2 l
theorem a1m {r:R2} (h:Ev B ta env fun x b=>Ev B tb b fun y a=>Op2 r x y fun s=>FQ s fun d=>Q' d a):Ev B (tOp r ta tb) env Q':=abr (ami h)
theorem azu {r:V->Hp->VK->Prop} (h:Ev B ta env fun x b=>Op1 r x fun s=>QO s b):EvO B (tUn r ta) env QO:=fun σ G H F Q I k =>
 h σ G H F _ I fun f d l j x b a n c m=>m d l f Q a.gh c fun v i H3 s Fv o g=>k v i H3 j Fv s b (a.out o).1 (n.trans o.gg) (a.out o).2 g
theorem a1n {r:V->Hp->VK->Prop} (h:Ev B ta env fun x a=>Op1 r x fun s=>FQ s fun d=>Q' d a):Ev B (tUn r ta) env Q':=abr (azu h)
theorem aop (q:QA [] env):EvA B tNil env QA:=fun σ G H F Q I k=>k [] G H F [] env I (Same.refl _) .nil q
theorem aub {tr:TA} (h:Ev B ta env fun x b=>EvA B tr b fun xs a=>QA (x :: xs) a):EvA B (aa2 ta tr) env QA:=fun σ G H F Q I k =>
 h σ G H F _ I fun r g n l x b i q f p=>p σ g n l _ i fun vs o H2 F2 ds a j c m d=>k _ o H2 F2 _ a j (q.trans c) (.cons (f.same c) m) d
theorem ar4 {r:List V->Hp->VK->Prop} {t:TA} (h:EvA B t env fun ds b=>OpA r ds fun s=>QO s b):EvO B (tCB r t) env QO:=fun σ G H F Q I k =>
 h σ G H F _ I fun vs d j i ds b a m c l=>l d j vs Q a.gh c fun v g H3 s Fv o f=>k v g H3 i Fv s b (a.out o).1 (m.trans o.gg) (a.out o).2 f
theorem a1o {r:List V->Hp->VK->Prop} {t:TA} (h:EvA B t env fun ds a=>OpA r ds fun s=>FQ s fun d=>Q' d a):Ev B (tCB r t) env Q':=abr (ar4 h)
theorem aoq {t:TA} (h:EvA B t env fun ds b=>ds.length<=1000/\QO (.st (.tuple ds)) b):EvO B (tTup t) env QO:=fun σ G H F Q I k =>
 h σ G H F _ I fun vs j l g ds b a i c d=>⟨by rw [c.length];exact aG5 (adq d.1),fun p f=>by
  have o:=Out.newT a.gh f c
  exact k _ _ _ g _ _ b (a.out o).1 (i.trans o.gg) (a.out o).2 d.2⟩
theorem azv {t:TA} (h:EvA B t env fun ds a=>ds.length<=1000/\Q' (.tuple ds) a):Ev B (tTup t) env Q':=abr (aoq h)
theorem aor {t:TA} (h:EvA B t env fun ds b=>ds.length<=1000/\QO (.own (OL ds)) b):EvO B (tLst t) env QO:=fun σ G H F Q I k =>
 h σ G H F _ I fun vs j l g ds b a i c d=>⟨by rw [c.length];exact aG5 (adq d.1),fun p f=>by
  have o:=Out.newL a.gh f c
  exact k _ _ _ g _ _ b (a.out o).1 (i.trans o.gg) (a.out o).2 d.2⟩
theorem azw {t:TA} (h:EvA B t env fun ds a=>ds.length<=1000/\Q' (.list ds) a):Ev B (tLst t) env Q':=abr (aor fun σ G H F Q I k=>h σ G H F Q I fun vs G' H' F' ds a b g r q=>k vs G' H' F' ds a b g r ⟨q.1,aen q.2⟩)
theorem ahg (h:Ev B te env fun x a=>∃ b,x=.bool b/\QT b a):EvT B (av3 te) env QT:=fun σ G H F Q I k =>
 h σ G H F _ I fun v d i g x a f l c j=>by
  obtain ⟨b,e,q⟩:=j
  subst e
  cases c
  exact ⟨b,rfl,k b d i g a f l q⟩
theorem a1p (h:Ev B te env fun x a=>∃ b,x=.bool b/\QT b a):EvT B (tB te) env QT:=ahg h
theorem x_bl {b:Bool} {R:Bool->Prop} (h:R b):∃ c,PyData.bool b=.bool c/\R c:=⟨b,rfl,h⟩
theorem aw6 {t u:TT} (h:EvT B t env fun c a=>if c=true then EvT B u a QT else QT false a):EvT B (tAnd t u) env QT:=fun σ G H F Q I k =>
 h σ G H F _ I fun b d i g a f j q=>by
  cases b with
  | true=>rw [aF5 rfl] at q ⊢;exact q σ d i g Q f fun c p H2 F2 m n o l=>k c p H2 F2 m n (j.trans o) l
  | false=>rw [aF6 aB0] at q ⊢;exact k false d i g a f j q
theorem azx {t u:TT} (h:EvT B t env fun c a=>if c=true then QT true a else EvT B u a QT):EvT B (tOr t u) env QT:=fun σ G H F Q I k =>
 h σ G H F _ I fun b d i g a f j q=>by
  cases b with
  | false=>rw [aF6 aB0] at q ⊢;exact q σ d i g Q f fun c p H2 F2 m n o l=>k c p H2 F2 m n (j.trans o) l
  | true=>rw [aF5 rfl] at q ⊢;exact k true d i g a f j q
theorem aos {t:TT} (h:EvT B t env fun c a=>QT (!c) a):EvT B (tNot t) env QT:=fun σ G H F Q I k =>
 h σ G H F _ I fun b g i d a f j q=>k (!b) g i d a f j q
theorem ae2 (q:QT true env):EvT B tYes env QT:=fun σ G H F Q I k=>k true G H F env I (Same.refl _) q
def TruD:PyData->Bool->Prop
 | .bool b,k=>k=b
 | .list ds,k=>k = !ds.isEmpty
 | _,_=>False
theorem aw7 {K:Frag} (h:Ev B te env fun x a=>∃ b,TruD x b/\QT b a):EvT B (tTru K te) env QT:=fun σ G H F Q I k =>
 h σ G H F _ I fun v f i g x a d j l n=>by
  obtain ⟨b,e,q⟩:=n
  cases l with
  | bl c=>cases e;exact ⟨_,rfl,k _ f i g a d j q⟩
  | lst ha rs =>
   refine ⟨b,.inl ⟨_,SqL.of (d.gh _ _ ha),?_⟩,k _ f i g a d j q⟩
   have m:b = !_:=e
   rw [m]
   cases rs <;> rfl
  | _=>exact e.elim
theorem aw8 (h:Ev B ta env fun x a=>∃ b,x=.bool b/\if b=true then Ev B tb a Q' else Q' (.bool false) a):Ev B (apw ta tb) env Q':=fun σ G H F Q I k =>
 h σ G H F _ I fun v c i g x a f j m t=>by
  obtain ⟨b,e,q⟩:=t
  subst e
  cases m
  refine ⟨b,rfl,?_⟩
  cases b with
  | true=>rw [aF5 rfl] at q ⊢;exact q σ c i g Q f fun v s H2 F2 d n o r p l=>k v s H2 F2 d n o (j.trans r) p l
  | false=>rw [aF6 aB0] at q ⊢;exact k _ c i g _ a f j (.bl false) q
theorem aw9 (h:Ev B ta env fun x a=>∃ b,x=.bool b/\Q' (.bool (!b)) a):Ev B (apx ta) env Q':=fun σ G H F Q I k =>
 h σ G H F _ I fun v d i g x a f l c j=>by
  obtain ⟨b,e,q⟩:=j
  subst e
  cases c
  exact ⟨b,rfl,k _ d i g _ a f l (.bl _) q⟩
theorem auc {r C:R2} {E:TE} (h:Ev B ta env fun x M=>Ev B tb M fun y g=>Op2 r x y fun s=>∃ b,s=.st (.bool b)/\if b=true then Ev B E g fun z U=>Op2 C y z fun s'=>FQ s' fun d=>Q' d U else Q' (.bool false) g):Ev B (alp r C ta tb E) env Q':=fun σ G H F Q I k =>
 h σ G H F _ I fun Y X H1 F1 x M I1 S W q1=>q1 σ X H1 F1 _ I1 fun O G2 H2 F2 y g D n R T =>
  T G2 H2 Y O _ D.gh (W.same n) R fun v N H3 s Fv o z_=>by
   obtain ⟨b,es,c⟩:=z_
   have u:=(D.out o).1
   have m:=o.ok
   subst es
   obtain ⟨m,_⟩:=m
   cases m
   refine ⟨b,rfl,?_⟩
   cases b with
   | false=>rw [aF6 aB0] at c ⊢;exact k _ N H3 F2 _ g u (S.trans (n.trans o.gg)) (.bl _) c
   | true =>
    rw [aF5 rfl] at c ⊢
    refine c σ N H3 F2 _ u fun v3 G4 H4 w z L t K r4 q4=>q4 G4 H4 O v3 Q t.gh (R.same (o.gg.trans K)) r4 fun i P j Z l p a=>?_
    have J:=t.out p
    have gg:=S.trans (n.trans (o.gg.trans (K.trans p.gg)))
    cases Z with
    | st d=>exact k i P j w d L J.1 gg p.ok.1 a
    | own A =>
     obtain ⟨d,f,q⟩:=a
     exact k i _ j w d L (J.1.freeze J.2.fb J.2.fd J.2.fg) (gg.trans (abk J.2.fg)) (f P j i l J.2.ok J.2.fg J.1.gh) q
    | io A=>exact a.elim
    | scr ns=>exact a.elim
end
section
variable {B:Bs} {env:En} {D':VEnds} {t u tb:TS} {te:TE} {g:TG} {c:TT} {QE:En->Prop}
theorem aot (h:EvS B t { D' with nx:=fun e=>EvS B u D' e } env):EvS B (tSeq t u) D' env:=fun σ G H F D I r =>
 h σ G H F { D with nx:=u D } I ⟨fun σ G' H F env a g q=>q σ G' H F D a (r.later g),r.rt,r.bk,r.ct⟩
theorem amj (h:D'.nx env):EvS B avy D' env:=fun σ G H F D I r=>r.nx σ G H F env I (Same.refl _) h
theorem ae3 (h:EvO B te env fun s e=>EvG B g s e D'.nx):EvS B (tAsg te g) D' env:=fun σ G H F D I r =>
 h σ G H F _ I fun v c m j Fv s t f q l p=>p σ c m j v Fv D.nx f l fun a o H2 F2 d i n b=>r.nx a o H2 F2 d i (q.trans n) b
theorem aa9 {i:Nat} {s:Sl} (h:QE (env.set i (some s))):EvG B (abc i) s env QE:=fun σ G H F v Fv Q I x k=>k _ G H _ _ (I.store x i) (Same.refl _) h
theorem amk (h:QE env):EvGs B gNil [] env QE:=fun σ G H F vs Q I x k=>by cases x;exact ⟨rfl,k σ G H F env I (Same.refl _) h⟩
theorem af4 {c:TGs} {d:PyData} {ds:List PyData} (h:EvG B g (.st d) env fun e=>EvGs B c ds e QE):EvGs B (age g c) (d :: ds) env QE:=fun σ G H F vs Q I x k=>by
 cases x with
 | cons r rs =>
  refine ⟨_,_,rfl,h σ G H F _ _ _ I (acu r) fun a j p o u m f t=>t a j p o _ Q m (rs.same f) fun b s H2 F2 l n q i=>k b s H2 F2 l n (f.trans q) i⟩
theorem aou {K:Frag} {n:Nat} {a:TGs} {ds:List PyData} (b:ds.length=n) (h:EvGs B a ds env QE):EvG B (gTup K n a) (.st (.tuple ds)) env QE:=fun σ G H F v Fv Q I x k=>by
 obtain ⟨r,_⟩:=x.ok
 cases r with
 | tup ha rs=>exact ⟨_,_,rfl,SqT.of (I.gh _ _ ha),by rw [rs.length,b],h σ G H F _ Q I rs k⟩
theorem aov (h:EvO B te env fun s e=>D'.rt s e):EvS B (tRet te) D' env:=fun σ G H F D I r =>
 h σ G H F _ I fun v a g d Fv s c b j f i=>r.rt σ a g d c v Fv s b j f i
theorem aud (h:EvO B te env fun _ e=>D'.nx e):EvS B (avz te) D' env:=fun σ G H F D I r =>
 h σ G H F _ I fun v a f d Fv s c b i j g=>r.nx σ a f d c b i g
theorem ar5 (h:EvT B c env fun b e=>if b=true then EvS B t D' e else EvS B u D' e):EvS B (tIfS c t u) D' env:=fun σ G H F D I r =>
 h σ G H F _ I fun b f g a j d i q=>by
  cases b with
  | true=>rw [aF5 rfl] at q ⊢;exact q σ f g a D d (r.later i)
  | false=>rw [aF6 aB0] at q ⊢;exact q σ f g a D d (r.later i)
def ForV (B:Bs) (g:TG) (tb:TS) (D':VEnds) (ds:List PyData) (e1:En):Prop:=∃ J:Nat->En->Prop,J 0 e1/\(∀ i d e,ds[i]?=some d->J i e->EvG B g (.st d) e fun e2=>EvS B tb { D' with nx:=J (i+1),ct:=J (i+1),bk:=D'.nx } e2)/\∀ e,J ds.length e->D'.nx e
theorem axa {N:TI} (h:EvI B N env fun ds w=>ForV B g tb D' ds w):EvS B (tFor N g tb) D' env:=fun σ G H F D I r =>
 h σ G H F _ I fun J u H1 Y ds w U C it z_=>by
  obtain ⟨M,O,Z,jd⟩:=z_
  refine ⟨fun i m σ H=>m=ds.length - i/\i<=ds.length/\∃ j F2 n,VI B j H σ n F2/\Same u j/\M i n,⟨ds.length,by simp,aG0 _,u,Y,w,U,Same.refl _,O⟩,?_⟩
  rintro i m σ H ⟨rfl,hi,j,F2,n,p,s,E⟩
  by_cases hlt:i < ds.length
  ·refine .inr ⟨it.go i j H s p.gh hlt,fun σ H=>∃ t Q L,VI B t H σ L Q/\Same u t/\M (i+1) L,fun a0 H' h'=>⟨ds.length - (i+1),by omega,rfl,hlt,h'⟩,fun x H' y=>?_⟩
   obtain ⟨t,o⟩:=it.yld i j H x H' _ s p.gh p.ft (aA0 hlt) y
   have K:=p.out o
   refine Z i _ n (aA0 hlt) E σ t H' F2 x _ _ K.1 K.2 fun A G4 X S e4 R W q4=>?_
   have gg:=s.trans (o.gg.trans W)
   refine q4 A G4 X S _ R ⟨fun a f q l d c b v=>⟨f,l,d,c,gg.trans b,v⟩,fun a f q l d P z T c b=>r.rt a f q l d P z T c (C.trans (gg.trans b)),fun a f q l d c b=>r.nx a f q l d c (C.trans (gg.trans b)),fun a f q l d c b v=>⟨f,l,d,c,gg.trans b,v⟩⟩
  ·have e:i=ds.length:=by omega
   subst e
   exact .inl ⟨it.stop _ j H s p.gh rfl,r.nx σ j H F2 n p (C.trans s) (jd n E)⟩
theorem af5 (J:Nat->En->Prop) (x:∃ m,J m env) (h:∀ m e,J m e->EvT B c e fun b A=>if b=true then EvS B tb { D' with nx:=fun f=>∃ d,d < m/\J d f,ct:=fun f=>∃ d,d < m/\J d f,bk:=D'.nx } A else D'.nx A):EvS B (ara c tb) D' env:=fun σ G H F D I r=>by
 obtain ⟨T,x⟩:=x
 refine ⟨fun m σ H=>∃ t F2 f,VI B t H σ f F2/\Same G t/\J m f,⟨T,G,F,env,I,Same.refl _,x⟩,?_⟩
 rintro m σ H ⟨t,F2,f,P,S,E⟩
 refine h m f E σ t H F2 _ P fun b C H3 y M z N p=>?_
 have gg:=S.trans N
 cases b with
 | false=>rw [aF6 aB0] at p ⊢;exact r.nx σ C H3 y M z gg p
 | true =>
  rw [aF5 rfl] at p ⊢
  refine ⟨fun σ H=>∃ s u q,VI B s H σ q u/\Same G s/\∃ d,d < m/\J d q,fun U H' ⟨s,u,q,L,Q,d,hm,R⟩=>⟨d,hm,s,u,q,L,Q,R⟩,?_⟩
  exact p σ C H3 y _ z ⟨fun a l o n j i g v=>⟨l,n,j,i,gg.trans g,v⟩,fun a l o n j K w O i g=>r.rt a l o n j K w O i (gg.trans g),fun a l o n j i g=>r.nx a l o n j i (gg.trans g),fun a l o n j i g v=>⟨l,n,j,i,gg.trans g,v⟩⟩
variable {QI:List PyData->En->Prop}
theorem aml {K:Frag} (h:Ev B te env fun d e=>∃ ds,d=.list ds/\QI ds e):EvI B (apz K te) env QI:=fun σ G H F R I k =>
 h σ G H F _ I fun v f n m d j b r c o=>by
  obtain ⟨ds,q,p⟩:=o
  subst q
  cases c with
  | @lst a vs ds ha rs =>
   refine ⟨a,rfl,⟨vs,SqL.of (b.gh _ _ ha)⟩,k _ f n m ds j b r ⟨fun i G' H' g h hi=>?_,fun i G' H' g h hi=>?_,fun i G' H' x H'' d g h ft hd y=>?_⟩ p⟩
   ·have:i < vs.length:=by rw [rs.length];exact hi
    exact ⟨vs,vs[i],SqL.of (h _ _ (g _ _ ha)),aA0 this⟩
   ·exact ⟨vs,SqL.of (h _ _ (g _ _ ha)),by rw [rs.length];exact Nat.le_of_eq hi.symm⟩
   ·obtain ⟨e,y⟩:=y
    subst e
    obtain ⟨v,s,l⟩:=rs.get hd
    have:=y vs (SqL.of (h _ _ (g _ _ ha)))
    rw [s] at this
    cases this
    exact ⟨G',Out.refl h (l.same g)⟩
theorem azy {ds:List PyData} {R:List PyData->Prop} (h:R ds):∃ xs,PyData.list ds=.list xs/\R xs:=⟨ds,rfl,h⟩
def rngD (lo:Int) (n:Nat):List PyData:=(List.range n).map fun (i:Nat) => .int (lo+(i:Int))
theorem ack {lo:Int} {n:Nat}:(rngD lo n).length=n:=by simp [rngD]
theorem afg {lo:Int} {n i:Nat} {d:PyData} (h:(rngD lo n)[i]?=some d):i < n/\d=.int (lo+(i:Int)):=by
 unfold rngD at h
 rw [aA5] at h
 have hi:i < n:=by
  have:=(aA1 (l:=(List.range n).map fun (i:Nat)=>PyData.int (lo+(i:Int)))).mp (by rw [aA5];exact h)
  obtain ⟨q,_⟩:=this
  simpa using q
 rw [aA0 (by simpa using hi)] at h
 simp at h
 exact ⟨hi,h.symm⟩
theorem ar6 {G:Hp} {lo:Int} {n:Nat}:ItOk G (Itr lo n) (rngD lo n):=by
 refine ⟨fun i G' H' g h hi=>?_,fun i G' H' g h hi=>?_,fun i G' H' x H'' d g h ft hd y=>?_⟩
 ·rw [ack] at hi;exact hi
 ·rw [ack] at hi;exact Nat.le_of_eq hi.symm
 ·obtain ⟨e,y⟩:=y
  subst e y
  rw [(afg hd).2]
  exact ⟨G',Out.refl h (.int _)⟩
def alk (ds:List PyData) (R:List PyData->Prop):Prop:=∃ j:Int,ds=[.int j]/\-(2 ^ 62)<=j/\j < 2 ^ 62/\R (rngD 0 j.toNat)
def alm (ds:List PyData) (R:List PyData->Prop):Prop:=∃ i j:Int,ds=[.int i,.int j]/\(-(2 ^ 62)<=i/\i < 2 ^ 62/\-(2 ^ 62)<=j/\j < 2 ^ 62)/\R (rngD i (j - i).toNat)
theorem aue {a:TA} (h:EvA B a env fun ds e=>alk ds fun xs=>QI xs e):EvI B (av1 a) env QI:=fun σ G H F R I k =>
 h σ G H F _ I fun vs c i g ds f d p b m=>by
  obtain ⟨j,o,b1,l,n⟩:=m
  subst o
  obtain rfl:vs=[V.int j]:=Rps.ints_inv (ns:=[j]) b
  exact ⟨j,rfl,b1,l,k _ c i g _ f d p ar6 n⟩
theorem auf {a:TA} (h:EvA B a env fun ds e=>alm ds fun xs=>QI xs e):EvI B (av2 a) env QI:=fun σ G H F R I k =>
 h σ G H F _ I fun vs c l g ds f d p b m=>by
  obtain ⟨i,j,o,b1,n⟩:=m
  subst o
  obtain rfl:vs=[V.int i,V.int j]:=Rps.ints_inv (ns:=[i,j]) b
  exact ⟨i,j,rfl,b1,k _ c l g _ f d p ar6 n⟩
theorem azz {j:Int} {R:List PyData->Prop} (a : -4611686018427387904<=j) (b:j < 4611686018427387904) (h:R (rngD 0 j.toNat)):alk [.int j] R:=⟨j,rfl,by omega,by omega,h⟩
theorem az0 {a b:Int} {R:List PyData->Prop} (c : -4611686018427387904<=a/\a < 4611686018427387904/\-4611686018427387904<=b/\b < 4611686018427387904) (h:R (rngD a (b - a).toNat)):alm [.int a,.int b] R:=⟨a,b,rfl,by omega,h⟩
theorem adg {lo:Int} {n:Nat} (J:Nat->En->Prop) (b:J 0 env) (hs:∀ i e,i < n->J i e->EvG B g (.st (.int (lo+(i:Int)))) e fun a=>EvS B tb { D' with nx:=J (i+1),ct:=J (i+1),bk:=D'.nx } a) (hd:∀ e,J n e->D'.nx e):ForV B g tb D' (rngD lo n) env :=
 ⟨J,b,fun i d e h j=>by obtain ⟨hi,rfl⟩:=afg h;exact hs i e hi j,fun e j=>hd e (by rw [ack] at j;exact j)⟩
theorem acw {α:Type} {f : α->PyData} {xs:List α} (J:Nat->En->Prop) (b:J 0 env) (hs:∀ i x e,xs[i]?=some x->J i e->EvG B g (.st (f x)) e fun a=>EvS B tb { D' with nx:=J (i+1),ct:=J (i+1),bk:=D'.nx } a) (hd:∀ e,J xs.length e->D'.nx e):ForV B g tb D' (xs.map f) env :=
 ⟨J,b,fun i d e h j=>by
  rw [aA5] at h
  cases hx:xs[i]? with
  | none=>rw [hx] at h;cases h
  | some x=>rw [hx] at h;cases h;exact hs i x e hx j,fun e j=>hd e (by rw [aA3] at j;exact j)⟩
end
theorem amm {B:Bs} {a b:TS} {D':VEnds} {env:En} (h:∀ c:TS,c=b->EvS B a { D' with nx:=fun e=>EvS B c D' e } env):EvS B (tSeq a b) D' env:=aot (h b rfl)
theorem aow {B:Bs} {c b:TS} {D':VEnds} {env:En} (e:c=b) (h:EvS B b D' env):EvS B c D' env:=by rw [e];exact h
theorem big {n:Nat} (h:n<=1000000):n < sizeLine:=aE4 h (by decide)
section
variable {B B1:Bs} {G H G' H':Hp} {σ σI:St} {env envI:En} {F F':Nat->Addr->Prop} {v:V} {s:Sl} {Fv:Addr->Prop} {inv:Nat->Option Nat}
open Classical in
def acm (H:Hp) (F:Nat->Addr->Prop) (inv:Nat->Option Nat):Hp:=fun a=>if ∃ i j,inv i=some j/\F i a then none else H a
theorem afh {i j:Nat} {a:Addr} (h:inv i=some j) (f:F i a):acm H F inv a=none:=aF5 ⟨i,j,h,f⟩
theorem ahh {a:Addr} (h:∀ i j,inv i=some j->¬ F i a):acm H F inv a=H a:=aF6 fun ⟨i,j,x,y⟩=>h i j x y
theorem ac9:Same (acm H F inv) H:=fun a o e=>by
 unfold acm at e
 split at e
 ·cases e
 ·exact e
theorem VI.enter (I:VI B G H σ env F) (inj:∀ i b j,inv i=some j->inv b=some j->i=b) (ln : σI.length=envI.length)
  (sl:∀ j s,envI[j]?=some (some s)->∃ v,σI[j]?=some (some v)/\((∃ d,s=.st d/\Rp G v d/\∀ i,inv i ≠ some j)\/(∃ ns a,s=.scr ns/\v=.ref a/\SqL B.K G a (ns.map V.int)/\∀ i,inv i ≠ some j) ∨
   ∃ i A,inv i=some j/\s=.io A/\σ[i]?=some (some v)/\(env[i]?=some (some (.own A))\/env[i]?=some (some (.io A))))) :
  VI ⟨B.K,G,H,acm H F inv,σI,fun j a=>∃ i,inv i=some j/\F i a⟩ G H σI envI (fun j a=>∃ i,inv i=some j/\F i a) where
 gh:=I.gh
 g0:=Same.refl _
 gn:=fun a o e => .inl e
 rs:=ac9
 rb:=ac9
 bh:=fun a o e=>⟨o,e⟩
 fg:=fun j a ⟨i,_,z⟩=>I.fg i a z
 fr:=fun j a ⟨i,h,z⟩=>afh h z
 fd:=fun j k a ⟨i,h,z⟩ ⟨b,h',m⟩=>by
  have:=I.fd i b a z m
  subst this
  rw [h] at h';cases h';rfl
 fo:=fun j a ⟨i,h,z⟩=>I.fo i a z
 sl:=fun j s e=>by
  obtain ⟨v,l,q⟩:=sl j s e
  refine ⟨v,l,?_⟩
  rcases q with ⟨d,rfl,r,n⟩ | ⟨ns,a,rfl,rfl,q,n⟩ | ⟨i,A,hi,rfl,hs,f⟩
  ·exact ⟨r,fun a ⟨i,h,_⟩=>n i h⟩
  ·exact ⟨⟨a,rfl,q⟩,fun a ⟨i,h,_⟩=>n i h⟩
  ·refine ⟨?_,fun a z => .inl z,l⟩
   have p:(fun a=>∃ b,inv b=some j/\F b a)=F i:=by
    funext a
    exact propext ⟨fun ⟨b,h,z⟩=>by rw [inj i b j hi h];exact z,fun z=>⟨i,hi,z⟩⟩
   show A.P G H v (fun a=>∃ b,inv b=some j/\F b a)
   rw [p]
   rcases f with f | f
   ·obtain ⟨t,c,g⟩:=I.sl i _ f
    rw [hs] at c;cases c;exact g.1
   ·obtain ⟨t,c,g⟩:=I.sl i _ f
    rw [hs] at c;cases c;exact g.1
 ln:=ln
 ft:=I.ft
theorem VI.leave (I:VI B G H σ env F) (inj:∀ i m j,inv i=some j->inv m=some j->i=m) (r:B1.G=G) (h:B1.H=H) (M:∀ a o,H a=some o->(∀ i j,inv i=some j->¬ F i a)->B1.R a=some o)
  (E:∀ i j,inv i=some j->∀ a,B1.F j a->F i a) (D:∀ i j,inv i=some j->B1.S[j]? = σ[i]?) (J:VI B1 G' H' σI envI F') (io:∀ i j,inv i=some j->∃ A',envI[j]?=some (some (.io A'))) {env2:En} (O:env2.length=env.length)
  (K:∀ i s,env2[i]?=some (some s)->(inv i=none/\env[i]?=some (some s))\/∃ j A A',inv i=some j/\envI[j]?=some (some (.io A'))/\((env[i]?=some (some (.own A))/\s=.own A')\/(env[i]?=some (some (.io A))/\s=.io A'))) :
  VI B G' H' σ env2 (fun i a=>match inv i with | some j=>F' j a | none=>F i a):=by
 have f:∀ a o,G' a=some o->G a=some o\/H a=none:=fun a o e=>by
  have:=J.gn a o e
  rw [r,h] at this;exact this
 have fi:∀ i j a,inv i=some j->F' j a->F i a\/H a=none:=fun i j a hi z=>by
  obtain ⟨A',e⟩:=io i j hi
  obtain ⟨v,_,q⟩:=J.sl j _ e
  rcases q.2.1 a z with y | y
  ·exact .inl (E i j hi a y)
  ·rw [h] at y;exact .inr y
 have kp:∀ a o,H a=some o->(∀ i j,inv i=some j->¬ F i a)->H' a=some o:=fun a o e n=>J.rs a o (M a o e n)
 refine ⟨J.gh,I.g0.trans (r ▸ J.g0),fun a o e=>?_,fun a o e=>?_,I.rb,fun a o e=>?_,fun i a z=>?_,fun i a z=>?_,fun i k a y z=>?_,fun i a z=>?_,fun i t e=>?_,by rw [O];exact I.ln,J.ft⟩
 ·rcases f a o e with e | e
  ·exact I.gn a o e
  ·exact .inr (I.no_b e)
 ·refine kp a o (I.rs a o e) fun i j _ z=>?_
  rw [I.fr i a z] at e;cases e
 ·obtain ⟨L,d⟩:=I.bh a o e
  exact J.bh a L (by rw [h];exact d)
 ·cases hi:inv i with
  | some j=>rw [hi] at z;exact J.fg j a z
  | none =>
   rw [hi] at z
   cases e:G' a with
   | none=>rfl
   | some o =>
    rcases f a o e with e | e
    ·rw [I.fg i a z] at e;cases e
    ·exact absurd z (I.no_f e i)
 ·cases hi:inv i with
  | some j =>
   rw [hi] at z
   rcases fi i j a hi z with y | y
   ·exact I.fr i a y
   ·exact I.no_r y
  | none=>rw [hi] at z;exact I.fr i a z
 ·cases hi:inv i with
  | some j =>
   rw [hi] at y
   cases hk:inv k with
   | some l =>
    rw [hk] at z
    have:=J.fd j l a y z
    subst this
    exact inj i k j hi hk
   | none =>
    rw [hk] at z
    rcases fi i j a hi y with x | x
    ·exact I.fd i k a x z
    ·exact absurd z (I.no_f x k)
  | none =>
   rw [hi] at y
   cases hk:inv k with
   | some l =>
    rw [hk] at z
    rcases fi k l a hk z with x | x
    ·exact I.fd i k a y x
    ·exact absurd y (I.no_f x i)
   | none=>rw [hk] at z;exact I.fd i k a y z
 ·cases hi:inv i with
  | some j=>rw [hi] at z;exact J.fo j a z
  | none =>
   rw [hi] at z
   obtain ⟨o,e⟩:=I.fo i a z
   exact J.bh a o (by rw [h];exact e)
 ·rcases K i t e with ⟨hi,d⟩ | ⟨j,A,A',hi,d,c⟩
  ·obtain ⟨v,u,q⟩:=I.sl i t d
   refine ⟨v,u,?_⟩
   simp only [hi]
   refine q.mono (r ▸ J.g0) fun a o z y=>kp a o y fun m j' b C=>?_
   have:=I.fd i m a z C
   subst this
   rw [hi] at b;cases b
  ·obtain ⟨v,u,q⟩:=J.sl j _ d
   have w : σ[i]?=some (some v):=by rw [← D i j hi];exact q.2.2
   refine ⟨v,w,?_⟩
   simp only [hi]
   rcases c with ⟨c,rfl⟩ | ⟨c,rfl⟩
   ·obtain ⟨N,_,p⟩:=I.sl i _ c
    refine ⟨q.1,fun a z=>?_⟩
    rcases fi i j a hi z with y | y
    ·exact p.2 a y
    ·exact I.no_b y
   ·obtain ⟨N,g,p⟩:=I.sl i _ c
    rw [w] at g;cases g
    refine ⟨q.1,fun a z=>?_,p.2.2⟩
    rcases fi i j a hi z with y | y
    ·exact p.2.1 a y
    ·exact .inr (I.no_b y)
theorem RsX.leave (I:VI B G H σ env F) (b:B1.H=H) (r:RsX B1 G' H' v Fv s F'):RsX B G' H' v Fv s (fun i a=>match inv i with | some j=>F' j a | none=>F i a):=by
 have hn:∀ a,Fv a->H a=none:=fun a z=>b ▸ r.fb a z
 refine ⟨r.ok,fun a z=>I.no_b (hn a z),r.fg,r.fo,fun i a z y=>?_⟩
 cases hi:inv i with
 | some j=>rw [hi] at y;exact r.fd j a z y
 | none=>rw [hi] at y;exact I.no_f (hn a z) i y
end
abbrev VP:=List Sl->(Sl->Prop)->Prop
abbrev VIo:=Own->List Sl->(Own->Sl->Prop)->Prop
def noF:Nat->Addr->Prop:=fun _ _=>False
def bsP (K:Frag) (G H:Hp) (vs:List V):Bs:=⟨K,G,H,H,vs.map some,noF⟩
def av9 (K:Frag) (G:Hp):V->Sl->Prop
 | v,.st d=>Rp G v d
 | v,.scr ns=>∃ a,v=.ref a/\SqL K G a (ns.map V.int)
 | _,_=>False
inductive ArgsOk (K:Frag) (G:Hp):List V->List Sl->Prop
 | nil:ArgsOk K G [] []
 | cons {v:V} {s:Sl} {vs:List V} {ss:List Sl}:av9 K G v s->ArgsOk K G vs ss->ArgsOk K G (v :: vs) (s :: ss)
theorem ArgsOk.length {K:Frag} {G:Hp}:∀ {vs:List V} {ss:List Sl},ArgsOk K G vs ss->vs.length=ss.length
 | _,_,.nil=>rfl
 | _,_,.cons _ t=>by simp [ArgsOk.length t]
theorem ArgsOk.get {K:Frag} {G:Hp}:∀ {vs:List V} {ss:List Sl} {i:Nat} {s:Sl},ArgsOk K G vs ss->ss[i]?=some s->∃ v,vs[i]?=some v/\av9 K G v s
 | _,_,_,_,.nil,e=>by simp at e
 | _,_,0,_,.cons r _,e=>by simp at e;subst e;exact ⟨_,rfl,r⟩
 | _,_,i+1,s,.cons _ t,e=>by
  obtain ⟨u,a,b⟩:=ArgsOk.get (i:=i) (s:=s) t (by simpa using e)
  exact ⟨u,by simpa using a,b⟩
theorem ArgsOk.of {K:Frag} {G:Hp}:∀ {vs:List V} {ds:List PyData},Rps G vs ds->ArgsOk K G vs (ds.map Sl.st)
 | _,_,.nil => .nil
 | _,_,.cons r t => .cons r (ArgsOk.of t)
theorem ajd {α:Type} {xs:List α} {n i:Nat} {s : α} (e:(xs.map some ++ List.replicate n none)[i]?=some (some s)):xs[i]?=some s:=by
 by_cases h:i < xs.length
 ·rw [aC3 (by simpa using h),aA5] at e
  rw [aA0 h] at e ⊢
  simpa using e
 ·rw [aC8 (by simpa using h),aH7] at e
  split at e <;> cases e
theorem aje {α:Type} {xs:List α} {n i:Nat} {s : α} (e:xs[i]?=some s):(xs.map some ++ List.replicate n none)[i]?=some (some s):=by
 have h:i < xs.length:=(aA1.mp e).1
 rw [aC3 (by simpa using h),aA5,e];rfl
def spP (K:Frag) (f:VP):Sp:=fun vs H Q _=>∃ G ss Q',Same G H/\FT G H/\ArgsOk K G vs ss/\f ss Q'/\∀ s,Q' s->∀ v G' H' Fv,Out G H v G' H' s Fv->Q v H'
structure OutI (G H R:Hp) (F0:Addr->Prop) (v0:V) (A':Own) (s:Sl) (v:V) (G' H':Hp) (F' Fv:Addr->Prop):Prop where
 gg:Same G G'
 gh:Same G' H'
 ft:FT G' H'
 gn:∀ a o,G' a=some o->G a=some o\/H a=none
 rs:Same R H'
 bh:∀ a o,H a=some o->∃ o',H' a=some o'
 ap:A'.P G' H' v0 F'
 fi:∀ a,F' a->F0 a\/H a=none
 fg:∀ a,F' a->G' a=none
 ok:RsOk G' H' v Fv s
 fv:∀ a,Fv a->H a=none/\G' a=none/\(∃ o,H' a=some o)/\¬ F' a
def spI (K:Frag) (f:VIo):Sp:=fun vs H Q _=>∃ v0 vr G R A ss F0 Q',vs=v0 :: vr/\Same G H/\FT G H/\Same R H/\A.P G H v0 F0/\(∀ a,F0 a->G a=none)/\(∀ a,F0 a->R a=none)/\ArgsOk K G vr ss /\
 f A ss Q'/\∀ A' s,Q' A' s->∀ v G' H' F' Fv,OutI G H R F0 v0 A' s v G' H' F' Fv->Q v H'
theorem abe {K:Frag} {f:VP} {ts:TS} {N:List Str} {vs:List V} {H:Hp} {Q:VK} {E:XK} (h:spP K f vs H Q E)
  (hb:∀ ss b,f ss b->∀ B,B.K=K->EvS B ts { nx:=fun _=>b (.st .none),rt:=fun s _=>b s } (ss.map some ++ List.replicate (N.length - ss.length) none)):ts { nx:=fun _ H'=>Q .non H',rt:=Q } (L2.start N vs) H:=by
 obtain ⟨G,ss,b,gh,ft,c,hf,l⟩:=h
 have fin:∀ {σ G' H' F env v Fv s},VI (bsP K G H vs) G' H' σ env F->RsX (bsP K G H vs) G' H' v Fv s F->Out G H v G' H' s Fv:=fun I r =>
  ⟨I.g0,I.gh,I.rs,I.gn,r.fb,r.fg,r.fo,r.ok,fun _=>I.ft⟩
 refine hb ss _ hf (bsP K G H vs) rfl (L2.start N vs) G H noF _ ?_ ⟨fun σ G' H' F env I g q=>l _ q _ _ _ _ (fin I (acu .non)),fun σ G' H' F env v Fv s I g r q=>l _ q v G' H' Fv (fin I r),fun _ _ _ _ _ _ _ q=>q,fun _ _ _ _ _ _ _ q=>q⟩
 refine ⟨gh,Same.refl _,fun a o e => .inl e,Same.refl _,Same.refl _,fun a o e=>⟨o,e⟩,fun i a z=>z.elim,fun i a z=>z.elim,fun i j a z=>z.elim,fun i a z=>z.elim,fun i s e=>?_,?_,ft⟩
 ·obtain ⟨v,m,q⟩:=c.get (ajd e)
  refine ⟨v,by unfold L2.start;exact aje m,?_⟩
  cases s with
  | st d=>exact ⟨q,fun a z=>z⟩
  | scr ns=>exact ⟨q,fun a z=>z⟩
  | own A=>exact q.elim
  | io A=>exact q.elim
 ·unfold L2.start;simp [c.length]
theorem aeo {K:Frag} {f:VIo} {ts:TS} {N:List Str} {vs:List V} {H:Hp} {Q:VK} {E:XK} (h:spI K f vs H Q E)
  (hb:∀ A ss c,f A ss c->∀ B,B.K=K->EvS B ts { nx:=fun e=>∃ A',e[0]?=some (some (.io A'))/\c A' (.st .none),rt:=fun s e=>∃ A',e[0]?=some (some (.io A'))/\c A' s } (some (.io A) :: (ss.map some ++ List.replicate (N.length - (ss.length+1)) none))):ts { nx:=fun _ H'=>Q .non H',rt:=Q } (L2.start N vs) H:=by
 obtain ⟨v0,b,G,R,A,ss,F0,c,rfl,gh,ft,p,ap,fg,fr,l,hf,D⟩:=h
 have L:(v0 :: b).length=ss.length+1:=by simp [l.length]
 refine hb A ss _ hf ⟨K,G,H,R,(v0 :: b).map some,fun i a=>i=0/\F0 a⟩ rfl (L2.start N (v0 :: b)) G H (fun i a=>i=0/\F0 a) _ ?_ ?_
 ·refine ⟨gh,Same.refl _,fun a o e => .inl e,p,p,fun a o e=>⟨o,e⟩,fun i a z=>fg a z.2,fun i a z=>fr a z.2,fun i j a z y=>by rw [z.1,y.1],fun i a z=>A.dom ap a z.2,fun i s e=>?_,?_,ft⟩
  ·cases i with
   | zero =>
    simp at e
    subst e
    refine ⟨v0,rfl,?_,fun a z => .inl z,rfl⟩
    have:(fun a=>0=0/\F0 a)=F0:=by funext a;simp
    rw [this];exact ap
   | succ i =>
    have w:(ss.map some ++ List.replicate (N.length - (ss.length+1)) none)[i]?=some (some s):=by simpa using e
    obtain ⟨v,J,q⟩:=l.get (ajd w)
    refine ⟨v,?_,?_⟩
    ·unfold L2.start;exact aje (by simpa using J)
    ·cases s with
     | st d=>exact ⟨q,fun a z=>by cases z.1⟩
     | scr ns=>exact ⟨q,fun a z=>by cases z.1⟩
     | own A=>exact q.elim
     | io A=>exact q.elim
  ·unfold L2.start;simp [l.length]
 ·have fin:∀ σ G' H' F env v Fv s,VI ⟨K,G,H,R,(v0 :: b).map some,fun i a=>i=0/\F0 a⟩ G' H' σ env F->RsX ⟨K,G,H,R,(v0 :: b).map some,fun i a=>i=0/\F0 a⟩ G' H' v Fv s F->(∃ A',env[0]?=some (some (.io A'))/\c A' s)->Q v H':=by
   intro σ G' H' F env v Fv s I r ⟨A',e,q⟩
   obtain ⟨n,u,C,t,x⟩:=I.sl 0 _ e
   have:n=v0:=by
    have m:((v0 :: b).map some)[0]?=some (some n):=x
    simpa using m.symm
   subst this
   exact D A' s q v G' H' (F 0) Fv ⟨I.g0,I.gh,I.ft,I.gn,I.rs,I.bh,C,fun a z=>by
    rcases t a z with y | y
    ·exact .inl y.2
    ·exact .inr y,I.fg 0,r.ok,fun a z=>⟨r.fb a z,r.fg a z,r.fo a z,r.fd 0 a z⟩⟩
  refine ⟨fun σ G' H' F env I g q=>fin σ G' H' F env .non _ (.st .none) I (acu .non) q,fun σ G' H' F env v Fv s I g r q=>fin σ G' H' F env v Fv s I r q,fun _ _ _ _ _ _ _ q=>q,fun _ _ _ _ _ _ _ q=>q⟩
section
variable {B:Bs} {env:En} {Q':PyData->En->Prop} {QO:Sl->En->Prop} {K:Frag} {E:XK}
theorem aj1 {f:VP} {t:TA} (h:EvA B t env fun ds b=>f (ds.map Sl.st) fun s=>QO s b):EvO B (abf (spP K f) [] E t) env QO:=fun σ G H F Q I k=>by
 unfold abf
 simp only [aE9]
 exact h σ G H F _ I fun vs d l g ds b a j c i=>⟨d,_,_,a.gh,a.ft,ArgsOk.of c,i,fun s q v G' H' Fv o=>k v G' H' g Fv s b (a.out o).1 (j.trans o.gg) (a.out o).2 q⟩
theorem aug {f:VP} {t:TA} (h:EvA B t env fun ds a=>f (ds.map Sl.st) fun s=>FQ s fun d=>Q' d a):Ev B (abf (spP K f) [] E t) env Q':=abr (aj1 h)
theorem aj2 {f:VP} {t:TA} {i:Nat} {ns:List Int} (e:env[i]?=some (some (.scr ns))) (l:B.K=K) (h:EvA B t env fun ds c=>f (.scr ns :: ds.map Sl.st) fun s=>QO s c):EvO B (abf (spP K f) [] E (aa2 (tVar i) t)) env QO:=fun σ G H F Q I k=>by
 subst l
 unfold abf
 simp only [aE9]
 obtain ⟨v0,u,⟨a,n,r⟩,_⟩:=I.sl i _ e
 refine ⟨v0,u,h σ G H F _ I fun vs j w m ds c b d g p=>⟨j,_,_,b.gh,b.ft,.cons (s:=.scr ns) ⟨a,n,d.seq r⟩ (ArgsOk.of g),p,fun s q v G' H' Fv o=>k v G' H' m Fv s c (b.out o).1 (d.trans o.gg) (b.out o).2 q⟩⟩
theorem auh {f:VP} {t:TA} {i:Nat} {ns:List Int} (e:env[i]?=some (some (.scr ns))) (b:B.K=K) (h:EvA B t env fun ds a=>f (.scr ns :: ds.map Sl.st) fun s=>FQ s fun d=>Q' d a):Ev B (abf (spP K f) [] E (aa2 (tVar i) t)) env Q':=abr (aj2 e b h)
def reS:Sl->Own->Sl
 | .io _,A => .io A
 | _,A => .own A
theorem aj3 {f:VIo} {t:TA} {i:Nat} (S:∃ s,env[i]?=some (some s)) (h:EvA B t env fun ds C=>∃ w A,C[i]?=some (some w)/\(w=.own A\/w=.io A)/\f A (ds.map Sl.st) fun A' s=>QO s (C.set i (some (reS w A')))):EvO B (abf (spI K f) [] E (aa2 (tVar i) t)) env QO:=fun σ G H F Q I k=>by
 unfold abf
 simp only [aE9]
 obtain ⟨s,e⟩:=S
 obtain ⟨v0,O,_⟩:=I.sl i _ e
 refine ⟨v0,O,h σ G H F _ I fun vs M p m ds C r U R ⟨w,A,N,hs,T⟩=>?_⟩
 obtain ⟨W,D,q⟩:=r.sl i _ N
 rw [O] at D;cases D
 have ap:A.P M p v0 (m i):=by
  rcases hs with rfl | rfl
  ·exact q.1
  ·exact q.1
 let inv:Nat->Option Nat:=fun j=>if j=i then some 0 else none
 have d:inv i=some 0:=aF5 rfl
 have g:∀ j,j ≠ i->inv j=none:=fun j h=>aF6 h
 have c:∀ j l,inv j=some l->j=i/\l=0:=fun j l h=>by
  by_cases hj:j=i
  ·subst hj;rw [d] at h;cases h;exact ⟨rfl,rfl⟩
  ·rw [g j hj] at h;cases h
 refine ⟨v0,vs,M,acm p m inv,A,_,m i,_,rfl,r.gh,r.ft,ac9,ap,r.fg i,fun a z=>afh d z,ArgsOk.of R,T,fun A' s q v G' H' F' Fv o=>?_⟩
 have hi:i < C.length:=(aA1.mp N).1
 have J:VI ⟨K,M,p,acm p m inv,[some v0],fun j a=>j=0/\m i a⟩ G' H' [some v0] [some (.io A')] (fun j a=>j=0/\F' a):=by
  refine ⟨o.gh,o.gg,o.gn,o.rs,ac9,o.bh,fun j a z=>o.fg a z.2,fun j a z=>?_,fun j l a y z=>by rw [y.1,z.1],fun j a z=>A'.dom o.ap a z.2,fun j s e=>?_,rfl,o.ft⟩
  ·rcases o.fi a z.2 with y | y
   ·exact afh d y
   ·cases e:acm p m inv a with
    | none=>exact e
    | some u=>rw [ac9 a u e] at y;cases y
  ·cases j with
   | zero =>
    simp at e
    subst e
    refine ⟨v0,rfl,?_,fun a z=>?_,rfl⟩
    ·have:(fun a=>0=0/\F' a)=F':=by funext a;simp
     rw [this];exact o.ap
    ·rcases o.fi a z.2 with y | y
     ·exact .inl ⟨rfl,y⟩
     ·exact .inr y
   | succ j=>simp at e
 have L:=r.leave (inv:=inv) (env2:=C.set i (some (reS w A'))) (fun a b j ha hb=>by rw [(c a j ha).1,(c b j hb).1]) rfl rfl (fun a u e n=>by show acm p m inv a=_;rw [ahh n];exact e)
  (fun a j ha x z=>by rw [(c a j ha).1];exact z.2) (fun a j ha=>by rw [(c a j ha).1,(c a j ha).2,O];rfl) J (fun a j ha=>⟨A',by rw [(c a j ha).2];rfl⟩) (by simp) fun j s' e=>by
   by_cases hj:j=i
   ·subst hj
    rw [aD2,aF5 rfl,aF5 hi] at e
    cases e
    refine .inr ⟨0,A,A',d,rfl,?_⟩
    rcases hs with rfl | rfl
    ·exact .inl ⟨N,rfl⟩
    ·exact .inr ⟨N,rfl⟩
   ·rw [aD2,aF6 (fun z=>hj z.symm)] at e
    exact .inl ⟨g j hj,e⟩
 have X:RsX ⟨K,M,p,acm p m inv,[some v0],fun j a=>j=0/\m i a⟩ G' H' v Fv s (fun j a=>j=0/\F' a):=⟨o.ok,fun a z=>(o.fv a z).1,fun a z=>(o.fv a z).2.1,fun a z=>(o.fv a z).2.2.1,fun j a z y=>(o.fv a z).2.2.2 y.2⟩
 exact k v G' H' _ Fv s _ L (U.trans o.gg) (X.leave (inv:=inv) r rfl) q
end
def aid:Option Sl->Option Sl
 | some (.own A)=>some (.io A)
 | s=>s
def aar (src:List (Option Nat)) (env:En):En:=src.map fun o=>match o with | some j=>aid ((env[j]?).getD none) | none=>none
def isIo:Option Sl->Bool
 | some (.io _)=>true
 | _=>false
def idxE (i:Nat):List (Option Nat)->Nat->Option Nat
 | [],_=>none
 | o :: r,k=>if o=some i then some k else idxE i r (k+1)
def agm (src:List (Option Nat)) (e:En) (i:Nat) (s:Option Sl):Option Sl :=
 match s with
 | some (.own A)=>(match idxE i src 0 with | some j=>(match e[j]? with | some (some (.io A'))=>some (.own A') | _=>none) | none=>some (.own A))
 | some (.io A)=>(match idxE i src 0 with | some j=>(match e[j]? with | some (some (.io A'))=>some (.io A') | _=>none) | none=>some (.io A))
 | s=>s
def ae4 (src:List (Option Nat)) (e:En):Nat->En->En
 | _,[]=>[]
 | k,s :: r=>agm src e k s :: ae4 src e (k+1) r
def aie (src:List (Option Nat)) (e1 e:En):En:=ae4 src e 0 e1
theorem afi (src:List (Option Nat)) (e:En):∀ (k:Nat) (l:En) (i:Nat),(ae4 src e k l)[i]?=(l[i]?).map (agm src e (k+i))
 | _,[],i=>by simp [ae4]
 | k,s :: r,0=>by simp [ae4]
 | k,s :: r,i+1=>by
  have:=afi src e (k+1) r i
  simp only [ae4,List.getElem?_cons_succ,this]
  rw [show k+1+i=k+(i+1) by omega]
theorem aep {i:Nat}:∀ {src:List (Option Nat)} {k j:Nat},idxE i src k=some j->k<=j/\src[j - k]?=some (some i)
 | [],_,_,h=>by cases h
 | o :: r,k,j,h=>by
  unfold idxE at h
  by_cases e:o=some i
  ·rw [aF5 e] at h;cases h
   exact ⟨aA6 _,by simp [e]⟩
  ·rw [aF6 e] at h
   obtain ⟨b,a⟩:=aep h
   refine ⟨by omega,?_⟩
   rw [show j - k=(j - (k+1))+1 by omega]
   simpa using a
theorem aj4 {i:Nat}:∀ {src:List (Option Nat)} {k:Nat},idxE i src k=none->∀ j:Nat,src[j]? ≠ some (some i)
 | [],_,_,j=>by simp
 | o :: r,k,h,j=>by
  unfold idxE at h
  by_cases e:o=some i
  ·rw [aF5 e] at h;cases h
  ·rw [aF6 e] at h
   cases j with
   | zero=>simpa using e
   | succ j=>simpa using aj4 h j
theorem amn:∀ (src:List (Option Nat)),(src.filterMap id).Nodup->∀ j j' i:Nat,src[j]?=some (some i)->src[j']?=some (some i)->j=j'
 | [],_,j,_,_,h,_=>by simp at h
 | none :: r,h,j,j',i,h1,h2=>by
  cases j with
  | zero=>simp at h1
  | succ j =>
   cases j' with
   | zero=>simp at h2
   | succ j'=>rw [amn r (by simpa using h) j j' i (by simpa using h1) (by simpa using h2)]
 | some x :: r,h,j,j',i,h1,h2=>by
  have h':=aI4.mp (show (x :: r.filterMap id).Nodup by simpa using h)
  have nm:∀ k,r[k]?=some (some x)->False:=fun k b=>h'.1 (List.mem_filterMap.mpr ⟨some x,aA2 b,rfl⟩)
  cases j with
  | zero =>
   have a:x=i:=by simpa using h1
   subst a
   cases j' with
   | zero=>rfl
   | succ j'=>exact (nm j' (by simpa using h2)).elim
  | succ j =>
   cases j' with
   | zero =>
    have a:x=i:=by simpa using h2
    subst a
    exact (nm j (by simpa using h1)).elim
   | succ j'=>rw [amn r h'.2 j j' i (by simpa using h1) (by simpa using h2)]
def agn:Option Sl->Bool
 | some (.own _)=>true
 | _=>false
def ioLe:En->En->Prop
 | a :: r,b :: s=>(isIo a=isIo b/\agn b=false)/\ioLe r s
 | [],[]=>True
 | _,_=>False
theorem amo {x:Option Sl} (h:isIo x=true):∃ A,x=some (.io A):=by
 cases x with
 | none=>simp [isIo] at h
 | some y =>
  cases y with
  | io A=>exact ⟨A,rfl⟩
  | _=>simp [isIo] at h
theorem ioLe.get:∀ {a b:En} {j:Nat} {x:Option Sl},ioLe a b->a[j]?=some x->isIo x=true->∃ A,b[j]?=some (some (.io A))
 | [],_,_,_,_,e,_=>by simp at e
 | x :: r,[],_,_,h,_,_=>h.elim
 | x :: r,y :: s,0,z,h,e,p=>by
  simp at e;subst e
  have:=h.1.1
  rw [p] at this
  obtain ⟨A,q⟩:=amo this.symm
  exact ⟨A,by simp [q]⟩
 | x :: r,y :: s,j+1,z,h,e,p=>by
  obtain ⟨A,q⟩:=ioLe.get (j:=j) h.2 (by simpa using e) p
  exact ⟨A,by simpa using q⟩
theorem ioLe.got:∀ {a b:En} {j:Nat} {x:Option Sl},ioLe a b->b[j]?=some x->(isIo x=true->∃ A,a[j]?=some (some (.io A)))/\agn x=false
 | [],[],_,_,_,e=>by simp at e
 | [],_ :: _,_,_,h,e=>h.elim
 | x :: r,[],_,_,h,_=>h.elim
 | x :: r,y :: s,0,z,h,e=>by
  simp at e;subst e
  refine ⟨fun p=>?_,h.1.2⟩
  have:=h.1.1
  rw [p] at this
  obtain ⟨A,q⟩:=amo this
  exact ⟨A,by simp [q]⟩
 | x :: r,y :: s,j+1,z,h,e=>by
  obtain ⟨p,q⟩:=ioLe.got (j:=j) (x:=z) h.2 (by simpa using e)
  exact ⟨fun t=>by obtain ⟨A,u⟩:=p t;exact ⟨A,by simpa using u⟩,q⟩
section
variable {B:Bs} {G H:Hp} {σ:St} {env:En} {F:Nat->Addr->Prop}
theorem VI.aside (I:VI B G H σ env F) {p:Addr} {o:HO} (b:∀ xs,o ≠ .tup xs) (c:G p=none) (hf:∀ j,¬ F j p) (hb:B.H p=none):VI B G (upd H p o) σ env F where
 gh:=fun a u e=>by rw [aae (aao e c)];exact I.gh a u e
 g0:=I.g0
 gn:=I.gn
 rs:=fun a u e=>by rw [aae (aao e (I.b_r hb))];exact I.rs a u e
 rb:=I.rb
 bh:=fun a u e=>by rw [aae (aao e hb)];exact I.bh a u e
 fg:=I.fg
 fr:=I.fr
 fd:=I.fd
 fo:=fun j a z=>by rw [aae (fun e:a=p=>hf j (e ▸ z))];exact I.fo j a z
 sl:=fun i s e=>by
  obtain ⟨v,d,q⟩:=I.sl i s e
  exact ⟨v,d,q.mono (Same.refl _) fun a u z y=>by rw [aae (fun e:a=p=>hf i (e ▸ z))];exact y⟩
 ln:=I.ln
 ft:=fun a ks e=>by
  by_cases z:a=p
  ·subst z;rw [aah] at e;exact absurd (aC6 e) (b _)
  ·rw [aae z] at e;exact I.ft a ks e
def LcV (K:Frag) (src:List (Option Nat)) (g:TG) (tif:TT) (te:TE) (ds:List PyData) (e1:En) (R:List PyData->En->Prop):Prop:=∃ J:Nat->List PyData->En->Prop,J 0 [] (aar src e1)/\(∀ i ys e,J i ys e->ioLe (aar src e1) e) /\
 (∀ i d ys e,ds[i]?=some d->J i ys e->∀ B':Bs,B'.K=K->EvG B' g (.st d) e fun e2=>EvT B' tif e2 fun b e3=>if b=true then Ev B' te e3 fun y e4=>ys.length<=999999/\J (i+1) (ys ++ [y]) e4 else J (i+1) ys e3)/\∀ ys e,J ds.length ys e->R ys (aie src e1 e)
theorem aj5 {src:List (Option Nat)} {j:Nat} {s:Sl} (h:(aar src env)[j]?=some (some s)):∃ i t,src[j]?=some (some i)/\env[i]?=some (some t)/\aid (some t)=some s:=by
 unfold aar at h
 rw [aA5] at h
 cases e:src[j]? with
 | none=>rw [e] at h;cases h
 | some o =>
  rw [e] at h
  cases o with
  | none=>cases h
  | some i =>
   simp only [aI1,Option.some.injEq] at h
   cases e2:env[i]? with
   | none=>rw [e2] at h;cases h
   | some o2 =>
    rw [e2] at h
    cases o2 with
    | none=>cases h
    | some t=>exact ⟨i,t,rfl,e2,h⟩
theorem aui {src:List (Option Nat)} {i j:Nat} {v:V} (h:src[j]?=some (some i)) (a : σ[i]?=some (some v)):(pick src σ)[j]?=some (some v):=by
 unfold pick
 rw [aA5,h]
 simp [a]
theorem ar7 {src:List (Option Nat)} {wi:TI} {g:TG} {b3:TT} {te:TE} {QO:Sl->En->Prop} (nd:(src.filterMap id).Nodup) (h:EvI B wi env fun ds W=>LcV B.K src g b3 te ds W fun ys U=>QO (.own (OL ys)) U):EvO B (tLC src wi g b3 te) env QO:=fun σ G H F Q I k=>by
 refine h σ G H F _ I fun J G1 H1 F1 ds W I1 g1 it ⟨Jv,j0,a9,js,jd⟩ p S=>?_
 let M:Nat->Bool:=fun i=>match W[i]? with | some (some (.own _))=>true | some (some (.io _))=>true | _=>false
 let inv:Nat->Option Nat:=fun i=>if M i=true then idxE i src 0 else none
 have D:∀ i j,inv i=some j->src[j]?=some (some i)/\M i=true:=fun i j hi=>by
  by_cases hm:M i=true
  ·have f:idxE i src 0=some j:=by simpa [inv,hm] using hi
   have:=(aep f).2
   exact ⟨by simpa using this,hm⟩
  ·simp [inv,hm] at hi
 have a4:∀ i j,src[j]?=some (some i)->M i=true->inv i=some j:=fun i j hs hm=>by
  have e0:inv i=idxE i src 0:=by simp [inv,hm]
  cases e:idxE i src 0 with
  | none=>exact absurd hs (aj4 e j)
  | some j' =>
   have:=(aep e).2
   rw [e0,e,amn src nd j j' i hs (by simpa using this)]
 have inj:∀ i c j,inv i=some j->inv c=some j->i=c:=fun i c j Y C=>by
  have a:=(D i j Y).1
  rw [(D c j C).1] at a
  simpa using a.symm
 have b5:∀ i,M i=true->∃ A,W[i]?=some (some (.own A))\/W[i]?=some (some (.io A)):=fun i hm=>by
  cases e:W[i]? with
  | none=>simp [M,e] at hm
  | some o =>
   cases o with
   | none=>simp [M,e] at hm
   | some s =>
    cases s with
    | own A=>exact ⟨A,.inl rfl⟩
    | io A=>exact ⟨A,.inr rfl⟩
    | st d=>simp [M,e] at hm
    | scr ns=>simp [M,e] at hm
 have b4:∀ i ys e,Jv i ys e->∀ c j,inv c=some j->∃ A,e[j]?=some (some (.io A)):=fun i ys e hj c j hi=>by
  obtain ⟨hs,hm⟩:=D c j hi
  obtain ⟨A,O⟩:=b5 c hm
  refine (a9 i ys e hj).get (x:=some (.io A)) ?_ rfl
  unfold aar
  rw [aA5,hs]
  rcases O with O | O <;> simp [O,aid]
 -- between two turns
 let Wv:Nat->List V->St->Hp->Prop:=fun i ys σI H=>∃ Z F2 e env2 yd,VI B Z H σ env2 F2/\Same G1 Z/\H p=some (.lst ys)/\Rps Z ys yd/\Z p=none/\(∀ j,¬ F2 j p)/\Jv i yd e/\σI.length=e.length/\env2.length=W.length /\
  (∀ j s,e[j]?=some (some s)->∃ v,σI[j]?=some (some v)/\((∃ d,s=.st d/\Rp Z v d/\∀ i,inv i ≠ some j)\/(∃ ns a,s=.scr ns/\v=.ref a/\SqL B.K Z a (ns.map V.int)/\∀ i,inv i ≠ some j) ∨
   ∃ i A,inv i=some j/\s=.io A/\σ[i]?=some (some v)/\(env2[i]?=some (some (.own A))\/env2[i]?=some (some (.io A))))) /\
  (∀ i,inv i=none->env2[i]?=W[i]?)/\(∀ i j,inv i=some j->∃ A0 A,e[j]?=some (some (.io A))/\((W[i]?=some (some (.own A0))/\env2[i]?=some (some (.own A)))\/(W[i]?=some (some (.io A0))/\env2[i]?=some (some (.io A)))))
 have hb:B.H p=none:=I1.no_b S
 refine ⟨fun i m ys σI H=>m=ds.length - i/\i<=ds.length/\Wv i ys σI H,⟨ds.length,by simp,aG0 _,?_⟩,?_⟩
 ·refine ⟨G1,F1,aar src W,W,[],I1.aside (fun _ z=>nomatch z) (I1.no_g S) (I1.no_f S) hb,Same.refl _,aah,.nil,I1.no_g S,I1.no_f S,j0,by simp [pick,aar],rfl,fun j s e=>?_,fun _ _=>rfl,fun i j hi=>?_⟩
  ·obtain ⟨i,t,hs,ht,hp⟩:=aj5 e
   obtain ⟨v,hv,q⟩:=I1.sl i t ht
   refine ⟨v,aui hs hv,?_⟩
   cases t with
   | st d =>
    cases hp
    refine .inl ⟨d,rfl,q.1,fun c f=>?_⟩
    have a:=(D c j f).1
    rw [hs] at a
    have:i=c:=by simpa using a
    subst this
    have:=(D i j f).2
    simp [M,ht] at this
   | scr ns =>
    cases hp
    obtain ⟨⟨a,ea,sq⟩,_⟩:=q
    refine .inr (.inl ⟨ns,a,rfl,ea,sq,fun c f=>?_⟩)
    have a:=(D c j f).1
    rw [hs] at a
    have:i=c:=by simpa using a
    subst this
    have:=(D i j f).2
    simp [M,ht] at this
   | own A=>cases hp;exact .inr (.inr ⟨i,A,a4 i j hs (by simp [M,ht]),rfl,hv,.inl ht⟩)
   | io A=>cases hp;exact .inr (.inr ⟨i,A,a4 i j hs (by simp [M,ht]),rfl,hv,.inr ht⟩)
  ·obtain ⟨hs,hm⟩:=D i j hi
   obtain ⟨A,O⟩:=b5 i hm
   refine ⟨A,A,?_,?_⟩
   ·unfold aar
    rw [aA5,hs]
    rcases O with O | O <;> simp [O,aid]
   ·rcases O with O | O
    ·exact .inl ⟨O,O⟩
    ·exact .inr ⟨O,O⟩
 ·rintro i m ys σI H2 ⟨rfl,hi,Z,F2,e,env2,yd,I2,g2,a1,ry,ga,fa,jv,ln,c0,sl,un,mv⟩
  refine ⟨a1,?_⟩
  by_cases hlt:i < ds.length
  ·refine .inr ⟨it.go i Z H2 g2 I2.gh hlt,Wv (i+1),fun a5 c3 H' hw=>⟨ds.length - (i+1),by omega,rfl,hlt,hw⟩,fun x H3 y=>?_⟩
   obtain ⟨G3,o⟩:=it.yld i Z H2 x H3 _ g2 I2.gh I2.ft (aA0 hlt) y
   obtain ⟨I3,X3⟩:=I2.out o
   have a7:=o.hh _ _ a1
   have a8:=fa
   have c1:G3 p=none:=by
    cases e':G3 p with
    | none=>rfl
    | some u =>
     rcases o.gn p u e' with q | q
     ·rw [ga] at q;cases q
     ·rw [a1] at q;cases q
   have b9:∀ j s,e[j]?=some (some s)->∃ v,σI[j]?=some (some v)/\((∃ d,s=.st d/\Rp G3 v d/\∀ i,inv i ≠ some j)\/(∃ ns a,s=.scr ns/\v=.ref a/\SqL B.K G3 a (ns.map V.int)/\∀ i,inv i ≠ some j) ∨
     ∃ i A,inv i=some j/\s=.io A/\σ[i]?=some (some v)/\(env2[i]?=some (some (.own A))\/env2[i]?=some (some (.io A)))):=fun j s es=>by
    obtain ⟨v,hv,q⟩:=sl j s es
    refine ⟨v,hv,?_⟩
    rcases q with ⟨d,b0,r,n⟩ | ⟨ns,a,b0,b6,r,n⟩ | q
    ·exact .inl ⟨d,b0,r.same o.gg,n⟩
    ·exact .inr (.inl ⟨ns,a,b0,b6,o.gg.seq r,n⟩)
    ·exact .inr (.inr q)
   have E3:=I3.enter (inv:=inv) (σI:=σI) (envI:=e) inj ln b9
   -- back from the turn
   have fin:∀ (T:St) (G4 H4:Hp) (F4:Nat->Addr->Prop) (e4:En) (a0:List PyData) (a5:List V) (o4:HO),VI ⟨B.K,G3,H3,acm H3 F2 inv,σI,fun j a=>∃ i,inv i=some j/\F2 i a⟩ G4 H4 T e4 F4->Jv (i+1) a0 e4->Rps G4 a5 a0 ->
     Wv (i+1) a5 T (upd H4 p (.lst a5))/\H4 p=some (.lst ys):=by
    intro T G4 H4 F4 e4 a0 a5 o4 I4 j4 r4
    have a2:=b4 (i+1) a0 e4 j4
    have b7:H4 p=some (.lst ys):=I4.rs p _ (by show acm H3 F2 inv p=_;rw [ahh (fun c _ _=>a8 c)];exact a7)
    have b2:G4 p=none:=by
     cases e':G4 p with
     | none=>rfl
     | some u =>
      rcases I4.gn p u e' with q | q
      ·change G3 p=_ at q;rw [c1] at q;cases q
      ·change H3 p=_ at q;rw [a7] at q;cases q
    -- the slots of the outer frame
    let E:En:=(List.range env2.length).map fun c=>match inv c with
     | some j=>(match env2[c]?,e4[j]? with | some (some (.own _)),some (some (.io A))=>some (.own A) | some (some (.io _)),some (some (.io A))=>some (.io A) | _,_=>none)
     | none=>(env2[c]?).getD none
    have N:∀ c,c < env2.length->E[c]?=some (match inv c with
     | some j=>(match env2[c]?,e4[j]? with | some (some (.own _)),some (some (.io A))=>some (.own A) | some (some (.io _)),some (some (.io A))=>some (.io A) | _,_=>none)
     | none=>(env2[c]?).getD none):=fun c hl=>by
     simp only [E,aA5]
     rw [aA0 (by simpa using hl)]
     simp
    have L:=I3.leave (inv:=inv) (env2:=E) inj rfl rfl (fun a u q n=>by show acm H3 F2 inv a=_;rw [ahh n];exact q) (fun c j f a z=>by obtain ⟨X,Y,C⟩:=z;rw [inj c X j f Y];exact C)
     (fun c j f=>by
      obtain ⟨A0,A,Y,C⟩:=mv c j f
      obtain ⟨v,hv,q⟩:=sl j _ Y
      rcases q with ⟨d,q,_⟩ | ⟨ns,a,q,_⟩ | ⟨X,b8,q1,q2,q3,_⟩
      ·cases q
      ·cases q
      ·rw [inj c X j f q1]
       show σI[j]?=_
       rw [hv,q3]) I4 a2 (by simp [E]) (fun c s es=>by
      have hl:c < env2.length:=by
       have:=(aA1.mp es).1
       simpa [E] using this
      rw [N c hl] at es
      cases f:inv c with
      | none =>
       refine .inl ⟨rfl,?_⟩
       rw [f] at es
       simp only [Option.some.injEq] at es
       cases q:env2[c]? with
       | none=>rw [q] at es;cases es
       | some u=>rw [q] at es;simp at es;rw [es]
      | some j =>
       rw [f] at es
       obtain ⟨A',R⟩:=a2 c j f
       obtain ⟨A0,A,Y,C⟩:=mv c j f
       simp only [R] at es
       rcases C with ⟨_,C⟩ | ⟨_,C⟩
       ·rw [C] at es
        simp only [Option.some.injEq] at es
        exact .inr ⟨j,A,A',rfl,R,.inl ⟨C,es.symm⟩⟩
       ·rw [C] at es
        simp only [Option.some.injEq] at es
        exact .inr ⟨j,A,A',rfl,R,.inr ⟨C,es.symm⟩⟩)
    have b1:∀ j,¬ (match inv j with | some j=>F4 j p | none=>F2 j p):=fun j z=>by
     cases hj:inv j with
     | none=>rw [hj] at z;exact a8 j z
     | some l =>
      rw [hj] at z
      obtain ⟨A',R⟩:=a2 j l hj
      obtain ⟨v,_,q⟩:=I4.sl l _ R
      rcases q.2.1 p z with ⟨X,_,q⟩ | q
      ·exact a8 X q
      ·change H3 p=_ at q;rw [a7] at q;cases q
    refine ⟨⟨G4,_,e4,E,a0,L.aside (fun _ z=>nomatch z) b2 b1 hb,g2.trans (o.gg.trans I4.g0),aah,r4,b2,b1,j4,I4.ln,by simp [E,c0],fun j s es=>?_,fun c f=>?_,fun c j f=>?_⟩,b7⟩
    ·obtain ⟨v,hv,q⟩:=I4.sl j s es
     refine ⟨v,hv,?_⟩
     have a3:(∀ A,s ≠ .io A)->∀ c,inv c ≠ some j:=fun hn c f=>by
      obtain ⟨A,O⟩:=a2 c j f
      rw [es] at O
      exact hn A (by simpa using O)
     cases s with
     | st d=>exact .inl ⟨d,rfl,q.1,a3 (by intro A z;cases z)⟩
     | scr ns =>
      obtain ⟨⟨a,ea,sq⟩,_⟩:=q
      exact .inr (.inl ⟨ns,a,rfl,ea,sq,a3 (by intro A z;cases z)⟩)
     | own A =>
      have:=((a9 _ _ _ j4).got es).2
      simp [agn] at this
     | io A =>
      obtain ⟨A0,h0⟩:=((a9 _ _ _ j4).got es).1 rfl
      obtain ⟨c,t,hs,ht,hp⟩:=aj5 h0
      have hm:M c=true:=by
       cases t with
       | own A=>simp [M,ht]
       | io A=>simp [M,ht]
       | st d=>cases hp
       | scr ns=>cases hp
      have f:=a4 c j hs hm
      obtain ⟨B0,A1,Y,C⟩:=mv c j f
      have hl:c < env2.length:=by
       rcases C with ⟨_,C⟩ | ⟨_,C⟩ <;> exact (aA1.mp C).1
      refine .inr (.inr ⟨c,A,f,rfl,?_,?_⟩)
      ·have hS : σI[j]?=some (some v):=q.2.2
       obtain ⟨v',c2,q'⟩:=sl j _ Y
       rcases q' with ⟨d,q',_⟩ | ⟨ns,a,q',_⟩ | ⟨X,b8,q1,q2,q3,_⟩
       ·cases q'
       ·cases q'
       ·rw [inj c X j f q1,q3,← c2,hS]
      ·rw [N c hl,f]
       simp only [es]
       rcases C with ⟨_,C⟩ | ⟨_,C⟩
       ·rw [C];exact .inl rfl
       ·rw [C];exact .inr rfl
    ·by_cases hl:c < env2.length
     ·rw [N c hl,f]
      simp only
      rw [← un c f]
      rw [aA0 hl];rfl
     ·rw [aF7.mpr (by simp [E];omega),← un c f,aF7.mpr (by omega)]
    ·obtain ⟨A',R⟩:=a2 c j f
     obtain ⟨A0,A,Y,C⟩:=mv c j f
     have hl:c < env2.length:=by
      rcases C with ⟨_,C⟩ | ⟨_,C⟩ <;> exact (aA1.mp C).1
     refine ⟨A0,A',R,?_⟩
     rw [N c hl,f]
     simp only [R]
     rcases C with ⟨h3,C⟩ | ⟨h3,C⟩
     ·rw [C];exact .inl ⟨h3,rfl⟩
     ·rw [C];exact .inr ⟨h3,rfl⟩
   have hd:ds[i]?=some ds[i]:=aA0 hlt
   refine js i _ yd e hd jv ⟨B.K,G3,H3,acm H3 F2 inv,σI,fun j a=>∃ i,inv i=some j/\F2 i a⟩ rfl σI G3 H3 _ x _ _ E3 (acu o.ok.1) fun T G4 H4 F4 e4 I4 g4 q4=>?_
   refine q4 T G4 H4 F4 _ I4 fun b G5 H5 F5 e5 I5 g5 q5=>?_
   cases b with
   | false =>
    rw [aF6 aB0] at q5 ⊢
    obtain ⟨w,ac⟩:=fin T G5 H5 F5 e5 yd ys (.lst ys) I5 q5 (ry.same (o.gg.trans (g4.trans g5)))
    have:upd H5 p (.lst ys)=H5:=by
     funext b
     unfold upd
     split
     ·rename_i hb';rw [hb'];exact ac.symm
     ·rfl
    rw [this] at w
    exact w
   | true =>
    rw [aF5 rfl] at q5 ⊢
    refine q5 T G5 H5 F5 _ I5 fun y G6 H6 F6 d6 e6 I6 g6 r6 q6=>?_
    obtain ⟨w,ac⟩:=fin T G6 H6 F6 e6 (yd ++ [d6]) (ys ++ [y]) (.lst ys) I6 q6.2 ((ry.same (o.gg.trans (g4.trans (g5.trans g6)))).append (.cons r6 .nil))
    exact ⟨ac,by rw [ry.length];exact big (by have:=q6.1;omega),w⟩
  ·have ei:i=ds.length:=by omega
   subst ei
   refine .inl ⟨it.stop _ Z H2 g2 I2.gh rfl,?_⟩
   have q:=jd yd e jv
   have eb:aie src W e=env2:=by
    apply aG2
    intro c
    unfold aie
    rw [afi,Nat.zero_add]
    have P:M c=false->env2[c]?=W[c]?:=fun hm=>un c (by simp [inv,hm])
    cases U:W[c]? with
    | none =>
     rw [P (by simp [M,U]),U];rfl
    | some o =>
     cases o with
     | none=>rw [P (by simp [M,U]),U];rfl
     | some t =>
      have a6:∀ A,(t=.own A\/t=.io A)->M c=true:=fun A h=>by rcases h with rfl | rfl <;> simp [M,U]
      cases t with
      | st d=>rw [P (by simp [M,U]),U];rfl
      | scr ns=>rw [P (by simp [M,U]),U];rfl
      | own A =>
       have hm:=a6 A (.inl rfl)
       simp only [aI1,agm]
       cases e3:idxE c src 0 with
       | none =>
        have:inv c=none:=by simp [inv,e3]
        rw [un c this,U]
       | some j =>
        have f:inv c=some j:=by simp [inv,hm,e3]
        obtain ⟨A0,A1,Y,C⟩:=mv c j f
        simp only [Y]
        rcases C with ⟨h3,C⟩ | ⟨h3,C⟩
        ·rw [C]
        ·rw [U] at h3;cases h3
      | io A =>
       have hm:=a6 A (.inr rfl)
       simp only [aI1,agm]
       cases e3:idxE c src 0 with
       | none =>
        have:inv c=none:=by simp [inv,e3]
        rw [un c this,U]
       | some j =>
        have f:inv c=some j:=by simp [inv,hm,e3]
        obtain ⟨A0,A1,Y,C⟩:=mv c j f
        simp only [Y]
        rcases C with ⟨h3,C⟩ | ⟨h3,C⟩
        ·rw [U] at h3;cases h3
        ·rw [C]
   rw [eb] at q
   refine k (.ref p) Z H2 F2 (· = p) (.own (OL yd)) env2 I2 (g1.trans g2) ⟨⟨p,ys,rfl,a1,ry,fun b=>Iff.rfl⟩,fun a z=>by rw [z];exact hb,fun a z=>by rw [z];exact ga,fun a z=>by rw [z];exact ⟨_,a1⟩,fun j a z=>by rw [z];exact fa j⟩ q
end
def noIo (e:En):Bool:=e.all fun s => !isIo s
theorem auj {e:En} {j:Nat} {x:Option Sl} (h:noIo e=true) (a:e[j]?=some x):isIo x=false:=by
 have:=aF4.mp h x (aA2 a)
 simpa using this
theorem ago {src:List (Option Nat)} {b e:En} (h:noIo (aar src b)=true):aie src b e=b:=by
 apply aG2
 intro i
 unfold aie
 rw [afi,Nat.zero_add]
 cases e2:b[i]? with
 | none=>rfl
 | some o =>
  have a:∀ A,(o=some (.own A)\/o=some (.io A))->idxE i src 0=none:=fun A c=>by
   cases e3:idxE i src 0 with
   | none=>rfl
   | some j =>
    have hs:=(aep e3).2
    have:(aar src b)[j]?=some (some (.io A)):=by
     unfold aar
     rw [aA5,show src[j]?=some (some i) by simpa using hs]
     rcases c with rfl | rfl <;> simp [e2,aid]
    have:=auj h this
    simp [isIo] at this
  cases o with
  | none=>rfl
  | some t =>
   cases t with
   | st d=>rfl
   | scr ns=>rfl
   | own A=>simp only [aI1,agm,a A (.inl rfl)]
   | io A=>simp only [aI1,agm,a A (.inr rfl)]
def stO:Option PyData->Option Sl:=Option.map Sl.st
theorem isIo_stO {o:Option PyData}:isIo (stO o)=false:=by cases o <;> rfl
theorem acy {o:Option PyData}:agn (stO o)=false:=by cases o <;> rfl
theorem adn {src:List (Option Nat)} {a:En}:∀ x∈aar src a,agn x=false:=by
 intro x b
 unfold aar at b
 obtain ⟨o,_,rfl⟩:=aB7.mp b
 cases o with
 | none=>rfl
 | some j =>
  dsimp only
  cases (a[j]?).getD none with
  | none=>rfl
  | some t=>cases t <;> rfl
theorem adx:∀ {e:En},(∀ x∈e,agn x=false)->ioLe e e
 | [],_=>True.intro
 | x :: r,h=>⟨⟨rfl,h x aB8⟩,adx fun y a=>h y (aB5 _ a)⟩
section
variable {B:Bs} {env:En} {g:TG} {tif:TT} {te:TE} {K:Frag} {src:List (Option Nat)} {ds:List PyData} {e1:En} {R:List PyData->En->Prop}
theorem auk (f:PyData->PyData) (p:PyData->Bool) (l:noIo (aar src e1)=true) (B:ds.length<=999999)
  (h:∀ d∈ds,∀ a:Bs,a.K=K->EvT a tif (some (.st d) :: aar src e1) fun b j=>b=p d/\j=some (.st d) :: aar src e1/\(b=true->Ev a te (some (.st d) :: aar src e1) fun y m=>y=f d/\m=some (.st d) :: aar src e1))
  (u:R ((ds.filter p).map f) e1):LcV K (none :: src) (abc 0) tif te ds e1 R:=by
 have c:noIo (aar (none :: src) e1)=true:=by
  show ((none :: aar src e1).all fun s => !isIo s)=true
  rw [List.all_cons]
  exact (aH1 _ _).mpr ⟨rfl,l⟩
 refine ⟨fun i ys e=>ys=((ds.take i).filter p).map f/\∃ o,e=stO o :: aar src e1,⟨by simp,none,rfl⟩,?_,?_,?_⟩
 ·rintro i ys e ⟨_,o,rfl⟩
  exact ⟨⟨isIo_stO.symm,acy⟩,adx adn⟩
 ·rintro i d ys e hd ⟨rfl,o,rfl⟩ a x
  have hi:i < ds.length:=(aA1.mp hd).1
  have q:ds.take (i+1)=ds.take i ++ [d]:=by rw [aH4,hd];rfl
  refine aa9 ?_
  show EvT a tif (some (.st d) :: aar src e1) _
  intro σ G H F Q I k
  refine h d (aA2 hd) a x σ G H F Q I fun b G' H' F' j n g' ⟨hb,z,t⟩=>k b G' H' F' j n g' ?_
  subst z
  by_cases hp:b=true
  ·rw [aF5 hp]
   intro σ G H F Q I k
   refine t hp σ G H F Q I fun v G' H' F' d' m n g' r ⟨w,g⟩=>k v G' H' F' d' m n g' r ?_
   subst w g
   refine ⟨?_,?_,some d,rfl⟩
   ·have:=aF3 p (ds.take i)
    simp only [aA3]
    have A:(ds.take i).length<=i:=by simp;omega
    omega
   ·rw [q,List.filter_append,aE5]
    have:p d=true:=by rw [← hb];exact hp
    simp [this]
  ·rw [aF6 hp]
   refine ⟨?_,some d,rfl⟩
   rw [q,List.filter_append,aE5]
   have:p d=false:=by rw [← hb];simpa using hp
   simp [this]
 ·rintro ys e ⟨rfl,o,rfl⟩
  rw [ago c,aG8]
  exact u
theorem aif {α:Type} (xs:List α):xs.filter (fun _=>true)=xs:=by simp
theorem aox (f:PyData->PyData) (b:noIo (aar src e1)=true) (c:ds.length<=999999)
  (h:∀ d∈ds,∀ a:Bs,a.K=K->Ev a te (some (.st d) :: aar src e1) fun y g=>y=f d/\g=some (.st d) :: aar src e1)
  (j:R (ds.map f) e1):LcV K (none :: src) (abc 0) tYes te ds e1 R :=
 auk f (fun _=>true) b c (fun d hd a i=>ae2 ⟨rfl,rfl,fun _=>h d hd a i⟩) (by rw [aif];exact j)
theorem aul {z:Frag} {α:Type} {xs:List α} {fa fb : α->PyData} (f : α->PyData) (p : α->Bool) (l:noIo (aar src e1)=true) (D:xs.length<=999999)
  (h:∀ x∈xs,∀ a:Bs,a.K=K->EvT a tif (some (.st (fa x)) :: some (.st (fb x)) :: aar src e1) fun b j=>b=p x/\j=some (.st (fa x)) :: some (.st (fb x)) :: aar src e1/\(b=true->Ev a te (some (.st (fa x)) :: some (.st (fb x)) :: aar src e1) fun y m=>y=f x/\m=some (.st (fa x)) :: some (.st (fb x)) :: aar src e1))
  (u:R ((xs.filter p).map f) e1):LcV K (none :: none :: src) (gTup z 2 (age (abc 0) (age (abc 1) gNil))) tif te (xs.map fun x => .tuple [fa x,fb x]) e1 R:=by
 have c:noIo (aar (none :: none :: src) e1)=true:=by
  show ((none :: none :: aar src e1).all fun s => !isIo s)=true
  rw [List.all_cons,List.all_cons]
  exact (aH1 _ _).mpr ⟨rfl,(aH1 _ _).mpr ⟨rfl,l⟩⟩
 refine ⟨fun i ys e=>ys=((xs.take i).filter p).map f/\∃ o o',e=stO o :: stO o' :: aar src e1,⟨by simp,none,none,rfl⟩,?_,?_,?_⟩
 ·rintro i ys e ⟨_,o,o',rfl⟩
  exact ⟨⟨isIo_stO.symm,acy⟩,⟨isIo_stO.symm,acy⟩,adx adn⟩
 ·rintro i d ys e hd ⟨rfl,o,o',rfl⟩ a A
  rw [aA5] at hd
  cases hx:xs[i]? with
  | none=>rw [hx] at hd;cases hd
  | some x =>
   rw [hx] at hd
   cases hd
   have hi:i < xs.length:=(aA1.mp hx).1
   have q:xs.take (i+1)=xs.take i ++ [x]:=by rw [aH4,hx];rfl
   refine aou rfl (af4 (aa9 (af4 (aa9 (amk ?_)))))
   show EvT a tif (some (.st (fa x)) :: some (.st (fb x)) :: aar src e1) _
   intro σ G H F Q I k
   refine h x (aA2 hx) a A σ G H F Q I fun b G' H' F' j n g' ⟨hb,B,t⟩=>k b G' H' F' j n g' ?_
   subst B
   by_cases hp:b=true
   ·rw [aF5 hp]
    intro σ G H F Q I k
    refine t hp σ G H F Q I fun v G' H' F' d' m n g' r ⟨w,g⟩=>k v G' H' F' d' m n g' r ?_
    subst w g
    refine ⟨?_,?_,some _,some _,rfl⟩
    ·have:=aF3 p (xs.take i)
     simp only [aA3]
     have C:(xs.take i).length<=i:=by simp;omega
     omega
    ·rw [q,List.filter_append,aE5]
     have:p x=true:=by rw [← hb];exact hp
     simp [this]
   ·rw [aF6 hp]
    refine ⟨?_,some _,some _,rfl⟩
    rw [q,List.filter_append,aE5]
    have:p x=false:=by rw [← hb];simpa using hp
    simp [this]
 ·rintro ys e ⟨rfl,o,o',rfl⟩
  rw [ago c]
  simpa using u
end
section
variable {R:Sl->Prop}
theorem axb {g:Int->Int->Int} {i j:Int} (h:R (.st (.int (g i j)))):Op2 (rI0 fun i j => .int (g i j)) (.int i) (.int j) R:=fun G H c d Q gh b a k=>by
 cases b;cases a
 exact ⟨i,j,rfl,rfl,k _ _ _ _ _ (Out.refl gh (.int _)) h⟩
theorem axc {g:Int->Int->Bool} {i j:Int} (h:R (.st (.bool (g i j)))):Op2 (rI0 fun i j => .bl (g i j)) (.int i) (.int j) R:=fun G H c d Q gh b a k=>by
 cases b;cases a
 exact ⟨i,j,rfl,rfl,k _ _ _ _ _ (Out.refl gh (.bl _)) h⟩
theorem az1 {C:Int->Int->Prop} {g:Int->Int->Int} {i j:Int} (a:C i j) (h:R (.st (.int (g i j)))):Op2 (rI C fun i j => .int (g i j)) (.int i) (.int j) R:=fun G H d f Q gh c b k=>by
 cases c;cases b
 exact ⟨i,j,rfl,rfl,a,k _ _ _ _ _ (Out.refl gh (.int _)) h⟩
theorem az2 {g:Int->Int} {i:Int} (h:R (.st (.int (g i)))):Op1 (rU fun i => .int (g i)) (.int i) R:=fun G H b Q gh a k=>by
 cases a
 exact ⟨i,rfl,k _ _ _ _ _ (Out.refl gh (.int _)) h⟩
theorem axd {i j:Int} (h:R (.st (.bool (decide (i=j))))):Op2 rEq (.int i) (.int j) R:=fun G H c d Q gh b a k=>by
 cases b;cases a
 exact arv (k _ _ _ _ _ (Out.refl gh (.bl _)) h)
theorem axe {i j:Int} (h:R (.st (.bool (!decide (i=j))))):Op2 rNe (.int i) (.int j) R:=fun G H c d Q gh b a k=>by
 cases b;cases a
 exact aze (k _ _ _ _ _ (Out.refl gh (.bl _)) h)
theorem axf {i j:Bool} (h:R (.st (.bool (decide (i=j))))):Op2 rEq (.bool i) (.bool j) R:=fun G H c d Q gh b a k=>by
 cases b;cases a
 exact azf (k _ _ _ _ _ (Out.refl gh (.bl _)) h)
theorem aum (i j:Str):decide (V.str i=V.str j)=decide (i=j):=by
 by_cases h:i=j
 ·subst h;simp
 ·simp [h]
theorem axg {i j:Str} (h:R (.st (.bool (!decide (i=j))))):Op2 rNe (.str i) (.str j) R:=fun G H c d Q gh b a k=>by
 cases b;cases a
 refine ⟨rfl,?_⟩
 rw [aum]
 exact k _ _ _ _ _ (Out.refl gh (.bl _)) h
theorem axh {x y:PyData} (a:aaq x=true) (b:aaq y=true) (hd:x.depth<=60) (h:R (.st (.bool (!PyData.eqv x y)))):Op2 rNeD x y R:=fun G H f g Q gh d c k =>
 ⟨x,y,(d.rep a).same gh,(c.rep b).same gh,a,b,hd,k _ _ _ _ _ (Out.refl gh (.bl _)) h⟩
theorem agp {a:Bool} {x:PyData} {es:List PyData} (b:aaq x=true) (c:plainDs es=true) (hd:x.depth<=60) (h:R (.st (.bool (if a then !es.any (fun z=>PyData.eqv z x) else es.any (fun z=>PyData.eqv z x))))):Op2 (rInD a) x (.list es) R:=fun G H g i Q gh f d k =>
 ⟨x,es,(f.rep b).same gh,.inl ((d.rep (by simpa [aaq] using c)).same gh),b,c,hd,k _ _ _ _ _ (Out.refl gh (.bl _)) h⟩
theorem amp {a:Bool} {x:PyData} {es:List PyData} (b:aaq x=true) (c:plainDs es=true) (hd:x.depth<=60) (h:R (.st (.bool (if a then !es.any (fun z=>PyData.eqv z x) else es.any (fun z=>PyData.eqv z x))))):Op2 (rInD a) x (.tuple es) R:=fun G H g i Q gh f d k =>
 ⟨x,es,(f.rep b).same gh,.inr ((d.rep (by simpa [aaq] using c)).same gh),b,c,hd,k _ _ _ _ _ (Out.refl gh (.bl _)) h⟩
theorem Rps.at {G:Hp} {vs:List V} {ds:List PyData} {i:Int} {d:PyData} (r:Rps G vs ds) (h:atI ds i=some d):∃ v,atI vs i=some v/\Rp G v d:=by
 unfold atI at h ⊢
 rw [r.length]
 cases e:ixN ds.length i with
 | none=>rw [e] at h;cases h
 | some j =>
  rw [e] at h
  exact r.get h
theorem axi {K:Frag} {ds:List PyData} {i:Int} {d:PyData} (hd:atI ds i=some d) (h:R (.st d)):Op2 (acl K) (.list ds) (.int i) R:=fun G H g j Q gh c b k=>by
 cases b
 cases c with
 | lst ha rs =>
  obtain ⟨v,f,a⟩:=rs.at hd
  exact afe (gh _ _ ha) f (k _ _ _ _ _ (Out.refl gh a) h)
theorem axj {K:Frag} {ds:List PyData} {i:Int} {d:PyData} (hd:atI ds i=some d) (h:R (.st d)):Op2 (acl K) (.tuple ds) (.int i) R:=fun G H g j Q gh c b k=>by
 cases b
 cases c with
 | tup ha rs =>
  obtain ⟨v,f,a⟩:=rs.at hd
  exact at7 (gh _ _ ha) f (k _ _ _ _ _ (Out.refl gh a) h)
def isNone:PyData->Bool
 | .none=>true
 | _=>false
theorem axk {G:Hp} {v:V} {x:PyData} (r:Rp G v x):decide (v=.non)=isNone x:=by cases r <;> rfl
theorem axl {x:PyData} (h:R (.st (.bool (isNone x)))):Op2 rIsN x .none R:=fun G H c d Q gh b a k=>by
 cases a
 refine ⟨rfl,?_⟩
 rw [axk b]
 exact k _ _ _ _ _ (Out.refl gh (.bl _)) h
theorem aoy {xs ys:List PyData} (b:xs.length+ys.length<=1000000) (h:R (.own (OL (xs ++ ys)))):Op2 rCat (.list xs) (.list ys) R:=fun G H f g Q gh d c k=>by
 cases d with
 | lst ha ra =>
  cases c with
  | lst hb rb =>
   refine azi (gh _ _ ha) (gh _ _ hb) ?_ fun p a=>k _ _ _ _ _ (Out.newL gh a (ra.append rb)) h
   rw [ra.length,rb.length];exact aG5 (big b)
theorem aoz {xs:List PyData} {n:Int} (a : -(2 ^ 63)<=n) (c:n < 2 ^ 63) (d:xs.length * n.toNat<=1000000) (h:R (.own (OL (List.replicate n.toNat xs).flatten))):Op2 rRep (.list xs) (.int n) R:=fun G H i j Q gh g f k=>by
 cases f
 cases g with
 | lst ha ra =>
  refine ⟨_,n,_,rfl,rfl,gh _ _ ha,a,c,?_,fun p b=>k _ _ _ _ _ (Out.newL gh b (ra.rep _)) h⟩
  rw [ra.length];exact aG5 (big d)
theorem aun {K:Frag} {xs:List PyData} (h:R (.st (.int xs.length))):OpA (rLen K) [.list xs] R:=fun G H vs Q gh rs k=>by
 cases rs with
 | cons r t =>
  cases t
  cases r with
  | lst ha ra =>
   refine aoh (gh _ _ ha) ?_
   rw [ra.length]
   exact k _ _ _ _ _ (Out.refl gh (.int _)) h
theorem auo {K:Frag} {xs:List PyData} (h:R (.st (.int xs.length))):OpA (rLen K) [.tuple xs] R:=fun G H vs Q gh rs k=>by
 cases rs with
 | cons r t =>
  cases t
  cases r with
  | tup ha ra =>
   refine awv (gh _ _ ha) ?_
   rw [ra.length]
   exact k _ _ _ _ _ (Out.refl gh (.int _)) h
theorem aup {i j:Int} (h:R (.st (.int (if j > i then j else i)))):OpA alf [.int i,.int j] R:=fun G H vs Q gh rs k=>by
 obtain rfl:vs=[V.int i,V.int j]:=Rps.ints_inv (ns:=[i,j]) rs
 exact aoi (k _ _ _ _ _ (Out.refl gh (.int _)) h)
theorem auq {i j:Int} (h:R (.st (.int (if j < i then j else i)))):OpA alg [.int i,.int j] R:=fun G H vs Q gh rs k=>by
 obtain rfl:vs=[V.int i,V.int j]:=Rps.ints_inv (ns:=[i,j]) rs
 exact aoj (k _ _ _ _ _ (Out.refl gh (.int _)) h)
theorem aur {b:Bool} (h:R (.st (.int (if b then 1 else 0)))):OpA alh [.bool b] R:=fun G H vs Q gh rs k=>by
 cases rs with
 | cons r t =>
  cases t;cases r
  exact aok (k _ _ _ _ _ (Out.refl gh (.int _)) h)
theorem adh {K:Frag} {ns:List Int} (a:ns ≠ []) (h:∀ m,ad5 ns m->R (.st (.int m))):OpA (ah9 K) [.list (ns.map .int)] R:=fun G H vs Q gh rs k=>by
 cases rs with
 | cons r t =>
  cases t
  cases r with
  | lst ha ra =>
   have:=Rps.ints_inv ra
   subst this
   exact ⟨_,ns,rfl,.inl (SqL.of (gh _ _ ha)),a,fun m hm=>k _ _ _ _ _ (Out.refl gh (.int _)) (h m hm)⟩
end
section
variable {B:Bs} {env:En} {QO:Sl->En->Prop} {Q':PyData->En->Prop} {te tl th:TE} {K:Frag}
end
def agq:PyData->Bool
 | .none | .bool _ | .int _ | .str _=>true
 | _=>false
theorem ao0 {G G':Hp} {v:V} {d:PyData} (r:Rp G v d) (h:agq d=true):Rp G' v d:=by
 cases r with
 | non=>exact .non
 | bl b=>exact .bl b
 | int i=>exact .int i
 | str x=>exact .str x
 | _=>simp [agq] at h
def Has (env:En) (i:Nat) (A:Own):Prop:=env[i]?=some (some (.own A))\/env[i]?=some (some (.io A))
section
variable {B:Bs} {env:En} {QO:Sl->En->Prop} {Q':PyData->En->Prop} {QT:Bool->En->Prop} {QE:En->Prop} {te ta tb tk:TE} {K:Frag} {i:Nat}
theorem VI.has {G H:Hp} {σ:St} {F:Nat->Addr->Prop} {A:Own} (I:VI B G H σ env F) (h:Has env i A):∃ v,σ[i]?=some (some v)/\A.P G H v (F i):=by
 rcases h with h | h
 ·obtain ⟨v,a,q⟩:=I.sl i _ h;exact ⟨v,a,q.1⟩
 ·obtain ⟨v,a,q⟩:=I.sl i _ h;exact ⟨v,a,q.1⟩
theorem VI.moment {G b c H H3:Hp} {σ:St} {F:Nat->Addr->Prop} {v:V} {s:Sl} {Fv:Addr->Prop} (I:VI B G H σ env F) (i:Same G b) (o:Out b H v c H3 s Fv):∃ f,Same G f/\VI B f H3 σ env F:=by
 refine ⟨fun a=>if H a=none then c a else G a,fun a u e=>?_,I.grow (fun a u e=>?_) (fun a u e=>?_) o.hh (fun a u e=>?_) fun a ks e=>?_⟩
 ·show (if H a=none then c a else G a)=some u;rw [aF6 (by rw [I.gh a u e];simp)];exact e
 ·rw [aF6 (by rw [I.gh a u e];simp)];exact e
 ·by_cases h:H a=none
  ·rw [aF5 h] at e;exact o.gh a u e
  ·rw [aF6 h] at e;exact o.hh _ _ (I.gh a u e)
 ·by_cases h:H a=none
  ·exact .inr h
  ·rw [aF6 h] at e;exact .inl e
 ·have g:FT b H:=fun a ks e=>i _ _ (I.ft a ks e)
  by_cases h:H a=none
  ·rw [aF5 h];exact o.ft g a ks e
  ·rw [aF6 h]
   obtain ⟨u,d⟩:=aqc h
   have:=o.hh _ _ d
   rw [e] at this
   exact I.ft a ks (by rw [d,← this])
theorem az3 {r:List V->Hp->VK->Prop} {A:Own} {dx:PyData} (j:Has env i A) (b:Frz A dx) (h:OpA r [dx] fun s=>∃ d,s=.st d/\agq d=true/\Q' d env):Ev B (tCB r (aa2 (tVar i) tNil)) env Q':=fun σ G H F Q I k=>by
 obtain ⟨v,l,ap⟩:=I.has j
 refine ⟨v,l,h (jn G H (F i)) H [v] Q (aqd I.gh) (.cons (b _ _ _ _ ap (I.fg i) I.gh) .nil) fun w m H3 s Fv o ⟨d,es,hs,c⟩=>?_⟩
 subst es
 obtain ⟨g,f,a⟩:=I.moment (abk (I.fg i)) o
 exact k w g H3 F d env a f (ao0 o.ok.1 hs) c
theorem x_sc {d:PyData} {R:PyData->Prop} (a:agq d=true) (h:R d):∃ d',Sl.st d=.st d'/\agq d'=true/\R d':=⟨d,rfl,a,h⟩
theorem az4 {l:List PyData} (r:Has env i (OL l)) (h:Ev B tb env fun y c=>∃ ds k d,Has c i (OL ds)/\y=.int k/\atI ds k=some d/\Q' d c):Ev B (tOp (acl K) (tVar i) tb) env Q':=fun σ G H F Q I k=>by
 obtain ⟨v,n,_⟩:=I.has r
 refine ⟨v,n,h σ G H F _ I fun u z H2 F2 y c m x s ⟨ds,j,d,A,o,g,q⟩=>?_⟩
 subst o
 cases s
 obtain ⟨C,b,a,vs,t,ha,rs,_⟩:=m.has A
 rw [n] at b;cases b
 subst t
 obtain ⟨w,p,f⟩:=rs.at g
 exact afe ha p (k w z H2 F2 d c m x f q)
theorem axm {ns:List Int} (e:env[i]?=some (some (.scr ns))) (b:B.K=K) (q:Q' (.int ns.length) env):Ev B (tCB (rLen K) (aa2 (tVar i) tNil)) env Q':=fun σ G H F Q I k=>by
 subst b
 obtain ⟨v0,f,⟨a,d,c⟩,_⟩:=I.sl i _ e
 subst d
 refine ⟨_,f,aww (I.gh.seq c) ?_⟩
 rw [aA3]
 exact k _ G H F _ env I (Same.refl _) (.int _) q
theorem az5 {ns:List Int} (e:env[i]?=some (some (.scr ns))) (m:B.K=K) (h:Ev B tb env fun y c=>∃ j n,y=.int j/\atI ns j=some n/\Q' (.int n) c):Ev B (tOp (acl K) (tVar i) tb) env Q':=fun σ G H F Q I k=>by
 subst m
 obtain ⟨v0,t,⟨a,p,s⟩,_⟩:=I.sl i _ e
 subst p
 refine ⟨_,t,h σ G H F _ I fun u r H2 F2 y c d f o ⟨j,n,g,b,q⟩=>?_⟩
 subst g
 cases o
 refine at8 (d.gh.seq (f.seq s)) (v:=.int n) ?_ (k _ r H2 F2 _ c d f (.int _) q)
 unfold atI at b ⊢
 rw [aA3]
 cases e:ixN ns.length j with
 | none=>rw [e] at b;cases b
 | some l=>rw [e] at b;simp at b ⊢;exact b
theorem VI.upd1 {G H:Hp} {σ:St} {F:Nat->Addr->Prop} {s:Sl} {A A':Own} {a:Addr} {o:HO} (I:VI B G H σ env F) (e:env[i]?=some (some s)) (hs:s=.own A\/s=.io A) (g : σ[i]?=some (some (.ref a))) (hf:∀ b,F i b ↔ b=a) (f:A'.P G (upd H a o) (.ref a) (· = a)) (d:∀ xs,o ≠ .tup xs:=by intro _ z;cases z) :
  VI B G (upd H a o) σ (env.set i (some (reS s A'))) (putF F i (· = a)):=by
 refine I.change (A:=A') i e g (fun b u hb c=>by rw [aae (fun z=>hb ((hf b).mpr z))];exact c) (fun b u c=>?_) (fun b z=>⟨.inl ((hf b).mpr z),by rw [z];exact ⟨_,aah⟩⟩) f (fun b ks e=>?_) ?_
 ·by_cases z:b=a
  ·rw [z];exact ⟨_,aah⟩
  ·rw [aae z];exact ⟨u,c⟩
 ·by_cases z:b=a
  ·subst z;rw [aah] at e;exact absurd (aC6 e) (d _)
  ·rw [aae z] at e;exact I.ft b ks e
 ·rcases hs with rfl | rfl
  ·exact .inl ⟨rfl,A,rfl⟩
  ·exact .inr ⟨rfl,A,rfl⟩
theorem ar8 {j:List PyData} (p:Has env i (OL j)) (h:Ev B te env fun y f=>∃ s ds,f[i]?=some (some s)/\(s=.own (OL ds)\/s=.io (OL ds))/\ds.length<=999999/\Q' .none (f.set i (some (reS s (OL (ds ++ [y])))))):Ev B (tBM K "list" ade (tVar i) (aa2 te tNil)) env Q':=fun σ G H F Q I k=>by
 obtain ⟨v,m,a,vs,t,ha,rs,_⟩:=I.has p
 subst t
 refine ⟨_,m,.inl ⟨rfl,_,SqL.of ha⟩,h σ G H F _ I fun u x H2 F2 y f n w r ⟨s,ds,es,hs,C,q⟩=>?_⟩
 have z:Has f i (OL ds):=by rcases hs with rfl | rfl;exact .inl es;exact .inr es
 obtain ⟨D,d,A,o,l,g,c,hf⟩:=n.has z
 rw [m] at d;cases d;cases l
 refine adr g (by rw [c.length];exact big (by omega)) ?_
 exact k _ x _ _ _ _ (n.upd1 (A':=OL (ds ++ [y])) es hs m hf ⟨a,_,rfl,aah,c.append (.cons r .nil),fun b=>Iff.rfl⟩) w .non q
theorem aqe {a:List PyData} (c:Has env i (OL a)) (h:Ev B te env fun y b=>∃ ds,b[i]?=some (some (.own (OL ds)))/\ds.length<=999999/\Q' .none (b.set i (some (.own (OL (ds ++ [y])))))):Ev B (tBM K "list" ade (tVar i) (aa2 te tNil)) env Q' :=
 ar8 c fun σ G H F Q I k=>h σ G H F Q I fun v G' H' F' d e l g r ⟨ds,f,j,q⟩=>k v G' H' F' d e l g r ⟨_,ds,f,.inl rfl,j,q⟩
theorem aqf {l:List PyData} (r:Has env i (OL l)) (h:Ev B te env fun y g=>∃ ds ys,y=.list ys/\g[i]?=some (some (.own (OL ds)))/\ds.length+ys.length<=1000000/\Q' .none (g.set i (some (.own (OL (ds ++ ys)))))):Ev B (tBM K "list" aiw (tVar i) (aa2 te tNil)) env Q':=fun σ G H F Q I k=>by
 obtain ⟨v,n,a,vs,w,ha,rs,_⟩:=I.has r
 subst w
 refine ⟨_,n,.inl ⟨rfl,_,SqL.of ha⟩,h σ G H F _ I fun u z H2 F2 y g j x t ⟨ds,ys,p,es,s,q⟩=>?_⟩
 subst p
 cases t with
 | lst hb rb =>
  obtain ⟨C,d,A,o,m,f,c,hf⟩:=j.has (.inl es)
  rw [n] at d;cases d;cases m
  refine arw f (j.gh _ _ hb) (by rw [c.length,rb.length];exact aG5 (big s)) ?_
  exact k _ z _ _ _ _ (j.upd1 (A':=OL (ds ++ ys)) es (.inl rfl) n hf ⟨a,_,rfl,aah,c.append rb,fun b=>Iff.rfl⟩) x .non q
theorem aus {o:List PyData} (C:Has env i (OL o)) (h:Ev B te env fun y g=>∃ s ds j n d,y=.int j/\g[i]?=some (some s)/\(s=.own (OL ds)\/s=.io (OL ds))/\-(2 ^ 63)<=j/\j < 2 ^ 63/\seqIndex? j ds.length=some n/\ds[n]?=some d/\Q' d (g.set i (some (reS s (OL (ds.eraseIdx n)))))):Ev B (tBM K "list" ah0 (tVar i) (aa2 te tNil)) env Q':=fun σ G H F Q I k=>by
 obtain ⟨v,r,a,vs,E,ha,rs,_⟩:=I.has C
 subst E
 refine ⟨_,r,.inl ⟨rfl,_,SqL.of ha⟩,h σ G H F _ I fun u M H2 F2 y g t L D ⟨s,ds,j,n,d,z,es,hs,b1,J,hn,hd,q⟩=>?_⟩
 subst z
 cases D
 have N:Has g i (OL ds):=by rcases hs with rfl | rfl;exact .inl es;exact .inr es
 obtain ⟨P,f,O,x,p,l,c,hf⟩:=t.has N
 rw [r] at f;cases f;cases p
 obtain ⟨w,A,m⟩:=c.get hd
 refine atv l b1 J (by rw [c.length];exact hn) A ?_
 exact k _ M _ _ _ _ (t.upd1 (A':=OL (ds.eraseIdx n)) es hs r hf ⟨a,_,rfl,aah,c.erase n,fun b=>Iff.rfl⟩) L m q
theorem aut {d:PyData} {o:List PyData} (A:Has env i (OL o)) (h:Ev B tk env fun y g=>∃ s ds k j,y=.int k/\g[i]?=some (some s)/\(s=.own (OL ds)\/s=.io (OL ds))/\ixN ds.length k=some j/\QE (g.set i (some (reS s (OL (ds.set j d)))))):EvG B (gSub (tVar i) tk ap3) (.st d) env QE:=fun σ G H F v Fv Q I x k=>by
 obtain ⟨C,_⟩:=x.ok
 obtain ⟨M,m,a,vs,E,ha,rs,_⟩:=I.has A
 subst E
 refine ⟨_,m,h σ G H F _ I fun u J H2 F2 y g r t D ⟨s,ds,n,j,z,es,hs,L,q⟩=>?_⟩
 subst z
 cases D
 have K:Has g i (OL ds):=by rcases hs with rfl | rfl;exact .inl es;exact .inr es
 obtain ⟨O,f,N,w,p,l,c,hf⟩:=r.has K
 rw [m] at f;cases f;cases p
 refine aog l (by rw [c.length];exact L) ?_
 exact k _ J _ _ _ (r.upd1 (A':=OL (ds.set j d)) es hs m hf ⟨a,_,rfl,aah,c.set (C.same t) j,fun b=>Iff.rfl⟩) t q
theorem ao1 {t:TS} {D':VEnds} {A:Own} {d:PyData} (i:Nat) (e:env[i]?=some (some (.own A))) (f:Frz A d) (h:EvS B t D' (env.set i (some (.st d)))):EvS B t D' env:=fun σ G H F D I r=>by
 obtain ⟨v,b,a,g,J⟩:=I.frz e f
 exact h σ _ H _ D J (r.later g)
end
def tyD:PyData->String
 | .none => "NoneType" | .bool _ => "bool" | .int _ => "int" | .str _ => "str" | .list _ => "list" | .tuple _ => "tuple" | .dict _ => "dict"
def ad7 (T:String):Prop:=T = "int"\/T = "bool"\/T = "tuple"\/T = "list"\/T = "str"\/T = "dict"
def isiD (T:String) (d:PyData):Bool:=tyD d == T || (T == "int" && tyD d == "bool")
theorem a1q {K:Frag} {H:Hp} {v:V} {d:PyData} (r:Rp H v d):TyOf K H v (.type (tyD d)):=by
 cases r with
 | non=>exact .non
 | bl b=>exact .bl b
 | int i=>exact .int i
 | str x=>exact .str x
 | lst h _=>exact .lst h
 | tup h _=>exact .tup h
 | dk h _ _=>exact .dK h
 | dt h _ _=>exact .dT h
theorem a1r {K:Frag} {T:String} (h:ad7 T) (d:PyData):kitOne K (.type (tyD d)) (.type T)=some (isiD T d):=by
 rcases h with rfl | rfl | rfl | rfl | rfl | rfl
 ·cases d with
  | none=>exact ahd
  | bool _=>exact al4
  | int _=>exact anv
  | str _=>exact anx
  | list _=>exact amc
  | tuple _=>exact aky
  | dict _=>exact ame
 ·cases d with
  | none=>exact ag0
  | bool _=>exact akq
  | int _=>exact al6
  | str _=>exact al9
  | list _=>exact akv
  | tuple _=>exact ai9
  | dict _=>exact ak0
 ·cases d with
  | none=>exact af2
  | bool _=>exact ai7
  | int _=>exact akt
  | str _=>exact aku
  | list _=>exact ai8
  | tuple _=>exact aia
  | dict _=>exact ajc
 ·cases d with
  | none=>exact ag1
  | bool _=>exact akr
  | int _=>exact al7
  | str _=>exact ama
  | list _=>exact akw
  | tuple _=>exact aja
  | dict _=>exact ak1
 ·cases d with
  | none=>exact ahe
  | bool _=>exact al5
  | int _=>exact anw
  | str _=>exact anz
  | list _=>exact amd
  | tuple _=>exact akz
  | dict _=>exact amf
 ·cases d with
  | none=>exact ag2
  | bool _=>exact aks
  | int _=>exact al8
  | str _=>exact amb
  | list _=>exact akx
  | tuple _=>exact ajb
  | dict _=>exact ak2
section
variable {B:Bs} {env:En} {QO:Sl->En->Prop} {Q':PyData->En->Prop} {QT:Bool->En->Prop} {QE:En->Prop} {te ta tb tk:TE} {K:Frag} {i:Nat}
theorem az6 {T:String} (g:ad7 T) (h:Ev B te env fun d e=>Q' (.bool (isiD T d)) e):Ev B (tCB (rIsi K) (aa2 te (aa2 (tC (.ty T)) tNil))) env Q':=fun σ G H F Q I k =>
 h σ G H F _ I fun v c j i d f a m b l=>⟨v,T,_,_,rfl,a1q (b.same a.gh),a1r g d,k _ c j i _ f a m (.bl _) l⟩
theorem az7:ad7 "int":=.inl rfl
theorem axn:ad7 "bool":=.inr (.inl rfl)
theorem auu:ad7 "tuple":=.inr (.inr (.inl rfl))
theorem axo:ad7 "list":=.inr (.inr (.inr (.inl rfl)))
theorem auv {A:Own} {D':VEnds} (e:env[i]?=some (some (.own A))) (q:D'.rt (.own A) (env.set i none)):EvS B (tRet (tVar i)) D' env:=aov (aee e q)
theorem a1s {n m:Nat} {P:Prop} (h:n<=m) (q:P):n<=m/\P:=⟨h,q⟩
theorem az8 {ds:List PyData} {a:En} {R:List PyData->Prop} (e:a[i]?=some (some (.own (OL ds)))) (b:ds.length<=999999) (q:R ds):∃ ds,a[i]?=some (some (.own (OL ds)))/\ds.length<=999999/\R ds:=⟨ds,e,b,q⟩
theorem a1t {ds:List PyData} {d:PyData} {k:Int} {a:En} {R:PyData->Prop} (c:Has a i (OL ds)) (h:atI ds k=some d) (q:R d):∃ ds b d,Has a i (OL ds)/\PyData.int k=.int b/\atI ds b=some d/\R d:=⟨ds,k,d,c,rfl,h,q⟩
theorem a1u {ns:List Int} {n k:Int} {R:Int->Prop} (h:atI ns k=some n) (q:R n):∃ j n,PyData.int k=.int j/\atI ns j=some n/\R n:=⟨k,n,rfl,h,q⟩
theorem aig {ds:List PyData} {k:Int} {j:Nat} {a:En} {R:Sl->List PyData->Nat->Prop} (e:a[i]?=some (some (.own (OL ds)))) (c:ixN ds.length k=some j) (q:R (.own (OL ds)) ds j):∃ s ds b j,PyData.int k=.int b/\a[i]?=some (some s)/\(s=.own (OL ds)\/s=.io (OL ds))/\ixN ds.length b=some j/\R s ds j:=⟨_,ds,k,j,rfl,e,.inl rfl,c,q⟩
theorem az9 {ds:List PyData} {k:Int} {j:Nat} {a:En} {R:Sl->List PyData->Nat->Prop} (e:a[i]?=some (some (.io (OL ds)))) (c:ixN ds.length k=some j) (q:R (.io (OL ds)) ds j):∃ s ds b j,PyData.int k=.int b/\a[i]?=some (some s)/\(s=.own (OL ds)\/s=.io (OL ds))/\ixN ds.length b=some j/\R s ds j:=⟨_,ds,k,j,rfl,e,.inr rfl,c,q⟩
theorem x_rt {A:Own} {a:En} {R:Own->Prop} (e:a[0]?=some (some (.io A))) (q:R A):∃ A',a[0]?=some (some (.io A'))/\R A':=⟨A,e,q⟩
theorem x_st {b:Bool} {R:Bool->Prop} (h:R b):∃ c,Sl.st (.bool b)=.st (.bool c)/\R c:=⟨b,rfl,h⟩
theorem auw {ds:List PyData} {R:Bool->Prop} (h:R (!ds.isEmpty)):∃ k,TruD (.list ds) k/\R k:=⟨_,rfl,h⟩
theorem lenP {f:VP} {n:Nat} {vs:List V} {H:Hp} {Q:VK} {E:XK} (h:spP K f vs H Q E) (hf:∀ ss a,f ss a->ss.length=n):vs.length=n:=by
 obtain ⟨G,ss,a,_,_,b,q,_⟩:=h
 rw [b.length];exact hf ss a q
theorem lenI {f:VIo} {n:Nat} {vs:List V} {H:Hp} {Q:VK} {E:XK} (h:spI K f vs H Q E) (hf:∀ A ss a,f A ss a->ss.length+1=n):vs.length=n:=by
 obtain ⟨v0,c,G,R,A,ss,F0,a,rfl,_,_,_,_,_,_,b,q,_⟩:=h
 rw [aE6,b.length];exact hf A ss a q
theorem aih {f:VIo} {t:TA} {E:XK} {A:Own} (b:env[i]?=some (some (.io A))) (h:EvA B t env fun ds a=>a[i]?=some (some (.io A))/\f A (ds.map Sl.st) fun A' s=>QO s (a.set i (some (.io A')))):EvO B (abf (spI K f) [] E (aa2 (tVar i) t)) env QO :=
 aj3 ⟨_,b⟩ fun σ G H F Q I k=>h σ G H F Q I fun vs G' H' F' ds a d g r ⟨c,q⟩=>k vs G' H' F' ds a d g r ⟨_,A,c,.inr rfl,q⟩
theorem aii {f:VIo} {t:TA} {E:XK} {A:Own} (b:env[i]?=some (some (.own A))) (h:EvA B t env fun ds a=>a[i]?=some (some (.own A))/\f A (ds.map Sl.st) fun A' s=>QO s (a.set i (some (.own A')))):EvO B (abf (spI K f) [] E (aa2 (tVar i) t)) env QO :=
 aj3 ⟨_,b⟩ fun σ G H F Q I k=>h σ G H F Q I fun vs G' H' F' ds a d g r ⟨c,q⟩=>k vs G' H' F' ds a d g r ⟨_,A,c,.inl rfl,q⟩
theorem ar9 {f:VIo} {t:TA} {E:XK} {A:Own} (b:env[i]?=some (some (.io A))) (h:EvA B t env fun ds a=>a[i]?=some (some (.io A))/\f A (ds.map Sl.st) fun A' s=>FQ s fun d=>Q' d (a.set i (some (.io A')))):Ev B (abf (spI K f) [] E (aa2 (tVar i) t)) env Q':=abr (aih b h)
theorem asa {f:VIo} {t:TA} {E:XK} {A:Own} (b:env[i]?=some (some (.own A))) (h:EvA B t env fun ds a=>a[i]?=some (some (.own A))/\f A (ds.map Sl.st) fun A' s=>FQ s fun d=>Q' d (a.set i (some (.own A')))):Ev B (abf (spI K f) [] E (aa2 (tVar i) t)) env Q':=abr (aii b h)
theorem a1v {P Q:Prop} (h:P) (q:Q):P/\Q:=⟨h,q⟩
theorem a1w {src:List (Option Nat)} {j:TI} {g:TG} {f:TT} (nd:(src.filterMap id).Nodup) (h:EvI B j env fun ds i=>LcV B.K src g f te ds i fun ys m=>Q' (.list ys) m):Ev B (tLC src j g f te) env Q':=abr (ar7 nd fun σ G H F R I k=>h σ G H F R I fun J G' H' F' ds i n g' it ⟨l,a,b,c,d⟩=>k J G' H' F' ds i n g' it ⟨l,a,b,c,fun ys e q=>aen (d ys e q)⟩)
end
end VL
namespace VL
open PySem L2
section
variable {B:Bs} {QE:En->Prop} {Q':PyData->En->Prop} {s:Sl} {r:En} {A:Own} {d:PyData} {x0 x1 x2 x3 x4 x5 x6 x7 x8 x9 x10 x11 x12 x13 x14 x15 x16 x17 x18 x19 x20 x21 x22 x23 x24 x25:Option Sl}
theorem a0a (h:QE (x0 :: some s :: r)):EvG B (abc 1) s (x0 :: x1 :: r) QE:=aa9 h
theorem a0b (h:QE (x0 :: x1 :: some s :: r)):EvG B (abc 2) s (x0 :: x1 :: x2 :: r) QE:=aa9 h
theorem a0c (h:QE (x0 :: x1 :: x2 :: some s :: r)):EvG B (abc 3) s (x0 :: x1 :: x2 :: x3 :: r) QE:=aa9 h
theorem a0d (h:QE (x0 :: x1 :: x2 :: x3 :: some s :: r)):EvG B (abc 4) s (x0 :: x1 :: x2 :: x3 :: x4 :: r) QE:=aa9 h
theorem a0e (h:QE (x0 :: x1 :: x2 :: x3 :: x4 :: some s :: r)):EvG B (abc 5) s (x0 :: x1 :: x2 :: x3 :: x4 :: x5 :: r) QE:=aa9 h
theorem a0f (h:QE (x0 :: x1 :: x2 :: x3 :: x4 :: x5 :: some s :: r)):EvG B (abc 6) s (x0 :: x1 :: x2 :: x3 :: x4 :: x5 :: x6 :: r) QE:=aa9 h
theorem a0g (h:QE (x0 :: x1 :: x2 :: x3 :: x4 :: x5 :: x6 :: some s :: r)):EvG B (abc 7) s (x0 :: x1 :: x2 :: x3 :: x4 :: x5 :: x6 :: x7 :: r) QE:=aa9 h
theorem a0h (h:QE (x0 :: x1 :: x2 :: x3 :: x4 :: x5 :: x6 :: x7 :: some s :: r)):EvG B (abc 8) s (x0 :: x1 :: x2 :: x3 :: x4 :: x5 :: x6 :: x7 :: x8 :: r) QE:=aa9 h
end
end VL
namespace Gr
structure Ring (T:Int->Int->Prop) (a:Int) (k:Nat) (far:Int->Option Nat) (edge:List Int):Prop where
 lab:∀ v d,far v=some d ↔ (Dist T a v d/\d<=k)
 edg:∀ v,v∈edge ↔ Dist T a v k
structure Mid (T:Int->Int->Prop) (k:Nat) (far0:Int->Option Nat) (edge:List Int) (done:Int->Prop) (far:Int->Option Nat) (beyond:List Int):Prop where
 old:∀ v d,far0 v=some d->far v=some d
 new:∀ v,v∈beyond ↔ (far0 v=none/\far v ≠ none)
 val:∀ v d,far0 v=none->far v=some d->d=k+1/\∃ u,u∈edge/\T u v
 dn:∀ u w,done u->T u w->far w ≠ none
def label (far:Int->Option Nat) (w:Int) (d:Nat):Int->Option Nat:=fun v=>if v=w then some d else far v
theorem label_same {far:Int->Option Nat} {w:Int} {d:Nat}:label far w d w=some d:=aF5 rfl
theorem label_ne {far:Int->Option Nat} {w v:Int} {d:Nat} (h:v ≠ w):label far w d v=far v:=aF6 h
variable {T:Int->Int->Prop} {a:Int} {k:Nat} {far0 far:Int->Option Nat} {edge beyond:List Int} {done:Int->Prop}
theorem Ring.start:Ring T a 0 (label (fun _=>none) a 0) [a]:=by
 refine ⟨fun v d=>?_,fun v=>?_⟩
 ·by_cases h:v=a
  ·subst h
   rw [label_same]
   constructor
   ·intro e;cases e;exact ⟨Dist.self T v,aA6 _⟩
   ·rintro ⟨h,_⟩;rw [h.uniq (Dist.self T v)]
  ·rw [label_ne h]
   constructor
   ·intro e;cases e
   ·rintro ⟨b,c⟩
    have:d=0:=by omega
    subst this
    cases b.1
    exact absurd rfl h
 ·simp only [aC2]
  constructor
  ·rintro rfl;exact Dist.self T v
  ·intro h;cases h.1;rfl
theorem Mid.start:Mid T k far0 edge (fun _=>False) far0 [] :=
 ⟨fun v d h=>h,fun v=>⟨fun h=>by simp at h,fun h=>absurd h.1 h.2⟩,fun v d h g=>(by rw [h] at g;cases g),fun u w h=>h.elim⟩
theorem Mid.add (m:Mid T k far0 edge done far beyond) {u w:Int} (i:u∈edge) (t:T u w) (b:far w=none):Mid T k far0 edge done (label far w (k+1)) (beyond ++ [w]):=by
 have a:far0 w=none:=by
  cases e:far0 w with
  | none=>rfl
  | some d=>rw [m.old w d e] at b;cases b
 refine ⟨fun v d h=>?_,fun v=>?_,fun v d h g=>?_,fun x y f c=>?_⟩
 ·rw [label_ne (by rintro rfl;rw [a] at h;cases h)];exact m.old v d h
 ·by_cases hv:v=w
  ·subst hv
   simp [label_same,a]
  ·rw [label_ne hv]
   simp only [aA7,aC2,hv,or_false]
   exact m.new v
 ·by_cases hv:v=w
  ·subst hv
   rw [label_same] at g
   cases g
   exact ⟨rfl,u,i,t⟩
  ·rw [label_ne hv] at g
   exact m.val v d h g
 ·by_cases hv:y=w
  ·subst hv;rw [label_same];simp
  ·rw [label_ne hv];exact m.dn x y f c
theorem Mid.did (m:Mid T k far0 edge done far beyond) {u:Int} (h:∀ w,T u w->far w ≠ none):Mid T k far0 edge (fun x=>done x\/x=u) far beyond :=
 ⟨m.old,m.new,m.val,fun x w a t=>by rcases a with a | rfl;exact m.dn x w a t;exact h w t⟩
theorem Mid.imp {a:Int->Prop} (m:Mid T k far0 edge done far beyond) (h:∀ u,a u->done u):Mid T k far0 edge a far beyond :=
 ⟨m.old,m.new,m.val,fun x w b t=>m.dn x w (h x b) t⟩
theorem Ring.next (r:Ring T a k far0 edge) (m:Mid T k far0 edge done far beyond) (hd:∀ u∈edge,done u):Ring T a (k+1) far beyond:=by
 have f:∀ v,far0 v=none->far v ≠ none->Dist T a v (k+1):=fun v c b=>by
  cases e:far v with
  | none=>exact absurd e b
  | some d =>
   obtain ⟨rfl,u,j,t⟩:=m.val v d c e
   obtain ⟨i,o,h⟩:=((r.edg u).mp j).next t
   by_cases g:i<=k
   ·rw [(r.lab v i).mpr ⟨h,g⟩] at c;cases c
   ·have:i=k+1:=by omega
    rw [← this];exact h
 have back:∀ v,Dist T a v (k+1)->far0 v=none/\far v ≠ none:=fun v h=>by
  refine ⟨?_,?_⟩
  ·cases e:far0 v with
   | none=>rfl
   | some d =>
    obtain ⟨b,n⟩:=(r.lab v d).mp e
    have:=b.uniq h
    omega
  ·obtain ⟨u,t,j⟩:=h.pred
   exact m.dn u v (hd u ((r.edg u).mpr j)) t
 refine ⟨fun v d=>?_,fun v=>⟨fun h=>?_,fun h=>(m.new v).mpr (back v h)⟩⟩
 ·constructor
  ·intro e
   cases e0:far0 v with
   | some d0 =>
    rw [m.old v d0 e0] at e
    cases e
    obtain ⟨b,n⟩:=(r.lab v d).mp e0
    exact ⟨b,by omega⟩
   | none =>
    have g:=(m.val v d e0 e).1
    subst g
    exact ⟨f v e0 (by rw [e];simp),aA6 _⟩
  ·rintro ⟨h,g⟩
   by_cases hd':d<=k
   ·exact m.old v d ((r.lab v d).mpr ⟨h,hd'⟩)
   ·have l:d=k+1:=by omega
    subst l
    obtain ⟨c,b⟩:=back v h
    cases e:far v with
    | none=>exact absurd e b
    | some d=>rw [(m.val v d c e).1]
 ·obtain ⟨c,b⟩:=(m.new v).mp h
  exact f v c b
theorem Dist.down {v:Int}:∀ {d:Nat},Dist T a v d->∀ j,j<=d->∃ u,Dist T a u j
 | 0,h,j,hj=>⟨v,by rw [show j=0 by omega];exact h⟩
 | d+1,h,j,hj=>by
  by_cases e:j=d+1
  ·rw [e];exact ⟨v,h⟩
  ·obtain ⟨u,_,b⟩:=h.pred
   exact Dist.down b j (by omega)
def farO (T:Int->Int->Prop) (a v:Int):Option Nat:=open Classical in if h:∃ d,Dist T a v d then some (Classical.choose h) else none
theorem farO_some {v:Int} {d:Nat}:farO T a v=some d ↔ Dist T a v d:=by
 unfold farO
 constructor
 ·intro h
  split at h
  ·rename_i b
   cases h
   exact Classical.choose_spec b
  ·cases h
 ·intro h
  have b:∃ d,Dist T a v d:=⟨d,h⟩
  rw [dif_pos b,(Classical.choose_spec b).uniq h]
theorem farO_none {v:Int}:farO T a v=none ↔ ∀ d,¬ Dist T a v d:=by
 constructor
 ·intro h d hd
  rw [farO_some.mpr hd] at h;cases h
 ·intro h
  cases e:farO T a v with
  | none=>rfl
  | some d=>exact absurd (farO_some.mp e) (h d)
theorem axp {v:Int} {o:Option Nat} (h:∀ d,o=some d ↔ Dist T a v d):o=farO T a v:=by
 cases o with
 | some d=>exact (farO_some.mpr ((h d).mp rfl)).symm
 | none=>exact (farO_none.mpr fun d hd=>by cases (h d).mpr hd).symm
theorem Ring.fin (r:Ring T a k far0 []) (v:Int):far0 v=farO T a v:=by
 refine axp fun d=>?_
 rw [r.lab]
 refine ⟨fun h=>h.1,fun h=>⟨h,?_⟩⟩
 apply aD5
 intro c
 obtain ⟨u,b⟩:=h.down k (by omega)
 have:=(r.edg u).mpr b
 simp at this
theorem Walk.app {u v w:Int} {i j:Nat} (h:Walk T u i v) (g:Walk T v j w):Walk T u (i+j) w:=by
 induction g with
 | refl=>exact h
 | step _ t ih=>exact .step ih t
theorem Walk.rev (hs:∀ u v,T u v->T v u) {u v:Int} {i:Nat} (h:Walk T u i v):Walk T v i u:=by
 induction h with
 | refl=>exact .refl
 | @step j x y _ t ih =>
  have:=(Walk.step (T:=T) (u:=y) .refl (hs _ _ t)).app ih
  rw [Nat.add_comm] at this
  exact this
theorem farO_self:farO T a a=some 0:=farO_some.mpr (Dist.self T a)
end Gr
namespace VL
open PySem PySem.Spec L2
theorem nodup_ix {α:Type} {xs:List α} (h:xs.Nodup) {i j:Nat} (hi:i < xs.length) (a:j < xs.length) (e:xs[i]=xs[j]):i=j:=by
 have p:=aG7.mp h
 rcases Nat.lt_trichotomy i j with q | q | q
 ·exact absurd e (p i j hi a q)
 ·exact q
 ·exact absurd e.symm (p j i a hi q)
def OLL (dss:List (List PyData)):Own where
 P:=fun G H v F=>∃ (a:Addr) (as:List Addr),v=.ref a/\H a=some (.lst (as.map V.ref))/\as.Nodup/\a ∉ as/\as.length=dss.length/\(∀ (i:Nat) b ds,as[i]?=some b->dss[i]?=some ds->∃ vs,H b=some (.lst vs)/\Rps G vs ds)/\∀ b,F b ↔ b=a\/b∈as
 mono:=fun ⟨a,as,e,h,n1,n2,l,r,f⟩ g hh=>⟨a,as,e,hh a _ ((f a).mpr (.inl rfl)) h,n1,n2,l,fun i b ds hb hd=>by
  obtain ⟨vs,h1,h2⟩:=r i b ds hb hd
  exact ⟨vs,hh b _ ((f b).mpr (.inr (aA2 hb))) h1,h2.same g⟩,f⟩
 dom:=fun ⟨a,as,e,h,n1,n2,l,r,f⟩ b z=>by
  rcases (f b).mp z with rfl | z
  ·exact ⟨_,h⟩
  ·obtain ⟨i,hi,e⟩:=aH6.mp z
   have hb:as[i]?=some b:=by rw [aA0 hi,e]
   obtain ⟨vs,h1,_⟩:=r i b _ hb (aA0 (by rw [← l];exact hi))
   exact ⟨_,h1⟩
theorem amq {G:Hp}:∀ {vs:List V} {ds:List PyData},vs.length=ds.length->(∀ (i:Nat) v d,vs[i]?=some v->ds[i]?=some d->Rp G v d)->Rps G vs ds
 | [],[],_,_ => .nil
 | [],_ :: _,h,_=>by simp at h
 | _ :: _,[],h,_=>by simp at h
 | v :: vs,d :: ds,h,k => .cons (k 0 v d rfl rfl) (amq (by simpa using h) fun i v d a b=>k (i+1) v d (by simpa using a) (by simpa using b))
theorem ajf {c:List (List PyData)}:Frz (OLL c) (.list (c.map .list)):=fun G H v F ⟨a,as,e,h,p,q,l,r,f⟩ n g=>by
 subst e
 refine .lst (by rw [ad6 ((f a).mpr (.inl rfl))];exact h) (amq (by simp [l]) fun i u d j hd=>?_)
 rw [aA5] at j hd
 cases hb:as[i]? with
 | none=>rw [hb] at j;cases j
 | some b =>
  cases hds:c[i]? with
  | none=>rw [hds] at hd;cases hd
  | some ds =>
   rw [hb] at j;rw [hds] at hd
   cases j;cases hd
   obtain ⟨vs,m,o⟩:=r i b ds hb hds
   exact .lst (by rw [ad6 ((f b).mpr (.inr (aA2 hb)))];exact m) (o.same (abk n))
section
variable {B:Bs} {env:En} {QO:Sl->En->Prop} {Q':PyData->En->Prop} {D':VEnds} {K:Frag} {i:Nat}
theorem a0i {a:List (List PyData)} {R:PyData->Prop} (h:R (.list (a.map .list))):FQ (.own (OLL a)) R:=⟨_,ajf,h⟩
theorem axq {src:List (Option Nat)} {Y:TI} {j:Nat} (h:EvI B Y env fun ds N=>ds.length<=1000000/\QO (.own (OLL (List.replicate ds.length []))) N):EvO B (tLC src Y (abc j) tYes (tLst tNil)) env QO:=fun σ G H F Q I k=>by
 refine h σ G H F _ I fun J T L F1 ds N s g1 it ⟨a1,q⟩ c d=>?_
 let W:Nat->List V->Hp->Prop:=fun n ys H=>∃ (as:List Addr) (g:Hp),ys=as.map V.ref/\as.length=n/\as.Nodup/\c ∉ as/\(∀ b∈as,L b=none/\g b=none/\H b=some (.lst []))/\H c=some (.lst ys)/\g c=none/\Same T g/\Same g H/\Same L H/\(∀ a o,g a=some o->T a=some o\/L a=none)/\FT g H
 refine ⟨fun n m ys σI H=>m=ds.length - n/\n<=ds.length/\W n ys H,⟨ds.length,by simp,aG0 _,[],T,rfl,rfl,List.nodup_nil,by simp,fun b hb=>by simp at hb,aah,s.no_g d,Same.refl _,s.gh.trans (abj d),abj d,fun a o e => .inl e,fun a ks e=>?_⟩,?_⟩
 ·by_cases z:a=c
  ·subst z;rw [aah] at e;cases e
  ·rw [aae z] at e;exact s.ft a ks e
 rintro n m ys σI H2 ⟨rfl,hn,as,g,rfl,P,nd,na,all,f,ga,v,r,l,C,t⟩
 refine ⟨f,?_⟩
 by_cases hlt:n < ds.length
 ·refine .inr ⟨it.go n g H2 v r hlt,fun E S H'=>W (n+1) E H',fun E S H' hw=>⟨ds.length - (n+1),by omega,rfl,hlt,hw⟩,fun x H3 y=>?_⟩
  obtain ⟨K,o⟩:=it.yld n g H2 x H3 _ v r t (aA0 hlt) y
  refine aof (arx (ab0 (azd (aru ⟨by decide,fun p A=>?_⟩))))
  have n2:H2 p=none:=acd o.hh A
  have Z:L p=none:=acd l n2
  have U:p ≠ c:=(aao (o.hh _ _ f) A).symm
  have D:p ∉ as:=fun z=>by
   have:=o.hh _ _ (all p z).2.2
   rw [this] at A;cases A
  refine ⟨by rw [aae U.symm];exact o.hh _ _ f,by rw [aA3,P];exact big (by omega),as ++ [p],K,by simp,by simp [P],?_,?_,fun b hb=>?_,aah,?_,v.trans o.gg,fun a u e=>?_,fun a u e=>?_,fun a u e=>?_,fun a ks e=>?_⟩
  ·rw [aE7]
   exact ⟨nd,by simp,fun x hx y X=>by simp at X;subst X;intro e;subst e;exact D hx⟩
  ·intro z
   rcases aA7.mp z with z | z
   ·exact na z
   ·exact U (aC2.mp z).symm
  ·have gb:∀ b,g b=none->(∃ u,H2 b=some u)->K b=none:=fun b O z_=>by
    obtain ⟨u,R⟩:=z_
    cases e:K b with
    | none=>rfl
    | some w =>
     rcases o.gn b w e with e | e
     ·rw [O] at e;cases e
     ·rw [R] at e;cases e
   rcases aA7.mp hb with hb | hb
   ·obtain ⟨O,R,h3⟩:=all b hb
    refine ⟨O,gb b R ⟨_,h3⟩,?_⟩
    rw [aae (fun z:b=c=>na (by rw [← z];exact hb)),aae (fun z:b=p=>D (by rw [← z];exact hb))]
    exact o.hh _ _ h3
   ·have e:b=p:=by simpa using hb
    subst e
    exact ⟨Z,acd o.gh A,by rw [aae U,aah]⟩
  ·cases e:K c with
   | none=>rfl
   | some w =>
    rcases o.gn c w e with e | e
    ·rw [ga] at e;cases e
    ·rw [f] at e;cases e
  ·have ap:a ≠ p:=aao (o.gh a u e) A
   have M:a ≠ c:=by
    rintro rfl
    rcases o.gn _ u e with e | e
    ·rw [ga] at e;cases e
    ·rw [f] at e;cases e
   rw [aae M,aae ap];exact o.gh a u e
  ·have ap:a ≠ p:=aao e Z
   have M:a ≠ c:=aao e d
   rw [aae M,aae ap];exact o.hh _ _ (l a u e)
  ·rcases o.gn a u e with e | e
   ·exact C a u e
   ·exact .inr (acd l e)
  ·by_cases z:a=c
   ·subst z;rw [aah] at e;cases e
   ·rw [aae z] at e
    by_cases y:a=p
    ·subst y;rw [aah] at e;cases e
    ·rw [aae y] at e;exact o.ft t a ks e
 ·have e:n=ds.length:=by omega
  subst e
  refine .inl ⟨it.stop _ g H2 v r rfl,?_⟩
  have I2:=s.grow v r l C t
  refine k (.ref c) g H2 F1 (fun b=>b=c\/b∈as) (.own (OLL (List.replicate ds.length []))) N I2 (g1.trans v) ⟨⟨c,as,rfl,f,nd,na,by simp [P],fun i b a0 hb hd=>?_,fun b=>Iff.rfl⟩,fun b z=>?_,fun b z=>?_,fun b z=>?_,fun j b z y=>?_⟩ q
  ·rw [aH7] at hd
   split at hd
   ·cases hd;exact ⟨[],(all b (aA2 hb)).2.2,.nil⟩
   ·cases hd
  ·rcases z with rfl | z
   ·exact s.no_b d
   ·exact s.no_b (all b z).1
  ·rcases z with rfl | z
   ·exact ga
   ·exact (all b z).2.1
  ·rcases z with rfl | z
   ·exact ⟨_,f⟩
   ·exact ⟨_,(all b z).2.2⟩
  ·rcases z with rfl | z
   ·exact s.no_f d j y
   ·exact s.no_f (all b z).1 j y
theorem aij {d:List (List PyData)} {l j n:Nat} {k:Int} {y:PyData} {ds:List PyData} (e:env[i]?=some (some (.own (OLL d)))) (S:env[l]?=some (some (.st (.int k)))) (X:env[j]?=some (some (.st y)))
  (R:ixN d.length k=some n) (hd:d[n]?=some ds) (hl:ds.length<=999999) (q:Q' .none (env.set i (some (.own (OLL (d.set n (ds ++ [y]))))))):Ev B (tBM K "list" ade (tOp (acl K) (tVar i) (tVar l)) (aa2 (tVar j) tNil)) env Q':=fun σ G H F Q I Y=>by
 obtain ⟨v,E,⟨a,as,rfl,h,M,N,ln,r,f⟩,_⟩:=I.sl i _ e
 obtain ⟨vk,u,rk,_⟩:=I.sl l _ S
 obtain ⟨U,x,O,_⟩:=I.sl j _ X
 cases rk
 have hn:n < d.length:=(aA1.mp hd).1
 have hb:as[n]?=some (as[n]'(by omega)):=aA0 _
 generalize as[n]'(by omega)=b at hb
 have s:b∈as:=aA2 hb
 obtain ⟨vs,L,D⟩:=r n b ds hb hd
 have t:atI (as.map V.ref) k=some (.ref b):=by
  unfold atI
  rw [aA3,ln,R]
  simp [hb]
 refine ⟨_,E,_,u,afe h t ⟨.inl ⟨rfl,_,SqL.of L⟩,_,x,adr L (by rw [D.length];exact big (by omega)) ?_⟩⟩
 have w:a ≠ b:=fun z=>N (z ▸ s)
 have J:=I.change (A:=OLL (d.set n (ds ++ [y]))) (H2:=upd H b (.lst (vs ++ [U]))) (F2:=F i) (os':=.own (OLL (d.set n (ds ++ [y])))) i e E (fun c o p C=>by rw [aae (fun z:c=b=>p ((f c).mpr (.inr (by rw [z];exact s))))];exact C)
  (fun c o C=>by
   by_cases z:c=b
   ·rw [z];exact ⟨_,aah⟩
   ·rw [aae z];exact ⟨o,C⟩)
  (fun c z=>⟨.inl z,by
   by_cases y:c=b
   ·rw [y];exact ⟨_,aah⟩
   ·rw [aae y];exact I.fo i c z⟩) ?_ (fun c ks e=>by
   by_cases z:c=b
   ·subst z;rw [aah] at e;cases e
   ·rw [aae z] at e;exact I.ft c ks e) (.inl ⟨rfl,_,rfl⟩)
 ·exact Y _ G _ _ _ _ J (Same.refl _) .non q
 ·refine ⟨a,as,rfl,by rw [aae w];exact h,M,N,by simp [ln],fun m c es p g=>?_,f⟩
  by_cases hm:m=n
  ·subst hm
   rw [hb] at p;cases p
   rw [aD2,aF5 rfl,aF5 hn] at g
   cases g
   exact ⟨_,aah,D.append (.cons O .nil)⟩
  ·rw [aD2,aF6 (fun z=>hm z.symm)] at g
   obtain ⟨us,h3,T⟩:=r m c es p g
   refine ⟨us,?_,T⟩
   rw [aae]
   ·exact h3
   ·rintro rfl
    have i1:=(aA1.mp hb)
    have W:=(aA1.mp p)
    obtain ⟨l1,e1⟩:=i1
    obtain ⟨P,Z⟩:=W
    exact hm (nodup_ix M P l1 (Z.trans e1.symm))
def exO {α:Type} (f : α->Own):Own where
 P:=fun G H v F=>∃ x,(f x).P G H v F
 mono:=fun ⟨x,h⟩ g hh=>⟨x,(f x).mono h g hh⟩
 dom:=fun ⟨x,h⟩=>(f x).dom h
theorem VI.weakO {G H:Hp} {σ:St} {F:Nat->Addr->Prop} {A A':Own} (I:VI B G H σ env F) (e:env[i]?=some (some (.own A))) (h:∀ G H v F,A.P G H v F->A'.P G H v F):VI B G H σ (env.set i (some (.own A'))) F:=by
 refine ⟨I.gh,I.g0,I.gn,I.rs,I.rb,I.bh,I.fg,I.fr,I.fd,I.fo,fun j s es=>?_,by simp [I.ln],I.ft⟩
 by_cases hj:j=i
 ·subst hj
  rw [aD2,aF5 rfl,aF5 (aA1.mp e).1] at es
  cases es
  obtain ⟨v,a,q⟩:=I.sl j _ e
  exact ⟨v,a,h _ _ _ _ q.1,q.2⟩
 ·rw [aD2,aF6 (fun z=>hj z.symm)] at es
  exact I.sl j s es
end
@[reducible] def prD (p:Int × Int):PyData:=.tuple [.int p.1,.int p.2]
@[reducible] def webD (n:Int) (es:List (Int × Int)):PyData:=.tuple [.int n,.list (es.map prD)]
def Tied (es:List (Int × Int)) (u v:Int):Prop:=(u,v)∈es\/(v,u)∈es
theorem Tied.symm {es:List (Int × Int)} {u v:Int} (h:Tied es u v):Tied es v u:=h.elim .inr .inl
def InN (n:Int) (es:List (Int × Int)):Prop:=∀ p∈es,0<=p.1/\p.1 < n/\0<=p.2/\p.2 < n
theorem Tied.in {n:Int} {es:List (Int × Int)} {u v:Int} (hi:InN n es) (h:Tied es u v):(0<=u/\u < n)/\0<=v/\v < n:=by
 rcases h with h | h
 ·have:=hi _ h;exact ⟨⟨this.1,this.2.1⟩,this.2.2⟩
 ·have:=hi _ h;exact ⟨⟨this.2.2.1,this.2.2.2⟩,this.1,this.2.1⟩
theorem Tied.snoc {es:List (Int × Int)} {i:Nat} {a b:Int} (h:es[i]?=some (a,b)) (u v:Int):Tied (es.take (i+1)) u v ↔ (Tied (es.take i) u v\/(u=a/\v=b))\/(u=b/\v=a):=by
 have e:es.take (i+1)=es.take i ++ [(a,b)]:=by rw [aH4,h];rfl
 unfold Tied
 rw [e]
 simp only [aA7,aC2,Prod.mk.injEq]
 constructor
 ·rintro ((h | ⟨rfl,rfl⟩) | (h | ⟨rfl,rfl⟩))
  ·exact .inl (.inl (.inl h))
  ·exact .inl (.inr ⟨rfl,rfl⟩)
  ·exact .inl (.inl (.inr h))
  ·exact .inr ⟨rfl,rfl⟩
 ·rintro (((h | h) | ⟨rfl,rfl⟩) | ⟨rfl,rfl⟩)
  ·exact .inl (.inl h)
  ·exact .inr (.inl h)
  ·exact .inl (.inr ⟨rfl,rfl⟩)
  ·exact .inr (.inr ⟨rfl,rfl⟩)
def TiedL (n:Int) (T:Int->Int->Prop) (tl:List (List Int)):Prop:=(tl.length:Int)=n/\∀ (i:Nat) ws,tl[i]?=some ws->∀ w,w∈ws ↔ T i w
def oD:Option Nat->PyData
 | none => .none
 | some d => .int d
def lab (n:Nat) (far:Int->Option Nat):List PyData:=(List.range n).map fun (i:Nat)=>oD (far (i:Int))
theorem ab2 {n:Nat} {far:Int->Option Nat}:(lab n far).length=n:=by simp [lab]
theorem ad8 {n:Nat} {far:Int->Option Nat} {i:Nat} (h:i < n):(lab n far)[i]?=some (oD (far i)):=by
 unfold lab
 rw [aA5,aA0 (by simpa using h)]
 simp
theorem aik {n:Nat} {far:Int->Option Nat} {v:Int} (a:0<=v) (h:v < n):atI (lab n far) v=some (oD (far v)):=by
 have:=agi (xs:=lab n far) (j:=v.toNat) (ad8 (by omega))
 rwa [show ((v.toNat:Nat):Int)=v by omega] at this
theorem ae5 {n:Nat} {v:Int} (a:0<=v) (h:v < n):ixN n v=some v.toNat:=by
 unfold ixN;rw [aF5 a,aF5 h]
theorem agr {n:Nat} {far:Int->Option Nat} {v:Int} {d:Nat} (a:0<=v) (h:v < n):(lab n far).set v.toNat (.int d)=lab n (Gr.label far v d):=by
 apply aG2
 intro i
 rw [aD2]
 by_cases e:v.toNat=i
 ·rw [aF5 e,aF5 (by rw [ab2];omega),ad8 (by omega)]
  have:(i:Int)=v:=by omega
  rw [this,Gr.label_same];rfl
 ·rw [aF6 e]
  by_cases hi:i < n
  ·rw [ad8 hi,ad8 hi,Gr.label_ne (by omega)]
  ·rw [aF7.mpr (by rw [ab2];omega),aF7.mpr (by rw [ab2];omega)]
theorem aj6 {n:Nat} {f g:Int->Option Nat} (h:∀ v,0<=v->v < (n:Int)->f v=g v):lab n f=lab n g:=by
 unfold lab
 apply aE8
 intro i hi
 rw [h i (by omega) (by have:=aB9.mp hi;omega)]
theorem ao2 {o:Option Nat}:isNone (oD o)=o.isNone:=by cases o <;> rfl
theorem ae6 {α:Type} {f : α->PyData} {xs:List α} {i:Int} {x : α} (h:atI xs i=some x):atI (xs.map f) i=some (f x):=by
 unfold atI at h ⊢
 rw [aA3]
 cases e:ixN xs.length i with
 | none=>rw [e] at h;cases h
 | some j=>rw [e] at h;simp at h ⊢;exact ⟨_,h,rfl⟩
theorem afj {α:Type} {xs:List α} {i:Int} {x : α} (a:0<=i) (h:xs[i.toNat]?=some x):atI xs i=some x:=by
 have:=agi (xs:=xs) (j:=i.toNat) h
 rwa [show ((i.toNat:Nat):Int)=i by omega] at this
@[reducible] def tlD (tl:List (List Int)):List (List PyData):=tl.map fun ws=>ws.map .int
theorem TiedL.get {n:Int} {T:Int->Int->Prop} {tl:List (List Int)} (h:TiedL n T tl) {v:Int} (c:0<=v) (b:v < n):∃ ws,tl[v.toNat]?=some ws/\∀ w,w∈ws ↔ T v w:=by
 have a:v.toNat < tl.length:=by have:=h.1;omega
 refine ⟨tl[v.toNat],aA0 a,fun w=>?_⟩
 rw [h.2 _ _ (aA0 a) w,show ((v.toNat:Nat):Int)=v by omega]
theorem ajg {tl:List (List Int)} {i:Nat} {ws:List Int} (h:tl[i]?=some ws):(tlD tl)[i]?=some (ws.map .int):=by
 rw [aA5,h];rfl
theorem TiedL.put {n:Int} {T:Int->Int->Prop} {tl:List (List Int)} (h:TiedL n T tl) {v q:Int} {ws:List Int} (f:0<=v) (g:v < n) (c:tl[v.toNat]?=some ws):TiedL n (fun a b=>T a b\/(a=v/\b=q)) (tl.set v.toNat (ws ++ [q])):=by
 refine ⟨by rw [List.length_set];exact h.1,fun i us hi w=>?_⟩
 rw [aD2] at hi
 by_cases e:v.toNat=i
 ·rw [aF5 e] at hi
  have j:v.toNat < tl.length:=(aA1.mp c).1
  rw [aF5 (by omega)] at hi
  cases hi
  have d:(i:Int)=v:=by omega
  rw [aA7,aC2,h.2 i ws (by rw [← e];exact c) w,d]
  simp
 ·rw [aF6 e] at hi
  rw [h.2 i us hi w]
  exact ⟨.inl,fun z=>z.elim id fun z=>by omega⟩
theorem ao3 {tl:List (List Int)} {i:Nat} {ws:List Int}:(tlD tl).set i (ws.map .int)=tlD (tl.set i ws):=by
 unfold tlD;rw [List.map_set]
theorem TiedL.iff {n:Int} {T T':Int->Int->Prop} {tl:List (List Int)} (h:TiedL n T tl) (e:∀ u v,T u v ↔ T' u v):TiedL n T' tl:=⟨h.1,fun i ws hi w=>(h.2 i ws hi w).trans (e _ _)⟩
end VL
namespace VL
open PySem L2
def cnt (far:Int->Option Nat):Nat->Nat
 | 0=>0
 | n+1=>cnt far n+(if far (n:Int)=none then 1 else 0)
theorem afo {far:Int->Option Nat} {w:Int} {d:Nat}:∀ {n:Nat},(w:Int) ≥ n->cnt (Gr.label far w d) n=cnt far n
 | 0,_=>rfl
 | n+1,h=>by
  unfold cnt
  rw [afo (by omega),Gr.label_ne (by omega)]
theorem aj7 {far:Int->Option Nat} {w:Int} {d:Nat} (b:0<=w) (a:far w=none):∀ {n:Nat},w < (n:Int)->cnt (Gr.label far w d) n+1=cnt far n
 | 0,h=>by omega
 | n+1,h=>by
  unfold cnt
  by_cases e:w=n
  ·subst e
   rw [afo (by omega),Gr.label_same,a];simp
  ·rw [Gr.label_ne (by omega)]
   have:=aj7 b a (n:=n) (d:=d) (by omega)
   omega
theorem ao4 (n:Nat):(List.replicate n [PyData.none]).flatten=lab n (fun _=>none):=by
 apply aG2
 intro i
 by_cases hi:i < n
 ·rw [ad8 hi]
  have:(List.replicate n [PyData.none]).flatten=List.replicate n PyData.none:=by
   clear hi
   induction n with
   | zero=>rfl
   | succ n ih=>rw [aH3,List.flatten_cons,ih,aH3];rfl
  rw [this,aH7,aF5 hi];rfl
 ·rw [aF7.mpr (by rw [aoe];simp;omega),aF7.mpr (by rw [ab2];omega)]
theorem an0 {α:Type} {f : α->PyData} {xs:List α}:(xs.map f).isEmpty=xs.isEmpty:=by cases xs <;> rfl
theorem ad1 {xs:List Int} {j:Nat} {u w:Int} (a:xs[j]?=some u) (hm:w∈xs.take (j+1)):w∈xs.take j\/w=u:=by
 rw [aH4,a] at hm
 rcases aA7.mp hm with q | q
 ·exact .inl q
 ·exact .inr (by simpa using q)
theorem aj8 {n:Nat} {far:Int->Option Nat}:plainDs (lab n far)=true:=by
 rw [ag4]
 intro d hd
 obtain ⟨i,_,rfl⟩:=aB7.mp hd
 cases far (i:Int) <;> rfl
theorem lab_any {n:Nat} {far:Int->Option Nat}:((lab n far).any fun z=>PyData.eqv z .none)=true ↔ ∃ v:Int,0<=v/\v < n/\far v=none:=by
 rw [List.any_eq_true]
 constructor
 ·rintro ⟨d,hd,e⟩
  obtain ⟨i,hi,rfl⟩:=aB7.mp hd
  refine ⟨i,by omega,by have:=aB9.mp hi;omega,?_⟩
  cases h:far (i:Int) with
  | none=>rfl
  | some d=>rw [h] at e;simp [oD,PyData.eqv] at e
 ·rintro ⟨v,b,a,h⟩
  refine ⟨oD (far v),?_,by rw [h];rfl⟩
  have:=ad8 (far:=far) (show v.toNat < n by omega)
  rw [show ((v.toNat:Nat):Int)=v by omega] at this
  exact aA2 this
def Joined (n:Int) (es:List (Int × Int)):Prop:=∀ v,0<=v->v < n->∃ d,Gr.Dist (Tied es) 0 v d
end VL
namespace DI
open PySem PySem.W
def Raw (h:Heap) (d:Addr) (es:Array DictEntry) (ep:Nat):Prop:=∃ o,h.get? d=some o/\o.ExactDict/\o.data=.dict es ep
theorem Raw.keep {h h':Heap} {d:Addr} {es:Array DictEntry} {ep:Nat} (r:Raw h d es ep) (k:∀ o,h.get? d=some o->h'.get? d=some o):Raw h' d es ep:=let ⟨o,e,x⟩:=r;⟨o,k o e,x⟩
theorem Raw.ty {s:Shared} {d:Addr} {es:Array DictEntry} {ep:Nat} (r:Raw s.heap d es ep):s.TypeIs (.ref d) "dict":=let ⟨o,e,x,_⟩:=r;⟨o,e,x.1⟩
section
variable {prog:Program} {w:World} {A:Around} {E:Value->Shared->Prop} {s:Shared} {d it:Addr} {es:Array DictEntry} {ep i:Nat}
theorem aux {Q:Value->Shared->Prop} (hd:(d == sysModules)=false) (r:Raw s.heap d es ep)
  (c:Q (.ref s.heap.objs.size) { s with heap:=s.heap.push { cls:=.type "dict_keyiterator",data:=.fields #[.ref d,.int 0 0,.int es.size 0,.int ep 0] } }):wpAny (model prog w) A (pyIter (.ref d)) Q E s:=by
 obtain ⟨o,b,f,a⟩:=id r
 refine wpAny_pyIter_slot r.ty PySem.F.slot_dict_iter (aK2 PySem.F.slot_dict_iter r.ty PySem.F.entry_dict_iter ?body (PySem.F.args_dict_iter_1 _))
 case body =>
  unfold Builtin.«dict.__iter__»
  refine aI9 ?slot
  case slot =>
   unfold Builtin.Dict.dictSlotNone
   refine aI9 (wpAny_notOrdered_dict r.ty ?pl)
   case pl =>
    show wpAny _ _ (pure (Value.ref d)) _ _ s
    refine aJ0 ?rest
    case rest =>
     show wpAny _ _ (Builtin.Dict.showsAll d >>= _) _ _ s
     unfold Builtin.Dict.showsAll
     rw [aF6 (by rw [hd];exact aB0)]
     refine aI9 (aJ0 (aI9 (wpAny_dictEntries b a (aI9 (wpAny_dictEpoch b a (aI9 (aJ9 (aJ0 ⟨_,rfl,"dict_keyiterator",_,⟨_,aJ3 _ rfl,rfl⟩,PySem.F.slot_dict_keyiterator_next.lookup,?fin⟩))))))))
     case fin=>simpa [rawInt] using c
theorem auy {Q:Option Value->Shared->Prop} (a:s.heap.IsKeyIter it d i es.size ep) (r:Raw s.heap d es ep) (hi:i < es.size)
  (t:∀ h',h'.IsKeyIter it d (i+1) es.size ep->Heap.SameBut it s.heap h'->Q (some es[i].key) { s with heap:=h' }):wpAny (model prog w) A (pyNext (.ref it)) Q E s:=by
 obtain ⟨o,q,v,hd⟩:=id a
 obtain ⟨od,n,u,p⟩:=r
 unfold pyNext
 refine aI9 (wpAny_attempt (wpAny_callSpecial?_slot (name:=Str.ofString "__next__") a.typeIs PySem.F.slot_dict_keyiterator_next (aK2 PySem.F.slot_dict_keyiterator_next a.typeIs PySem.F.entry_dict_keyiterator_next ?b (PySem.F.args_dict_keyiterator_next_1 _))))
 case b =>
  refine aI9 (aJ0 (aI9 (aI9 ?c)))
  case c =>
   first | refine aI9 (wpAny_typeNameOfWhole_keyiter a.typeIs (aJ0 (aI9 (wpAny_fieldsOf q hd ?e)))) | refine aI9 (wpAny_typeNameOf_keyiter a.typeIs (aJ0 (aI9 (wpAny_fieldsOf q hd ?e))))
   case e =>
    simp only [show Builtin.Dict_items.ownsTuple "dict_keyiterator" = false by decide,Bool.false_eq_true,if_false]
    show wpAny _ _ (if (Value.ref d == Value.none)=true then _ else _) _ _ s;rw [aF6 (show ¬ ((Value.ref d == Value.none)=true) from aB0)]
    refine aI9 (aJ0 (aI9 (wpAny_dictEntries n p ?f)))
    case f =>
     rw [aF6 (by simp)];refine aI9 (aJ0 (aI9 (wpAny_dictEpoch n p ?g)))
     case g =>
      rw [aF6 (by simp)];refine aJ0 ?h
      case h =>
       simp only [show ¬ ((i:Int) < 0) by omega,if_false,Int.toNat_natCast,aA4 hi];refine aI9 ?j
       case j =>
        first | refine aI9 (wpAny_typeNameOfWhole_keyiter a.typeIs (aJ0 (aI9 (wpAny_isOneOf_keyiter a.typeIs ?k)))) | refine aI9 (wpAny_typeNameOf_keyiter a.typeIs (aJ0 (aI9 (wpAny_isOneOf_keyiter a.typeIs ?k))))
        case k =>
         show wpAny _ _ (setField (.ref it) 1 (rawInt ((i:Int)+1)) >>= _) _ _ s;refine aI9 (wpAny_setField q hd (by simp) ?l)
         case l =>
          have nx:(s.heap.update it (Obj.mapFields (·.setIfInBounds 1 (rawInt ((i:Int)+1))))).IsKeyIter it d (i+1) es.size ep:=⟨_,aK5 _ q (Obj.isFreed_of_fields (Obj.data_mapFields hd _)),(Obj.cls_mapFields ..).trans v,by rw [Obj.data_mapFields hd];simp [rawInt]⟩
          refine aI9 (aJ5 (aI9 (wpAny_isOneOf_keyiter (s:={ s with heap:=s.heap.update it (Obj.mapFields (·.setIfInBounds 1 (rawInt ((i:Int)+1)))) }) nx.typeIs ?m)))
          case m=>show wpAny _ _ (pure es[i].key) _ _ _;exact aJ0 (aJ0 ⟨_,rfl,aJ0 (t _ nx (Heap.SameBut.update ..))⟩)
theorem axr {Q:Option Value->Shared->Prop} (hh:A.handled=none) (i:s.heap.IsKeyIter it d es.size es.size ep) (r:Raw s.heap d es ep) (u:∀ h',Heap.ExtBut it s.heap h'->Q none { s with heap:=h' }):wpAny (model prog w) A (pyNext (.ref it)) Q E s:=by
 obtain ⟨o,t,x,hd⟩:=id i
 obtain ⟨od,n,v,p⟩:=r
 unfold pyNext
 refine aI9 (wpAny_attempt (wpAny_callSpecial?_slot (name:=Str.ofString "__next__") i.typeIs PySem.F.slot_dict_keyiterator_next (aK2 PySem.F.slot_dict_keyiterator_next i.typeIs PySem.F.entry_dict_keyiterator_next ?b (PySem.F.args_dict_keyiterator_next_1 _))))
 case b =>
  refine aI9 (aJ0 (aI9 (aI9 ?c)))
  case c =>
   first | refine aI9 (wpAny_typeNameOfWhole_keyiter i.typeIs (aJ0 (aI9 (wpAny_fieldsOf t hd ?e)))) | refine aI9 (wpAny_typeNameOf_keyiter i.typeIs (aJ0 (aI9 (wpAny_fieldsOf t hd ?e))))
   case e =>
    simp only [show Builtin.Dict_items.ownsTuple "dict_keyiterator" = false by decide,Bool.false_eq_true,if_false]
    show wpAny _ _ (if (Value.ref d == Value.none)=true then _ else _) _ _ s;rw [aF6 (show ¬ ((Value.ref d == Value.none)=true) from aB0)]
    refine aI9 (aJ0 (aI9 (wpAny_dictEntries n p ?f)))
    case f =>
     rw [aF6 (by simp)];refine aI9 (aJ0 (aI9 (wpAny_dictEpoch n p ?g)))
     case g =>
      rw [aF6 (by simp)];refine aJ0 ?h
      case h =>
       simp only [show ¬ ((es.size:Int) < 0) by omega,if_false,Int.toNat_natCast,Array.getElem?_eq_none (aA6 es.size)];refine aI9 ?j
       case j =>
        first | refine aI9 (wpAny_typeNameOfWhole_keyiter i.typeIs (aJ0 ?k)) | refine aI9 (wpAny_typeNameOf_keyiter i.typeIs (aJ0 ?k))
        case k =>
         show wpAny _ _ (setField (.ref it) 0 .none >>= _) _ _ s;refine aI9 (wpAny_setField t hd (by simp) ?l)
         case l =>
          show wpAny _ _ (newExc (.type "StopIteration") [] >>= _) _ _ _;refine aI9 ?m
          case m =>
           simp only [newExc,newTuple];refine aI9 (aJ9 ?zz2 (by size_fits))
           case zz2 =>
            refine aI9 (m:=firstArgMember _ _) (wpAny_of_eq (a:=Value.none) (by first | rfl | (simp only [firstArgMember];rfl)) (aJ9 ?zz1 (by size_fits)))
            case zz1 =>
             simp only [raiseNew];refine aI9 (wpAny_handled ?q)
             case q =>
              rw [show A.in1.handled=none from hh];refine aI9 (aJ0 (wpAny_throw ?u1))
              case u1=>refine aI9 (wpAny_isInstance (T:="StopIteration") (b:=true) ⟨_,aJ3 _ rfl,rfl⟩ isSubtype_stop ?u2);exact aJ0 (u _ (((Heap.SameBut.update ..).extBut.push _).push _))
end
theorem walks {prog:Program} {w:World} {A:Around} (hh:A.handled=none) (I d:Addr) (c:d ≠ I) (es:Array DictEntry) (ep:Nat) :
  Walks prog w A I [I,d] [I] es.size (fun i v=>(es[i]?).map (·.key)=some v) (fun i h=>h.IsKeyIter I d i es.size ep/\Raw h d es ep) where
 sub:=fun b hb=>by simp at hb;simp [hb]
 frame:=fun _ _ _ st f=>⟨st.1.at fun o e=>f I (by simp) o e,st.2.keep fun o e=>f d (by simp) o e⟩
 item:=fun i s Q E hi st a=>auy st.1 st.2 hi fun h' nx sb=>a _ h' s.toks (by rw [aA4 hi];rfl) ⟨nx,st.2.keep fun o e=>sb.extBut d o c e⟩ fun b o hb e=>sb.extBut b o (fun z=>hb (by simp [z])) e
 done:=fun s Q E st a=>axr hh st.1 st.2 fun h' g=>a h' s.toks fun b o hb e=>g b o (fun z=>hb (by simp [z])) e
 self:=fun _ _ _ _ st a=>wpAny_pyIter_keyiter st.1 a
end DI
namespace DI
open PySem PySem.W PyProof.Rows
section
variable {prog:Program} {w:World} {A:Around} {E:Value->Shared->Prop} {s:Shared}
theorem src (d:Addr) (es:Array DictEntry) (ep:Nat) (hd:(d == sysModules)=false):KdlSrc prog w "dict" d d es.size (fun i v=>(es[i]?).map (·.key)=some v) (fun h=>Raw h d es ep) where
 type:=fun s r=>r.ty
 there:=fun h r=>let ⟨o,e,_⟩:=r;⟨aJ2 e,aJ2 e⟩
 keep:=fun h h' r k=>r.keep fun o e=>k d (.inl rfl) o e
 notList:=by decide
 notTuple:=by decide
 hint:=fun A E s Q r q=>kdl_hint_dict r.ty q
 iter:=fun A s hh r=>⟨{ cls:=.type "dict_keyiterator",data:=.fields #[.ref d,.int 0 0,.int es.size 0,.int ep 0] },fun i h=>h.IsKeyIter s.heap.objs.size d i es.size ep/\Raw h d es ep,fun E Q q=>aux hd r q,
  walks hh s.heap.objs.size d (by obtain ⟨o,e,_⟩:=r;exact aB6 (aJ2 e)) es ep,⟨_,aJ3 _ rfl,rfl,rfl⟩,r.keep fun o e=>aJ1 _ e⟩
end
end DI
namespace TS
open PySem PySem.W PyProof.Rows
section
variable {prog:Program} {w:World} {A:Around} {E:Value->Shared->Prop} {s:Shared}
end
end TS
namespace L2
open PySem PySem.Spec PyProof.Rows
section
variable {X:Cx} {pins:List (Addr × Obj)} {σ:St} {H:Hp} {s:Shared} {h':Heap}
theorem Inv.turnNew {t':Nat} {ch:List Addr} {T:Addr} {o:HO} (I:Inv X pins σ H s) (f:∀ b∈ch,FpOk X pins H b) (k:∀ b u,b ∉ ch->s.heap.get? b=some u->h'.get? b=some u) (g:s.heap.objs.size<=T) (new:ObjOk X.prog X.w (upd H T o) h' T o) :
  Inv X pins σ (upd H T o) { s with heap:=h',toks:=t' }:=by
 have hn:H T=none:=I.hok.fresh g
 have d:∀ b u,H b=some u->b ∉ ch:=fun b u e z=>by rw [(f b z).1] at e;cases e
 refine I.step (g':=s.gens) (d':=s.drawn) (ch:=ch) (fun b hb=>⟨(f b hb).2.2.2.1,(f b hb).2.1,(f b hb).2.2.2.2.1,(f b hb).2.2.2.2.2⟩) (fun b u _ _ a e _=>k b u a e) (fun b u _ _ a e _=>⟨u.slots,k b u a e⟩)
  (fun b u _ e n=>by rw [aae (aB6 (aC5 (aJ2 e) g))];exact n) (fun b u a e=>⟨u,k b u a e⟩) (fun b xs e=>by rw [aae (aao e hn)];exact e) (fun b u v e=>by rw [aae (aao e hn)];exact e)
  (fun b ps e=>⟨#[],by rw [aae (aao e hn),e];simp⟩) (fun m hm=>?_) (fun b u e=>?_) I.bare
 ·obtain ⟨u,es,ep,h,r⟩:=hm
  exact ⟨u,es,ep,k _ u (fun z=>(f _ z).2.1 rfl) h,r⟩
 ·by_cases hb:b=T
  ·subst hb;rw [aah] at e;cases e;exact new
  ·rw [aae hb] at e
   refine (I.hok b u e).stay (fun c v a q=>k c v ?_ q) (fun c q=>by rw [aae (aao q hn)];exact q) fun c xs q=>by rw [aae (aao q hn)];exact q
   rcases a with z | z
   ·rw [z];exact d b u e
   ·exact d c _ z
theorem Inv.turnedL {t':Nat} {ch:List Addr} (I:Inv X pins σ H s) (f:∀ b∈ch,FpOk X pins H b) (k:∀ b u,b ∉ ch->s.heap.get? b=some u->h'.get? b=some u):Inv X pins σ H { s with heap:=h',toks:=t' }:=by
 have d:∀ b u,H b=some u->b ∉ ch:=fun b u e z=>by rw [(f b z).1] at e;cases e
 refine I.step (g':=s.gens) (d':=s.drawn) (ch:=ch) (fun b hb=>⟨(f b hb).2.2.2.1,(f b hb).2.1,(f b hb).2.2.2.2.1,(f b hb).2.2.2.2.2⟩) (fun b u _ _ a e _=>k b u a e) (fun b u _ _ a e _=>⟨u.slots,k b u a e⟩) (fun _ _ _ _ n=>n)
  (fun b u a e=>⟨u,k b u a e⟩) (fun _ _ e=>e) (fun _ _ _ e=>e) (fun b ps e=>⟨#[],by rw [e];simp⟩) (fun m hm=>?_) (fun b u e=>?_) I.bare
 ·obtain ⟨u,es,ep,g,r⟩:=hm
  exact ⟨u,es,ep,k _ u (fun z=>(f _ z).2.1 rfl) g,r⟩
 ·refine (I.hok b u e).stay (fun c v a q=>k c v ?_ q) (fun _ q=>q) fun _ _ q=>q
  rcases a with z | z
  ·rw [z];exact d b u e
  ·exact d c _ z
end
def Itz (K:Frag) (a b:Addr):It :=
 ⟨fun i H=>∃ xs ys x y,SqL K H a xs/\SqL K H b ys/\xs[i]?=some x/\ys[i]?=some y,fun i H v H'=>∃ p x y,v=.ref p/\H p=none/\H'=upd H p (.tup [x,y])/\(∀ xs,SqL K H a xs->xs[i]?=some x)/\∀ ys,SqL K H b ys->ys[i]?=some y,
  fun i H=>∃ xs ys,SqL K H a xs/\SqL K H b ys/\min xs.length ys.length=i⟩
section
variable {X:Cx} {elts:List Expr} {k:Nat} {tpos:Pos}
end
theorem auz {P:Program} {w:World} {K:Frag} {p:List Expr} {k:Nat} {L:Pos} (z TI TO g f R J:Addr) (D:ZipApart z TI TO g f R J) :
  Turn P w K (.Tuple p k L) (Itz K R J) [z,TI,TO,g,f] z (fun i h=>IsZip h z TI TO .none/\IsPair h TI (.ref g) (.ref f)/\(∃ a b,IsPair h TO a b)/\h.IsListIter g R i/\h.IsListIter f J i) where
 mem:=by simp
 obj:=fun i h st b hb=>by
  obtain ⟨hz,c,⟨a,b',d⟩,⟨o1,e1,c1,d1⟩,⟨o2,e2,c2,d2⟩⟩:=st
  simp only [aA9,aI3,or_false] at hb
  rcases hb with rfl | rfl | rfl | rfl | rfl
  ·exact ⟨_,hz,fun v y=>by simp at y⟩
  ·exact ⟨_,c,fun v y=>by simp at y⟩
  ·exact ⟨_,d,fun v y=>by simp at y⟩
  ·exact ⟨o1,e1,fun v y=>by rw [d1] at y;cases y⟩
  ·exact ⟨o2,e2,fun v y=>by rw [d2] at y;cases y⟩
 keep:=fun i h h' st q=>by
  obtain ⟨hz,c,⟨a,b',d⟩,C,F⟩:=st
  exact ⟨q z (by simp) _ hz,q TI (by simp) _ c,⟨a,b',q TO (by simp) _ d⟩,C.at fun o x=>q g (by simp) o x,F.at fun o x=>q f (by simp) o x⟩
 item:=by
  intro X G hw hK hc i pins s σ H E I hf st Z
  subst G hw hK
  obtain ⟨xs,ys,x,y,m,l,U,hy⟩:=Z
  obtain ⟨us,t,p1,_⟩:=I.list m
  obtain ⟨vs,r,p2,_⟩:=I.list l
  obtain ⟨u,hu,ru⟩:=t.get U
  obtain ⟨v,hv,rv⟩:=r.get hy
  have hi:i < min us.toArray.size vs.toArray.size:=by
   have a1:=(aA1.mp hu).1
   have a2:=(aA1.mp hv).1
   simp;omega
  obtain ⟨hz,c,d,C,F⟩:=st
  have W:=WalksT.zip2 (prog:=X.prog) (w:=X.w) (I.ok.hd hc) z TI TO g f R J D us.toArray vs.toArray
  refine W.item i s _ _ hi ⟨hz,c,d,C,F,p1.isList,p2.isList⟩ fun T a4 h3 tk G hT N mid kk=>⟨_,rfl,?_⟩
  obtain ⟨Y,S,a3,a0,rfl⟩:=G
  have ex:Y=u:=by
   have:us[i]?=some Y:=by simpa using a3
   rw [hu] at this;cases this;rfl
  have ey:S=v:=by
   have:vs[i]?=some S:=by simpa using a0
   rw [hv] at this;cases this;rfl
  subst ex ey
  have M:=W.apart i T _ mid
  have sub:∀ b,b ∉ [z,TI,TO,g,f]->b ∉ [z,TO,g,f]:=fun b hb y=>hb (by simp at y ⊢;rcases y with y | y | y | y <;> simp [y])
  have Tt:T ∉ [z,TI,TO,g,f]:=fun y=>by
   have:=(hf T y).1
   obtain ⟨o,e,_⟩:=N
   simp only [aA9,aI3,or_false] at y
   rcases y with rfl | rfl | rfl | rfl | rfl
   ·exact M (by simp)
   ·exact absurd (aJ2 c) (Nat.not_lt.mpr hT)
   ·exact M (by simp)
   ·exact M (by simp)
   ·exact M (by simp)
  refine W.go p k L i T { s with heap:=h3,toks:=tk } _ _ mid fun h4 j k4=>?_
  have O:IsTup h4 T #[Y,S]:=by
   obtain ⟨o,e1,e2,n,e3⟩:=N
   exact ⟨o,k4 T o M e1,e2,n,e3⟩
  refine ⟨.ref T,upd H T (.tup [x,y]),I.turnNew hf (fun b o hb q=>k4 b o (sub b hb) (kk b o (sub b hb) q)) hT ?_,rfl,⟨T,x,y,rfl,I.hok.fresh hT,rfl,fun zs B=>by rw [I.list_inj B m];exact U,fun zs B=>by rw [I.list_inj B l];exact hy⟩,⟨j.1,j.2.1,j.2.2.1,j.2.2.2.1,j.2.2.2.2.1⟩,fun b hb=>?_⟩
  ·exact ⟨by show (2:Nat)<=sizeLine;decide,[Y,S],.cons ru (.cons rv .nil),O⟩
  ·rw [aae]
   ·exact (hf b hb).1
   ·rintro rfl;exact Tt hb
 done:=by
  intro X G hw hK hc i pins s σ H E I hf st Z
  subst G hw hK
  obtain ⟨xs,ys,m,l,U⟩:=Z
  obtain ⟨us,t,p1,_⟩:=I.list m
  obtain ⟨vs,r,p2,_⟩:=I.list l
  obtain ⟨hz,c,d,C,F⟩:=st
  have W:=WalksT.zip2 (prog:=X.prog) (w:=X.w) (I.ok.hd hc) z TI TO g f R J D us.toArray vs.toArray
  have ei:min us.toArray.size vs.toArray.size=i:=by
   rw [← U,t.length,r.length];simp
  have sub:∀ b,b ∉ [z,TI,TO,g,f]->b ∉ [z,TO,g,f]:=fun b hb y=>hb (by simp at y ⊢;rcases y with y | y | y | y <;> simp [y])
  rw [← ei] at C F
  exact W.done s _ _ ⟨hz,c,d,C,F,p1.isList,p2.isList⟩ fun h3 tk kk=>⟨rfl,I.turnedL (t':=tk) hf fun b o hb q=>kk b o (sub b hb) q⟩
 self:=fun A i s Q E st h=>wpAny_pyIter_zip st.1 h
theorem a0j {n a b:Nat} (c:a < n) (d:b < n):ZipApart (n+4) (n+2) (n+3) n (n+1) a b:=by constructor <;> (show (_:Nat) ≠ _;omega)
section
variable {X:Cx} {elts:List Expr} {k:Nat} {tpos:Pos}
def iZip (K:Frag) (ta:TA):TI:=fun σ H R=>ta σ H fun vs H1=>∃ a b xs ys,vs=[.ref a,.ref b]/\SqL K H1 a xs/\SqL K H1 b ys/\R (Itz K a b) H1
theorem a0k {a b:Expr} {w:TA} {p g:Pos} (J:Gl X "zip") (hm:X.mg "zip" = none) (ha:PA X [a,b] w) (hs:starEach [a,b] X.env=[(false,eval a X.env),(false,eval b X.env)]:=by rfl) (i:starEach [b] X.env=[(false,eval b X.env)]:=by rfl):PI X (.Tuple elts k tpos) (.Call (.Name "zip" p) [a,b] [] g) (iZip X.K w):=by
 intro pins s σ H R I h
 refine Call_ (ado I J hm azl (PyProof.Rows.callWith_type1 (thn (ha g pins s σ H _ I h) fun us s1 ⟨vs,D,d,x,a,b,xs,ys,y,j,l,q⟩=>?_) (by rw [hs,i]) (by rw [i];rfl)))
 subst y
 obtain ⟨u,c,rfl,G,z⟩:=agh x
 cases G
 cases z
 obtain ⟨_,_,t,_⟩:=d.list j
 obtain ⟨_,_,p2,_⟩:=d.list l
 have E:a < s1.heap.objs.size:=by obtain ⟨o,n,e,_⟩:=t;exact aJ2 e
 have B:b < s1.heap.objs.size:=by obtain ⟨o,n,e,_⟩:=p2;exact aJ2 e
 refine call_zip_2 t.isList p2.isList fun L hz r m A F C kp=>?_
 refine wpAny_pyIter_zip hz ⟨s1.heap.objs.size+4,[s1.heap.objs.size+4,s1.heap.objs.size+2,s1.heap.objs.size+3,s1.heap.objs.size,s1.heap.objs.size+1],_,_,D,rfl,d.kept (t':=s1.toks) kp,auz _ _ _ _ _ a b (a0j E B),⟨hz,r,⟨_,_,m⟩,A,F⟩,fun c v=>?_,q⟩
 have f:s1.heap.objs.size<=c:=by
  simp only [aA9,aI3,or_false] at v
  rcases v with rfl | rfl | rfl | rfl | rfl
  ·exact Nat.le_add_right _ 4
  ·exact Nat.le_add_right _ 2
  ·exact Nat.le_add_right _ 3
  ·exact aA6 _
  ·exact Nat.le_add_right _ 1
 exact d.fpOk f (d.hok.fresh f)
end
theorem ao5:∀ {xs:List V} {us:List Value},xs.length=us.length->(∀ (i:Nat) v u,xs[i]?=some v->us[i]?=some u->RelV v u)->Vals xs us
 | [],[],_,_ => .nil
 | [],_ :: _,h,_=>by simp at h
 | _ :: _,[],h,_=>by simp at h
 | x :: xs,u :: us,h,k => .cons (k 0 x u rfl rfl) (ao5 (by simpa using h) fun i v w a b=>k (i+1) v w (by simpa using a) (by simpa using b))
theorem an1 (prog:Program) (w:World) (A:Around) {bs:List Bool} {us:List Value} (r:Vals (bs.map V.bl) us):TruthOf prog w A (fun i v=>us.toArray[i]?=some v) (fun i=>bs.getD i false):=by
 intro i v s Q E c h
 have a:us[i]?=some v:=by simpa using c
 have hi:i < us.length:=(aA1.mp a).1
 have hb:i < bs.length:=by have:=r.length;simp at this;omega
 obtain ⟨u,b,d⟩:=r.get (i:=i) (x:=.bl bs[i]) (by simp [hb])
 rw [a] at b;cases b
 cases (show v=Value.bool bs[i] from d)
 have e:bs.getD i false=bs[i]:=by simp [List.getD,hb]
 have h':Q (bs.getD i false) s:=h
 rw [e] at h'
 exact aK3 h'
section
variable {X:Cx}
theorem asb (bs:List Bool):((List.range bs.length).all fun i=>bs.getD i false)=bs.all id:=by
 rw [aH8,aF4,aF4]
 constructor
 ·intro h b hb
  obtain ⟨i,hi,e⟩:=aH6.mp hb
  have:=h i (aB9.mpr hi)
  simp [List.getD,hi,e] at this
  exact this
 ·intro h i hi
  have a:=aB9.mp hi
  have:=h bs[i] (aF1 a)
  simp [List.getD,a];exact this
def rAll (K:Frag):List V->Hp->VK->Prop:=fun xs H Q=>∃ (a:Addr) (bs:List Bool),xs=[.ref a]/\SqL K H a (bs.map V.bl)/\Q (.bl (bs.all id)) H
theorem aj9 (g:X.calm=true):abd X (.builtin "all") (rAll X.K):=by
 intro pins s σ H xs us Q I r h
 obtain ⟨a,bs,rfl,ha,q⟩:=h
 obtain ⟨u,rfl,i⟩:=ac7 r
 cases i
 obtain ⟨its,d,c,_⟩:=I.list ha
 have f:a < s.heap.objs.size:=by obtain ⟨o,n,e,_⟩:=c;exact aJ2 e
 have hz:its.toArray.size=bs.length:=by have:=d.length;simp at this;simp [this]
 refine call_all_walk (aK4 c.isList ⟨_,[s.heap.objs.size,a],_,_,_,_,_,rfl,Walks.list (A:=X.A.in1) (I.ok.hd g) _ a (aB6 f) its.toArray,⟨⟨_,aJ3 _ rfl,rfl,rfl⟩,c.isList.push _⟩,an1 _ _ _ d,fun l j kp=>?_⟩)
 rw [hz,asb]
 refine ⟨.bl _,H,I.kept fun b o e=>kp b o (fun z=>?_) (aJ1 _ e),rfl,q⟩
 exact absurd (aJ2 e) (by rw [aC2.mp z];exact aG4 _)
def amr (K:Frag):List V->Hp->VK->Prop:=fun xs H Q=>∃ p ys,xs=[.ref p]/\(SqL K H p ys\/SqT K H p ys)/\∀ l,H l=none->Q (.ref l) (upd H l (.lst ys))
theorem ail:abd X (.type "list") (amr X.K):=alt
def asc (ta:TA):TE:=fun σ H Q=>ta σ H fun vs H1=>∃ j:Int,vs=[.int j]/\0<=j/\j<=1000000/\∀ l,H1 l=none->Q (.ref l) (upd H1 l (.lst ((List.range j.toNat).map fun (i:Nat)=>V.int (i:Int))))
theorem au0 {a:Expr} {z:TA} {C p2 x d:Pos} (N:Gl X "list") (hm:X.mg "list" = none) (r:Gl X "range") (w:X.mg "range" = none) (L:X.calm=true) (ha:PA X [a] z) (hs:starEach [a] X.env=[(false,eval a X.env)]:=by rfl)
  (m:starEach [.Call (.Name "range" p2) [a] [] d] X.env=[(false,eval (.Call (.Name "range" p2) [a] [] d) X.env)]:=by rfl):PE X (.Call (.Name "list" C) [.Call (.Name "range" p2) [a] [] d] [] x) (asc z):=by
 intro pins s σ H Q I h
 refine Call_ (ado I N hm agk (PyProof.Rows.callWith_type1 ?_ m rfl))
 rw [m]
 refine Calls.spliced_cons (Call_ (ado I r w boot_range (PyProof.Rows.callWith_type1 (thn (ha d pins s σ H _ I h) fun us s1 ⟨vs,R,p,A,j,D,O,P,q⟩=>?_) hs rfl)))
 subst D
 obtain ⟨u,rfl,t,rfl⟩:=ac7 A
 refine call_range_1 (Calls.spliced_nil ?_)
 have M:IsRange (s1.heap.push { cls:=.type "range",data:=.fields #[.int 0 s1.toks,.int j t,.int 1 (s1.toks+1)] }) s1.heap.objs.size 0 j 1 s1.toks t (s1.toks+1):=aJ3 _ rfl
 have hn:Builtin.Range.rangeSize 0 j 1=((j.toNat:Nat):Int):=by rw [rangeSize_one];split <;> omega
 refine call_list_range (s:={ s1 with heap:=s1.heap.push { cls:=.type "range",data:=.fields #[.int 0 s1.toks,.int j t,.int 1 (s1.toks+1)] },toks:=s1.toks+1+1 }) (p.ok.hd L) M (small_one (by omega) (by omega) (by omega) (by omega)) hn (by omega) fun K E l c kp F items=>?_
 have k2:∀ b o,s1.heap.get? b=some o->K.get? b=some o:=fun b o e=>kp b o (aJ1 _ e)
 have f:s1.heap.objs.size<=(s1.heap.push { cls:=.type "range",data:=.fields #[.int 0 s1.toks,.int j t,.int 1 (s1.toks+1)] }).objs.size:=by rw [aK1];exact Nat.le_succ _
 refine ⟨.ref _,_,p.laid (t':=E) (o:=.lst ((List.range j.toNat).map fun (i:Nat)=>V.int (i:Int))) k2 f ?_,rfl,q _ (p.hok.fresh f)⟩
 refine ⟨by rw [aA3,aE1];exact aG5 (VL.big (by omega)),l.toList,c,?_,by simpa using F⟩
 obtain ⟨J,y⟩:=items
 refine ao5 (by simp [J]) fun i v u n G=>?_
 have g:l[i]?=some u:=by simpa using G
 obtain ⟨t',B⟩:=y i u g
 rw [aA5] at n
 have hi:i < j.toNat:=by
  have:=(Array.getElem?_eq_some_iff.mp g).1
  omega
 rw [aA0 (by simpa using hi)] at n
 simp at n
 subst n
 exact ⟨t',by rw [B];simp⟩
end
section
variable {X:Cx} {pins:List (Addr × Obj)} {σ:St} {H:Hp} {s:Shared}
end
section
variable {X:Cx} {tg:Expr}
end
end L2
namespace VL
open PySem PySem.Spec L2
def zipD (xs ys:List PyData):List PyData:=(xs.zip ys).map fun p => .tuple [p.1,p.2]
theorem au1 {xs ys:List PyData} {i:Nat} {d:PyData} (h:(zipD xs ys)[i]?=some d):∃ x y,xs[i]?=some x/\ys[i]?=some y/\d=.tuple [x,y]:=by
 unfold zipD at h
 rw [aA5] at h
 cases e:(xs.zip ys)[i]? with
 | none=>rw [e] at h;cases h
 | some p =>
  rw [e] at h
  cases h
  obtain ⟨a,b⟩:=List.getElem?_zip_eq_some.mp e
  exact ⟨p.1,p.2,a,b,rfl⟩
theorem Out.tup2 {G H:Hp} {p:Addr} {x y:V} {d e:PyData} (g:Same G H) (h:H p=none) (b:Rp G x d) (a:Rp G y e):Out G H (.ref p) (upd G p (.tup [x,y])) (upd H p (.tup [x,y])) (.st (.tuple [d,e])) (fun _=>False):=Out.newT g h (.cons b (.cons a .nil))
section
variable {B:Bs} {env:En} {QI:List PyData->En->Prop} {QO:Sl->En->Prop} {Q':PyData->En->Prop} {K:Frag} {i:Nat} {ta:TA}
theorem axs (h:EvA B ta env fun vs e=>∃ xs ys,vs=[.list xs,.list ys]/\QI (zipD xs ys) e):EvI B (iZip K ta) env QI:=fun σ G H F R I k =>
 h σ G H F _ I fun vs o L z ds c j Q n M=>by
  obtain ⟨xs,ys,O,N⟩:=M
  subst O
  cases n with
  | cons r t =>
   cases t with
   | cons r2 t =>
    cases t
    cases r with
    | @lst a us _ ha rs =>
     cases r2 with
     | @lst b ws _ hb rs2 =>
      have D:(zipD xs ys).length=min us.length ws.length:=by simp [zipD,rs.length,rs2.length]
      refine ⟨a,b,us,ws,rfl,SqL.of (j.gh _ _ ha),SqL.of (j.gh _ _ hb),k _ o L z _ c j Q ⟨fun i G' H' g h hi=>?_,fun i G' H' g h hi=>?_,fun i G' H' x H'' d g h ft hd y=>?_⟩ N⟩
      ·have E:i < us.length:=by omega
       have J:i < ws.length:=by omega
       exact ⟨us,ws,us[i],ws[i],SqL.of (h _ _ (g _ _ ha)),SqL.of (h _ _ (g _ _ hb)),aA0 E,aA0 J⟩
      ·exact ⟨us,ws,SqL.of (h _ _ (g _ _ ha)),SqL.of (h _ _ (g _ _ hb)),by rw [← D];exact hi.symm⟩
      ·obtain ⟨p,v,w,rfl,A,rfl,T,q⟩:=y
       obtain ⟨dx,U,S,C,rfl⟩:=au1 hd
       obtain ⟨u,s,P⟩:=rs.get S
       obtain ⟨W,l,f⟩:=rs2.get C
       have c:=T us (SqL.of (h _ _ (g _ _ ha)))
       have m:=q ws (SqL.of (h _ _ (g _ _ hb)))
       rw [s] at c;cases c
       rw [l] at m;cases m
       exact ⟨_,Out.tup2 h A (P.same g) (f.same g)⟩
@[reducible] def tiD (ns:List Int):PyData:=.tuple (ns.map .int)
def lexS (pss:List (List Int)):Prop:=pss.Pairwise fun x y=>HT.lexLt y x=false
theorem ahi {G H:Hp} (ft:FT G H):∀ {vs:List V},(∀ v∈vs,TupI H v)->Rps G vs ((vs.map (kH H)).map tiD)
 | [],_ => .nil
 | v :: vs,h=>by
  obtain ⟨t,ns,rfl,e,_⟩:=h v aB8
  rw [aD1,aD1,aib e]
  have:(ns.map V.int)=(ns.map (fun i=>(Sum.inl i:Key))).map kV:=by rw [aE0];rfl
  refine .cons (.tup ?_ (Rps.ints ns)) (ahi ft fun u a=>h u (aB5 _ a))
  rw [this];exact ft t _ (by rw [← this];exact e)
theorem aev {G H:Hp} (gh:Same G H):∀ {vs:List V} {pss:List (List Int)},Rps G vs (pss.map tiD)->(∀ ns∈pss,ns ≠ [])->(∀ v∈vs,TupI H v)/\vs.map (kH H)=pss
 | _,[],.nil,_=>⟨fun v d=>by simp at d,rfl⟩
 | v :: vs,ns :: pss,.cons r t,hn=>by
  obtain ⟨b,f⟩:=aev gh t fun c hm=>hn c (aB5 _ hm)
  cases r with
  | tup h rs =>
   have:=Rps.ints_inv rs
   subst this
   have e:=gh _ _ h
   refine ⟨fun u a=>?_,by rw [aD1,aib e,f]⟩
   rcases aA9.mp a with rfl | a
   ·exact ⟨_,ns,rfl,e,hn ns aB8⟩
   ·exact b u a
theorem asd {pss:List (List Int)} (hn:∀ ns∈pss,ns ≠ []) (h:EvA B ta env fun ds e=>ds=[.list (pss.map tiD)]/\∀ b:List (List Int),b.Perm pss->lexS b->QO (.own (OL (b.map tiD))) e):EvO B (tCB (aic K) ta) env QO:=fun σ G H F Q I k =>
 h σ G H F _ I fun vs y g m ds l c w j n=>by
  obtain ⟨s,q⟩:=n
  subst s
  cases j with
  | cons r t =>
   cases t
   cases r with
   | @lst a us _ ha rs =>
    obtain ⟨d,i⟩:=aev c.gh rs hn
    refine ⟨a,us,rfl,SqL.of (c.gh _ _ ha),d,fun ws p f hs hf=>?_⟩
    have u:∀ v∈ws,TupI g v:=fun v x=>d v (f.mem_iff.mp x)
    have o:=Out.newL c.gh hf (ahi c.ft u)
    refine k _ _ _ m _ _ l (c.out o).1 (w.trans o.gg) (c.out o).2 (q _ ?_ ?_)
    ·have:=f.map (kH g);rw [i] at this;exact this
    ·unfold lexS;rw [aG1];exact hs
end
section
variable {B:Bs} {env:En} {QO:Sl->En->Prop} {Q':PyData->En->Prop} {K:Frag} {i:Nat} {ta:TA} {R:Sl->Prop}
theorem Rps.bools_inv {G:Hp}:∀ {bs:List Bool} {vs:List V},Rps G vs (bs.map PyData.bool)->vs=bs.map V.bl
 | [],_,.nil=>rfl
 | b :: bs,_,.cons r t=>by
  cases r
  rw [Rps.bools_inv t];rfl
theorem ao6 {bs:List Bool} (h:R (.st (.bool (bs.all id)))):OpA (rAll K) [.list (bs.map .bool)] R:=fun G H vs Q gh rs k=>by
 cases rs with
 | cons r t =>
  cases t
  cases r with
  | lst ha ra =>
   have:=Rps.bools_inv ra
   subst this
   exact ⟨_,bs,rfl,SqL.of (gh _ _ ha),k _ _ _ _ _ (Out.refl gh (.bl _)) h⟩
theorem au2 {ds:List PyData} (h:R (.own (OL ds))):OpA (amr K) [.list ds] R:=fun G H vs Q gh rs k=>by
 cases rs with
 | cons r t =>
  cases t
  cases r with
  | lst ha ra=>exact ⟨_,_,rfl,.inl (SqL.of (gh _ _ ha)),fun p a=>k _ _ _ _ _ (Out.newL gh a ra) h⟩
theorem ase {G:Hp} (n:Nat):Rps G ((List.range n).map fun (i:Nat)=>V.int (i:Int)) (rngD 0 n):=by
 unfold rngD
 refine amq (by simp) fun i v d a hd=>?_
 rw [aA5] at a hd
 cases e:(List.range n)[i]? with
 | none=>rw [e] at a;cases a
 | some m=>rw [e] at a hd;cases a;cases hd;show Rp G (.int (m:Int)) (.int (0+(m:Int)));rw [Int.zero_add];exact .int _
theorem asf (h:EvA B ta env fun ds e=>∃ j:Int,ds=[.int j]/\0<=j/\j<=1000000/\QO (.own (OL (rngD 0 j.toNat))) e):EvO B (asc ta) env QO:=fun σ G H F Q I k =>
 h σ G H F _ I fun vs r s g ds f a q d l=>by
  obtain ⟨j,n,b,c,m⟩:=l
  subst n
  obtain rfl:vs=[V.int j]:=Rps.ints_inv (ns:=[j]) d
  refine ⟨j,rfl,b,c,fun p i=>?_⟩
  have o:=Out.newL a.gh i (ase j.toNat)
  exact k _ _ _ g _ _ f (a.out o).1 (q.trans o.gg) (a.out o).2 m
end
section
variable {κ:Type} [DecidableEq κ] {α:Type}
def valD (es:List (κ × α)) (k : κ):Option α:=(es.find? fun e=>decide (e.1=k)).map (·.2)
def putD (es:List (κ × α)) (k : κ) (d : α):List (κ × α):=if (es.any fun e=>decide (e.1=k))=true then es.map (fun e=>if e.1=k then (e.1,d) else e) else es ++ [(k,d)]
end
theorem RpK.val {G:Hp} {k:Key}:∀ {kvs:List (Key × V)} {es:List (Key × PyData)},RpK G kvs es->(valD es k=none->valV kvs k=none)/\∀ d,valD es k=some d->∃ v,valV kvs k=some v/\Rp G v d
 | _,_,.nil=>⟨fun _=>rfl,fun d h=>by cases h⟩
 | _,_,.cons (k:=k') r t=>by
  obtain ⟨a,f⟩:=RpK.val (k:=k) t
  by_cases e:k'=k
  ·refine ⟨fun h=>by simp [valD,e] at h,fun d h=>?_⟩
   simp [valD,e] at h
   subst h
   exact ⟨_,by simp [valV,e],r⟩
  ·refine ⟨fun h=>?_,fun d h=>?_⟩
   ·simp [valV,e];simp [valD,e] at h
    have:=a (by simp [valD];exact h)
    simpa [valV] using this
   ·obtain ⟨v,b,c⟩:=f d (by simpa [valD,e] using h)
    exact ⟨v,by simpa [valV,e] using b,c⟩
section
variable {B:Bs} {env:En} {QO:Sl->En->Prop} {Q':PyData->En->Prop} {D':VEnds} {i:Nat} {te ty tv td:TE}
theorem aka (q:QO (.own (OD [])) env):EvO B aro env QO:=fun σ G H F Q I k p a=>by
 have o:=Out.newD (ds:=[]) I.gh a .nil
 exact k _ _ _ F _ _ env (I.out o).1 o.gg (I.out o).2 q
end
section
variable {B:Bs} {env:En} {QO:Sl->En->Prop} {Q':PyData->En->Prop} {QE:En->Prop} {D':VEnds} {K:Frag} {i:Nat} {ta:TA}
theorem asg (h:EvA B ta env fun ds e=>∃ ns:List Int,ds=[.list (ns.map .int)]/\ns.length < 64/\∀ b:List Int,b.Perm ns->b.Pairwise (·<=·)->QO (.own (OL (b.map .int))) e):EvO B (tCB (al3 K) ta) env QO:=fun σ G H F Q I k =>
 h σ G H F _ I fun vs s u i ds f c q d l=>by
  obtain ⟨ns,n,j,m⟩:=l
  subst n
  cases d with
  | cons r t =>
   cases t
   cases r with
   | @lst a us _ ha rs =>
    have:=Rps.ints_inv rs
    subst this
    refine ⟨a,ns,rfl,SqL.of (c.gh _ _ ha),j,fun b p g hs hf=>?_⟩
    have o:=Out.newL c.gh hf (Rps.ints b)
    exact k _ _ _ i _ _ f (c.out o).1 (q.trans o.gg) (c.out o).2 (m _ g hs)
theorem a1x {xs ys:List PyData} {R:List PyData->List PyData->Prop} (h:R xs ys):∃ us vs,[PyData.list xs,.list ys]=[.list us,.list vs]/\R us vs:=⟨xs,ys,rfl,h⟩
theorem axt {j:Int} {R:Int->Prop} (b:0<=j) (a:j<=1000000) (h:R j):∃ i:Int,[PyData.int j]=[.int i]/\0<=i/\i<=1000000/\R i:=⟨j,rfl,b,a,h⟩
end
def ltP (p q:Int × Int):Prop:=p.1 < q.1\/(p.1=q.1/\p.2 < q.2)
@[reducible] def p2 (p:Int × Int):List Int:=[p.1,p.2]
theorem lex2 (p q:Int × Int):HT.lexLt (p2 p) (p2 q)=true ↔ ltP p q:=by
 obtain ⟨a,b⟩:=p
 obtain ⟨c,d⟩:=q
 simp [p2,HT.lexLt,ltP]
 split <;> omega
theorem aqg {a:List (List Int)} {ps:List (Int × Int)} (h:a.Perm (ps.map p2)):∃ b:List (Int × Int),a=b.map p2/\b.Perm ps:=by
 refine ⟨a.map fun l=>(l.getD 0 0,l.getD 1 0),?_,?_⟩
 ·rw [aE0]
  symm
  conv=>rhs;rw [← List.map_id a]
  apply aE8
  intro l c
  obtain ⟨p,_,rfl⟩:=aB7.mp (h.mem_iff.mp c)
  rfl
 ·have:=h.map fun l=>(l.getD 0 0,l.getD 1 0)
  rw [aE0] at this
  have e:((fun l:List Int=>(l.getD 0 0,l.getD 1 0)) ∘ p2)=id:=by funext p;rfl
  rw [e,List.map_id] at this
  exact this
def Rise (es:List (Int × Int)):Prop:=es.Pairwise ltP
theorem ags (p:Int × Int):¬ ltP p p:=by unfold ltP;omega
theorem axu (p q:Int × Int):ltP p q\/p=q\/ltP q p:=by
 obtain ⟨a,b⟩:=p
 obtain ⟨c,d⟩:=q
 unfold ltP
 simp only [Prod.mk.injEq]
 omega
theorem ash {p q r:Int × Int} (h:ltP p q) (g:ltP q r):ltP p r:=by unfold ltP at *;omega
theorem ao7 {a ps:List (Int × Int)} (d:a.Perm ps) (hn:ps.Nodup) (hs:lexS (a.map p2)):Rise a:=by
 have b:a.Nodup:=d.nodup_iff.mpr hn
 unfold lexS at hs
 rw [aG1] at hs
 unfold Rise
 refine (List.Pairwise.and hs b).imp fun {p q} h=>?_
 have c:¬ ltP q p:=fun z=>by rw [(lex2 q p).mpr z] at h;exact absurd h.1 (by simp)
 rcases axu p q with z | z | z
 ·exact z
 ·exact absurd z h.2
 ·exact absurd z c
theorem Rise.nodup {es:List (Int × Int)} (h:Rise es):es.Nodup:=h.imp fun {p q} z (e:p=q)=>ags q (by rw [e] at z;exact z)
structure WebOk (n:Int) (es:List (Int × Int)):Prop where
 lo:1<=n
 hi:n<=60
 inn:∀ p∈es,0<=p.1/\p.1 < p.2/\p.2 < n
 rise:Rise es
theorem aeq {n:Nat} {es:List (Int × Int)} (hn:es.Nodup) (hi:∀ p∈es,0<=p.1/\p.1 < (n:Int)/\0<=p.2/\p.2 < (n:Int)):es.length<=n * n:=by
 have h:(es.map fun (p:Int × Int)=>p.1 * (n:Int)+p.2).Nodup:=by
  unfold List.Nodup
  rw [aG1]
  refine aI0 ?_ hn
  intro p q d g c e
  have a:=hi p d
  have b:=hi q g
  apply c
  have f:p.1=q.1:=by
   rcases Int.lt_trichotomy p.1 q.1 with z | z | z
   ·have:(p.1+1) * n<=q.1 * n:=Int.mul_le_mul_of_nonneg_right (by omega) (by omega)
    rw [Int.add_mul] at this;omega
   ·exact z
   ·have:(q.1+1) * n<=p.1 * n:=Int.mul_le_mul_of_nonneg_right (by omega) (by omega)
    rw [Int.add_mul] at this;omega
  rw [f] at e
  exact Prod.ext f (by omega)
 have:=L2.few_places (n * n) _ h fun v j=>by
  obtain ⟨p,d,rfl⟩:=aB7.mp j
  have a:=hi p d
  have l:0<=p.1 * (n:Int):=Int.mul_nonneg a.1 (by omega)
  have i:(p.1+1) * (n:Int)<=n * n:=Int.mul_le_mul_of_nonneg_right (by omega) (by omega)
  rw [Int.add_mul] at i
  push_cast
  omega
 simpa using this
def kE (ps:List (Int × Int)):List (List Key × PyData):=ps.map fun p=>([Sum.inl p.1,Sum.inl p.2],.bool true)
def addP (ps:List (Int × Int)) (p:Int × Int):List (Int × Int):=if p∈ps then ps else ps ++ [p]
theorem aim (ps:List (Int × Int)):(ps.map p2).map tiD=ps.map prD:=by rw [aE0];rfl
theorem awa {ps:List (Int × Int)}:∀ ns∈ps.map p2,ns ≠ []:=fun ns h=>by
 obtain ⟨p,_,rfl⟩:=aB7.mp h
 simp
section
variable {B:Bs} {env:En} {QO:Sl->En->Prop} {K:Frag} {i:Nat} {ta:TA}
theorem aer {ps:List (Int × Int)} (h:EvA B ta env fun ds e=>ds=[.list (ps.map prD)]/\∀ a:List (Int × Int),a.Perm ps->lexS (a.map p2)->QO (.own (OL (a.map prD))) e):EvO B (tCB (aic K) ta) env QO :=
 asd (pss:=ps.map p2) awa fun σ G H F Q I k=>h σ G H F Q I fun vs G' H' F' ds e i g r ⟨c,q⟩=>k vs G' H' F' ds e i g r ⟨by rw [aim];exact c,fun f d hs=>by
  obtain ⟨a,rfl,b⟩:=aqg d
  rw [aim];exact q a b hs⟩
end
def OW (d:PyData) (ds:List PyData):Own where
 P:=fun G H v F=>∃ t l u vs,v=.ref t/\H t=some (.tup [u,.ref l])/\Rp G u d/\H l=some (.lst vs)/\Rps G vs ds/\∀ b,F b ↔ b=t\/b=l
 mono:=fun ⟨t,l,u,vs,e,h1,r1,h2,r2,f⟩ g hh=>⟨t,l,u,vs,e,hh t _ ((f t).mpr (.inl rfl)) h1,r1.same g,hh l _ ((f l).mpr (.inr rfl)) h2,r2.same g,f⟩
 dom:=fun ⟨t,l,u,vs,e,h1,r1,h2,r2,f⟩ b z=>by
  rcases (f b).mp z with rfl | rfl
  ·exact ⟨_,h1⟩
  ·exact ⟨_,h2⟩
theorem asi {d:PyData} {ds:List PyData}:Frz (OW d ds) (.tuple [d,.list ds]):=fun G H v F ⟨t,l,u,vs,e,a,c,b,h,f⟩ n g=>by
 subst e
 exact .tup (by rw [ad6 ((f t).mpr (.inl rfl))];exact a) (.cons (c.same (abk n)) (.cons (.lst (by rw [ad6 ((f l).mpr (.inr rfl))];exact b) (h.same (abk n))) .nil))
theorem a1y {d:PyData} {ds:List PyData} {R:PyData->Prop} (h:R (.tuple [d,.list ds])):FQ (.own (OW d ds)) R:=⟨_,asi,h⟩
section
variable {B:Bs} {env:En} {QO:Sl->En->Prop} {Q':PyData->En->Prop} {K:Frag} {i j:Nat} {ta te:TE}
theorem au3 {u:V} {l:Addr} {ks:List Key}:HO.tup [u,.ref l] ≠ .tup (ks.map kV):=by
 intro z
 injection z with z
 match ks,z with
 | [],z=>cases z
 | [_],z=>cases z
 | [_,k],z =>
  simp at z
  cases k <;> simp [kV] at z
 | _ :: _ :: _ :: _,z=>simp at z
theorem au4 {r:List PyData} (L:env[j]?=some (some (.own (OL r)))) (h:Ev B ta env fun d g=>∃ ds,g[j]?=some (some (.own (OL ds)))/\QO (.own (OW d ds)) (g.set j none)):EvO B (tTup (aa2 ta (aa2 (tVar j) tNil))) env QO:=fun σ G H F Q I k =>
 h σ G H F _ I fun v t A i d g c K u E=>by
  obtain ⟨ds,x,q⟩:=E
  obtain ⟨w,y,⟨l,vs,rfl,n,rs,hf⟩,hb⟩:=c.sl j _ x
  refine ⟨_,y,⟨by show (2:Nat)<=sizeLine;decide,fun p f=>?_⟩⟩
  have s:i j l:=(hf l).mpr rfl
  have pl:p ≠ l:=(aao n f).symm
  have D:=c.drop j
  have C:∀ m a,(a=p\/a=l)->¬ putF i j (fun _=>False) m a:=fun m a ha z=>by
   by_cases hm:m=j
   ·subst hm;exact putF_same.mp z
   ·rw [aa8 hm] at z
    rcases ha with rfl | rfl
    ·exact c.no_f f m z
    ·exact hm (c.fd m j a z s)
  have J:VI B t (upd A p (.tup [v,.ref l])) σ (g.set j none) (putF i j fun _=>False):=D.grow (Same.refl _) (c.gh.trans (abj f)) (abj f) (fun a o e => .inl e) fun a ks e=>by
   by_cases z:a=p
   ·subst z;rw [aah] at e;exact absurd (aC6 e) au3
   ·rw [aae z] at e;exact c.ft a ks e
  refine k _ t _ _ (fun a=>a=p\/a=l) (.own (OW d ds)) _ J K ⟨⟨p,l,v,vs,rfl,aah,u,by rw [aae pl.symm];exact n,rs,fun b=>Iff.rfl⟩,fun a z=>?_,fun a z=>?_,fun a z=>?_,fun m a z=>C m a z⟩ q
  ·rcases z with rfl | rfl
   ·exact c.no_b f
   ·exact hb a s
  ·rcases z with rfl | rfl
   ·exact c.no_g f
   ·exact c.fg j a s
  ·rcases z with rfl | rfl
   ·exact ⟨_,aah⟩
   ·exact ⟨_,by rw [aae pl.symm];exact n⟩
theorem x_ow {ds:List PyData} {a:En} {R:List PyData->Prop} (e:a[j]?=some (some (.own (OL ds)))) (q:R ds):∃ ds,a[j]?=some (some (.own (OL ds)))/\R ds:=⟨ds,e,q⟩
end
section
variable {B:Bs} {env:En} {Q':PyData->En->Prop} {D':VEnds} {i:Nat} {ty tv:TE}
end
section
variable {R:Sl->Prop} {K:Frag}
theorem axv {p q:Int × Int} (h:R (.st (.bool (HT.lexLt (p2 p) (p2 q))))):Op2 (rLtT K) (prD p) (prD q) R:=fun G H f g Q gh d c k=>by
 cases d with
 | tup ha ra =>
  cases c with
  | tup hb rb =>
   have b:=Rps.ints_inv (ns:=p2 p) ra
   have a:=Rps.ints_inv (ns:=p2 q) rb
   subst b a
   exact ⟨_,_,p2 p,p2 q,rfl,rfl,SqT.of (gh _ _ ha),SqT.of (gh _ _ hb),k _ _ _ _ _ (Out.refl gh (.bl _)) h⟩
end
theorem akb (p:Int × Int):aaq (prD p)=true:=rfl
theorem afk (ps:List (Int × Int)):plainDs (ps.map prD)=true:=by
 rw [ag4]
 intro d hd
 obtain ⟨p,_,rfl⟩:=aB7.mp hd
 rfl
theorem ao8 (p q:Int × Int):PyData.eqv (prD p) (prD q)=decide (p=q):=by
 rw [aH8,af1 _ _ rfl rfl,decide_eq_true_iff]
 constructor
 ·intro h
  simp [prD] at h
  exact Prod.ext h.1 h.2
 ·rintro rfl;rfl
theorem ao9 (ps:List (Int × Int)) (q:Int × Int):((ps.map prD).any fun z=>PyData.eqv z (prD q))=decide (q∈ps):=by
 rw [aH8,List.any_eq_true,decide_eq_true_iff]
 constructor
 ·rintro ⟨d,hd,e⟩
  obtain ⟨p,a,rfl⟩:=aB7.mp hd
  rw [ao8] at e
  rw [← of_decide_eq_true e];exact a
 ·intro h
  exact ⟨prD q,aB7.mpr ⟨q,h,rfl⟩,by rw [ao8];exact aD8 rfl⟩
theorem ag6 {ds:List PyData} {m:Nat} (h:∀ d∈ds,d.depth<=m):PyData.depthAll ds<=m:=by
 induction ds with
 | nil=>simp [PyData.depthAll]
 | cons d ds ih =>
  simp only [PyData.depthAll]
  exact Nat.max_le.mpr ⟨h d aB8,ih fun e a=>h e (aB5 _ a)⟩
theorem af6 (p:Int × Int):(prD p).depth<=1:=by simp [prD,PyData.depth,PyData.depthAll]
theorem au5 {d:PyData} (h:aaq d=true):PyData.eqv d d=true:=(af1 d d h h).mpr rfl
end VL
namespace VL
theorem ams {α:Type} (R : α->α->Prop) (tr:∀ {a b c},R a b->R b c->R a c) {xs:List α}:xs.Pairwise R ↔ ∀ i (h:i+1 < xs.length),R (xs[i]'(by omega)) xs[i+1]:=by
 constructor
 ·intro h i hi
  exact aG7.mp h i (i+1) (by omega) hi (by omega)
 ·intro h
  rw [aG7]
  intro i j hi d f
  induction j with
  | zero=>omega
  | succ j ih =>
   by_cases e:i=j
   ·subst e;exact h i d
   ·exact tr (ih (by omega) (by omega)) (h j d)
end VL
namespace VL
open PySem PySem.Spec L2
section
variable {B:Bs} {env:En} {Q':PyData->En->Prop} {K:Frag} {E:XK} {i:Nat}
theorem au6 {f:VP} {t:TA} {y:Own} (C:Has env i y) (h:EvA B t env fun ds g=>∃ A d,Has g i A/\Frz A d/\f (.st d :: ds.map Sl.st) fun s=>∃ d',s=.st d'/\agq d'=true/\Q' d' g):Ev B (abf (spP K f) [] E (aa2 (tVar i) t)) env Q':=fun σ G H F Q I k=>by
 unfold abf
 simp only [aE9]
 obtain ⟨v,l,_⟩:=I.has C
 refine ⟨v,l,h σ G H F _ I fun vs x n m ds g b M r ⟨A,d,L,w,J⟩=>?_⟩
 obtain ⟨N,c,ap⟩:=b.has L
 rw [l] at c;cases c
 have j:=abk (H:=n) (b.fg i)
 refine ⟨jn x n (m i),_,_,aqd b.gh,fun a ks e=>j _ _ (b.ft a ks e),.cons (s:=.st d) (w _ _ _ _ ap (b.fg i) b.gh) (ArgsOk.of (r.same j)),J,fun s q u G' H' Fv o=>?_⟩
 obtain ⟨d',rfl,hs,q⟩:=q
 obtain ⟨D,z,p⟩:=b.moment j o
 exact k u D H' m d' g p (M.trans z) (ao0 o.ok.1 hs) q
end
end VL
namespace VL
open PySem L2
theorem a1z {B:Bs} {t:TS} {D':VEnds} {e:En} (h:EvS B t D' e):EvS B t D' e:=h
theorem a10 {B:Bs} {g:TG} {s:Sl} {e:En} {Q:En->Prop} (h:EvG B g s e Q):EvG B g s e Q:=h
theorem a0l {B:Bs} {g:TGs} {s:List PyData} {e:En} {Q:En->Prop} (h:EvGs B g s e Q):EvGs B g s e Q:=h
theorem g_Ev {B:Bs} {t:TE} {e:En} {Q:PyData->En->Prop} (h:Ev B t e Q):Ev B t e Q:=h
theorem a11 {B:Bs} {t:TE} {e:En} {Q:Sl->En->Prop} (h:EvO B t e Q):EvO B t e Q:=h
theorem a12 {B:Bs} {t:TT} {e:En} {Q:Bool->En->Prop} (h:EvT B t e Q):EvT B t e Q:=h
theorem a13 {B:Bs} {t:TA} {e:En} {Q:List PyData->En->Prop} (h:EvA B t e Q):EvA B t e Q:=h
theorem a14 {B:Bs} {t:TI} {e:En} {Q:List PyData->En->Prop} (h:EvI B t e Q):EvI B t e Q:=h
theorem a15 {r:R2} {x y:PyData} {R:Sl->Prop} (h:Op2 r x y R):Op2 r x y R:=h
theorem a16 {r:V->Hp->VK->Prop} {x:PyData} {R:Sl->Prop} (h:Op1 r x R):Op1 r x R:=h
theorem a17 {r:List V->Hp->VK->Prop} {x:List PyData} {R:Sl->Prop} (h:OpA r x R):OpA r x R:=h
theorem g_FQ {s:Sl} {R:PyData->Prop} (h:FQ s R):FQ s R:=h
theorem axw {ds:List PyData} {R:List PyData->Prop} (h:alk ds R):alk ds R:=h
theorem axx {ds:List PyData} {R:List PyData->Prop} (h:alm ds R):alm ds R:=h
structure PsOk (n:Int) (ps:List (Int × Int)):Prop where
 nd:ps.Nodup
 inn:∀ p∈ps,0<=p.1/\p.1 < p.2/\p.2 < n
def Tr (n:Int) (ps:List (Int × Int)):Prop:=∀ k,1<=k->k < n->∃ h,0<=h/\h < k/\(h,k)∈ps
def Conn (n:Int) (T:Int->Int->Prop):Prop:=∀ u v,0<=u->u < n->0<=v->v < n->∃ k,Gr.Walk T u k v
theorem Tr.conn {n:Int} {ps:List (Int × Int)} (h:Tr n ps):Conn n (Tied ps):=by
 have d:∀ (m:Nat) (v:Int),v=m->v < n->∃ k,Gr.Walk (Tied ps) 0 k v:=by
  intro m
  induction m using Nat.strongRecOn with
  | ind m ih =>
   intro v i hn
   by_cases h0:m=0
   ·subst h0;have:v=0:=by omega
    subst this;exact ⟨0,.refl⟩
   ·obtain ⟨x,a,b,c⟩:=h v (by omega) hn
    obtain ⟨k,w⟩:=ih x.toNat (by omega) x (by omega) (by omega)
    exact ⟨k+1,.step w (.inl c)⟩
 intro u v l f v0 g
 obtain ⟨k,w⟩:=d u.toNat u (by omega) f
 obtain ⟨j,x⟩:=d v.toNat v (by omega) g
 exact ⟨k+j,(w.rev fun _ _ t=>t.symm).app x⟩
theorem Conn.joined {n:Int} {es:List (Int × Int)} (h:Conn n (Tied es)) (b:0 < n):Joined n es:=fun v v0 a=>by
 obtain ⟨k,w⟩:=h 0 v (by omega) (by omega) v0 a
 obtain ⟨d,_,hd⟩:=Gr.Dist.of_walk w
 exact ⟨d,hd⟩
theorem Joined.conn {n:Int} {es:List (Int × Int)} (h:Joined n es):Conn n (Tied es):=fun u v c a v0 f=>by
 obtain ⟨d,hd⟩:=h u c a
 obtain ⟨e,b⟩:=h v v0 f
 exact ⟨d+e,(hd.1.rev fun _ _ t=>t.symm).app b.1⟩
theorem Conn.mono {n:Int} {T T':Int->Int->Prop} (h:Conn n T) (g:∀ u v,T u v->T' u v):Conn n T':=fun u v c a v0 d=>by
 obtain ⟨k,w⟩:=h u v c a v0 d
 exact ⟨k,w.rec .refl fun _ t b => .step b (g _ _ t)⟩
def Order (n:Int) (row:List Int):Prop:=row.Perm ((List.range n.toNat).map fun (i:Nat)=>(i:Int))
theorem Order.len {n:Int} {row:List Int} (h:Order n row):row.length=n.toNat:=by have:=h.length_eq;simpa using this
theorem Order.nodup {n:Int} {row:List Int} (h:Order n row):row.Nodup:=by
 refine h.nodup_iff.mpr ?_
 unfold List.Nodup
 rw [aG1]
 exact List.nodup_range.imp fun {a b} c e=>c (by omega)
theorem Order.mem {n:Int} {row:List Int} (h:Order n row) {v:Int}:v∈row ↔ 0<=v/\v < n:=by
 rw [h.mem_iff,aB7]
 constructor
 ·rintro ⟨i,hi,rfl⟩
  have:=aB9.mp hi
  omega
 ·rintro ⟨b,a⟩
  exact ⟨v.toNat,aB9.mpr (by omega),by omega⟩
theorem Order.get {n:Int} {row:List Int} (h:Order n row) {a:Int} (c:0<=a) (d:a < n):∃ x,row[a.toNat]?=some x/\atI row a=some x/\0<=x/\x < n:=by
 have b:a.toNat < row.length:=by rw [h.len];omega
 have e:row[a.toNat]?=some row[a.toNat]:=aA0 b
 have:=h.mem.mp (aA2 e)
 exact ⟨_,e,afj c e,this.1,this.2⟩
theorem Order.inj {n:Int} {row:List Int} (h:Order n row) {a b x:Int} (a0:0<=a) (b0:0<=b) (ha:row[a.toNat]?=some x) (hb:row[b.toNat]?=some x):a=b:=by
 obtain ⟨c,g⟩:=aA1.mp ha
 obtain ⟨f,d⟩:=aA1.mp hb
 have:=nodup_ix h.nodup c f (g.trans d.symm)
 omega
theorem Order.id (n:Int):Order n ((List.range n.toNat).map fun (i:Nat)=>(i:Int)):=List.Perm.refl _
def aa4 (row:List Int) (a:Int):Int:=row.getD a.toNat 0
def reP (row:List Int) (p:Int × Int):Int × Int:=if aa4 row p.1 < aa4 row p.2 then (aa4 row p.1,aa4 row p.2) else (aa4 row p.2,aa4 row p.1)
theorem Order.at {n:Int} {row:List Int} (h:Order n row) {a:Int} (f:0<=a) (b:a < n):row[a.toNat]?=some (aa4 row a)/\0<=aa4 row a/\aa4 row a < n:=by
 obtain ⟨x,e,_,c,d⟩:=h.get f b
 have:aa4 row a=x:=by unfold aa4;rw [aD4,e];rfl
 rw [this];exact ⟨e,c,d⟩
theorem Order.atI {n:Int} {row:List Int} (h:Order n row) {a:Int} (b:0<=a) (c:a < n):L2.atI row a=some (aa4 row a):=afj b (h.at b c).1
theorem Order.ne {n:Int} {row:List Int} (h:Order n row) {a b:Int} (a0:0<=a) (a1:a < n) (b0:0<=b) (b1:b < n) (c:a ≠ b):aa4 row a ≠ aa4 row b:=fun e=>by
 have d:=(h.at a0 a1).1
 have f:=(h.at b0 b1).1
 rw [e] at d
 exact c (h.inj a0 b0 d f)
theorem PsOk.re {n:Int} {ps:List (Int × Int)} {row:List Int} (h:PsOk n ps) (o:Order n row):PsOk n (ps.map (reP row)):=by
 have inn:∀ p∈ps,0<=(reP row p).1/\(reP row p).1 < (reP row p).2/\(reP row p).2 < n:=fun p c=>by
  obtain ⟨p0,t,p2⟩:=h.inn p c
  have a:=o.at p0 (by omega)
  have b:=o.at (a:=p.2) (by omega) p2
  have ne:=o.ne p0 (by omega) (by omega) p2 (by omega)
  unfold reP
  split <;> dsimp only <;> omega
 refine ⟨?_,fun q d=>by obtain ⟨p,c,rfl⟩:=aB7.mp d;exact inn p c⟩
 unfold List.Nodup
 rw [aG1]
 refine aI0 ?_ h.nd
 intro p q c d f e
 apply f
 obtain ⟨p0,t,p2⟩:=h.inn p c
 obtain ⟨j,u,i⟩:=h.inn q d
 have inj:∀ a b,0<=a->a < n->0<=b->b < n->aa4 row a=aa4 row b->a=b:=fun a b a0 a1 b0 b1 e=>by
  apply aD5
  intro g
  exact o.ne a0 a1 b0 b1 g e
 have l:=inj p.1 q.1 p0 (by omega) j (by omega)
 have m:=inj p.2 q.2 (by omega) p2 (by omega) i
 have r:=inj p.1 q.2 p0 (by omega) (by omega) i
 have s:=inj p.2 q.1 (by omega) p2 j (by omega)
 unfold reP at e
 split at e <;> split at e <;> simp only [Prod.mk.injEq] at e
 ·exact Prod.ext (l e.1) (m e.2)
 ·have:=r e.1;have:=s e.2;omega
 ·have:=s e.1;have:=r e.2;omega
 ·exact Prod.ext (l e.2) (m e.1)
theorem Tied.re {ps:List (Int × Int)} {row:List Int} {u v:Int} (h:Tied ps u v):Tied (ps.map (reP row)) (aa4 row u) (aa4 row v):=by
 have c:∀ a b,(a,b)∈ps->Tied (ps.map (reP row)) (aa4 row a) (aa4 row b):=fun a b hm=>by
  have:=List.mem_map_of_mem (f:=reP row) hm
  unfold reP at this
  dsimp only at this
  split at this
  ·exact .inl this
  ·exact .inr this
 rcases h with h | h
 ·exact c u v h
 ·exact (c v u h).symm
theorem Conn.re {n:Int} {ps:List (Int × Int)} {row:List Int} (h:Conn n (Tied ps)) (o:Order n row):Conn n (Tied (ps.map (reP row))):=fun u v l c v0 d=>by
 have back:∀ x,0<=x->x < n->∃ a,0<=a/\a < n/\aa4 row a=x:=fun x f g=>by
  obtain ⟨i,hi,e⟩:=aH6.mp (o.mem.mpr ⟨f,g⟩)
  refine ⟨i,by omega,by rw [o.len] at hi;omega,?_⟩
  unfold aa4
  simp [hi,e]
 obtain ⟨a,a0,a1,rfl⟩:=back u l c
 obtain ⟨b,b0,b1,rfl⟩:=back v v0 d
 obtain ⟨k,w⟩:=h a b a0 a1 b0 b1
 exact ⟨k,w.rec .refl fun _ t j => .step j t.re⟩
theorem Tied.perm {a ps:List (Int × Int)} (h:a.Perm ps) {u v:Int}:Tied a u v ↔ Tied ps u v:=by unfold Tied;rw [h.mem_iff,h.mem_iff]
theorem au7 {n:Int} {ps a:List (Int × Int)} (d:1<=n) (c:n<=60) (h:PsOk n ps) (b:a.Perm ps) (hs:lexS (a.map p2)):WebOk n a:=⟨d,c,fun p hm=>h.inn p (b.mem_iff.mp hm),ao7 b h.nd hs⟩
theorem WebOk.ps {n:Int} {es:List (Int × Int)} (h:WebOk n es):PsOk n es:=⟨h.rise.nodup,h.inn⟩
theorem ain {α:Type}:∀ {l:List α} {k:Nat} {x : α},l[k]?=some x->(x :: l.eraseIdx k).Perm l
 | [],_,_,h=>by simp at h
 | a :: l,0,x,h=>by simp at h;subst h;exact List.Perm.refl _
 | a :: l,k+1,x,h=>by
  have b:=ain (l:=l) (k:=k) (x:=x) (by simpa using h)
  exact (List.Perm.swap a x _).trans (b.cons a)
theorem aqi {n:Int} {row left:List Int} {k:Nat} {x:Int} (h:Order n (row ++ left)) (a:left[k]?=some x):Order n ((row ++ [x]) ++ left.eraseIdx k):=by
 refine List.Perm.trans ?_ h
 rw [aB4]
 refine List.Perm.append_left row ?_
 exact ain a
section
variable {B:Bs} {env:En} {g:TG} {tif:TT} {te:TE} {K:Frag} {src:List (Option Nat)} {ds:List PyData} {e1:En} {R:List PyData->En->Prop}
end
theorem axy (n:Nat):rngD 0 n=((List.range n).map fun (i:Nat)=>(i:Int)).map PyData.int:=by simp [rngD]
theorem au8 {B:Bs} {t:TS} {D':VEnds} {env:En} (J:En->Prop) (h:EvS B t { D' with nx:=J } env) (k:∀ e,J e->D'.nx e):EvS B t D' env:=fun σ G H F D I r=>h σ G H F D I ⟨fun σ G' H F env a g q=>r.nx _ _ _ _ _ a g (k _ q),r.rt,r.bk,r.ct⟩
theorem ab9 {B:Bs} {g:TG} {A:Own} {d:PyData} {env:En} {b:En->Prop} (f:Frz A d) (h:EvG B g (.st d) env b):EvG B g (.own A) env b:=fun σ G H F v Fv Q I x k =>
 h σ _ H F v _ Q (I.freeze x.fb x.fd x.fg) (acu (f G H v Fv x.ok x.fg I.gh)) fun a G' H' F' c i g' q=>k a G' H' F' c i ((abk x.fg).trans g') q
theorem cutR {R X:Prop} (h:R->X) (r:R):X:=h r
end VL
namespace VL
open PySem PySem.Spec L2
def Sls (K:Frag) (G:Hp) (σ:St) (e:En):Prop:=∀ (j:Nat) (s:Sl),e[j]?=some (some s)->∃ v,σ[j]?=some (some v)/\((∃ d,s=.st d/\Rp G v d)\/∃ (ns:List Int) (a:Addr),s=.scr ns/\v=.ref a/\SqL K G a (ns.map V.int))
section
variable {B:Bs} {env:En}
end
section
variable {B:Bs} {env:En} {Q':PyData->En->Prop} {QO:Sl->En->Prop} {c:TT} {ta tb:TE}
end
end VL
namespace VL
open PySem PySem.Spec L2 PyProof.Rows
end VL
namespace VL
open PySem PySem.Spec L2
section
variable {B:Bs} {env:En} {QO:Sl->En->Prop} {i:Nat}
end
section
variable {X:Cx}
end
section
variable {R:Sl->Prop}
end
end VL
namespace L2
open PySem PySem.Spec PyProof.Rows
def isV (k:Int):Value->Bool
 | .int a _=>decide (a=k)
 | _=>false
theorem amt {ns:List Int} {us:List Value} (r:Vals (ns.map V.int) us) (k:Int):∀ i (h:i < us.length) (h':i < ns.length),isV k us[i]=decide (ns[i]=k):=by
 induction ns generalizing us with
 | nil=>intro i h h';simp at h'
 | cons n ns ih =>
  rw [aD1] at r
  cases r with
  | cons r1 r2 =>
   obtain ⟨t,e⟩:=r1
   subst e
   intro i h h'
   cases i with
   | zero=>rfl
   | succ i=>exact ih r2 i (by simpa using h) (by simpa using h')
theorem aqj {ns:List Int} {us:List Value} (r:Vals (ns.map V.int) us) (k:Int) (t:Tok):∀ y∈us,MeetsSeq.EqGives y (.int k t) (isV k y):=by
 induction ns generalizing us with
 | nil=>rw [List.map_nil] at r;cases r;intro y a;simp at a
 | cons n ns ih =>
  rw [aD1] at r
  cases r with
  | cons r1 r2 =>
   obtain ⟨u,e⟩:=r1
   subst e
   intro y a
   rcases aA9.mp a with rfl | a
   ·exact MeetsSeq.EqGives.int n k u t
   ·exact ih r2 y a
section
variable {X:Cx}
def asj:V->List V->Hp->VK->Prop:=fun x vs H Q=>∃ (l:Addr) (ns:List Int) (k:Int) (j:Nat),x=.ref l/\vs=[.int k]/\H l=some (.lst (ns.map V.int))/\ns[j]?=some k/\(∀ m,m < j->ns[m]? ≠ some k)/\Q (.int j) H
theorem ahj:MtM X "list.index" asj:=by
 intro pins s σ H x vs v us Q I i o h
 obtain ⟨l,ns,k,j,rfl,rfl,g,B,b,q⟩:=h
 cases i
 obtain ⟨u,rfl,A⟩:=o.one
 obtain ⟨t,rfl⟩:=A
 obtain ⟨z,its,n,r,w,e⟩:=I.lstM g
 rw [aA3] at w z
 obtain ⟨d,f⟩:=aA1.mp B
 have hz:sizeLine < 2 ^ 62:=by decide
 refine call_meets F.slot_list_index ⟨_,e,rfl⟩ F.entry_list_index (F.args_list_index_2 _ _)
  (MeetsSeq.list_index l its.toArray n (.int k t) (isV k) (fun y p=>aqj r k t y (by simpa using p)) j (by rw [aB2];omega) (by omega) ?_ (fun m hm c=>?_)) ⟨e,?_⟩
 ·rw [aF2,amt r k j (by omega) d,aD8 f]
 ·have a:m < ns.length:=by omega
  rw [aF2,amt r k m (by omega) a]
  exact aD7 fun e=>b m c (by rw [aA0 a,e])
 ·exact ⟨.int j,H,I.tok _,⟨_,rfl⟩,q⟩
variable {e est:Expr} {te:TE} {ts:TO} {pos p2:Pos}
end
end L2
namespace VL
open PySem PySem.Spec L2
section
variable {B:Bs} {env:En} {QO:Sl->En->Prop} {Q':PyData->En->Prop} {te tl:TE} {ts:TO} {K:Frag} {i:Nat}
theorem au9 (h:Ev B tl env fun x i=>∃ ns:List Int,x=.list (ns.map .int)/\Ev B te i fun y b=>∃ (k:Int) (j:Nat),y=.int k/\ns[j]?=some k/\(∀ m,m < j->ns[m]? ≠ some k)/\Q' (.int j) b):Ev B (tBM K "list" asj tl (aa2 te tNil)) env Q':=fun σ G H F Q I k =>
 h σ G H F _ I fun v o A s d i f L n C=>by
  obtain ⟨ns,J,E⟩:=C
  subst J
  cases n with
  | @lst a vs _ ha rs =>
   have r:vs=ns.map V.int:=rs.ints_inv
   subst r
   refine ⟨.inl ⟨rfl,_,SqL.of (f.gh _ _ ha)⟩,E σ o A s _ f fun u D H2 F2 y b g l z ⟨c,j,p,t,w,q⟩=>?_⟩
   subst p
   cases z
   exact ⟨a,ns,c,j,rfl,rfl,g.gh _ _ (l _ _ ha),t,w,k _ D H2 F2 _ b g (L.trans l) (.int _) q⟩
end
structure But (n:Int) (es rem:List (Int × Int)):Prop where
 rise:Rise es
 inn:∀ p∈es,0<=p.1/\p.1 < p.2/\p.2 < n
 all:∀ p:Int × Int,0<=p.1->p.1 < p.2->p.2 < n->p∈es\/p∈rem
end VL
namespace PopT
open PySem PyProof.Rows
section
variable {prog:Program} {w:World} {K:Type} [DecidableEq K] {knd:HeapKind prog w K} {A:Around} {E:Value->Shared->Prop} {s:Shared}
end
end PopT
namespace L2
open PySem PySem.Spec PySem.W PyProof.Rows
section
variable {X:Cx} {pins:List (Addr × Obj)} {σ:St} {H:Hp} {s:Shared} {a b:Addr} {A:Around} {E:Value->Shared->Prop}
end
section
variable {X:Cx} {o e f:Expr} {apos cpos:Pos} {td ty tx:TE}
end
end L2
namespace DNe
open PySem PyProof.Rows
end DNe
namespace L2
open PySem PySem.Spec PySem.W PyProof.Rows
end L2
namespace DNe
open PySem PyProof.Rows
section
variable {prog:Program} {w:World} {A:Around} {E:Value->Shared->Prop} {s:Shared}
end
end DNe
namespace L2
open PySem PySem.Spec PySem.W PyProof.Rows
end L2
namespace VL
open PySem PySem.Spec L2
section
variable {B:Bs} {env:En} {Q':PyData->En->Prop} {QO:Sl->En->Prop} {i:Nat} {ty:TE}
@[reducible] def agt (es:List (Key × PyData)):PyData:=.dict (es.map fun p=>(kD p.1,p.2))
theorem axz {a b:Key} (h:kD a=kD b):a=b:=by
 cases a <;> cases b <;> simp [kD] at h <;> rw [h]
theorem asl:∀ {es fs:List (Key × PyData)},es.map (fun p=>(kD p.1,p.2))=fs.map (fun p=>(kD p.1,p.2))->es=fs
 | [],[],_=>rfl
 | [],_ :: _,h=>by simp at h
 | _ :: _,[],h=>by simp at h
 | (a,x) :: es,(b,y) :: fs,h=>by
  simp only [aD1,List.cons.injEq,Prod.mk.injEq] at h
  rw [axz h.1.1,h.1.2,asl h.2]
theorem ax0 {G:Hp} {v:V} {es:List (Key × PyData)} (r:Rp G v (agt es)) (b:es ≠ []):∃ a kvs,v=.ref a/\G a=some (.dK kvs)/\RpK G kvs es:=by
 cases r with
 | dk h rk e=>exact ⟨_,_,rfl,h,by rw [asl e];exact rk⟩
 | @dt a kvs es' ds h rt e =>
  cases es with
  | nil=>exact absurd rfl b
  | cons p es =>
   cases es' with
   | nil=>simp at e
   | cons q es' =>
    simp only [aD1,List.cons.injEq,Prod.mk.injEq] at e
    have:=e.1.1
    obtain ⟨k,x⟩:=p
    cases k <;> simp [kD] at this
end
end VL
namespace DictL
open PySem PyProof.Rows
section
variable {prog:Program} {w:World} {A:Around} {R:Result->Shared->Prop} {I:Addr} {fp wr:List Addr} {n:Nat} {P:Nat->Value->Prop} {St:Nat->Heap->Prop} {K:Type} [DecidableEq K] {knd:KeyKind prog w K}
end
section
variable {prog:Program} {w:World} {A:Around} {E:Value->Shared->Prop} {s:Shared}
end
section
variable {prog:Program} {w:World} {A:Around} {E:Value->Shared->Prop} {s:Shared} {K:Type} [DecidableEq K] {knd:KeyKind prog w K}
end
end DictL
namespace L2
open PySem PySem.W PyProof.Rows
def dkOf:List (Int × V)->List (Key × V):=fun kvs=>kvs.map fun p=>(.inl p.1,p.2)
section
variable {K:Type} [DecidableEq K]
end
section
variable {X:Cx}
end
end L2
namespace VL
open PySem PySem.Spec L2
section
variable {B:Bs} {env:En} {QO:Sl->En->Prop} {Q':PyData->En->Prop} {D':VEnds} {K:Frag} {i:Nat}
end
section
variable {B:Bs} {env:En} {QO:Sl->En->Prop} {Q':PyData->En->Prop} {K:Frag} {i:Nat}
end
theorem acz {α:Type} {K:Frag} {src:List (Option Nat)} {a:En} {te:TE} {c:TT} {R:List PyData->En->Prop} {xs:List α} {f : α->PyData} (g : α->PyData) (p : α->Bool) (q:noIo (aar src a)=true) (J:xs.length<=999999)
  (h:∀ x∈xs,∀ j:Bs,j.K=K->EvT j c (some (.st (f x)) :: aar src a) fun b n=>b=p x/\n=some (.st (f x)) :: aar src a/\(b=true->Ev j te (some (.st (f x)) :: aar src a) fun y r=>y=g x/\r=some (.st (f x)) :: aar src a))
  (A:R ((xs.filter p).map g) a):LcV K (none :: src) (abc 0) c te (xs.map f) a R:=by
 have l:noIo (aar (none :: src) a)=true:=by
  show ((none :: aar src a).all fun s => !isIo s)=true
  rw [List.all_cons]
  exact (aH1 _ _).mpr ⟨rfl,q⟩
 refine ⟨fun i ys e=>ys=((xs.take i).filter p).map g/\∃ o,e=stO o :: aar src a,⟨by simp,none,rfl⟩,?_,?_,?_⟩
 ·rintro i ys e ⟨_,o,rfl⟩
  exact ⟨⟨isIo_stO.symm,acy⟩,adx adn⟩
 ·rintro i d ys e hd ⟨rfl,o,rfl⟩ j C
  rw [aA5] at hd
  cases hx:xs[i]? with
  | none=>rw [hx] at hd;cases hd
  | some x =>
  rw [hx] at hd
  cases hd
  have hi:i < xs.length:=(aA1.mp hx).1
  have u:xs.take (i+1)=xs.take i ++ [x]:=by rw [aH4,hx];rfl
  refine aa9 ?_
  show EvT j c (some (.st (f x)) :: aar src a) _
  intro σ G H F Q I k
  refine h x (aA2 hx) j C σ G H F Q I fun b G' H' F' n t g' ⟨hb,D,z⟩=>k b G' H' F' n t g' ?_
  subst D
  by_cases hp:b=true
  ·rw [aF5 hp]
   intro σ G H F Q I k
   refine z hp σ G H F Q I fun v G' H' F' d' r t g' w ⟨B,m⟩=>k v G' H' F' d' r t g' w ?_
   subst B m
   refine ⟨?_,?_,some _,rfl⟩
   ·have:=aF3 p (xs.take i)
    simp only [aA3]
    have E:(xs.take i).length<=i:=by simp;omega
    omega
   ·rw [u,List.filter_append,aE5]
    have:p x=true:=by rw [← hb];exact hp
    simp [this]
  ·rw [aF6 hp]
   refine ⟨?_,some _,rfl⟩
   rw [u,List.filter_append,aE5]
   have:p x=false:=by rw [← hb];simpa using hp
   simp [this]
 ·rintro ys e ⟨rfl,o,rfl⟩
  rw [ago l,aA3,aG8]
  exact A
section
variable {B:Bs} {env:En} {QO:Sl->En->Prop} {Q':PyData->En->Prop} {K:Frag} {i:Nat}
end
end VL
namespace L2
open PySem PySem.W PyProof.Rows
section
variable {X:Cx}
end
end L2
namespace VL
open PySem PySem.Spec L2
section
variable {B:Bs} {env:En} {Q':PyData->En->Prop} {R:Sl->Prop} {td:TE}
end
end VL
namespace SS
open PySem
theorem ajh {l:List Nat} (b:l.Pairwise (· < ·)) {i j:Nat} (a:i<=j) (c:j < l.length):l[i]'(by omega)<=l[j]:=by
 by_cases e:i=j
 ·subst e;exact aA6 _
 ·exact aG5 (aG7.mp b i j (by omega) c (by omega))
theorem ahk (xs:Array Nat) (j:Nat) (c:xs.toList.Pairwise (· < ·)):∀ (a lo hi:Nat),hi - lo<=a->lo<=hi->hi<=xs.size->(∀ i (h:i < xs.toList.length),i < lo->xs.toList[i] < j)->(∀ i (h:i < xs.toList.length),hi<=i->j<=xs.toList[i]) ->
  SetTable.below.go xs j a lo hi<=xs.size/\(∀ i (h:i < xs.toList.length),i < SetTable.below.go xs j a lo hi->xs.toList[i] < j)/\(∀ i (h:i < xs.toList.length),SetTable.below.go xs j a lo hi<=i->j<=xs.toList[i])
 | 0,lo,hi,h1,h2,h3,h4,h5=>by
  unfold SetTable.below.go
  have:lo=hi:=by omega
  subst this
  exact ⟨h3,h4,h5⟩
 | a+1,lo,hi,h1,h2,h3,h4,h5=>by
  unfold SetTable.below.go
  by_cases hl:lo < hi
  ·rw [aF5 hl]
   have hm:(lo+hi) / 2 < xs.size:=by omega
   have d:(lo+hi) / 2 < xs.toList.length:=by simpa using hm
   have f:xs.getD ((lo+hi) / 2) j=xs.toList[(lo+hi) / 2]:=by simp [Array.getD,hm]
   dsimp only
   rw [f]
   split
   ·rename_i hlt
    refine ahk xs j c a _ hi (by omega) (by omega) h3 (fun i h b=>?_) h5
    exact aE4 (ajh c (by omega) d) hlt
   ·rename_i hge
    refine ahk xs j c a lo _ (by omega) (by omega) (by omega) h4 (fun i h b=>?_)
    exact aD0 (by omega) (ajh c b h)
  ·rw [aF6 hl]
   have:lo=hi:=by omega
   subst this
   exact ⟨h3,h4,h5⟩
theorem below_ok (xs:Array Nat) (j:Nat) (a:xs.toList.Pairwise (· < ·)) :
  SetTable.below xs j<=xs.size/\(∀ i (h:i < xs.toList.length),i < SetTable.below xs j->xs.toList[i] < j)/\(∀ i (h:i < xs.toList.length),SetTable.below xs j<=i->j<=xs.toList[i]) :=
 ahk xs j a _ 0 _ (by omega) (by omega) (aA6 _) (fun i h hi=>by omega) (fun i h hi=>by simp at h;omega)
theorem aqk (xs:Array Nat) (c:xs.toList.Pairwise (· < ·)) (i:Nat) (hi:i < xs.toList.length):SetTable.below xs (xs.toList[i] + 1)=i+1:=by
 obtain ⟨g,f,d⟩:=below_ok xs (xs.toList[i] + 1) c
 rcases Nat.lt_trichotomy (SetTable.below xs (xs.toList[i] + 1)) (i+1) with h | h | h
 ·have:=d i hi (by omega);omega
 ·exact h
 ·have hs:i+1 < xs.toList.length:=by simp;omega
  have a:=f (i+1) hs (by omega)
  have b:=aG7.mp c i (i+1) hi hs (by omega)
  omega
theorem aql (xs:Array Nat) (b:xs.toList.Pairwise (· < ·)):SetTable.below xs 0=0:=by
 obtain ⟨d,a,c⟩:=below_ok xs 0 b
 rcases Nat.eq_zero_or_pos (SetTable.below xs 0) with h | h
 ·exact h
 ·have:=a 0 (by simp;omega) (by omega);omega
theorem put_rise {xs:Array Nat} {j:Nat} (c:xs.toList.Pairwise (· < ·)) (hn:xs[SetTable.below xs j]? ≠ some j):(SetTable.insertAt xs (SetTable.below xs j) j).toList.Pairwise (· < ·):=by
 obtain ⟨n,d,f⟩:=below_ok xs j c
 rw [SetTable.toList_insertAt]
 generalize SetTable.below xs j=p at n d f hn ⊢
 rw [← aD6] at hn
 generalize xs.toList=l at c d f hn ⊢
 have lo:∀ x∈l.take p,x < j:=fun x g=>by
  obtain ⟨i,hi,e⟩:=List.mem_take_iff_getElem.mp g
  rw [← e];exact d i (by omega) (by omega)
 have h:∀ x∈l.drop p,j < x:=fun x g=>by
  obtain ⟨i,hi,e⟩:=List.mem_drop_iff_getElem.mp g
  have m:p < l.length:=by omega
  have ne:l[p] ≠ j:=fun e=>hn (by rw [aA0 m,e])
  have a:=f p m (aA6 _)
  have b:=ajh c (show p<=p+i by omega) (by omega:p+i < l.length)
  have o:l[p+i]=x:=by rw [← e]
  omega
 rw [aC9]
 refine ⟨c.sublist (List.take_sublist _ _),aI5.mpr ⟨h,c.sublist (List.drop_sublist _ _)⟩,fun a ha b hb=>?_⟩
 rcases aA9.mp hb with rfl | hb
 ·exact lo a ha
 ·exact Nat.lt_trans (lo a ha) (h b hb)
structure TbI (bt:Bool) (t:SetTable):Prop where
 led:bt=false->t.led=true
 dum:t.dummies = #[]
 ris:t.plain=true->t.place.toList.Pairwise (· < ·)
theorem TbI.fresh (bt:Bool) (f m:Nat):TbI bt (.fresh f m (!bt)):=⟨fun h=>by subst h;rfl,rfl,fun _=>List.Pairwise.nil⟩
theorem has_nil (j:Nat):SetTable.has #[] j=false:=by unfold SetTable.has;simp
theorem TbI.put {bt:Bool} {t:SetTable} (x:TbI bt t) {j:Nat} (hs:t.slot j=.empty):TbI bt (t.put j).1:=by
 refine ⟨x.led,?_,fun h=>?_⟩
 ·show (if SetTable.has t.dummies j=true then _ else t.dummies) = #[]
  rw [x.dum,has_nil];rfl
 ·show (SetTable.insertAt t.place (SetTable.below t.place j) j).toList.Pairwise (· < ·)
  refine put_rise (x.ris h) fun e=>?_
  unfold SetTable.slot at hs
  dsimp only at hs
  rw [e] at hs
  simp at hs
theorem live_rise (owner:Array (Option Nat)) (m:Nat):(((List.range m).filterMap fun j=>(owner.getD j none).map (j,·)).map (·.1)).Pairwise (· < ·):=by
 rw [aG1,List.pairwise_filterMap]
 refine List.pairwise_lt_range.imp ?_
 intro a b f p c q d
 cases h1:owner.getD a none with
 | none=>rw [h1] at c;cases c
 | some i =>
  cases h2:owner.getD b none with
  | none=>rw [h2] at d;cases d
  | some k=>rw [h1] at c;rw [h2] at d;cases c;cases d;exact f
theorem akc {α:Type} (next:Nat->Nat):∀ (n k:Nat) (left:List α) (out:Array α),left.length=n->(pickOrder.go next n k left out).toList.Perm (out.toList ++ left)
 | 0,k,left,out,h=>by
  unfold pickOrder.go
  rw [aH2 h];simp
 | n+1,k,left,out,h=>by
  unfold pickOrder.go
  have a:next k % left.length < left.length:=Nat.mod_lt _ (by omega)
  rw [aA0 a]
  dsimp only
  refine (akc next n (k+1) _ _ (by rw [List.length_eraseIdx];split <;> omega)).trans ?_
  rw [Array.toList_push,aB4]
  refine List.Perm.append_left _ ?_
  have e:left=left.take (next k % left.length) ++ left[next k % left.length] :: left.drop (next k % left.length+1):=by
   rw [← List.drop_eq_getElem_cons a,aC1]
  rw [List.eraseIdx_eq_take_drop_succ]
  refine List.Perm.trans ?_ (List.Perm.of_eq e.symm)
  rw [List.singleton_append]
  exact List.perm_middle.symm
theorem aji {α:Type} (next:Nat->Nat) (xs:Array α):(pickOrder next xs).toList.Perm xs.toList:=by
 unfold pickOrder
 simpa using akc next xs.size 0 xs.toList #[] (by simp)
end SS
namespace SS
open PySem PySem.W PyProof.Rows
section
variable {prog:Program} {w:World} {A:Around} {E:Value->Shared->Prop} {s:Shared}
def bt (w:World):Bool:=w.params.followText "set-order"
def kE (e:Int × Value):Int:=match e.2 with | .int k _=>k | _=>0
def a18 (prog:Program) (w:World) (e:Int × Value):Prop:=e.1=(intKind prog w).hash (kE e)/\∃ t,e.2=.int (kE e) t
def SetR (prog:Program) (w:World) (a:Addr) (es:Array (Int × Value)) (ep:Nat) (t:SetTable) (h:Heap):Prop :=
 ∃ o,h.get? a=some o/\o.ExactSet/\o.data=.set es ep t/\t.fits es.size=true/\TbI (bt w) t
def SetI (prog:Program) (w:World) (a:Addr) (L:List Int) (h:Heap):Prop:=∃ es ep t,SetR prog w a es ep t h/\(∀ e∈es.toList,a18 prog w e)/\(es.toList.map kE).Perm L
theorem SetR.at {a:Addr} {es:Array (Int × Value)} {ep:Nat} {t:SetTable} {h h':Heap} (x:SetR prog w a es ep t h) (k:∀ o,h.get? a=some o->h'.get? a=some o):SetR prog w a es ep t h':=let ⟨o,e,r⟩:=x;⟨o,k o e,r⟩
theorem SetR.put {a:Addr} {es es':Array (Int × Value)} {ep:Nat} {t t':SetTable} {h:Heap} (x:SetR prog w a es ep t h) (hf:t'.fits es'.size=true) (c:TbI (bt w) t'):SetR prog w a es' (ep+1) t' (h.update a (Obj.putSet es' t')):=by
 obtain ⟨o,d,f,hd,_⟩:=x
 have b:(h.update a (Obj.putSet es' t')).get? a=some { o with data:=.set es' (ep+1) t' }:=by
  have:=aK5 (Obj.putSet es' t') d (by rw [putSet_of es' t' hd];rfl)
  rw [putSet_of es' t' hd] at this;exact this
 exact ⟨_,b,f,rfl,hf,c⟩
end
section
variable {prog:Program} {w:World} {A:Around} {E:Value->Shared->Prop} {s:Shared}
def abv (w:World):Obj:={ cls:=.type "set",dict:=none,data:=.set #[] 0 (.fresh 0 0 (!bt w)) }
theorem ava (a:Value) {Q₁:Value->Shared->Prop} (h:Q₁ (.ref s.heap.objs.size) { s with heap:=s.heap.push (abv w) }) :
  codeAny (model prog w) A (.call (.builtin "set.__new__") ⟨[.type "set",a],[]⟩) (wants Q₁ E) s:=by
 refine codeAny_of_tree ?_
 show wpAny _ A.in1 (do checkBuiltinCall "set.__new__" ⟨[.type "set",a],[]⟩;again (.builtin "set.__new__" ⟨[.type "set",a],[]⟩)) _ _ s
 refine aI9 (wpAny_of_eq (PySem.F.newCall_set_1 a) (aJ0 ⟨plainId_quiet PySem.F.plain_set_new _,aK6 PySem.F.entry_set_new ?_⟩))
 rw [aK0 PySem.F.plain_set_new _]
 unfold Builtin.«set.__new__» Builtin.Frozenset.newClass
 have b:=sub_set_self
 obtain ⟨c,g,d,f,os⟩:=s
 dsimp only
 wp_walk
 refine wpAny_askSetting (aJ0 ?_)
 dsimp only
 simp only [newObj]
 refine aI9 (wpAny_alloc (aJ0 ?_))
 exact aJ0 h
section
variable {R:Result->Shared->Prop} {I:Addr} {fp wr:List Addr} {n:Nat} {P:Nat->Value->Prop} {St:Nat->Heap->Prop}
end
end
theorem slot_it_next:Slot "set_iterator" "__next__" "set_iterator.__next__" :=
 .of (owner:="set_iterator") (n:="__next__") (by rw [typeLookup_type,builtinLookup_eq_fast];kernel_rfl) (by decide +kernel) (by decide +kernel) (by decide +kernel)
  (by first | exact .inl (by decide +kernel) | exact .inr (by decide +kernel)) (by rw [isSubtype_type];kernel_rfl)
theorem af7:Slot "set_iterator" "__iter__" "set_iterator.__iter__" :=
 .of (owner:="set_iterator") (n:="__iter__") (by rw [typeLookup_type,builtinLookup_eq_fast];kernel_rfl) (by decide +kernel) (by decide +kernel) (by decide +kernel)
  (by first | exact .inl (by decide +kernel) | exact .inr (by decide +kernel)) (by rw [isSubtype_type];kernel_rfl)
theorem amu:Manifest.owners.lookup (String.ofList ['r','o','t','a','r','e','t','i','_','t','e','s'].reverse)=some Manifest.sig_set_iterator:=by kernel_rfl
theorem amv (a:Value):argsOk "set_iterator.__next__" ⟨[a],[]⟩:=by
 unfold argsOk;rw [signature?_of (id:="set_iterator.__next__") (n:=['_','_','t','x','e','n','_','_']) (o:=['r','o','t','a','r','e','t','i','_','t','e','s']) (by kernel_rfl) amu];kernel_rfl
theorem amw (a:Value):argsOk "set_iterator.__iter__" ⟨[a],[]⟩:=by
 unfold argsOk;rw [signature?_of (id:="set_iterator.__iter__") (n:=['_','_','r','e','t','i','_','_']) (o:=['r','o','t','a','r','e','t','i','_','t','e','s']) (by kernel_rfl) amu];kernel_rfl
theorem ak3:entryFor table "set_iterator.__next__" = some Builtin.«set_iterator.__next__»:=entryFor_of_tree (by kernel_rfl)
theorem ak4:entryFor table "set_iterator.__iter__" = some Builtin.«dict_keyiterator.__iter__»:=entryFor_alias (id':="dict_keyiterator.__iter__") (by kernel_rfl) rfl (by decide +kernel) (by kernel_rfl)
theorem ajj:entryFor table "set.__iter__" = some Builtin.«frozenset.__iter__»:=entryFor_alias (id':="frozenset.__iter__") (by kernel_rfl) rfl (by decide +kernel) (by kernel_rfl)
section
variable {prog:Program} {w:World} {A:Around} {E:Value->Shared->Prop} {s:Shared} {a I:Addr} {es:Array (Int × Value)} {ep:Nat} {t:SetTable}
def IsIt (h:Heap) (I:Addr) (vs:Array Value):Prop:=∃ o,h.get? I=some o/\o.cls=.type "set_iterator"/\o.data=.fields vs
theorem IsIt.ty {vs:Array Value} (x:IsIt s.heap I vs):s.TypeIs (.ref I) "set_iterator":=let ⟨o,e,c,_⟩:=x;⟨o,e,c⟩
theorem IsIt.at {h h':Heap} {vs:Array Value} (x:IsIt h I vs) (k:∀ o,h.get? I=some o->h'.get? I=some o):IsIt h' I vs:=let ⟨o,e,r⟩:=x;⟨o,k o e,r⟩
theorem SetR.ty (x:SetR prog w a es ep t s.heap):s.TypeIs (.ref a) "set":=let ⟨o,e,c,_⟩:=x;⟨o,e,c.1⟩
theorem adi {Q:(Array (Int × Value) × Nat × SetTable)->Shared->Prop} (x:SetR prog w a es ep t s.heap) (h:Q (es,ep,t) s):wpAny (model prog w) A (setState a) Q E s:=let ⟨_,b,_,hd,hf,_⟩:=x;wpAny_setState_of b hd hf h
theorem afl {Q:Array (Int × Value)->Shared->Prop} (x:SetR prog w a es ep t s.heap) (h:Q es s):wpAny (model prog w) A (setEntries a) Q E s:=by
 unfold setEntries;exact aI9 (adi x (aJ0 h))
theorem amx {Q:Nat->Shared->Prop} (x:SetR prog w a es ep t s.heap) (h:Q ep s):wpAny (model prog w) A (setEpoch a) Q E s:=by
 unfold setEpoch;exact aI9 (adi x (aJ0 h))
theorem ajk {Q:Bool->Shared->Prop} (h:Q (bt w) s):wpAny (model prog w) A setsByText Q E s:=by
 unfold setsByText;exact aI9 (wpAny_askSetting (aJ0 h))
theorem asm {M:Model} {src:Source} {n:Nat} {Q:Nat->Shared->Prop} (hn:0 < n) (h:∀ i d,i < n->Q i { s with drawn:=d }):wpAny M A (choose src n) Q E s:=fun Γ p _=>by
 unfold choose
 rw [Sem.wp_choose]
 exact ⟨by omega,h _ _ (Nat.mod_lt _ hn)⟩
theorem apa {α:Type} {M:Model}:∀ (n:Nat) (xs:List α) (s:Shared) (Q:List α->Shared->Prop),xs.length=n->(∀ ys d,ys.Perm xs->Q ys { s with drawn:=d })->wpAny M A (drawOrder n xs) Q E s
 | 0,xs,s,Q,hn,h=>by
  unfold drawOrder
  rw [aH2 hn] at h
  exact aJ0 (h [] s.drawn (List.Perm.refl _))
 | n+1,[],s,Q,hn,h=>by cases hn
 | n+1,x :: xs,s,Q,hn,h=>by
  unfold drawOrder
  refine aI9 (asm (by simp) fun i d hi=>?_)
  rw [aA0 hi]
  dsimp only
  refine aI9 (apa n _ _ _ (by rw [List.length_eraseIdx];split <;> omega) fun ys d' a=>aJ0 ?_)
  refine h _ d' ?_
  have e:(x :: xs)=(x :: xs).take i ++ (x :: xs)[i] :: (x :: xs).drop (i+1):=by
   rw [← List.drop_eq_getElem_cons hi,aC1]
  refine (a.cons _).trans ?_
  rw [List.eraseIdx_eq_take_drop_succ]
  refine List.Perm.trans ?_ (List.Perm.of_eq e.symm)
  exact List.perm_middle.symm
def dr (w:World) (es:Array (Int × Value)) (t:SetTable):Bool:=!bt w && (!t.plain && decide (es.size > 1))
def itO (f:Value) (a:Addr) (n ep:Nat):Obj:={ cls:=.type "set_iterator",data:=.fields #[f,rawInt (0:Nat),.ref a,rawInt n,rawInt ep] }
def tuO (pl:List Nat):Obj:={ cls:=.type "tuple",data:=.seq (pl.map fun (i:Nat)=>rawInt i).toArray }
theorem ax1 {Q:Value->Shared->Prop} (x:SetR prog w a es ep t s.heap) (hz:es.size<=sizeLine)
  (c:dr w es t=false->Q (.ref s.heap.objs.size) { s with heap:=s.heap.push (itO (rawInt (0:Nat)) a es.size ep) })
  (f:dr w es t=true->∀ pl d,pl.Perm (List.range es.size)->Q (.ref (s.heap.objs.size+1)) { s with heap:=(s.heap.push (tuO pl)).push (itO (.ref s.heap.objs.size) a es.size ep),drawn:=d }):wpAny (model prog w) A (pyIter (.ref a)) Q E s:=by
 refine wpAny_pyIter_slot x.ty PySem.F.slot_set_iter (aK2 PySem.F.slot_set_iter x.ty ajj ?body (PySem.F.args_set_iter_1 _))
 unfold Builtin.«frozenset.__iter__»
 show wpAny _ _ (Builtin.Frozenset.sizeOf a >>= _) _ _ s
 unfold Builtin.Frozenset.sizeOf
 refine aI9 (aI9 (afl x (aJ0 ?_)))
 unfold setDrawn
 refine aI9 (aI9 (adi x (aI9 (ajk (aJ0 ?_)))))
 show wpAny _ _ (if dr w es t=true then _ else _) _ _ s
 cases hd:dr w es t
 ·rw [aF6 (by decide)]
  refine aI9 (aJ0 (aI9 (amx x ?_)))
  unfold newFields
  refine aI9 (aJ9 (aJ0 ⟨_,rfl,"set_iterator",_,⟨_,aJ3 _ rfl,rfl⟩,slot_it_next.lookup,c hd⟩))
 ·rw [aF5 rfl]
  refine aI9 (apa es.size (List.range es.size) s _ (by simp) fun pl d b=>?_)
  refine aI9 (wpAny_newTuple ?_ (by rw [aA3,b.length_eq,aE1];exact hz))
  refine aI9 (amx (x.at fun o e=>aJ1 _ e) ?_)
  unfold newFields
  refine aI9 (aJ9 (aJ0 ⟨_,rfl,"set_iterator",_,⟨_,aJ3 _ rfl,rfl⟩,slot_it_next.lookup,?_⟩))
  have:=f hd pl d b
  simp only [aK1]
  exact this
end
section
variable {prog:Program} {w:World} {A:Around} {E:Value->Shared->Prop} {s:Shared} {a I:Addr} {es:Array (Int × Value)} {ep:Nat} {t:SetTable}
def ord (w:World) (a:Addr) (es:Array (Int × Value)) (ep:Nat):List (Int × Value):=if bt w=true then (pickOrder (w.params.setOrder a ep) es).toList else es.toList
theorem ord_perm:(ord w a es ep).Perm es.toList:=by
 unfold ord;split
 ·exact aji _ _
 ·exact List.Perm.refl _
def sl (t:SetTable):Nat->Nat
 | 0=>0
 | i+1=>t.place.getD i 0+1
theorem aqm (x:SetR prog w a es ep t s.heap) (hb:bt w=false) (hd:dr w es t=false):t.place.toList.Pairwise (· < ·):=by
 obtain ⟨o,_,_,_,hf,c⟩:=x
 unfold dr at hd
 rw [hb] at hd
 cases hp:t.plain with
 | true=>exact c.ris hp
 | false =>
  rw [hp] at hd
  have d:es.size<=1:=by simpa using hd
  have b:t.place.toList.length<=1:=by
   simp only [SetTable.fits,aH1,aG3] at hf
   rw [aA8];omega
  match hl:t.place.toList with
  | []=>exact .nil
  | [y]=>exact List.pairwise_singleton _ _
  | y :: z :: r=>rw [hl] at b;simp at b
theorem ax2 {slot i:Nat} {Q:Option (Value × Nat)->Shared->Prop} (x:SetR prog w a es ep t s.heap) (hd:dr w es t=false) (hs:bt w=false->slot=sl t i) (hi:i<=es.size)
  (m:∀ e nx,(ord w a es ep)[i]?=some e->(bt w=false->nx=sl t (i+1))->Q (some (e.2,nx)) s) (n:i=es.size->Q none s):wpAny (model prog w) A (setNext a slot i ep) Q E s:=by
 unfold setNext
 refine aI9 (adi x ?_)
 dsimp only
 refine aI9 (ajk ?_)
 cases hb:bt w with
 | true =>
  rw [aF5 rfl]
  rw [aF6 (by simp)]
  refine aI9 ?_
  unfold setWalk
  refine aI9 (adi x ?_)
  dsimp only
  refine aI9 (ajk ?_)
  rw [hb,aF5 rfl]
  refine aI9 (wpAny_askSetting (aJ0 (aJ0 ?_)))
  show Q ((pickOrder (w.params.setOrder a ep) es)[i]?.map fun e=>(e.2,slot)) s
  have f:ord w a es ep=(pickOrder (w.params.setOrder a ep) es).toList:=by unfold ord;rw [hb,aF5 rfl]
  rw [← aD6,← f]
  cases he:(ord w a es ep)[i]? with
  | none =>
   refine n ?_
   have:=aF7.mp he
   rw [ord_perm.length_eq,aA8] at this
   omega
  | some e=>exact m e slot he fun z=>by rw [hb] at z;cases z
 | false =>
  rw [aF6 (by decide)]
  have b:=aqm x hb hd
  obtain ⟨o,y,B,q,hf,u⟩:=id x
  have p:t.place.size=es.size:=by
   simp only [SetTable.fits,aH1,aG3] at hf;exact hf.1
  have l:SetTable.below t.place slot=i:=by
   rw [hs hb]
   cases i with
   | zero=>exact aql _ b
   | succ j =>
    have v:j < t.place.toList.length:=by rw [aA8];omega
    have e:t.place.getD j 0=t.place.toList[j]:=by simp [Array.getD,show j < t.place.size by omega]
    show SetTable.below t.place (t.place.getD j 0+1)=j+1
    rw [e];exact aqk _ b j v
  refine aI9 (aJ0 ?_)
  have h:(!t.plain && decide (es.size > 1))=false:=by unfold dr at hd;rw [hb] at hd;exact hd
  show wpAny _ _ (if (!t.plain && decide (es.size > 1))=true then _ else _) _ _ s
  rw [h,aF6 (by decide)]
  refine aI9 ?_
  show wpAny _ _ (if (!t.led && !es.isEmpty)=true then _ else _) _ _ s
  rw [u.led hb]
  rw [aF6 (by simp)]
  refine aJ0 ?_
  rw [l]
  have f:ord w a es ep=es.toList:=by unfold ord;rw [hb,aF6 (by decide)]
  rcases Nat.lt_or_ge i es.size with g | d
  ·have c:es[i]?=some es[i]:=aA4 g
   have r:t.place[i]?=some t.place[i]:=aA4 (by omega)
   rw [c,r]
   refine aJ0 (m es[i] _ (by rw [f,aD6];exact c) fun _=>?_)
   show t.place[i] + 1=t.place.getD i 0+1
   simp [Array.getD,show i < t.place.size by omega]
  ·have c:es[i]?=none:=Array.getElem?_eq_none_iff.mpr d
   rw [c]
   exact aJ0 (n (by omega))
theorem upd2 {h:Heap} {f x b n e:Value} {i:Value} (a:IsIt h I #[f,i,x,n,e]) (j:Nat) (v:Value) (vs:Array Value) (g : #[f,i,x,n,e].setIfInBounds j v=vs):IsIt (h.update I (Obj.mapFields (·.setIfInBounds j v))) I vs:=by
 obtain ⟨o,d,c,hd⟩:=a
 exact ⟨_,aK5 _ d (Obj.isFreed_of_fields (Obj.data_mapFields hd _)),(Obj.cls_mapFields ..).trans c,by rw [Obj.data_mapFields hd,g]⟩
theorem adj {vs:Array Value} {i:Nat} {x:Value} {Q:Unit->Shared->Prop} (a:IsIt s.heap I vs) (hi:i < vs.size) (h:Q () { s with heap:=s.heap.update I (Obj.mapFields (·.setIfInBounds i x)) }):wpAny (model prog w) A (setField (.ref I) i x) Q E s:=by
 obtain ⟨o,b,c,hd⟩:=a
 exact wpAny_setField b hd hi h
theorem apb {vs:Array Value} {Q:Option Value->Shared->Prop} (a:IsIt s.heap I vs)
  (h:wpAny (model prog w) A.in1 (Builtin.«set_iterator.__next__» ⟨[.ref I],[]⟩) (fun fin s'=>∃ v,fin=.done (.ret v)/\Q (some v) s') (fun e s'=>wpAny (model prog w) A (do if ← isInstance e (.type "StopIteration") then pure none else throw e) Q E s') s) :
  wpAny (model prog w) A (pyNext (.ref I)) Q E s:=by
 unfold pyNext
 refine aI9 (wpAny_attempt (wpAny_callSpecial?_slot (name:=Str.ofString "__next__") a.ty slot_it_next (aK2 slot_it_next a.ty ak3 ?b (amv _))))
 case b =>
  refine aJ8 h ?_ ?_
  ·rintro fin s' ⟨v,rfl,q⟩
   exact ⟨v,rfl,aJ0 q⟩
  ·intro e s' q;exact q
theorem apc {Q:Option Value->Shared->Prop} {F:Type} {c:F->Shared->Prop} (hh:A.handled=none) (h:∀ h',(∀ b o,s.heap.get? b=some o->h'.get? b=some o)->Q none { s with heap:=h' }) :
  wpAny (model prog w) A.in1 (newExc (.type "StopIteration") [] >>= fun e=>(raiseNew e:Sem F)) c (fun e s'=>wpAny (model prog w) A (do if ← isInstance e (.type "StopIteration") then pure none else throw e) Q E s') s:=by
 refine aI9 ?_
 simp only [newExc,newTuple];refine aI9 (aJ9 ?_ (by size_fits))
 refine aI9 (m:=firstArgMember _ _) (wpAny_of_eq (a:=Value.none) (by first | rfl | (simp only [firstArgMember];rfl)) (aJ9 ?_ (by size_fits)))
 simp only [raiseNew];refine aI9 (wpAny_handled ?_)
 rw [show A.in1.handled=none from hh];refine aI9 (aJ0 (wpAny_throw ?_))
 refine aI9 (wpAny_isInstance (T:="StopIteration") (b:=true) ⟨_,aJ3 _ rfl,rfl⟩ isSubtype_stop ?_)
 exact aJ0 (h _ fun b o e=>aJ1 _ (aJ1 _ e))
theorem apd {slot i:Nat} {Q:Option Value->Shared->Prop} (hh:A.handled=none) (l:a ≠ I) (c:IsIt s.heap I #[rawInt slot,rawInt i,.ref a,rawInt es.size,rawInt ep]) (x:SetR prog w a es ep t s.heap) (hd:dr w es t=false) (hs:bt w=false->slot=sl t i) (hi:i<=es.size)
  (j:∀ e (nx:Nat) h',(ord w a es ep)[i]?=some e->(bt w=false->nx=sl t (i+1))->IsIt h' I #[rawInt nx,rawInt ((i+1:Nat):Int),.ref a,rawInt es.size,rawInt ep]->(∀ b o,b ≠ I->s.heap.get? b=some o->h'.get? b=some o)->Q (some e.2) { s with heap:=h' })
  (m:i=es.size->∀ h',(∀ b o,b ≠ I->s.heap.get? b=some o->h'.get? b=some o)->Q none { s with heap:=h' }):wpAny (model prog w) A (pyNext (.ref I)) Q E s:=by
 refine apb c ?_
 obtain ⟨o,h,p,g⟩:=id c
 unfold Builtin.«set_iterator.__next__»
 refine aI9 (aJ0 (aI9 (wpAny_fieldsOf h g ?_)))
 show wpAny _ _ (setEntries a >>= _) _ _ s
 refine aI9 (afl x ?_)
 rw [aF6 (by simp)]
 show wpAny _ _ (setNext a slot i ep >>= _) _ _ s
 refine aI9 (ax2 x hd hs hi (fun e nx n hn=>?_) fun hz=>?_)
 ·dsimp only
  refine aI9 (adj c (by simp) ?_)
  have d:=upd2 (b:=.none) c 0 (rawInt nx) #[rawInt nx,rawInt i,.ref a,rawInt es.size,rawInt ep] rfl
  refine aI9 (adj (s:={ s with heap:=_ }) d (by simp) ?_)
  have f:=upd2 (b:=.none) d 1 (rawInt ((i+1:Nat):Int)) #[rawInt nx,rawInt ((i+1:Nat):Int),.ref a,rawInt es.size,rawInt ep] rfl
  refine aJ0 ⟨_,rfl,j e nx _ n hn f fun b o hb e=>?_⟩
  exact (aJ7 _ _ (Ne.symm hb)).trans ((aJ7 _ _ (Ne.symm hb)).trans e)
 ·dsimp only
  refine aI9 (adj c (by simp) ?_)
  refine apc (s:={ s with heap:=s.heap.update I _ }) hh fun h' k=>m hz h' fun b o hb e=>k b o ((aJ7 _ _ (Ne.symm hb)).trans e)
theorem ape {vs:Array Value} {Q:Value->Shared->Prop} (a:IsIt s.heap I vs) (h:Q (.ref I) s):wpAny (model prog w) A (pyIter (.ref I)) Q E s:=by
 refine wpAny_pyIter_slot a.ty af7 (aK2 af7 a.ty ak4 ?_ (amw _))
 show wpAny _ _ (ret (.ref I)) _ _ s
 exact aJ0 ⟨_,rfl,"set_iterator",_,a.ty,slot_it_next.lookup,h⟩
theorem walks (hh:A.handled=none) (c:a ≠ I) (hd:dr w es t=false):Walks prog w A I [I,a] [I] es.size (fun i v=>((ord w a es ep).map (·.2))[i]?=some v)
  (fun i h=>∃ slot:Nat,IsIt h I #[rawInt slot,rawInt i,.ref a,rawInt es.size,rawInt ep]/\SetR prog w a es ep t h/\(bt w=false->slot=sl t i)) where
 sub:=fun b hb=>by simp at hb;simp [hb]
 frame:=fun _ _ _ st n=>let ⟨slot,d,f,l⟩:=st;⟨slot,d.at fun o e=>n I (by simp) o e,f.at fun o e=>n a (by simp) o e,l⟩
 item:=fun i s Q E hi st g=>by
  obtain ⟨slot,d,f,l⟩:=st
  refine apd hh c d f hd l (aG5 hi) (fun e nx h' m hn j k=>?_) fun hz=>by omega
  exact g _ h' s.toks (by rw [aA5,m];rfl) ⟨nx,j,f.at fun o e=>k a o c e,hn⟩ fun b o hb e=>k b o (fun z=>hb (by simp [z])) e
 done:=fun s Q E st g=>by
  obtain ⟨slot,d,f,l⟩:=st
  refine apd hh c d f hd l (aA6 _) (fun e nx h' m hn j k=>?_) fun hz h' k=>g h' s.toks fun b o hb e=>k b o (fun z=>hb (by simp [z])) e
  have:=(aA1.mp m).1
  rw [ord_perm.length_eq,aA8] at this
  omega
 self:=fun _ _ _ _ st g=>let ⟨_,d,_,_⟩:=st;ape d g
theorem awc {i:Nat} {tu:Addr} {pl:List Nat} {Q:Option Value->Shared->Prop} (hh:A.handled=none) (c:IsIt s.heap I #[.ref tu,rawInt i,.ref a,rawInt es.size,rawInt ep]) (u:s.heap.get? tu=some (tuO pl)) (x:SetR prog w a es ep t s.heap) (m:pl.Perm (List.range es.size)) (hi:i<=es.size)
  (v:∀ e h' j,pl[i]?=some j->es[j]?=some e->IsIt h' I #[.ref tu,rawInt ((i+1:Nat):Int),.ref a,rawInt es.size,rawInt ep]->(∀ b o,b ≠ I->s.heap.get? b=some o->h'.get? b=some o)->Q (some e.2) { s with heap:=h' })
  (y:i=es.size->∀ h',(∀ b o,b ≠ I->s.heap.get? b=some o->h'.get? b=some o)->Q none { s with heap:=h' }):wpAny (model prog w) A (pyNext (.ref I)) Q E s:=by
 refine apb c ?_
 obtain ⟨o,q,z,f⟩:=id c
 unfold Builtin.«set_iterator.__next__»
 refine aI9 (aJ0 (aI9 (wpAny_fieldsOf q f ?_)))
 show wpAny _ _ (setEntries a >>= _) _ _ s
 refine aI9 (afl x ?_)
 rw [aF6 (by simp)]
 show wpAny _ _ (seqItems? (.ref tu) >>= _) _ _ s
 refine aI9 (wpAny_seqItems u rfl ?_)
 dsimp only
 have h:pl.length=es.size:=by rw [m.length_eq,aE1]
 have B:(rawInt (i:Int))=.int i 0:=rfl
 rcases Nat.lt_or_ge i es.size with r | p
 ·have n:pl[i]?=some pl[i]:=aA0 (by omega)
  have g:(pl.map fun (i:Nat)=>rawInt i).toArray[(i:Int).toNat]?=some (rawInt pl[i]):=by
   rw [Int.toNat_natCast,List.getElem?_toArray,aA5,n];rfl
  rw [g]
  have hm:pl[i] < es.size:=aB9.mp (m.mem_iff.mp (aF1 _))
  have l:es[pl[i]]?=some es[pl[i]]:=aA4 hm
  show wpAny _ _ (setNextDrawn a pl[i] ep >>= _) _ _ s
  unfold setNextDrawn
  refine aI9 (aI9 (adi x ?_))
  dsimp only
  rw [aF6 (by simp),l]
  refine aJ0 ?_
  refine aI9 (adj c (by simp) ?_)
  have d:=upd2 (b:=.none) c 1 (rawInt ((i+1:Nat):Int)) #[.ref tu,rawInt ((i+1:Nat):Int),.ref a,rawInt es.size,rawInt ep] rfl
  exact aJ0 ⟨_,rfl,v _ _ _ n l d fun b o hb e=>(aJ7 _ _ (Ne.symm hb)).trans e⟩
 ·have g:(pl.map fun (i:Nat)=>rawInt i).toArray[(i:Int).toNat]?=none:=by
   rw [Int.toNat_natCast,List.getElem?_toArray,aA5,aF7.mpr (by omega)];rfl
  rw [g]
  dsimp only
  refine aI9 (adj c (by simp) ?_)
  have d:=upd2 (b:=.none) c 0 (rawInt 0) #[rawInt 0,rawInt i,.ref a,rawInt es.size,rawInt ep] rfl
  refine aI9 (adj (s:={ s with heap:=_ }) d (by simp) ?_)
  refine apc (s:={ s with heap:=(s.heap.update I _).update I _ }) hh fun h' k=>y (by omega) h' fun b o hb e=>k b o ((aJ7 _ _ (Ne.symm hb)).trans ((aJ7 _ _ (Ne.symm hb)).trans e))
def ordD (es:Array (Int × Value)) (pl:List Nat):List Value:=pl.map fun j=>(es.toList.map (·.2)).getD j .none
theorem asn {pl:List Nat} (b:pl.Perm (List.range es.size)):(ordD es pl).Perm (es.toList.map (·.2)):=by
 refine (b.map _).trans (List.Perm.of_eq ?_)
 refine List.ext_getElem (by simp) fun i a c=>?_
 have:i < es.size:=by simpa using a
 simp [aD4,this]
theorem a0m {tu:Addr} {pl:List Nat} (hh:A.handled=none) (m:a ≠ I) (r:tu ≠ I) (n:pl.Perm (List.range es.size)):Walks prog w A I [I,a,tu] [I] es.size (fun i v=>(ordD es pl)[i]?=some v)
  (fun i h=>IsIt h I #[.ref tu,rawInt i,.ref a,rawInt es.size,rawInt ep]/\SetR prog w a es ep t h/\h.get? tu=some (tuO pl)) where
 sub:=fun b hb=>by simp at hb;simp [hb]
 frame:=fun _ _ _ st p=>let ⟨g,c,d⟩:=st;⟨g.at fun o e=>p I (by simp) o e,c.at fun o e=>p a (by simp) o e,p tu (by simp) _ d⟩
 item:=fun i s Q E hi st f=>by
  obtain ⟨g,c,d⟩:=st
  refine awc hh g d c n (aG5 hi) (fun e h' j q u l k=>?_) fun hz=>by omega
  refine f _ h' s.toks ?_ ⟨l,c.at fun o e=>k a o m e,k tu _ r d⟩ fun b o hb e=>k b o (fun z=>hb (by simp [z])) e
  unfold ordD
  rw [aA5,q]
  simp [aD4,u]
 done:=fun s Q E st f=>by
  obtain ⟨g,c,d⟩:=st
  refine awc hh g d c n (aA6 _) (fun e h' j q u l k=>?_) fun hz h' k=>f h' s.toks fun b o hb e=>k b o (fun z=>hb (by simp [z])) e
  have:=(aA1.mp q).1
  rw [n.length_eq,aE1] at this
  omega
 self:=fun _ _ _ _ st f=>ape st.1 f
end
section
variable {prog:Program} {w:World} {A:Around} {E:Value->Shared->Prop} {s:Shared} {a:Addr} {es:Array (Int × Value)} {ep:Nat} {t:SetTable}
theorem ax3 {Q:Bool->Shared->Prop} (d:s.TypeIs (.ref a) "set") (h:Q false s):wpAny (model prog w) A (Builtin.List.listLengthHint (.ref a)) Q E s:=by
 unfold Builtin.List.listLengthHint
 refine aI9 (wpAny_specialOf d PySem.F.slot_set_len.lookup ?_)
 generalize hid:("set.__len__" : String)=id0
 wp_delta
 rw [show splitId id0=some ("set","__len__") from by subst hid;decide +kernel]
 subst hid
 refine aI9 (wpAny_isInstance (T:="set") (b:=true) d sub_set_self ?_)
 refine wpAny_ite_split (fun c=>absurd c (by decide)) (fun _=>?_)
 refine wpAny_ite_split (fun _=>?_) (fun c=>absurd (by decide +kernel) c)
 refine aI9 (wpAny_typeOf d ?_)
 exact aJ0 h
theorem avb {a:List Value} {b:Array Value} (h:ItemsOf (fun i v=>a[i]?=some v) b a.length):b.toList=a:=by
 obtain ⟨c,d⟩:=h
 refine List.ext_getElem (by simpa using c) fun i a1 f=>?_
 have:=d i b.toList[i] (by rw [← aD6];exact aA0 a1)
 exact (aC6 ((aA0 f).symm.trans this)).symm
theorem a0n {R:Result->Shared->Prop} (hh:A.handled=none) (x:SetR prog w a es ep t s.heap) (hz:es.size<=sizeLine) (S:Addr) (C:S ≠ a) (res:Value) (z:Nat) (Q:s.heap.get? S=some { cls:=.type "list",data:=.seq #[] z })
  (Y:∀ h' M d J c,(∀ b o,b ≠ S->s.heap.get? b=some o->h'.get? b=some o)->h'.get? S=some { cls:=.type "list",dict:=none,data:=.seq J c,slots:=#[] }->J.toList.Perm (es.toList.map (·.2))->R (.ok (.ret res)) { s with heap:=h',toks:=M,drawn:=d }) :
  wpAny (model prog w) A.in1 (Builtin.List.listExtendWith (.ref S) (.ref a) res)
   (fun fin s'=>match fin with | .done f=>R (.ok f) s' | .again E=>E.quiet=true/\codeAny (model prog w) A E R s') (fun e s'=>R (.error e) s') s:=by
 have H:∀ (I:Addr) (fp:List Addr) (St:Nat->Heap->Prop) (g:List Value) (d:Drawn) (h:Heap) (p:Nat) (M:Nat),Walks prog w A.in1 I fp [I] es.size (fun i v=>g[i]?=some v) St->S ∉ fp->s.heap.objs.size<=I->g.Perm (es.toList.map (·.2))->St 0 h->(∀ b o,b ≠ S->s.heap.get? b=some o->h.get? b=some o) ->
   h.get? S=some { cls:=.type "list",data:=.seq #[] p }->codeAny (model prog w) A (.builtin "list.extend.loop" ⟨[.ref S,.ref I,res],[]⟩) R { s with heap:=h,toks:=M,drawn:=d }:=by
  intro I fp St g d h p M W m N B O G j
  refine codeAny_extend_loopS W.toS hz S m res es.size 0 _ #[] p rfl (aG0 _) O j (ItemsOf.nil _) fun s' L E hm P u=>?_
  have hl:es.size=g.length:=by rw [B.length_eq,aA3,aA8]
  rw [hl] at u
  rw [Moved.eq_with hm]
  refine Y s'.heap s'.toks d L E (fun b o hb e=>hm.heap b o (fun l=>?_) (G b o hb e)) P (by rw [avb u];exact B)
  rcases aA9.mp l with X | l
  ·exact hb X
  ·rw [aC2] at l
   subst l
   exact absurd (aJ2 e) (Nat.not_lt.mpr N)
 have q:=aJ2 Q
 have y:a < s.heap.objs.size:=let ⟨_,e,_⟩:=x;aJ2 e
 unfold Builtin.List.listExtendWith
 refine aI9 (wpAny_typeOf (T:="set") x.ty ?_)
 have Z:Builtin.List.listSameRef (.ref S) (.ref a)=false:=by simp [Builtin.List.listSameRef,C]
 have h2:(Value.type "set" == Value.type "list")=false:=by decide
 have h3:(Value.type "set" == Value.type "tuple")=false:=by decide
 simp only [Z,h2,h3,Bool.or_false,Bool.false_eq_true,if_false]
 have n:∀ (U:Bool) (I:Addr) (fp:List Addr) (St:Nat->Heap->Prop) (g:List Value) (d:Drawn) (h:Heap),Walks prog w A.in1 I fp [I] es.size (fun i v=>g[i]?=some v) St->S ∉ fp->s.heap.objs.size<=I->g.Perm (es.toList.map (·.2))->St 0 h->(∀ b o,s.heap.get? b=some o->h.get? b=some o)->
   wpAny (model prog w) A.in1 (holding [.ref I] (Builtin.List.listLengthHint (.ref a)) >>= fun room=>if (room || U)=true then (rule "list.extend.makes-room" >>= fun _=>Builtin.List.listTouch (.ref S) >>= fun _=>again (.builtin "list.extend.loop" ⟨[.ref S,.ref I,res],[]⟩)) else again (.builtin "list.extend.loop" ⟨[.ref S,.ref I,res],[]⟩)) (fun fin s'=>match fin with | .done f=>R (.ok f) s' | .again E=>E.quiet=true/\codeAny (model prog w) A E R s') (fun e s'=>R (.error e) s') { s with heap:=h,drawn:=d }:=by
  intro U I fp St g d h W m N B st G
  have j:=G _ _ Q
  refine aI9 (aJ5 (ax3 (s:={ s with heap:=h,drawn:=d }) (SetR.ty (s:={ s with heap:=h,drawn:=d }) (x.at fun o e=>G a o e)) ?_))
  refine wpAny_ite_split (fun _=>?_) (fun _=>aJ0 ⟨plainId_quiet PySem.F.plain_extend_loop _,H I fp St g d h z _ W m N B st (fun b o _ e=>G b o e) j⟩)
  refine aI9 (wpAny_rule ?_)
  refine aI9 ?_
  show wpAny _ _ (updateSeq S (·.push .none) >>= fun _=>updateSeq S (·.pop)) _ _ _
  refine aI9 (wpAny_updateSeq j rfl ?_)
  have r:=aK5 (Obj.mapSeq (·.push Value.none)) j rfl
  refine wpAny_updateSeq (hz:=by seq_fits) r rfl ?_
  have D:=aK5 (Obj.mapSeq (·.pop)) r rfl
  refine aJ0 ⟨plainId_quiet PySem.F.plain_extend_loop _,H I fp St g d _ _ _ W m N B ?_ (fun b o hb e=>?_) D⟩
  ·refine W.frame 0 _ _ st fun b hb o e=>?_
   have K:b ≠ S:=fun h=>m (h ▸ hb)
   exact (aJ7 _ _ (Ne.symm K)).trans ((aJ7 _ _ (Ne.symm K)).trans e)
  ·exact (aJ7 _ _ (Ne.symm hb)).trans ((aJ7 _ _ (Ne.symm hb)).trans (G b o e))
 refine aI9 (ax1 x hz (fun hd=>?_) fun hd pl d B=>?_)
 ·exact n _ s.heap.objs.size _ _ ((ord w a es ep).map (·.2)) s.drawn _ (walks (A:=A.in1) (prog:=prog) (w:=w) (t:=t) (ep:=ep) hh (aB6 y) hd) (by simp only [aA9,aI3,or_false,not_or];exact ⟨aB6 q,C⟩) (aA6 _) (ord_perm.map _)
   ⟨0,⟨_,aJ3 _ rfl,rfl,rfl⟩,x.at fun o e=>aJ1 _ e,fun _=>rfl⟩ fun b o e=>aJ1 _ e
 ·refine n _ (s.heap.objs.size+1) _ _ (ordD es pl) d _ (a0m (A:=A.in1) (prog:=prog) (w:=w) (t:=t) (ep:=ep) (tu:=s.heap.objs.size) hh (aB6 (aF8 y)) (aB6 (Nat.lt_succ_self _)) B) (by simp only [aA9,aI3,or_false,not_or];exact ⟨aB6 (aF8 q),C,aB6 q⟩) (Nat.le_succ _) (asn B)
   ⟨⟨itO (.ref s.heap.objs.size) a es.size ep,?_,rfl,rfl⟩,x.at fun o e=>aJ1 _ (aJ1 _ e),aJ1 _ (aJ3 _ rfl)⟩ fun b o e=>aJ1 _ (aJ1 _ e)
  have:=aJ3 (s.heap.push (tuO pl)) (o:=itO (.ref s.heap.objs.size) a es.size ep) rfl
  rw [aK1] at this
  exact this
theorem an2 {Q:List Value->Shared->Prop} (hh:A.handled=none) (x:SetR prog w a es ep t s.heap) (hz:es.size<=sizeLine)
  (m:∀ h' i d (vs:List Value),(∀ b o,s.heap.get? b=some o->h'.get? b=some o)->s.heap.objs.size<=h'.objs.size->vs.Perm (es.toList.map (·.2))->Q vs { s with heap:=h',toks:=i,drawn:=d }):wpAny (model prog w) A (collect (.ref a)) Q E s:=by
 unfold collect
 refine aI9 (wpAny_runValue (aK6 PySem.F.entry_proto_collect ?a1))
 case a1 =>
  rw [aK0 PySem.F.plain_proto_collect _];show wpAny _ A.in1 (newList [] >>= fun l=>again (.builtin "list.__iadd__" ⟨[l,.ref a],[]⟩)) _ _ s
  refine aI9 (aJ9 (aJ0 ⟨plainId_quiet PySem.F.plain_list_iadd _,aK6 PySem.F.entry_list_iadd ?a2⟩))
  case a2 =>
   rw [aK0 PySem.F.plain_list_iadd _];show wpAny _ A.in1 (Builtin.List.listExtendWith (.ref s.heap.objs.size) (.ref a) (.ref s.heap.objs.size)) _ _ _
   have n:(s.heap.push { cls:=.type "list",data:=.seq ([]:List Value).toArray }).get? s.heap.objs.size=some { cls:=.type "list",data:=.seq #[] 0 }:=aJ3 _ rfl
   have g:a < s.heap.objs.size:=let ⟨_,e,_⟩:=x;aJ2 e
   refine a0n (R:=wants (fun v s'=>wpAny (model prog w) A (match v with | .ref a=>(do match (← load a).data with | .seq xs _=>pure xs.toList | _=>unsupported "internal:collect") | _=>unsupported "internal:collect") Q E s') E) (s:={ s with heap:=s.heap.push { cls:=.type "list",data:=.seq ([]:List Value).toArray } }) hh (x.at fun o e=>aJ1 _ e) hz s.heap.objs.size (Nat.ne_of_gt g) _ 0 n (fun h' i d j c k h f=>?a3)
   case a3 =>
    show wpAny (model prog w) A _ Q E _
    refine aI9 (wpAny_load h ?a4)
    case a4=>exact aJ0 (m h' i d j.toList (fun b o e=>k b o (aB6 (aJ2 e)) (aJ1 _ e)) (aG5 (aJ2 h)) f)
end
section
variable {prog:Program} {w:World} {A:Around} {E:Value->Shared->Prop} {s:Shared} {a:Addr}
end
end SS
namespace L2
open PySem PySem.W PyProof.Rows
section
variable {X:Cx}
theorem Inv.drawn' {pins:List (Addr × Obj)} {σ:St} {H:Hp} {s:Shared} (I:Inv X pins σ H s) (d:Drawn):Inv X pins σ H { s with drawn:=d }:=⟨I.ok,I.os,I.bare,I.base,I.loc,I.cell,I.free,I.freeC,I.pin,I.hok,I.len⟩
end
end L2
namespace VL
open PySem PySem.Spec L2
section
variable {B:Bs} {env:En} {QO:Sl->En->Prop} {K:Frag} {ta:TA} {P:Program} {w:World}
end
end VL
namespace SH
open PySem PySem.SetTable
def it:Nat->Nat->Nat
 | 0,x=>x
 | n+1,x=>it n (5 * x+1)
theorem aio:∀ (a b x:Nat),it (a+b) x=it b (it a x)
 | 0,b,x=>by rw [Nat.zero_add];rfl
 | a+1,b,x=>by rw [Nat.add_right_comm];exact aio a b (5 * x+1)
theorem a0o (m:Nat):∃ c d:Nat,∀ x,it (2 ^ m) x=(1+2 ^ (m+2) * c) * x+2 ^ m * (2 * d+1):=by
 induction m with
 | zero=>exact ⟨1,0,fun x=>by show 5 * x+1=_;omega⟩
 | succ m ih =>
  obtain ⟨c,d,h⟩:=ih
  refine ⟨c+2 ^ (m+1) * (c * c),d+2 ^ m * c * (2 * d+1),fun x=>?_⟩
  rw [show 2 ^ (m+1)=2 ^ m+2 ^ m by rw [Nat.pow_succ];omega,aio,h,h]
  have b:2 ^ (m+2)=4 * 2 ^ m:=by rw [Nat.pow_add];omega
  have a:2 ^ (m+1+2)=8 * 2 ^ m:=by rw [Nat.pow_add,Nat.pow_succ];omega
  rw [b,a]
  generalize 2 ^ m=P
  grind
theorem a0p (m:Nat) (x j:Nat):∃ r,r < 2 ^ m/\it r x % 2 ^ m=j % 2 ^ m:=by
 induction m with
 | zero=>exact ⟨0,by decide,by rw [Nat.pow_zero,Nat.mod_one,Nat.mod_one]⟩
 | succ m ih =>
  obtain ⟨r,p,e⟩:=ih
  obtain ⟨c,d,h⟩:=a0o m
  have l:0 < 2 ^ m:=Nat.pow_pos (by decide)
  have i:2 ^ (m+1)=2 ^ m * 2:=Nat.pow_succ ..
  have o:2 ^ (m+2)=2 ^ m * 4:=by rw [Nat.pow_add]
  rw [i]
  have n:=Nat.mod_mul (x:=it r x) (a:=2 ^ m) (b:=2)
  have f:=Nat.mod_mul (x:=j) (a:=2 ^ m) (b:=2)
  by_cases hq:it r x / 2 ^ m % 2=j / 2 ^ m % 2
  ·exact ⟨r,by omega,by rw [n,f,e,hq]⟩
  ·refine ⟨r+2 ^ m,by omega,?_⟩
   rw [aio,h,o]
   have g:(1+2 ^ m * 4 * c) * it r x+2 ^ m * (2 * d+1)=it r x+2 ^ m * (4 * (c * it r x)+2 * d+1):=by
    generalize 2 ^ m=P
    grind
   rw [g,Nat.mod_mul,f,Nat.add_mul_mod_self_left,e,Nat.add_mul_div_left _ _ l]
   have:(it r x / 2 ^ m+(4 * (c * it r x)+2 * d+1)) % 2=j / 2 ^ m % 2:=by
    generalize c * it r x=z
    omega
   rw [this]
theorem ax4 (r x:Nat):it (r+1) x=5 * it r x+1:=by rw [aio];rfl
def adv (mask:Nat) (p:Probe):Probe:=if p.more > 0 then { p with j:=p.j+1,more:=p.more - 1 } else { p with j:=(leap mask p.i p.perturb).1,more:=runEnd mask (leap mask p.i p.perturb).1 - (leap mask p.i p.perturb).1,i:=(leap mask p.i p.perturb).1,perturb:=(leap mask p.i p.perturb).2 }
def pr0 (mask:Nat) (h:Int):Probe:={ j:=bits h % (mask+1),more:=runEnd mask (bits h % (mask+1)) - bits h % (mask+1),i:=bits h % (mask+1),perturb:=bits h,dummy:=none }
def pr (mask:Nat) (h:Int):Nat->Probe
 | 0=>pr0 mask h
 | k+1=>adv mask (pr mask h k)
theorem amy (mask:Nat) (h:Int):∀ k,(pr mask h k).dummy=none
 | 0=>rfl
 | k+1=>by
  have:=amy mask h k
  show (adv mask (pr mask h k)).dummy=none
  unfold adv
  split <;> exact this
def lp (mask:Nat) (h:Int):Nat->Nat × Nat
 | 0=>(bits h % (mask+1),bits h)
 | n+1=>leap mask (lp mask h n).1 (lp mask h n).2
def pAt (mask:Nat) (q:Nat × Nat) (a:Nat):Probe:={ j:=q.1+a,more:=runEnd mask q.1 - q.1 - a,i:=q.1,perturb:=q.2,dummy:=none }
theorem a0q (mask i:Nat):runEnd mask i - i<=9:=by unfold runEnd;split <;> omega
theorem amz {mask:Nat} {h:Int} {s:Nat} {q:Nat × Nat} (e:pr mask h s=pAt mask q 0):∀ a,a<=runEnd mask q.1 - q.1->pr mask h (s+a)=pAt mask q a
 | 0,_=>e
 | a+1,ha=>by
  have b:=amz e a (by omega)
  show adv mask (pr mask h (s+a))=_
  rw [b]
  unfold adv pAt
  rw [aF5 (by show runEnd mask q.1 - q.1 - a > 0;omega)]
  show Probe.mk _ _ _ _ _=Probe.mk _ _ _ _ _
  congr 1
theorem ax5 {mask:Nat} {h:Int} {s:Nat} {q:Nat × Nat} (e:pr mask h s=pAt mask q 0):pr mask h (s+(runEnd mask q.1 - q.1)+1)=pAt mask (leap mask q.1 q.2) 0:=by
 have:=amz e _ (aA6 _)
 show adv mask (pr mask h (s+_))=_
 rw [this]
 unfold adv pAt
 rw [aF6 (by show ¬ (runEnd mask q.1 - q.1 - (runEnd mask q.1 - q.1) > 0);omega)]
 rfl
def sp (mask:Nat) (h:Int):Nat->Nat
 | 0=>0
 | n+1=>sp mask h n+(runEnd mask (lp mask h n).1 - (lp mask h n).1)+1
theorem awd (mask:Nat) (h:Int):∀ n,sp mask h n<=10 * n
 | 0=>aA6 _
 | n+1=>by
  have:=awd mask h n
  have:=a0q mask (lp mask h n).1
  unfold sp
  omega
theorem aqn (mask:Nat) (h:Int):∀ n,pr mask h (sp mask h n)=pAt mask (lp mask h n) 0
 | 0=>rfl
 | n+1=>ax5 (aqn mask h n)
theorem apf (mask:Nat) (h:Int):∀ n,(lp mask h n).2=bits h / 32 ^ n
 | 0=>by show bits h=_;rw [Nat.pow_zero,Nat.div_one]
 | n+1=>by
  show (lp mask h n).2 / 32=_
  rw [apf mask h n,Nat.div_div_eq_div_mul,Nat.pow_succ]
theorem ax6 (h:Int):bits h < 2 ^ 64:=by
 unfold bits
 have b:=Int.emod_nonneg h (show (2 ^ 64:Int) ≠ 0 by decide)
 have a:=Int.emod_lt_of_pos h (show (0:Int) < 2 ^ 64 by decide)
 omega
theorem ax7 (mask:Nat) (h:Int) (r:Nat):(lp mask h (13+r)).2=0:=by
 rw [apf]
 apply Nat.div_eq_of_lt
 refine aC5 (ax6 h) ?_
 rw [Nat.pow_add]
 exact aD0 (show 2 ^ 64<=32 ^ 13 by decide) (Nat.le_mul_of_pos_right _ (Nat.pow_pos (by decide)))
theorem awe (mask:Nat) (h:Int):∀ r,(lp mask h (13+r)).1 % (mask+1)=it r (lp mask h 13).1 % (mask+1)
 | 0=>rfl
 | r+1=>by
  show ((lp mask h (13+r)).1 * 5+1+(lp mask h (13+r)).2 / 32) % (mask+1) % (mask+1)=_
  rw [ax7,ax4,Nat.mod_mod,show 0 / 32=0 from rfl,Nat.add_zero,Nat.add_mod,Nat.mul_mod,awe mask h r,← Nat.mul_mod,← Nat.add_mod,Nat.mul_comm]
theorem awf (mask:Nat) (h:Int):∀ n,(lp mask h n).1 < mask+1
 | 0=>Nat.mod_lt _ (Nat.succ_pos _)
 | n+1=>Nat.mod_lt _ (Nat.succ_pos _)
theorem aso {mask m:Nat} (hm:mask+1=2 ^ m) (h:Int) (j:Nat) (b:j<=mask):∃ n,n < mask+14/\(lp mask h n).1=j:=by
 obtain ⟨r,c,e⟩:=a0p m (lp mask h 13).1 j
 refine ⟨13+r,by omega,?_⟩
 have a:=awe mask h r
 rw [hm,e,← hm,Nat.mod_eq_of_lt (awf mask h _),Nat.mod_eq_of_lt (show j < mask+1 by omega)] at a
 exact a
theorem a0r {mask m:Nat} (hm:mask+1=2 ^ m) (h:Int) (j:Nat) (a:j<=mask):∃ k,k < 10 * turns mask/\(pr mask h k).j=j:=by
 obtain ⟨n,hn,e⟩:=aso hm h j a
 refine ⟨sp mask h n,?_,by rw [aqn];exact e⟩
 have:=awd mask h n
 unfold turns
 omega
structure TOk (t:SetTable):Prop where
 ris:t.place.toList.Pairwise (· < ·)
 dum:t.dummies = #[]
 le:∀ j∈t.place.toList,j<=t.mask
 two:∃ m,t.mask+1=2 ^ m
 room:t.place.size<=t.mask
theorem ady {t:SetTable} (x:TOk t) {j i:Nat}:t.slot j=.live i ↔ t.place.toList[i]?=some j:=by
 have hb:=SS.below_ok t.place j x.ris
 unfold slot
 dsimp only
 rw [x.dum,SS.has_nil]
 constructor
 ·intro h
  split at h
  ·rename_i e
   cases h
   have e:=eq_of_beq e
   rw [aD6]
   exact e
  ·cases h
 ·intro h
  obtain ⟨hi,e⟩:=aA1.mp h
  have b:below t.place j=i:=by
   rcases Nat.lt_trichotomy (below t.place j) i with a | a | a
   ·have c:=hb.2.2 (below t.place j) (by omega) (aA6 _)
    have d:=aG7.mp x.ris (below t.place j) i (by omega) hi a
    omega
   ·exact a
   ·have:=hb.2.1 i hi a
    omega
  rw [b,aF5 (by rw [← aD6,h];exact beq_self_eq_true _)]
theorem aip {t:SetTable} (x:TOk t) (j:Nat):t.slot j=.empty\/∃ i,t.slot j=.live i:=by
 unfold slot
 dsimp only
 rw [x.dum,SS.has_nil]
 split
 ·exact .inr ⟨_,rfl⟩
 ·exact .inl rfl
theorem ada {t:SetTable} (x:TOk t) {j:Nat}:t.slot j=.empty ↔ j ∉ t.place.toList:=by
 constructor
 ·intro h hm
  obtain ⟨i,hi⟩:=aD3 hm
  rw [(ady x).mpr hi] at h
  cases h
 ·intro h
  rcases aip x j with e | ⟨i,e⟩
  ·exact e
  ·exact absurd (aA2 ((ady x).mp e)) h
theorem asp {t:SetTable} (x:TOk t):∃ j,j<=t.mask/\t.slot j=.empty:=by
 apply aD5
 intro hn
 have a:∀ j∈List.range (t.mask+1),j∈t.place.toList:=fun j b=>by
  have b:=aB9.mp b
  apply aD5
  intro h
  exact hn ⟨j,by omega,(ada x).mpr h⟩
 have:=List.Nodup.length_le_of_subset List.nodup_range a
 rw [aE1,aA8] at this
 have:=x.room
 omega
theorem am0 {t:SetTable} (x:TOk t) {ha:Nat->Int} {h:Int}:∀ (c k:Nat),(∃ k1,k<=k1/\k1 < k+c/\t.slot (pr t.mask h k1).j=.empty) ->
  ∃ k1,k<=k1/\k1 < k+c/\(∀ d,k<=d->d < k1->∃ i,t.slot (pr t.mask h d).j=.live i/\ha i ≠ h) /\
   ((t.slot (pr t.mask h k1).j=.empty ∧ probe.go t ha h c (pr t.mask h k)=some (.empty (pr t.mask h k1).j none)) ∨
    ∃ i,t.slot (pr t.mask h k1).j=.live i/\ha i=h/\probe.go t ha h c (pr t.mask h k)=some (.candidate (pr t.mask h k1).j i (pr t.mask h (k1+1))))
 | 0,k,⟨k1,h1,h2,_⟩=>by omega
 | c+1,k,⟨k1,h1,h2,h3⟩=>by
  rcases aip x (pr t.mask h k).j with e | ⟨i,e⟩
  ·refine ⟨k,aA6 _,by omega,fun d a b=>by omega,.inl ⟨e,?_⟩⟩
   unfold probe.go
   rw [e,amy]
  ·by_cases hi:ha i=h
   ·refine ⟨k,aA6 _,by omega,fun d a b=>by omega,.inr ⟨i,e,hi,?_⟩⟩
    unfold probe.go
    rw [e]
    dsimp only
    rw [aF5 (by rw [hi];exact beq_self_eq_true _)]
    rfl
   ·have f:k+1<=k1:=by
     rcases Nat.lt_or_eq_of_le h1 with h | h
     ·exact h
     ·rw [← h,e] at h3;cases h3
    obtain ⟨k2,a1,o,g,l⟩:=am0 x (ha:=ha) (h:=h) c (k+1) ⟨k1,f,by omega,h3⟩
    have n:probe.go t ha h (c+1) (pr t.mask h k)=probe.go t ha h c (pr t.mask h (k+1)):=by
     conv=>lhs;unfold probe.go
     rw [e]
     dsimp only
     rw [aF6 (by intro z;exact hi (eq_of_beq z))]
     rfl
    refine ⟨k2,by omega,by omega,fun d b1 m=>?_,?_⟩
    ·rcases Nat.lt_or_eq_of_le b1 with b | b
     ·exact g d (by omega) m
     ·exact ⟨i,by rw [← b];exact e,hi⟩
    ·rw [n]
     exact l
def HI (t:SetTable) (es:List (Int × Value)):Prop:=es.length=t.place.size/\∀ (i:Nat) (e:Int × Value) (j:Nat),es[i]?=some e->t.place.toList[i]?=some j->∃ k,(pr t.mask e.1 k).j=j/\∀ k',k' < k->t.slot (pr t.mask e.1 k').j ≠ .empty
theorem HI.found {t:SetTable} {es:List (Int × Value)} (x:TOk t) (b:HI t es) {h:Int} {k1:Nat} (f:t.slot (pr t.mask h k1).j=.empty) {i:Nat} {e:Int × Value} (hi:es[i]?=some e) (hh:e.1=h):∃ k,k < k1/\t.slot (pr t.mask h k).j=.live i:=by
 have d:i < t.place.toList.length:=by rw [aA8,← b.1];exact (aA1.mp hi).1
 obtain ⟨k,g,c⟩:=b.2 i e _ hi (aA0 d)
 rw [hh] at g c
 have hs:t.slot (pr t.mask h k).j=.live i:=(ady x).mpr (by rw [g];exact aA0 d)
 refine ⟨k,?_,hs⟩
 rcases Nat.lt_trichotomy k k1 with a | a | a
 ·exact a
 ·subst a;rw [f] at hs;cases hs
 ·exact absurd f (c k1 a)
theorem ins_get {α:Type} (l:List α) (p:Nat) (x : α) (b:p<=l.length) (i:Nat):(l.take p ++ x :: l.drop p)[i]?=if i < p then l[i]? else if i=p then some x else l[i - 1]?:=by
 have a:(l.take p).length=p:=by rw [aH0];omega
 by_cases h1:i < p
 ·rw [aF5 h1,aC3 (by omega),List.getElem?_take,aF5 h1]
 ·rw [aF6 h1,aC8 (by omega),a]
  by_cases h2:i=p
  ·rw [aF5 h2,h2,aI6];rfl
  ·rw [aF6 h2]
   obtain ⟨d,hd⟩:∃ d,i - p=d+1:=⟨i - p - 1,by omega⟩
   rw [hd,List.getElem?_cons_succ,aI2,show p+d=i - 1 by omega]
theorem adz (t:SetTable) (j:Nat):(t.put j).1.place.toList=t.place.toList.take (below t.place j) ++ j :: t.place.toList.drop (below t.place j):=SetTable.toList_insertAt ..
theorem avc (t:SetTable) (j:Nat):(t.put j).1.mask=t.mask:=rfl
theorem TOk.put {t:SetTable} (x:TOk t) {j:Nat} (d:j<=t.mask) (c:t.slot j=.empty) (b:t.place.size+1<=t.mask):TOk (t.put j).1:=by
 have hb:=SS.below_ok t.place j x.ris
 refine ⟨?_,?_,fun q a=>?_,x.two,?_⟩
 ·refine SS.put_rise x.ris fun e=>?_
  exact (ada x).mp c (by rw [← aD6] at e;exact aA2 e)
 ·show (if has t.dummies j=true then _ else t.dummies) = #[]
  rw [x.dum,SS.has_nil];rfl
 ·rw [adz] at a
  rcases aA7.mp a with h | h
  ·exact x.le q (aC0 h)
  ·rcases aA9.mp h with h | h
   ·rw [h];exact d
   ·exact x.le q (aC4 h)
 ·have:(t.put j).1.place.toList.length=t.place.toList.length+1:=by
   rw [adz,aB1,aE6,aH0,aI7]
   have:=hb.1
   simp only [aA8]
   omega
  simp only [aA8] at this
  rw [this]
  exact b
theorem HI.put {t:SetTable} {es:List (Int × Value)} (x:TOk t) (l:HI t es) {j:Nat} (y:j<=t.mask) (v:t.place.size+1<=t.mask) {e:Int × Value} {k1:Nat} (p:(pr t.mask e.1 k1).j=j) (w:t.slot j=.empty) (u:∀ d,d < k1->t.slot (pr t.mask e.1 d).j ≠ .empty) :
  HI (t.put j).1 (es.take (below t.place j) ++ e :: es.drop (below t.place j)):=by
 have hb:=SS.below_ok t.place j x.ris
 have o:=x.put y w v
 have s:es.length=t.place.toList.length:=by rw [aA8];exact l.1
 have g:below t.place j<=t.place.toList.length:=by rw [aA8];exact hb.1
 have b:∀ q,t.slot q ≠ .empty->(t.put j).1.slot q ≠ .empty:=fun q r z=>by
  rw [ada o] at z
  refine r ((ada x).mpr fun hm=>z ?_)
  rw [adz]
  rw [← aC1 (below t.place j) t.place.toList] at hm
  rcases aA7.mp hm with h | h
  ·exact aC7 _ h
  ·exact aB3 _ (aB5 _ h)
 refine ⟨?_,fun i n j' hi a=>?_⟩
 ·have f:(t.put j).1.place.toList.length=es.length+1:=by
   rw [adz,aB1,aE6,aH0,aI7]
   omega
  rw [← aA8,f,aB1,aE6,aH0,aI7]
  omega
 ·rw [adz,ins_get _ _ _ g] at a
  rw [ins_get _ _ _ (by omega)] at hi
  rw [avc]
  by_cases f:i < below t.place j
  ·rw [aF5 f] at hi a
   obtain ⟨k,a1,m⟩:=l.2 i n j' hi a
   exact ⟨k,a1,fun d c=>b _ (m d c)⟩
  ·rw [aF6 f] at hi a
   by_cases h2:i=below t.place j
   ·rw [aF5 h2] at hi a
    cases hi
    cases a
    exact ⟨k1,p,fun d c=>b _ (u d c)⟩
   ·rw [aF6 h2] at hi a
    obtain ⟨k,a1,m⟩:=l.2 (i - 1) n j' hi a
    exact ⟨k,a1,fun d c=>b _ (m d c)⟩
def ow (owner:Array (Option Nat)) (j:Nat):Option Nat:=owner.getD j none
theorem aqo (f:Nat->Bool):∀ (n:Nat),(∃ k,(List.range n).find? f=some k/\k < n/\f k=true/\∀ a,a < k->f a=false)\/((List.range n).find? f=none/\∀ a,a < n->f a=false):=fun n=>by
 cases h:(List.range n).find? f with
 | none =>
  refine .inr ⟨rfl,fun a b=>?_⟩
  have:=List.find?_eq_none.mp h a (aB9.mpr b)
  simpa using this
 | some k =>
  refine .inl ⟨k,rfl,aB9.mp (List.mem_of_find?_eq_some h),List.find?_some h,fun a b=>?_⟩
  rw [List.find?_range_eq_some] at h
  have:=h.2.2 a b
  simpa using this
theorem apg {mask:Nat} {owner:Array (Option Nat)} (l:owner.size=mask+1) {h:Int} {ne o:Nat} (i:(lp mask h ne).1=o) (g:ow owner o=none) (f:o<=mask):∀ (b n:Nat),n+b > ne->n<=ne->(∀ s',s' < sp mask h n->ow owner (pr mask h s').j ≠ none) ->
  ∃ s,layClean.free mask owner b (lp mask h n).1 (lp mask h n).2=some (pr mask h s).j/\ow owner (pr mask h s).j=none/\(pr mask h s).j<=mask/\∀ s',s' < s->ow owner (pr mask h s').j ≠ none
 | 0,n,h1,h2,_=>by omega
 | b+1,n,h1,h2,hall=>by
  have A:=awf mask h n
  have v:runEnd mask (lp mask h n).1<=mask/\(lp mask h n).1<=runEnd mask (lp mask h n).1:=by unfold runEnd;split <;> omega
  have t:∀ j,j<=mask->owner.getD j (some 0)=ow owner j:=fun j C=>by
   unfold ow
   simp [Array.getD,l,show j < mask+1 by omega]
  have d:∀ a,a<=runEnd mask (lp mask h n).1 - (lp mask h n).1->(pr mask h (sp mask h n+a)).j=(lp mask h n).1+a:=fun a ha=>by rw [amz (aqn mask h n) a ha];rfl
  have c:∀ K,K<=runEnd mask (lp mask h n).1 - (lp mask h n).1+1->(∀ m,m < K->(owner.getD ((lp mask h n).1+m) (some 0)).isNone=false)->∀ s',s' < sp mask h n+K->ow owner (pr mask h s').j ≠ none:=fun K y hf s' r=>by
   by_cases hs:s' < sp mask h n
   ·exact hall s' hs
   ·obtain ⟨a,rfl⟩:∃ a,s'=sp mask h n+a:=⟨s' - sp mask h n,by omega⟩
    rw [d a (by omega),← t _ (by omega)]
    intro z
    have:=hf a (by omega)
    rw [z] at this
    cases this
  unfold layClean.free
  rcases aqo (fun k=>(owner.getD ((lp mask h n).1+k) (some 0)).isNone) (runEnd mask (lp mask h n).1+1 - (lp mask h n).1) with ⟨k,e,B,p,q⟩ | ⟨e,hf⟩
  ·rw [e]
   refine ⟨sp mask h n+k,by rw [d k (by omega)],?_,by rw [d k (by omega)];omega,c k (by omega) q⟩
   rw [d k (by omega),← t _ (by omega)]
   simpa using p
  ·rw [e]
   have u:n ≠ ne:=fun z=>by
    subst z
    have:=hf 0 (by omega)
    rw [Nat.add_zero,i,t o f,g] at this
    cases this
   have w:=apg l i g f b (n+1) (by omega) (by omega) (fun s' r=>c _ (aA6 _) (fun m x=>hf m (by omega)) s' (by
    have:sp mask h (n+1)=sp mask h n+(runEnd mask (lp mask h n).1 - (lp mask h n).1)+1:=rfl
    omega))
   exact w
structure Lay (mask:Nat) (hs:List Int) (owner:Array (Option Nat)):Prop where
 sz:owner.size=mask+1
 at':∀ k h,hs[k]?=some h->∃ s,(pr mask h s).j<=mask/\ow owner (pr mask h s).j=some k/\∀ s',s' < s->ow owner (pr mask h s').j ≠ none
 un:∀ j k,ow owner j=some k->k < hs.length
 inj:∀ j j' k,ow owner j=some k->ow owner j'=some k->j=j'
theorem a0s {owner:Array (Option Nat)} {j:Nat} (h:owner.size<=j):ow owner j=none:=by
 unfold ow
 simp [Array.getD,show ¬ (j < owner.size) by omega]
theorem Lay.start (mask:Nat):Lay mask [] (Array.replicate (mask+1) none):=by
 have hn:∀ j,ow (Array.replicate (mask+1) none) j=none:=fun j=>by
  unfold ow
  simp only [Array.getD]
  split
  ·simp
  ·rfl
 exact ⟨by simp,fun k h a=>by simp at a,fun j k e=>(by rw [hn] at e;cases e),fun j j' k e=>(by rw [hn] at e;cases e)⟩
theorem Lay.gap {mask:Nat} {hs:List Int} {owner:Array (Option Nat)} (x:Lay mask hs owner) (m:hs.length<=mask):∃ j,j<=mask/\ow owner j=none:=by
 apply aD5
 intro hn
 have c:∀ j,j<=mask->∃ k,ow owner j=some k:=fun j h=>by
  cases e:ow owner j with
  | some k=>exact ⟨k,rfl⟩
  | none=>exact absurd ⟨j,h,e⟩ hn
 have i:((List.range (mask+1)).map fun j=>(ow owner j).getD 0).Nodup:=by
  rw [List.Nodup,aG1]
  refine aI0 (fun {a b} ha hb g=>?_) List.nodup_range
  obtain ⟨k,f⟩:=c a (by have:=aB9.mp ha;omega)
  obtain ⟨l,d⟩:=c b (by have:=aB9.mp hb;omega)
  rw [f,d]
  intro e
  have e:k=l:=e
  subst e
  exact g (x.inj a b k f d)
 have:=List.Nodup.length_le_of_subset (l₂:=List.range hs.length) i fun k f=>by
  obtain ⟨j,h,rfl⟩:=aB7.mp f
  obtain ⟨k,e⟩:=c j (by have:=aB9.mp h;omega)
  rw [e]
  exact aB9.mpr (x.un j k e)
 rw [aA3,aE1,aE1] at this
 omega
theorem af8 {owner:Array (Option Nat)} {j q:Nat} {o:Option Nat} (a:j < owner.size):ow (owner.setIfInBounds j o) q=if q=j then o else ow owner q:=by
 unfold ow
 simp only [Array.getD,Array.size_setIfInBounds]
 by_cases e:q=j
 ·subst e
  simp [a]
 ·rw [aF6 e]
  split
  ·rename_i hq
   simp [Array.getElem_setIfInBounds,hq,Ne.symm e]
  ·rfl
theorem Lay.next {mask m:Nat} (hm:mask+1=2 ^ m) {hs:List Int} {owner:Array (Option Nat)} (x:Lay mask hs owner) (y:hs.length<=mask) (h:Int) :
  ∃ j,layClean.free mask owner (turns mask) (bits h % (mask+1)) (bits h)=some j/\Lay mask (hs ++ [h]) (owner.setIfInBounds j (some hs.length)):=by
 obtain ⟨A,f,B⟩:=x.gap y
 obtain ⟨ne,w,o⟩:=aso hm h A f
 obtain ⟨s,v,r,n,t⟩:=apg x.sz o B f (turns mask) 0 (by unfold turns;omega) (aG0 _) (fun s' b=>by cases b)
 have a:(pr mask h s).j < owner.size:=by rw [x.sz];omega
 have c:∀ q,ow owner q ≠ none->ow (owner.setIfInBounds (pr mask h s).j (some hs.length)) q ≠ none:=fun q u=>by
  rw [af8 a]
  split
  ·simp
  ·exact u
 refine ⟨_,v,⟨by rw [Array.size_setIfInBounds];exact x.sz,fun k h' i=>?_,fun j k e=>?_,fun j j' k e d=>?_⟩⟩
 ·by_cases hkl:k < hs.length
  ·rw [aC3 hkl] at i
   obtain ⟨s2,a1,l,p⟩:=x.at' k h' i
   refine ⟨s2,a1,?_,fun s' b=>c _ (p s' b)⟩
   rw [af8 a,aF6 (fun z=>by rw [z,r] at l;cases l)]
   exact l
  ·have g:=(aA1.mp i).1
   rw [aB1] at g
   simp at g
   have:k=hs.length:=by omega
   subst this
   rw [aC8 (aA6 _),aI6] at i
   cases i
   exact ⟨s,n,by rw [af8 a,aF5 rfl],fun s' b=>c _ (t s' b)⟩
 ·rw [af8 a] at e
  rw [aB1]
  split at e
  ·cases e;simp
  ·have:=x.un j k e;omega
 ·rw [af8 a] at e d
  split at e
  ·rename_i h1
   cases e
   split at d
   ·rename_i h2;rw [h1,h2]
   ·have:=x.un j' _ d;omega
  ·split at d
   ·cases d
    have:=x.un j _ e;omega
   ·exact x.inj j j' k e d
theorem am1 {mask m:Nat} (hm:mask+1=2 ^ m):∀ (rest pre:List Int) (owner:Array (Option Nat)),Lay mask pre owner->pre.length+rest.length<=mask+1 ->
  ∃ a,rest.foldl (fun (b:Option (Array (Option Nat) × Nat)) h=>do
   let (owner,k) ← b
   let j ← layClean.free mask owner (turns mask) (bits h % (mask+1)) (bits h)
   pure (owner.setIfInBounds j (some k),k+1)) (some (owner,pre.length))=some (a,pre.length+rest.length)/\Lay mask (pre ++ rest) a
 | [],pre,owner,x,_=>⟨owner,rfl,by rw [aE9];exact x⟩
 | h :: rest,pre,owner,x,hl=>by
  rw [aE6] at hl
  obtain ⟨j,e,y⟩:=x.next hm (by omega) h
  obtain ⟨o',a1,c⟩:=am1 hm rest (pre ++ [h]) _ y (by rw [aB1,List.length_singleton];omega)
  refine ⟨o',?_,by rw [aB4] at c;exact c⟩
  rw [aB1,List.length_singleton] at a1
  rw [List.foldl_cons,aE6]
  have d:(do
   let (owner,k) ← (some (owner,pre.length):Option (Array (Option Nat) × Nat))
   let j ← layClean.free mask owner (turns mask) (bits h % (mask+1)) (bits h)
   pure (owner.setIfInBounds j (some k),k+1))=some (owner.setIfInBounds j (some pre.length),pre.length+1):=by
   show (layClean.free mask owner (turns mask) (bits h % (mask+1)) (bits h) >>= fun j=>pure (owner.setIfInBounds j (some pre.length),pre.length+1))=_
   rw [e]
   rfl
  rw [d,a1]
  congr 2
  omega
theorem a0t {mask m:Nat} (hm:mask+1=2 ^ m) (hs:Array Int) (c:hs.size<=mask+1):∃ owner,layClean mask hs=some owner/\Lay mask hs.toList owner:=by
 obtain ⟨o,e,x⟩:=am1 hm hs.toList [] _ (Lay.start mask) (by simpa using c)
 refine ⟨o,?_,by simpa using x⟩
 unfold layClean
 rw [← Array.foldl_toList]
 have b:hs.toList.foldl (fun (a:Option (Array (Option Nat) × Nat)) h=>do
   let (owner,k) ← a
   let j ← layClean.free mask owner (turns mask) (bits h % (mask+1)) (bits h)
   pure (owner.setIfInBounds j (some k),k+1)) (some (Array.replicate (mask+1) none,0))=_:=e
 rw [b]
 rfl
def live (owner:Array (Option Nat)) (mask:Nat):List (Nat × Nat):=(List.range (mask+1)).filterMap fun j=>(owner.getD j none).map (j,·)
theorem live_mem {owner:Array (Option Nat)} {mask j k:Nat}:(j,k)∈live owner mask ↔ j<=mask/\ow owner j=some k:=by
 unfold live ow
 rw [List.mem_filterMap]
 constructor
 ·rintro ⟨j',a,e⟩
  have a:=aB9.mp a
  cases h:owner.getD j' none with
  | none=>rw [h] at e;cases e
  | some k'=>rw [h] at e;cases e;exact ⟨by omega,h⟩
 ·rintro ⟨a,e⟩
  exact ⟨j,aB9.mpr (by omega),by rw [e];rfl⟩
theorem ax8 {mask:Nat} {hs:List Int} {owner:Array (Option Nat)} (x:Lay mask hs owner):((live owner mask).map (·.2)).Nodup:=by
 rw [List.Nodup,aG1]
 have d:((live owner mask).map (·.1)).Pairwise (· < ·):=SS.live_rise owner (mask+1)
 rw [aG1] at d
 refine aI0 (fun {a b} ha hb c e=>?_) d
 obtain ⟨j,k⟩:=a
 obtain ⟨j',f⟩:=b
 have e:k=f:=e
 subst e
 have:=x.inj j j' k (live_mem.mp ha).2 (live_mem.mp hb).2
 have c:j < j':=c
 omega
theorem asq {mask:Nat} {hs:List Int} {owner:Array (Option Nat)} (x:Lay mask hs owner):((live owner mask).map (·.2)).Perm (List.range hs.length):=by
 refine (List.perm_ext_iff_of_nodup (ax8 x) List.nodup_range).mpr fun k=>?_
 rw [aB7,aB9]
 constructor
 ·rintro ⟨⟨j,b⟩,h,rfl⟩
  exact x.un j _ (live_mem.mp h).2
 ·intro h
  obtain ⟨s,a1,a,_⟩:=x.at' k _ (aA0 h)
  exact ⟨((pr mask hs[k] s).j,k),live_mem.mpr ⟨a1,a⟩,rfl⟩
theorem akd {α:Type} (xs:List α) (d : α):∀ (l:List Nat),(∀ k∈l,k < xs.length)->l.filterMap (xs[·]?)=l.map fun k=>xs.getD k d
 | [],_=>rfl
 | k :: l,h=>by
  have a:=h k aB8
  rw [List.filterMap_cons,aA0 a,aD1,akd xs d l fun q b=>h q (aB5 _ b),aD4,aA0 a]
  rfl
theorem ax9 {mask m finger moves:Nat} {led plain:Bool} (hm:mask+1=2 ^ m) (es:Array (Int × Value)) (F:es.size<=mask) :
  ∃ t a es',laid mask finger moves led plain (es.map (·.1))=some (t,a)/\a.filterMap (es[·]?)=es'/\es'.size=es.size/\es'.toList.Perm es.toList/\TOk t/\HI t es'.toList/\t.mask=mask/\t.place.size=es.size/\t.led=led/\t.plain=plain:=by
 obtain ⟨owner,e,x⟩:=a0t hm (es.map (·.1)) (by simp;omega)
 have d:(es.map (·.1)).toList.length=es.size:=by simp
 have u:=asq x
 rw [d] at u
 have o:(live owner mask).length=es.size:=by have:=u.length_eq;simpa using this
 have l:=akd es.toList (0,Value.none) ((live owner mask).map (·.2)) fun k r=>by rw [aA8];exact aB9.mp (u.mem_iff.mp r)
 have c:((((live owner mask).map (·.2)).toArray).filterMap (es[·]?)).toList=((live owner mask).map (·.2)).map fun k=>es.toList.getD k (0,.none):=by
  rw [← l]
  simp
 have f:(((live owner mask).map (·.1)).toArray).toList=(live owner mask).map (·.1):=by simp
 have y:TOk { mask,place:=((live owner mask).map (·.1)).toArray,dummies:=#[],finger,led,moves,plain }:=by
  refine ⟨by show (((live owner mask).map (·.1)).toArray).toList.Pairwise _;rw [f];exact SS.live_rise owner (mask+1),rfl,fun j b=>?_,⟨m,hm⟩,?_⟩
  ·have b:j∈(live owner mask).map (·.1):=by simpa using b
   obtain ⟨⟨j',k⟩,h,rfl⟩:=aB7.mp b
   exact (live_mem.mp h).1
  ·simp only [aB2,aA3]
   omega
 refine ⟨_,_,_,by unfold laid;rw [e];rfl,rfl,?_,?_,y,⟨?_,fun i q j hi b=>?_⟩,rfl,?_,rfl,rfl⟩
 ·rw [← aA8]
  refine Eq.trans (congrArg List.length c) ?_
  rw [aA3,aA3]
  exact o
 ·refine (List.Perm.of_eq c).trans ?_
  have C:es.toList=(List.range es.size).map fun k=>es.toList.getD k (0,.none):=by
   refine aG2 fun k=>?_
   rw [aA5]
   by_cases r:k < es.size
   ·rw [aD9 r,aA0 (by rw [aA8];exact r),aI1,aD4,aA0 (by rw [aA8];exact r)]
    rfl
   ·rw [aE3 (by rw [aA8];omega),aE3 (by rw [aE1];omega)]
    rfl
  refine (u.map _).trans ?_
  rw [← C]
 ·refine Eq.trans (congrArg List.length c) ?_
  rw [aA3,aA3]
  simp
 ·have hi:=(congrArg (·[i]?) c).symm.trans hi
  have b:((live owner mask).map (·.1))[i]?=some j:=by simpa using b
  rw [aE0,aA5] at hi
  rw [aA5] at b
  cases hli:(live owner mask)[i]? with
  | none=>rw [hli] at b;cases b
  | some p =>
   obtain ⟨j',k⟩:=p
   rw [hli] at hi b
   cases b
   have n:=live_mem.mp (aA2 hli)
   have g:k < es.size:=by have:=x.un _ _ n.2;rwa [d] at this
   have B:q=es.toList.getD k (0,.none):=by simpa using hi.symm
   have hh:(es.map (·.1)).toList[k]?=some q.1:=by
    rw [B,Array.toList_map,aA5,aA0 (by rw [aA8];exact g),aD4,aA0 (by rw [aA8];exact g)]
    rfl
   obtain ⟨s,a1,E,A⟩:=x.at' k _ hh
   refine ⟨s,x.inj _ _ k E n.2,fun s' w z=>?_⟩
   have hn:=A s' w
   cases ho:ow owner (pr mask q.1 s').j with
   | none=>exact hn ho
   | some k' =>
    have v:(pr mask q.1 s').j<=mask:=by
     apply aD5
     intro D
     rw [a0s (by rw [x.sz];omega)] at ho
     cases ho
    refine (ada y).mp z ?_
    show _∈(((live owner mask).map (·.1)).toArray).toList
    rw [f]
    exact aB7.mpr ⟨_,live_mem.mpr ⟨v,ho⟩,rfl⟩
 ·simp only [aB2,aA3]
  exact o
theorem am2 (n:Nat):∀ (c a:Nat),n < 2 ^ (a+c)->∃ b,sizeAbove.go n c (2 ^ a)=2 ^ b/\n < 2 ^ b/\a<=b/\(2 ^ b=2 ^ a\/2 ^ b<=2 * n)
 | 0,a,h=>⟨a,rfl,by simpa using h,aA6 _,.inl rfl⟩
 | c+1,a,h=>by
  unfold sizeAbove.go
  by_cases hs:2 ^ a<=n
  ·rw [aF5 hs,← Nat.pow_succ]
   obtain ⟨b,f,g,i,d⟩:=am2 n c (a+1) (by rw [show a+1+c=a+(c+1) by omega];exact h)
   refine ⟨b,f,g,by omega,.inr ?_⟩
   rcases d with d | d
   ·rw [d,Nat.pow_succ];omega
   ·exact d
  ·rw [aF6 hs]
   exact ⟨a,rfl,by omega,aA6 _,.inl rfl⟩
theorem avd {n:Nat} (h:n<=100000):∃ m,sizeAbove n=2 ^ m/\n < 2 ^ m/\3<=m/\(2 ^ m=8\/2 ^ m<=2 * n):=by
 obtain ⟨b,c,d,a,f⟩:=am2 n 64 3 (aE4 h (by decide))
 exact ⟨b,c,d,a,f⟩
theorem asr {m n:Nat} (h:2 ^ m<=2 * n) (hn:n < 8192):2 ^ m<=8192:=by
 apply aD5
 intro b
 have:13 < m:=(Nat.pow_lt_pow_iff_right (a:=2) (by decide)).mp (by show 2 ^ 13 < 2 ^ m;omega)
 have:=Nat.pow_le_pow_right (n:=2) (by decide) (show 14<=m by omega)
 omega
end SH
namespace SH
open PySem PySem.W PyProof.Rows
section
variable {prog:Program} {w:World} {A:Around} {E:Value->Shared->Prop} {s:Shared} {U:Addr->Prop}
abbrev TK (prog:Program) (w:World):=tupleKind (intKind prog w)
theorem ag7 {ks:List Int} {a:Addr} {Q:Bool->Shared->Prop} (f:(TK prog w).is s.heap ks a) (h:Q false s):wpAny (model prog w) A (ofAClassStatement 8 (.ref a)) Q E s:=by
 have i:=IsTupleKey.typeIs f
 obtain ⟨o,items,n,g,_,hd,hi⟩:=f
 unfold ofAClassStatement
 refine aI9 (wpAny_typeOf i ?_)
 show wpAny _ _ (pure true >>= _) _ _ s
 refine aI9 (aJ0 ?_)
 simp only [Bool.not_true,Bool.false_eq_true,if_false]
 refine aI9 (wpAny_seqItems g hd ?_)
 refine aI9 ?_
 show wpAny _ _ (forIn items _ _) _ _ s
 rw [← Array.forIn_toList]
 refine wpAny_forIn_list _ (fun rest r s'=>r.1=none/\s'=s/\∀ v∈rest,carriedByValue v=true) _ ?_ ?_ _ _ ⟨rfl,rfl,hi.byValue⟩
 ·rintro v rest r s' ⟨d,rfl,b⟩
  have j:=b v aB8
  have e:ofAClassStatement 7 v=pure false:=by
   cases v <;> first | (simp [carriedByValue] at j;done) | (unfold ofAClassStatement;rfl)
  rw [e]
  refine aI9 (aJ0 ?_)
  simp only [Bool.false_eq_true,if_false]
  exact aJ0 ⟨rfl,rfl,fun u c=>b u (aB5 _ c)⟩
 ·rintro ⟨l,m⟩ s' ⟨d,rfl,_⟩
  simp only at d
  subst d
  exact aJ0 h
theorem aqp {ks:List Int} {vs:List Value} (h:ItemsAre (intKind prog w) ks vs):∀ v∈vs,∃ i t,v=.int i t:=by
 induction h with
 | nil=>intro v a;cases a
 | cons h1 _ ih =>
  intro v a
  rcases aA9.mp a with rfl | a
  ·obtain ⟨t,rfl⟩:=Value.isInt_shape h1
   exact ⟨_,t,rfl⟩
  ·exact ih v a
theorem an3 {ks:List Int} {a:Addr} {Q:Bool->Shared->Prop} (f:(TK prog w).is s.heap ks a) (h:Q true s):wpAny (model prog w) A (hashByValue 8 (.ref a)) Q E s:=by
 have j:=IsTupleKey.typeIs f
 obtain ⟨o,items,n,g,_,hd,hi⟩:=f
 unfold hashByValue
 refine aI9 (wpAny_specialOf j F.slot_tuple_hash.lookup ?_)
 show wpAny _ _ (seqItems? (.ref a) >>= _) _ _ s
 refine aI9 (wpAny_seqItems g hd ?_)
 refine aI9 ?_
 show wpAny _ _ (forIn items _ _) _ _ s
 rw [← Array.forIn_toList]
 refine wpAny_forIn_list _ (fun rest r s'=>r.1=none/\s'=s/\∀ v∈rest,∃ i t,v=Value.int i t) _ ?_ ?_ _ _ ⟨rfl,rfl,aqp hi⟩
 ·rintro v rest r s' ⟨d,rfl,b⟩
  obtain ⟨i,t,rfl⟩:=b v aB8
  have e:hashByValue 7 (.int i t)=pure true:=by unfold hashByValue;rfl
  rw [e]
  refine aI9 (aJ0 ?_)
  simp only [Bool.not_true,Bool.false_eq_true,if_false]
  exact aJ0 ⟨rfl,rfl,fun u c=>b u (aB5 _ c)⟩
 ·rintro ⟨l,m⟩ s' ⟨d,rfl,_⟩
  simp only at d
  subst d
  exact aJ0 h
theorem a0u {k0:List Int} {b0:Addr} {stored:List Value} {Q:Bool->Shared->Prop} (i:(TK prog w).is s.heap k0 b0) (f:∀ v∈stored,∃ k b,v=.ref b/\(TK prog w).is s.heap k b) (h:Q false s):wpAny (model prog w) A (searchCouldBeSeen (.ref b0) stored) Q E s:=by
 unfold searchCouldBeSeen
 refine aI9 ?_
 refine wpAny_forIn_list _ (fun rest r s'=>r.1=none/\s'=s/\∀ v∈rest,∃ k b,v=.ref b/\(TK prog w).is s.heap k b) _ ?_ ?_ _ _ ⟨rfl,rfl,f⟩
 ·rintro v rest r s' ⟨g,rfl,c⟩
  obtain ⟨k,b,rfl,hb⟩:=c v aB8
  have a:∀ u∈rest,∃ k b,u=Value.ref b/\(TK prog w).is s'.heap k b:=fun u d=>c u (aB5 _ d)
  dsimp only
  split
  ·exact aJ0 ⟨rfl,rfl,a⟩
  ·refine aI9 ((TK prog w).quiet i ?_)
   simp only [Bool.not_true,Bool.false_eq_true,if_false]
   refine aI9 ((TK prog w).quiet hb ?_)
   simp only [Bool.not_true,Bool.false_eq_true,if_false]
   refine aI9 (ag7 i ?_)
   simp only [Bool.false_eq_true,if_false]
   refine aI9 (ag7 hb ?_)
   simp only [Bool.false_eq_true,if_false]
   exact aJ0 ⟨rfl,rfl,a⟩
 ·rintro ⟨j,l⟩ s' ⟨g,rfl,_⟩
  simp only at g
  subst g
  exact aJ0 h
theorem a19 (mask:Nat) (h:Int):∀ k,(pr mask h k).j+(pr mask h k).more<=mask:=fun k=>by
 have run:∀ i,i < mask+1->i+(SetTable.runEnd mask i - i)<=mask:=fun i hi=>by unfold SetTable.runEnd;split <;> omega
 induction k with
 | zero=>exact run _ (Nat.mod_lt _ (Nat.succ_pos _))
 | succ k ih =>
  show (adv mask (pr mask h k)).j+(adv mask (pr mask h k)).more<=mask
  unfold adv
  split
  ·dsimp only;omega
  ·exact run _ (Nat.mod_lt _ (Nat.succ_pos _))
structure ST (prog:Program) (w:World) (U:Addr->Prop) (a:Addr) (es:Array (Int × Value)) (ep:Nat) (t:SetTable) (ks:List (List Int)) (h:Heap):Prop where
 r:SS.SetR prog w a es ep t h
 ok:TOk t
 hi:HI t es.toList
 pl:t.plain=true
 msk:7<=t.mask/\t.mask<=8191
 len:ks.length=es.size
 gd:∀ (i:Nat) e k,es.toList[i]?=some e->ks[i]?=some k->∃ b,e=((TK prog w).hash k,.ref b)/\(TK prog w).is h k b/\U b
 nd:ks.Nodup
theorem ST.stored {a:Addr} {es:Array (Int × Value)} {ep:Nat} {t:SetTable} {ks:List (List Int)} {h:Heap} (x:ST prog w U a es ep t ks h) {e:Int × Value} (g:e∈es.toList):∃ k b,e=((TK prog w).hash k,.ref b)/\(TK prog w).is h k b/\U b:=by
 obtain ⟨i,hi⟩:=aD3 g
 have f:i < ks.length:=by rw [x.len,← aA8];exact (aA1.mp hi).1
 obtain ⟨b,c,d⟩:=x.gd i e _ hi (aA0 f)
 exact ⟨_,b,c,d⟩
theorem an4 {a b0:Addr} {es:Array (Int × Value)} {ep:Nat} {t:SetTable} {ks:List (List Int)} {n:List Int} {Q:SetFound->Shared->Prop} (hu:(TK prog w).room A) (x:ST prog w U a es ep t ks s.heap) (P:(TK prog w).is s.heap n b0)
  (h1:n∈ks->Q (.there none) s) (h2:n ∉ ks->∀ k1,(pr t.mask ((TK prog w).hash n) k1).j<=t.mask->t.slot (pr t.mask ((TK prog w).hash n) k1).j=.empty->(∀ l,l < k1->t.slot (pr t.mask ((TK prog w).hash n) l).j ≠ .empty)->Q (.free (pr t.mask ((TK prog w).hash n) k1).j false) s) :
  ∀ (c k0:Nat) (g:Option SetTable.Probe),c+k0 > 10 * SetTable.turns t.mask->g.getD (t.probeStart ((TK prog w).hash n))=pr t.mask ((TK prog w).hash n) k0->(∀ l,l < k0->∃ i,t.slot (pr t.mask ((TK prog w).hash n) l).j=.live i/\ks[i]? ≠ some n) ->
   wpAny (model prog w) A (setSearchFrom a (.ref b0) ((TK prog w).hash n) true c g) Q E s:=by
 obtain ⟨o,ho,hx,hd,hf,hT⟩:=id x.r
 generalize hhx:(TK prog w).hash n=hx0 at *
 obtain ⟨je,R,B⟩:=asp x.ok
 obtain ⟨m,hm⟩:=x.ok.two
 obtain ⟨O,a6,F⟩:=a0r hm hx0 je R
 have T:t.gaveWay=false:=by
  unfold SetTable.gaveWay
  have:m ≠ 0:=fun z=>by rw [z] at hm;have:=x.msk.1;simp at hm;omega
  obtain ⟨m',rfl⟩:=Nat.exists_eq_succ_of_ne_zero this
  rw [Nat.pow_succ] at hm
  have:t.mask % 2=1:=by omega
  rw [this];rfl
 intro c
 induction c with
 | zero =>
  intro k0 g a5 _ p
  exfalso
  obtain ⟨i,hi,_⟩:=p O (by omega)
  rw [F,B] at hi
  cases hi
 | succ c ih =>
  intro k0 g a5 a0 p
  have X:k0<=O:=by
   apply aD5
   intro hc
   obtain ⟨i,hi,_⟩:=p O (by omega)
   rw [F,B] at hi
   cases hi
  unfold setSearchFrom
  refine aI9 (wpAny_setState_of ho hd hf ?_)
  dsimp only
  rw [T]
  simp only [Bool.false_eq_true,if_false]
  rw [a0]
  obtain ⟨k1,a1,a2,a3,a4⟩:=am0 x.ok (ha:=fun i=>(es[i]?.map (·.1)).getD 0) (h:=hx0) (10 * SetTable.turns t.mask) k0 ⟨O,X,by omega,by rw [F];exact B⟩
  have d:∀ l,l < k1->∃ i,t.slot (pr t.mask hx0 l).j=.live i/\ks[i]? ≠ some n:=fun l C=>by
   by_cases hkk:l < k0
   ·exact p l hkk
   ·obtain ⟨i,hi,G⟩:=a3 l (by omega) C
    refine ⟨i,hi,fun S=>?_⟩
    have D:=(ady x.ok).mp hi
    have f:i < es.toList.length:=by rw [x.hi.1,← aA8];exact (aA1.mp D).1
    obtain ⟨b,M,_⟩:=x.gd i _ _ (aA0 f) S
    apply G
    rw [← aD6,aA0 f,M]
    exact hhx
  generalize hp:t.probe _ hx0 (pr t.mask hx0 k0)=pp
  rcases a4 with ⟨e,H⟩ | ⟨i,e,a7,H⟩
  ·have I:pp=some (.empty (pr t.mask hx0 k1).j none):=hp.symm.trans H
   subst I
   dsimp only
   refine aJ0 (h2 (fun hm=>?_) k1 ?_ e fun l C z=>?_)
   ·obtain ⟨i,hi⟩:=aD3 hm
    have f:i < es.toList.length:=by rw [aA8,← x.len];exact (aA1.mp hi).1
    obtain ⟨b,M,_⟩:=x.gd i _ _ (aA0 f) hi
    obtain ⟨k,P,hs⟩:=x.hi.found x.ok e (aA0 f) (by rw [M];exact hhx)
    obtain ⟨L,N,G⟩:=d k P
    rw [hs] at N
    cases N
    exact G hi
   ·exact aD0 (Nat.le_add_right _ _) (a19 t.mask hx0 k1)
   ·obtain ⟨i,hi,_⟩:=d l C
    rw [z] at hi
    cases hi
  ·have I:pp=some (.candidate (pr t.mask hx0 k1).j i (pr t.mask hx0 (k1+1))):=hp.symm.trans H
   subst I
   have D:=(ady x.ok).mp e
   have f:i < es.toList.length:=by rw [x.hi.1,← aA8];exact (aA1.mp D).1
   have u:i < ks.length:=by rw [x.len,← aA8];exact f
   obtain ⟨b,M,e2⟩:=x.gd i _ _ (aA0 f) (aA0 u)
   have K:es[i]?=some ((TK prog w).hash ks[i],.ref b):=by rw [← aD6,aA0 f,M]
   have rest:wpAny (model prog w) A (do
     let some (_,y):=es[i]? | unsupported "internal:set-entry"
     let equal ← holding [y] (eqBool y (.ref b0))
     let (es',_,t') ← setState a
     if true && equal then return .there none
     let some same:=t'.sameMemory t.moves t.mask | unsupported "set.changed-during-lookup:is-the-new-block-at-the-old-address"
     let still ← match (if same then t'.slot (pr t.mask hx0 k1).j else .empty) with
      | .live L=>match es'[L]? with
       | some (_,y')=>do pure (if ← isSame y' y then some L else none)
       | none=>pure none
      | _=>pure none
     match still with
     | none=>rule "set.search.anew";setSearchFrom a (.ref b0) hx0 true c none
     | some L=>if equal then return .there (some L) else setSearchFrom a (.ref b0) hx0 true c (some (pr t.mask hx0 (k1+1)))) Q E s:=by
    rw [K]
    dsimp only
    refine aI9 (aJ5 ((TK prog w).eqBool hu e2.1 P ?_))
    refine aI9 (wpAny_setState_of ho hd hf ?_)
    dsimp only
    by_cases heq:ks[i]=n
    ·rw [aD8 heq]
     simp only [Bool.and_self,if_true]
     exact aJ0 (h1 (by rw [← heq];exact aF1 u))
    ·rw [aD7 heq]
     simp only [Bool.and_false,Bool.false_eq_true,if_false]
     have Z:t.sameMemory t.moves t.mask=some true:=by
      unfold SetTable.sameMemory
      rw [aF5 (beq_self_eq_true _)]
     rw [Z]
     dsimp only
     rw [aF5 rfl,e]
     dsimp only
     rw [K]
     dsimp only
     refine aI9 (wpAny_isSame_ref_self ?_)
     refine aI9 (aJ0 ?_)
     rw [aF5 rfl]
     dsimp only
     refine ih (k1+1) (some _) (by omega) rfl fun l C=>?_
     rcases Nat.lt_or_eq_of_le (Nat.le_of_lt_succ C) with W | J
     ·exact d l W
     ·refine ⟨i,by rw [J];exact e,fun z=>heq ?_⟩
      rw [aA0 u] at z
      exact aC6 z
   dsimp only
   cases hled:t.led with
   | true =>
    simp only [Bool.not_true,Bool.false_eq_true,if_false]
    exact rest
   | false =>
    simp only [Bool.not_false,if_true]
    refine aI9 (a0u P (fun v hv=>?_) ?_)
    ·obtain ⟨q,Y,rfl⟩:=aB7.mp hv
     have Y:q∈es.toList:=by
      have:=Array.mem_toList_iff.mp Y
      exact Array.mem_toList_iff.mpr (Array.mem_filter.mp this).1
     obtain ⟨k,b,rfl,hb⟩:=x.stored Y
     exact ⟨k,b,rfl,hb.1⟩
    ·simp only [Bool.false_eq_true,if_false]
     exact rest
theorem ST.at {a:Addr} {es:Array (Int × Value)} {ep:Nat} {t:SetTable} {ks:List (List Int)} {h h':Heap} (x:ST prog w U a es ep t ks h) (k:∀ o,h.get? a=some o->h'.get? a=some o) (d:∀ b ks,U b->(TK prog w).is h ks b->(TK prog w).is h' ks b):ST prog w U a es ep t ks h' :=
 ⟨x.r.at k,x.ok,x.hi,x.pl,x.msk,x.len,fun i e q g j=>let ⟨b,f,c⟩:=x.gd i e q g j;⟨b,f,d b q c.2 c.1,c.2⟩,x.nd⟩
def SetT (prog:Program) (w:World) (U:Addr->Prop) (a:Addr) (L:List (List Int)) (h:Heap):Prop:=∃ es ep t ks,ST prog w U a es ep t ks h/\t.place.size * 5 < t.mask * 3/\ks.Perm L
theorem am3 {a b:Addr} {ks:List Int} {h h':Heap} (hs:Heap.SameBut a h h') (j:(TK prog w).is h ks b) {o:Obj} (i:h.get? a=some o) (f:o.ExactSet):(TK prog w).is h' ks b:=by
 obtain ⟨g,items,n,d,c,r⟩:=j
 refine ⟨g,items,n,?_,c,r⟩
 rw [hs.2 b fun z=>?_]
 ·exact d
 ·subst z
  rw [i] at d
  cases d
  rw [f.1] at c
  exact absurd c (by decide)
theorem aph {t:SetTable} {n:Nat} (x:TOk t) (h:t.place.size=n):t.fits n=true:=by
 unfold SetTable.fits SetTable.fill
 rw [x.dum,h,beq_self_eq_true,Bool.true_and,decide_eq_true_eq]
 have:=x.room
 show n+0<=t.mask
 omega
theorem am4 {α:Type} (l:List α) (x : α) (p:Nat):(l.take p ++ x :: l.drop p).Perm (x :: l):=by
 have h:=List.perm_middle (a:=x) (l₁:=l.take p) (l₂:=l.drop p)
 rw [aC1] at h
 exact h
theorem ave {a:Addr} {es:Array (Int × Value)} {ep:Nat} {t:SetTable} {ks:List (List Int)} {Q:Unit->Shared->Prop} (x:ST prog w U a es ep t ks s.heap) (hz:es.size<=2040) (W:1<=es.size)
  (h:∀ h',Heap.SameBut a s.heap h'->∀ es' P t' B,ST prog w U a es' P t' B h'->t'.place.size * 5 < t'.mask * 3->B.Perm ks->Q () { s with heap:=h' }):wpAny (model prog w) A (setRelay a (SetTable.grown es.size)) Q E s:=by
 obtain ⟨o,I,hx,hd,hf,hT⟩:=id x.r
 have K:SetTable.grown es.size=es.size * 4:=by unfold SetTable.grown;rw [aF6 (by omega)]
 rw [K]
 obtain ⟨m,S,a2,O,M⟩:=avd (n:=es.size * 4) (by omega)
 have h8:8<=2 ^ m:=Nat.pow_le_pow_right (n:=2) (by decide) O
 have a1:2 ^ m<=8192:=by
  rcases M with h | h
  ·omega
  ·exact asr h (by omega)
 unfold setRelay
 refine aI9 (wpAny_setState_of I hd hf ?_)
 dsimp only
 rw [S,aF6 (by rw [sizeLine_eq];omega)]
 obtain ⟨l,d,c,e1,e2,G,T,g,N,a0,L,X,F⟩:=ax9 (mask:=2 ^ m - 1) (m:=m) (finger:=t.finger) (moves:=t.movedTo (2 ^ m - 1)) (led:=t.led) (plain:=t.plain) (by omega) es (by omega)
 have er:t.relaid (es.map (·.1)) (es.size * 4)=some (l,d):=by
  unfold SetTable.relaid
  rw [S]
  exact e1
 rw [er]
 refine aI9 ?_
 show wpAny _ _ (do
  let es':=d.filterMap (es[·]?)
  if es'.size != es.size then unsupported "internal:set-table-lost-an-element"
  pure (es',l)) _ _ _
 rw [e2]
 dsimp only
 rw [aF6 (by rw [G];simp)]
 refine aJ0 ?_
 dsimp only
 refine wpAny_storeSet_of I hd ?_ (by rw [G,sizeLine_eq];omega)
 have sb:=Heap.SameBut.update s.heap a (Obj.putSet c l)
 have r2:=x.r.put (es':=c) (t':=l) (aph g (by rw [G];exact L)) ⟨fun hb=>by rw [X];exact hT.led hb,g.dum,fun _=>g.ris⟩
 have Z:∀ q b,(TK prog w).is s.heap q b->(TK prog w).is (s.heap.update a (Obj.putSet c l)) q b:=fun q b hq=>am3 sb hq I hx
 have v:∃ f:Int × Value->List Int,∀ e∈es.toList,∃ b,e=((TK prog w).hash (f e),.ref b)/\(TK prog w).is s.heap (f e) b/\U b:=by
  have:=Classical.skolem (p:=fun (e:Int × Value) (k:List Int)=>e∈es.toList->∃ b,e=((TK prog w).hash k,Value.ref b)/\(TK prog w).is s.heap k b/\U b)
  exact this.mp fun e=>by
   by_cases he:e∈es.toList
   ·obtain ⟨k,b,W,h2⟩:=x.stored he
    exact ⟨k,fun _=>⟨b,W,h2⟩⟩
   ·exact ⟨[],fun z=>absurd z he⟩
 obtain ⟨f,u⟩:=v
 have J:ks=es.toList.map f:=by
  refine aG2 fun i=>?_
  rw [aA5]
  by_cases hi:i < ks.length
  ·have j:i < es.toList.length:=by rw [aA8,← x.len];exact hi
   rw [aA0 hi,aA0 j,aI1]
   obtain ⟨b,D,C⟩:=x.gd i _ _ (aA0 j) (aA0 hi)
   obtain ⟨b',Y,g4⟩:=u _ (aF1 j)
   have H:Value.ref b=.ref b':=(Prod.ext_iff.mp (D.symm.trans Y)).2
   cases H
   rw [(TK prog w).inj C.1 g4.1]
  ·rw [aE3 (by omega),aE3 (by rw [aA8,← x.len];omega)]
   rfl
 have y:(c.toList.map f).Perm ks:=by rw [J];exact T.map f
 refine h _ sb c _ l (c.toList.map f) ⟨r2,g,N,by rw [F];exact x.pl,by omega,by rw [aA3,aA8],fun i e k D C=>?_,y.nodup_iff.mpr x.nd⟩ (by omega) y
 rw [aA5,D] at C
 cases C
 obtain ⟨b,q1,R⟩:=u e (T.mem_iff.mp (aA2 D))
 exact ⟨b,q1,Z _ b R.1,R.2⟩
theorem ass {a b0:Addr} {L:List (List Int)} {d:List Int} {Q:Bool->Shared->Prop} (hu:(TK prog w).room A) (x:SetT prog w U a L s.heap) (Y:(TK prog w).is s.heap d b0) (hU:U b0) (hb:L.length+1<=2040)
  (h:∀ b h',Heap.SameBut a s.heap h'->SetT prog w U a (if d∈L then L else L ++ [d]) h'->Q b { s with heap:=h' }):wpAny (model prog w) A (setAddHashed a (.ref b0) ((TK prog w).hash d)) Q E s:=by
 obtain ⟨es,ep,t,ks,x,S,F⟩:=x
 obtain ⟨o,M,hx,hd,hf,hT⟩:=id x.r
 have a5:es.size=L.length:=by rw [← F.length_eq,x.len]
 have a4:t.place.size=es.size:=by have:=x.hi.1;rw [aA8] at this;omega
 unfold setAddHashed setAddHashedIn
 refine aJ5 (aI9 (wpAny_setState_of M hd hf ?_))
 dsimp only
 have a3:byScan (.ref b0) es=false:=rfl
 rw [a3]
 simp only [Bool.false_eq_true,if_false]
 unfold setSearch
 refine aI9 (an4 hu x Y (fun hm=>?_) (fun hm k1 hj N X=>?_) 100000 0 none ?_ rfl fun k' Z=>absurd Z (Nat.not_lt_zero _))
 ·refine aJ0 ?_
  have e:s={ s with heap:=s.heap }:=by cases s;rfl
  have:=h false s.heap (Heap.SameBut.refl a s.heap) (by rw [aF5 (F.mem_iff.mp hm)];exact ⟨es,ep,t,ks,x,S,F⟩)
  rw [e];exact this
 ·have K:d ∉ L:=fun z=>hm (F.mem_iff.mpr z)
  have g:t.place.size+1<=t.mask:=by have:=x.msk.1;omega
  obtain ⟨j,H⟩:∃ j,j=(pr t.mask ((TK prog w).hash d) k1).j:=⟨_,rfl⟩
  rw [← H] at hj N ⊢
  dsimp only
  refine aI9 (wpAny_setState_of M hd hf ?_)
  dsimp only
  have m:(t.put j).1.plain=true:=x.pl
  rw [aF5 m]
  refine aI9 (an3 Y ?_)
  rw [aF5 rfl]
  have a6:=(SS.below_ok t.place j x.ok.ris).1
  obtain ⟨c,n⟩:∃ c,c=SetTable.insertAt es (t.put j).2 ((TK prog w).hash d,Value.ref b0):=⟨_,rfl⟩
  have f:c.toList=es.toList.take (SetTable.below t.place j) ++ ((TK prog w).hash d,Value.ref b0) :: es.toList.drop (SetTable.below t.place j):=by rw [n];exact SetTable.toList_insertAt ..
  have l:c.size=es.size+1:=by
   rw [← aA8,f,aB1,aE6,aH0,aI7,aA8]
   omega
  have y:=x.ok.put hj N g
  have G:HI (t.put j).1 c.toList:=by
   rw [f]
   exact x.hi.put x.ok hj g (e:=((TK prog w).hash d,Value.ref b0)) (k1:=k1) H.symm N X
  have C:(t.put j).1.place.size=c.size:=by have:=G.1;rw [aA8] at this;exact this.symm
  have B:(t.put j).1.fits c.size=true:=aph y C
  rw [← n]
  refine aI9 (wpAny_storeSet_of M hd ?_ (by rw [l];rw [sizeLine_eq];omega))
  have r1:=x.r.put (es':=c) (t':=(t.put j).1) B (hT.put N)
  have v:=Heap.SameBut.update s.heap a (Obj.putSet c (t.put j).1)
  have T:∀ q b,(TK prog w).is s.heap q b->(TK prog w).is (s.heap.update a (Obj.putSet c (t.put j).1)) q b:=fun q b hq=>am3 v hq M hx
  have x1:ST prog w U a c (ep+1) (t.put j).1 (ks.take (SetTable.below t.place j) ++ d :: ks.drop (SetTable.below t.place j)) (s.heap.update a (Obj.putSet c (t.put j).1)):=by
   have a2:SetTable.below t.place j<=ks.length:=by rw [x.len];omega
   have a1:SetTable.below t.place j<=es.toList.length:=by rw [aA8];omega
   refine ⟨r1,y,G,m,x.msk,?_,fun i e k p u=>?_,?_⟩
   ·rw [aB1,aE6,aH0,aI7,l,← x.len]
    omega
   ·rw [f,ins_get _ _ _ a1] at p
    rw [ins_get _ _ _ a2] at u
    by_cases c1:i < SetTable.below t.place j
    ·rw [aF5 c1] at p u
     obtain ⟨b,g1,J⟩:=x.gd i e k p u
     exact ⟨b,g1,T k b J.1,J.2⟩
    ·rw [aF6 c1] at p u
     by_cases c2:i=SetTable.below t.place j
     ·rw [aF5 c2] at p u
      cases p
      cases u
      exact ⟨b0,rfl,T d b0 Y,hU⟩
     ·rw [aF6 c2] at p u
      obtain ⟨b,g1,J⟩:=x.gd (i - 1) e k p u
      exact ⟨b,g1,T k b J.1,J.2⟩
   ·refine (am4 ks d _).nodup_iff.mpr (aI4.mpr ⟨hm,x.nd⟩)
  have I:(ks.take (SetTable.below t.place j) ++ d :: ks.drop (SetTable.below t.place j)).Perm (L ++ [d]):=(am4 ks d _).trans ((F.cons d).trans (List.perm_append_singleton d L).symm)
  by_cases hfull:(t.put j).1.tooFull=true
  ·rw [aF5 (by rw [hfull];rfl)]
   rw [← l]
   refine aI9 (ave (s:={ s with heap:=s.heap.update a (Obj.putSet c (t.put j).1) }) x1 (by omega) (by omega) fun h' R a0 O t2 P x2 D W=>?_)
   refine aJ0 (h true h' (v.trans R) ?_)
   rw [aF6 K]
   exact ⟨a0,O,t2,P,x2,D,W.trans I⟩
  ·rw [aF6 (by intro z;exact hfull (by simpa using z))]
   refine aJ0 ?_
   refine h true _ v ?_
   rw [aF6 K]
   refine ⟨c,ep+1,_,_,x1,?_,I⟩
   unfold SetTable.tooFull SetTable.fill at hfull
   rw [y.dum] at hfull
   simp at hfull
   omega
 ·have:=x.msk.2
  unfold SetTable.turns
  omega
end
end SH
namespace SH
open PySem PySem.W PyProof.Rows SS
section
variable {prog:Program} {w:World} {A:Around} {E:Value->Shared->Prop} {s:Shared} {U:Addr->Prop}
theorem aya (h:Heap):SetT prog w U h.objs.size [] (h.push (abv w)):=by
 have tok:TOk (SetTable.fresh 0 0 (!bt w)):=⟨List.Pairwise.nil,rfl,fun j a=>(nomatch a),⟨3,rfl⟩,aG0 _⟩
 have hi:HI (SetTable.fresh 0 0 (!bt w)) ([]:List (Int × Value)):=⟨rfl,fun i e j hi=>(nomatch hi)⟩
 exact ⟨#[],0,_,[],⟨⟨_,aJ3 _ rfl,⟨rfl,rfl,rfl⟩,rfl,rfl,TbI.fresh _ _ _⟩,tok,hi,rfl,⟨aA6 7,show (7:Nat)<=8191 by decide⟩,rfl,fun i e k hi=>(nomatch hi),List.nodup_nil⟩,show (0:Nat) * 5 < 7 * 3 by decide,.refl _⟩
section
variable {R:Result->Shared->Prop} {I:Addr} {fp wr:List Addr} {n:Nat} {P:Nat->Value->Prop} {St:Nat->Heap->Prop}
theorem a2a (W:Walks prog w A.in1 I fp wr n P St) (S:Addr) (N:S ∉ fp) (hu:(TK prog w).room A.in1) (h0:Heap) (val:Nat->List Int) (tup:Nat->Addr) (G:∀ i v,P i v->v=.ref (tup i)) (hU:∀ i,i < n->U (tup i)) (X:∀ b,U b->b ≠ S/\b ∉ wr) (hb:n+1<=2040)
  (l:∀ h',(∀ b o,b ≠ S->b ∉ wr->h0.get? b=some o->h'.get? b=some o)->∀ i,i < n->(TK prog w).is h' (val i) (tup i)) :
  ∀ (k i:Nat) (s:Shared) (L:List (List Int)),n - i=k->i<=n->St i s.heap->(∀ b o,b ≠ S->b ∉ wr->h0.get? b=some o->s.heap.get? b=some o)->SetT prog w U S L s.heap->L.Nodup->L.length<=i->(∀ x,x∈L ↔ ∃ j,j < i/\val j=x) ->
   (∀ h' M D,(∀ b o,b ≠ S->b ∉ wr->s.heap.get? b=some o->h'.get? b=some o)->SetT prog w U S D h'->D.Nodup->D.length<=n->(∀ x,x∈D ↔ ∃ j,j < n/\val j=x)->R (.ok (.ret .none)) { s with heap:=h',toks:=M }) ->
   codeAny (model prog w) A (.builtin "set.update.loop" ⟨[.ref S,.ref I],[]⟩) R s:=by
 have a2:S ∉ wr:=fun h=>N (W.sub _ h)
 have mv:∀ {h h':Heap} {L:List (List Int)},SetT prog w U S L h->(∀ b o,b ∉ wr->h.get? b=some o->h'.get? b=some o)->SetT prog w U S L h':=fun {h h' L} x hm=>by
  obtain ⟨es,ep,t,ks,x,r⟩:=x
  exact ⟨es,ep,t,ks,x.at (fun o e=>hm S o a2 e) (fun b ks hb ⟨o,items,m,e,q⟩=>⟨o,items,m,hm b o (X b hb).2 e,q⟩),r⟩
 intro k
 induction k with
 | zero =>
  intro i s L T hi B J hS f g c hR
  have a0:i=n:=by omega
  subst a0
  refine aK6 PyProof.Rows.F.entry_set_update_loop ?_
  rw [aK0 PyProof.Rows.F.plain_set_update_loop _]
  show wpAny _ A.in1 (pyNext (.ref I) >>= _) _ _ s
  refine aI9 (W.done s _ _ B fun h' M T=>?_)
  show wpAny _ A.in1 (ret Value.none) _ _ _
  exact aJ0 (hR h' M L (fun b o _ hb e=>T b o hb e) (mv hS T) f g c)
 | succ k ih =>
  intro i s L T hi B J hS f g c hR
  have d:i < n:=by omega
  refine aK6 PyProof.Rows.F.entry_set_update_loop ?_
  rw [aK0 PyProof.Rows.F.plain_set_update_loop _]
  show wpAny _ A.in1 (pyNext (.ref I) >>= _) _ _ s
  refine aI9 (W.item i s _ _ d B fun v E M hP Q u=>?_)
  have ev:=G i v hP
  subst ev
  have a3:SetT prog w U S L E:=mv hS u
  have y:∀ b o,b ≠ S->b ∉ wr->h0.get? b=some o->E.get? b=some o:=fun b o b1 C e=>u b o C (J b o b1 C e)
  show wpAny _ A.in1 (holding [Value.ref (tup i)] (setAdd S (.ref (tup i))) >>= _) _ _ _
  refine aI9 (aJ5 ?_)
  unfold setAdd
  refine aJ5 ?_
  refine aI9 ((TK prog w).pyHash hu (l E y i d) ?_)
  refine ass (s:={ s with heap:=E,toks:=M+(TK prog w).draws (val i) }) hu a3 (l E y i d) (hU i d) (by omega) fun b h' p a1=>?_
  refine aJ0 ⟨plainId_quiet PyProof.Rows.F.plain_set_update_loop _,ih (i+1) _ _ (by omega) d (W.frame _ E _ Q fun b hb o e=>?_) (fun b o b1 C e=>?_) a1 ?_ ?_ ?_ fun Z H D K O n1 n2 n3=>?_⟩
  ·rw [p.2 b (fun h:b=S=>N (by rw [← h];exact hb))];exact e
  ·show h'.get? b=some o
   rw [p.2 b b1];exact y b o b1 C e
  ·split
   ·exact f
   ·rename_i hm
    rw [aE7]
    refine ⟨f,by simp,fun a ha b hb=>?_⟩
    rw [aC2] at hb;subst hb
    exact fun z=>hm (z ▸ ha)
  ·split
   ·omega
   ·rw [aB1,List.length_singleton];omega
  ·intro x
   have Y:x∈(if val i∈L then L else L ++ [val i]) ↔ x∈L\/x=val i:=by
    split
    ·rename_i hm;exact ⟨.inl,fun h=>h.elim id fun e=>e ▸ hm⟩
    ·simp
   rw [Y,c x]
   constructor
   ·rintro (⟨j,a,b⟩ | rfl)
    ·exact ⟨j,by omega,b⟩
    ·exact ⟨i,by omega,rfl⟩
   ·rintro ⟨j,a,b⟩
    by_cases e:j=i
    ·subst e;exact .inr b.symm
    ·exact .inl ⟨j,by omega,b⟩
  ·refine hR Z H D (fun b o b1 C e=>K b o b1 C ?_) O n1 n2 n3
   show h'.get? b=some o
   rw [p.2 b b1]
   exact u b o C e
end
theorem call_setT {U:Addr->Prop} {l:Addr} {items:Array Value} {n:Nat} {val:Nat->List Int} {tup:Nat->Addr} {Q:Value->Shared->Prop}
  (hh:A.handled=none) (hu:(TK prog w).room A.in1.in1.in1) (hl:s.heap.IsList l items) (hP:∀ (i:Nat) (v:Value),items[i]?=some v->v=Value.ref (tup i)) (hi:∀ i,i < items.size->(TK prog w).is s.heap (val i) (tup i)) (hU:∀ i,i < items.size->U (tup i)) (D:∀ b,U b->b < s.heap.objs.size) (hb:items.size+1<=2040)
  (h:∀ (h':Heap) (y:Nat) (L:List (List Int)),SetT prog w U s.heap.objs.size L h'->L.Nodup->L.length<=items.size->(∀ x,x∈L ↔ ∃ j,j < items.size/\val j=x) ->
   (∀ b o,s.heap.get? b=some o->h'.get? b=some o)->Q (.ref s.heap.objs.size) { s with heap:=h',toks:=y }) :
  wpAny (model prog w) A (call (.type "set") [.ref l]) Q E s:=by
 obtain ⟨c,tl,a5⟩:=PySem.F.called_set.mro
 have S:=PySem.F.called_set.made
 have a1:=PySem.F.called_set.sub
 refine wpAny_call (codeAny_of_tree ?_)
 show wpAny _ _ (callAny (.type "set") _) _ _ _
 refine aJ0 ⟨Code.quiet_builtin _ (by decide +kernel),aK6 PySem.F.entry_type_call ?_⟩
 rw [Around.under_plain (weight_type_call_type "set" [.ref l] []) rfl]
 have h1:=PySem.F.called_set.notType
 have h2:=PySem.F.called_set.canCreate
 have a9:=PySem.F.typeCall_set_1 (.ref l)
 repeat (any_goals (first | assumption | wp_step))
 refine aJ4 (ava (.ref l) (E:=E) (Q₁:=fun obj f=>obj=.ref s.heap.objs.size/\f={ s with heap:=s.heap.push (abv w) }) ⟨rfl,rfl⟩) fun r f P=>?_
 cases r with
 | error e=>exact P
 | ok fl =>
  cases fl with
  | ret obj =>
   obtain ⟨rfl,rfl⟩:=P
   have hS:(s.heap.push (abv w)).get? s.heap.objs.size=some (abv w):=aJ3 _ rfl
   have hT:Shared.TypeIs { s with heap:=s.heap.push (abv w) } (.ref s.heap.objs.size) "set":=⟨_,hS,rfl⟩
   have a8:=PySem.F.called_set.init.lookup
   have b0:=PySem.F.called_set.init.bind (.ref s.heap.objs.size)
   repeat (any_goals (first | assumption | wp_step))
   refine aJ4 (codeAny_call_builtin (R:=wants (fun r g=>r=.none/\∃ h' y L,g={ s with heap:=h',toks:=y }/\SetT prog w U s.heap.objs.size L h'/\L.Nodup/\L.length<=items.size/\(∀ x,x∈L ↔ ∃ j,j < items.size/\val j=x) /\
     (∀ b o,s.heap.get? b=some o->h'.get? b=some o)) E) PySem.F.called_set.init.plain PySem.F.entry_set_init (check_set_init_1 hT ?_)) fun z g a=>?_
   ·obtain ⟨ol,C,I,nl,H⟩:=hl
    obtain ⟨a3,p,X,d⟩:=ol
    simp only at I H
    subst I;subst H
    have B:(s.heap.push (abv w)).get? l=some { cls:=.type "list",dict:=p,data:=.seq items nl,slots:=d }:=aJ1 _ C
    have a2:=PySem.F.sub_list_set
    have a4:=PySem.F.sub_list_frozenset
    have a6:(Value.type "list" == Value.type "dict")=false:=by decide
    have K:(s.heap.push (abv w)).IsList l items:=⟨_,B,rfl,nl,rfl⟩
    unfold Builtin.«set.__init__» noKeywords Builtin.Frozenset.updateFrom
    generalize hPI:pyIter=PI
    unfold abv at *
    wp_walk
    subst hPI
    refine aK4 K ?_
    refine aI9 (wpAny_runValue ?_)
    have J:l < s.heap.objs.size:=aJ2 C
    have a0:A.in1.in1.in1.handled=none:=by simp [hh]
    have M:l ≠ (s.heap.push (abv w)).objs.size:=by
     rw [aK1];exact aB6 (aF8 J)
    have W:s.heap.objs.size ∉ [(s.heap.push (abv w)).objs.size,l]:=by
     rw [aK1];simp only [aA9,aC2,aI3,or_false,not_or]
     exact ⟨aB6 (Nat.lt_succ_self _),Nat.ne_of_gt J⟩
    have a7:∀ i,i < items.size->tup i < s.heap.objs.size:=fun i h=>let ⟨_,_,_,e,_⟩:=hi i h;aJ2 e
    refine a2a (U:=U) (Walks.list a0 _ l M items) s.heap.objs.size W hu s.heap val tup hP hU (fun b hb=>⟨aB6 (D b hb),by rw [aC2,aK1];exact aB6 (aF8 (D b hb))⟩) hb
     (fun h' kp i h=>let ⟨o,its,m,e,q⟩:=hi i h;⟨o,its,m,kp _ o (aB6 (aJ2 e)) (by rw [aC2,aK1];exact aB6 (aF8 (aJ2 e))) e,q⟩)
     (items.size - 0) 0 _ [] (by omega) (aG0 _)
     ⟨⟨_,aJ3 _ rfl,rfl,rfl⟩,(K.push _)⟩ (fun b o _ _ e=>aJ1 _ (aJ1 _ e)) (let ⟨es,ep,t,ks,x,r⟩:=aya s.heap;⟨es,ep,t,ks,x.at (fun o e=>aJ1 _ e) (fun b ks hb ⟨o,its,m,e,q⟩=>⟨o,its,m,aJ1 _ e,q⟩),r⟩) List.nodup_nil (aA6 _) (fun x=>by simp) fun h' y L hk u Z n2 N=>?_
    show wpAny _ _ _ _ _ _
    refine aJ0 ?_
    show wpAny _ _ (ret Value.none) _ _ _
    refine aJ0 ⟨rfl,h',y,L,rfl,u,Z,n2,N,fun b o e=>?_⟩
    have G:=aJ2 e
    have T:b ≠ s.heap.objs.size:=aB6 G
    have Y:b ≠ (s.heap.push (abv w)).objs.size:=by
     rw [aK1];exact aB6 (aF8 G)
    exact hk b o T (by rw [aC2];exact Y) (aJ1 _ (aJ1 _ e))
   ·cases z with
    | error e=>exact a
    | ok fl₂ =>
     cases fl₂ with
     | ret r =>
      obtain ⟨rfl,h',y,L,rfl,u,Z,n2,N,O⟩:=a
      repeat (any_goals (first | assumption | wp_step))
      exact h _ _ _ u Z n2 N O
     | _=>exact a.elim
  | _=>exact P.elim
end
section
variable {prog:Program} {w:World} {A:Around} {E:Value->Shared->Prop} {s:Shared} {a:Addr}
def SetB (prog:Program) (w:World) (a:Addr) (bs:List Addr) (h:Heap):Prop:=∃ es ep t,SetR prog w a es ep t h/\(es.toList.map (·.2)).Perm (bs.map Value.ref)
theorem sorted_setT {bs:List Addr} {Q:Value->Shared->Prop} (hh:A.handled=none) (x:SetB prog w a bs s.heap) (hb:bs.length<=4000)
  (D:∀ vs:List Value,vs.Perm (bs.map Value.ref)->2<=vs.length->∀ h' f d,(∀ b o,s.heap.get? b=some o->h'.get? b=some o)->∃ κ S R,(∀ (Q:SortKind->Shared->Prop),Q κ { s with heap:=h',toks:=f,drawn:=d }->wpAny (model prog w) A.in1.in1 (keyKind' vs.toArray) Q E { s with heap:=h',toks:=f,drawn:=d })/\TS.Cmp (model prog w) A.in1.in1 E { s with heap:=h',toks:=f,drawn:=d } κ S R/\(∀ v∈vs,S (v,v)) /\
   ∀ (out:List Value) p c e,out.Perm vs->out.Pairwise (fun x y=>R (y,y) (x,x)=false)->(∀ b o,s.heap.get? b=some o->c.get? b=some o)->s.heap.objs.size<=p->c.get? p=some (seqObj "list" out.toArray e)->Q (.ref p) { s with heap:=c,toks:=f,drawn:=d })
  (K:∀ (vs:List Value) p c e f d,vs.Perm (bs.map Value.ref)->vs.length < 2->(∀ b o,s.heap.get? b=some o->c.get? b=some o)->s.heap.objs.size<=p->c.get? p=some (seqObj "list" vs.toArray e)->Q (.ref p) { s with heap:=c,toks:=f,drawn:=d }) :
  wpAny (model prog w) A (call (.builtin "sorted") [.ref a]) Q E s:=by
 obtain ⟨es,ep,t,x,G⟩:=x
 have M:es.size=bs.length:=by have:=G.length_eq;simpa using this
 have i:es.size<=sizeLine:=by rw [sizeLine_eq];omega
 refine Calls.call_function_entry kind_sorted plain_sorted entry_sorted (args_sorted1 _) ?_
 unfold Builtin.«sorted»
 refine aI9 (m:=checkCount "sorted" 1 1 _) (aJ0 (aI9 (an2 (A:=A.in1) hh x i fun g f d vs kp hs I=>?_)))
 have j:=I.trans G
 have l:vs.length=bs.length:=by rw [j.length_eq,aA3]
 have u:vs.length<=sizeLine:=by rw [l,sizeLine_eq];omega
 refine aI9 (wpAny_newList ?_ u)
 have h:(g.push (seqObj "list" vs.toArray 0)).get? g.objs.size=some (seqObj "list" vs.toArray 0):=aJ3 _ rfl
 have keep:∀ b o,s.heap.get? b=some o->(g.push (seqObj "list" vs.toArray 0)).get? b=some o:=fun b o e=>aJ1 _ (kp b o e)
 have fin:∀ out:List Value,(∀ b o,s.heap.get? b=some o->(sortedHeap (g.push (seqObj "list" vs.toArray 0)) g.objs.size vs out.toArray).get? b=some o):=fun out b o q=>by
  have lt:=aJ2 (kp b o q)
  rw [sortedHeap_old (aB6 lt) (by rw [size_push'];exact aF8 lt)]
  exact keep b o q
 refine aI9 (aJ5 (aK2 slot_list_sort ⟨_,h,rfl⟩ entry_list_sort ?body (args_list_sort _)))
 case body =>
  refine TS.list_sort_any (s:={ s with heap:=g.push (seqObj "list" vs.toArray 0),toks:=f,drawn:=d }) h u (fun z h' L=>?_) fun B=>?_
  ·obtain ⟨κ,S,R,N,C,J,r⟩:=D vs j z h' f d fun b o e=>L b o (aB6 (aJ2 (kp b o e))) (keep b o e)
   refine ⟨κ,S,R,N,C,J,fun out O H=>⟨_,rfl,aJ0 ⟨_,rfl,?_⟩⟩⟩
   obtain ⟨e,F⟩:=sortedHeap_at (vs:=vs) (out:=out.toArray) (n:=0) h
   exact r out _ _ e O H (fin out) hs F
  ·refine ⟨_,rfl,aJ0 ⟨_,rfl,?_⟩⟩
   obtain ⟨e,F⟩:=sortedHeap_at (vs:=vs) (out:=vs.toArray) (n:=0) h
   exact K vs _ _ e f d j B (fin vs) hs F
end
end SH
namespace L2
open PySem PySem.W PyProof.Rows
def awg (P:Program) (w:World) (K:Frag):List V->Hp->VK->Prop:=fun xs H Q=>∃ (a:Addr) (ts:List Addr) (ps:List (List Int)),xs=[.ref a]/\SqL K H a (ts.map V.ref)/\ts.length=ps.length/\ps.length<=2030 /\
 (∀ (i:Nat) t k,ts[i]?=some t->ps[i]?=some k->H t=some (.tup (k.map V.int))) /\
 ∀ (bs:List Addr) (L:List (List Int)) (p:Addr),bs.length=L.length->L.length<=ps.length->(∀ (i:Nat) b k,bs[i]?=some b->L[i]?=some k->H b=some (.tup (k.map V.int)))->L.Nodup->(∀ x,x∈L ↔ x∈ps)->H p=none->Q (.ref p) (upd H p (.ext (SH.SetB P w p bs)))
def api (P:Program) (w:World):List V->Hp->VK->Prop:=fun xs H Q=>∃ (a:Addr) (bs:List Addr),xs=[.ref a]/\H a=some (.ext (SH.SetB P w a bs))/\bs.length<=4000/\(∀ b∈bs,TupI H (.ref b)) /\
 ∀ (vs':List V) (p:Addr),vs'.Perm (bs.map V.ref)->vs'.Pairwise (fun x y=>HT.lexLt (kH H y) (kH H x)=false)->H p=none->Q (.ref p) (upd H p (.lst vs'))
section
variable {X:Cx}
theorem am5 {P:Program} {w:World}:∀ {its:List Value} {k:List Int},IntsAre its k->ItemsAre (intKind P w) k its
 | _,_,.nil => .nil
 | _,_,.cons i tk h => .cons (intKind_is _ _ _ _) (am5 h)
theorem awh {H:Hp} {h:Heap} {P:Program} {w:World} (ok:HOk P w H h) {t:Addr} {k:List Int} (e:H t=some (.tup (k.map V.int))):(SH.TK P w).is h k t:=by
 obtain ⟨_,its,a,o,d,b,n,c⟩:=(show ObjOk P w H h t (.tup (k.map V.int)) from ok t _ e)
 refine ⟨o,its.toArray,n,d,b,c,?_⟩
 have hi:IntsAre its k:=by simpa using (acb a:IntsAre its.toArray.toList k)
 show ItemsAre (intKind P w) k its.toArray.toList
 rw [List.toList_toArray]
 exact am5 hi
theorem call_setT (hc:X.calm=true) (J:X.A.units+64 < cLine):abd X (.type "set") (awg X.prog X.w X.K):=by
 intro pins s σ H xs us Q I r h
 obtain ⟨a,ts,ps,rfl,ha,hl,hz,Y,q⟩:=h
 obtain ⟨u,rfl,M⟩:=ac7 r
 cases M
 obtain ⟨its,S,p1,_⟩:=I.list ha
 have p:its.length=ts.length:=by have:=S.length;rw [aA3] at this;omega
 have a0:its.toArray.size=ts.length:=by simp [p]
 have P:∀ {i},i < ts.length->ts[i]?=some (ts.getD i 0):=fun {i} hi=>by rw [aD4,aA0 hi];rfl
 have R:∀ {i},i < ts.length->ps[i]?=some (ps.getD i []):=fun {i} hi=>by rw [aD4,aA0 (show i < ps.length by omega)];rfl
 have N:∀ i,i < ts.length->H (ts.getD i 0)=some (.tup ((ps.getD i []).map V.int)):=fun i hi=>Y i _ _ (P hi) (R hi)
 refine SH.call_setT (n:=0) (U:=fun b=>b∈ts) (items:=its.toArray) (val:=fun i=>ps.getD i []) (tup:=fun i=>ts.getD i 0) (I.ok.hd hc) (by show X.A.units+1+1+1 < cLine;omega) p1.isList (fun i v C=>?_) (fun i hi=>awh I.hok (N i (by omega))) (fun i hi=>aA2 (P (by omega))) (fun b hb=>?_) (by omega) fun h' Z L hS nd nl hm kp=>?_
 ·have C:its[i]?=some v:=by simpa using C
  have hi:=(aA1.mp C).1
  have f:(ts.map V.ref)[i]?=some (.ref (ts.getD i 0)):=by rw [aA5,P (by omega)];rfl
  obtain ⟨u,J,M⟩:=S.get f
  rw [C] at J
  cases J
  exact M
 ·obtain ⟨i,hi⟩:=aD3 hb
  have g:=(aA1.mp hi).1
  have:=N i g
  rw [aD4,hi] at this
  exact ObjOk.lt (I.hok _ _ this)
 ·obtain ⟨es,ep,t,ks,x,_,B⟩:=hS
  have d:∀ (i:Nat) (e:Int × Value) k,es.toList[i]?=some e->ks[i]?=some k->∃ b,e.2=.ref b/\H b=some (.tup (k.map V.int)):=fun i e k c D=>by
   obtain ⟨b,f,F,T⟩:=x.gd i e k c D
   refine ⟨b,by rw [f],?_⟩
   obtain ⟨j,l⟩:=aD3 T
   have z:=(aA1.mp l).1
   have hb:=N j z
   rw [aD4,l] at hb
   have hb:H b=some (.tup ((ps.getD j []).map V.int)):=hb
   have h3:=awh (I.hok.kept kp) hb
   rw [(SH.TK X.prog X.w).inj F h3]
   exact hb
  have E:∃ bs:List Addr,es.toList.map (·.2)=bs.map Value.ref/\bs.length=ks.length/\∀ (i:Nat) b k,bs[i]?=some b->ks[i]?=some k->H b=some (.tup (k.map V.int)):=by
   refine ⟨es.toList.map fun e=>match e.2 with | .ref b=>b | _=>0,?_,?_,fun i b k c D=>?_⟩
   ·rw [aE0]
    refine aE8 fun e m=>?_
    obtain ⟨i,hi⟩:=aD3 m
    have g:i < ks.length:=by rw [x.len,← aA8];exact (aA1.mp hi).1
    obtain ⟨b,f,_⟩:=d i e _ hi (aA0 g)
    simp only [Function.comp,f]
   ·rw [aA3,x.len,aA8]
   ·rw [aA5] at c
    cases m:es.toList[i]? with
    | none=>rw [m] at c;cases c
    | some e =>
     rw [m] at c
     obtain ⟨b',f,F⟩:=d i e k m D
     rw [aI1,f] at c
     cases c
     exact F
  obtain ⟨bs,b1,b2,b3⟩:=E
  have O:=I.hok.fresh (a:=s.heap.objs.size) (aA6 _)
  have G:SH.SetB X.prog X.w s.heap.objs.size bs h':=⟨es,ep,t,x.r,by rw [b1]⟩
  refine ⟨.ref s.heap.objs.size,_,I.laid (t':=Z) (o:=.ext (SH.SetB X.prog X.w s.heap.objs.size bs)) kp (aA6 _) ⟨G,?_,fun c D ⟨es,ep,t,y,r⟩ k=>⟨es,ep,t,y.at k,r⟩⟩,rfl,q bs ks _ b2 ?_ b3 x.nd (fun y=>?_) O⟩
  ·obtain ⟨o,e,_⟩:=x.r
   exact ⟨o,e⟩
  ·rw [B.length_eq];omega
  ·rw [B.mem_iff,hm]
   constructor
   ·rintro ⟨j,l,e⟩
    rw [← e]
    exact aA2 (R (by omega))
   ·intro W
    obtain ⟨j,l⟩:=aD3 W
    have z:=(aA1.mp l).1
    exact ⟨j,by omega,by rw [aD4,l];rfl⟩
theorem an5 (hc:X.calm=true):abd X (.builtin "sorted") (api X.prog X.w):=by
 intro pins s σ H xs us Q I r h
 obtain ⟨a,bs,rfl,ha,hz,U,q⟩:=h
 obtain ⟨u,rfl,ru⟩:=ac7 r
 cases ru
 obtain ⟨S,_,_⟩:=(show ObjOk X.prog X.w H s.heap a (.ext (SH.SetB X.prog X.w a bs)) from I.hok a _ ha)
 have f:∀ {us:List Value},us.Perm (bs.map Value.ref)->∀ u∈us,∃ b,u=.ref b/\b∈bs:=fun {us} g u B=>by
  obtain ⟨b,hb,rfl⟩:=aB7.mp (g.mem_iff.mp B)
  exact ⟨b,rfl,hb⟩
 have l:∀ {us:List Value},us.Perm (bs.map Value.ref)->Vals (us.map acs) us/\(∀ v∈us.map acs,TupI H v)/\(us.map acs).Perm (bs.map V.ref):=fun {us} g=>by
  refine ⟨af3 fun u B=>let ⟨b,e,_⟩:=f g u B;⟨b,e⟩,fun v A=>?_,?_⟩
  ·obtain ⟨u,B,rfl⟩:=aB7.mp A
   obtain ⟨b,rfl,hb⟩:=f g u B
   exact U b hb
  ·have:=g.map acs
   rw [aE0] at this
   exact this
 have fin:∀ (us out:List Value) p c e m d,us.Perm (bs.map Value.ref)->out.Perm us->(out.map acs).Pairwise (fun x y=>HT.lexLt (kH H y) (kH H x)=false)->(∀ b o,s.heap.get? b=some o->c.get? b=some o)->s.heap.objs.size<=p->c.get? p=some (seqObj "list" out.toArray e)->EP X pins σ Q (.ref p) { s with heap:=c,toks:=m,drawn:=d }:=by
  intro us out p c e m d g n hs kp j z
  obtain ⟨D,G,F⟩:=l (n.trans g)
  have Z:out.length=bs.length:=by rw [(n.trans g).length_eq,aA3]
  have J:=I.laid (t':=m) (o:=.lst (out.map acs)) kp j (show ObjOk X.prog X.w _ c p (.lst (out.map acs)) from ⟨by rw [aA3,Z,sizeLine_eq];omega,out,e,D,by rw [z]⟩)
  exact ⟨.ref p,_,J.drawn' d,rfl,q _ _ F hs (I.hok.fresh j)⟩
 refine SH.sorted_setT (I.ok.hd hc) S hz (fun vs g K h' m d kp=>?_) fun vs p c e m d g E kp j z=>?_
 ·obtain ⟨D,G,F⟩:=l g
  obtain ⟨⟨fs,k1,k2,k3⟩,N⟩:=ahf I kp D G
  have C:(Value.type "int" != Value.type "tuple")=true:=by rfl
  refine ⟨tuples' true,TS.tS h' (fun a=>kH H (.ref a)),TS.tR (fun a=>kH H (.ref a)),fun Q' R=>?_,TS.cmp_tups (s:={ s with heap:=h',toks:=m,drawn:=d }) (fun a=>kH H (.ref a)),fun v A=>?_,fun out p c e n hs Y j z=>fin vs out p c e m d g n ?_ Y j z⟩
  ·refine PySem.W.kat_kind (T:=.type "int") (s:={ s with heap:=h',toks:=m,drawn:=d }) k1 (by omega) (fun v A=>?_) (by rfl) ?_
   ·obtain ⟨i,t,rfl⟩:=k3 v A
    exact .now
   ·rw [C];exact R
  ·obtain ⟨a,e,M⟩:=N v A
   exact ⟨rfl,a,e,M⟩
  ·rw [aG1]
   refine aI0 ?_ hs
   intro x y P L O
   obtain ⟨ax,rfl,_⟩:=f (n.trans g) x P
   obtain ⟨ay,rfl,_⟩:=f (n.trans g) y L
   exact O
 ·exact fin vs vs p c e m d g (List.Perm.refl _) (amh (by rw [aA3];exact E)) kp j z
end
end L2
namespace VL
open PySem PySem.Spec L2
section
variable {B:Bs} {env:En} {QO:Sl->En->Prop} {K:Frag} {ta:TA} {P:Program} {w:World}
theorem aqq (h:EvA B ta env fun ds e=>∃ ps:List (Int × Int),ds=[.list (ps.map prD)]/\ps.length<=2030/\∀ m:List (Int × Int),m.Nodup->(∀ x,x∈m ↔ x∈ps)->lexS (m.map p2)->QO (.own (OL (m.map prD))) e):EvO B (tCB (api P w) (aa2 (tCB (awg P w K) ta) tNil)) env QO:=fun σ G H F Q I k =>
 h σ G H F _ I fun vs G1 f F1 ds e1 s g1 r1 z_=>by
  obtain ⟨ps,ed,hl,q1⟩:=z_
  subst ed
  cases r1 with
  | cons r t =>
   cases t
   cases r with
   | @lst a us _ ha rs =>
    rw [← aim] at rs
    obtain ⟨t1,t2⟩:=aev s.gh rs awa
    have W:us.length=ps.length:=by have:=congrArg List.length t2;simpa using this
    obtain ⟨ts,a1⟩:∃ ts:List Addr,us=ts.map V.ref:=⟨us.map fun v=>match v with | .ref b=>b | _=>0,by
     rw [aE0]
     conv=>lhs;rw [← List.map_id us]
     refine aE8 fun v R=>?_
     obtain ⟨b,_,rfl,_⟩:=t1 v R
     rfl⟩
    subst a1
    have S:ts.length=ps.length:=by simpa using W
    have hk:∀ (i:Nat) t q,ts[i]?=some t->(ps.map p2)[i]?=some q->f t=some (.tup (q.map V.int)):=fun i t q T Y=>by
     have h3:(ts.map V.ref)[i]?=some (.ref t):=by rw [aA5,T];rfl
     obtain ⟨b,ns,e,hb,_⟩:=t1 _ (aA2 h3)
     cases e
     have h4:((ts.map V.ref).map (kH f))[i]?=some (kH f (.ref t)):=by rw [aA5,h3];rfl
     rw [t2,Y,aib hb] at h4
     cases h4
     exact hb
    refine ⟨a,ts,ps.map p2,rfl,SqL.of (s.gh _ _ ha),by rw [aA3];exact S,by rw [aA3];exact hl,hk,fun bs L p U X N nd hm hf=>?_⟩
    rw [aA3] at X
    have J:=s.aside (p:=p) (o:=.ext (SH.SetB P w p bs)) (fun _ z=>nomatch z) (s.no_g hf) (fun j z=>s.no_f hf j z) (s.no_b hf)
    have C:∀ (i:Nat) b q,bs[i]?=some b->L[i]?=some q->upd f p (.ext (SH.SetB P w p bs)) b=some (.tup (q.map V.int)):=fun i b q T Y=>by
     have:=N i b q T Y
     rw [aae (aao this hf)]
     exact this
    have n:∀ q∈L,∃ x∈ps,q=p2 x:=fun q hq=>by
     obtain ⟨x,D,e⟩:=aB7.mp ((hm q).mp hq)
     exact ⟨x,D,e.symm⟩
    have M:∀ b∈bs,TupI (upd f p (.ext (SH.SetB P w p bs))) (.ref b):=fun b hb=>by
     obtain ⟨i,hi⟩:=aD3 hb
     have A:i < L.length:=by rw [← U];exact (aA1.mp hi).1
     refine ⟨b,L[i],rfl,C i b _ hi (aA0 A),?_⟩
     obtain ⟨x,_,e⟩:=n _ (aF1 A)
     rw [e]
     simp
    have a0:(bs.map V.ref).map (kH (upd f p (.ext (SH.SetB P w p bs))))=L:=by
     refine aG2 fun i=>?_
     rw [aA5,aA5]
     by_cases hi:i < bs.length
     ·rw [aA0 hi,aA0 (show i < L.length by omega),aI1,aI1,aib (C i _ _ (aA0 hi) (aA0 (by omega)))]
     ·rw [aE3 (by omega),aE3 (show L.length<=i by omega)]
      rfl
    refine ⟨p,bs,rfl,aah,by omega,M,fun ws p' hp hs Z=>?_⟩
    have tw:∀ v∈ws,TupI (upd f p (.ext (SH.SetB P w p bs))) v:=fun v R=>by
     obtain ⟨b,hb,rfl⟩:=aB7.mp (hp.mem_iff.mp R)
     exact M b hb
    have o:=Out.newL J.gh Z (ahi J.ft tw)
    have g:(ws.map (kH (upd f p (.ext (SH.SetB P w p bs))))).Perm L:=by
     have:=hp.map (kH (upd f p (.ext (SH.SetB P w p bs))))
     rw [a0] at this
     exact this
    obtain ⟨m,E⟩:∃ m:List (Int × Int),ws.map (kH (upd f p (.ext (SH.SetB P w p bs))))=m.map p2:=⟨(ws.map (kH (upd f p (.ext (SH.SetB P w p bs))))).map fun l=>(l.getD 0 0,l.getD 1 0),by
     rw [aE0]
     conv=>lhs;rw [← List.map_id (ws.map (kH (upd f p (.ext (SH.SetB P w p bs)))))]
     refine aE8 fun q hq=>?_
     obtain ⟨x,_,rfl⟩:=n q (g.mem_iff.mp hq)
     rfl⟩
    rw [E] at g o
    rw [aim] at o
    have u:∀ x y:Int × Int,p2 x=p2 y->x=y:=fun x y e=>by
     obtain ⟨a,b⟩:=x
     obtain ⟨c,d⟩:=y
     simp [p2] at e
     rw [e.1,e.2]
    refine k _ _ _ F1 _ _ e1 (J.out o).1 (g1.trans o.gg) (J.out o).2 (q1 m ?_ (fun x=>?_) ?_)
    ·have:=g.nodup_iff.mpr nd
     rw [List.Nodup,aG1] at this
     exact this.imp fun {x y} h e=>h (by rw [e])
    ·constructor
     ·intro D
      obtain ⟨y,O,e⟩:=n _ (g.mem_iff.mp (List.mem_map_of_mem D))
      rw [u x y e]
      exact O
     ·intro D
      obtain ⟨y,O,e⟩:=aB7.mp (g.mem_iff.mpr ((hm (p2 x)).mpr (List.mem_map_of_mem D)))
      rw [← u y x e]
      exact O
    ·rw [← E]
     unfold lexS
     rw [aG1]
     exact hs
end
end VL
namespace L2
open PySem PySem.W PyProof.Rows
def aqr (td ty tx:TE):TE:=fun σ H Q=>td σ H fun x H1=>∃ a,x=.ref a/\IsD H1 a/\ty σ H1 fun y H2=>tx σ H2 fun z H3=>∃ kvs k,H3 a=some (.dK kvs)/\y=kV k/\kvs.length < sizeLine/\(∀ v,valV kvs k=some v->Q v H3)/\(valV kvs k=none->Q z (upd H3 a (.dK (putK kvs k z))))
section
variable {X:Cx} {pins:List (Addr × Obj)} {σ:St} {H:Hp} {s:Shared} {a:Addr} {kvs:List (Key × V)} {k:Key} {A:Around} {E:Value->Shared->Prop}
theorem avf {z:V} {u r:Value} {Q:Value->Shared->Prop} (I:Inv X pins σ H s) (e:H a=some (.dK kvs)) (i:RelV (kV k) u) (n:RelV z r) (t:kvs.length < sizeLine)
  (l:∀ v g s',valV kvs k=some v->Inv X pins σ H s'->RelV v g->Q g s') (m:∀ s',valV kvs k=none->Inv X pins σ (upd H a (.dK (putK kvs k z))) s'->Q r s') :
  wpAny (model X.prog X.w) A (call (.builtin "dict.setdefault") [.ref a,u,r]) Q E s:=by
 obtain ⟨hz,hd,vs,b,dd⟩:=a1g I.hok e
 refine call_meetsIn PySem.F.slot_dict_setdefault dd.typeIs PySem.F.entry_dict_setdefault (PySem.F.args_dict_setdefault_3 _ _ _) (kt_meets_setdefault (abg X.prog X.w) a (ap4 i) hd r)
  ⟨vs,dd,by rw [← b.length];exact hz,fun v p=>?_,fun hn h' d hs=>?_⟩
 ·have c:=b.val k
  rw [p] at c
  cases hval:valV kvs k with
  | none=>rw [hval] at c;cases c
  | some x =>
   rw [hval] at c
   exact l x v _ hval (I.tok _) c
 ·have c:=b.val k
  rw [hn] at c
  cases hval:valV kvs k with
  | some x=>rw [hval] at c;cases c
  | none =>
   have h:putK kvs k z=kvs ++ [(k,z)]:=by
    unfold putK
    rw [aha,hval]
    rfl
   have f:stored vs k r=vs ++ [(k,r)]:=stored_absent hn r
   refine m _ hval ?_
   obtain ⟨q,j⟩:∃ q,h'.get? a=some q:=let ⟨o,_,_,e,_⟩:=d;⟨o,e⟩
   refine awt I (by rw [e];exact True.intro) hs ⟨q,j⟩ (aza (by rw [h,aB1];simp;omega) hd (vs:=vs ++ [(k,r)]) (by rw [h];exact Paired.snoc b ⟨rfl,n⟩) (by rw [← f];exact d))
end
section
variable {X:Cx} {o e f:Expr} {apos cpos:Pos} {td ty tx:TE}
theorem apj (r:PE X o td) (L:PE X e ty) (hf:PE X f tx) (m:M2 X o "setdefault" apos e f cpos):PE X (.Call (.Attribute o "setdefault" apos) [e,f] [] cpos) (aqr td ty tx):=by
 intro pins s σ H Q I h
 refine wpAny_Call_method m.base m.few m.line PySem.F.plainAttrs_dict PySem.F.slot_dict_setdefault PySem.F.type_dict_setdefault (thn (r pins s σ H _ I h) fun u s1 ⟨x,E,i,C,a,ex,d,J⟩=>?_)
 subst ex
 obtain rfl:u=Value.ref a:=C
 obtain ⟨l,n,_⟩:=arp i d
 refine ⟨l,n,?_⟩
 rw [m.trees]
 refine Calls.callWith_builtin rfl (Calls.evalArgs_plain (Calls.spliced_cons (thn (L pins s1 σ E _ i J) fun M s2 ⟨y,H2,B,w,p⟩ =>
  Calls.spliced_cons (thn (hf pins s2 σ H2 _ B p) fun fv N ⟨z,H3,q,j,kvs,k,G,t,D,A,K⟩=>Calls.spliced_nil ?_))))
 subst t
 exact avf q G w j D (fun v O s' g b c=>⟨v,H3,b,c,A v g⟩) fun s' g b=>⟨z,_,b,j,K g⟩
end
end L2
namespace VL
open PySem PySem.Spec L2
def zipK:List (Int × List PyData)->List Addr->List (Int × V)
 | p :: es,a :: as=>(p.1,.ref a) :: zipK es as
 | _,_=>[]
theorem ahl {k:Int}:∀ {es:List (Int × List PyData)} {as:List Addr} {i:Nat} {ds:List PyData} {b:Addr},(es.map (·.1)).Nodup->es[i]?=some (k,ds)->as[i]?=some b->valV (dkOf (zipK es as)) (.inl k)=some (.ref b)
 | [],_,i,_,_,_,h,_=>by simp at h
 | _ :: _,[],i,_,_,_,_,h=>by simp at h
 | p :: es,a :: as,0,ds,b,nd,h1,h2=>by
  simp at h1 h2
  subst h1 h2
  exact afa (p:=(Sum.inl k,V.ref a)) rfl
 | p :: es,a :: as,i+1,ds,b,nd,h1,h2=>by
  rw [aD1,aI4] at nd
  have c:es[i]?=some (k,ds):=by simpa using h1
  have d:¬ ((Sum.inl p.1:Key)=Sum.inl k):=fun e=>nd.1 (by rw [Sum.inl.inj e];exact aB7.mpr ⟨_,aA2 c,rfl⟩)
  show valV ((Sum.inl p.1,V.ref a) :: dkOf (zipK es as)) _=_
  rw [aeb (p:=(Sum.inl p.1,V.ref a)) d]
  exact ahl nd.2 c (by simpa using h2)
theorem ake {k:Int}:∀ {es:List (Int × List PyData)} {as:List Addr},(∀ p∈es,p.1 ≠ k)->valV (dkOf (zipK es as)) (.inl k)=none
 | [],_,_=>by simp [zipK];rfl
 | _ :: _,[],_=>rfl
 | p :: es,a :: as,h=>by
  have b:¬ ((Sum.inl p.1:Key)=Sum.inl k):=fun e=>h p aB8 (Sum.inl.inj e)
  show valV ((Sum.inl p.1,V.ref a) :: dkOf (zipK es as)) _=_
  rw [aeb (p:=(Sum.inl p.1,V.ref a)) b]
  exact ake fun q c=>h q (aB5 _ c)
theorem akf {p:Int × List PyData} {a:Addr}:∀ {es:List (Int × List PyData)} {as:List Addr},es.length=as.length->zipK (es ++ [p]) (as ++ [a])=zipK es as ++ [(p.1,.ref a)]
 | [],[],_=>rfl
 | [],_ :: _,h=>by simp at h
 | _ :: _,[],h=>by simp at h
 | q :: es,b :: as,h=>by
  show (q.1,V.ref b) :: zipK (es ++ [p]) (as ++ [a])=_
  rw [akf (by simpa using h)]
  rfl
theorem akg:∀ {es fs:List (Int × List PyData)} {as:List Addr},es.map (·.1)=fs.map (·.1)->zipK es as=zipK fs as
 | [],[],_,_=>rfl
 | [],_ :: _,_,h=>by simp at h
 | _ :: _,[],_,h=>by simp at h
 | p :: es,q :: fs,[],h=>rfl
 | p :: es,q :: fs,a :: as,h=>by
  rw [aD1,aD1,List.cons.injEq] at h
  show (p.1,V.ref a) :: zipK es as=(q.1,V.ref a) :: zipK fs as
  rw [h.1,akg h.2]
theorem am6:∀ {es:List (Int × List PyData)} {as:List Addr},es.length=as.length->(zipK es as).length=es.length
 | [],_,_=>by simp [zipK]
 | _ :: _,[],h=>by simp at h
 | p :: es,a :: as,h=>by
  show (zipK es as).length+1=es.length+1
  rw [am6 (by simpa using h)]
def OKL (es:List (Int × List PyData)):Own where
 P:=fun G H v F=>∃ (a:Addr) (as:List Addr),v=.ref a/\H a=some (.dK (dkOf (zipK es as)))/\(es.map fun q:Int × List PyData=>q.1).Nodup/\as.Nodup/\a ∉ as/\es.length=as.length/\(∀ (i:Nat) b p,as[i]?=some b->es[i]?=some p->∃ vs,H b=some (.lst vs)/\Rps G vs p.2)/\∀ b,F b ↔ b=a\/b∈as
 mono:=fun ⟨a,as,e,h,n0,n1,n2,l,r,f⟩ g hh=>⟨a,as,e,hh a _ ((f a).mpr (.inl rfl)) h,n0,n1,n2,l,fun i b p hb hd=>by
  obtain ⟨vs,h1,h2⟩:=r i b p hb hd
  exact ⟨vs,hh b _ ((f b).mpr (.inr (aA2 hb))) h1,h2.same g⟩,f⟩
 dom:=fun ⟨a,as,e,h,n0,n1,n2,l,r,f⟩ b z=>by
  rcases (f b).mp z with rfl | z
  ·exact ⟨_,h⟩
  ·obtain ⟨i,hi,e⟩:=aH6.mp z
   have hb:as[i]?=some b:=by rw [aA0 hi,e]
   obtain ⟨vs,h1,_⟩:=r i b _ hb (aA0 (by rw [l];exact hi))
   exact ⟨_,h1⟩
theorem ast {G H:Hp} {v:V} {F:Addr->Prop} (h:(OD []).P G H v F):(OKL []).P G H v F:=by
 obtain ⟨a,kvs,e,h,r,f⟩:=h
 cases r
 exact ⟨a,[],e,h,List.nodup_nil,List.nodup_nil,by simp,rfl,fun i b p hb=>by simp at hb,fun b=>by rw [f b];simp⟩
theorem apk {G:Hp}:∀ {es:List (Int × List PyData)} {as:List Addr},es.length=as.length->(∀ (i:Nat) b p,as[i]?=some b->es[i]?=some p->Rp G (.ref b) (.list p.2))->RpK G (dkOf (zipK es as)) (es.map fun p=>(.inl p.1,.list p.2))
 | [],_,_,_=>by simp [zipK];exact .nil
 | _ :: _,[],h,_=>by simp at h
 | p :: es,a :: as,h,q => .cons (q 0 a p rfl rfl) (apk (by simpa using h) fun i b p c d=>q (i+1) b p (by simpa using c) (by simpa using d))
@[reducible] def kvG (es:List (Int × List PyData)):List (Key × PyData):=es.map fun p=>(.inl p.1,.list p.2)
theorem ayb {es:List (Int × List PyData)}:Frz (OKL es) (agt (kvG es)):=fun G H v F ⟨a,as,e,h,o,m,q,l,r,f⟩ n g=>by
 subst e
 refine .dk (by rw [ad6 ((f a).mpr (.inl rfl))];exact h) (apk l fun i b p hb d=>?_) rfl
 obtain ⟨vs,c,j⟩:=r i b p hb d
 exact .lst (by rw [ad6 ((f b).mpr (.inr (aA2 hb)))];exact c) (j.same (abk n))
section
variable {B:Bs} {env:En} {QO:Sl->En->Prop} {Q':PyData->En->Prop} {D':VEnds} {K:Frag} {i:Nat}
theorem ayc {t:TS} (i:Nat) (e:env[i]?=some (some (.own (OD [])))) (q:EvS B t D' (env.set i (some (.own (OKL []))))):EvS B t D' env:=fun σ G H F D I r=>q σ G H F D (I.weakO e fun _ _ _ _=>ast) r
theorem aqs {es:List (Int × List PyData)} {l j:Nat} {k:Int} {y:PyData} (e:env[i]?=some (some (.own (OKL es)))) (ek:env[l]?=some (some (.st (.int k)))) (ey:env[j]?=some (some (.st y)))
  (a5:es.length<=900000) (Z:∀ p∈es,p.2.length<=900000)
  (q1:∀ (n:Nat) (ds:List PyData),es[n]?=some (k,ds)->Q' .none (env.set i (some (.own (OKL (es.set n (k,ds ++ [y])))))))
  (q2:(∀ p∈es,p.1 ≠ k)->Q' .none (env.set i (some (.own (OKL (es ++ [(k,[y])])))))):Ev B (tBM K "list" ade (aqr (tVar i) (tVar l) (tLst tNil)) (aa2 (tVar j) tNil)) env Q':=fun σ G H F Q I kk=>by
 obtain ⟨v,W,⟨a,as,rfl,h,R,n1,S,ln,r,f⟩,_⟩:=I.sl i _ e
 obtain ⟨vk,a1,rk,_⟩:=I.sl l _ ek
 obtain ⟨vy,N,ry,_⟩:=I.sl j _ ey
 cases rk
 refine ⟨_,W,a,rfl,.inl ⟨_,.inl h⟩,_,a1,by decide,fun p D=>?_⟩
 have ap:a ≠ p:=aao h D
 have has:∀ b∈as,∃ vs,H b=some (.lst vs):=fun b hb=>by
  obtain ⟨i,hi⟩:=aD3 hb
  obtain ⟨vs,O,_⟩:=r i b _ hi (aA0 (show i < es.length by rw [ln];exact (aA1.mp hi).1))
  exact ⟨vs,O⟩
 have u:p ∉ as:=fun hb=>by obtain ⟨vs,O⟩:=has p hb;rw [O] at D;cases D
 have X:(dkOf (zipK es as)).length < sizeLine:=by
  unfold dkOf
  rw [aA3,am6 ln,sizeLine_eq]
  omega
 refine ⟨dkOf (zipK es as),.inl k,by rw [aae ap];exact h,rfl,X,fun v d=>?_,fun d=>?_⟩
 ·-- the key is there
  have a3:∃ (n:Nat) (ds:List PyData),es[n]?=some (k,ds):=by
   apply aD5
   intro E
   rw [ake fun q s z=>?_] at d
   ·cases d
   ·obtain ⟨m,hm⟩:=aD3 s
    exact E ⟨m,q.2,by rw [hm,← z]⟩
  obtain ⟨n,ds,hn⟩:=a3
  have L:n < as.length:=by rw [← ln];exact (aA1.mp hn).1
  have hb:as[n]?=some as[n]:=aA0 L
  generalize as[n]'L=b at hb
  have M:b∈as:=aA2 hb
  rw [ahl R hn hb] at d
  cases d
  obtain ⟨vs,O,h2⟩:=r n b _ hb hn
  have bp:b ≠ p:=fun z=>u (z ▸ M)
  have T:a ≠ b:=fun z=>S (z ▸ M)
  have a4:=Z _ (aA2 hn)
  have Y:=I.aside (p:=p) (o:=.lst []) (fun _ z=>nomatch z) (I.no_g D) (fun j z=>I.no_f D j z) (I.no_b D)
  have C:upd H p (.lst []) b=some (.lst vs):=by rw [aae bp];exact O
  refine ⟨.inl ⟨rfl,_,SqL.of C⟩,_,N,adr C (by rw [h2.length,sizeLine_eq];have:ds.length<=900000:=a4;omega) ?_⟩
  have J:=Y.change (A:=OKL (es.set n (k,ds ++ [y]))) (H2:=upd (upd H p (.lst [])) b (.lst (vs ++ [vy]))) (F2:=F i) (os':=.own (OKL (es.set n (k,ds ++ [y])))) i e W (fun c o g t=>by rw [aae (fun z:c=b=>g ((f c).mpr (.inr (by rw [z];exact M))))];exact t)
   (fun c o t=>by
    by_cases z:c=b
    ·rw [z];exact ⟨_,aah⟩
    ·rw [aae z];exact ⟨o,t⟩)
   (fun c z=>⟨.inl z,by
    by_cases y:c=b
    ·rw [y];exact ⟨_,aah⟩
    ·rw [aae y];exact Y.fo i c z⟩) ?_ (fun c ks e=>by
    by_cases z:c=b
    ·subst z;rw [aah] at e;cases e
    ·rw [aae z] at e;exact Y.ft c ks e) (.inl ⟨rfl,_,rfl⟩)
  ·exact kk _ G _ _ _ _ J (Same.refl _) .non (q1 n ds hn)
  ·have hk:(es.set n (k,ds ++ [y])).map (·.1)=es.map (·.1):=by
    refine aG2 fun m=>?_
    rw [aA5,aA5,aD2]
    by_cases hm:n=m
    ·subst hm
     rw [aF5 rfl,aF5 (show n < es.length by rw [ln];exact L),hn]
     rfl
    ·rw [aF6 hm]
   refine ⟨a,as,rfl,?_,by rw [hk];exact R,n1,S,by rw [List.length_set];exact ln,fun m c q g s=>?_,f⟩
   ·rw [aae T,aae ap,akg hk]
    exact h
   ·by_cases hm:m=n
    ·subst hm
     rw [hb] at g;cases g
     rw [aD2,aF5 rfl,aF5 (show m < es.length by rw [ln];exact L)] at s
     cases s
     exact ⟨_,aah,h2.append (.cons ry .nil)⟩
    ·rw [aD2,aF6 (fun z=>hm z.symm)] at s
     obtain ⟨us,h3,U⟩:=r m c q g s
     refine ⟨us,?_,U⟩
     have w:=aA2 g
     rw [aae,aae (fun z:c=p=>u (z ▸ w))]
     ·exact h3
     ·rintro rfl
      obtain ⟨l1,e1⟩:=aA1.mp hb
      obtain ⟨l2,e2⟩:=aA1.mp g
      exact hm (nodup_ix n1 l2 l1 (e2.trans e1.symm))
 ·-- a new key
  have E:∀ q∈es,q.1 ≠ k:=fun q s z=>by
   obtain ⟨m,hm⟩:=aD3 s
   have a0:m < as.length:=by rw [← ln];exact (aA1.mp hm).1
   have:=ahl (k:=k) (ds:=q.2) R (by rw [hm,← z]) (aA0 a0)
   rw [this] at d
   cases d
  have P:putK (dkOf (zipK es as)) (.inl k) (.ref p)=dkOf (zipK (es ++ [(k,[y])]) (as ++ [p])):=by
   rw [akf ln]
   unfold putK
   rw [aha,d]
   unfold dkOf
   rw [aE5]
   rfl
  rw [P]
  have pa:p ≠ a:=ap.symm
  have C:upd (upd H p (.lst [])) a (.dK (dkOf (zipK (es ++ [(k,[y])]) (as ++ [p])))) p=some (.lst []):=by rw [aae pa,aah]
  refine ⟨.inl ⟨rfl,_,SqL.of C⟩,_,N,adr C (show (0:Nat) < sizeLine by rw [sizeLine_eq];decide) ?_⟩
  have J:=I.change (A:=OKL (es ++ [(k,[y])])) (H2:=upd (upd (upd H p (.lst [])) a (.dK (dkOf (zipK (es ++ [(k,[y])]) (as ++ [p]))))) p (.lst ([] ++ [vy]))) (F2:=fun c=>F i c\/c=p) (os':=.own (OKL (es ++ [(k,[y])]))) i e W (fun c o g t=>by
    rw [aae (aao t D),aae (fun z:c=a=>g ((f c).mpr (.inl z))),aae (aao t D)]
    exact t)
   (fun c o t=>by
    by_cases z:c=p
    ·rw [z];exact ⟨_,aah⟩
    ·rw [aae z]
     by_cases z2:c=a
     ·rw [z2];exact ⟨_,aah⟩
     ·rw [aae z2,aae z];exact ⟨o,t⟩)
   (fun c z=>by
    rcases z with z | z
    ·refine ⟨.inl z,?_⟩
     obtain ⟨o,t⟩:=I.fo i c z
     rw [aae (aao t D)]
     by_cases z2:c=a
     ·rw [z2];exact ⟨_,aah⟩
     ·rw [aae z2,aae (aao t D)];exact ⟨o,t⟩
    ·subst z
     exact ⟨.inr D,_,aah⟩) ?_ (fun c ks e=>by
    by_cases z:c=p
    ·subst z;rw [aah] at e;cases e
    ·rw [aae z] at e
     by_cases z2:c=a
     ·subst z2;rw [aah] at e;cases e
     ·rw [aae z2,aae z] at e;exact I.ft c ks e) (.inl ⟨rfl,_,rfl⟩)
  ·exact kk _ G _ _ _ _ J (Same.refl _) .non (q2 E)
  ·refine ⟨a,as ++ [p],rfl,by rw [aae ap,aah],?_,?_,?_,by rw [aB1,aB1,ln];rfl,fun m c q g s=>?_,fun c=>?_⟩
   ·rw [aE5,aE7]
    refine ⟨R,by simp,fun x hx z hz=>?_⟩
    obtain ⟨q,s,rfl⟩:=aB7.mp hx
    have:z=k:=by simpa using hz
    rw [this]
    exact E q s
   ·rw [aE7]
    refine ⟨n1,by simp,fun x hx z hz=>?_⟩
    have:z=p:=by simpa using hz
    rw [this]
    exact fun e=>u (e ▸ hx)
   ·intro z
    rcases aA7.mp z with z | z
    ·exact S z
    ·exact ap (aC2.mp z)
   ·by_cases hm:m < as.length
    ·rw [aC3 hm] at g
     rw [aC3 (by omega)] at s
     obtain ⟨us,h3,U⟩:=r m c q g s
     have w:=aA2 g
     refine ⟨us,?_,U⟩
     rw [aae (fun z:c=p=>u (z ▸ w)),aae (fun z:c=a=>S (z ▸ w)),aae (fun z:c=p=>u (z ▸ w))]
     exact h3
    ·have a2:m=as.length:=by
      have:=(aA1.mp g).1
      simp at this
      omega
     subst a2
     rw [aC8 (aA6 _),aI6] at g
     rw [← ln,aC8 (aA6 _),aI6] at s
     cases g
     cases s
     exact ⟨_,aah,.cons ry .nil⟩
   ·show (F i c\/c=p) ↔ _
    rw [f c,aA7,aC2]
    exact or_assoc
def aes (es:List (Int × List PyData)) (k:Int):List PyData:=((es.find? fun p=>decide (p.1=k)).map (·.2)).getD []
theorem ayd (es:List (Int × List PyData)) (k:Int):valD (kvG es) (.inl k)=(es.find? fun p=>decide (p.1=k)).map fun p => .list p.2:=by
 unfold valD kvG
 rw [List.find?_map,Option.map_map]
 congr 1
 apply congrFun (congrArg List.find? (funext fun p=>?_))
 simp [Function.comp]
theorem asu {es:List (Int × List PyData)} {l:Nat} {k:Int} {s1:Sl} (e:env[i]?=some (some s1)) (hs:(s1=.own (OKL [])/\es=[])\/(s1=.st (agt (kvG es))/\es ≠ [])) (E:env[l]?=some (some (.st (.int k)))) (y:aes es k=[]->QO (.own (OL [])) env) (u:QO (.st (.list (aes es k))) env):EvO B (ah1 (tVar i) (tVar l) (tLst tNil)) env QO:=fun σ G H F Q I n=>by
 obtain ⟨v,A,x⟩:=I.sl i _ e
 obtain ⟨K,g,m,_⟩:=I.sl l _ E
 cases m
 rcases hs with ⟨rfl,rfl⟩ | ⟨rfl,t⟩
 ·obtain ⟨⟨a,as,rfl,h,M,L,N,ln,r,f⟩,_⟩:=x
  refine ⟨_,A,a,rfl,.inl ⟨_,.inl h⟩,_,g,by decide,fun p c=>⟨none,.inl ⟨_,.inl k,.inl (by rw [aae (aao h c)];exact h),rfl,rfl⟩,?_⟩⟩
  have o:=Out.newL (xs:=[]) (ds:=[]) I.gh c .nil
  exact n _ _ _ F _ _ env (I.out o).1 o.gg (I.out o).2 (y rfl)
 ·obtain ⟨a,kvs,rfl,ha,m⟩:=ax0 x.1 (by cases es with | nil=>exact absurd rfl t | cons p es=>exact List.cons_ne_nil _ _)
  have d:=I.gh _ _ ha
  refine ⟨_,A,a,rfl,.inl ⟨kvs,.inl d⟩,_,g,by decide,fun p c=>⟨valV kvs (.inl k),.inl ⟨kvs,.inl k,.inl (by rw [aae (aao d c)];exact d),rfl,rfl⟩,?_⟩⟩
  have b:=ayd es k
  cases hf:es.find? fun p=>decide (p.1=k) with
  | none =>
   rw [hf] at b
   rw [(RpK.val m).1 b]
   have o:=Out.newL (xs:=[]) (ds:=[]) I.gh c .nil
   exact n _ _ _ F _ _ env (I.out o).1 o.gg (I.out o).2 (y (by unfold aes;rw [hf];rfl))
  | some q =>
   rw [hf] at b
   obtain ⟨w,D,s⟩:=(RpK.val m).2 _ b
   rw [D]
   have J:=I.aside (p:=p) (o:=.lst []) (fun _ z=>nomatch z) (I.no_g c) (fun j z=>I.no_f c j z) (I.no_b c)
   have C:aes es k=q.2:=by unfold aes;rw [hf];rfl
   rw [C] at u
   exact n _ _ _ F _ _ env J (Same.refl _) (acu s) u
theorem asv {a:List PyData->En->Prop} {es:List (Int × List PyData)} {l:Nat} {k:Int} {s1:Sl} (e:env[i]?=some (some s1)) (hs:(s1=.own (OKL [])/\es=[])\/(s1=.st (agt (kvG es))/\es ≠ [])) (b:env[l]?=some (some (.st (.int k)))) (q:a (aes es k) env):EvI B (apz K (ah1 (tVar i) (tVar l) (tLst tNil))) env a :=
 aml (abr (asu e hs b (fun h=>aen ⟨_,rfl,by rw [h] at q;exact q⟩) (av8 ⟨_,rfl,q⟩)))
end
section
variable {B:Bs} {env:En} {QO:Sl->En->Prop} {Q':PyData->En->Prop} {K:Frag} {E:XK} {i:Nat}
end
end VL
namespace HT
open PySem PySem.Spec PySem.Calls PyProof.Rows PySem.W
section
variable {prog:Program} {w:World} {A:Around} {E:Value->Shared->Prop} {s:Shared}
theorem unpack_star {l:Addr} {items:Array Value} {i:Nat} {Q:List Value->Shared->Prop} (r:s.heap.IsList l items) (hh:A.handled=none) (hi:i<=items.size) (hz:items.size<=sizeLine)
  (h:∀ h' z,Heap.ExtBut s.heap.objs.size s.heap h'->Q (items.toList.take i ++ [.ref h'.objs.size]) { s with heap:=h'.push { cls:=.type "list",data:=.seq (items.toList.drop i).toArray },toks:=z }):wpAny (model prog w) A (unpackItems (.ref l) (i+1) (some i)) Q E s:=by
 have q:l ≠ s.heap.objs.size:=by obtain ⟨o,C,_⟩:=r;exact aB6 (aJ2 C)
 unfold unpackItems
 refine aI9 ?_
 unfold notIterableAtAll
 refine aI9 (wpAny_specialOf r.typeIs slot_list_iter.lookup ?_)
 refine aJ0 ?_
 simp only [Bool.false_eq_true,if_false]
 refine aI9 (aJ5 (aK4 r ?_))
 refine aI9 (aJ5 (kun_draw q i 0 _ _ ⟨_,aJ3 _ rfl,rfl,rfl⟩ (r.push _) (by omega) fun p a f=>?_))
 have g:p.IsList l items:=(r.push _).extBut f.extBut q
 rw [Nat.zero_add] at a
 have c:=a
 obtain ⟨H,v,_⟩:=c
 have m:=g
 obtain ⟨G,y,_⟩:=m
 rw [List.drop_zero]
 have x:(items.toList.take i).length=i:=by rw [aH0,aA8];omega
 rw [aF6 (show ¬ ((items.toList.take i).length < i) by rw [x];omega)]
 refine aI9 (aJ5 (kun_collect (s:={ s with heap:=p }) (T:="list_iterator") (.inr (.inr (.inl rfl))) (Walks.list (A:=A.in1) hh s.heap.objs.size l q items) (fun j u st=>st.1.typeIs) (k:=i) (by omega) ⟨a,g⟩ (aJ2 v) (aJ2 y) (fun n z D=>?_) hz))
 have B:(items.toList.drop i).length=items.size - i:=by rw [aI7,aA8]
 have t:(items.toList.drop i).length - (i+1 - 1 - i)=(items.toList.drop i).length:=by omega
 show wpAny _ _ (if (items.toList.drop i).length < i+1 - 1 - i then _ else _) _ _ _
 rw [aF6 (by omega)]
 show wpAny _ _ (newList ((items.toList.drop i).take ((items.toList.drop i).length - (i+1 - 1 - i))) >>= fun d=>pure (items.toList.take i ++ [d] ++ (items.toList.drop i).drop ((items.toList.drop i).length - (i+1 - 1 - i)))) _ _ _
 rw [t,aG8,List.drop_length]
 have F:Heap.ExtBut s.heap.objs.size s.heap n:=fun b o hb e=>D b o hb (f.extBut b o hb (aJ1 _ e))
 refine aI9 (wpAny_newList ?_ (by rw [B];omega))
 refine aJ0 ?_
 rw [aE9]
 exact h n z F
end
end HT
namespace L2
open PySem PySem.Spec PyProof.Rows
section
variable {X:Cx}
def awi (K:Frag) (g1 g2:TG):TG:=fun v σ H Q=>∃ a x xs,v=.ref a/\SqL K H a (x :: xs)/\∀ p,H p=none->g1 x σ (upd H p (.lst xs)) fun σ1 H1=>g2 (.ref p) σ1 H1 Q
theorem apl {d c:Expr} {k:Nat} {q p:TG} {l sp:Pos} (G:X.calm=true) (D:PG X d q) (E:PG X c p)
  (hn:(assignEach [d,.Starred c sp] X.env).length=1+1:=by rfl) (j:(assignEach [d,.Starred c sp] X.env).findIdx? (·.1)=some 1:=by rfl) (hm:(assignEach [d,.Starred c sp] X.env).map (·.2)=[assign d X.env,assign c X.env]:=by rfl) :
  PG X (.Tuple [d,.Starred c sp] k l) (awi X.K q p):=by
 intro pins s σ H v u Q I r i
 obtain ⟨a,x,xs,B,A,i⟩:=i
 subst B
 cases r
 obtain ⟨its,C,F,hz⟩:=I.list A
 cases C with
 | @cons _ v0 _ vr r0 rr =>
  rw [assign_Tuple]
  refine aI9 (wpAny_standAt ?_)
  unfold unpack
  rw [hn,j,hm]
  have L:=rr.length
  have f:(v0 :: vr).length<=sizeLine:=by simp at hz ⊢;omega
  refine aI9 (aJ5 (HT.unpack_star F.isList (I.ok.hd G) (by simp) (by simpa using f) fun h' g N=>?_))
  have n:Inv X pins σ H { s with heap:=h',toks:=g }:=I.kept (t':=g) fun b o e=>N b o (aB6 (aJ2 e)) e
  have hf:H h'.objs.size=none:=n.hok.fresh (aA6 _)
  have z:=n.laid (t':=g) (o:=.lst xs) (h':=h'.push { cls:=.type "list",data:=.seq vr.toArray }) (fun b u e=>aJ1 _ e) (aA6 h'.objs.size) ⟨by simp at f;omega,vr,0,rr,aJ3 _ rfl⟩
  show wpAny _ _ (assignInOrder [assign d X.env,assign c X.env] [v0,.ref h'.objs.size]) _ _ _
  refine assignInOrder_cons (thn (D pins _ σ _ _ _ _ z r0 (i _ hf)) fun _ s1 ⟨h,J,y,M⟩=>?_)
  refine assignInOrder_cons (thn (E pins s1 h J _ _ _ y (show RelV (.ref h'.objs.size) (.ref h'.objs.size) from rfl) M) fun _ s2 ⟨m,H2,w,t⟩=>?_)
  exact assignInOrder_nil ⟨m,H2,w,t⟩
end
end L2
namespace VL
open PySem PySem.Spec L2
section
variable {B:Bs} {env:En} {K:Frag} {QE:En->Prop}
theorem avg {i:Nat} {c:TG} {d:PyData} {ds:List PyData} (h:EvG B c (.own (OL ds)) (env.set i (some (.st d))) QE):EvG B (awi K (abc i) c) (.st (.list (d :: ds))) env QE:=fun σ G H F v Fv Q I x k=>by
 obtain ⟨r,_⟩:=x.ok
 cases r with
 | lst ha rs =>
  cases rs with
  | cons r0 rr =>
   refine ⟨_,_,_,rfl,SqL.of (I.gh _ _ ha),fun p l=>?_⟩
   have o:=Out.newL I.gh l rr
   have g:=(I.out o).1
   have b:=(I.out o).2
   have f:=g.store (acu r0) i
   refine h _ _ _ _ _ _ _ f ⟨b.ok,b.fb,b.fg,b.fo,fun j a z y=>?_⟩ k
   by_cases hj:j=i
   ·subst hj;exact (putF_same.mp y).elim
   ·rw [aa8 hj] at y;exact b.fd j a z y
end
end VL
namespace L2
open PySem PySem.Spec PyProof.Rows
structure FlyT (base:Heap) (l:List Env) (e T:Addr) (cls:Value) (h:Heap):Prop where
 stay:base.StaysIn h
 new:base.get? e=none
 newT:base.get? T=none
 funs:h.FunFrames base l
 tr:∃ oe vs oT ts a0,h.get? e=some oe/\(oe.cls=cls/\vs[0]?=some a0)/\oe.data=.fields vs/\vs[1]?=some (.ref T)/\T ≠ e/\h.get? T=some oT/\oT.data=.fields ts/\ts[3]?=some .none
theorem FlyT.of {base a h':Heap} {as:List Addr} {l:List Env} {e:Addr} {cls a0:Value} (x:Heap.FlyingW (PySem.W.hideAll a as) l e cls a0 h') (i:a.UpToSlots h') (st:base.StaysIn a) (ha:∀ b∈as,base.get? b=none) (fn:a.FunFrames base l) (ne:base.get? e=none) :
  ∃ T,FlyT base l e T cls h'/\(T∈as\/a.get? T=none):=by
 obtain ⟨k1,k2,k3,oe,vs,T,oT,ts,r,n,hd,j,h,d,f,g,p⟩:=x
 have c:T∈as\/a.get? T=none:=by
  by_cases m:T∈as
  ·exact .inl m
  ·cases q:a.get? T with
   | none=>exact .inr rfl
   | some o=>rw [PySem.W.hideAll_get as q m] at h;cases h
 refine ⟨T,⟨fun b o q=>k1 b o (PySem.W.hideAll_get as (st b o q) fun m=>by rw [ha b m] at q;cases q),ne,?_,fn.of_keeps fun b o hb hn=>?_,oe,vs,oT,ts,a0,r,n,hd,j,d,f,g,p⟩,c⟩
 ·rcases c with m | m
  ·exact ha T m
  ·exact PySem.W.fresh_of_stays st m
 ·obtain ⟨sl,q⟩:=i b o hb hn
  exact ⟨_,q,rfl⟩
theorem asw {base c h':Heap} {l g:List Env} {e T:Addr} {cls:Value} (fn:c.FunFrames base l) (d:c.UpToSlots h') (y:FlyT base g e T cls h'):T ∉ frs l:=fun m=>by
 obtain ⟨_,o,f,hn⟩:=fn.mem m
 obtain ⟨sl,q⟩:=d T o f hn
 obtain ⟨oe,vs,oT,ts,a0,_,_,_,_,_,a,b,_⟩:=y.tr
 rw [q] at a;cases a
 exact hn ts b
theorem ajl {l:List Env}:∀ env∈l,∀ a,env.frame=some a->a∈frs l:=fun env b a ha=>List.mem_filterMap.mpr ⟨env,b,ha⟩
section
variable {M:Model} {A:Around} {E:Value->Shared->Prop} {s:Shared} {base:Heap} {env:Env} {outer:List Env} {L e T:Addr} {cls:Value} {Q:Unit->Shared->Prop}
theorem avh (h:A.frames=some (env :: outer)) (hf:env.frame=some L) (x:FlyT base (env :: outer) e T cls s.heap)
  (l:∀ h' T',FlyT base outer e T' cls h'->(T'=T\/s.heap.get? T'=none)->(∀ b o,s.heap.get? b=some o->b ≠ e->b ≠ T->b ∉ frs (env :: outer)->h'.get? b=some o)->s.heap.UpToSlots h'->Q () { s with heap:=h' }):wpAny M A (leaving env (.ref e)) Q E s:=by
 obtain ⟨oe,vs,oT,ts,a0,B,r,hd,m,c,i,j,v⟩:=id x.tr
 refine wpAny_leaves_onW (base:=PySem.W.hideAll s.heap (e :: T :: frs (env :: outer))) h hf ⟨fun b o q=>PySem.W.of_hideAll _ q,PySem.W.hideAll_none _ (.head _),PySem.W.funFrames_hide x.funs fun u hn a ha => .tail _ (.tail _ (ajl u hn a ha)),
  oe,vs,T,oT,ts,B,r,hd,m,PySem.W.hideAll_none _ (.tail _ (.head _)),c,i,j,v⟩ fun h' f d=>?_
 obtain ⟨T',y,g⟩:=FlyT.of (base:=base) f d x.stay (fun b hb=>by
  rcases aA9.mp hb with z | hb
  ·rw [z];exact x.new
  ·rcases aA9.mp hb with z | hb
   ·rw [z];exact x.newT
   ·exact (x.funs.mem hb).1) x.funs.2.2 x.new
 refine l h' T' y ?_ (fun b o q t w p=>f.1 b o (PySem.W.hideAll_get _ q fun z=>?_)) d
 ·rcases g with z | z
  ·rcases aA9.mp z with z | z
   ·obtain ⟨_,_,_,_,_,_,_,_,_,n,_⟩:=y.tr
    exact absurd z n
   ·rcases aA9.mp z with z | z
    ·exact .inl z
    ·exact absurd z (asw x.funs d y)
  ·exact .inr z
 ·rcases aA9.mp z with z | z
  ·exact t z
  ·rcases aA9.mp z with z | z
   ·exact w z
   ·exact p z
theorem aqt {h:Heap} {args:List Value} (d:A.frames=some (env :: outer)) (hf:env.frame=some L) (st:base.StaysIn h) (fn:h.FunFrames base (env :: outer)) (g:Heap.MadeExcOf h s.heap e cls args)
  (j:∀ h' T',FlyT base outer e T' cls h'->h.get? T'=none->(∀ b o,h.get? b=some o->b ∉ frs (env :: outer)->h'.get? b=some o)->h.UpToSlots h'->Q () { s with heap:=h' }):wpAny M A (leaving env (.ref e)) Q E s:=by
 refine wpAny_leaves_madeW (base:=PySem.W.hideAll h (frs (env :: outer))) d hf (fun b o q=>PySem.W.of_hideAll _ q) (PySem.W.funFrames_hide fn ajl) g fun h' t f _ _ i=>?_
 have a:h.UpToSlots h':=(Heap.UpToSlots.of_keeps g.keeps).trans i
 obtain ⟨T',y,c⟩:=FlyT.of (base:=base) f a st (fun b hb=>(fn.mem hb).1) fn.2.2 (PySem.W.fresh_of_stays st g.new)
 refine j h' T' y ?_ (fun b o q n=>f.1 b o (PySem.W.hideAll_get _ q n)) a
 rcases c with z | z
 ·exact absurd z (asw fn a y)
 ·exact z
end
theorem ObjOk.has {P:Program} {w:World} {H:Hp} {h:Heap} {a:Addr} {o:HO} (x:ObjOk P w H h a o):∃ b,h.get? a=some b:=by
 cases o with
 | lst xs=>obtain ⟨_,_,_,_,e⟩:=x;exact ⟨_,e⟩
 | tup xs=>obtain ⟨_,_,_,b,e,_⟩:=x;exact ⟨_,e⟩
 | dK kvs=>obtain ⟨_,_,_,_,o,_,_,e,_⟩:=x;exact ⟨_,e⟩
 | dT kvs=>obtain ⟨_,_,_,_,o,_,_,e,_⟩:=x;exact ⟨_,e⟩
 | set S n=>obtain ⟨o,_,_,_,e,_⟩:=x;exact ⟨_,e⟩
 | ins C dx fs=>obtain ⟨_,_,_,e,_⟩:=x;exact ⟨_,e⟩
 | own y=>exact x
 | xd fs=>obtain ⟨_,⟨_,_,_,e,_⟩,_⟩:=x;exact ⟨_,e⟩
 | rng lo hi=>obtain ⟨_,_,_,e⟩:=x;exact ⟨_,e⟩
 | frz b u=>obtain ⟨e,_⟩:=x;exact ⟨_,e⟩
 | tbl ps=>exact ⟨_,show h.get? a=some _ from x⟩
 | met f y=>exact ⟨_,show h.get? a=some _ from x⟩
 | ext φ=>obtain ⟨_,e,_⟩:=x;exact e
theorem HOk.no {P:Program} {w:World} {H:Hp} {h:Heap} {a:Addr} (x:HOk P w H h) (e:h.get? a=none):H a=none:=by
 cases q:H a with
 | none=>rfl
 | some o=>obtain ⟨b,z⟩:=(x a o q).has;rw [e] at z;cases z
def CXE (P:Program) (w:World) (base:Heap):CXT:=fun outer H s E e s'=>∃ ea T C H',e=.ref ea/\s'.os=s.os/\AllBare s'.gens/\Un (frs outer) [] H H' s.heap s'.heap/\HOk P w H' s'.heap /\
 FlyT base outer ea T (.ref C) s'.heap/\s.heap.get? ea=none/\s.heap.get? T=none/\H' ea=none/\H' T=none/\E (.ref C) none H'
section
variable {P:Program} {w:World} {K:Frag} {mg:Str->Option Value} {base:Heap} {N:List Str} {qual:Str} {scope:Scope} {f:Addr} {cd:Value} {A:Around} {outer:List Env} {s0:Shared} {H0:Hp} {E:XK}
theorem Un.back {X:Cx} {pins:List (Addr × Obj)} {σ:St} {H:Hp} {s:Shared} {h':Heap} (I:Inv X pins σ H s) (l:X.ex=[]) (keep:∀ b o,X.s₀.heap.get? b=some o->s.heap.get? b=some o->b ∉ frs X.stack->h'.get? b=some o)
  (a:∀ b o o',X.s₀.heap.get? b=some o->s.heap.get? b=some o'->∃ j,h'.get? b=some j) (f:s.heap.UpToSlots h'):Un X.fs [] X.H₀ H X.s₀.heap h':=by
 have h:∀ b o,X.s₀.heap.get? b=some o->b ∉ X.fs->b ∉ frs X.stack:=fun b o q g m=>by
  rcases aA9.mp (I.stkSub b m) with z | z
  ·exact absurd (aC5 (aJ2 q) (z ▸ I.ok.above)) (aG4 _)
  ·exact g z
 have nx:∀ b:Addr,b ∉ X.ex:=fun b z=>by rw [l] at z;cases z
 refine ⟨fun b o q n hb _=>keep b o q (I.base.keep b o q n hb (nx b)) (h b o q hb),fun b o q n hb _=>?_,fun b o q n _=>I.base.free b o q n (nx b),fun b o q _=>?_,I.base.tups,I.base.frzs,I.base.tbls⟩
 ·obtain ⟨sl,e⟩:=I.base.slot b o q n hb (nx b)
  obtain ⟨_,o',d,hn⟩:=I.funs.mem hb
  rw [e] at d;cases d
  obtain ⟨c,i⟩:=f b _ e hn
  exact ⟨c,i⟩
 ·obtain ⟨o',e⟩:=I.base.there b o q (nx b)
  exact a b o o' q e
theorem aqu:ahz (CXE P w base) (cxOf (CXE P w base) P w K mg base N qual scope f cd A outer s0 H0 E) E:=by
 intro pins σ H s e s' I h
 obtain ⟨d,T,C,H',rfl,n,x,un,hok,t,ne,G,y,p,M⟩:=h
 have J:=I.call' n un hok x (fun b z=>absurd z (by simp))
 have pre:∀ b o,s0.heap.get? b=some o->∃ o',s.heap.get? b=some o':=fun b o q=>I.base.there b o q (fun z=>absurd (show b∈([]:List Addr) from z) (by simp))
 have i:∀ b o,s0.heap.get? b=some o->b ≠ d:=fun b o q z=>by obtain ⟨o',r⟩:=pre b o q;rw [z,ne] at r;cases r
 have j:∀ b o,s0.heap.get? b=some o->b ≠ T:=fun b o q z=>by obtain ⟨o',r⟩:=pre b o q;rw [z,G] at r;cases r
 refine avh I.ok.frames rfl t fun h' T' g a keep l=>?_
 have U:=Un.back J rfl (h':=h') (fun b o q r m=>keep b o r (i b o q) (j b o q) m) (fun b o o' q r=>by
  by_cases m:b∈frs (envOfC qual scope s0.heap.objs.size f cd :: outer)
  ·obtain ⟨_,F,D,hn⟩:=t.funs.mem m
   obtain ⟨sl,B⟩:=l b F D hn
   exact ⟨_,B⟩
  ·exact ⟨o',keep b o' r (i b o q) (j b o q) m⟩) l
 have tr:∀ b u,H' b=some u->∀ v,s'.heap.get? b=some v->h'.get? b=some v:=fun b u q v r=>keep b v r (fun z=>by rw [z,y] at q;cases q) (fun z=>by rw [z,p] at q;cases q) (fun m=>by rw [J.stkFree b m] at q;cases q)
 refine ⟨d,T',C,H',rfl,n.trans I.os,x,U,fun b u q=>(hok b u q).stay (fun c v L r=>?_) (fun _ q=>q) (fun _ _ q=>q),g,?_,?_,y,?_,M⟩
 ·rcases L with z | z
  ·rw [z] at r ⊢;exact tr b u q v r
  ·exact tr c _ z v r
 ·cases q:s0.heap.get? d with
  | none=>rfl
  | some o=>exact absurd rfl (i d o q)
 ·cases q:s0.heap.get? T' with
  | none=>rfl
  | some o =>
   rcases a with z | z
   ·exact absurd z (j T' o q)
   ·obtain ⟨o',r⟩:=J.base.there T' o q (fun z=>absurd (show T'∈([]:List Addr) from z) (by simp))
    rw [z] at r;cases r
 ·rcases a with z | z
  ·rw [z];exact p
  ·exact hok.no z
theorem aye {pins:List (Addr × Obj)} {σ:St} {H:Hp} {s:Shared} {g:Heap} {e C:Addr} {args:List Value} (I:Inv (cxOf (CXE P w base) P w K mg base N qual scope f cd A outer s0 H0 E) pins σ H s) (m:Heap.MadeExcOf s.heap g e (.ref C) args)
  (p:E (.ref C) none H):(cxOf (CXE P w base) P w K mg base N qual scope f cd A outer s0 H0 E).xe (.ref e) { s with heap:=g }:=by
 have pre:∀ b o,s0.heap.get? b=some o->∃ o',s.heap.get? b=some o':=fun b o q=>I.base.there b o q (fun z=>absurd (show b∈([]:List Addr) from z) (by simp))
 refine aqt (s:={ s with heap:=g }) I.ok.frames rfl I.bk I.stack m fun h' T' d a keep h=>?_
 have U:=Un.back I rfl (h':=h') (fun b o q r m=>keep b o r m) (fun b o o' q r=>by
  by_cases m:b∈frs (envOfC qual scope s0.heap.objs.size f cd :: outer)
  ·obtain ⟨_,l,j,hn⟩:=I.stack.mem m
   obtain ⟨sl,i⟩:=h b l j hn
   exact ⟨_,i⟩
  ·exact ⟨o',keep b o' r m⟩) h
 have tr:∀ b u,H b=some u->∀ v,s.heap.get? b=some v->h'.get? b=some v:=fun b u q v r=>keep b v r (fun m=>by rw [I.stkFree b m] at q;cases q)
 refine ⟨e,T',C,H,rfl,I.os,I.bare,U,fun b u q=>(I.hok b u q).stay (fun c v n r=>?_) (fun _ q=>q) (fun _ _ q=>q),d,?_,?_,I.hok.no m.new,I.hok.no a,p⟩
 ·rcases n with z | z
  ·rw [z] at r ⊢;exact tr b u q v r
  ·exact tr c _ z v r
 ·cases q:s0.heap.get? e with
  | none=>rfl
  | some o=>obtain ⟨o',r⟩:=pre e o q;rw [m.new] at r;cases r
 ·cases q:s0.heap.get? T' with
  | none=>rfl
  | some o=>obtain ⟨o',r⟩:=pre T' o q;rw [a] at r;cases r
end
section
variable {M:Model} {A:Around} {E:Value->Shared->Prop}
variable {nm q nm' q':Str} {C N D N':Addr} {bs bm bs' bm':List Value} {hdct hdct':Bool} {sn sn':List Str} {sub sub':List Value} {ab ab':Bool} {col col':Option Bool} {dd dd':Option Addr} {k0 k1 k2 k3 k5 j0 j1 j2 j3 j5:Option Value} {newId newId':String}
theorem ak5 {h:Heap} {g:Array GenState} {d:Drawn} {t:Nat} {os:OsState} {e:Addr} {oe:Obj} {Q:Bool->Shared->Prop}
  (l:h.get? C=some (excClassObj nm q C N bs bm hdct sn sub ab col dd k0 k1 k2 k3 k5 newId)) (j:h.get? D=some (excClassObj nm' q' D N' bs' bm' hdct' sn' sub' ab' col' dd' j0 j1 j2 j3 j5 newId')) (m:h.get? e=some oe) (b:oe.cls=.ref C)
  (a:bm'.contains (.type "BaseException")=true) (c:(Value.ref C :: bm).contains (.ref D)=true) (n:Q true ⟨h,g,d,t,os⟩):wpAny M A (excMatches (.ref e) (.ref D)) Q E ⟨h,g,d,t,os⟩:=by
 have i:(Value.ref D :: bm').contains (.type "BaseException")=true:=by rw [List.contains_cons,a,Bool.or_true]
 have f:=tc_notTuple
 unfold excMatches
 repeat (first | (with_reducible refine wpAny_loadPart_at m ?_;rw [b]) | with_reducible refine wpAny_loadPart_at j ?_ | (with_reducible refine wpAny_isSubtype_exc j ?_;rw [i]) | (with_reducible refine wpAny_isSubtype_exc l ?_;rw [c]) | wp_step)
 exact n
end
abbrev bmV:List Value:=[.type "ValueError",.type "Exception",.type "BaseException",.type "object"]
abbrev XOk (K:Frag) (mg:Str->Option Value) (x:Str) (C:Addr):Prop:=∀ h:Heap,K.In h->OwnCls x C bmV "ValueError.__new__" mg h
def XSub (K:Frag) (C D:Addr):Prop:=∀ h:Heap,K.In h->∃ nm q N bs bm hdct sn sub ab col dd k0 k1 k2 k3 k5 newId,
 h.get? C=some (excClassObj nm q C N bs bm hdct sn sub ab col dd k0 k1 k2 k3 k5 newId)/\(Value.ref C :: bm).contains (.ref D)=true
section
variable {X:Cx}
theorem avi {x:Str} {C:Addr} {y cpos j:Pos} {b:Expr} {es:List Expr} {o:TA} {W:Hp->Prop} (c:XOk X.K X.mg x C) (A:Gl X x) (v:X.calm=true) (ha:PA X (b :: es) o)
  (B:∀ (pins:List (Addr × Obj)) (σ:St) (H:Hp) (s:Shared) (l:Heap) (e:Addr) (args:List Value),Inv X pins σ H s->Heap.MadeExcOf s.heap l e (.ref C) args->W H->X.xe (.ref e) { s with heap:=l })
  (i:(x == ("__debug__" : Str))=false:=by decide) (n:starEach (b :: es) X.env=(false,eval b X.env) :: starEach es X.env:=by rfl) (d:(backTo cpos (starEach es X.env)).any (·.1)=false:=by rfl) :
  PS X (.Raise (some (.Call (.Name x y) (b :: es) [] cpos)) none j) (fun _ σ H=>o σ H fun vs g=>vs.length<=sizeLine/\W g):=by
 intro pins s σ H D I h
 obtain ⟨tl,N,nm,q,bs,hdct,sn,sub,ab,col,dd,k0,k1,k2,k3,k5,mN,p,t,f,T⟩:=(c X.base I.mod.kin).obj
 refine wpAny_Raise_call_subT (C:=C) (nm:=nm) (q:=q) (N:=N) (bs:=bs) (bm:=tl) (hdct:=hdct) (sn:=sn) (sub:=sub) (ab:=ab) (col:=col) (dd:=dd) (k0:=k0) (k1:=k1) (k2:=k2) (k3:=k3) (k5:=k5)
  PySem.F.excBase_ValueError (mN:=mN) (T.hasType PySem.F.excBase_ValueError.hasBase) (I.ok.hd v) (by rw [n];show (false || (backTo cpos (starEach es X.env)).any (·.1))=false;rw [d];rfl) f (aew I A (c X.base I.mod.kin).bound ⟨rfl,?_⟩ i)
 have hh:=ha cpos pins s σ H _ I h
 rw [n] at hh ⊢
 refine Calls.evalArgs_plain (thn hh fun us s2 z=>?_)
 obtain ⟨vs,g,a,r,u,w⟩:=z
 exact ⟨rfl,by rw [← r.length];exact u,a.bk _ _ p,t.keeps a.bk,T.keeps a.bk,fun h' e m=>B pins σ g s2 h' e us a m w⟩
def agu (X:Cx) (pins:List (Addr × Obj)) (b:Addr):Prop:=X.s₀.heap.get? b=none/\b ≠ X.env.locals/\(∀ x c,X.env.cells.lookup x=some c->c ≠ b)/\∀ p∈X.pn ++ pins,p.1 ≠ b
theorem awj {pins:List (Addr × Obj)} {σ:St} {H:Hp} {s:Shared} (I:Inv X pins σ H s) (g:X.ex=[]) {b:Addr} (e:s.heap.get? b=none):agu X pins b:=by
 refine ⟨?_,fun z=>?_,fun x c f z=>?_,fun p d z=>?_⟩
 ·cases q:X.s₀.heap.get? b with
  | none=>rfl
  | some o=>obtain ⟨o',r⟩:=I.base.there b o q (by rw [g];simp);rw [e] at r;cases r
 ·obtain ⟨m,⟨o,_,_,a,_⟩,_⟩:=I.loc
  rw [← z,e] at a;cases a
 ·obtain ⟨v,o,a,_⟩:=I.cell x c f
  rw [z,e] at a;cases a
 ·have:=(I.pin p d).1
  rw [z,e] at this;cases this
theorem Inv.flew {pins:List (Addr × Obj)} {σ:St} {H:Hp} {s:Shared} {h':Heap} {e T:Addr} (J:Inv X pins σ H s) (B:X.ex=[]) (ne:agu X pins e) (w:agu X pins T) (L:H e=none) (F:H T=none)
  (keep:∀ b o,s.heap.get? b=some o->b ≠ e->b ≠ T->b ∉ frs X.stack->h'.get? b=some o) (g:s.heap.UpToSlots h'):Inv X pins σ H { s with heap:=h' }:=by
 have y:∀ b o,X.s₀.heap.get? b=some o->b ≠ e:=fun b o q z=>by rw [z,ne.1] at q;cases q
 have A:∀ b o,X.s₀.heap.get? b=some o->b ≠ T:=fun b o q z=>by rw [z,w.1] at q;cases q
 have U:=Un.back J B (h':=h') (fun b o q r m=>keep b o r (y b o q) (A b o q) m) (fun b o o' q r=>by
  by_cases m:b∈frs X.stack
  ·obtain ⟨_,D,j,hn⟩:=J.stack.mem m
   obtain ⟨sl,h⟩:=g b D j hn
   exact ⟨_,h⟩
  ·exact ⟨o',keep b o' r (y b o q) (A b o q) m⟩) g
 have tr:∀ b u,H b=some u->∀ v,s.heap.get? b=some v->h'.get? b=some v:=fun b u q v r=>keep b v r (fun z=>by rw [z,L] at q;cases q) (fun z=>by rw [z,F] at q;cases q) (fun m=>by rw [J.stkFree b m] at q;cases q)
 have t:∀ c v,s.heap.IsCell c v->h'.IsCell c v:=fun c v K=>by
  obtain ⟨o,C,hd⟩:=K
  obtain ⟨sl,z⟩:=g c o C (fun vs q=>by rw [hd] at q;cases q)
  exact ⟨_,z,hd⟩
 refine ⟨J.ok,J.os,J.bare,by rw [B];exact U,?_,fun x c z=>?_,J.free,J.freeC,fun p n=>?_,fun b u q=>(J.hok b u q).stay (fun c v I r=>?_) (fun _ q=>q) (fun _ _ q=>q),J.len⟩
 ·obtain ⟨m,hn,G⟩:=J.loc
  refine ⟨m,g.ns hn,fun i x v E j h=>?_⟩
  obtain ⟨u,r,l⟩:=G i x v E j h
  refine ⟨u,r,?_⟩
  rcases l with l | ⟨k,c,e,z⟩
  ·exact .inl l
  ·exact .inr ⟨k,c,e,t c _ z⟩
 ·obtain ⟨v,q⟩:=J.cell x c z
  exact ⟨v,t c v q⟩
 ·obtain ⟨a,b,c,d,f⟩:=J.pin p n
  refine ⟨keep p.1 p.2 a (ne.2.2.2 p n) (w.2.2.2 p n) (fun m=>?_),b,c,d,f⟩
  rcases aA9.mp (J.stkSub _ m) with z | z
  ·exact c z
  ·exact d z
 ·rcases I with z | z
  ·rw [z] at r ⊢;exact tr b u q v r
  ·exact tr c _ z v r
def ExAt (e C:Addr) (h:Heap):Prop:=∃ ob,h.get? e=some ob/\ob.cls=.ref C
theorem Inv.track {pins:List (Addr × Obj)} {σ:St} {H:Hp} {s:Shared} {e C:Addr} (J:Inv X pins σ H s) (w:X.ex=[]) (ne:agu X pins e) (l:H e=none) (hf:e ∉ X.fs) (x:ExAt e C s.heap):Inv X pins σ (upd H e (.ext (ExAt e C))) s:=by
 have nn:∀ b u,H b=some u->b ≠ e:=fun b u q z=>by rw [z,l] at q;cases q
 have j:∀ b o,X.s₀.heap.get? b=some o->b ≠ e:=fun b o q z=>by rw [z,ne.1] at q;cases q
 refine ⟨J.ok,J.os,J.bare,⟨J.base.keep,J.base.slot,fun b o q n hb=>?_,J.base.there,fun b xs q=>?_,fun b o u q=>?_,fun b ps q=>?_⟩,J.loc,J.cell,?_,fun y c z=>?_,fun p g=>?_,fun b u q=>?_,J.len⟩
 ·rw [aae (j b o q)];exact J.base.free b o q n hb
 ·have:=J.base.tups b xs q
  rw [aae (nn b _ this)];exact this
 ·have:=J.base.frzs b o u q
  rw [aae (nn b _ this)];exact this
 ·obtain ⟨more,this⟩:=J.base.tbls b ps q
  exact ⟨more,by rw [aae (nn b _ this)];exact this⟩
 ·rw [aae (Ne.symm ne.2.1)];exact J.free
 ·rw [aae (ne.2.2.1 y c z)];exact J.freeC y c z
 ·obtain ⟨a,b,c,d,f⟩:=J.pin p g
  exact ⟨a,by rw [aae (ne.2.2.2 p g)];exact b,c,d,f⟩
 ·by_cases z:b=e
  ·subst z
   rw [aah] at q;cases q
   obtain ⟨h,i,m⟩:=id x
   exact ⟨x,⟨h,i⟩,fun t v ⟨o,a,c⟩ k=>⟨o,k o a,c⟩⟩
  ·rw [aae z] at q
   exact (J.hok b u q).stay (fun _ _ _ r=>r) (fun c r=>by rw [aae (nn c _ r)];exact r) (fun c xs r=>by rw [aae (nn c _ r)];exact r)
theorem agv {M:Model} {A:Around} {E:Value->Shared->Prop} {Q:Unit->Shared->Prop} {pins:List (Addr × Obj)} {σ:St} {H:Hp} {s:Shared} {i:Nat} {n:Str} {C:Pos} (I:Inv X pins σ H s) (K:X.N.Nodup) (hi:X.N[i]?=some n) (S:X.env.kindOf n=some .local)
  (h:∀ s',Inv X pins (σ.set i none) H s'->Q () s'):wpAny M A (do bindName X.env n .none;unbindBehindTheSuite X.env n C) Q E s:=by
 obtain ⟨m,hn,P⟩:=id I.loc
 have g:(X.env.scope.kind == .class || (X.env.scope.kind == .module && X.env.locals != X.env.globals))=false:=by rw [I.ok.kind];rfl
 have l:i < σ.length:=by rw [I.len];exact (aA1.mp hi).1
 refine wpAny_nameGoes_keeps S hn g fun h' v B hs=>h _ ?_
 have a:∀ b o,X.s₀.heap.get? b=some o->b ≠ X.env.locals:=fun b o e=>aB6 (aC5 (aJ2 e) I.ok.above)
 refine ⟨I.ok,I.os,I.bare,⟨fun b o e n hb t=>(hs.2 b (a b o e)).trans (I.base.keep b o e n hb t),fun b o e n hb t=>?_,I.base.free,fun b o e t=>?_,I.base.tups,I.base.frzs,I.base.tbls⟩,⟨_,B,fun j y u f x D=>?_⟩,fun y c e=>?_,I.free,I.freeC,fun p O=>?_,fun b u q=>(I.hok b u q).stay (fun c w R r=>(hs.2 c (fun z=>?_)).trans r) (fun _ q=>q) (fun _ _ q=>q),by simpa using I.len⟩
 ·obtain ⟨sl,f⟩:=I.base.slot b o e n hb t
  exact ⟨sl,(hs.2 b (a b o e)).trans f⟩
 ·obtain ⟨o',f⟩:=I.base.there b o e t
  exact ⟨o',(hs.2 b (a b o e)).trans f⟩
 ·by_cases hj:j=i
  ·subst hj
   rw [List.getElem?_set_self l] at x;cases x
  ·rw [List.getElem?_set_ne (Ne.symm hj)] at x
   obtain ⟨F,J,q⟩:=P j y u f x D
   refine ⟨F,J,?_⟩
   rcases q with ⟨k,e⟩ | ⟨k,c,e,z⟩
   ·refine .inl ⟨k,?_⟩
    have:y ≠ n:=fun e=>hj (nodup_ix K f (e ▸ hi))
    simp [this,e]
   ·exact .inr ⟨k,c,e,z.sameBut hs (I.cne y c e)⟩
 ·obtain ⟨L,z⟩:=I.cell y c e
  exact ⟨L,z.sameBut hs (I.cne y c e)⟩
 ·obtain ⟨e,n,ne,G,d⟩:=I.pin p O
  exact ⟨(hs.2 p.1 ne).trans e,n,ne,G,d⟩
 ·rcases R with y | y
  ·rw [← y,z,I.free] at q;cases q
  ·rw [z,I.free] at y;cases y
abbrev Cx.marked (X:Cx) (ea:Addr):Cx:={ X with A:=X.A.mark (some (.ref ea)),calm:=false }
theorem Inv.mark {pins:List (Addr × Obj)} {σ:St} {H:Hp} {s:Shared} (I:Inv X pins σ H s) (a:Addr):Inv (X.marked a) pins σ H s :=
 ⟨⟨I.ok.mod,I.ok.kind,I.ok.glob,I.ok.blt,I.ok.above,I.ok.inj,I.ok.has,I.ok.cab,fun z=>(by cases z),I.ok.frames,I.ok.stk,I.ok.exf,I.ok.bs,I.ok.bsz,I.ok.noex,I.ok.exfs,I.ok.funs,I.ok.frf⟩,I.os,I.bare,I.base,I.loc,I.cell,I.free,I.freeC,I.pin,I.hok,I.len⟩
theorem Inv.unmark {pins:List (Addr × Obj)} {σ:St} {H:Hp} {s:Shared} {a:Addr} (ok:X.Ok) (I:Inv (X.marked a) pins σ H s):Inv X pins σ H s :=
 ⟨ok,I.os,I.bare,I.base,I.loc,I.cell,I.free,I.freeC,I.pin,I.hok,I.len⟩
abbrev XW:=Value->St->Hp->Prop
def XP (X:Cx) (pins:List (Addr × Obj)) (W:XW) (e:Value) (s':Shared):Prop:=∃ σ ea T C H',e=.ref ea/\Inv X pins σ H' s'/\FlyT X.base X.stack ea T (.ref C) s'.heap/\agu X pins ea/\agu X pins T/\H' ea=none/\H' T=none/\W (.ref C) σ H'
def PXs (X:Cx) (st:List Stmt) (t:XW->TS):Prop :=
 ∀ (pins:List (Addr × Obj)) (s:Shared) (σ:St) (H:Hp) (D:Ends) (W:XW),Inv X pins σ H s->t W D σ H->wpAny (model X.prog X.w) X.A (execs st X.env) (SP X pins D) (XP X pins W) s
theorem a2b {c:Expr} {a b:List Stmt} {l:TT} {t u:XW->TS} {i:Pos} (n:PT X.nox c l) (ha:PXs X a t) (hb:PXs X b u):PXs X [.If c a b i] (fun W D σ H=>l σ H fun v g=>if v=true then t W D σ g else u W D σ g):=by
 intro pins s σ H D W I h
 refine wpAny_execs_cons (thn (Q:=SP X pins D) (wpAny_If (aJ8 (n pins s σ H _ (I.wish _) h) (fun d s1 ⟨g,j,m⟩=>?_) fun _ _ z=>False.elim z)) fun f s1 q=>?_)
 ·cases d with
  | true=>exact ha pins s1 σ g D W j.unwish m
  | false=>exact hb pins s1 σ g D W j.unwish m
 ·cases f with
  | next=>exact wpAny_execs_nil q
  | ret v=>exact q
  | brk=>exact q
  | cont=>exact q
def tTry (K:Frag) (D0:Addr) (i:Nat) (tb:XW->TS) (ts:TS):TS:=fun D σ H=>tb (fun cls σ1 H1=>∃ C,cls=.ref C/\XSub K C D0/\∀ ea,H1 ea=none ->
 ts { nx:=fun σ2 H2=>D.nx (σ2.set i none) H2,rt:=D.rt,bk:=fun σ2 H2=>D.bk (σ2.set i none) H2,ct:=fun σ2 H2=>D.ct (σ2.set i none) H2 } (σ1.set i (some (.ref ea))) (upd H1 ea (.ext (ExAt ea C)))) D σ H
theorem a0v {body suite:List Stmt} {b0:Stmt} {x n:Str} {D0:Addr} {i:Nat} {tb:XW->TS} {ts:TS} {np w Z:Pos} (l:X.stack=X.env :: X.outer/\X.env.frame=some X.env.locals) (hx:X.ex=[]) (c:XOk X.K X.mg x D0) (hg:Gl X x) (y:X.N.Nodup) (hi:X.N[i]?=some n) (p:X.env.kindOf n=some .local)
  (hb:PXs X body tb) (hs:∀ d,PSs (X.marked d).nox (b0 :: suite) ts) (O:(x == ("__debug__" : Str))=false:=by decide) :
  PS X (.Try body [.ExceptHandler (some (.Name x np)) (some n) (b0 :: suite) w] [] [] Z) (tTry X.K D0 i tb ts):=by
 intro pins s σ H D I h
 refine wpAny_Try_except (aJ8 (hb pins s σ H D _ I h) (fun f s1 q=>?_) fun e s1 q=>?_)
 ·cases f with
  | next=>exact wpAny_execs_nil q
  | ret v=>exact q
  | brk=>exact q
  | cont=>exact q
 ·obtain ⟨U,d,T,C,H1,rfl,J,B,E,L,R,hT,C',S,t,P⟩:=q
  cases S
  obtain ⟨oe,vs,oT,a3,a0,g1,g2,g3,g4,g5,g6,g7,g8⟩:=id B.tr
  have a2:X.A.frames=some (X.env :: X.outer):=J.ok.frames.trans (congrArg some l.1)
  have fw:Heap.FlyingW (PySem.W.hideAll s1.heap (d :: T :: frs X.stack)) (X.env :: X.outer) d (.ref C) a0 s1.heap:=by
   rw [← l.1]
   exact ⟨fun b o q=>PySem.W.of_hideAll _ q,PySem.W.hideAll_none _ (.head _),PySem.W.funFrames_hide B.funs fun en hn a ha => .tail _ (.tail _ (ajl en hn a ha)),oe,vs,T,oT,a3,g1,g2,g3,g4,PySem.W.hideAll_none _ (.tail _ (.head _)),g5,g6,g7,g8⟩
  have kp:∀ {h':Heap},(PySem.W.hideAll s1.heap (d :: T :: frs X.stack)).StaysIn h'->∀ b o,s1.heap.get? b=some o->b ≠ d->b ≠ T->b ∉ frs X.stack->h'.get? b=some o:=fun {h'} k b o q n1 n2 n3=>k b o (PySem.W.hideAll_get _ q fun z=>by
   rcases aA9.mp z with z | z
   ·exact n1 z
   ·rcases aA9.mp z with z | z
    ·exact n2 z
    ·exact n3 z)
  have bs:∀ {h':Heap},(PySem.W.hideAll s1.heap (d :: T :: frs X.stack)).StaysIn h'->∀ b o,X.base.get? b=some o->h'.get? b=some o:=fun {h'} k b o q=>kp k b o (J.bk b o q) (fun z=>by rw [z,B.new] at q;cases q) (fun z=>by rw [z,B.newT] at q;cases q) (fun z=>by rw [(B.funs.mem z).1] at q;cases q)
  refine wpAny_looks_onW a2 l.2 fw fun h4 f4 a1=>?_
  refine wpAny_landsW f4 fun h5 m Y=>?_
  obtain ⟨nm,q,N,b3,bm,hdct,sn,sub,ab,col,dd,k0,k1,k2,k3,k5,newId,hC,a5⟩:=t h5 (J.mod.kin.keeps (bs m.1))
  obtain ⟨tl,N',a8,q',b4,a4,b5,a6,b6,a7,b2,j0,j1,j2,j3,j5,mN,hD,b1,a9,Tl⟩:=(c h5 (J.mod.kin.keeps (bs m.1))).obj
  obtain ⟨ob,Q,G⟩:=m.there
  refine wpAny_handleBy_cons (codeAny_handlers_test ?_) (by intro q;cases q)
  refine Calls.Name_function_global J.ok.kind hg (Calls.loadGlobal_global (by rw [J.ok.glob];exact J.mod.glob.keeps (bs m.1)) (c h5 (J.mod.kin.keeps (bs m.1))).bound ?_) O
  refine ak5 hC hD Q G (Tl.hasType PySem.F.excBase_ValueError.hasBase) a5 ?_
  refine codeAny_handlers_suite_as ?_
  refine lands_againW m fun h6 f6 M=>?_
  have J6:Inv X pins U H1 { s1 with heap:=h6 }:=J.flew hx E L R hT (kp f6.1) ((a1.trans Y).trans M)
  have J7:=J6.track hx E R (fun z=>?nf) f6.there
  case nf =>
   obtain ⟨_,o,ho,hn⟩:=J.funs.mem z
   rw [g1] at ho;cases ho
   exact hn vs g3
  refine ag8 J7 y hi (.inl p) (show RelV (.ref d) (.ref d) from rfl) (fun s7 I7=>?_) (.inr p)
  refine aJ8 (hs d pins s7 _ _ _ ((I7.mark d).wish _) (P d R)) (fun f s8 q=>?_) fun _ _ z=>False.elim z
  have ok:=I.ok
  cases f with
  | next =>
   obtain ⟨j,H',K,q⟩:=q
   exact agv (Inv.unmark ok K.unwish) y hi p fun s9 g=>⟨_,_,g,q⟩
  | brk =>
   obtain ⟨j,H',K,q⟩:=q
   exact agv (Inv.unmark ok K.unwish) y hi p fun s9 g=>⟨_,_,g,q⟩
  | cont =>
   obtain ⟨j,H',K,q⟩:=q
   exact agv (Inv.unmark ok K.unwish) y hi p fun s9 g=>⟨_,_,g,q⟩
  | ret u =>
   obtain ⟨v,j,H',K,r,q⟩:=q
   exact agv (Inv.unmark ok K.unwish) y hi p fun s9 g=>⟨v,_,_,g,r,q⟩
end
end L2
namespace VL
open PySem PySem.Spec L2
abbrev VPX:=List Sl->(Sl->Prop)->(Addr->Prop)->Prop
def spX (K:Frag) (f:VPX):Sp:=fun vs H Q E=>∃ G ss Q' R',Same G H/\FT G H/\ArgsOk K G vs ss/\f ss Q' R'/\(∀ s,Q' s->∀ v G' H' Fv,Out G H v G' H' s Fv->Q v H') /\
 ∀ C,R' C->∀ G' H',Out G H .non G' H' (.st .none) (fun _=>False)->E (.ref C) none H'
theorem lenX {K:Frag} {f:VPX} {vs:List V} {H:Hp} {Q:VK} {E:XK} {n:Nat} (h:spX K f vs H Q E) (d:∀ ss a b,f ss a b->ss.length=n):vs.length=n:=by
 obtain ⟨G,ss,a,b,_,_,c,hf,_⟩:=h
 rw [c.length];exact d ss a b hf
def EvE (B:Bs) (E:XK) (R:Addr->Prop):Prop:=∀ C,R C->∀ (σ:St) (G H:Hp) (F:Nat->Addr->Prop) (env:En),VI B G H σ env F->E (.ref C) none H
theorem aiq {K:Frag} {f:VPX} {ts:TS} {N:List Str} {vs:List V} {H:Hp} {Q:VK} {E:XK} (h:spX K f vs H Q E)
  (hb:∀ ss b c,f ss b c->∀ B,B.K=K->EvE B E c->EvS B ts { nx:=fun _=>b (.st .none),rt:=fun s _=>b s } (ss.map some ++ List.replicate (N.length - ss.length) none)):ts { nx:=fun _ H'=>Q .non H',rt:=Q } (L2.start N vs) H:=by
 obtain ⟨G,ss,b,c,gh,ft,l,hf,m,p⟩:=h
 have fin:∀ {σ G' H' F env v Fv s},VI (bsP K G H vs) G' H' σ env F->RsX (bsP K G H vs) G' H' v Fv s F->Out G H v G' H' s Fv:=fun I r =>
  ⟨I.g0,I.gh,I.rs,I.gn,r.fb,r.fg,r.fo,r.ok,fun _=>I.ft⟩
 refine hb ss _ _ hf (bsP K G H vs) rfl (fun C n σ G' H' F env I=>p C n G' H' (fin I (acu .non))) (L2.start N vs) G H noF _ ?_ ⟨fun σ G' H' F env I g q=>m _ q _ _ _ _ (fin I (acu .non)),fun σ G' H' F env v Fv s I g r q=>m _ q v G' H' Fv (fin I r),fun _ _ _ _ _ _ _ q=>q,fun _ _ _ _ _ _ _ q=>q⟩
 refine ⟨gh,Same.refl _,fun a o e => .inl e,Same.refl _,Same.refl _,fun a o e=>⟨o,e⟩,fun i a z=>z.elim,fun i a z=>z.elim,fun i j a z=>z.elim,fun i a z=>z.elim,fun i s e=>?_,?_,ft⟩
 ·obtain ⟨v,t,q⟩:=l.get (ajd e)
  refine ⟨v,by unfold L2.start;exact aje t,?_⟩
  cases s with
  | st d=>exact ⟨q,fun a z=>z⟩
  | scr ns=>exact ⟨q,fun a z=>z⟩
  | own A=>exact q.elim
  | io A=>exact q.elim
 ·unfold L2.start;simp [l.length]
section
variable {B:Bs} {env:En} {Q':PyData->En->Prop} {QO:Sl->En->Prop} {K:Frag} {E:XK} {R:Addr->Prop} {D':VEnds}
theorem af9 {f:VPX} {t:TA} (j:EvE B E R) (h:EvA B t env fun ds b=>f (ds.map Sl.st) (fun s=>QO s b) R):EvO B (abf (spX K f) [] E t) env QO:=fun σ G H F Q I k=>by
 unfold abf
 simp only [aE9]
 exact h σ G H F _ I fun vs i n c ds b a m d l=>⟨i,_,_,R,a.gh,a.ft,ArgsOk.of d,l,fun s q v G' H' Fv o=>k v G' H' c Fv s b (a.out o).1 (m.trans o.gg) (a.out o).2 q,fun C g G' H' o=>j C g σ G' H' c b (a.out o).1⟩
theorem avj {f:VPX} {t:TA} (a:EvE B E R) (h:EvA B t env fun ds b=>f (ds.map Sl.st) (fun s=>FQ s fun d=>Q' d b) R):Ev B (abf (spX K f) [] E t) env Q':=abr (af9 a h)
theorem akh {b:TA} {C:Addr} (l:EvE B E R) (d:R C) (h:EvA B b env fun ds _=>ds.length<=1000):EvS B (fun _ σ H=>b σ H fun vs a=>vs.length<=sizeLine/\E (.ref C) none a) D' env:=fun σ G H F D I r =>
 h σ G H F _ I fun vs f a j ds i g m c q=>⟨by rw [c.length];exact aG5 (big (aD0 q (by decide))),l C d σ f a j i g⟩
end
def OE (C:Addr):Own where
 P:=fun G H v F=>∃ a,v=.ref a/\H a=some (.ext (ExAt a C))/\∀ b,F b ↔ b=a
 mono:=fun ⟨a,e,h,f⟩ g hh=>⟨a,e,hh a _ ((f a).mpr rfl) h,f⟩
 dom:=fun ⟨a,e,h,f⟩ b z=>by rw [(f b).mp z];exact ⟨_,h⟩
def EvXs (B:Bs) (tb:XW->TS) (D':VEnds) (RX:Addr->En->Prop) (env:En):Prop:=∀ (σ:St) (G H:Hp) (F:Nat->Addr->Prop) (D:Ends) (W:XW),VI B G H σ env F->RelE B G D D' ->
 (∀ C σ' G' H' F' env',VI B G' H' σ' env' F'->Same G G'->RX C env'->W (.ref C) σ' H')->tb W D σ H
section
variable {B:Bs} {env:En} {K:Frag} {D':VEnds} {RX:Addr->En->Prop}
theorem a0w {o:TT} {t u:XW->TS} (h:EvT B o env fun b i=>if b=true then EvXs B t D' RX i else EvXs B u D' RX i):EvXs B (fun W D σ H=>o σ H fun v d=>if v=true then t W D σ d else u W D σ d) D' RX env:=fun σ G H F D W I r w =>
 h σ G H F _ I fun b l d n i m f q=>by
  cases b with
  | true=>exact q σ l d n D W m (r.later f) fun C c G' H' F' a g g' j=>w C c G' H' F' a g (f.trans g') j
  | false=>exact q σ l d n D W m (r.later f) fun C c G' H' F' a g g' j=>w C c G' H' F' a g (f.trans g') j
theorem ayf {A:Addr} {i:Nat} {w:XW->TS} {ts:TS} (h:EvXs B w D' (fun C N=>XSub K C A/\EvS B ts { nx:=fun e=>D'.nx (e.set i none),rt:=D'.rt,bk:=fun e=>D'.bk (e.set i none),ct:=fun e=>D'.ct (e.set i none) } (N.set i (some (.own (OE C))))) env):EvS B (tTry K A i w ts) D' env:=fun σ G H F D I r=>by
 refine h σ G H F D _ I r fun C u G' H' F' p n g' q=>⟨C,rfl,q.1,fun d t=>?_⟩
 have O:G' d=none:=n.no_g t
 have L:VI B G' (upd H' d (.ext (ExAt d C))) u p F':=n.grow (Same.refl _) (n.gh.trans (abj t)) (abj t) (fun a o e => .inl e) (fun a ks e=>by
  by_cases z:a=d
  ·subst z;rw [aah] at e;cases e
  ·rw [aae z] at e;exact n.ft a ks e)
 have E:RsX B G' (upd H' d (.ext (ExAt d C))) (.ref d) (fun a=>a=d) (.own (OE C)) F':=⟨⟨d,rfl,aah,fun b=>Iff.rfl⟩,fun a z=>z ▸ n.no_b t,fun a z=>z ▸ O,fun a z=>⟨.ext (ExAt d C),by rw [z];exact aah⟩,fun j a z y=>n.no_f (z ▸ t) j y⟩
 have M:=L.store E i
 have dn:∀ {c:St} {f H2:Hp} {F2:Nat->Addr->Prop} {m:En},VI B f H2 c m F2->VI B f H2 (c.set i none) (m.set i none) (putF F2 i fun _=>False):=fun J=>J.slot (Fv:=fun _=>False) i none none (fun a z=>z.elim) (fun a z=>z.elim) (fun a z=>z.elim) (fun j a _ z=>z.elim) (fun s e=>by cases e)
 refine q.2 (u.set i (some (.ref d))) G' _ _ _ M ⟨fun c f H2 F2 m J g l=>r.nx _ f H2 _ _ (dn J) (g'.trans g) l,fun c f H2 F2 m v Fv s J g x l=>r.rt c f H2 F2 m v Fv s J (g'.trans g) x l,fun c f H2 F2 m J g l=>r.bk _ f H2 _ _ (dn J) (g'.trans g) l,fun c f H2 F2 m J g l=>r.ct _ f H2 _ _ (dn J) (g'.trans g) l⟩
end
end VL
namespace L2
open PySem PySem.Spec PyProof.Rows
section
open PySem PySem.Calls PyProof.Rows Builtin Builtin.ObjectAttr Builtin.Getset_descriptor
variable {prog:Program} {w:World} {A:Around} {E:Value->Shared->Prop} {K:Frag} {h:Heap} {g:Array GenState} {d:Drawn} {t:Nat} {os:OsState} {x C:Addr} {o:Obj}
theorem ajm {M:Model} (a:h.get? x=some o) (b:o.cls=.ref C):PySem.W.Looks M h (typeOf (.ref x)) (.ref C):=b ▸ (PySem.W.Looks.ld a).andThen .now
structure XIn (K:Frag) (C:Addr):Prop where
 cl:(PySem.W.clsIn K C).isSome=true
 ga:PySem.W.findIn K (.ref C) "__getattribute__" = some (some (.builtin "BaseException.__getattribute__"))
 gn:PySem.W.findIn K (.ref C) "__getattr__" = some none
 cs:PySem.W.findIn K (.ref C) "__class__" = some (some (.builtin "object.__class__"))
 mo:mroIn K C (.type "object")=some true
 mb:mroIn K C (.type "BaseException")=some true
theorem a0x {R:Result->Shared->Prop} {f:Value} (X:K.In h) (c:XIn K C) (j:h.get? x=some o) (i:o.cls=.ref C) (l:R (.ok (.ret (.ref C))) ⟨h,g,d,t,os⟩) :
  codeAny (model prog w) A (.call (.builtin "getset_descriptor.__get__") ⟨[.builtin "object.__class__",.ref x,f],[]⟩) R ⟨h,g,d,t,os⟩:=by
 have b:=ajm (M:=model prog w) j i
 have a:=PySem.W.looks_mroIn (M:=model prog w) X c.mo
 refine codeAny_call_builtin PySem.W.KF.slot_gs.plain PySem.W.KF.entry_gs (PySem.W.KF.slot_gs.check _ _ _ _ _ _ _ _ PySem.W.KF.type_class (PySem.W.KF.args_gs _ _ _) ?_)
 unfold Builtin.«getset_descriptor.__get__» descrGet
 rw [PySem.W.dga_obj]
 refine aI9 (aJ0 ?_)
 unfold descrGetter descrCheckInstance descrNameAndClass isInstance
 simp only [PySem.W.KF.owner_class]
 repeat (first | (with_reducible refine b.at ?_) | (with_reducible refine a.at ?_) | wp_step)
 refine ⟨Code.quiet_builtin _ (by decide +kernel),aK6 PySem.W.KF.entry_class ?_⟩
 unfold Builtin.«object.__class__» shownTypeOf
 repeat (first | (with_reducible refine b.at ?_) | (with_reducible refine a.at ?_) | wp_step)
 exact l
theorem avk {M:Model} {a:Value} {Q:Unit->Shared->Prop} (X:K.In h) (c:XIn K C) (m:h.get? x=some o) (l:o.cls=.ref C) (n:Q () ⟨h,g,d,t,os⟩):wpAny M A (checkBuiltinCall "BaseException.__getattribute__" ⟨[.ref x,a],[]⟩) Q E ⟨h,g,d,t,os⟩:=by
 have j:builtinKind "BaseException.__getattribute__" = some .slot:=by decide +kernel
 have b:splitId "BaseException.__getattribute__" = some ("BaseException","__getattribute__"):=by decide +kernel
 have ha:=F.args_bexc_ga (.ref x) a
 have i:=ajm (M:=M) m l
 have f:=PySem.W.looks_mroIn (M:=M) X c.mb
 simp only [checkBuiltinCall,j,b]
 refine aI9 ?_
 ·unfold isInstance
  refine aI9 (i.at (f.at ?_))
  repeat (first | wp_step)
  exact n
theorem avl {i:Tok} {Q:Fin->Shared->Prop} (X:K.In h) (c:XIn K C) (b:h.get? x=some o) (a:o.cls=.ref C) (m:Q (.done (.ret (.ref C))) ⟨h,g,d,t,os⟩) :
  wpAny (model prog w) A (Builtin.«object.__getattribute__» ⟨[.ref x,.str "__class__" i],[]⟩) Q E ⟨h,g,d,t,os⟩:=by
 have f:=PySem.W.looks_findIn (M:=model prog w) X c.cs
 have l:typeOf (.builtin "object.__class__")=pure (.type "getset_descriptor"):=PySem.W.KF.type_class
 have n:=F.slot_gs_get.lookup
 have j:=F.slot_gs_set.lookup
 repeat (any_goals (first | assumption | (with_reducible refine wpAny_loadPart_at b ?_;rw [a]) | with_reducible refine f.at ?_ | wp_step))
 refine a0x X c b a ?_
 repeat (any_goals (first | assumption | wp_step))
theorem ayg {i:Tok} {R:Result->Shared->Prop} (X:K.In h) (c:XIn K C) (b:h.get? x=some o) (a:o.cls=.ref C) (f:R (.ok (.ret (.ref C))) ⟨h,g,d,t,os⟩) :
  codeAny (model prog w) A (.call (.builtin "BaseException.__getattribute__") ⟨[.ref x,.str "__class__" i],[]⟩) R ⟨h,g,d,t,os⟩ :=
 codeAny_call_builtin PySem.F.attrBase_ValueError.ga.plain F.entry_bexc_ga (avk X c b a (avl X c b a f))
theorem ayh {Q:Option Value->Shared->Prop} (X:K.In h) (c:XIn K C) (f:h.get? x=some o) (b:o.cls=.ref C) (m:Q (some (.ref C)) ⟨h,g,d,t+1,os⟩) :
  wpAny (model prog w) A (getAttr? (.ref x) "__class__") Q E ⟨h,g,d,t,os⟩:=by
 have n:=PySem.F.attrBase_ValueError.ga.bind (.ref x)
 have a:(Value.builtin "BaseException.__getattribute__" == Value.builtin "object.__getattribute__")=false:=by decide +kernel
 have l:(onTheHeap (Value.ref C) && Value.builtin "BaseException.__getattribute__" == Value.builtin "object.__getattribute__")=false:=by rw [a];rfl
 have i:=PySem.W.looks_findIn (M:=model prog w) X c.ga
 have j:=PySem.W.looks_findIn (M:=model prog w) X c.gn
 unfold getAttr? getAttrBy? getAttrBy
 repeat (any_goals (first | assumption | (with_reducible refine wpAny_loadPart_at f ?_;rw [b]) | with_reducible refine i.at ?_ | with_reducible refine j.at ?_ | wp_step))
 refine ayg X c f b ?_
 repeat (any_goals (first | assumption | wp_step))
end
theorem am7 {K:Frag} {x C:Addr} (c:XIn K C):PySem.W.KitX K (.ref x) (.ref C) (ExAt x C) where
 ty:=fun M h _ ⟨o,f,i⟩=>ajm f i
 it:=fun _ _ X _=>by
  obtain ⟨b,a⟩:=Option.isSome_iff_exists.mp c.cl
  unfold PySem.W.clsIn at a
  split at a
  ·rename_i c' d' cd' sl' ho
   intro A' m r s' k q
   unfold isType loadHead
   exact aI9 (wpAny_loadPart (k _ _ (X _ _ ho)) (aJ0 q))
  ·cases a
 ne:=fun h l dd its n sl X j=>by
  obtain ⟨b,a⟩:=Option.isSome_iff_exists.mp c.cl
  refine Bool.eq_false_iff.mpr fun q=>?_
  have e:C=l:=Value.ref.inj (aG3.mp q)
  subst e
  unfold PySem.W.clsIn at a
  split at a
  ·rename_i c' d' cd' sl' ho
   have z:=(X _ _ ho).symm.trans j
   cases z
  ·cases a
 ca:=fun {prog w A E Q s} X p k=>by
  obtain ⟨h,g,d,t,os⟩:=s
  obtain ⟨o,f,i⟩:=p
  exact ayh X c f i k
section
variable {X:Cx}
def aqv (K:Frag):List V->Hp->VK->Prop:=fun xs H Q=>∃ (a C:Addr) (y:V) (u:Value) (b:Bool),xs=[.ref a,y]/\((∃ D,y=.ref D/\u=.ref D)\/∃ T,y=.ty T/\u=.type T)/\H a=some (.ext (ExAt a C))/\XIn K C/\kitOne K (.ref C) u=some b/\Q (.bl b) H
theorem ad0:abd X (.builtin "isinstance") (aqv X.K):=by
 intro pins s σ H xs us Q I r h
 obtain ⟨a,C,y,u,b,rfl,j,ha,c,e,q⟩:=h
 obtain ⟨g,l,rfl,f,d⟩:=agh r
 cases (show g=Value.ref a from f)
 have i:l=u:=by
  rcases j with ⟨D,rfl,rfl⟩ | ⟨T,rfl,rfl⟩
  ·exact d
  ·exact d
 subst i
 exact PySem.W.kia_one (am7 c) I.kIn (show ExAt a C s.heap from (I.hok a _ ha).1) e (fun z=>nomatch z) fun m=>⟨.bl b,H,I.tok _,rfl,q⟩
end
section
variable {P:Program} {w:World} {K:Frag} {mg:Str->Option Value} {base:Heap} {x:Str} {k:Nat} {ps:List Str} {sp:Sp}
def CanX (P:Program) (w:World) (K:Frag) (mg:Str->Option Value) (base:Heap) (x:Str) (k:Nat) (ps:List Str) (sp:Sp):Prop :=
 ∃ f fd,FnOk P w K mg base (CXE P w base) k f fd ps sp/\mg x=some (.ref f)/\keepIn K (.ref f)=true/\Binds K fd ps []
theorem DefAt.canX {st:Stmt} {f:Addr} {fd:FuncData} (D:DefAt K mg x st ps f fd) (ok:FnOk P w K mg base (CXE P w base) k f fd ps sp):CanX P w K mg base x k ps sp:=⟨f,fd,ok,D.mgx,D.fn.kp,D.bd⟩
theorem Fun.okX {qual:Str} {st:Stmt} {f:Addr} {fd:FuncData} {N:List Str} (F:Fun K x qual st f fd) (S:FnScope N ps (aai st)) (len:∀ vs H Q E,sp vs H Q E->vs.length=ps.length)
  (a:∀ (cdv:Value) (A:Around) (outer:List Env) (s:Shared) (H:Hp) (vs:List V) (Q:VK) (E:XK),Room k (A.deeper (envOfC qual (aai st) s.heap.objs.size f cdv))->sp vs H Q E ->
   ∃ t,PSs (cxOf (CXE P w base) P w K mg base N qual (aai st) f cdv A outer s H E) (abu st) t/\t { nx:=fun _ H'=>Q .non H',rt:=Q } (start N vs) H):FnOk P w K mg base (CXE P w base) (k+1) f fd ps sp:=by
 obtain ⟨oc,od,kV,doc,pm,an,cdv,ct,osl,rfl,d,c⟩:=F.ex
 exact av4 d c S len fun A outer s H vs Q E g b=>a cdv A outer s H vs Q E g b
variable {N:List Str} {qual:Str} {scope:Scope} {f:Addr} {cd:Value} {A:Around} {outer:List Env} {s0:Shared} {H0:Hp} {E:XK} {j:Nat} {p pos ep np cpos:Pos} {e:Expr} {es:List Expr} {t:TA}
theorem ahm (F:CanX P w K mg base x k ps sp) (d:Room j (cxOf (CXE P w base) P w K mg base N qual scope f cd A outer s0 H0 E).A) (ha:PA (cxOf (CXE P w base) P w K mg base N qual scope f cd A outer s0 H0 E) (e :: es) t) (m:k<=j:=by decide)
  (h:Gl (cxOf (CXE P w base) P w K mg base N qual scope f cd A outer s0 H0 E) x:=by rfl) (b:(x == ("__debug__" : Str))=false:=by decide)
  (i:starEach (e :: es) (cxOf (CXE P w base) P w K mg base N qual scope f cd A outer s0 H0 E).env=(false,eval e (cxOf (CXE P w base) P w K mg base N qual scope f cd A outer s0 H0 E).env) :: starEach es (cxOf (CXE P w base) P w K mg base N qual scope f cd A outer s0 H0 E).env:=by rfl)
  (a:(backTo pos (starEach es (cxOf (CXE P w base) P w K mg base N qual scope f cd A outer s0 H0 E).env)).any (·.1)=false:=by rfl) :
  PE (cxOf (CXE P w base) P w K mg base N qual scope f cd A outer s0 H0 E) (.Call (.Name x p) (e :: es) [] pos) (abf sp [] E t):=by
 obtain ⟨o,fd,l,n,c,g⟩:=F
 exact aob l (d.mono m) h n c g .nil aqu ha b i a
theorem aki {C:Addr} {m:Str} {j:Nat} (c:XOk K mg x C) (b:Gl (cxOf (CXE P w base) P w K mg base N qual scope f cd A outer s0 H0 E) x:=by rfl) (a:(x == ("__debug__" : Str))=false:=by decide) :
  PS (cxOf (CXE P w base) P w K mg base N qual scope f cd A outer s0 H0 E) (.Raise (some (.Call (.Name x np) [.Constant (.str m) j ep] [] cpos)) none pos) (fun _ σ H=>aa2 (tC (.str m)) tNil σ H fun vs d=>vs.length<=sizeLine/\E (.ref C) none d) :=
 avi (W:=fun H=>E (.ref C) none H) c b rfl (aaa ace aab) (fun pins σ H s g e args I m w=>aye I m w) a
variable {X:Cx}
end
end L2
namespace VL
open PySem PySem.Spec L2
section
variable {B:Bs} {env:En} {QO:Sl->En->Prop} {Q':PyData->En->Prop} {QT:Bool->En->Prop} {K:Frag} {i:Nat} {C:Addr}
theorem agw {D:Addr} {b:Bool} (d:Has env i (OE C)) (c:XIn K C) (e:kitOne K (.ref C) (.ref D)=some b) (q:Q' (.bool b) env):Ev B (tCB (aqv K) (aa2 (tVar i) (aa2 (tC (.ref D)) tNil))) env Q':=fun σ G H F Q I k=>by
 obtain ⟨v,g,a,rfl,ha,f⟩:=I.has d
 exact ⟨_,g,a,C,_,_,b,rfl,.inl ⟨D,rfl,rfl⟩,ha,c,e,k _ G H F _ env I (Same.refl _) (.bl _) q⟩
theorem ahn {T:String} {b:Bool} (d:Has env i (OE C)) (c:XIn K C) (e:kitOne K (.ref C) (.type T)=some b) (q:Q' (.bool b) env):Ev B (tCB (aqv K) (aa2 (tVar i) (aa2 (tC (.ty T)) tNil))) env Q':=fun σ G H F Q I k=>by
 obtain ⟨v,g,a,rfl,ha,f⟩:=I.has d
 exact ⟨_,g,a,C,_,_,b,rfl,.inr ⟨T,rfl,rfl⟩,ha,c,e,k _ G H F _ env I (Same.refl _) (.bl _) q⟩
theorem agx (b:Has env i (OE C)) (q:Q' (.bool false) env):Ev B (tOp rIsN (tVar i) (tC .non)) env Q':=fun σ G H F Q I k=>by
 obtain ⟨v,c,a,rfl,ha,f⟩:=I.has b
 exact ⟨_,c,rfl,k _ G H F _ env I (Same.refl _) (.bl _) q⟩
end
end VL
namespace L2
open PySem PySem.Spec PyProof.Rows
theorem am8 {K:Frag} {C:Addr} {bmB:List Value} {newId:String} (q:excIn K C bmB newId=true):∃ bm N nm c bs hdct sn sub ab col dd k0 k1 k2 k3 k5,
  K.lookup C=some (excClassObj nm c C N bs bm hdct sn sub ab col dd k0 k1 k2 k3 k5 newId)/\PySem.W.tailIn K bmB bm=true/\PySem.W.nsOkIn K N=true/\nsIn K N "__init__" = some none:=by
 unfold excIn at q
 split at q
 ·rename_i dd cd sl ho
  split at q
  ·rename_i C' bm k0 k1 k2 k3 n k5 hm hs
   simp only [aH1,aG3,Bool.not_eq_true'] at q
   obtain ⟨⟨⟨⟨⟨rfl,rfl⟩,a⟩,h⟩,hok⟩,b⟩:=q
   obtain ⟨nm,bs,f,ns,c,hd,sn,sub,ab,col,g⟩:=cd
   dsimp only at hm a hok b
   subst hm a
   have d:sl = #[k0,k1,k2,k3,some (.builtin n),k5]:=by
    obtain ⟨l⟩:=sl
    simp only at hs
    rw [hs]
   subst d
   exact ⟨bm,ns,nm,c,bs,hd,sn,sub,ab,col,dd,k0,k1,k2,k3,k5,ho,h,hok,b⟩
  ·cases q
 ·cases q
theorem a0y {K:Frag} {mg:Str->Option Value} {x:Str} {C:Addr} (m:mg x=some (.ref C)) (q:excIn K C bmV "ValueError.__new__" = true):XOk K mg x C:=fun h X=>by
 obtain ⟨bm,N,nm,d,bs,hdct,sn,sub,ab,col,dd,k0,k1,k2,k3,k5,b,c,hok,a⟩:=am8 q
 exact ⟨m,bm,N,nm,d,bs,hdct,sn,sub,ab,col,dd,k0,k1,k2,k3,k5,_,X _ _ b,.of_isNs (PySem.W.isNs_of_in X hok),PySem.W.nsMap_none_of_in X hok a,PySem.W.tail_of_in X c⟩
theorem apm {K:Frag} {C D:Addr} (q:excIn K C bmV "ValueError.__new__" = true) (m:mroIn K C (.ref D)=some true):XSub K C D:=fun h X=>by
 obtain ⟨bm,N,nm,c,bs,hdct,sn,sub,ab,col,dd,k0,k1,k2,k3,k5,a,d,hok,b⟩:=am8 q
 refine ⟨nm,c,N,bs,bm,hdct,sn,sub,ab,col,dd,k0,k1,k2,k3,k5,_,X _ _ a,?_⟩
 unfold mroIn PySem.W.clsIn at m
 rw [a] at m
 simpa [excClassObj] using m
theorem cl_of {K:Frag} {C:Addr} {bmB:List Value} {newId:String} (q:excIn K C bmB newId=true):(PySem.W.clsIn K C).isSome=true:=by
 obtain ⟨bm,N,nm,d,bs,hdct,sn,sub,ab,col,dd,k0,k1,k2,k3,k5,b,c,hok,a⟩:=am8 q
 unfold PySem.W.clsIn
 rw [b]
 rfl
structure XCls (K:Frag) (mg:Str->Option Value) (x:Str) (C:Addr):Prop where
 mgx:mg x=some (.ref C)
 exc:excIn K C bmV "ValueError.__new__" = true
 xin:XIn K C
theorem XCls.ok {K:Frag} {mg:Str->Option Value} {x:Str} {C:Addr} (c:XCls K mg x C):XOk K mg x C:=a0y c.mgx c.exc
def isB (k:Bool):Value->Bool
 | .bool a=>a == k
 | _=>false
theorem aho:∀ {bs:List Bool} {us:List Value},Vals (bs.map V.bl) us->us=bs.map Value.bool
 | [],_,.nil=>rfl
 | b :: bs,_,.cons r t=>by
  rw [aD1,← aho t,show _=Value.bool b from r]
theorem am9:∀ {ds:List Addr} {us:List Value},Vals (ds.map V.ref) us->us=ds.map Value.ref
 | [],_,.nil=>rfl
 | b :: bs,_,.cons r t=>by
  rw [aD1,← am9 t,show _=Value.ref b from r]
section
variable {X:Cx}
def apn:V->List V->Hp->VK->Prop:=fun x vs H Q=>∃ (l:Addr) (bs:List Bool) (k:Bool) (j:Nat),x=.ref l/\vs=[.bl k]/\H l=some (.lst (bs.map V.bl))/\bs[j]?=some k/\(∀ m,m < j->bs[m]? ≠ some k)/\Q (.int j) H
theorem asx:MtM X "list.index" apn:=by
 intro pins s σ H x vs v us Q I o p h
 obtain ⟨l,bs,k,j,rfl,rfl,g,B,a,q⟩:=h
 cases o
 obtain ⟨u,rfl,A⟩:=p.one
 cases (show u=Value.bool k from A)
 obtain ⟨z,its,n,r,w,e⟩:=I.lstM g
 have hi:=aho r
 subst hi
 rw [aA3] at w z
 obtain ⟨i,f⟩:=aA1.mp B
 have hz:sizeLine < 2 ^ 62:=by decide
 refine call_meets F.slot_list_index ⟨_,e,rfl⟩ F.entry_list_index (F.args_list_index_2 _ _)
  (SeqAt.list_indexAt l (bs.map Value.bool).toArray n none #[] (.bool k) (isB k) j (by simp;omega) (by omega) ?_ (fun m hm d=>?_)) ⟨e,fun y t=>?_,?_⟩
 ·rw [aF2,List.getElem_map]
  simp [isB,f]
 ·have c:m < bs.length:=by omega
  rw [aF2,List.getElem_map]
  have:=a m d
  rw [aA0 c] at this
  simp only [isB,beq_eq_false_iff_ne,ne_eq]
  exact fun e=>this (by rw [e])
 ·obtain ⟨b,_,rfl⟩:=aB7.mp (List.mem_toArray.mp t)
  exact SeqAt.EqAt.bool_bool b k
 ·exact ⟨.int j,H,I.tok _,⟨_,rfl⟩,q⟩
def apo:V->List V->Hp->VK->Prop:=fun x vs H Q=>∃ (l:Addr) (bs:List Bool) (k:Bool),x=.ref l/\vs=[.bl k]/\H l=some (.lst (bs.map V.bl))/\Q (.int (bs.count k:Nat)) H
theorem asz:MtM X "list.count" apo:=by
 intro pins s σ H x vs v us Q I c d h
 obtain ⟨l,bs,k,rfl,rfl,a,q⟩:=h
 cases c
 obtain ⟨u,rfl,i⟩:=d.one
 cases (show u=Value.bool k from i)
 obtain ⟨z,its,n,r,j,e⟩:=I.lstM a
 have hi:=aho r
 subst hi
 refine call_meets F.slot_list_count ⟨_,e,rfl⟩ F.entry_list_count (F.args_list_count_2 _ _)
  (SeqAt.list_countAt l (bs.map Value.bool).toArray n none #[] (.bool k) (isB k)) ⟨e,fun y f=>?_,?_⟩
 ·obtain ⟨b,_,rfl⟩:=aB7.mp (List.mem_toArray.mp f)
  exact SeqAt.EqAt.bool_bool b k
 ·have g:((bs.map Value.bool).toArray.toList.countP (isB k):Nat)=bs.count k:=by
   rw [show (bs.map Value.bool).toArray.toList=bs.map Value.bool from rfl,List.countP_map]
   rfl
  rw [g]
  exact ⟨.int (bs.count k:Nat),H,I.tok _,⟨_,rfl⟩,q⟩
def as0 (K:Frag):List V->Hp->VK->Prop:=fun xs H Q=>∃ (a C tp:Addr) (Ds:List Addr) (b:Bool),xs=[.ref a,.ref tp]/\H tp=some (.tup (Ds.map V.ref))/\H a=some (.ext (ExAt a C))/\XIn K C/\PySem.W.kitAny K (.ref C) (Ds.map Value.ref)=some b/\Q (.bl b) H
theorem aqw:abd X (.builtin "isinstance") (as0 X.K):=by
 intro pins s σ H xs us Q I r h
 obtain ⟨a,C,d,Ds,b,rfl,f,ha,c,e,q⟩:=h
 obtain ⟨l,u,rfl,j,t⟩:=agh r
 cases (show l=Value.ref a from j)
 cases (show u=Value.ref d from t)
 obtain ⟨_,its,p,o,m,i,n,g⟩:=(show ObjOk X.prog X.w H s.heap d (.tup (Ds.map V.ref)) from I.hok d _ f)
 have:=am9 p
 subst this
 obtain ⟨oc,od,dt,sl⟩:=o
 simp only at i g
 subst i g
 exact PySem.W.kia_tup (am7 c) I.kIn (show ExAt a C s.heap from (I.hok a _ ha).1) m e (fun z=>nomatch z) fun v=>⟨.bl b,H,I.tok _,rfl,q⟩
end
end L2
namespace VL
open PySem PySem.Spec L2
section
variable {B:Bs} {env:En} {Q':PyData->En->Prop} {K:Frag} {i:Nat} {C:Addr} {tl te:TE}
theorem Rps.bls_inv {G:Hp}:∀ {bs:List Bool} {vs:List V},Rps G vs (bs.map PyData.bool)->vs=bs.map V.bl
 | [],_,.nil=>rfl
 | n :: ns,_,.cons r t=>by
  cases r
  rw [Rps.bls_inv t];rfl
theorem akj {bs:List Bool} {k:Bool} {j:Nat} (h:Ev B tl env fun x c=>x=.list (bs.map .bool)/\bs[j]?=some k/\(∀ m,m < j->bs[m]? ≠ some k)/\Q' (.int j) c):Ev B (tBM K "list" apn tl (aa2 (tC (.bl k)) tNil)) env Q':=fun σ G H F Q I o =>
 h σ G H F _ I fun v g r l d c b u f s=>by
  obtain ⟨t,n,p,q⟩:=s
  subst t
  cases f with
  | @lst a vs _ ha rs =>
   have i:vs=bs.map V.bl:=rs.bls_inv
   subst i
   exact ⟨.inl ⟨rfl,_,SqL.of (b.gh _ _ ha)⟩,a,bs,k,j,rfl,rfl,b.gh _ _ ha,n,p,o _ g r l _ c b u (.int _) q⟩
theorem as4 {bs:List Bool} {k:Bool} (h:Ev B tl env fun x c=>x=.list (bs.map .bool)/\Q' (.int (bs.count k:Nat)) c):Ev B (tBM K "list" apo tl (aa2 (tC (.bl k)) tNil)) env Q':=fun σ G H F Q I l =>
 h σ G H F _ I fun v g m j d c b p f n=>by
  obtain ⟨o,q⟩:=n
  subst o
  cases f with
  | @lst a vs _ ha rs =>
   have i:vs=bs.map V.bl:=rs.bls_inv
   subst i
   exact ⟨.inl ⟨rfl,_,SqL.of (b.gh _ _ ha)⟩,a,bs,k,rfl,rfl,b.gh _ _ ha,l _ g m j _ c b p (.int _) q⟩
def tCs:List Addr->TA
 | []=>tNil
 | D :: r=>aa2 (tC (.ref D)) (tCs r)
theorem apq {σ:St} {H:Hp}:∀ {Ds:List Addr} {Q:List V->Hp->Prop},Q (Ds.map V.ref) H->tCs Ds σ H Q
 | [],Q,h=>h
 | D :: r,Q,h=>apq (Ds:=r) h
theorem avm {D:Addr} {Ds:List Addr} {b:Bool} (h:Has env i (OE C)) (g:(D :: Ds).length<=1000) (c:XIn K C) (e:PySem.W.kitAny K (.ref C) ((D :: Ds).map Value.ref)=some b) (q:Q' (.bool b) env):Ev B (tCB (as0 K) (aa2 (tVar i) (aa2 (tTup (tCs (D :: Ds))) tNil))) env Q':=fun σ G H F Q I k=>by
 obtain ⟨v,j,a,rfl,ha,f⟩:=I.has h
 refine ⟨_,j,apq ⟨by rw [aA3];exact aG5 (adq g),fun p d=>?_⟩⟩
 have nx:a ≠ p:=fun z=>by subst z;rw [ha] at d;cases d
 refine ⟨a,C,p,D :: Ds,b,rfl,aah,by rw [aae nx];exact ha,c,e,?_⟩
 refine k _ G _ F _ env (I.grow (Same.refl _) (I.gh.trans (abj d)) (abj d) (fun a o e => .inl e) fun a ks e=>?_) (Same.refl _) (.bl _) q
 by_cases z:a=p
 ·subst z
  rw [aah] at e
  cases ks with
  | nil=>simp at e
  | cons x xs =>
   have:=(List.cons.inj (HO.tup.inj (aC6 e))).1
   cases x <;> cases this
 ·rw [aae z] at e
  exact I.ft a ks e
end
end VL
namespace L2
open PySem PySem.Spec PyProof.Rows
section
variable {P:Program} {w:World} {K:Frag} {mg:Str->Option Value} {base:Heap} {x:Str} {k k2:Nat} {ps:List Str} {sp sp2:Sp}
theorem Can.lift (F:Can P w K mg base x k ps sp) (h:∀ vs H Q E,sp2 vs H Q E->sp vs H Q E):CanX P w K mg base x k ps sp2:=by
 obtain ⟨f,fd,F⟩:=F
 refine ⟨f,fd,⟨fun vs H Q E q=>F.ok.len vs H Q E (h _ _ _ _ q),fun A outer s H args us vs Q E a b hb c hs=>aJ4 (F.ok.run A outer s H args us vs Q E a b hb c (h _ _ _ _ hs)) fun r s' q=>?_⟩,F.mgx,F.kp,F.bd⟩
 cases r with
 | error e=>exact False.elim q
 | ok fl =>
  cases fl with
  | ret u=>exact q
  | next=>exact q
  | brk=>exact q
  | cont=>exact q
variable {j:Nat} {p pos ep:Pos} {e:Expr} {es:List Expr} {t:TA} {X:Cx}
theorem akk (F:CanX X.prog X.w X.K X.mg X.base x k ps sp) (F2:CanX X.prog X.w X.K X.mg X.base x k2 ps sp2) (L:Room j X.A) (ha:PA X.nox (e :: es) t) (N:X.ex=[]:=by rfl) (hj:k<=j:=by decide) (l:k2<=j:=by decide) (y:Gl X x:=by rfl) (n:(x == ("__debug__" : Str))=false:=by decide)
  (B:starEach (e :: es) X.env=(false,eval e X.env) :: starEach es X.env:=by rfl) (i:(backTo pos (starEach es X.env)).any (·.1)=false:=by rfl)
  (hs:swapsWith (.Call (.Name x p) (e :: es) [] pos) none ep.line X.env=pure false:=by rfl) :
  PXs X [.Expr (.Call (.Name x p) (e :: es) [] pos) ep] (fun W D σ H=>t σ H fun vs d=>sp vs d (fun _ H2=>D.nx σ H2) (fun c _ H2=>W c σ H2)\/sp2 vs d (fun _ H2=>D.nx σ H2) (fun c _ H2=>W c σ H2)):=by
 obtain ⟨f',fd,M,G,P,S⟩:=F
 obtain ⟨f2,Y,E,R,d3,d4⟩:=F2
 have Z:=G.symm.trans R
 cases Z
 intro pins s σ H D W I h
 refine wpAny_execs_cons (thn (Q:=SP X pins D) (wpAny_Expr_any (Q:=SP X pins D) ?_ I.quiet hs) fun f s1 q=>?_)
 ·refine wpAny_Call_Name_kw (aew I y G ?_ n)
  refine PySem.W.callWith_K (h₀:=X.base) I.ok.mod.kin P (aJ8 (ha pos pins s σ H _ (I.wish _) h) (fun us s1 ⟨vs,d,a,r,q⟩=>⟨a.kIn,?_⟩) fun _ _ z=>False.elim z) B i
  have a:=a.unwish
  have fin:codeAny (model X.prog X.w) X.A (.call (.ref f') ⟨us,[]⟩) (CR (CXE X.prog X.w X.base) X.stack X.prog X.w d s1 (fun _ H2=>D.nx σ H2) (fun c _ H2=>W c σ H2)) s1:=by
   rcases q with q | q
   ·have m:us.length=ps.length:=by rw [← r.length];exact M.len _ _ _ _ q
    exact M.run X.A X.stack s1 d ⟨us,[]⟩ us vs _ _ (L.mono hj) a.env0 (by have:=S s1 us a.kIn (by simpa using m);simpa using this) r q
   ·have m:us.length=ps.length:=by rw [← r.length];exact E.len _ _ _ _ q
    exact E.run X.A X.stack s1 d ⟨us,[]⟩ us vs _ _ (L.mono l) a.env0 (by have:=d4 s1 us a.kIn (by simpa using m);simpa using this) r q
  refine wpAny_call (aJ4 fin fun r s' g=>?_)
  cases r with
  | error e =>
   obtain ⟨ea,T,C,H',rfl,O,y,un,hok,o,ne,U,B,hT,hE⟩:=g
   exact ⟨σ,ea,T,C,H',rfl,a.call' O un hok y (fun b z=>absurd z (by simp)),o,awj a N ne,awj a N U,B,hT,hE⟩
  | ok o =>
   cases o with
   | ret u =>
    obtain ⟨v,H2,J,_,q⟩:=a.after g
    exact ⟨σ,H2,J,q⟩
   | next=>exact False.elim g
   | brk=>exact False.elim g
   | cont=>exact False.elim g
 ·cases f with
  | next=>exact wpAny_execs_nil q
  | ret v=>exact q
  | brk=>exact q
  | cont=>exact q
end
end L2
namespace VL
open PySem PySem.Spec L2
section
variable {P:Program} {w:World} {K:Frag} {mg:Str->Option Value} {base:Heap} {x:Str} {k:Nat} {ps:List Str}
theorem aqx {f:VP} (F:Can P w K mg base x k ps (spP K f)):CanX P w K mg base x k ps (spX K fun ss Q _=>f ss Q) :=
 F.lift fun vs H Q E ⟨G,ss,g,i,b,c,a,d,h,_⟩=>⟨G,ss,g,b,c,a,d,h⟩
variable {B:Bs} {env:En} {D':VEnds} {RX:Addr->En->Prop}
theorem akl {f:VPX} {g:VP} {t:TA} (h:EvA B t env fun ds a=>f (ds.map Sl.st) (fun _=>D'.nx a) (fun C=>RX C a)\/g (ds.map Sl.st) (fun _=>D'.nx a)) :
  EvXs B (fun W D σ H=>t σ H fun vs m=>spX K f vs m (fun _ H2=>D.nx σ H2) (fun c _ H2=>W c σ H2)\/spX K (fun ss Q _=>g ss Q) vs m (fun _ H2=>D.nx σ H2) (fun c _ H2=>W c σ H2)) D' RX env:=fun σ G H F D W I r w =>
 h σ G H F _ I fun vs p m i ds a b j n d=>by
  rcases d with d | d
  ·exact .inl ⟨p,_,_,_,b.gh,b.ft,ArgsOk.of n,d,fun s q v G' H' Fv o=>r.nx σ G' H' i a (b.out o).1 (j.trans o.gg) q,fun C l G' H' o=>w C σ G' H' i a (b.out o).1 (j.trans o.gg) l⟩
  ·exact .inr ⟨p,_,_,(fun C=>RX C a),b.gh,b.ft,ArgsOk.of n,d,fun s q v G' H' Fv o=>r.nx σ G' H' i a (b.out o).1 (j.trans o.gg) q,fun C l G' H' o=>w C σ G' H' i a (b.out o).1 (j.trans o.gg) l⟩
end
end VL
namespace L2
open PySem PySem.Spec PyProof.Rows
section
variable {P:Program} {w:World} {K:Frag} {mg:Str->Option Value} {base:Heap} {x:Str} {k k2:Nat} {ps:List Str} {sp sp2:Sp}
variable {N:List Str} {qual:Str} {scope:Scope} {f:Addr} {cd:Value} {A:Around} {outer:List Env} {s0:Shared} {H0:Hp} {E:XK} {j:Nat} {p pos:Pos} {e:Expr} {es:List Expr} {t:TA}
theorem as6 (F:CanX P w K mg base x k ps sp) (F2:CanX P w K mg base x k2 ps sp2) (i:Room j (cxOf (CXE P w base) P w K mg base N qual scope f cd A outer s0 H0 E).A) (ha:PA (cxOf (CXE P w base) P w K mg base N qual scope f cd A outer s0 H0 E) (e :: es) t) (D:k<=j:=by decide) (c:k2<=j:=by decide)
  (z:Gl (cxOf (CXE P w base) P w K mg base N qual scope f cd A outer s0 H0 E) x:=by rfl) (d:(x == ("__debug__" : Str))=false:=by decide)
  (B:starEach (e :: es) (cxOf (CXE P w base) P w K mg base N qual scope f cd A outer s0 H0 E).env=(false,eval e (cxOf (CXE P w base) P w K mg base N qual scope f cd A outer s0 H0 E).env) :: starEach es (cxOf (CXE P w base) P w K mg base N qual scope f cd A outer s0 H0 E).env:=by rfl)
  (a:(backTo pos (starEach es (cxOf (CXE P w base) P w K mg base N qual scope f cd A outer s0 H0 E).env)).any (·.1)=false:=by rfl) :
  PE (cxOf (CXE P w base) P w K mg base N qual scope f cd A outer s0 H0 E) (.Call (.Name x p) (e :: es) [] pos) (abf (fun vs H Q E=>sp vs H Q E\/sp2 vs H Q E) [] E t):=by
 obtain ⟨M,y,C,g,m,o⟩:=F
 obtain ⟨J,u,l,n,L,G⟩:=F2
 have v:=g.symm.trans n
 cases v
 intro pins s σ H Q I h
 refine wpAny_Call_Name_kw (aew I z g ?_ d)
 refine PySem.W.callWith_K (h₀:=base) I.ok.mod.kin m (thn (ha pos pins s σ H _ I h) fun us s1 ⟨vs,O,b,r,q⟩=>⟨b.kIn,?_⟩) B a
 rcases q with q | q
 ·exact alq C (i.mono D) o .nil aqu b r q
 ·exact alq l (i.mono c) G .nil aqu b r q
end
end L2
namespace VL
open PySem PySem.Spec L2
section
variable {B:Bs} {env:En} {QO:Sl->En->Prop} {Q':PyData->En->Prop} {K:Frag} {E:XK} {R:Addr->Prop}
theorem aqy {f:VPX} {g:VP} {t:TA} (m:EvE B E R) (h:EvA B t env fun ds b=>f (ds.map Sl.st) (fun s=>QO s b) R\/g (ds.map Sl.st) (fun s=>QO s b)) :
  EvO B (abf (fun vs H Q E=>spX K f vs H Q E\/spX K (fun ss Q _=>g ss Q) vs H Q E) [] E t) env QO:=fun σ G H F Q I k=>by
 unfold abf
 simp only [aE9]
 exact h σ G H F _ I fun vs l p d ds b a n j c=>by
  rcases c with c | c
  ·exact .inl ⟨l,_,_,R,a.gh,a.ft,ArgsOk.of j,c,fun s q v G' H' Fv o=>k v G' H' d Fv s b (a.out o).1 (n.trans o.gg) (a.out o).2 q,fun C i G' H' o=>m C i σ G' H' d b (a.out o).1⟩
  ·exact .inr ⟨l,_,_,R,a.gh,a.ft,ArgsOk.of j,c,fun s q v G' H' Fv o=>k v G' H' d Fv s b (a.out o).1 (n.trans o.gg) (a.out o).2 q,fun C i G' H' o=>m C i σ G' H' d b (a.out o).1⟩
end
end VL
namespace G
open PySem L2 VL
def top (i:Nat):Stmt:=PySem.Challenge.pw_fewties_k27_hubs_refused.main.body.getD i (.Pass ⟨0,0,0,0⟩)
abbrev s_is_whole:Stmt:=top 11
abbrev s_is_between:Stmt:=top 12
abbrev s_need_number:Stmt:=top 13
abbrev s_is_place:Stmt:=top 14
abbrev s_is_tie:Stmt:=top 15
abbrev s_are_ties:Stmt:=top 16
abbrev s_is_rising:Stmt:=top 17
abbrev s_tied_places:Stmt:=top 18
abbrev s_far_from:Stmt:=top 19
abbrev s_need_place:Stmt:=top 20
abbrev s_all_far:Stmt:=top 21
abbrev s_is_joined:Stmt:=top 22
abbrev s_need_joined:Stmt:=top 24
abbrev s_far_rows:Stmt:=top 25
abbrev s_most_far:Stmt:=top 26
abbrev s_farthest_two:Stmt:=top 27
abbrev s_with_ties:Stmt:=top 29
abbrev s_hubs_for:Stmt:=top 32
abbrev s_hub_ties:Stmt:=top 33
abbrev s_law_cell:Stmt:=top 35
abbrev s_law_store:Stmt:=top 36
abbrev s_law_take:Stmt:=top 37
abbrev s_law_tree_ties:Stmt:=top 38
abbrev s_law_renumbered:Stmt:=top 39
abbrev s_law_tree:Stmt:=top 40
abbrev s_law_crowd:Stmt:=top 41
abbrev s_law_web:Stmt:=top 42
abbrev s_law_far_from:Stmt:=top 43
abbrev s_law_kind:Stmt:=top 44
abbrev s_law_word:Stmt:=top 45
abbrev s_law_parted:Stmt:=top 46
abbrev s_law:Stmt:=top 47
def YF (K:Frag) (mg:Str->Option Value) (r c:Str) (b:Bool):Prop:=∀ C D,mg r=some (.ref C)->mg c=some (.ref D)->kitOne K (.ref C) (.ref D)=some b
structure Txt (K:Frag) (mg:Str->Option Value):Prop where
 b_ValueError:mg "ValueError" = none
 b_all:mg "all" = none
 b_max:mg "max" = none
 b_sorted:mg "sorted" = none
 b_range:mg "range" = none
 b_list:mg "list" = none
 b_isinstance:mg "isinstance" = none
 b_int:mg "int" = none
 b_len:mg "len" = none
 b_set:mg "set" = none
 b_min:mg "min" = none
 b_bool:mg "bool" = none
 b_tuple:mg "tuple" = none
 b_zip:mg "zip" = none
 v_MOST_HUB_TIES:∃ t,mg "MOST_HUB_TIES" = some (.int 20 t)
 d_is_whole:∃ f fd,DefAt K mg "is_whole" s_is_whole ["thing"] f fd
 d_is_between:∃ f fd,DefAt K mg "is_between" s_is_between ["least","most","thing"] f fd
 d_need_number:∃ f fd,DefAt K mg "need_number" s_need_number ["least","most","thing"] f fd
 d_is_place:∃ f fd,DefAt K mg "is_place" s_is_place ["n","thing"] f fd
 d_is_tie:∃ f fd,DefAt K mg "is_tie" s_is_tie ["n","thing"] f fd
 d_are_ties:∃ f fd,DefAt K mg "are_ties" s_are_ties ["n","thing"] f fd
 d_is_rising:∃ f fd,DefAt K mg "is_rising" s_is_rising ["things"] f fd
 d_tied_places:∃ f fd,DefAt K mg "tied_places" s_tied_places ["web"] f fd
 d_far_from:∃ f fd,DefAt K mg "far_from" s_far_from ["tied","start"] f fd
 d_need_place:∃ f fd,DefAt K mg "need_place" s_need_place ["web","thing"] f fd
 d_all_far:∃ f fd,DefAt K mg "all_far" s_all_far ["web","a"] f fd
 d_is_joined:∃ f fd,DefAt K mg "is_joined" s_is_joined ["web"] f fd
 d_need_joined:∃ f fd,DefAt K mg "need_joined" s_need_joined ["web"] f fd
 d_far_rows:∃ f fd,DefAt K mg "far_rows" s_far_rows ["web"] f fd
 d_most_far:∃ f fd,DefAt K mg "most_far" s_most_far ["rows"] f fd
 d_farthest_two:∃ f fd,DefAt K mg "farthest_two" s_farthest_two ["web"] f fd
 d_with_ties:∃ f fd,DefAt K mg "with_ties" s_with_ties ["web","ties"] f fd
 d_hubs_for:∃ f fd,DefAt K mg "hubs_for" s_hubs_for ["web","k"] f fd
 d_hub_ties:∃ f fd,DefAt K mg "hub_ties" s_hub_ties ["web","k"] f fd
 d_law_cell:∃ f fd,DefAt K mg "_law_cell" s_law_cell ["script","k"] f fd
 d_law_store:∃ f fd,DefAt K mg "_law_store" s_law_store ["cell"] f fd
 d_law_take:∃ f fd,DefAt K mg "_law_take" s_law_take ["store","many"] f fd
 d_law_tree_ties:∃ f fd,DefAt K mg "_law_tree_ties" s_law_tree_ties ["store","n","kind"] f fd
 d_law_renumbered:∃ f fd,DefAt K mg "_law_renumbered" s_law_renumbered ["store","n","ties"] f fd
 d_law_tree:∃ f fd,DefAt K mg "_law_tree" s_law_tree ["store"] f fd
 d_law_crowd:∃ f fd,DefAt K mg "_law_crowd" s_law_crowd ["store"] f fd
 d_law_web:∃ f fd,DefAt K mg "_law_web" s_law_web ["store"] f fd
 d_law_far_from:∃ f fd,DefAt K mg "_law_far_from" s_law_far_from ["web","a"] f fd
 d_law_kind:∃ f fd,DefAt K mg "_law_kind" s_law_kind ["caught"] f fd
 d_law_word:∃ f fd,DefAt K mg "_law_word" s_law_word ["way","web","k"] f fd
 d_law_parted:∃ f fd,DefAt K mg "_law_parted" s_law_parted ["store","web"] f fd
 d_law:∃ f fd,DefAt K mg "law" s_law ["script"] f fd
 x_TieError:∃ C,XCls K mg "TieError" C
 x_NoPlace:∃ C,XCls K mg "NoPlace" C
 x_NoJoin:∃ C,XCls K mg "NoJoin" C
 x_NoTie:∃ C,XCls K mg "NoTie" C
 x_NoTree:∃ C,XCls K mg "NoTree" C
 x_NoNumber:∃ C,XCls K mg "NoNumber" C
 x_NoText:∃ C,XCls K mg "NoText" C
 x_NoName:∃ C,XCls K mg "NoName" C
 x_NoRow:∃ C,XCls K mg "NoRow" C
 y_NoPlace_TieError:YF K mg "NoPlace" "TieError" true
 y_NoPlace_NoPlace:YF K mg "NoPlace" "NoPlace" true
 y_NoPlace_NoJoin:YF K mg "NoPlace" "NoJoin" false
 y_NoPlace_NoTie:YF K mg "NoPlace" "NoTie" false
 y_NoPlace_NoTree:YF K mg "NoPlace" "NoTree" false
 y_NoPlace_NoNumber:YF K mg "NoPlace" "NoNumber" false
 y_NoPlace_NoText:YF K mg "NoPlace" "NoText" false
 y_NoPlace_NoName:YF K mg "NoPlace" "NoName" false
 y_NoPlace_NoRow:YF K mg "NoPlace" "NoRow" false
 y_NoPlace_ValueError:∀ C,mg "NoPlace" = some (.ref C)->kitOne K (.ref C) (.type "ValueError")=some true
 s_NoPlace_TieError:∀ C D,mg "NoPlace" = some (.ref C)->mg "TieError" = some (.ref D)->mroIn K C (.ref D)=some true
 y_NoJoin_TieError:YF K mg "NoJoin" "TieError" true
 y_NoJoin_NoPlace:YF K mg "NoJoin" "NoPlace" false
 y_NoJoin_NoJoin:YF K mg "NoJoin" "NoJoin" true
 y_NoJoin_NoTie:YF K mg "NoJoin" "NoTie" false
 y_NoJoin_NoTree:YF K mg "NoJoin" "NoTree" false
 y_NoJoin_NoNumber:YF K mg "NoJoin" "NoNumber" false
 y_NoJoin_NoText:YF K mg "NoJoin" "NoText" false
 y_NoJoin_NoName:YF K mg "NoJoin" "NoName" false
 y_NoJoin_NoRow:YF K mg "NoJoin" "NoRow" false
 y_NoJoin_ValueError:∀ C,mg "NoJoin" = some (.ref C)->kitOne K (.ref C) (.type "ValueError")=some true
 s_NoJoin_TieError:∀ C D,mg "NoJoin" = some (.ref C)->mg "TieError" = some (.ref D)->mroIn K C (.ref D)=some true
 y_NoTie_TieError:YF K mg "NoTie" "TieError" true
 y_NoTie_NoPlace:YF K mg "NoTie" "NoPlace" false
 y_NoTie_NoJoin:YF K mg "NoTie" "NoJoin" false
 y_NoTie_NoTie:YF K mg "NoTie" "NoTie" true
 y_NoTie_NoTree:YF K mg "NoTie" "NoTree" false
 y_NoTie_NoNumber:YF K mg "NoTie" "NoNumber" false
 y_NoTie_NoText:YF K mg "NoTie" "NoText" false
 y_NoTie_NoName:YF K mg "NoTie" "NoName" false
 y_NoTie_NoRow:YF K mg "NoTie" "NoRow" false
 y_NoTie_ValueError:∀ C,mg "NoTie" = some (.ref C)->kitOne K (.ref C) (.type "ValueError")=some true
 s_NoTie_TieError:∀ C D,mg "NoTie" = some (.ref C)->mg "TieError" = some (.ref D)->mroIn K C (.ref D)=some true
 y_NoNumber_TieError:YF K mg "NoNumber" "TieError" true
 y_NoNumber_NoPlace:YF K mg "NoNumber" "NoPlace" false
 y_NoNumber_NoJoin:YF K mg "NoNumber" "NoJoin" false
 y_NoNumber_NoTie:YF K mg "NoNumber" "NoTie" false
 y_NoNumber_NoTree:YF K mg "NoNumber" "NoTree" false
 y_NoNumber_NoNumber:YF K mg "NoNumber" "NoNumber" true
 y_NoNumber_NoText:YF K mg "NoNumber" "NoText" false
 y_NoNumber_NoName:YF K mg "NoNumber" "NoName" false
 y_NoNumber_NoRow:YF K mg "NoNumber" "NoRow" false
 y_NoNumber_ValueError:∀ C,mg "NoNumber" = some (.ref C)->kitOne K (.ref C) (.type "ValueError")=some true
 s_NoNumber_TieError:∀ C D,mg "NoNumber" = some (.ref C)->mg "TieError" = some (.ref D)->mroIn K C (.ref D)=some true
local macro_rules | `(tactic| row_cond sc) => `(tactic| exact ⟨rfl,rfl,rfl,by decide +kernel,rfl,by decide +kernel,by decide +kernel⟩)
local macro_rules | `(tactic| row_cond gn) => `(tactic| first | (with_reducible first | refine evg_n0 ?_ | refine a0a ?_ | refine a0b ?_ | refine a0c ?_ | refine a0d ?_ | refine a0e ?_ | refine a0f ?_ | refine a0g ?_ | refine a0h ?_ | refine evg_n9 ?_ | refine evg_n10 ?_ | refine evg_n11 ?_ | refine evg_n12 ?_ | refine evg_n13 ?_ | refine evg_n14 ?_ | refine evg_n15 ?_ | refine evg_n16 ?_ | refine evg_n17 ?_ | refine evg_n18 ?_ | refine evg_n19 ?_ | refine evg_n20 ?_ | refine evg_n21 ?_ | refine evg_n22 ?_ | refine evg_n23 ?_ | refine evg_n24 ?_ | refine evg_n25 ?_) | ((with_reducible refine aa9 ?_); dsimp only [List.set_cons_zero, List.set_cons_succ]))
local macro_rules | `(tactic| row_cond dc) => `(tactic| first | assumption | omega | (with_reducible rfl))
local macro_rules | `(tactic| row_cond ar) => `(tactic| first | assumption | (refine ⟨?_, ?_, ?_⟩ <;> decide) | (constructor <;> first | assumption | omega) | (show (0 : Int) < _; first | assumption | omega) | (left; constructor <;> first | assumption | omega) | (right; constructor <;> first | assumption | omega))
local macro_rules | `(tactic| row_cond hs) => `(tactic| first | exact Or.inl rfl | exact Or.inr rfl)
local macro_rules | `(tactic| row_cond fz) => `(tactic| first | exact ab1 | exact ar3 | exact frz_OT | exact asi | exact ajf | assumption)
local macro_rules | `(tactic| row_cond le) => `(tactic| first | exact Nat.le_of_ble_eq_true rfl | assumption | omega | (simp only [List.length_append, List.length_map, List.length_cons, List.length_nil, List.length_set, List.length_replicate]; omega))
local macro_rules | `(tactic| row_cond ia) => `(tactic| first | assumption | exact at0 | exact at1 | exact at2 | exact rfl)
local macro_rules | `(tactic| row_cond ty) => `(tactic| first | exact az7 | exact axn | exact auu | exact axo | exact ty_str | exact ty_dict)
local macro_rules | `(tactic| row_cond sEvS) => `(tactic| first | (with_reducible refine amm (fun c_ hc_ => ?_)) | (with_reducible first | refine ae3 ?_ | refine ar5 ?_ | refine aud ?_) | ((with_reducible refine' auv ?h0 ?_); (case h0 => exact rfl)) | (with_reducible first | refine aov ?_ | refine axa ?_ | refine amj ?_) | ((with_reducible refine' aow ?h0 ?_); (case h0 => assumption)))
local macro_rules | `(tactic| row_cond sEvG) => `(tactic| first | row_cond gn | ((with_reducible refine' aou ?h0 ?_); (case h0 => exact rfl)) | ((with_reducible refine' aut ?h0 ?_); (case h0 => row_cond hs)) | (with_reducible refine evg_st ?_))
local macro_rules | `(tactic| row_cond sEvGs) => `(tactic| first | (with_reducible first | refine af4 ?_ | refine amk ?_))
local macro_rules | `(tactic| row_cond sEv) => `(tactic| first | ((with_reducible refine' azq ?h0 ?_); (case h0 => exact rfl)) | (with_reducible refine azr ?_) | ((with_reducible refine' az4 ?h0 ?_); (case h0 => row_cond hs)) | ((with_reducible refine' az5 ?h0 ?h1 ?_); (case h0 => exact rfl); (case h1 => assumption)) | (with_reducible refine a1m ?_) | ((with_reducible refine' axm ?h0 ?h1 ?_); (case h0 => exact rfl); (case h1 => assumption)) | ((with_reducible refine' az6 ?h0 ?_); (case h0 => row_cond ty)) | ((with_reducible refine' az3 ?h0 ?h1 ?_); (case h0 => row_cond hs); (case h1 => row_cond fz)) | ((with_reducible refine' ar9 ?h0 ?_); (case h0 => exact rfl)) | ((with_reducible refine' asa ?h0 ?_); (case h0 => exact rfl)) | ((with_reducible refine' auh ?h0 ?h1 ?_); (case h0 => exact rfl); (case h1 => assumption)) | (with_reducible refine aug ?_) | ((with_reducible refine' aw5 ?h0 ?h1 ?_); (case h0 => exact rfl); (case h1 => row_cond fz); dsimp only [List.set_cons_zero, List.set_cons_succ]) | (with_reducible first | refine azv ?_ | refine azw ?_ | refine a1l ?_ | refine azs ?_ | refine azt ?_ | refine a1n ?_ | refine aw8 ?_ | refine aw9 ?_ | refine auc ?_ | refine abr (te:=tCB (aic _) _) ?_ | refine abr (te:=tCB (al3 _) _) ?_ | refine a1o ?_) | ((with_reducible refine' aqe ?h0 ?_); (case h0 => row_cond hs)) | ((with_reducible refine' aqf ?h0 ?_); (case h0 => row_cond hs)) | ((with_reducible refine' aus ?h0 ?_); (case h0 => row_cond hs)) | (with_reducible refine ev_listR ?_) | ((with_reducible refine' a1w ?h0 ?_); (case h0 => decide)) | (with_reducible first | refine au9 ?_))
local macro_rules | `(tactic| row_cond sEvO) => `(tactic| first | (with_reducible first | refine ami (r:=rCat) ?_ | refine ami (r:=rRep) ?_ | refine abq (te:=tOp _ _ _) ?_ | refine abq (te:=tVar _) ?_ | refine abq (te:=tC _) ?_ | refine aor ?_) | ((with_reducible refine' au4 ?h0 ?_); (case h0 => exact rfl)) | (with_reducible refine aoq ?_) | ((with_reducible refine' aih ?h0 ?_); (case h0 => exact rfl)) | ((with_reducible refine' aii ?h0 ?_); (case h0 => exact rfl)) | ((with_reducible refine' aj2 ?h0 ?h1 ?_); (case h0 => exact rfl); (case h1 => assumption)) | (with_reducible first | refine aj1 ?_ | refine axq ?_) | ((with_reducible refine' ar7 ?h0 ?_); (case h0 => decide)) | (with_reducible first | refine aka ?_ | refine asf ?_ | refine ar4 (r:=amr _) ?_ | refine abq (te:=tUn _ _) ?_ | refine abq (te:=apw _ _) ?_ | refine abq (te:=apx _) ?_ | refine abq (te:=alp _ _ _ _ _) ?_ | refine abq (te:=ah1 _ _ _) ?_ | refine abq (te:=tCB (rLen _) _) ?_ | refine abq (te:=tCB (rIsi _) _) ?_ | refine abq (te:=tCB alf _) ?_ | refine abq (te:=tCB alg _) ?_ | refine abq (te:=tCB alh _) ?_ | refine abq (te:=tCB (ah9 _) _) ?_ | refine abq (te:=tCB (rAll _) _) ?_ | refine abq (te:=tBM _ _ _ _ _) ?_))
local macro_rules | `(tactic| row_cond sEvT) => `(tactic| first | (with_reducible first | refine ahg ?_ | refine a1p ?_ | refine aw6 ?_ | refine azx ?_ | refine aos ?_ | refine ae2 ?_) | (with_reducible refine aw7 ?_))
local macro_rules | `(tactic| row_cond sEvA) => `(tactic| first | (with_reducible first | refine aub ?_ | refine aop ?_))
local macro_rules | `(tactic| row_cond sEvI) => `(tactic| first | (with_reducible first | refine aue ?_ | refine auf ?_ | refine evi_down ?_ | refine aml ?_ | refine axs ?_) | (with_reducible refine evi_tup ?_))
local macro_rules | `(tactic| row_cond sOp2) => `(tactic| first | (with_reducible first | refine axb ?_ | refine axc ?_) | ((with_reducible refine' az1 ?h0 ?_); (case h0 => row_cond ar)) | (with_reducible first | refine axd ?_ | refine axe ?_) | ((with_reducible refine' axi ?h0 ?_); (case h0 => row_cond ia)) | ((with_reducible refine' axj ?h0 ?_); (case h0 => row_cond ia)) | (with_reducible first | refine axf ?_ | refine axg ?_ | refine axl ?_) | ((with_reducible refine' aoy ?h0 ?_); (case h0 => row_cond le)))
local macro_rules | `(tactic| row_cond sOp1) => `(tactic| first | (with_reducible refine az2 ?_))
local macro_rules | `(tactic| row_cond sOpA) => `(tactic| first | (with_reducible first | refine aun ?_ | refine auo ?_ | refine aup ?_ | refine auq ?_ | refine aur ?_ | refine au2 ?_))
local macro_rules | `(tactic| row_cond sFQ) => `(tactic| first | (with_reducible first | refine av8 ?_ | refine aen ?_ | refine a1k ?_ | refine a1y ?_))
local macro_rules | `(tactic| row_cond sRngA1) => `(tactic| first | ((with_reducible refine' azz ?h0 ?h1 ?_); (case h0 => omega); (case h1 => omega)))
local macro_rules | `(tactic| row_cond sRngA2) => `(tactic| first | ((with_reducible refine' az0 ?h0 ?_); (case h0 => omega)))
local macro_rules | `(tactic| row_cond sRest) => `(tactic| first | (with_reducible first | refine x_bl ?_ | refine x_st ?_ | refine azy ?_) | ((with_reducible refine' a1t ?h0 ?h1 ?_); (case h0 => row_cond hs); (case h1 => row_cond ia)) | ((with_reducible refine' a1u ?h0 ?_); (case h0 => row_cond ia)) | ((with_reducible refine' x_sc ?h0 ?_); (case h0 => exact rfl)) | ((with_reducible refine' a1s ?h0 ?_); (case h0 => row_cond le)) | (with_reducible first | refine ab0 ?_ | refine acg ?_ | refine ai5 ?_ | refine ai6 ?_) | ((with_reducible refine' aix ?h0 ?_); (case h0 => row_cond dc)) | ((with_reducible refine' aiy ?h0 ?_); (case h0 => row_cond dc)) | ((with_reducible refine' at9 ?h0 ?_); (case h0 => row_cond dc)) | ((with_reducible refine' aua ?h0 ?_); (case h0 => row_cond dc)) | ((with_reducible refine' a1v ?h0 ?_); (case h0 => first | exact rfl | row_cond hs)) | ((with_reducible refine' x_rt ?h0 ?_); (case h0 => exact rfl)) | ((with_reducible refine' az8 ?h0 ?h1 ?_); (case h0 => exact rfl); (case h1 => row_cond le); dsimp only [List.set_cons_zero, List.set_cons_succ]) | ((with_reducible refine' aig ?h0 ?h1 ?_); (case h0 => exact rfl); (case h1 => first | exact ixN0 | exact ixN1 | exact ixN2 | assumption); dsimp only [List.set_cons_zero, List.set_cons_succ, reS]) | ((with_reducible refine' az9 ?h0 ?h1 ?_); (case h0 => exact rfl); (case h1 => first | exact ixN0 | exact ixN1 | exact ixN2 | assumption); dsimp only [List.set_cons_zero, List.set_cons_succ, reS]) | (with_reducible first | refine auw ?_) | (with_reducible first | refine a1x ?_) | ((with_reducible refine' axt ?h0 ?h1 ?_); (case h0 => omega); (case h1 => omega)) | ((with_reducible refine' x_ow ?h0 ?_); (case h0 => exact rfl); dsimp only [List.set_cons_zero, List.set_cons_succ]))
local macro_rules | `(tactic| row_cond st) => `(tactic| first | ((with_reducible refine a1z ?_); row_cond sEvS) | ((with_reducible refine a10 ?_); row_cond sEvG) | ((with_reducible refine a0l ?_); row_cond sEvGs) | ((with_reducible refine g_Ev ?_); row_cond sEv) | ((with_reducible refine a11 ?_); row_cond sEvO) | ((with_reducible refine a12 ?_); row_cond sEvT) | ((with_reducible refine a13 ?_); row_cond sEvA) | ((with_reducible refine a14 ?_); row_cond sEvI) | ((with_reducible refine g_EvOp ?_); row_cond sEvOp) | ((with_reducible refine a15 ?_); row_cond sOp2) | ((with_reducible refine a16 ?_); row_cond sOp1) | ((with_reducible refine a17 ?_); row_cond sOpA) | ((with_reducible refine g_FQ ?_); row_cond sFQ) | ((with_reducible refine axw ?_); row_cond sRngA1) | ((with_reducible refine axx ?_); row_cond sRngA2) | row_cond sRest)
local macro_rules | `(tactic| row_cond go) => `(tactic| repeat row_cond st)
local macro_rules | `(tactic| row_cond hnx) => `(tactic| first | assumption | (apply Ne.symm; assumption) | exact aao (by assumption) (by assumption) | exact (aao (by assumption) (by assumption)).symm)
local macro_rules | `(tactic| row_cond hhp) => `(tactic| first | assumption | exact aah | (rw [aae (by row_cond hnx)]; row_cond hhp) | ((refine' Same.at ?ss ?hh); (case ss => assumption); (case hh => row_cond hhp)))
local macro_rules | `(tactic| row_cond hix) => `(tactic| first | assumption | exact at0 | exact at1 | exact at2)
local macro_rules | `(tactic| row_cond hst) => `(tactic| first | (with_reducible first | refine go_seq ?_ | refine go_asg ?_ | refine aof ?_ | refine go_op ?_ | refine go_c ?_ | refine go_I0 ?_ | refine go_U ?_ | refine arv ?_ | refine go_test ?_ | refine go_bl ?_ | refine go_ifS ?_ | refine go_and ?_ | refine go_ret ?_ | refine go_drop ?_ | refine go_next ?_ | refine go_cb ?_ | refine go_cons ?_ | refine aru ?_ | refine go_call ?_ | refine aoi ?_ | refine aoj ?_ | refine aok ?_ | refine go_gsub ?_ | refine go_lstW ?_ | refine go_bmL ?_ | refine go_for ?_ | refine go_lc ?_ | refine go_irng1 ?_ | refine arx ?_ | refine ab0 ?_ | refine acg ?_) | ((with_reducible refine' go_var ?hv ?_); (case hv => exact rfl)) | ((with_reducible refine' afe ?ha ?hv ?_); (case ha => row_cond hhp); (case hv => row_cond hix)) | ((with_reducible refine go_I ?hc ?_); (case hc => row_cond ar)) | ((with_reducible refine' aoh ?ha ?_); (case ha => row_cond hhp)) | ((with_reducible refine' aog ?ha ?hj ?_); (case ha => row_cond hhp); (case hj => first | exact ixN0 | exact ixN1 | exact ixN2)) | ((with_reducible refine' go_tyL ?ha ?_); (case ha => row_cond hhp)) | ((with_reducible refine' adr ?ha ?hl ?_); (case ha => row_cond hhp); (case hl => exact adq (by simp; omega))) | ((with_reducible refine' aix ?hc ?_); (case hc => row_cond dc)) | ((with_reducible refine' aiy ?hc ?_); (case hc => row_cond dc)) | dsimp only [List.set_cons_zero, List.set_cons_succ])
local macro_rules | `(tactic| row_cond hgo) => `(tactic| repeat row_cond hst)
def isInt:PyData->Bool
 | .int _=>true
 | _=>false
def btwD (a b:Int):PyData->Bool
 | .int i=>decide (a<=i/\i<=b)
 | _=>false
def ayi:VP:=fun ss Q=>∃ d,ss=[.st d]/\Q (.st (.bool (isInt d)))
def as7:VP:=fun ss Q=>∃ (a b:Int) (d:PyData),ss=[.st (.int a),.st (.int b),.st d]/\Q (.st (.bool (btwD a b d)))
def ayj:VP:=fun ss Q=>∃ (n:Int) (d:PyData),ss=[.st (.int n),.st d]/\Q (.st (.bool (btwD 0 (n - 1) d)))
section
variable {P:Program} {w:World} {K:Frag} {mg:Str->Option Value} {base:Heap}
theorem sc_is_whole:FnScope ["thing"] ["thing"] (aai s_is_whole):=by row_cond sc
theorem ana (T:Txt K mg):Can P w K mg base "is_whole" 1 ["thing"] (spP K (ayi)):=by
 obtain ⟨f,fd,D⟩:=T.d_is_whole
 refine D.can (D.fn.ok sc_is_whole (fun vs H Q E h=>lenP h fun ss a q=>by obtain ⟨d,rfl,k⟩:=q;rfl) (fun cdv A outer s H vs Q E g h=>?_))
 have nd:=sc_is_whole.nd
 refine ⟨_,(aag (aas (afr (aal afd (by rfl) T.b_isinstance aa7 (aaa (pv 0) (aaa (aex (v:=.ty "int") rfl T.b_int aly rfl) aab))) (ahw (ay2 (aal afd (by rfl) T.b_isinstance aa7 (aaa (pv 0) (aaa (aex (v:=.ty "bool") rfl T.b_bool awx rfl) aab)))))))),?_⟩
 refine abe h fun ss a q B c=>?_
 obtain ⟨d,rfl,k⟩:=q
 show EvS B _ _ [some (.st d)]
 row_cond go
 cases d with
 | int i => refine ab0 ?_; row_cond go; exact k
 | bool b => refine ab0 ?_; row_cond go; exact k
 | _=>refine acg ?_;exact k
theorem sc_is_between:FnScope ["least","most","thing"] ["least","most","thing"] (aai s_is_between):=by row_cond sc
theorem adk (T:Txt K mg):Can P w K mg base "is_between" 2 ["least","most","thing"] (spP K (as7)):=by
 obtain ⟨f,fd,D⟩:=T.d_is_between
 refine D.can (D.fn.ok sc_is_between (fun vs H Q E h=>lenP h fun ss g q=>by obtain ⟨a,b,d,rfl,k⟩:=q;rfl) (fun cdv A outer s H vs Q E j h=>?_))
 have nd:=sc_is_between.nd
 refine ⟨_,(aag (aas (afr (aaf (ana T) j (aaa (pv 2) aab)) (ahw (atm ap0 ap0 (pv 0) (pv 2) (pv 1)))))),?_⟩
 refine abe h fun ss g q B l=>?_
 obtain ⟨a,b,d,rfl,k⟩:=q
 show EvS B _ _ [some (.st (.int a)),some (.st (.int b)),some (.st d)]
 row_cond go
 refine ⟨d,rfl,?_⟩
 row_cond go
 cases d with
 | int i =>
  refine ab0 ?_
  row_cond go
  refine acf (fun c=>?_) (fun c=>?_)
  ·row_cond go
   have e:decide (i<=b)=btwD a b (.int i):=by
    show _=decide (a<=i/\i<=b)
    rw [aH8];simp [c]
   rw [e];exact k
  ·have e:false=btwD a b (.int i):=by
    show _=decide (a<=i/\i<=b)
    exact (aD7 (fun z=>c z.1)).symm
   rw [e];exact k
 | _=>exact acg k
theorem sc_is_place:FnScope ["n","thing"] ["n","thing"] (aai s_is_place):=by row_cond sc
theorem aef (T:Txt K mg):Can P w K mg base "is_place" 3 ["n","thing"] (spP K (ayj)):=by
 obtain ⟨f,fd,D⟩:=T.d_is_place
 refine D.can (D.fn.ok sc_is_place (fun vs H Q E h=>lenP h fun ss a q=>by obtain ⟨n,d,rfl,k⟩:=q;rfl) (fun cdv A outer s H vs Q E b h=>?_))
 have nd:=sc_is_place.nd
 refine ⟨_,(aag (aas (aaf (adk T) b (aaa aad (aaa (aam abx (pv 0) aad) (aaa (pv 1) aab)))))),?_⟩
 refine abe h fun ss a q B c=>?_
 obtain ⟨n,d,rfl,k⟩:=q
 show EvS B _ _ [some (.st (.int n)),some (.st d)]
 row_cond go
 exact ⟨_,_,_,rfl,k⟩
def a0z:VP:=fun ss Q=>∃ (n:Int) (es:List (Int × Int)),ss=[.st (webD n es)]/\0<=n/\n<=100/\InN n es/\es.length<=10000/\∀ tl,TiedL n (Tied es) tl->(∀ us∈tl,us.length<=20000)->Q (.own (OLL (tlD tl)))
theorem sc_tied_places:FnScope ["web","n","ties","tied","a","b"] ["web"] (aai s_tied_places):=by row_cond sc
theorem aet (T:Txt K mg):Can P w K mg base "tied_places" 1 ["web"] (spP K (a0z)):=by
 obtain ⟨f,fd,D⟩:=T.d_tied_places
 refine D.can (D.fn.ok sc_tied_places (fun vs H Q E h=>lenP h fun ss y q=>by obtain ⟨n,es,rfl,G,C,l,r,k⟩:=q;rfl) (fun cdv A outer s H vs Q E L h=>?_))
 have nd:=sc_tied_places.nd
 refine ⟨_,(aac (ab6 (pv 0) (ac6 rfl (aa5 (aan (i:=1) nd rfl (Or.inl rfl)) (aa5 (aan (i:=2) nd rfl (Or.inl rfl)) acq))))
  (aac (afb (i:=3) nd rfl (Or.inl rfl) rfl (N:=["place"]) (src:=[none]) (by exact abp rfl rfl rfl rfl rfl rfl) (abw rfl T.b_range (aaa (pv 1) aab)) (fun _ _ _ _=>(aan (i:=0) (show List.Nodup (["place"]:List Str) by decide +kernel) rfl (Or.inl rfl) (hf:=Or.inr rfl))) (fun _ _ _ _=>acj) (fun _ _ _ _=>(aa3 aab)))
  (aac (ab7 aJ6 rfl (abo (pv 2)) (ac6 rfl (aa5 (aan (i:=4) nd rfl (Or.inl rfl)) (aa5 (aan (i:=5) nd rfl (Or.inl rfl)) acq)))
   (aac (abh (aby PySem.F.plainAttrs_list PySem.F.slot_list_append PySem.F.type_list_append abn (aat aau (pv 3) (pv 4) (fun _ _=>rfl)) (aaa (pv 5) aab)))
    (aag (abh (aby PySem.F.plainAttrs_list PySem.F.slot_list_append PySem.F.type_list_append abn (aat aau (pv 3) (pv 5) (fun _ _=>rfl)) (aaa (pv 4) aab))))))
  (aag (aas (pv 3)))))),?_⟩
 refine abe h fun ss y q B J=>?_
 obtain ⟨n,es,rfl,G,C,l,r,k⟩:=q
 show EvS B _ _ [some (.st (webD n es)),none,none,none,none,none]
 row_cond go
 rw [ack]
 refine ⟨by omega,?_⟩
 row_cond go
 refine acw (fun i e=>∃ t p tl,e=[some (.st (webD n es)),some (.st (.int n)),some (.st (.list (es.map prD))),some (.own (OLL (tlD tl))),t,p]/\TiedL n (Tied (es.take i)) tl/\∀ ws∈tl,ws.length<=2 * i)
  ⟨none,none,List.replicate n.toNat [],by simp [tlD],⟨by simp;omega,fun i ws hi w=>?_⟩,fun ws z=>?_⟩ ?_ ?_
 ·rw [aH7] at hi
  split at hi
  ·cases hi;simp [Tied]
  ·cases hi
 ·have:=List.eq_of_mem_replicate z
  subst this;simp
 ·rintro i ⟨a,b⟩ e x ⟨t,p,tl,rfl,j,g⟩
  have hi:i < es.length:=(aA1.mp x).1
  obtain ⟨a0,a1,b0,b1⟩:=l _ (aA2 x)
  dsimp only at a0 a1 b0 b1
  row_cond go
  obtain ⟨ws,d,_⟩:=j.get a0 a1
  have I:=g ws (aA2 d)
  refine aij (n:=a.toNat) (ds:=ws.map .int) rfl rfl rfl (by rw [aA3];exact ae5 a0 (by rw [j.1];exact a1)) (ajg d) (by rw [aA3];omega) ?_
  dsimp only [List.set_cons_zero,List.set_cons_succ]
  have o:=j.put (q:=b) a0 a1 d
  rw [show ws.map PyData.int ++ [.int b]=(ws ++ [b]).map .int by simp,ao3]
  have c:∀ us∈tl.set a.toNat (ws ++ [b]),us.length<=2 * i+1:=fun us m=>by
   rcases List.mem_or_eq_of_mem_set m with h | h
   ·have:=g us h;omega
   ·subst h;simp;omega
  generalize tl.set a.toNat (ws ++ [b])=tl2 at o c
  row_cond go
  obtain ⟨ws,d,_⟩:=o.get b0 b1
  have I:=c ws (aA2 d)
  refine aij (n:=b.toNat) (ds:=ws.map .int) rfl rfl rfl (by rw [aA3];exact ae5 b0 (by rw [o.1];exact b1)) (ajg d) (by rw [aA3];omega) ?_
  dsimp only [List.set_cons_zero,List.set_cons_succ]
  rw [show ws.map PyData.int ++ [.int a]=(ws ++ [a]).map .int by simp,ao3]
  refine ⟨_,_,_,rfl,(o.put (q:=a) b0 b1 d).iff fun u v=>(Tied.snoc x u v).symm,fun us m=>?_⟩
  rcases List.mem_or_eq_of_mem_set m with h | h
  ·have:=c us h;omega
  ·subst h;simp;omega
 ·rintro e ⟨t,p,tl,rfl,j,g⟩
  rw [aG8] at j
  row_cond go
  exact k tl j fun us m=>by have:=g us m;omega
end
@[reducible] def tlV (tl:List (List Int)):PyData:=.list ((tlD tl).map .list)
def a2c:VP:=fun ss Q=>∃ (n a:Int) (T:Int->Int->Prop) (tl:List (List Int)),ss=[.st (tlV tl),.st (.int a)]/\n<=100/\TiedL n T tl/\(∀ u v,T u v->0<=v/\v < n)/\0<=a/\a < n/\Q (.own (OL (lab n.toNat (Gr.farO T a))))
section
variable {P:Program} {w:World} {K:Frag} {mg:Str->Option Value} {base:Heap}
theorem sc_far_from:FnScope ["tied","start","far","edge","beyond","place","other"] ["tied","start"] (aai s_far_from):=by row_cond sc
theorem aga (T:Txt K mg):Can P w K mg base "far_from" 1 ["tied","start"] (spP K (a2c)):=by
 obtain ⟨f,fd,D⟩:=T.d_far_from
 refine D.can (D.fn.ok sc_far_from (fun vs H Q E h=>lenP h fun ss Q' q=>by obtain ⟨n,a,T,tl,rfl,n1,S,Z,a0,a1,k⟩:=q;rfl) (fun cdv A outer s H vs Q E hr h=>?_))
 have nd:=sc_far_from.nd
 refine ⟨_,(aac (aak (i:=2) nd rfl (Or.inl rfl) (aam arm (aa3 (aaa ac0 aab)) (aal abz (by rfl) T.b_len ac8 (aaa (pv 0) aab))))
  (aac (ab6 aad (aey (pv 2) (pv 1) adc))
  (aac (aak (i:=3) nd rfl (Or.inl rfl) (aa3 (aaa (pv 1) aab)))
  (aac (ag9 aJ6 (azp (pv 3))
   (aac (aak (i:=4) nd rfl (Or.inl rfl) (aa3 aab))
    (aac (ab7 aJ6 rfl (abo (pv 3)) (aan (i:=5) nd rfl (Or.inl rfl))
     (aag (ab7 aJ6 rfl (abo (aat aau (pv 0) (pv 5) (fun _ _=>rfl))) (aan (i:=6) nd rfl (Or.inl rfl))
       (aag (aba (aav ai4 (aat aau (pv 2) (pv 6) (fun _ _=>rfl)) ac0 (aax _))
         (aac (ab6 (aam abb (aat aau (pv 2) (pv 5) (fun _ _=>rfl)) aad) (aey (pv 2) (pv 6) adc))
          (aag (abh (aby PySem.F.plainAttrs_list PySem.F.slot_list_append PySem.F.type_list_append abn (pv 4) (aaa (pv 6) aab)))))
         aa1)))))
    (aag (aak (i:=3) nd rfl (Or.inl rfl) (pv 4))))))
  (aag (aas (pv 2))))))),?_⟩
 refine abe h fun ss Q' q B hK=>?_
 obtain ⟨n,a,T,tl,rfl,n1,S,Z,a0,a1,k⟩:=q
 show EvS B _ _ [some (.st (tlV tl)),some (.st (.int a)),none,none,none,none,none]
 have hl:tl.length=n.toNat:=by have:=S.1;omega
 row_cond go
 refine aoz (by first | omega | (simp;done) | (simp;omega)) (by first | omega | (simp;done) | (simp;omega)) (by first | omega | (simp;done) | (simp;omega)) ?_
 simp only [aA3,hl]
 rw [show ((n.toNat:Nat):Int).toNat=n.toNat by omega,ao4]
 row_cond go
 refine aig (j:=a.toNat) rfl (by rw [ab2];exact ae5 a0 (by omega)) ?_
 dsimp only [List.set_cons_zero,List.set_cons_succ,reS]
 rw [show (PyData.int 0)=.int ((0:Nat):Int) from rfl,agr a0 (by omega)]
 row_cond go
 refine ao1 3 rfl ab1 ?_
 dsimp only [List.set_cons_zero,List.set_cons_succ]
 refine af5 (fun m e=>∃ X z o far edge l,e=[some (.st (tlV tl)),some (.st (.int a)),some (.own (OL (lab n.toNat far))),some (.st (.list (edge.map .int))),X,z,o]/\Gr.Ring T a l far edge/\(∀ v∈edge,0<=v/\v < n)/\m=2 * cnt far n.toNat+(if edge=[] then 0 else 1))
  ⟨_,none,none,none,_,[a],0,rfl,Gr.Ring.start,fun v J=>by simp at J;subst J;exact ⟨a0,a1⟩,rfl⟩ ?_
 rintro m e ⟨X,z,o,far,edge,l,rfl,M,hb,rfl⟩
 row_cond go
 rw [an0]
 cases hedge:edge with
 | nil =>
  subst hedge
  refine acg ?_
  row_cond go
  rw [aj6 (g:=Gr.farO T a) fun v _ _=>M.fin v]
  exact k
 | cons e0 er =>
  refine ab0 ?_
  rw [← hedge]
  have O:edge ≠ []:=by rw [hedge];simp
  row_cond go
  refine acw (fun i e=>∃ z o b beyond,e=[some (.st (tlV tl)),some (.st (.int a)),some (.own (OL (lab n.toNat b))),some (.st (.list (edge.map .int))),some (.own (OL (beyond.map .int))),z,o]/\Gr.Mid T l far edge (fun u=>u∈edge.take i) b beyond/\cnt b n.toNat+beyond.length=cnt far n.toNat/\∀ v∈beyond,0<=v/\v < n)
   ⟨z,o,far,[],rfl,Gr.Mid.start.imp fun u I=>by simp at I,rfl,fun v J=>by simp at J⟩ ?_ ?_
  ·rintro i p e hp ⟨z,o,b,beyond,rfl,t,y,c⟩
   have C:=aA2 hp
   obtain ⟨p0,p1⟩:=hb p C
   obtain ⟨ws,W,Y⟩:=S.get p0 p1
   have a2:atI ((tlD tl).map PyData.list) p=some (.list (ws.map .int)):=ae6 (f:=PyData.list) (afj p0 (ajg W))
   row_cond go
   have R:far p=some l:=(M.lab p l).mpr ⟨(M.edg p).mp C,aA6 _⟩
   refine acw (fun j e=>∃ o b beyond,e=[some (.st (tlV tl)),some (.st (.int a)),some (.own (OL (lab n.toNat b))),some (.st (.list (edge.map .int))),some (.own (OL (beyond.map .int))),some (.st (.int p)),o]/\Gr.Mid T l far edge (fun u=>u∈edge.take i) b beyond/\cnt b n.toNat+beyond.length=cnt far n.toNat/\(∀ v∈beyond,0<=v/\v < n)/\∀ x∈ws.take j,b x ≠ none)
    ⟨o,b,beyond,rfl,t,y,c,fun x G=>by simp at G⟩ ?_ ?_
   ·rintro j u e I ⟨o,b,beyond,rfl,t,y,c,r⟩
    have tu:T p u:=(Y u).mp (aA2 I)
    obtain ⟨L,u1⟩:=Z _ _ tu
    have a4:atI (lab n.toNat b) u=some (oD (b u)):=aik L (by omega)
    have a5:atI (lab n.toNat b) p=some (.int (l:Int)):=by
     rw [aik p0 (by omega),t.old p l R];rfl
    row_cond go
    rw [ao2]
    cases hf:b u with
    | none =>
     refine ab0 ?_
     row_cond go
     refine aig (j:=u.toNat) rfl (by rw [ab2];exact ae5 L (by omega)) ?_
     dsimp only [List.set_cons_zero,List.set_cons_succ,reS]
     rw [show (PyData.int ((l:Int)+1))=.int ((l+1:Nat):Int) by simp,agr L (by omega)]
     have a3:=aj7 (d:=l+1) L hf (n:=n.toNat) (by omega)
     have N:beyond.length<=cnt far n.toNat:=by omega
     have U:∀ m,cnt far m<=m:=fun m=>by
      induction m with
      | zero=>exact aA6 _
      | succ m ih=>unfold cnt;split <;> omega
     have:=U n.toNat
     row_cond go
     refine ⟨some (.st (.int u)),Gr.label b u (l+1),beyond ++ [u],by simp,t.add C tu hf,by simp;omega,fun v J=>?_,fun x G=>?_⟩
     ·rcases aA7.mp J with h | h
      ·exact c v h
      ·have:v=u:=by simpa using h
       subst this;exact ⟨L,u1⟩
     ·by_cases hx2:x=u
      ·subst hx2;rw [Gr.label_same];simp
      ·rw [Gr.label_ne hx2]
       rcases ad1 I G with h | h
       ·exact r x h
       ·exact absurd h hx2
    | some d =>
     refine acg ?_
     row_cond go
     refine ⟨_,b,beyond,rfl,t,y,c,fun x G=>?_⟩
     rcases ad1 I G with h | h
     ·exact r x h
     ·subst h;rw [hf];simp
   ·rintro e ⟨o,b,beyond,rfl,t,y,c,r⟩
    rw [aG8] at r
    refine ⟨_,_,b,beyond,rfl,?_,y,c⟩
    refine (t.did (u:=p) fun x tx=>r x ((Y x).mpr tx)).imp fun x G=>?_
    exact ad1 hp G
  ·rintro e ⟨z,o,b,beyond,rfl,t,y,c⟩
   row_cond go
   refine ⟨_,?_,_,_,_,b,beyond,l+1,rfl,M.next t fun u I=>by rw [aG8];exact I,c,rfl⟩
   rw [aF6 O]
   cases beyond with
   | nil=>rw [aF5 rfl];simp at y;omega
   | cons b0 br=>rw [aF6 (by simp)];simp at y;omega
end
def an6:VP:=fun ss Q=>∃ (n a:Int) (es:List (Int × Int)),ss=[.st (webD n es),.st (.int a)]/\0<=a/\a < n/\Q (.st .none)
def anb:VP:=fun ss Q=>∃ (n a:Int) (es:List (Int × Int)),ss=[.st (webD n es),.st (.int a)]/\n<=100/\InN n es/\es.length<=10000/\0<=a/\a < n/\Q (.own (OL (lab n.toNat (Gr.farO (Tied es) a))))
def avn:VP:=fun ss Q=>∃ (n:Int) (es:List (Int × Int)),ss=[.st (webD n es)]/\1<=n/\n<=100/\InN n es/\es.length<=10000/\∀ b:Bool,(b=true ↔ Joined n es)->Q (.st (.bool b))
section
variable {P:Program} {w:World} {K:Frag} {mg:Str->Option Value} {base:Heap}
theorem sc_need_place:FnScope ["web","thing"] ["web","thing"] (aai s_need_place):=by row_cond sc
theorem ajn (T:Txt K mg):Can P w K mg base "need_place" 4 ["web","thing"] (spP K (an6)):=by
 obtain ⟨f,fd,D⟩:=T.d_need_place
 refine D.can (D.fn.ok sc_need_place (fun vs H Q E h=>lenP h fun ss b q=>by obtain ⟨n,a,es,rfl,a0,a1,k⟩:=q;rfl) (fun cdv A outer s H vs Q E c h=>?_))
 have nd:=sc_need_place.nd
 refine ⟨_,(aag (aba (ac5 (ac1 (aaf (aef T) c (aaa (aat aau (pv 0) aad (fun _ _=>rfl)) (aaa (pv 1) aab)))))
   (aag ad9)
   aa1)),?_⟩
 refine abe h fun ss b q B d=>?_
 obtain ⟨n,a,es,rfl,a0,a1,k⟩:=q
 show EvS B _ _ [some (.st (webD n es)),some (.st (.int a))]
 row_cond go
 refine ⟨_,_,rfl,?_⟩
 row_cond go
 have e:btwD 0 (n - 1) (.int a)=true:=aD8 ⟨a0,by omega⟩
 rw [e]
 row_cond go
 exact k
theorem sc_all_far:FnScope ["web","a"] ["web","a"] (aai s_all_far):=by row_cond sc
theorem an7 (T:Txt K mg):Can P w K mg base "all_far" 5 ["web","a"] (spP K (anb)):=by
 obtain ⟨f,fd,D⟩:=T.d_all_far
 refine D.can (D.fn.ok sc_all_far (fun vs H Q E h=>lenP h fun ss i q=>by obtain ⟨n,a,es,rfl,d,b,c,a0,a1,k⟩:=q;rfl) (fun cdv A outer s H vs Q E g h=>?_))
 have nd:=sc_all_far.nd
 refine ⟨_,(aac (abh (aaf (ajn T) g (aaa (pv 0) (aaa (pv 1) aab))))
  (aag (aas (aaf (aga T) g (aaa (aaf (aet T) g (aaa (pv 0) aab)) (aaa (pv 1) aab)))))),?_⟩
 refine abe h fun ss i q B l=>?_
 obtain ⟨n,a,es,rfl,d,b,c,a0,a1,k⟩:=q
 show EvS B _ _ [some (.st (webD n es)),some (.st (.int a))]
 row_cond go
 refine ⟨n,a,es,rfl,a0,a1,?_⟩
 row_cond go
 refine ⟨n,es,rfl,by omega,d,b,c,fun tl j _=>?_⟩
 refine a0i ?_
 row_cond go
 exact ⟨n,a,Tied es,tl,rfl,d,j,fun u v h=>(h.in b).2,a0,a1,k⟩
theorem sc_is_joined:FnScope ["web"] ["web"] (aai s_is_joined):=by row_cond sc
theorem afp (T:Txt K mg):Can P w K mg base "is_joined" 6 ["web"] (spP K (avn)):=by
 obtain ⟨f,fd,D⟩:=T.d_is_joined
 refine D.can (D.fn.ok sc_is_joined (fun vs H Q E h=>lenP h fun ss i q=>by obtain ⟨n,es,rfl,l,c,a,b,k⟩:=q;rfl) (fun cdv A outer s H vs Q E g h=>?_))
 have nd:=sc_is_joined.nd
 refine ⟨_,(aag (aas (adb (adw g.units) ac0 (aaf (an7 T) g (aaa (pv 0) (aaa aad aab))) rfl))),?_⟩
 refine abe h fun ss i q B m=>?_
 obtain ⟨n,es,rfl,l,c,a,b,k⟩:=q
 show EvS B _ _ [some (.st (webD n es))]
 row_cond go
 refine ⟨n,0,es,rfl,c,a,b,by omega,by omega,?_⟩
 row_cond go
 refine agp rfl aj8 (by simp [PyData.depth]) ?_
 row_cond go
 refine k _ ?_
 rw [aF5 rfl,Bool.not_eq_true',← Bool.not_eq_true,lab_any]
 constructor
 ·intro h v v0 j
  cases e:Gr.farO (Tied es) 0 v with
  | some d=>exact ⟨d,Gr.farO_some.mp e⟩
  | none=>exact absurd ⟨v,v0,by omega,e⟩ h
 ·rintro h ⟨v,v0,j,e⟩
  obtain ⟨d,hd⟩:=h v v0 (by omega)
  exact Gr.farO_none.mp e d hd
end
def dsF (es:List (Int × Int)) (u v:Int):Int:=(((Gr.farO (Tied es) u v).getD 0:Nat):Int)
def rowD (n:Nat) (r:Int->Int):List PyData:=(List.range n).map fun (i:Nat) => .int (r (i:Int))
def matD (n:Nat) (m:Int->Int->Int):List PyData:=(List.range n).map fun (u:Nat) => .list (rowD n (m (u:Int)))
theorem anc {n:Nat} {m:Int->Int->Int} {x:Int} (a:0<=x) (b:x < n):atI (matD n m) x=some (.list (rowD n (m x))):=by
 have:=agi (xs:=matD n m) (j:=x.toNat) (v:=.list (rowD n (m x))) (by
  unfold matD
  rw [aA5,aA0 (by simp;omega)]
  simp [Int.max_eq_left a])
 rwa [show ((x.toNat:Nat):Int)=x by omega] at this
theorem afm {n:Nat} {r:Int->Int}:rowD n r=((List.range n).map fun (i:Nat)=>r (i:Int)).map .int:=by simp [rowD]
theorem aqz {n:Int} {es:List (Int × Int)} (b:Joined n es) {u v:Int} (c:0<=u) (a:u < n) (v0:0<=v) (f:v < n):∃ d,Gr.farO (Tied es) u v=some d:=by
 cases e:Gr.farO (Tied es) u v with
 | some d=>exact ⟨d,rfl⟩
 | none =>
  obtain ⟨k,g⟩:=b.conn u v c a v0 f
  obtain ⟨d,_,hd⟩:=Gr.Dist.of_walk g
  exact absurd hd (Gr.farO_none.mp e d)
theorem ayk {n:Int} {es:List (Int × Int)} (b:Joined n es) {u:Int} (c:0<=u) (a:u < n):lab n.toNat (Gr.farO (Tied es) u)=rowD n.toNat (dsF es u):=by
 unfold lab rowD
 refine aE8 fun i hi=>?_
 obtain ⟨d,e⟩:=aqz b c a (show 0<=(i:Int) by omega) (by have:=aB9.mp hi;omega)
 simp only [dsF,e,oD,Option.getD_some]
theorem aeg {α:Type} {K:Frag} {src:List (Option Nat)} {a:En} {te:TE} {R:List PyData->En->Prop} {xs:List α} {f : α->PyData} (g : α->PyData) (l:noIo (aar src a)=true) (w:xs.length<=999999)
  (h:∀ x∈xs,∀ c:Bs,c.K=K->Ev c te (some (.st (f x)) :: aar src a) fun y m=>y=g x/\m=some (.st (f x)) :: aar src a)
  (t:R (xs.map g) a):LcV K (none :: src) (abc 0) tYes te (xs.map f) a R:=by
 have b:noIo (aar (none :: src) a)=true:=by
  show ((none :: aar src a).all fun s => !isIo s)=true
  rw [List.all_cons]
  exact (aH1 _ _).mpr ⟨rfl,l⟩
 refine ⟨fun i ys e=>ys=(xs.take i).map g/\∃ o,e=stO o :: aar src a,⟨by simp,none,rfl⟩,?_,?_,?_⟩
 ·rintro i ys e ⟨_,o,rfl⟩
  exact ⟨⟨isIo_stO.symm,acy⟩,adx adn⟩
 ·rintro i d ys e hd ⟨rfl,o,rfl⟩ c p
  rw [aA5] at hd
  cases hx:xs[i]? with
  | none=>rw [hx] at hd;cases hd
  | some x =>
   rw [hx] at hd
   cases hd
   have hi:i < xs.length:=(aA1.mp hx).1
   have r:xs.take (i+1)=xs.take i ++ [x]:=by rw [aH4,hx];rfl
   refine aa9 (ae2 ?_)
   rw [aF5 rfl]
   intro σ G H F Q I k
   refine h x (aA2 hx) c p σ G H F Q I fun v G' H' F' d' m u g' q ⟨n,j⟩=>k v G' H' F' d' m u g' q ?_
   subst n j
   refine ⟨by simp;omega,by rw [r];simp,some _,rfl⟩
 ·rintro ys e ⟨rfl,o,rfl⟩
  rw [ago b]
  simpa using t
theorem aeh {ns:List Int} {x y:Int} (h:ad5 ns x) (g:ad5 ns y):x=y:=Int.le_antisymm (g.2 x h.1) (h.2 y g.1)
theorem agy:∀ {ns:List Int},ns ≠ []->∃ x,ad5 ns x
 | [a],_=>⟨a,by simp [ad5]⟩
 | a :: b :: r,_=>by
  obtain ⟨x,d,hm⟩:=agy (ns:=b :: r) (by simp)
  by_cases h:a<=x
  ·exact ⟨x,aB5 _ d,fun y c=>by
    rcases aA9.mp c with rfl | c
    ·exact h
    ·exact hm y c⟩
  ·exact ⟨a,aB8,fun y c=>by
    rcases aA9.mp c with rfl | c
    ·exact Int.le_refl _
    ·have:=hm y c;omega⟩
theorem apr {n:Nat} (b:1<=n) (m:Int->Int->Int):∃ a:Nat->Int,∀ u:Nat,ad5 ((List.range n).map fun (i:Nat)=>m (u:Int) (i:Int)) (a u) :=
 ⟨fun u=>Classical.choose (agy (ns:=(List.range n).map fun (i:Nat)=>m (u:Int) (i:Int)) (by simp;omega)),fun u=>Classical.choose_spec (agy (ns:=(List.range n).map fun (i:Nat)=>m (u:Int) (i:Int)) (by simp;omega))⟩
theorem avo {n:Nat} {r q:Int->Int}:zipD (rowD n r) (rowD n q)=(List.range n).map fun (i:Nat) => .tuple [.int (r (i:Int)),.int (q (i:Int))]:=by
 unfold zipD rowD
 rw [List.zip_map',aE0]
 rfl
def ane:VP:=fun ss Q=>∃ (n:Int) (es:List (Int × Int)),ss=[.st (webD n es)]/\1<=n/\n<=100/\InN n es/\es.length<=10000/\Joined n es/\Q (.st .none)
def as8:VP:=fun ss Q=>∃ (n:Int) (es:List (Int × Int)),ss=[.st (webD n es)]/\1<=n/\n<=100/\InN n es/\es.length<=10000/\Joined n es/\Q (.own (OL (matD n.toNat (dsF es))))
def awk (n:Nat) (m:Int->Int->Int) (x:Int):Prop:=(∃ u v:Int,0<=u/\u < n/\0<=v/\v < n/\m u v=x)/\∀ u v:Int,0<=u->u < n->0<=v->v < n->m u v<=x
def as9:VP:=fun ss Q=>∃ (n:Nat) (m:Int->Int->Int),ss=[.st (.list (matD n m))]/\1<=n/\n<=1000/\∀ x,awk n m x->Q (.st (.int x))
structure FreeAll (n:Int) (es fs:List (Int × Int)):Prop where
 mem:∀ p:Int × Int,p∈fs ↔ (0<=p.1/\p.1 < p.2/\p.2 < n/\p ∉ es)
 rise:Rise fs
section
variable {P:Program} {w:World} {K:Frag} {mg:Str->Option Value} {base:Heap}
theorem sc_need_joined:FnScope ["web"] ["web"] (aai s_need_joined):=by row_cond sc
theorem air (T:Txt K mg):Can P w K mg base "need_joined" 7 ["web"] (spP K (ane)):=by
 obtain ⟨f,fd,D⟩:=T.d_need_joined
 refine D.can (D.fn.ok sc_need_joined (fun vs H Q E h=>lenP h fun ss j q=>by obtain ⟨n,es,rfl,i,g,a,c,d,k⟩:=q;rfl) (fun cdv A outer s H vs Q E l h=>?_))
 have nd:=sc_need_joined.nd
 refine ⟨_,(aag (aba (ac5 (ac1 (aaf (afp T) l (aaa (pv 0) aab))))
   (aag ad9)
   aa1)),?_⟩
 refine abe h fun ss j q B m=>?_
 obtain ⟨n,es,rfl,i,g,a,c,d,k⟩:=q
 show EvS B _ _ [some (.st (webD n es))]
 row_cond go
 refine ⟨n,es,rfl,i,g,a,c,fun b hb=>?_⟩
 have:b=true:=hb.mpr d
 subst this
 row_cond go
 exact k
theorem sc_far_rows:FnScope ["web","tied"] ["web"] (aai s_far_rows):=by row_cond sc
theorem aei (T:Txt K mg):Can P w K mg base "far_rows" 8 ["web"] (spP K (as8)):=by
 obtain ⟨f,fd,D⟩:=T.d_far_rows
 refine D.can (D.fn.ok sc_far_rows (fun vs H Q E h=>lenP h fun ss p q=>by obtain ⟨n,es,rfl,o,c,a,b,g,k⟩:=q;rfl) (fun cdv A outer s H vs Q E l h=>?_))
 have nd:=sc_far_rows.nd
 refine ⟨_,(aac (abh (aaf (air T) l (aaa (pv 0) aab)))
  (aac (aak (i:=1) nd rfl (Or.inr rfl) (aaf (aet T) l (aaa (pv 0) aab)))
  (aag (aas (adl rfl (N:=["place","tied"]) (src:=[none,some 1]) (by exact abp rfl rfl rfl rfl rfl rfl) (abw rfl T.b_range (aaa (aal abz (by rfl) T.b_len ac8 (aaa (pv 1) aab)) aab)) (fun _ _ _ _=>(aan (i:=0) (show List.Nodup (["place","tied"]:List Str) by decide +kernel) rfl (Or.inl rfl) (hf:=Or.inr rfl))) (fun _ _ _ _=>acj) (fun _ _ _ _=>(aaf (aga T) l (aaa (pv 1) (aaa (pv 0) aab))))))))),?_⟩
 refine abe h fun ss p q B x=>?_
 obtain ⟨n,es,rfl,o,c,a,b,g,k⟩:=q
 show EvS B _ _ [some (.st (webD n es)),none]
 row_cond go
 refine ⟨n,es,rfl,o,c,a,b,g,?_⟩
 row_cond go
 refine ⟨n,es,rfl,by omega,c,a,b,fun tl m _=>?_⟩
 refine ab9 ajf ?_
 have t:tl.length=n.toNat:=by have:=m.1;omega
 have d:((tlD tl).map PyData.list).length=n.toNat:=by simp [tlD,t]
 row_cond go
 rw [d,show (((n.toNat:Nat):Int)).toNat=n.toNat by omega]
 unfold rngD
 refine aeg (fun u:Nat => .list (rowD n.toNat (dsF es (u:Int)))) rfl (by simp;omega) (fun u r y z=>?_) ?_
 ·have j:(u:Int) < n:=by have:=aB9.mp r;omega
  row_cond go
  refine ⟨n,0+(u:Int),Tied es,tl,rfl,c,m,fun u v h=>(h.in a).2,by omega,by omega,aen ⟨?_,rfl⟩⟩
  rw [Int.zero_add,ayk g (by omega) j]
 ·row_cond go
  exact k
theorem sc_most_far:FnScope ["rows"] ["rows"] (aai s_most_far):=by row_cond sc
theorem anf (T:Txt K mg):Can P w K mg base "most_far" 1 ["rows"] (spP K (as9)):=by
 obtain ⟨f,fd,D⟩:=T.d_most_far
 refine D.can (D.fn.ok sc_most_far (fun vs H Q E h=>lenP h fun ss g q=>by obtain ⟨n,m,rfl,d,p,k⟩:=q;rfl) (fun cdv A outer s H vs Q E J h=>?_))
 have nd:=sc_most_far.nd
 refine ⟨_,(aag (aas (aal (acx rfl) (by rfl) T.b_max ads (aaa (adl rfl (N:=["row"]) (src:=[none]) (by exact abp rfl rfl rfl rfl rfl rfl) (abo (pv 0)) (fun _ _ _ _=>(aan (i:=0) (show List.Nodup (["row"]:List Str) by decide +kernel) rfl (Or.inl rfl) (hf:=Or.inr rfl))) (fun _ _ _ _=>acj) (fun _ _ _ _=>(aal (show abd _ (.builtin "max") (ah9 K) from (acx rfl)) (by rfl) T.b_max ads (aaa (pv 0) aab)))) aab)))),?_⟩
 refine abe h fun ss g q B z=>?_
 obtain ⟨n,m,rfl,d,p,k⟩:=q
 show EvS B _ _ [some (.st (.list (matD n m)))]
 obtain ⟨b,a⟩:=apr d m
 row_cond go
 unfold matD
 refine aeg (fun u:Nat => .int (b u)) rfl (by simp;omega) (fun u C F I=>?_) ?_
 ·row_cond go
  rw [afm]
  exact adh (by simp;omega) fun x c=>⟨by rw [aeh c (a u)],rfl⟩
 ·row_cond go
  rw [show (List.range n).map (fun u:Nat=>PyData.int (b u))=((List.range n).map b).map .int by rw [aE0];rfl]
  refine adh (by simp;omega) fun x c=>?_
  row_cond go
  refine k x ⟨?_,fun u v L t v0 y=>?_⟩
  ·obtain ⟨i,hi,e⟩:=aB7.mp c.1
   obtain ⟨j,r,l⟩:=aB7.mp (a i).1
   exact ⟨i,j,by omega,by have:=aB9.mp hi;omega,by omega,by have:=aB9.mp r;omega,l.trans e⟩
  ·have o:=(a u.toNat).2 (m ((u.toNat:Nat):Int) ((v.toNat:Nat):Int)) (aB7.mpr ⟨v.toNat,aB9.mpr (by omega),rfl⟩)
   have G:=c.2 (b u.toNat) (aB7.mpr ⟨u.toNat,aB9.mpr (by omega),rfl⟩)
   rw [show ((u.toNat:Nat):Int)=u by omega,show ((v.toNat:Nat):Int)=v by omega] at o
   omega
end
def stD (g c t:Int):List PyData:=[.int g,.int c,.int t]
def a00:VP:=fun ss Q=>∃ (ns:List Int) (k:Int),ss=[.scr ns,.st (.int k)]/\0<=k/\k < 1048576/\∀ c,Q (.st (.int c))
def ayl:VP:=fun ss Q=>∃ c:Int,ss=[.st (.int c)]/\∀ g t u,Q (.own (OL (stD g t u)))
def a01:VIo:=fun A ss Q=>∃ g c t many:Int,A=OL (stD g c t)/\ss=[.st (.int many)]/\0 < many/\many < 1073741824/\∀ r g' c' t':Int,0<=r->r < many->Q (OL (stD g' c' t')) (.st (.int r))
section
variable {P:Program} {w:World} {K:Frag} {mg:Str->Option Value} {base:Heap}
theorem sc_law_cell:FnScope ["script","k"] ["script","k"] (aai s_law_cell):=by row_cond sc
theorem ang (T:Txt K mg):Can P w K mg base "_law_cell" 1 ["script","k"] (spP K (a00)):=by
 obtain ⟨f,fd,D⟩:=T.d_law_cell
 refine D.can (D.fn.ok sc_law_cell (fun vs H Q E h=>lenP h fun ss d q=>by obtain ⟨ns,k,rfl,c,i,a⟩:=q;rfl) (fun cdv A outer s H vs Q E m h=>?_))
 have nd:=sc_law_cell.nd
 refine ⟨_,(aac (aba (aav ae8 (pv 1) (aal abz (by rfl) T.b_len ac8 (aaa (pv 0) aab)) (aax _))
   (aag (aas (aat aau (pv 0) (pv 1) (fun _ _=>rfl))))
   aa1)
  (aag (aas (aam abb (aam abb (aam act (aam act aad (pv 1)) (pv 1)) (aam act aad (pv 1))) aad)))),?_⟩
 refine abe h fun ss d q B l=>?_
 obtain ⟨ns,k,rfl,c,i,a⟩:=q
 show EvS B _ _ [some (.scr ns),some (.st (.int k))]
 row_cond go
 refine acf (fun j=>?_) (fun j=>?_)
 ·have b:k.toNat < ns.length:=by omega
  have g:atI ns k=some ns[k.toNat]:=afj c (aA0 b)
  row_cond go
  exact a _
 ·row_cond go
  exact a _
theorem sc_law_store:FnScope ["cell","great"] ["cell"] (aai s_law_store):=by row_cond sc
theorem ak6 (T:Txt K mg):Can P w K mg base "_law_store" 1 ["cell"] (spP K (ayl)):=by
 obtain ⟨f,fd,D⟩:=T.d_law_store
 refine D.can (D.fn.ok sc_law_store (fun vs H Q E h=>lenP h fun ss a q=>by obtain ⟨c,rfl,k⟩:=q;rfl) (fun cdv A outer s H vs Q E g h=>?_))
 have nd:=sc_law_store.nd
 refine ⟨_,(aac (aak (i:=1) nd rfl (Or.inl rfl) aad)
  (aac (aba (aav a1f (pv 0) (ai3 (n:=1000000000000000000) (by decide) (by refine ⟨by decide,by decide,by decide⟩)) (aax _))
   (aag (aak (i:=1) nd rfl (Or.inl rfl) (pv 0)))
   aa1)
  (aag (aas (aa3 (aaa (pv 1) (aaa (aam aea (pv 0) aad) (aaa aad aab)))))))),?_⟩
 refine abe h fun ss a q B d=>?_
 obtain ⟨c,rfl,k⟩:=q
 show EvS B _ _ [some (.st (.int c)),none]
 row_cond go
 refine acf (fun b=>?_) (fun b=>?_)
 ·row_cond go
  exact k _ _ _
 ·row_cond go
  exact k _ _ _
theorem sc_law_take:FnScope ["store","many","told","one"] ["store","many"] (aai s_law_take):=by row_cond sc
theorem ak7 (T:Txt K mg):Can P w K mg base "_law_take" 1 ["store","many"] (spI K (a01)):=by
 obtain ⟨f,fd,D⟩:=T.d_law_take
 refine D.can (D.fn.ok sc_law_take (fun vs H Q E h=>lenI h fun A ss b q=>by obtain ⟨g,c,t,many,rfl,rfl,a,d,k⟩:=q;rfl) (fun cdv A outer s H vs Q E n h=>?_))
 have nd:=sc_law_take.nd
 refine ⟨_,(aac (aba (aav ae9 (aat aau (pv 0) aad (fun _ _=>rfl)) aad (aax _))
   (aac (aak (i:=2) nd rfl (Or.inl rfl) (aam aea (aat aau (pv 0) aad (fun _ _=>rfl)) (pv 1)))
    (aac (ab6 (aam aez (aat aau (pv 0) aad (fun _ _=>rfl)) (pv 1)) (aey (pv 0) aad adc))
    (aag (aas (pv 2)))))
   aa1)
  (aac (ab6 (aam abb (aat aau (pv 0) aad (fun _ _=>rfl)) aad) (aey (pv 0) aad adc))
  (aac (aak (i:=3) nd rfl (Or.inl rfl) (aam aea (aam act (aam abb (aat aau (pv 0) aad (fun _ _=>rfl)) (aam act aad (aat aau (pv 0) aad (fun _ _=>rfl)))) aad) aad))
  (aac (aak (i:=3) nd rfl (Or.inl rfl) (aam aea (aam act (pv 3) (pv 3)) aad))
  (aac (aak (i:=3) nd rfl (Or.inl rfl) (aam aea (aam act (aam abb (pv 3) (aam act aad (aat aau (pv 0) aad (fun _ _=>rfl)))) aad) aad))
  (aag (aas (aam aea (aam aez (pv 3) aad) (pv 1))))))))),?_⟩
 refine aeo h fun l ss b q B m=>?_
 obtain ⟨g,c,t,many,rfl,rfl,a,d,k⟩:=q
 show EvS B _ _ [some (.io (OL (stD g c t))),some (.st (.int many)),none,none]
 unfold stD at *
 row_cond go
 refine acf (fun j=>?_) (fun j=>?_)
 ·row_cond go
  exact k _ _ _ _ (Int.emod_nonneg _ (by omega)) (Int.emod_lt_of_pos _ a)
 ·row_cond go
  exact k _ _ _ _ (Int.emod_nonneg _ (by omega)) (Int.emod_lt_of_pos _ a)
end
def OSt:Own:=exO fun q:Int × Int × Int=>OL (stD q.1 q.2.1 q.2.2)
theorem aym {K:Frag} {f:VIo} {vs:List V} {H:Hp} {Q:VK} {E:XK} (h:spI K (fun A ss Q=>A=OSt/\∀ g c t,f (OL (stD g c t)) ss fun A' s=>(∃ g c t,A'=OL (stD g c t))/\Q OSt s) vs H Q E):spI K f vs H Q E:=by
 obtain ⟨v0,i,G,R,A,ss,F0,m,rfl,gh,ft,l,ap,fg,fr,a,⟨rfl,hf⟩,b⟩:=h
 obtain ⟨⟨g,c,t⟩,ap⟩:=ap
 refine ⟨v0,i,G,R,OL (stD g c t),ss,F0,_,rfl,gh,ft,l,ap,fg,fr,a,hf g c t,fun A' s j v G' H' F' Fv o=>?_⟩
 obtain ⟨⟨g',d,t',rfl⟩,q⟩:=j
 exact b OSt s q v G' H' F' Fv { o with ap:=⟨(g',d,t'),o.ap⟩ }
theorem avp {P:Program} {w:World} {K:Frag} {mg:Str->Option Value} {base:Heap} {x:Str} {k:Nat} {ps:List Str} {sp a:Sp} (c:Can P w K mg base x k ps sp) (h:∀ vs H Q E,a vs H Q E->sp vs H Q E):Can P w K mg base x k ps a:=by
 obtain ⟨f,fd,ok,m,kp,b⟩:=c
 exact ⟨f,fd,ok.imp h,m,kp,b⟩
def ayn:VIo:=fun A ss Q=>∃ many:Int,A=OSt/\ss=[.st (.int many)]/\0 < many/\many < 1073741824/\∀ r:Int,0<=r->r < many->Q OSt (.st (.int r))
theorem ayo {K:Frag} {f b:VIo} {vs:List V} {H:Hp} {Q:VK} {E:XK} (hf:∀ A ss a,f A ss a->b A ss a) (h:spI K f vs H Q E):spI K b vs H Q E:=by
 obtain ⟨v0,c,G,R,A,ss,F0,a,rfl,gh,ft,i,ap,fg,fr,g,q,d⟩:=h
 exact ⟨v0,c,G,R,A,ss,F0,a,rfl,gh,ft,i,ap,fg,fr,g,hf _ _ _ q,d⟩
theorem avq {B:Bs} {t:TS} {D':VEnds} {env:En} {g c u:Int} (i:Nat) (e:env[i]?=some (some (.own (OL (stD g c u))))) (q:EvS B t D' (env.set i (some (.own OSt)))):EvS B t D' env:=fun σ G H F D I r=>q σ G H F D (I.weakO e fun _ _ _ _ h=>⟨(g,c,u),h⟩) r
section
variable {P:Program} {w:World} {K:Frag} {mg:Str->Option Value} {base:Heap}
theorem aaj (T:Txt K mg):Can P w K mg base "_law_take" 1 ["store","many"] (spI K (ayn)) :=
 avp (ak7 T) fun vs H Q E h=>aym (ayo (fun A ss j q=>by
  obtain ⟨many,rfl,rfl,d,f,k⟩:=q
  exact ⟨rfl,fun g c t=>⟨g,c,t,many,rfl,rfl,d,f,fun r g' i t' b a=>⟨⟨g',i,t',rfl⟩,k r b a⟩⟩⟩) h)
end
structure TreeT (n:Int) (ps:List (Int × Int)):Prop where
 len:(ps.length:Int)=n - 1
 at':∀ (i:Nat) p,ps[i]?=some p->0<=p.1/\p.1 < p.2/\p.2=(i:Int)+1
def ayp:VIo:=fun A ss Q=>∃ n kind:Int,A=OSt/\ss=[.st (.int n),.st (.int kind)]/\1<=n/\n<=60/\0<=kind/\kind < 4/\∀ ps,TreeT n ps->Q OSt (.own (OL (ps.map prD)))
section
variable {P:Program} {w:World} {K:Frag} {mg:Str->Option Value} {base:Heap}
theorem sc_law_tree_ties:FnScope ["store","n","kind","ties","b","a"] ["store","n","kind"] (aai s_law_tree_ties):=by row_cond sc
theorem ag3 (T:Txt K mg):Can P w K mg base "_law_tree_ties" 2 ["store","n","kind"] (spI K (ayp)):=by
 obtain ⟨f,fd,D⟩:=T.d_law_tree_ties
 refine D.can (D.fn.ok sc_law_tree_ties (fun vs H Q E h=>lenI h fun A ss I q=>by obtain ⟨n,kind,rfl,rfl,R,O,k0,k1,k⟩:=q;rfl) (fun cdv A outer s H vs Q E z h=>?_))
 have nd:=sc_law_tree_ties.nd
 refine ⟨_,(aac (aak (i:=3) nd rfl (Or.inl rfl) (aa3 aab))
  (aac (ab7 aJ6 rfl (aft rfl T.b_range (aaa aad (aaa (pv 1) aab))) (aan (i:=4) nd rfl (Or.inl rfl))
   (aac (aak (i:=5) nd rfl (Or.inl rfl) (aat aau (aa3 (aaa (aaf (aaj T) z (aaa (pv 0) (aaa (pv 4) aab))) (aaa (aam abx (aam abx (pv 4) aad) (aaf (aaj T) z (aaa (pv 0) (aaa (aal (acr rfl) (by rfl) T.b_min ae0 (aaa (pv 4) (aaa aad aab))) aab)))) (aaa (aaf (aaj T) z (aaa (pv 0) (aaa (aal (acr rfl) (by rfl) T.b_min ae0 (aaa (pv 4) (aaa aad aab))) aab))) (aaa (aam abx (pv 4) aad) aab))))) (pv 2) (fun _ _=>rfl)))
    (aag (abh (aby PySem.F.plainAttrs_list PySem.F.slot_list_append PySem.F.type_list_append abn (pv 3) (aaa (aa6 (aaa (pv 5) (aaa (pv 4) aab))) aab))))))
  (aag (aas (pv 3))))),?_⟩
 refine aeo h fun U ss I q B W=>?_
 obtain ⟨n,kind,rfl,rfl,R,O,k0,k1,k⟩:=q
 show EvS B _ _ [some (.io OSt),some (.st (.int n)),some (.st (.int kind)),none,none,none]
 row_cond go
 refine adg (fun i e=>∃ y l ps,e=[some (.io OSt),some (.st (.int n)),some (.st (.int kind)),some (.own (OL (List.map prD ps))),y,l]/\ps.length=i/\∀ (j:Nat) p,ps[j]?=some p->0<=p.1/\p.1 < p.2/\p.2=(j:Int)+1) ⟨_,_,[],rfl,rfl,fun j p h=>by simp at h⟩ ?_ ?_
 ·rintro i e hi ⟨y,l,ps,rfl,b,a⟩
  have M:1+(i:Int) < n:=by omega
  row_cond go
  refine ⟨1+(i:Int),rfl,rfl,by omega,by omega,fun C d m=>?_⟩
  row_cond go
  refine ⟨_,rfl,rfl,by split <;> omega,by split <;> omega,fun G L v=>?_⟩
  have S:G < 1+(i:Int):=by split at v <;> omega
  row_cond go
  refine ⟨_,rfl,rfl,by split <;> omega,by split <;> omega,fun g t r=>?_⟩
  have o:g < 1+(i:Int):=by split at r <;> omega
  obtain ⟨x,X,J,N⟩:∃ x:Int,atI [PyData.int C,PyData.int (1+(i:Int) - 1 - G),PyData.int g,PyData.int (1+(i:Int) - 1)] kind=some (.int x)/\0<=x/\x < 1+(i:Int):=by
   rcases (show kind=0\/kind=1\/kind=2\/kind=3 by omega) with rfl | rfl | rfl | rfl
   ·exact ⟨C,rfl,d,m⟩
   ·exact ⟨_,rfl,by omega,by omega⟩
   ·exact ⟨g,rfl,t,o⟩
   ·exact ⟨_,rfl,by omega,by omega⟩
  row_cond go
  refine ⟨_,_,ps ++ [(x,1+(i:Int))],by rw [aE5];rfl,by rw [aB1,b];rfl,fun j p c=>?_⟩
  by_cases hj:j < ps.length
  ·rw [aC3 hj] at c
   exact a j p c
  ·have u:=(aA1.mp c).1
   simp at u
   have:j=ps.length:=by omega
   subst this
   rw [aC8 (aA6 _),aI6] at c
   cases c
   exact ⟨J,N,by simp only;omega⟩
 ·rintro e ⟨y,l,ps,rfl,b,a⟩
  row_cond go
  exact k ps ⟨by omega,a⟩
end
theorem akm {α β:Type} (f : α->β):∀ (l:List α) (k:Nat),(l.map f).eraseIdx k=(l.eraseIdx k).map f
 | [],_=>rfl
 | _ :: _,0=>rfl
 | a :: l,k+1=>by simp [akm f l k]
theorem a02 {j:Int} {n:Nat} (b:0<=j) (a:j < n):seqIndex? j n=some j.toNat:=by unfold seqIndex?;simp;omega
theorem a03 {left:List Int} {k:Nat} {y:Int} (a:left[k]?=some y):(left.map PyData.int)[k]?=some (.int y):=by rw [aA5,a];rfl
theorem a04 (row:List Int) (p:Int × Int):PyData.tuple [.int (if aa4 row p.2 < aa4 row p.1 then aa4 row p.2 else aa4 row p.1),.int (if aa4 row p.2 > aa4 row p.1 then aa4 row p.2 else aa4 row p.1)]=prD (reP row p):=by
 unfold reP prD
 split <;> split <;> first | rfl | omega | (simp only [PyData.tuple.injEq,List.cons.injEq,PyData.int.injEq,and_true];omega)
def ayq:VIo:=fun A ss Q=>∃ (n:Int) (ps:List (Int × Int)),A=OSt/\ss=[.st (.int n),.st (.list (ps.map prD))]/\1<=n/\n<=60/\InN n ps/\ps.length<=2000 /\
 ∀ (row:List Int) (qs:List (Int × Int)),Order n row->qs.Nodup->(∀ x,x∈qs ↔ x∈ps.map (reP row))->lexS (qs.map p2)->Q OSt (.own (OL (qs.map prD)))
section
variable {P:Program} {w:World} {K:Frag} {mg:Str->Option Value} {base:Heap}
theorem sc_law_renumbered:FnScope ["store","n","ties","left","numbers","found","a","b"] ["store","n","ties"] (aai s_law_renumbered):=by row_cond sc
theorem acp (T:Txt K mg):Can P w K mg base "_law_renumbered" 2 ["store","n","ties"] (spI K (ayq)):=by
 obtain ⟨f,fd,D⟩:=T.d_law_renumbered
 refine D.can (D.fn.ok sc_law_renumbered (fun vs H Q E h=>lenI h fun A ss I q=>by obtain ⟨n,ps,rfl,rfl,R,O,g,u,k⟩:=q;rfl) (fun cdv A outer s H vs Q E C h=>?_))
 have nd:=sc_law_renumbered.nd
 refine ⟨_,(aac (aak (i:=3) nd rfl (Or.inr rfl) (au0 rfl T.b_list rfl T.b_range rfl (aaa (pv 1) aab)))
  (aac (afb (i:=4) nd rfl (Or.inl rfl) rfl (N:=["k","left","store"]) (src:=[none,some 3,some 0]) (by exact abp rfl rfl rfl rfl rfl rfl) (abw rfl T.b_range (aaa (pv 1) aab)) (fun _ _ _ _=>(aan (i:=0) (show List.Nodup (["k","left","store"]:List Str) by decide +kernel) rfl (Or.inl rfl) (hf:=Or.inr rfl))) (fun _ _ _ _=>acj) (fun _ _ _ _=>(show PE _ _ (tBM K "list" ah0 _ _) from (aby PySem.F.plainAttrs_list PySem.F.slot_list_pop PySem.F.type_list_pop atq (pv 1) (aaa (aaf (aaj T) C (aaa (pv 2) (aaa (aal (show abd _ (.builtin "len") (rLen K) from abz) (by rfl) T.b_len ac8 (aaa (pv 1) aab)) aab))) aab)))))
  (aac (aak (i:=5) nd rfl (Or.inl rfl) (aa3 aab))
  (aac (ab7 aJ6 rfl (abo (pv 2)) (ac6 rfl (aa5 (aan (i:=6) nd rfl (Or.inl rfl)) (aa5 (aan (i:=7) nd rfl (Or.inl rfl)) acq)))
   (aag (abh (aby PySem.F.plainAttrs_list PySem.F.slot_list_append PySem.F.type_list_append abn (pv 5) (aaa (aa6 (aaa (aal (acr rfl) (by rfl) T.b_min ae0 (aaa (aat aau (pv 4) (pv 6) (fun _ _=>rfl)) (aaa (aat aau (pv 4) (pv 7) (fun _ _=>rfl)) aab))) (aaa (aal (ah4 rfl) (by rfl) T.b_max ads (aaa (aat aau (pv 4) (pv 6) (fun _ _=>rfl)) (aaa (aat aau (pv 4) (pv 7) (fun _ _=>rfl)) aab))) aab))) aab)))))
  (aag (aas (aal (an5 rfl) (by rfl) T.b_sorted adt (aaa (adp (call_setT rfl C.units) (by rfl) T.b_set azk (aaa (pv 5) aab)) aab)))))))),?_⟩
 refine aeo h fun S ss I q B U=>?_
 obtain ⟨n,ps,rfl,rfl,R,O,g,u,k⟩:=q
 show EvS B _ _ [some (.io OSt),some (.st (.int n)),some (.st (.list (ps.map prD))),none,none,none,none,none]
 row_cond go
 refine ⟨fun j ys e=>∃ (o:Option PyData) (row left:List Int),e=[stO o,some (.io (OL (left.map .int))),some (.io OSt)]/\ys=row.map .int/\row.length=j/\Order n (row ++ left),⟨none,[],(List.range n.toNat).map fun (i:Nat)=>(i:Int),by rw [← axy];rfl,rfl,rfl,Order.id n⟩,?_,?_,?_⟩
 ·rintro i ys e ⟨o,row,left,rfl,J,c,b⟩
  exact ⟨⟨isIo_stO.symm,acy⟩,⟨rfl,rfl⟩,⟨rfl,rfl⟩,True.intro⟩
 ·rintro i d ys e hd ⟨o,row,left,rfl,rfl,c,b⟩ M Y
  obtain ⟨hi,rfl⟩:=afg hd
  have l:left.length=n.toNat - i:=by have:=b.len;simp at this;omega
  refine aa9 (ae2 ?_)
  rw [aF5 rfl]
  show Ev M _ [some (.st (.int (0+(i:Int)))),some (.io (OL (left.map .int))),some (.io OSt)] _
  row_cond go
  rw [aA3]
  refine ⟨(left.length:Int),rfl,rfl,by omega,by omega,fun r L v=>?_⟩
  obtain ⟨y,x⟩:∃ y,left[r.toNat]?=some y:=⟨_,aA0 (show r.toNat < left.length by omega)⟩
  refine ⟨_,left.map .int,r,r.toNat,.int y,rfl,rfl,.inr rfl,by omega,by omega,a02 L (by rw [aA3];exact v),a03 x,by rw [aA3];omega,some (.int (0+(i:Int))),row ++ [y],left.eraseIdx r.toNat,?_,by rw [aE5];rfl,by rw [aB1,c];rfl,aqi b x⟩
  rw [akm]
  rfl
 ·rintro ys e ⟨o,row,left,rfl,rfl,c,b⟩
  have l:left=[]:=by rw [ack] at c;have:=b.len;simp at this;exact List.length_eq_zero_iff.mp (by omega)
  subst l
  rw [aE9] at b
  show EvG B (abc 4) (.own (OL (row.map .int))) [some (.io OSt),some (.st (.int n)),some (.st (.list (ps.map prD))),some (.own (OL [])),none,none,none,none] _
  refine ab9 ab1 ?_
  row_cond go
  refine acw (fun i e=>∃ t m,e=[some (.io OSt),some (.st (.int n)),some (.st (.list (ps.map prD))),some (.own (OL [])),some (.st (.list (row.map .int))),some (.own (OL (((ps.take i).map (reP row)).map prD))),t,m]) ⟨_,_,rfl⟩ ?_ ?_
  ·rintro i p e z ⟨t,m,rfl⟩
   have W:=g p (aA2 z)
   have v:=ae6 (f:=PyData.int) (b.atI (a:=p.1) (by omega) (by omega))
   have X:=ae6 (f:=PyData.int) (b.atI (a:=p.2) (by omega) (by omega))
   row_cond go
   refine ⟨by simp;omega,some (.st (.int p.1)),some (.st (.int p.2)),?_⟩
   rw [a04,← List.map_singleton (f:=prD),← aE5,← List.map_singleton (f:=reP row),← aE5,show ps.take i ++ [p]=ps.take (i+1) by rw [aH4,z];rfl]
  ·rintro e ⟨t,m,rfl⟩
   rw [aG8]
   row_cond go
   refine aqq ?_
   row_cond go
   refine ⟨ps.map (reP row),rfl,by rw [aA3];omega,fun G nd hm hs=>?_⟩
   exact ⟨_,rfl,k row G b nd hm hs⟩
end
structure TreeW (n:Int) (es:List (Int × Int)):Prop where
 web:WebOk n es
 len:(es.length:Int)=n - 1
 conn:Conn n (Tied es)
theorem TreeT.inn {n:Int} {ps:List (Int × Int)} (h:TreeT n ps):InN n ps:=fun p a=>by
 obtain ⟨i,hi⟩:=aD3 a
 have b:=h.at' i p hi
 have c:=(aA1.mp hi).1
 have:=h.len
 omega
theorem TreeT.ps {n:Int} {ps:List (Int × Int)} (h:TreeT n ps):PsOk n ps:=by
 refine ⟨?_,fun p c=>?_⟩
 ·refine aG7.mpr fun i j hi f b e=>?_
  have a:=(h.at' i _ (aA0 hi)).2.2
  have d:=(h.at' j _ (aA0 f)).2.2
  rw [e] at a
  omega
 ·obtain ⟨i,hi⟩:=aD3 c
  have a:=h.at' i p hi
  have d:=(aA1.mp hi).1
  have:=h.len
  omega
theorem TreeT.conn {n:Int} {ps:List (Int × Int)} (h:TreeT n ps):Conn n (Tied ps):=Tr.conn fun k k1 k2=>by
 have a:(k - 1).toNat < ps.length:=by have:=h.len;omega
 have b:=h.at' (k - 1).toNat _ (aA0 a)
 refine ⟨ps[(k - 1).toNat].1,b.1,by omega,?_⟩
 have:(ps[(k - 1).toNat].1,k)=ps[(k - 1).toNat]:=Prod.ext rfl (by simp only;omega)
 rw [this]
 exact aF1 a
theorem TreeW.of {n:Int} {ps a:List (Int × Int)} (g:1<=n) (c:n<=60) (h:PsOk n ps) (d:(ps.length:Int)=n - 1) (f:Conn n (Tied ps)) (b:a.Perm ps) (hs:lexS (a.map p2)):TreeW n a :=
 ⟨au7 g c h b hs,by rw [b.length_eq];exact d,f.mono fun u v t=>(Tied.perm b).mpr t⟩
theorem ayr {n:Int} {row:List Int} {ps a:List (Int × Int)} (h:PsOk n ps) (b:Order n row) (nd:a.Nodup) (hm:∀ x,x∈a ↔ x∈ps.map (reP row)):a.Perm (ps.map (reP row)):=(List.perm_ext_iff_of_nodup nd (h.re b).nd).mpr hm
def a05:VIo:=fun A ss Q=>A=OSt/\ss=[]/\∀ (n:Int) (es:List (Int × Int)),TreeW n es->Q OSt (.st (webD n es))
section
variable {P:Program} {w:World} {K:Frag} {mg:Str->Option Value} {base:Heap}
theorem sc_law_tree:FnScope ["store","n","ties"] ["store"] (aai s_law_tree):=by row_cond sc
theorem anh (T:Txt K mg):Can P w K mg base "_law_tree" 3 ["store"] (spI K (a05)):=by
 obtain ⟨f,fd,D⟩:=T.d_law_tree
 refine D.can (D.fn.ok sc_law_tree (fun vs H Q E h=>lenI h fun A ss F q=>by obtain ⟨rfl,rfl,k⟩:=q;rfl) (fun cdv A outer s H vs Q E b h=>?_))
 have nd:=sc_law_tree.nd
 refine ⟨_,(aac (aak (i:=1) nd rfl (Or.inl rfl) (aat aau (aa3 (aaa (aam abb aad (aaf (aaj T) b (aaa (pv 0) (aaa aad aab)))) (aaa (aam abb aad (aaf (aaj T) b (aaa (pv 0) (aaa aad aab)))) (aaa (aam abb aad (aaf (aaj T) b (aaa (pv 0) (aaa aad aab)))) aab)))) (aaf (aaj T) b (aaa (pv 0) (aaa aad aab))) (fun _ _=>rfl)))
  (aac (aak (i:=2) nd rfl (Or.inl rfl) (aaf (ag3 T) b (aaa (pv 0) (aaa (pv 1) (aaa (aaf (aaj T) b (aaa (pv 0) (aaa aad aab))) aab)))))
  (aac (aba (aav ae9 (aaf (aaj T) b (aaa (pv 0) (aaa aad aab))) aad (aax _))
   (aag (aak (i:=2) nd rfl (Or.inl rfl) (aaf (acp T) b (aaa (pv 0) (aaa (pv 1) (aaa (pv 2) aab))))))
   aa1)
  (aag (aas (aa6 (aaa (pv 1) (aaa (aal aff (by rfl) T.b_sorted adt (aaa (pv 2) aab)) aab)))))))),?_⟩
 refine aeo h fun X ss F q B Y=>?_
 obtain ⟨rfl,rfl,k⟩:=q
 show EvS B _ _ [some (.io OSt),none,none]
 row_cond go
 refine ⟨6,rfl,rfl,by omega,by omega,fun C u G=>?_⟩
 row_cond go
 refine ⟨16,rfl,rfl,by omega,by omega,fun U M S=>?_⟩
 row_cond go
 refine ⟨60,rfl,rfl,by omega,by omega,fun x R O=>?_⟩
 row_cond go
 refine ⟨3,rfl,rfl,by omega,by omega,fun j W I=>?_⟩
 obtain ⟨n,hn,g,d⟩:∃ n:Int,atI [PyData.int (1+C),PyData.int (1+U),PyData.int (1+x)] j=some (.int n)/\1<=n/\n<=60:=by
  rcases (show j=0\/j=1\/j=2 by omega) with rfl | rfl | rfl <;> exact ⟨_,rfl,by omega,by omega⟩
 row_cond go
 refine ⟨4,rfl,rfl,by omega,by omega,fun L o t=>?_⟩
 row_cond go
 refine ⟨n,L,rfl,rfl,g,d,o,t,fun ps a=>ab9 ab1 ?_⟩
 have m:=a.inn
 have N:ps.length<=60:=by have:=a.len;omega
 row_cond go
 refine ⟨3,rfl,rfl,by omega,by omega,fun Z y z=>?_⟩
 row_cond go
 refine acf (fun h=>?_) (fun h=>?_)
 ·row_cond go
  refine ⟨n,ps,rfl,rfl,g,d,m,by omega,fun row v l nd hm hs=>ab9 ab1 ?_⟩
  row_cond go
  refine aer (ps:=v) ?_
  row_cond go
  intro c p r
  row_cond go
  have J:=ayr a.ps l nd hm
  exact k n c (TreeW.of g d (a.ps.re l) (by rw [aA3];exact a.len) (a.conn.re l) (p.trans J) r)
 ·row_cond go
  refine aer (ps:=ps) ?_
  row_cond go
  intro c p r
  row_cond go
  exact k n c (TreeW.of g d a.ps a.len a.conn p r)
end
structure JWeb (n:Int) (es:List (Int × Int)):Prop where
 lo:1<=n
 hi:n<=60
 ps:PsOk n es
 conn:Conn n (Tied es)
theorem JWeb.inn {n:Int} {es:List (Int × Int)} (h:JWeb n es):InN n es:=fun p a=>by
 have:=h.ps.inn p a
 omega
theorem JWeb.len {n:Int} {es:List (Int × Int)} (h:JWeb n es):es.length<=3600:=by
 have c:=h.lo
 have:=aeq (n:=n.toNat) h.ps.nd fun p b=>by have:=h.ps.inn p b;omega
 have a:n.toNat<=60:=by have:=h.hi;omega
 exact aD0 this (Nat.mul_le_mul a a)
theorem TreeW.jweb {n:Int} {es:List (Int × Int)} (h:TreeW n es):JWeb n es:=⟨h.web.lo,h.web.hi,h.web.ps,h.conn⟩
theorem JWeb.re {n:Int} {row:List Int} {ps a:List (Int × Int)} (f:1<=n) (h:n<=60) (g:∀ p∈ps,0<=p.1/\p.1 < p.2/\p.2 < n) (i:Conn n (Tied ps)) (c:Order n row) (nd:a.Nodup) (hm:∀ x,x∈a ↔ x∈ps.map (reP row)):JWeb n a:=by
 refine ⟨f,h,⟨nd,fun q d=>?_⟩,(i.re c).mono fun u v t=>?_⟩
 ·obtain ⟨p,b,rfl⟩:=aB7.mp ((hm q).mp d)
  have:PsOk n [p]:=⟨by simp,fun r j=>by rw [aC2.mp j];exact g p b⟩
  exact (this.re c).inn (reP row p) (by simp)
 ·rcases t with t | t
  ·exact .inl ((hm _).mpr t)
  ·exact .inr ((hm _).mpr t)
theorem JWeb.add {n a b:Int} {es f:List (Int × Int)} (h:JWeb n es) (g:0<=a) (i:a < b) (j:b < n) (hn:(a,b) ∉ es) (d:f.Perm (es ++ [(a,b)])):JWeb n f:=by
 refine ⟨h.lo,h.hi,⟨d.nodup_iff.mpr ?_,fun q c=>?_⟩,h.conn.mono fun u v t=>?_⟩
 ·rw [aE7]
  exact ⟨h.ps.nd,by simp,fun x m y l=>by rw [aC2.mp l];rintro rfl;exact hn m⟩
 ·rcases aA7.mp (d.mem_iff.mp c) with c | c
  ·exact h.ps.inn q c
  ·rw [aC2.mp c];exact ⟨g,i,j⟩
 ·rcases t with t | t
  ·exact .inl (d.mem_iff.mpr (aA7.mpr (.inl t)))
  ·exact .inr (d.mem_iff.mpr (aA7.mpr (.inl t)))
def ata:VIo:=fun A ss Q=>A=OSt/\ss=[]/\∀ (n:Int) (es:List (Int × Int)),JWeb n es->Q OSt (.st (webD n es))
structure CrT (m b:Int) (ps:List (Int × Int)):Prop where
 inn:∀ p∈ps,0<=p.1/\p.1 < p.2/\p.2 < b
 tr:∀ k,1<=k->k < m->∃ h,0<=h/\h < k/\(h,k)∈ps
theorem CrT.add {m:Int} {ps:List (Int × Int)} {x:Int} (h:CrT m m ps) (g:0<=x) (f:x < m):CrT (m+1) (m+1) (ps ++ [(x,m)]):=by
 refine ⟨fun p d=>?_,fun k k0 k1=>?_⟩
 ·rcases aA7.mp d with d | d
  ·have:=h.inn p d;omega
  ·rw [aC2.mp d];exact ⟨g,f,by simp only;omega⟩
 ·by_cases hk:k < m
  ·obtain ⟨y,a,b,c⟩:=h.tr k k0 hk
   exact ⟨y,a,b,aA7.mpr (.inl c)⟩
  ·obtain rfl:k=m:=by omega
   exact ⟨x,g,f,aA7.mpr (.inr (aC2.mpr rfl))⟩
structure CrR (c:Int) (i:Nat) (ps:List (Int × Int)):Prop where
 inn:∀ p∈ps,0<=p.1/\p.1 < p.2/\p.2 < c
 has:∀ a b:Int,0<=a->a < i->a < b->b < c->(a,b)∈ps
theorem CrR.fin {c:Int} {ps:List (Int × Int)} (h:CrR c c.toNat ps):CrT c c ps:=⟨h.inn,fun k k0 k1=>⟨0,by omega,by omega,h.has 0 k (by omega) (by omega) (by omega) k1⟩⟩
theorem CrR.row {c:Int} {i:Nat} {ps:List (Int × Int)} (h:CrR c i ps):CrR c (i+1) (ps ++ (List.range (c - ((i:Int)+1)).toNat).map fun u:Nat=>((i:Int),(i:Int)+1+(u:Int))):=by
 refine ⟨fun p d=>?_,fun a b a0 a1 ab b1=>?_⟩
 ·rcases aA7.mp d with d | d
  ·exact h.inn p d
  ·obtain ⟨u,f,rfl⟩:=aB7.mp d
   have:=aB9.mp f
   exact ⟨by simp only;omega,by simp only;omega,by simp only;omega⟩
 ·by_cases ha:a < i
  ·exact aA7.mpr (.inl (h.has a b a0 ha ab b1))
  ·obtain rfl:a=(i:Int):=by omega
   exact aA7.mpr (.inr (aB7.mpr ⟨(b - (i:Int) - 1).toNat,aB9.mpr (by omega),by simp only [Prod.mk.injEq,true_and];omega⟩))
section
variable {P:Program} {w:World} {K:Frag} {mg:Str->Option Value} {base:Heap}
theorem sc_law_crowd:FnScope ["store","crowd","n","kind","ties","a","b"] ["store"] (aai s_law_crowd):=by row_cond sc
theorem ak8 (T:Txt K mg):Can P w K mg base "_law_crowd" 3 ["store"] (spI K (ata)):=by
 obtain ⟨f,fd,D⟩:=T.d_law_crowd
 refine D.can (D.fn.ok sc_law_crowd (fun vs H Q E h=>lenI h fun A ss W q=>by obtain ⟨rfl,rfl,k⟩:=q;rfl) (fun cdv A outer s H vs Q E n h=>?_))
 have nd:=sc_law_crowd.nd
 refine ⟨_,(aac (aak (i:=1) nd rfl (Or.inl rfl) (aam abb aad (aaf (aaj T) n (aaa (pv 0) (aaa aad aab)))))
  (aac (aak (i:=2) nd rfl (Or.inl rfl) (aam abb (pv 1) (aaf (aaj T) n (aaa (pv 0) (aaa aad aab)))))
  (aac (aak (i:=3) nd rfl (Or.inl rfl) (aaf (aaj T) n (aaa (pv 0) (aaa aad aab))))
  (aac (aak (i:=4) nd rfl (Or.inl rfl) (aa3 aab))
  (aac (ab7 aJ6 rfl (abw rfl T.b_range (aaa (pv 1) aab)) (aan (i:=5) nd rfl (Or.inr rfl))
   (aag (abh (aby PySem.F.plainAttrs_list PySem.F.slot_list_extend PySem.F.type_list_extend arl (pv 4) (aaa (adl rfl (N:=["b","a"]) (src:=[none,some 5]) (by exact abp rfl rfl rfl rfl rfl rfl) (aft rfl T.b_range (aaa (aam abb (pv 5) aad) (aaa (pv 1) aab))) (fun _ _ _ _=>(aan (i:=0) (show List.Nodup (["b","a"]:List Str) by decide +kernel) rfl (Or.inl rfl) (hf:=Or.inr rfl))) (fun _ _ _ _=>acj) (fun _ _ _ _=>(aa6 (aaa (pv 1) (aaa (pv 0) aab))))) aab)))))
  (aac (ab7 aJ6 rfl (aft rfl T.b_range (aaa (pv 1) (aaa (pv 2) aab))) (aan (i:=6) nd rfl (Or.inl rfl))
   (aag (abh (aby PySem.F.plainAttrs_list PySem.F.slot_list_append PySem.F.type_list_append abn (pv 4) (aaa (aa6 (aaa (aat aau (aa3 (aaa (aam abx (pv 6) aad) (aaa (aaf (aaj T) n (aaa (pv 0) (aaa (pv 6) aab))) (aaa (aam abx (aam abx (pv 6) aad) (aaf (aaj T) n (aaa (pv 0) (aaa aad aab)))) aab)))) (pv 3) (fun _ _=>rfl)) (aaa (pv 6) aab))) aab)))))
  (aag (aas (aa6 (aaa (pv 2) (aaa (aaf (acp T) n (aaa (pv 0) (aaa (pv 2) (aaa (pv 4) aab)))) aab))))))))))),?_⟩
 refine aeo h fun A0 ss W q B hK=>?_
 obtain ⟨rfl,rfl,k⟩:=q
 show EvS B _ _ [some (.io OSt),none,none,none,none,none,none]
 row_cond go
 refine ⟨7,rfl,rfl,by omega,by omega,fun C S G=>?_⟩
 row_cond go
 refine ⟨33,rfl,rfl,by omega,by omega,fun o Y L=>?_⟩
 row_cond go
 refine ⟨3,rfl,rfl,by omega,by omega,fun m O X=>?_⟩
 obtain ⟨c,Z,c0,c1⟩:∃ c:Int,16+C=c/\16<=c/\c<=22:=⟨_,rfl,by omega,by omega⟩
 rw [Z]
 row_cond go
 refine adg (fun i e=>∃ g l ps,e=[some (.io OSt),some (.st (.int c)),some (.st (.int (c+o))),some (.st (.int m)),some (.own (OL (List.map prD ps))),g,l]/\CrR c i ps/\ps.length<=22 * i) ⟨_,_,[],rfl,⟨(fun p v=>(aI3 v).elim),fun a b a0 a1=>by omega⟩,by simp⟩ ?_ ?_
 ·rintro i e hi ⟨g,l,ps,rfl,d,t⟩
  row_cond go
  unfold rngD
  refine aeg (fun u:Nat=>prD ((i:Int),(i:Int)+1+(u:Int))) rfl (by simp;omega) (fun u hu B' hB=>?_) ?_
  ·row_cond go
   rw [Int.zero_add]
   exact ⟨rfl,rfl⟩
  ·refine ⟨_,_,rfl,rfl,by simp;omega,?_⟩
   dsimp only [List.set_cons_zero,List.set_cons_succ]
   rw [Int.zero_add]
   exact ⟨_,_,ps ++ (List.range (c - ((i:Int)+1)).toNat).map fun u:Nat=>((i:Int),(i:Int)+1+(u:Int)),by rw [aE5,aE0];rfl,d.row,by simp;omega⟩
 ·rintro e ⟨g,l,ps,rfl,d,t⟩
  have d:=d.fin
  row_cond go
  refine adg (fun j e=>∃ g l ps,e=[some (.io OSt),some (.st (.int c)),some (.st (.int (c+o))),some (.st (.int m)),some (.own (OL (List.map prD ps))),g,l]/\CrT (c+j) (c+j) ps/\ps.length<=484+j) ⟨_,_,ps,rfl,by simpa using d,by omega⟩ ?_ ?_
  ·rintro j e hj ⟨g,l,ps,rfl,d,t⟩
   row_cond go
   refine ⟨c+(j:Int),rfl,rfl,by omega,by omega,fun U y r=>?_⟩
   row_cond go
   refine ⟨3,rfl,rfl,by omega,by omega,fun R a2 I=>?_⟩
   obtain ⟨x,hx,J,M⟩:∃ x:Int,atI [PyData.int (c+(j:Int) - 1),PyData.int U,PyData.int (c+(j:Int) - 1 - R)] m=some (.int x)/\0<=x/\x < c+(j:Int):=by
    rcases (show m=0\/m=1\/m=2 by omega) with rfl | rfl | rfl
    ·exact ⟨_,rfl,by omega,by omega⟩
    ·exact ⟨_,rfl,y,r⟩
    ·exact ⟨_,rfl,by omega,by omega⟩
   row_cond go
   refine ⟨_,_,ps ++ [(x,c+(j:Int))],by rw [aE5];rfl,?_,by simp;omega⟩
   rw [show c+((j+1:Nat):Int)=c+(j:Int)+1 by push_cast;omega]
   exact d.add J M
  ·rintro e ⟨g,l,ps,rfl,d,t⟩
   rw [show c+(((c+o - c).toNat:Nat):Int)=c+o by omega] at d
   row_cond go
   refine ⟨c+o,ps,rfl,rfl,by omega,by omega,fun p v=>by have:=d.inn p v;omega,by omega,fun row qs z nd hm hs=>aen ?_⟩
   row_cond go
   exact k _ _ (JWeb.re (by omega) (by omega) d.inn (Tr.conn d.tr) z nd hm)
end
def aeu (n:Int):List (Int × Int):=(List.range (n - 1).toNat).map (fun u:Nat=>((u:Int),(u:Int)+1)) ++ [(0,n - 1)]
theorem atb (n:Int):(List.range (n - 1).toNat).map (fun u:Nat=>prD ((u:Int),(u:Int)+1)) ++ [PyData.tuple [.int 0,.int (n - 1)]]=(aeu n).map prD:=by
 unfold aeu
 rw [aE5,aE0]
 rfl
theorem atc (n:Int):(aeu n).length<=(n - 1).toNat+1:=by unfold aeu;simp
theorem akn {n:Int} (h:2<=n):∀ p∈aeu n,0<=p.1/\p.1 < p.2/\p.2 < n:=fun p a=>by
 unfold aeu at a
 rcases aA7.mp a with a | a
 ·obtain ⟨u,b,rfl⟩:=aB7.mp a
  have:=aB9.mp b
  exact ⟨by simp only;omega,by simp only;omega,by simp only;omega⟩
 ·cases aC2.mp a
  exact ⟨by simp only;omega,by simp only;omega,by simp only;omega⟩
theorem aq0 (n:Int):Conn n (Tied (aeu n)):=Tr.conn fun k k0 k1=>⟨k - 1,by omega,by omega,aA7.mpr (.inl (aB7.mpr ⟨(k - 1).toNat,aB9.mpr (by omega),by simp only [Prod.mk.injEq];omega⟩))⟩
theorem ays (fs:List (Int × Int)) (a b:Int):fs.map prD ++ [.tuple [.int a,.int b]]=(fs ++ [(a,b)]).map prD:=by simp [prD]
section
variable {P:Program} {w:World} {K:Frag} {mg:Str->Option Value} {base:Heap}
theorem sc_law_web:FnScope ["store","n","ties","many","k","a","b"] ["store"] (aai s_law_web):=by row_cond sc
theorem an8 (T:Txt K mg):Can P w K mg base "_law_web" 4 ["store"] (spI K (ata)):=by
 obtain ⟨f,fd,D⟩:=T.d_law_web
 refine D.can (D.fn.ok sc_law_web (fun vs H Q E h=>lenI h fun A ss I q=>by obtain ⟨rfl,rfl,k⟩:=q;rfl) (fun cdv A outer s H vs Q E d h=>?_))
 have nd:=sc_law_web.nd
 refine ⟨_,(aac (aba (aav agg (aaf (aaj T) d (aaa (pv 0) (aaa aad aab))) aad (aax _))
   (aag (aas (aaf (ak8 T) d (aaa (pv 0) aab))))
   aa1)
  (aac (ab6 (aaf (anh T) d (aaa (pv 0) aab)) (ac6 rfl (aa5 (aan (i:=1) nd rfl (Or.inl rfl)) (aa5 (aan (i:=2) nd rfl (Or.inl rfl)) acq))))
  (aac (aba (PW.pt (ahv (aav agg (aaf (aaj T) d (aaa (pv 0) (aaa aad aab))) aad (aax _)) (agd (aav ae9 (pv 1) aad (aax _)))))
   (aag (aak (i:=2) nd rfl (Or.inl rfl) (aaf (acp T) d (aaa (pv 0) (aaa (pv 1) (aaa (aam afw (adl rfl (N:=["k"]) (src:=[none]) (by exact abp rfl rfl rfl rfl rfl rfl) (abw rfl T.b_range (aaa (aam abx (pv 1) aad) aab)) (fun _ _ _ _=>(aan (i:=0) (show List.Nodup (["k"]:List Str) by decide +kernel) rfl (Or.inl rfl) (hf:=Or.inr rfl))) (fun _ _ _ _=>acj) (fun _ _ _ _=>(aa6 (aaa (pv 0) (aaa (aam abb (pv 0) aad) aab))))) (aa3 (aaa (aa6 (aaa aad (aaa (aam abx (pv 1) aad) aab))) aab))) aab))))))
   aa1)
  (aac (aak (i:=3) nd rfl (Or.inl rfl) (aat aau (aa3 (aaa aad (aaa (aaf (aaj T) d (aaa (pv 0) (aaa aad aab))) (aaa (aaf (aaj T) d (aaa (pv 0) (aaa aad aab))) (aaa (aaf (aaj T) d (aaa (pv 0) (aaa aad aab))) aab))))) (aaf (aaj T) d (aaa (pv 0) (aaa aad aab))) (fun _ _=>rfl)))
  (aac (ab7 aJ6 rfl (abw rfl T.b_range (aaa (aam act (pv 3) (adp ah5 (by rfl) T.b_int aly (aaa (adb ae9 (pv 1) aad (aax _)) aab))) aab)) (aan (i:=4) nd rfl (Or.inl rfl))
   (aac (aak (i:=5) nd rfl (Or.inl rfl) (aaf (aaj T) d (aaa (pv 0) (aaa (aam abx (pv 1) aad) aab))))
    (aac (aak (i:=6) nd rfl (Or.inl rfl) (aam abb (aam abb (pv 5) aad) (aaf (aaj T) d (aaa (pv 0) (aaa (aam abx (aam abx (pv 1) aad) (pv 5)) aab)))))
    (aag (aba (aav (adw d.units) (aa6 (aaa (pv 5) (aaa (pv 6) aab))) (pv 2) rfl)
     (aag (aak (i:=2) nd rfl (Or.inl rfl) (aal aff (by rfl) T.b_sorted adt (aaa (aam afw (pv 2) (aa3 (aaa (aa6 (aaa (pv 5) (aaa (pv 6) aab))) aab))) aab))))
     aa1)))))
  (aag (aas (aa6 (aaa (pv 1) (aaa (pv 2) aab)))))))))),?_⟩
 refine aeo h fun A0 ss I q B hK=>?_
 obtain ⟨rfl,rfl,k⟩:=q
 show EvS B _ _ [some (.io OSt),none,none,none,none,none,none]
 row_cond go
 refine ⟨8,rfl,rfl,by omega,by omega,fun r0 Z a5=>?_⟩
 row_cond go
 refine acf (fun h=>?_) (fun h=>?_)
 ·row_cond go
  refine ⟨rfl,rfl,fun n es c=>?_⟩
  row_cond go
  exact k n es c
 refine amj ?_
 row_cond go
 refine ⟨rfl,rfl,fun n es v=>?_⟩
 have c:=v.jweb
 clear v
 iterate 7 row_cond st
 refine amm (fun c_ a6=>?_)
 refine au8 (fun e=>∃ es:List (Int × Int),e=[some (.io OSt),some (.st (.int n)),some (.st (.list (es.map prD))),none,none,none,none]/\JWeb n es) ?_ ?_
 ·row_cond go
  refine ⟨6,rfl,rfl,by omega,by omega,fun r1 Y z=>?_⟩
  row_cond go
  refine acf (fun h=>?_) (fun h=>?_)
  ·row_cond go
   refine acf (fun h=>?_) (fun h=>?_)
   ·have n1:=c.hi
    row_cond go
    unfold rngD
    refine aeg (fun u:Nat=>prD ((u:Int),(u:Int)+1)) rfl (by simp;omega) (fun u L B' hB=>?_) ?_
    ·have O:(u:Int) < n - 1:=by have:=aB9.mp L;omega
     row_cond go
     exact ⟨by rw [Int.zero_add],rfl⟩
    ·row_cond go
     refine aoy (by simp;omega) (aen ?_)
     row_cond go
     rw [atb]
     refine ⟨n,aeu n,rfl,rfl,by omega,by omega,fun p t=>by have:=akn (n:=n) (by omega) p t;omega,by have:=atc n;omega,fun row r x nd hm hs=>ab9 ab1 ?_⟩
     row_cond go
     exact ⟨r,rfl,JWeb.re (by omega) (by omega) (akn (by omega)) (aq0 n) x nd hm⟩
   ·row_cond go
    exact ⟨es,rfl,c⟩
  ·row_cond go
   exact ⟨es,rfl,c⟩
 ·clear c es
  rintro e ⟨es,rfl,c⟩
  have n1:=c.hi
  row_cond go
  refine ⟨3,rfl,rfl,by omega,by omega,fun X a3 C=>?_⟩
  row_cond go
  refine ⟨12,rfl,rfl,by omega,by omega,fun r3 a4 W=>?_⟩
  row_cond go
  refine ⟨60,rfl,rfl,by omega,by omega,fun G a7 U=>?_⟩
  row_cond go
  refine ⟨4,rfl,rfl,by omega,by omega,fun g J M=>?_⟩
  obtain ⟨y,hy,F,S⟩:∃ y:Int,atI [PyData.int 0,PyData.int X,PyData.int r3,PyData.int G] g=some (.int y)/\0<=y/\y < 60:=by
   rcases (show g=0\/g=1\/g=2\/g=3 by omega) with rfl | rfl | rfl | rfl <;> exact ⟨_,rfl,by omega,by omega⟩
  obtain ⟨m,hm,m0,m1,R⟩:∃ m:Int,(y * if decide (1 < n)=true then 1 else 0)=m/\0<=m/\m < 60/\(0 < m->1 < n):=by
   by_cases h:1 < n
   ·rw [aD8 h];exact ⟨y,by simp,F,S,fun _=>h⟩
   ·rw [aD7 h];exact ⟨0,by simp,by omega,by omega,fun h=>by omega⟩
  row_cond go
  rw [hm]
  row_cond go
  refine adg (fun i e=>∃ l j o es,e=[some (.io OSt),some (.st (.int n)),some (.st (.list (es.map prD))),some (.st (.int y)),l,j,o]/\JWeb n es) ⟨_,_,_,es,rfl,c⟩ ?_ ?_
  ·clear c es
   rintro i e hi ⟨l,j,o,es,rfl,c⟩
   have hn:=R (by omega)
   have a2:=c.len
   row_cond go
   refine ⟨n - 1,rfl,rfl,by omega,by omega,fun a a0 a1=>?_⟩
   row_cond go
   refine ⟨n - 1 - a,rfl,rfl,by omega,by omega,fun b b0 b1=>?_⟩
   row_cond go
   refine agp (akb (_,_)) (afk es) (aD0 (af6 (_,_)) (by decide)) ?_
   row_cond go
   rw [aF5 rfl,show PyData.tuple [PyData.int a,PyData.int (a+1+b)]=prD (a,a+1+b) from rfl,ao9]
   by_cases hm:(a,a+1+b)∈es
   ·rw [aD8 hm]
    row_cond go
    exact ⟨_,_,_,es,rfl,c⟩
   ·rw [aD7 hm]
    row_cond go
    refine aer (ps:=es ++ [(a,a+1+b)]) ?_
    row_cond go
    rw [ays]
    refine ⟨rfl,fun r t hs=>ab9 ab1 ?_⟩
    row_cond go
    exact ⟨_,_,_,r,rfl,c.add a0 (by omega) (by omega) hm t⟩
  ·rintro e ⟨l,j,o,es,rfl,c⟩
   row_cond go
   exact k n es c
end
def kM (M:List (Int × List Int)):List (Int × List PyData):=M.map fun p=>(p.1,p.2.map .int)
structure KT (T:Int->Int->Prop) (M:List (Int × List Int)):Prop where
 nd:(M.map (·.1)).Nodup
 iff:∀ k w,T k w ↔ ∃ ws,(k,ws)∈M/\w∈ws
theorem a06 {M:List (Int × List Int)} {n:Nat} {k:Int} {ds:List PyData} (h:(kM M)[n]?=some (k,ds)):∃ ws,M[n]?=some (k,ws)/\ds=ws.map .int:=by
 unfold kM at h
 rw [aA5] at h
 cases e:M[n]? with
 | none=>rw [e] at h;cases h
 | some p =>
  rw [e] at h
  obtain ⟨a,b⟩:=p
  cases h
  exact ⟨b,rfl,rfl⟩
theorem atd {M:List (Int × List Int)} {n:Nat} {k y:Int} {ws:List Int}:(kM M).set n (k,ws.map .int ++ [.int y])=kM (M.set n (k,ws ++ [y])):=by
 unfold kM
 rw [List.map_set]
 simp
theorem aps {M:List (Int × List Int)} {k y:Int}:kM M ++ [(k,[.int y])]=kM (M ++ [(k,[y])]):=by simp [kM]
theorem KT.set {T T':Int->Int->Prop} {M:List (Int × List Int)} {n:Nat} {k y:Int} {ws:List Int} (h:KT T M) (hn:M[n]?=some (k,ws)) (g:∀ u v,T' u v ↔ T u v\/(u=k/\v=y)):KT T' (M.set n (k,ws ++ [y])):=by
 have hm:=aA2 hn
 obtain ⟨d,f⟩:=aA1.mp hn
 refine ⟨?_,fun u v=>?_⟩
 ·rw [List.map_set,show (k,ws ++ [y]).1=(M.map (·.1))[n]'(by simpa using d) by simp [f],List.set_getElem_self]
  exact h.nd
 rw [g,h.iff]
 constructor
 ·rintro (⟨us,c,a⟩ | ⟨rfl,rfl⟩)
  ·obtain ⟨j,i,b⟩:=aH6.mp c
   by_cases e:j=n
   ·subst e
    rw [f] at b
    cases b
    exact ⟨ws ++ [y],aH6.mpr ⟨j,by simpa using d,by simp⟩,aA7.mpr (.inl a)⟩
   ·exact ⟨us,aH6.mpr ⟨j,by simpa using i,by rw [List.getElem_set_ne (Ne.symm e)];exact b⟩,a⟩
  ·exact ⟨ws ++ [v],aH6.mpr ⟨n,by simpa using d,by simp⟩,aA7.mpr (.inr (aC2.mpr rfl))⟩
 ·rintro ⟨us,c,a⟩
  rcases List.mem_or_eq_of_mem_set c with q | q
  ·exact .inl ⟨us,q,a⟩
  ·cases q
   rcases aA7.mp a with a | a
   ·exact .inl ⟨ws,hm,a⟩
   ·exact .inr ⟨rfl,aC2.mp a⟩
theorem KT.snoc {T T':Int->Int->Prop} {M:List (Int × List Int)} {k y:Int} (h:KT T M) (hn:∀ p∈kM M,p.1 ≠ k) (g:∀ u v,T' u v ↔ T u v\/(u=k/\v=y)):KT T' (M ++ [(k,[y])]):=by
 refine ⟨?_,fun u v=>?_⟩
 ·rw [aE5,aE7]
  refine ⟨h.nd,by simp,fun a ha b hb e=>?_⟩
  obtain ⟨p,i,rfl⟩:=aB7.mp ha
  have f:b=k:=by simpa using hb
  exact hn (p.1,p.2.map .int) (aB7.mpr ⟨p,i,rfl⟩) (by rw [← f];exact e)
 rw [g,h.iff]
 constructor
 ·rintro (⟨us,d,c⟩ | ⟨rfl,rfl⟩)
  ·exact ⟨us,aA7.mpr (.inl d),c⟩
  ·exact ⟨_,aA7.mpr (.inr (aC2.mpr rfl)),aC2.mpr rfl⟩
 ·rintro ⟨us,d,c⟩
  rcases aA7.mp d with q | q
  ·exact .inl ⟨us,q,c⟩
  ·cases aC2.mp q
   exact .inr ⟨rfl,aC2.mp c⟩
theorem KT.one {T:Int->Int->Prop} {M:List (Int × List Int)} (h:KT T M) {k:Int} {us ws:List Int} (f:(k,us)∈M) (g:(k,ws)∈M):us=ws:=by
 obtain ⟨i,hi,b⟩:=aH6.mp f
 obtain ⟨j,d,a⟩:=aH6.mp g
 have c:=aG7.mp h.nd
 by_cases e:i=j
 ·subst e
  rw [b] at a
  cases a
  rfl
 ·exfalso
  rcases (show i < j\/j < i by omega) with q | q
  ·exact c i j (by simpa using hi) (by simpa using d) q (by simp [b,a])
  ·exact c j i (by simpa using d) (by simpa using hi) q (by simp [b,a])
theorem KT.look {T:Int->Int->Prop} {M:List (Int × List Int)} (h:KT T M) (k:Int):∃ ws:List Int,aes (kM M) k=ws.map .int/\∀ w,w∈ws ↔ T k w:=by
 unfold aes
 cases hf:(kM M).find? fun p=>decide (p.1=k) with
 | none =>
  refine ⟨[],rfl,fun w=>⟨fun a=>(aI3 a).elim,fun a=>?_⟩⟩
  obtain ⟨ws,b,d⟩:=(h.iff k w).mp a
  exact absurd (aD8 rfl) (List.find?_eq_none.mp hf (k,ws.map .int) (aB7.mpr ⟨_,b,rfl⟩))
 | some q =>
  have f:q.1=k:=by have:=List.find?_some hf;simpa using this
  obtain ⟨⟨g,ws⟩,c,e⟩:=aB7.mp (List.mem_of_find?_eq_some hf)
  subst e
  dsimp only at f
  subst f
  refine ⟨ws,rfl,fun w=>⟨fun a=>(h.iff _ w).mpr ⟨ws,c,a⟩,fun a=>?_⟩⟩
  obtain ⟨us,b,d⟩:=(h.iff _ w).mp a
  rw [h.one c b]
  exact d
structure KTB (T:Int->Int->Prop) (M:List (Int × List Int)) (m:Nat):Prop extends KT T M where
 lenM:M.length<=m
 lenW:∀ p∈kM M,p.2.length<=m
theorem a07 (M:List (Int × List Int)):(kM M).length=M.length:=by simp [kM]
theorem KTB.set {T T':Int->Int->Prop} {M:List (Int × List Int)} {m n:Nat} {k y:Int} {ws:List Int} (h:KTB T M m) (hn:M[n]?=some (k,ws)) (b:∀ u v,T' u v ↔ T u v\/(u=k/\v=y)):KTB T' (M.set n (k,ws ++ [y])) (m+1):=by
 refine ⟨h.toKT.set hn b,by rw [List.length_set];have:=h.lenM;omega,fun p a=>?_⟩
 rw [← atd] at a
 rcases List.mem_or_eq_of_mem_set a with q | q
 ·have:=h.lenW p q;omega
 ·subst q
  have:=h.lenW (k,ws.map .int) (aB7.mpr ⟨_,aA2 hn,rfl⟩)
  simp at this ⊢
  exact this
theorem KTB.snoc {T T':Int->Int->Prop} {M:List (Int × List Int)} {m:Nat} {k y:Int} (h:KTB T M m) (hn:∀ p∈kM M,p.1 ≠ k) (b:∀ u v,T' u v ↔ T u v\/(u=k/\v=y)):KTB T' (M ++ [(k,[y])]) (m+1):=by
 refine ⟨h.toKT.snoc hn b,by have:=h.lenM;simp;omega,fun p a=>?_⟩
 rw [← aps] at a
 rcases aA7.mp a with q | q
 ·have:=h.lenW p q;omega
 ·cases aC2.mp q
  simp
theorem ais {B:Bs} {env:En} {b:PyData->En->Prop} {K:Frag} {T T':Int->Int->Prop} {M:List (Int × List Int)} {m i l j:Nat} {x y:Int} (a:KTB T M m) (hm:m<=900000) (e:env[i]?=some (some (.own (OKL (kM M))))) (r:env[l]?=some (some (.st (.int x)))) (f:env[j]?=some (some (.st (.int y)))) (c:∀ u v,T' u v ↔ T u v\/(u=x/\v=y))
  (q:∀ d,KTB T' d (m+1)->b .none (env.set i (some (.own (OKL (kM d)))))):Ev B (tBM K "list" ade (aqr (tVar i) (tVar l) (tLst tNil)) (aa2 (tVar j) tNil)) env b :=
 aqs e r f (by rw [a07];have:=a.lenM;omega) (fun p o=>by have:=a.lenW p o;omega) (fun n ds h=>by
  obtain ⟨ws,g,rfl⟩:=a06 h
  rw [atd]
  exact q _ (a.set g c)) (fun h=>by rw [aps];exact q _ (a.snoc h c))
theorem ahp {n:Int} {line:List Int} (nd:line.Nodup) (h:∀ v∈line,0<=v/\v < n):line.length<=n.toNat * n.toNat:=by
 have:=aeq (n:=n.toNat) (es:=line.map fun v=>(v,(0:Int))) (aG1.mpr (nd.imp fun a e=>a (by simpa using e))) fun p b=>by
  obtain ⟨v,c,rfl⟩:=aB7.mp b
  have:=h v c
  simp only
  omega
 simpa using this
theorem awl {n:Int} (h:n<=100):n.toNat * n.toNat<=10000:=Nat.mul_le_mul (show n.toNat<=100 by omega) (show n.toNat<=100 by omega)
structure FarL (far:Int->Option Nat) (line:List Int) (ds:List Nat):Prop where
 at':∀ (i:Nat) v d,line[i]?=some v->ds[i]?=some d->far v=some d
 no:∀ v,v ∉ line->far v=none
theorem FarL.start (a:Int):FarL (Gr.label (fun _=>none) a 0) [a] [0]:=⟨fun i v d b c=>by
 cases i with
 | zero=>simp at b c;subst b c;exact Gr.label_same
 | succ i=>simp at b,fun v f=>by rw [Gr.label_ne (by simpa using f)]⟩
theorem FarL.add {far:Int->Option Nat} {line:List Int} {ds:List Nat} {w:Int} {d:Nat} (h:FarL far line ds) (j:ds.length=line.length) (l:w ∉ line):FarL (Gr.label far w d) (line ++ [w]) (ds ++ [d]):=by
 refine ⟨fun i v e a b=>?_,fun v g=>?_⟩
 ·by_cases hi:i < line.length
  ·rw [aC3 hi] at a
   rw [aC3 (by omega)] at b
   have f:v ≠ w:=fun e=>l (e ▸ aA2 a)
   rw [Gr.label_ne f]
   exact h.at' i v e a b
  ·have c:=(aA1.mp a).1
   simp at c
   have:i=line.length:=by omega
   subst this
   rw [aC8 (aA6 _),aI6] at a
   rw [← j,aC8 (aA6 _),aI6] at b
   cases a
   cases b
   exact Gr.label_same
 ·have a:v ∉ line:=fun q=>g (aA7.mpr (.inl q))
  have b:v ≠ w:=fun q=>g (aA7.mpr (.inr (aC2.mpr q)))
  rw [Gr.label_ne b]
  exact h.no v a
theorem FarL.fin {T:Int->Int->Prop} {a:Int} {far:Int->Option Nat} {line:List Int} {ds:List Nat} (h:FarL far line ds) (b:Gr.Bfs T a line ds line.length) (v:Int):far v=Gr.farO T a v:=by
 by_cases hv:v∈line
 ·obtain ⟨i,hi⟩:=aD3 hv
  have c:=(aA1.mp hi).1
  obtain ⟨d,hd⟩:∃ d,ds[i]?=some d:=⟨_,aA0 (by rw [b.len];exact c)⟩
  rw [h.at' i v d hi hd,Gr.farO_some.mpr (b.dist i v d hi hd)]
 ·rw [h.no v hv]
  cases e:Gr.farO T a v with
  | none=>rfl
  | some d =>
   exact absurd (b.fin d v (Gr.farO_some.mp e).1) hv
section
variable {P:Program} {w:World} {K:Frag} {mg:Str->Option Value} {base:Heap}
theorem sc_law_far_from:FnScope ["web","a","beside","one","other","found","line","at","place"] ["web","a"] (aai s_law_far_from):=by row_cond sc
theorem ahq (T:Txt K mg):Can P w K mg base "_law_far_from" 2 ["web","a"] (spP K (anb)):=by
 obtain ⟨f,fd,D⟩:=T.d_law_far_from
 refine D.can (D.fn.ok sc_law_far_from (fun vs H Q E h=>lenP h fun ss Q' q=>by obtain ⟨n,a,es,rfl,n1,W,a9,a0,a1,k⟩:=q;rfl) (fun cdv A outer s H vs Q E hr h=>?_))
 have nd:=sc_law_far_from.nd
 refine ⟨_,(aac (aak (i:=2) nd rfl (Or.inl rfl) alv)
  (aac (ab7 aJ6 rfl (abo (aat aau (pv 0) aad (fun _ _=>rfl))) (ac6 rfl (aa5 (aan (i:=3) nd rfl (Or.inl rfl)) (aa5 (aan (i:=4) nd rfl (Or.inl rfl)) acq)))
   (aac (abh (aby PySem.F.plainAttrs_list PySem.F.slot_list_append PySem.F.type_list_append abn (apj (pv 2) (pv 3) (aa3 aab) ⟨rfl,rfl,rfl,rfl⟩) (aaa (pv 4) aab)))
    (aag (abh (aby PySem.F.plainAttrs_list PySem.F.slot_list_append PySem.F.type_list_append abn (apj (pv 2) (pv 4) (aa3 aab) ⟨rfl,rfl,rfl,rfl⟩) (aaa (pv 3) aab))))))
  (aac (aak (i:=5) nd rfl (Or.inl rfl) (aam arm (aa3 (aaa ac0 aab)) (aat aau (pv 0) aad (fun _ _=>rfl))))
  (aac (aak (i:=6) nd rfl (Or.inl rfl) (aa3 (aaa (pv 1) aab)))
  (aac (ab6 aad (aey (pv 5) (pv 1) adc))
  (aac (aak (i:=7) nd rfl (Or.inl rfl) aad)
  (aac (ag9 aJ6 (aav ae8 (pv 7) (aal abz (by rfl) T.b_len ac8 (aaa (pv 6) aab)) (aax _))
   (aac (aak (i:=8) nd rfl (Or.inl rfl) (aat aau (pv 6) (pv 7) (fun _ _=>rfl)))
    (aac (aak (i:=7) nd rfl (Or.inl rfl) (aam abb (pv 7) aad))
    (aag (ab7 aJ6 rfl (abo (ats (a1i hr) (pv 2) (pv 8) (aa3 aab) ⟨rfl,rfl,rfl,rfl⟩)) (aan (i:=4) nd rfl (Or.inl rfl))
     (aag (aba (aav ai4 (aat aau (pv 5) (pv 4) (fun _ _=>rfl)) ac0 (aax _))
       (aac (ab6 (aam abb (aat aau (pv 5) (pv 8) (fun _ _=>rfl)) aad) (aey (pv 5) (pv 4) adc))
        (aag (abh (aby PySem.F.plainAttrs_list PySem.F.slot_list_append PySem.F.type_list_append abn (pv 6) (aaa (pv 4) aab)))))
       aa1)))))))
  (aag (aas (pv 5)))))))))),?_⟩
 refine abe h fun ss Q' q B hK=>?_
 obtain ⟨n,a,es,rfl,n1,W,a9,a0,a1,k⟩:=q
 show EvS B _ _ [some (.st (webD n es)),some (.st (.int a)),none,none,none,none,none,none,none]
 repeat (first | (refine ayc 2 rfl ?_) | row_cond st)
 refine acw (fun i e=>∃ J o M,e=[some (.st (webD n es)),some (.st (.int a)),some (.own (OKL (kM M))),J,o,none,none,none,none]/\KTB (Tied (es.take i)) M (2 * i))
  ⟨none,none,[],rfl,⟨⟨List.nodup_nil,fun k w=>by simp [Tied]⟩,aG0 _,fun p hp=>by cases hp⟩⟩ ?_ ?_
 ·rintro i ⟨x,y⟩ e c ⟨J,o,M,rfl,X⟩
  have hi:i < es.length:=(aA1.mp c).1
  have Y:=Tied.snoc c
  row_cond go
  refine ais (T':=fun u v=>Tied (es.take i) u v\/(u=x/\v=y)) X (by omega) rfl rfl rfl (fun u v=>Iff.rfl) (fun M1 h1=>?_)
  row_cond go
  refine ais (T':=Tied (es.take (i+1))) h1 (by omega) rfl rfl rfl Y (fun M2 h2=>?_)
  row_cond go
  exact ⟨_,_,M2,rfl,h2⟩
 ·rintro e ⟨J,o,M,rfl,X⟩
  rw [aG8] at X
  obtain ⟨s2,a2,hs⟩:∃ s2:Sl,(s2=.own (OKL (kM M))\/s2=.st (agt (kvG (kM M))))/\((s2=.own (OKL [])/\kM M=[])\/(s2=.st (agt (kvG (kM M)))/\kM M ≠ [])):=by
   by_cases h:kM M=[]
   ·exact ⟨.own (OKL (kM M)),.inl rfl,.inl ⟨by rw [h],h⟩⟩
   ·exact ⟨_,.inr rfl,.inr ⟨rfl,h⟩⟩
  refine cutR (R:=EvS B ?ts ?Ds [some (.st (webD n es)),some (.st (.int a)),some s2,J,o,none,none,none,none]) (fun R=>?K1) ?K2
  case K1 =>
   rcases a2 with rfl | rfl
   ·exact R
   ·exact ao1 2 rfl ayb R
  case K2 =>
   row_cond go
   refine aoz (by omega) (by omega) (by simp;omega) ?_
   rw [ao4]
   row_cond go
   refine aig (j:=a.toNat) rfl (by rw [ab2];exact ae5 a0 (by omega)) ?_
   dsimp only [List.set_cons_zero,List.set_cons_succ,reS]
   rw [show (PyData.int 0)=.int ((0:Nat):Int) from rfl,agr a0 (by omega)]
   row_cond go
   have S:∀ u v:Int,Tied es u v->0<=v/\v < n:=fun u v h=>(h.in W).2
   refine af5 (fun mm e=>∃ o v8 line ds at_ far,e=[some (.st (webD n es)),some (.st (.int a)),some s2,J,o,some (.own (OL (lab n.toNat far))),some (.own (OL (line.map .int))),some (.st (.int ((at_:Nat):Int))),v8]/\Gr.Bfs (Tied es) a line ds at_/\FarL far line ds/\(∀ v∈line,0<=v/\v < n)/\mm=n.toNat * n.toNat - at_) ⟨_,o,_,[a],[0],0,_,rfl,Gr.Bfs.start _ _,FarL.start a,fun v I=>?_,rfl⟩ ?_
   ·have:v=a:=by simpa using I
    omega
   rintro mm e ⟨o,v8,line,ds,at_,far,rfl,m,t,C,rfl⟩
   row_cond go
   rw [aA3]
   refine acf (fun h=>?_) (fun h=>?_)
   ·have l:at_ < line.length:=by omega
    obtain ⟨here,b⟩:∃ here,line[at_]?=some here:=⟨_,aA0 l⟩
    have a7:atI (line.map PyData.int) (at_:Int)=some (.int here):=ae6 (f:=PyData.int) (agi b)
    have hh:=C here (aA2 b)
    obtain ⟨ws,a8,z⟩:=X.toKT.look here
    have Z:=aD0 (ahp m.nd C) (awl n1)
    repeat (first | (refine asv rfl hs rfl ?_) | row_cond st)
    rw [a8]
    refine acw (fun j e=>∃ o line ds far,e=[some (.st (webD n es)),some (.st (.int a)),some s2,J,o,some (.own (OL (lab n.toNat far))),some (.own (OL (line.map .int))),some (.st (.int ((at_:Int)+1))),some (.st (.int here))]/\Gr.Bfs (Tied es) a line ds at_/\FarL far line ds/\(∀ v∈line,0<=v/\v < n)/\line[at_]?=some here/\∀ x∈ws.take j,x∈line) ⟨_,line,ds,far,rfl,m,t,C,b,fun x c=>by simp at c⟩ ?_ ?_
    ·clear m t C b a7 l Z
     rintro j there e hj ⟨o,line,ds,far,rfl,m,t,C,b,htk⟩
     have Y:Tied es here there:=(z there).mp (aA2 hj)
     obtain ⟨u0,u1⟩:=S _ _ Y
     have U:ws.take (j+1)=ws.take j ++ [there]:=by rw [aH4,hj];rfl
     have a4:=aD0 (ahp m.nd C) (awl n1)
     have l:at_ < line.length:=(aA1.mp b).1
     obtain ⟨d,hd⟩:∃ d,ds[at_]?=some d:=⟨_,aA0 (by rw [m.len];exact l)⟩
     have b0:atI (lab n.toNat far) there=some (oD (far there)):=aik u0 (by omega)
     have b1:atI (lab n.toNat far) here=some (.int (d:Int)):=by rw [aik hh.1 (by omega),t.at' at_ here d b hd];rfl
     row_cond go
     rw [ao2]
     by_cases hm:there∈line
     ·obtain ⟨q,Z⟩:=aD3 hm
      have a6:=(aA1.mp Z).1
      obtain ⟨dd,e2⟩:∃ dd,ds[q]?=some dd:=⟨_,aA0 (by rw [m.len];exact a6)⟩
      rw [t.at' q there dd Z e2]
      refine acg ?_
      row_cond go
      refine ⟨_,line,ds,far,rfl,m,t,C,b,fun x c=>?_⟩
      rw [U] at c
      rcases aA7.mp c with c | c
      ·exact htk x c
      ·have:x=there:=by simpa using c
       rw [this];exact hm
     ·rw [t.no there hm]
      refine ab0 ?_
      row_cond go
      refine aig (j:=there.toNat) rfl (by rw [ab2];exact ae5 u0 (by omega)) ?_
      dsimp only [List.set_cons_zero,List.set_cons_succ,reS]
      rw [show (PyData.int ((d:Int)+1))=.int ((d+1:Nat):Int) by simp,agr u0 (by omega)]
      row_cond go
      refine ⟨_,line ++ [there],ds ++ [d+1],Gr.label far there (d+1),by rw [aE5];rfl,m.add b hd Y hm,t.add m.len hm,fun v I=>?_,by rw [aC3 l];exact b,fun x c=>?_⟩
      ·rcases aA7.mp I with I | I
       ·exact C v I
       ·have:v=there:=by simpa using I
        rw [this];exact ⟨u0,u1⟩
      ·rw [U] at c
       rcases aA7.mp c with c | c
       ·exact aA7.mpr (.inl (htk x c))
       ·exact aA7.mpr (.inr c)
    ·rintro e ⟨o,r,a3,N,rfl,O,a5,L,G,htk⟩
     rw [aG8] at htk
     have l:at_ < r.length:=(aA1.mp G).1
     have a4:=ahp O.nd L
     exact ⟨n.toNat * n.toNat - (at_+1),by omega,_,_,r,a3,at_+1,N,rfl,O.next G fun x c=>htk x ((z x).mpr c),a5,L,rfl⟩
   ·have b:at_=line.length:=by have:=m.le;omega
    subst b
    row_cond go
    rw [aj6 (g:=Gr.farO (Tied es) a) fun v _ _=>t.fin m v]
    exact k
end
section
variable {P:Program} {w:World} {K:Frag} {mg:Str->Option Value} {base:Heap}
end
def aca (n:Int):PyData->Bool
 | .tuple [.int a,.int b]=>decide (0<=a/\a<=n - 1) && decide (0<=b/\b<=n - 1) && decide (a < b)
 | _=>false
def afn (n:Int):PyData->Bool
 | .list ds=>ds.all (aca n)
 | _=>false
def a2d:VP:=fun ss Q=>∃ (n:Int) (d:PyData),ss=[.st (.int n),.st d]/\Q (.st (.bool (aca n d)))
def a08:VP:=fun ss Q=>∃ (n:Int) (d:PyData),ss=[.st (.int n),.st d]/\(∀ ds,d=.list ds->ds.length<=100000)/\Q (.st (.bool (afn n d)))
def avr:VP:=fun ss Q=>∃ (ps:List (Int × Int)),ss=[.st (.list (ps.map prD))]/\ps.length<=100000/\∀ b:Bool,(b=true ↔ Rise ps)->Q (.st (.bool b))
structure PutOk (n:Int) (es fs:List (Int × Int)):Prop where
 inn:∀ p∈fs,0<=p.1/\p.1 < p.2/\p.2 < n
 nd:(es ++ fs).Nodup
def a09:VP:=fun ss Q=>∃ (n:Int) (es fs:List (Int × Int)),ss=[.st (webD n es),.st (.list (fs.map prD))]/\es.length<=10000/\fs.length<=10000/\PutOk n es fs/\∀ qs,Rise qs->qs.Perm (es ++ fs)->Q (.own (OW (.int n) (qs.map prD)))
section
variable {P:Program} {w:World} {K:Frag} {mg:Str->Option Value} {base:Heap}
theorem sc_is_tie:FnScope ["n","thing","a","b"] ["n","thing"] (aai s_is_tie):=by row_cond sc
theorem aq1 (T:Txt K mg):Can P w K mg base "is_tie" 4 ["n","thing"] (spP K (a2d)):=by
 obtain ⟨f,fd,D⟩:=T.d_is_tie
 refine D.can (D.fn.ok sc_is_tie (fun vs H Q E h=>lenP h fun ss l q=>by obtain ⟨n,d,rfl,k⟩:=q;rfl) (fun cdv A outer s H vs Q E j h=>?_))
 have nd:=sc_is_tie.nd
 refine ⟨_,(aac (aba (PW.pt (ale (ac5 (ac1 (aal afd (by rfl) T.b_isinstance aa7 (aaa (pv 1) (aaa (aex (v:=.ty "tuple") rfl T.b_tuple atw rfl) aab))))) (ahu (aav ahx (aal abz (by rfl) T.b_len ac8 (aaa (pv 1) aab)) aad (aax _)))))
   (aag (aas ad2))
   aa1)
  (aac (ab6 (pv 1) (ac6 rfl (aa5 (aan (i:=2) nd rfl (Or.inl rfl)) (aa5 (aan (i:=3) nd rfl (Or.inl rfl)) acq))))
  (aag (aas (afr (aaf (aef T) j (aaa (pv 0) (aaa (pv 2) aab))) (afr (aaf (aef T) j (aaa (pv 0) (aaa (pv 3) aab))) (ahw (adb ae8 (pv 2) (pv 3) (aax _))))))))),?_⟩
 refine abe h fun ss l q B m=>?_
 obtain ⟨n,d,rfl,k⟩:=q
 show EvS B _ _ [some (.st (.int n)),some (.st d),none,none]
 row_cond go
 cases d with
 | tuple xs =>
  refine ai5 ?_
  row_cond go
  rcases (show xs.length=2\/xs.length ≠ 2 by omega) with g | g
  ·match xs,g with
   | [x,y],_ =>
    row_cond go
    refine ⟨n,x,rfl,?_⟩
    row_cond go
    have c:aca n (.tuple [x,y])=(btwD 0 (n - 1) x && (btwD 0 (n - 1) y && match x,y with | .int a,.int b=>decide (a < b) | _,_=>false)):=by
     cases x <;> cases y <;> simp [aca,btwD,Bool.and_assoc]
    cases hx:btwD 0 (n - 1) x with
    | false =>
     rw [hx,Bool.false_and] at c
     refine acg ?_
     rw [← c];exact k
    | true =>
     refine ab0 ?_
     row_cond go
     refine ⟨n,y,rfl,?_⟩
     row_cond go
     cases hy:btwD 0 (n - 1) y with
     | false =>
      rw [hx,hy] at c
      refine acg ?_
      rw [show false=aca n (.tuple [x,y]) by rw [c];rfl];exact k
     | true =>
      refine ab0 ?_
      cases x with
      | int a =>
       cases y with
       | int b =>
        row_cond go
        rw [hx,hy] at c
        rw [show decide (a < b)=aca n (.tuple [.int a,.int b]) by rw [c];rfl];exact k
       | _=>simp [btwD] at hy
      | _=>simp [btwD] at hx
  ·row_cond go
   have:aca n (.tuple xs)=false:=by
    match xs,g with
    | [],_=>rfl
    | [x],_=>cases x <;> rfl
    | [_,_],h=>exact absurd rfl h
    | x :: y :: _ :: _,_=>cases x <;> cases y <;> rfl
   rw [← this];exact k
 | _ =>
  refine ai6 ?_
  row_cond go
  exact k
theorem sc_are_ties:FnScope ["n","thing"] ["n","thing"] (aai s_are_ties):=by row_cond sc
theorem ani (T:Txt K mg):Can P w K mg base "are_ties" 5 ["n","thing"] (spP K (a08)):=by
 obtain ⟨f,fd,D⟩:=T.d_are_ties
 refine D.can (D.fn.ok sc_are_ties (fun vs H Q E h=>lenP h fun ss b q=>by obtain ⟨n,d,rfl,a,k⟩:=q;rfl) (fun cdv A outer s H vs Q E c h=>?_))
 have nd:=sc_are_ties.nd
 refine ⟨_,(aag (aas (afr (aal afd (by rfl) T.b_isinstance aa7 (aaa (pv 1) (aaa (aex (v:=.ty "list") rfl T.b_list agk rfl) aab))) (ahw (aal (aj9 rfl) (by rfl) T.b_all ary (aaa (adl rfl (N:=["tie","n"]) (src:=[none,some 0]) (by exact abp rfl rfl rfl rfl rfl rfl) (abo (pv 1)) (fun _ _ _ _=>(aan (i:=0) (show List.Nodup (["tie","n"]:List Str) by decide +kernel) rfl (Or.inl rfl) (hf:=Or.inr rfl))) (fun _ _ _ _=>acj) (fun _ _ _ _=>(aaf (aq1 T) c (aaa (pv 1) (aaa (pv 0) aab))))) aab)))))),?_⟩
 refine abe h fun ss b q B g=>?_
 obtain ⟨n,d,rfl,a,k⟩:=q
 show EvS B _ _ [some (.st (.int n)),some (.st d)]
 row_cond go
 cases d with
 | list ds =>
  have a:=a ds rfl
  refine ab0 ?_
  row_cond go
  refine aox (fun t => .bool (aca n t)) rfl (by omega) (fun t _ j l=>?_) ?_
  ·row_cond go
   exact ⟨n,t,rfl,rfl,rfl⟩
  ·row_cond go
   rw [show (ds.map fun t=>PyData.bool (aca n t))=(ds.map (aca n)).map .bool by rw [aE0];rfl]
   refine ao6 ?_
   row_cond go
   rw [show (ds.map (aca n)).all id=afn n (.list ds) by simp [afn,List.all_map]]
   exact k
 | _ =>
  refine acg ?_
  exact k
theorem sc_is_rising:FnScope ["things"] ["things"] (aai s_is_rising):=by row_cond sc
theorem ak9 (T:Txt K mg):Can P w K mg base "is_rising" 1 ["things"] (spP K (avr)):=by
 obtain ⟨f,fd,D⟩:=T.d_is_rising
 refine D.can (D.fn.ok sc_is_rising (fun vs H Q E h=>lenP h fun ss j q=>by obtain ⟨ps,rfl,l,k⟩:=q;rfl) (fun cdv A outer s H vs Q E m h=>?_))
 have nd:=sc_is_rising.nd
 refine ⟨_,(aag (aas (aal (aj9 rfl) (by rfl) T.b_all ary (aaa (adl rfl (N:=["at","things"]) (src:=[none,some 0]) (by exact abp rfl rfl rfl rfl rfl rfl) (abw rfl T.b_range (aaa (aam abx (aal abz (by rfl) T.b_len ac8 (aaa (pv 0) aab)) aad) aab)) (fun _ _ _ _=>(aan (i:=0) (show List.Nodup (["at","things"]:List Str) by decide +kernel) rfl (Or.inl rfl) (hf:=Or.inr rfl))) (fun _ _ _ _=>acj) (fun _ _ _ _=>(adb (show OpR _ (compareOp .Lt) (rLtT K) from ay7 m.units0) (aat (show IxR _ (acl K) from aau) (pv 1) (pv 0) (fun _ _=>rfl)) (aat (show IxR _ (acl K) from aau) (pv 1) (aam abb (pv 0) aad) (fun _ _=>rfl)) (aax _)))) aab)))),?_⟩
 refine abe h fun ss j q B n=>?_
 obtain ⟨ps,rfl,l,k⟩:=q
 show EvS B _ _ [some (.st (.list (ps.map prD)))]
 row_cond go
 rw [aA3]
 row_cond go
 refine aox (fun d=>match d with | .int i => .bool (match ps[i.toNat]?,ps[i.toNat+1]? with | some p,some q=>HT.lexLt (p2 p) (p2 q) | _,_=>false) | _ => .none) rfl (by rw [ack];omega) (fun d hd o r=>?_) ?_
 ·obtain ⟨i,hi⟩:=List.mem_iff_getElem?.mp hd
  obtain ⟨hi,rfl⟩:=afg hi
  have b:i < ps.length:=by omega
  have c:i+1 < ps.length:=by omega
  have a1:atI (ps.map prD) (0+(i:Int))=some (prD ps[i]):=ae6 (f:=prD) (afj (by omega) (by rw [show (0+(i:Int)).toNat=i by omega];exact aA0 b))
  have t:atI (ps.map prD) (0+(i:Int)+1)=some (prD ps[i+1]):=ae6 (f:=prD) (afj (by omega) (by rw [show (0+(i:Int)+1).toNat=i+1 by omega];exact aA0 c))
  row_cond go
  refine axv ?_
  row_cond go
  refine ⟨?_,rfl⟩
  simp [b,c]
 ·row_cond go
  have e:(rngD 0 ((ps.length:Int) - 1).toNat).map (fun d=>match d with | .int i=>PyData.bool (match ps[i.toNat]?,ps[i.toNat+1]? with | some p,some q=>HT.lexLt (p2 p) (p2 q) | _,_=>false) | _ => .none)=((List.range (ps.length - 1)).map fun i=>match ps[i]?,ps[i+1]? with | some p,some q=>HT.lexLt (p2 p) (p2 q) | _,_=>false).map .bool:=by
   unfold rngD
   rw [aE0,aE0,show ((ps.length:Int) - 1).toNat=ps.length - 1 by omega]
   apply aE8
   intro i _
   simp
  rw [e]
  refine ao6 ?_
  row_cond go
  refine k _ ?_
  rw [List.all_map,aF4]
  unfold Rise
  rw [ams ltP (fun h g=>ash h g)]
  constructor
  ·intro h i hi
   have:=h i (aB9.mpr (by omega))
   simp [show i < ps.length by omega,hi] at this
   exact (lex2 _ _).mp this
  ·intro h i hi
   have a:i+1 < ps.length:=by have:=aB9.mp hi;omega
   have:=(lex2 _ _).mpr (h i a)
   simp [show i < ps.length by omega,a,this]
theorem sc_with_ties:FnScope ["web","ties","n","there","every"] ["web","ties"] (aai s_with_ties):=by row_cond sc
theorem ala (T:Txt K mg):Can P w K mg base "with_ties" 6 ["web","ties"] (spP K (a09)):=by
 obtain ⟨f,fd,D⟩:=T.d_with_ties
 refine D.can (D.fn.ok sc_with_ties (fun vs H Q E h=>lenP h fun ss j q=>by obtain ⟨n,es,fs,rfl,o,l,g,k⟩:=q;rfl) (fun cdv A outer s H vs Q E c h=>?_))
 have nd:=sc_with_ties.nd
 refine ⟨_,(aac (ab6 (pv 0) (ac6 rfl (aa5 (aan (i:=2) nd rfl (Or.inl rfl)) (aa5 (aan (i:=3) nd rfl (Or.inl rfl)) acq))))
  (aac (aba (ac5 (ac1 (aaf (ani T) c (aaa (pv 2) (aaa (pv 1) aab)))))
   (aag ad9)
   aa1)
  (aac (aak (i:=4) nd rfl (Or.inl rfl) (aal aff (by rfl) T.b_sorted adt (aaa (aam afw (pv 3) (pv 1)) aab)))
  (aac (aba (ac5 (ac1 (aaf (ak9 T) c (aaa (pv 4) aab))))
   (aag ad9)
   aa1)
  (aag (aas (aa6 (aaa (pv 2) (aaa (pv 4) aab))))))))),?_⟩
 refine abe h fun ss j q B r=>?_
 obtain ⟨n,es,fs,rfl,o,l,g,k⟩:=q
 show EvS B _ _ [some (.st (webD n es)),some (.st (.list (fs.map prD))),none,none,none]
 row_cond go
 refine ⟨n,_,rfl,fun ds e=>by cases e;rw [aA3];omega,?_⟩
 row_cond go
 have m:afn n (.list (fs.map prD))=true:=by
  show ((fs.map prD).all (aca n))=true
  rw [List.all_map,aF4]
  intro p a
  have:=g.inn p a
  simp [aca,prD];omega
 rw [m]
 row_cond go
 refine aer (ps:=es ++ fs) ?_
 row_cond go
 rw [← aE5]
 refine ⟨rfl,fun d a hs=>?_⟩
 have c:Rise d:=ao7 a g.nd hs
 refine aa9 ?_
 dsimp only [List.set_cons_zero,List.set_cons_succ]
 try refine' aow (by assumption) ?_
 refine aot (ar5 (aos (ahg (au6 (.inl rfl) (aop ⟨_,_,.inl rfl,ab1,d,rfl,by rw [a.length_eq,aB1];omega,fun b hb=>?_⟩)))))
 row_cond go
 rw [hb.mpr c]
 row_cond go
 exact k d c a
end
def ate:VP:=fun ss Q=>∃ (a b c:Int),ss=[.st (.int a),.st (.int b),.st (.int c)]/\a<=c/\c<=b/\Q (.st .none)
section
variable {P:Program} {w:World} {K:Frag} {mg:Str->Option Value} {base:Heap}
theorem sc_need_number:FnScope ["least","most","thing"] ["least","most","thing"] (aai s_need_number):=by row_cond sc
theorem ait (T:Txt K mg):Can P w K mg base "need_number" 3 ["least","most","thing"] (spP K (ate)):=by
 obtain ⟨f,fd,D⟩:=T.d_need_number
 refine D.can (D.fn.ok sc_need_number (fun vs H Q E h=>lenP h fun ss d q=>by obtain ⟨a,b,c,rfl,g,i,k⟩:=q;rfl) (fun cdv A outer s H vs Q E j h=>?_))
 have nd:=sc_need_number.nd
 refine ⟨_,(aag (aba (ac5 (ac1 (aaf (adk T) j (aaa (pv 0) (aaa (pv 1) (aaa (pv 2) aab))))))
   (aag ad9)
   aa1)),?_⟩
 refine abe h fun ss d q B l=>?_
 obtain ⟨a,b,c,rfl,g,i,k⟩:=q
 show EvS B _ _ [some (.st (.int a)),some (.st (.int b)),some (.st (.int c))]
 row_cond go
 refine ⟨a,b,.int c,rfl,?_⟩
 have:btwD a b (.int c)=true:=by simp [btwD];omega
 rw [this]
 row_cond go
 exact k
end
def ab3 (n:Nat) (r:Int->Int):List Int:=(List.range n).map fun (i:Nat)=>r (i:Int)
theorem anj {n:Nat} {r:Int->Int}:rowD n r=(ab3 n r).map .int:=afm
theorem ank (n:Nat) (r:Int->Int):(ab3 n r).length=n:=by simp [ab3]
theorem agz {n:Nat} (hn:1<=n) (r:Int->Int):ab3 n r ≠ []:=fun e=>by have:=ank n r;rw [e] at this;simp at this;omega
def mxF (n:Nat) (r:Int->Int):Int:=open Classical in if h:∃ x,ad5 (ab3 n r) x then Classical.choose h else 0
theorem atf {n:Nat} (hn:1<=n) (r:Int->Int):ad5 (ab3 n r) (mxF n r):=by
 unfold mxF
 have h:=agy (agz hn r)
 rw [dif_pos h]
 exact Classical.choose_spec h
theorem anl:∀ {l:List Int} {x:Int},x∈l->∃ j:Nat,l[j]?=some x/\∀ m,m < j->l[m]? ≠ some x
 | a :: l,x,h=>by
  by_cases e:a=x
  ·subst e;exact ⟨0,rfl,fun m hm=>by omega⟩
  ·obtain ⟨j,b,c⟩:=anl (l:=l) (x:=x) (by rcases aA9.mp h with q | q;exact absurd q.symm e;exact q)
   refine ⟨j+1,by simpa using b,fun m hm=>?_⟩
   cases m with
   | zero=>simpa using e
   | succ m=>simpa using c m (by omega)
def ixF (n:Nat) (r:Int->Int):Nat:=open Classical in if h:∃ j:Nat,(ab3 n r)[j]?=some (mxF n r)/\∀ m,m < j->(ab3 n r)[m]? ≠ some (mxF n r) then Classical.choose h else 0
theorem anm {n:Nat} (hn:1<=n) (r:Int->Int):(ab3 n r)[ixF n r]?=some (mxF n r)/\∀ m,m < ixF n r->(ab3 n r)[m]? ≠ some (mxF n r):=by
 unfold ixF
 have h:=anl (atf hn r).1
 rw [dif_pos h]
 exact Classical.choose_spec h
theorem atg {n:Nat} (hn:1<=n) (r:Int->Int):ixF n r < n:=by
 have:=(aA1.mp (anm hn r).1).1
 rwa [ank] at this
def nxF (m:Int->Int->Int) (r:Int->Int) (h:Int):Int->Int:=fun y=>if m h y < r y then m h y else r y
def hubN (n:Nat) (m:Int->Int->Int):Nat->List Int × (Int->Int)
 | 0=>([0],m 0)
 | j+1=>open Classical in if 0 < mxF n (hubN n m j).2 then ((hubN n m j).1 ++ [(ixF n (hubN n m j).2:Int)],nxF m (hubN n m j).2 (ixF n (hubN n m j).2:Int)) else hubN n m j
theorem ath {n:Nat} {m:Int->Int->Int} {j:Nat} {hs:List Int} {r:Int->Int} (e:hubN n m j=(hs,r)) (h:0 < mxF n r):hubN n m (j+1)=(hs ++ [(ixF n r:Int)],nxF m r (ixF n r:Int)):=by
 show (if 0 < mxF n (hubN n m j).2 then _ else _)=_
 rw [e,aF5 h]
theorem ati {n:Nat} {m:Int->Int->Int} {j:Nat} {hs:List Int} {r:Int->Int} (e:hubN n m j=(hs,r)) (h:¬ 0 < mxF n r):hubN n m (j+1)=(hs,r):=by
 show (if 0 < mxF n (hubN n m j).2 then _ else _)=_
 rw [e,aF6 h]
theorem ann {n:Nat} {m:Int->Int->Int} {j:Nat} {hs:List Int} {r:Int->Int} (e:hubN n m j=(hs,r)) (h:¬ 0 < mxF n r):∀ i,hubN n m (j+i)=(hs,r)
 | 0=>e
 | i+1=>ati (ann e h i) h
def hubO (n:Int) (es:List (Int × Int)) (k:Int):Own:=OW (.int (mxF n.toNat (hubN n.toNat (dsF es) k.toNat).2)) ((hubN n.toNat (dsF es) k.toNat).1.map .int)
theorem apt {n:Int} {es:List (Int × Int)} {k:Int} {hs:List Int} {r:Int->Int} (e:hubN n.toNat (dsF es) k.toNat=(hs,r)):hubO n es k=OW (.int (mxF n.toNat r)) (hs.map .int):=by unfold hubO;rw [e]
def a1a:VP:=fun ss Q=>∃ (n:Int) (es:List (Int × Int)) (k:Int),ss=[.st (webD n es),.st (.int k)]/\1<=n/\n<=100/\InN n es/\es.length<=10000/\Joined n es/\0<=k/\k<=20/\Q (.own (hubO n es k))
theorem avs {n:Nat} {r q:Int->Int}:zipD ((ab3 n r).map .int) (rowD n q)=(List.range n).map fun (i:Nat) => .tuple [.int (r (i:Int)),.int (q (i:Int))]:=by rw [← anj,avo]
theorem avt (n:Nat) (r:Int->Int):(List.range n).map (fun i:Nat=>PyData.int (r (i:Int)))=(ab3 n r).map .int:=by unfold ab3;rw [aE0];rfl
section
variable {P:Program} {w:World} {K:Frag} {mg:Str->Option Value} {base:Heap}
theorem sc_hubs_for:FnScope ["web","k","rows","hubs","near","hub"] ["web","k"] (aai s_hubs_for):=by row_cond sc
theorem agb (T:Txt K mg):Can P w K mg base "hubs_for" 9 ["web","k"] (spP K (a1a)):=by
 obtain ⟨f,fd,D⟩:=T.d_hubs_for
 obtain ⟨b,a⟩:=T.v_MOST_HUB_TIES
 refine D.can (D.fn.ok sc_hubs_for (fun vs H Q E h=>lenP h fun ss M q=>by obtain ⟨n,es,k,rfl,I,G,d,g,C,k0,k1,y⟩:=q;rfl) (fun cdv A outer s H vs Q E J h=>?_))
 have nd:=sc_hubs_for.nd
 refine ⟨_,(aac (aak (i:=2) nd rfl (Or.inl rfl) (aaf (aei T) J (aaa (pv 0) aab)))
  (aac (abh (aaf (ait T) J (aaa aad (aaa (ach (v:=.int 20) rfl a ⟨_,rfl⟩) (aaa (pv 1) aab)))))
  (aac (aak (i:=3) nd rfl (Or.inl rfl) (aa3 (aaa aad aab)))
  (aac (aak (i:=4) nd rfl (Or.inl rfl) (aat aau (pv 2) aad (fun _ _=>rfl)))
  (aac (ag9 aJ6 (PW.pt (ahv (aav ap0 (aal abz (by rfl) T.b_len ac8 (aaa (pv 3) aab)) (pv 1) (aax _)) (agd (aav ae9 (aal (acx rfl) (by rfl) T.b_max ads (aaa (pv 4) aab)) aad (aax _)))))
   (aac (aak (i:=5) nd rfl (Or.inl rfl) (aby PySem.F.plainAttrs_list PySem.F.slot_list_index PySem.F.type_list_index ahj (pv 4) (aaa (aal (acx rfl) (by rfl) T.b_max ads (aaa (pv 4) aab)) aab)))
    (aac (abh (aby PySem.F.plainAttrs_list PySem.F.slot_list_append PySem.F.type_list_append abn (pv 3) (aaa (pv 5) aab)))
    (aag (afb (i:=4) nd rfl (Or.inl rfl) rfl (N:=["far","other"]) (src:=[none,none]) (by exact abp rfl rfl rfl rfl rfl rfl) (a0k rfl T.b_zip (aaa (pv 4) (aaa (aat aau (pv 2) (pv 5) (fun _ _=>rfl)) aab))) (fun _ _ _ _=>(show PG _ _ (gTup K 2 (age (abc 0) (age (abc 1) gNil))) from (ac6 rfl (aa5 (aan (i:=0) (show List.Nodup (["far","other"]:List Str) by decide +kernel) rfl (Or.inl rfl) (hf:=Or.inr rfl)) (aa5 (aan (i:=1) (show List.Nodup (["far","other"]:List Str) by decide +kernel) rfl (Or.inl rfl) (hf:=Or.inr rfl)) acq))))) (fun _ _ _ _=>acj) (fun _ _ _ _=>(aal (acr rfl) (by rfl) T.b_min ae0 (aaa (pv 0) (aaa (pv 1) aab)))))))))
  (aag (aas (aa6 (aaa (aal (acx rfl) (by rfl) T.b_max ads (aaa (pv 4) aab)) (aaa (pv 3) aab)))))))))),?_⟩
 refine abe h fun ss M q B W=>?_
 obtain ⟨n,es,k,rfl,I,G,d,g,C,k0,k1,y⟩:=q
 show EvS B _ _ [some (.st (webD n es)),some (.st (.int k)),none,none,none,none]
 have hn:1<=n.toNat:=by omega
 have L:=anc (n:=n.toNat) (m:=dsF es) (x:=0) (by omega) (by omega)
 row_cond go
 refine ⟨n,es,rfl,I,G,d,g,C,ab9 ab1 ?_⟩
 row_cond go
 refine ⟨0,20,k,rfl,k0,k1,?_⟩
 row_cond go
 rw [anj]
 refine af5 (fun z e=>∃ p j hs r,e=[some (.st (webD n es)),some (.st (.int k)),some (.st (.list (matD n.toNat (dsF es)))),some (.own (OL (List.map PyData.int hs))),some (.st (.list ((ab3 n.toNat r).map .int))),p]/\hubN n.toNat (dsF es) j=(hs,r)/\hs.length=j+1/\(j:Int)<=k/\z=k.toNat - j) ⟨_,_,0,[0],dsF es 0,rfl,rfl,rfl,by omega,rfl⟩ ?_
 rintro z e ⟨p,j,hs,r,rfl,t,U,Z,rfl⟩
 have c:=atf hn r
 have l:=anm hn r
 have O:=atg hn r
 have S:=anc (n:=n.toNat) (m:=dsF es) (x:=(ixF n.toNat r:Int)) (by omega) (by omega)
 row_cond go
 rw [aA3]
 refine' cutR (R:=hubN n.toNat (dsF es) k.toNat=(hs,r)->EvS B ?c1 ?d1 [some (.st (webD n es)),some (.st (.int k)),some (.st (.list (matD n.toNat (dsF es)))),some (.own (OL (List.map PyData.int hs))),some (.st (.list ((ab3 n.toNat r).map .int))),p]) (fun R=>?K1) ?K2
 case K1 =>
  refine acf (fun h=>?_) (fun h=>?_)
  ·row_cond go
   refine adh (agz hn r) fun x o=>?_
   obtain rfl:=aeh o c
   row_cond go
   refine acf (fun h=>?_) (fun h=>?_)
   ·row_cond go
    refine ⟨ab3 n.toNat r,rfl,?_⟩
    row_cond go
    refine adh (agz hn r) fun x o=>?_
    obtain rfl:=aeh o c
    refine ⟨mxF n.toNat r,ixF n.toNat r,rfl,l.1,l.2,?_⟩
    row_cond go
    rw [avs]
    refine aul (xs:=List.range n.toNat) (fa:=fun i:Nat => .int (r (i:Int))) (fb:=fun i:Nat => .int (dsF es (ixF n.toNat r:Int) (i:Int))) (fun i:Nat => .int (nxF (dsF es) r (ixF n.toNat r:Int) (i:Int))) (fun _=>true) rfl (by simp;omega) (fun i hi X Y=>?_) ?_
    ·refine ae2 ⟨rfl,rfl,fun _=>?_⟩
     row_cond go
     exact rfl
    ·rw [aif,avt]
     refine ab9 ab1 ?_
     row_cond go
     exact ⟨k.toNat - (j+1),by omega,_,j+1,hs ++ [(ixF n.toNat r:Int)],nxF (dsF es) r (ixF n.toNat r:Int),by rw [aE5];rfl,ath t h,by simp [U],by omega,rfl⟩
   ·exact R (by have:=ann t h (k.toNat - j);rwa [show j+(k.toNat - j)=k.toNat by omega] at this)
  ·refine acg ?_
   exact R (by rw [show k.toNat=j by omega];exact t)
 case K2 =>
  intro u
  row_cond go
  refine adh (agz hn r) fun x o=>?_
  obtain rfl:=aeh o c
  refine ⟨_,rfl,?_⟩
  rw [apt u] at y
  exact y
end
structure FarOk (n:Int) (es:List (Int × Int)) (x a b:Int):Prop where
 top:awk n.toNat (dsF es) x
 a0:0<=a
 a1:a < n
 b0:0<=b
 b1:b < n
 eq:dsF es a b=x
 fst:∀ u v:Int,0<=u->u < n->0<=v->v < n->dsF es u v=x->a < u\/(a=u/\b<=v)
def aq2:VP:=fun ss Q=>∃ (n:Int) (es:List (Int × Int)),ss=[.st (webD n es)]/\1<=n/\n<=100/\InN n es/\es.length<=10000/\Joined n es/\∀ x a b,FarOk n es x a b->Q (.st (.tuple [.int x,.int a,.int b]))
theorem ano {ns:List Int} {k:Int} (h:k∈ns):∃ j:Nat,ns[j]?=some k/\∀ m:Nat,m < j->ns[m]? ≠ some k:=by
 induction ns with
 | nil=>simp at h
 | cons n ns ih =>
  by_cases e:n=k
  ·exact ⟨0,by rw [e];rfl,fun m hm=>by omega⟩
  ·obtain ⟨j,a,b⟩:=ih ((aA9.mp h).resolve_left fun z=>e z.symm)
   refine ⟨j+1,a,fun m hm=>?_⟩
   cases m with
   | zero=>simpa using e
   | succ m=>exact b m (by omega)
section
variable {P:Program} {w:World} {K:Frag} {mg:Str->Option Value} {base:Heap}
theorem sc_farthest_two:FnScope ["web","rows","far","a"] ["web"] (aai s_farthest_two):=by row_cond sc
theorem ahr (T:Txt K mg):Can P w K mg base "farthest_two" 9 ["web"] (spP K (aq2)):=by
 obtain ⟨f,fd,D⟩:=T.d_farthest_two
 refine D.can (D.fn.ok sc_farthest_two (fun vs H Q E h=>lenP h fun ss Q' q=>by obtain ⟨n,es,rfl,X,W,d,l,U,k⟩:=q;rfl) (fun cdv A outer s H vs Q E Z h=>?_))
 have nd:=sc_farthest_two.nd
 refine ⟨_,(aac (aak (i:=1) nd rfl (Or.inl rfl) (aaf (aei T) Z (aaa (pv 0) aab)))
  (aac (aak (i:=2) nd rfl (Or.inl rfl) (aaf (anf T) Z (aaa (pv 1) aab)))
  (aac (aak (i:=3) nd rfl (Or.inl rfl) (aby PySem.F.plainAttrs_list PySem.F.slot_list_index PySem.F.type_list_index ahj (adl rfl (N:=["row"]) (src:=[none]) (by exact abp rfl rfl rfl rfl rfl rfl) (abo (pv 1)) (fun _ _ _ _=>(aan (i:=0) (show List.Nodup (["row"]:List Str) by decide +kernel) rfl (Or.inl rfl) (hf:=Or.inr rfl))) (fun _ _ _ _=>acj) (fun _ _ _ _=>(aal (show abd _ (.builtin "max") (ah9 K) from (acx rfl)) (by rfl) T.b_max ads (aaa (pv 0) aab)))) (aaa (pv 2) aab)))
  (aag (aas (aa6 (aaa (pv 2) (aaa (pv 3) (aaa (aby PySem.F.plainAttrs_list PySem.F.slot_list_index PySem.F.type_list_index ahj (aat aau (pv 1) (pv 3) (fun _ _=>rfl)) (aaa (pv 2) aab)) aab))))))))),?_⟩
 refine abe h fun ss Q' q B hK=>?_
 obtain ⟨n,es,rfl,X,W,d,l,U,k⟩:=q
 show EvS B _ _ [some (.st (webD n es)),none,none,none]
 have hn:1<=n.toNat:=by omega
 obtain ⟨r,c⟩:=apr hn (dsF es)
 row_cond go
 refine ⟨n,es,rfl,X,W,d,l,U,ab9 ab1 ?_⟩
 row_cond go
 refine ⟨n.toNat,dsF es,rfl,hn,by omega,fun x o=>?_⟩
 have t:x∈(List.range n.toNat).map r:=by
  obtain ⟨⟨u,v,R,S,v0,v1,e⟩,g⟩:=o
  refine aB7.mpr ⟨u.toNat,aB9.mpr (by omega),?_⟩
  have I:=(c u.toNat).2 (dsF es ((u.toNat:Nat):Int) ((v.toNat:Nat):Int)) (aB7.mpr ⟨v.toNat,aB9.mpr (by omega),rfl⟩)
  rw [show ((u.toNat:Nat):Int)=u by omega,show ((v.toNat:Nat):Int)=v by omega,e] at I
  obtain ⟨j,O,y⟩:=aB7.mp (c u.toNat).1
  have:=g u j R S (by omega) (by have:=aB9.mp O;omega)
  rw [show ((u.toNat:Nat):Int)=u by omega] at y
  omega
 obtain ⟨a,ha,p⟩:=ano t
 have L:a < n.toNat:=by have:=(aA1.mp ha).1;simpa using this
 have J:r a=x:=by
  rw [aA5,aD9 L] at ha
  simpa using ha
 have C:x∈(List.range n.toNat).map fun (i:Nat)=>dsF es (a:Int) (i:Int):=by rw [← J];exact (c a).1
 obtain ⟨b,hb,m⟩:=ano C
 have M:b < n.toNat:=by have:=(aA1.mp hb).1;simpa using this
 have G:dsF es (a:Int) (b:Int)=x:=by
  rw [aA5,aD9 M] at hb
  simpa using hb
 have Y:atI (matD n.toNat (dsF es)) (a:Int)=some (.list (rowD n.toNat (dsF es (a:Int)))):=anc (by omega) (by omega)
 row_cond go
 unfold matD
 refine aeg (fun u:Nat => .int (r u)) rfl (by simp;omega) (fun u hu B' hB=>?_) ?_
 ·row_cond go
  rw [afm]
  exact adh (by simp;omega) fun x o=>⟨by rw [aeh o (c u)],rfl⟩
 ·refine ⟨(List.range n.toNat).map r,by rw [aE0];rfl,?_⟩
  row_cond go
  refine ⟨x,a,rfl,ha,p,?_⟩
  row_cond go
  refine ⟨(List.range n.toNat).map fun (i:Nat)=>dsF es (a:Int) (i:Int),by rw [afm],?_⟩
  row_cond go
  refine ⟨x,b,rfl,hb,m,?_⟩
  row_cond go
  refine k x a b ⟨o,by omega,by omega,by omega,by omega,G,fun u v R S v0 v1 e=>?_⟩
  have hu:(a:Int)<=u:=by
   apply aD5
   intro z
   refine p u.toNat (by omega) ?_
   rw [aA5,aD9 (by omega)]
   have I:=(c u.toNat).2 (dsF es ((u.toNat:Nat):Int) ((v.toNat:Nat):Int)) (aB7.mpr ⟨v.toNat,aB9.mpr (by omega),rfl⟩)
   rw [show ((u.toNat:Nat):Int)=u by omega,show ((v.toNat:Nat):Int)=v by omega,e] at I
   obtain ⟨j,O,y⟩:=aB7.mp (c u.toNat).1
   have:=o.2 u j R (by omega) (by omega) (by have:=aB9.mp O;omega)
   rw [show ((u.toNat:Nat):Int)=u by omega] at y
   simp only [aI1,Option.some.injEq]
   omega
  by_cases hau:(a:Int) < u
  ·exact .inl hau
  ·refine .inr ⟨by omega,?_⟩
   apply aD5
   intro z
   refine m v.toNat (by omega) ?_
   rw [aA5,aD9 (by omega)]
   simp only [aI1,Option.some.injEq]
   rw [show ((v.toNat:Nat):Int)=v by omega,show (a:Int)=u by omega]
   exact e
end
structure HubI (n:Nat) (j:Nat) (hs:List Int) (r:Int->Int):Prop where
 nd:hs.Nodup
 mem:∀ y∈hs,0<=y/\y < n/\r y=0
 hd:∃ rest,hs=0 :: rest
 len:hs.length<=j+1
theorem ajo {n:Nat} {m:Int->Int->Int} (hn:1<=n) (l:∀ u v,0<=m u v) (g:∀ u,m u u=0):∀ (j:Nat) {hs:List Int} {r:Int->Int},hubN n m j=(hs,r)->HubI n j hs r
 | 0,hs,r,e=>by
  cases e
  exact ⟨by simp,fun y c=>by cases aC2.mp c;exact ⟨by omega,by omega,g 0⟩,⟨[],rfl⟩,by simp⟩
 | j+1,hs,r,e=>by
  obtain ⟨b,a,f⟩:∃ b a,hubN n m j=(b,a):=⟨_,_,rfl⟩
  have h:=ajo hn l g j f
  by_cases hp:0 < mxF n a
  ·rw [ath f hp] at e
   cases e
   have hi:=atg hn a
   have s:a (ixF n a:Int)=mxF n a:=by
    have:=(anm hn a).1
    unfold ab3 at this
    rw [aA5,aD9 hi] at this
    exact aC6 this
   have d:(ixF n a:Int) ∉ b:=fun z=>by have:=(h.mem _ z).2.2;omega
   obtain ⟨rest,o⟩:=h.hd
   refine ⟨aE7.mpr ⟨h.nd,by simp,fun x p y c e=>?_⟩,fun y c=>?_,⟨rest ++ [(ixF n a:Int)],by rw [o];rfl⟩,by have:=h.len;simp;omega⟩
   ·rw [aC2.mp c] at e;exact d (e ▸ p)
   ·rcases aA7.mp c with q | q
    ·have:=h.mem y q
     refine ⟨this.1,this.2.1,?_⟩
     have i:=l (ixF n a:Int) y
     unfold nxF
     rw [aF6 (by omega)]
     exact this.2.2
    ·cases aC2.mp q
     refine ⟨by omega,by omega,?_⟩
     unfold nxF
     have i:=g (ixF n a:Int)
     rw [aF5 (by omega)]
     exact i
  ·rw [ati f hp] at e
   cases e
   exact ⟨h.nd,h.mem,h.hd,by have:=h.len;omega⟩
theorem awm (es:List (Int × Int)) (u v:Int):0<=dsF es u v:=by unfold dsF;omega
theorem apu (es:List (Int × Int)) (u:Int):dsF es u u=0:=by unfold dsF;rw [Gr.farO_self];rfl
def aq3 (n:Int) (es:List (Int × Int)) (k:Int) (ts:List (Int × Int)):Prop:=∃ rest qs:List Int,(hubN n.toNat (dsF es) k.toNat).1=0 :: rest/\qs.Perm rest/\qs.Pairwise (·<=·)/\ts=(qs.filter fun h => !decide ((0,h)∈es)).map fun h=>(0,h)
def atj:VP:=fun ss Q=>∃ (n:Int) (es:List (Int × Int)) (k:Int),ss=[.st (webD n es),.st (.int k)]/\1<=n/\n<=100/\InN n es/\es.length<=5000/\es.Nodup/\Joined n es/\0<=k/\k<=20/\∀ ts qs x a b,aq3 n es k ts->PutOk n es ts->Rise qs->qs.Perm (es ++ ts)->FarOk n qs x a b->Q (.st (.tuple [.list (ts.map prD),.int x]))
theorem atk {n:Int} {es ts a:List (Int × Int)} (c:Joined n es) (d:0 < n) (b:a.Perm (es ++ ts)):Joined n a:=Conn.joined (c.conn.mono fun u v t=>t.imp (fun z=>b.mem_iff.mpr (aA7.mpr (.inl z))) (fun z=>b.mem_iff.mpr (aA7.mpr (.inl z)))) d
theorem avu {n:Int} {es ts:List (Int × Int)} {k:Int} (hn:1<=n) (nd:es.Nodup) (h:aq3 n es k ts):PutOk n es ts/\ts.length<=k.toNat:=by
 obtain ⟨rest,j,e,g,_,rfl⟩:=h
 obtain ⟨hs,r,l⟩:∃ hs r,hubN n.toNat (dsF es) k.toNat=(hs,r):=⟨_,_,rfl⟩
 have c:=ajo (n:=n.toNat) (by omega) (awm es) (apu es) k.toNat l
 rw [l] at e
 simp only at e
 subst e
 have d:rest.Nodup:=(aI4.mp c.nd).2
 have q:(0:Int) ∉ rest:=(aI4.mp c.nd).1
 have o:j.Nodup:=g.nodup_iff.mpr d
 refine ⟨⟨fun p f=>?_,aE7.mpr ⟨nd,?_,fun x v y s e=>?_⟩⟩,?_⟩
 ·obtain ⟨h,hh,rfl⟩:=aB7.mp f
  have m:h∈rest:=g.mem_iff.mp (aE2.mp hh).1
  have:=c.mem h (aB5 _ m)
  have t:h ≠ 0:=fun z=>q (z ▸ m)
  exact ⟨by simp,by simp only;omega,by simp only;omega⟩
 ·refine (List.Pairwise.filter _ o).map _ fun a b i e=>i (by simpa using e)
 ·subst e
  obtain ⟨h,hh,rfl⟩:=aB7.mp s
  have:=(aE2.mp hh).2
  simp only [Bool.not_eq_true',decide_eq_false_iff_not] at this
  exact this v
 ·rw [aA3]
  have w:=aF3 (fun h => !decide ((0,h)∈es)) j
  have A:=g.length_eq
  have u:=c.len
  simp at u
  omega
section
variable {P:Program} {w:World} {K:Frag} {mg:Str->Option Value} {base:Heap}
theorem sc_hub_ties:FnScope ["web","k","first","others","ties"] ["web","k"] (aai s_hub_ties):=by row_cond sc
theorem anp (T:Txt K mg):Can P w K mg base "hub_ties" 10 ["web","k"] (spP K (atj)):=by
 obtain ⟨f,fd,D⟩:=T.d_hub_ties
 refine D.can (D.fn.ok sc_hub_ties (fun vs H Q E h=>lenP h fun ss O q=>by obtain ⟨n,es,k,rfl,o,G,d,y,l,F,k0,k1,J⟩:=q;rfl) (fun cdv A outer s H vs Q E j h=>?_))
 have nd:=sc_hub_ties.nd
 refine ⟨_,(aac (ab6 (aat aau (aaf (agb T) j (aaa (pv 0) (aaa (pv 1) aab))) aad (fun _ _=>rfl)) (apl rfl (aan (i:=2) nd rfl (Or.inr rfl)) (aan (i:=3) nd rfl (Or.inl rfl))))
  (aac (afb (i:=4) nd rfl (Or.inl rfl) rfl (N:=["hub","first","web"]) (src:=[none,some 2,some 0]) (by exact abp rfl rfl rfl rfl rfl rfl) (abo (aal aqa (by rfl) T.b_sorted adt (aaa (pv 3) aab))) (fun _ _ _ _=>(aan (i:=0) (show List.Nodup (["hub","first","web"]:List Str) by decide +kernel) rfl (Or.inl rfl) (hf:=Or.inr rfl))) (fun _ _ _ _=>agj (aav (adw j.units) (aa6 (aaa (pv 1) (aaa (pv 0) aab))) (aat (show IxR _ (acl K) from aau) (pv 2) aad (fun _ _=>rfl)) rfl)) (fun _ _ _ _=>(aa6 (aaa (pv 1) (aaa (pv 0) aab)))))
  (aag (aas (aa6 (aaa (pv 4) (aaa (aat aau (aaf (ahr T) j (aaa (aaf (ala T) j (aaa (pv 0) (aaa (pv 4) aab))) aab)) aad (fun _ _=>rfl)) aab))))))),?_⟩
 refine abe h fun ss O q B U=>?_
 obtain ⟨n,es,k,rfl,o,G,d,y,l,F,k0,k1,J⟩:=q
 show EvS B _ _ [some (.st (webD n es)),some (.st (.int k)),none,none,none]
 obtain ⟨hs,r,t⟩:∃ hs r,hubN n.toNat (dsF es) k.toNat=(hs,r):=⟨_,_,rfl⟩
 have M:=ajo (n:=n.toNat) (by omega) (awm es) (apu es) k.toNat t
 obtain ⟨rest,rfl⟩:=M.hd
 have S:rest.length<=20:=by have:=M.len;simp at this;omega
 row_cond go
 refine ⟨n,es,k,rfl,o,G,d,by omega,F,k0,k1,?_⟩
 rw [apt t]
 repeat (first | (refine avg ?_) | (refine abr (asg ?_)) | row_cond st)
 refine ⟨rest,rfl,by omega,fun g L hs=>aen ?_⟩
 have C:aq3 n es k ((g.filter fun h => !decide ((0,h)∈es)).map fun h=>(0,h)):=⟨rest,g,by rw [t],L,hs,rfl⟩
 obtain ⟨c,v⟩:=avu o l C
 row_cond go
 refine acz (xs:=g) (f:=PyData.int) (fun h=>prD (0,h)) (fun h => !decide ((0,h)∈es)) rfl (by rw [L.length_eq];omega) (fun h hh W X=>?_) ?_
 ·row_cond go
  refine agp (akb (_,_)) (afk es) (aD0 (af6 (_,_)) (by decide)) ?_
  rw [aF5 rfl,show PyData.tuple [PyData.int 0,PyData.int h]=prD (0,h) from rfl,ao9]
  row_cond go
  intro _
  row_cond go
  exact rfl
 ·rw [show (g.filter fun h => !decide ((0,h)∈es)).map (fun h=>prD (0,h))=((g.filter fun h => !decide ((0,h)∈es)).map fun h=>((0:Int),h)).map prD by rw [aE0];rfl]
  generalize (g.filter fun h => !decide ((0,h)∈es)).map (fun h=>((0:Int),h))=ts at C c v
  refine ab9 ab1 ?_
  row_cond go
  refine ⟨n,es,ts,rfl,by omega,by omega,c,fun I j m=>?_⟩
  row_cond go
  refine ⟨n,I,rfl,o,G,fun p u=>?_,by rw [m.length_eq];simp;omega,atk F (by omega) m,fun x a b R=>?_⟩
  ·rcases aA7.mp (m.mem_iff.mp u) with z | z
   ·exact d p z
   ·have:=c.inn p z
    exact ⟨by omega,by omega,by omega,by omega⟩
  ·row_cond go
   exact J ts I x a b C c j m R
end
def vpNJ (mg:Str->Option Value):VPX:=fun ss Q R=>∃ (n:Int) (es:List (Int × Int)),ss=[.st (webD n es)]/\1<=n/\n<=100/\InN n es/\es.length<=10000/\¬ Joined n es/\∀ C,mg "NoJoin" = some (.ref C)->R C
def avv (mg:Str->Option Value):VPX:=fun ss Q R=>∃ (a b:Int) (d:PyData),ss=[.st (.int a),.st (.int b),.st d]/\btwD a b d=false/\∀ C,mg "NoNumber" = some (.ref C)->R C
def anq (mg:Str->Option Value):VPX:=fun ss Q R=>∃ (n:Int) (es:List (Int × Int)) (d:PyData),ss=[.st (webD n es),.st d]/\1<=n/\n<=100/\InN n es/\es.length<=10000/\(Joined n es->btwD 0 20 d=false)/\(¬ Joined n es->∀ C,mg "NoJoin" = some (.ref C)->R C)/\(Joined n es->∀ C,mg "NoNumber" = some (.ref C)->R C)
section
variable {P:Program} {w:World} {K:Frag} {mg:Str->Option Value} {base:Heap}
theorem scX_need_number:FnScope ["least","most","thing"] ["least","most","thing"] (aai s_need_number):=by row_cond sc
theorem ahs (T:Txt K mg):CanX P w K mg base "need_number" 3 ["least","most","thing"] (spX K (avv mg)):=by
 obtain ⟨f,fd,D⟩:=T.d_need_number
 obtain ⟨g,c⟩:=T.x_NoNumber
 refine D.canX (D.fn.okX scX_need_number (fun vs H Q E h=>lenX h fun ss i l q=>by obtain ⟨a,b,d,rfl,hd,k⟩:=q;rfl) (fun cdv A outer s H vs Q E m h=>?_))
 have nd:=scX_need_number.nd
 refine ⟨_,(aag (aba (ac5 (ac1 (aaf (adk T) m (aaa (pv 0) (aaa (pv 1) (aaa (pv 2) aab))))))
   (aag (aki c.ok))
   aa1)),?_⟩
 refine aiq h fun ss i l q B n j=>?_
 obtain ⟨a,b,d,rfl,hd,k⟩:=q
 show EvS B _ _ [some (.st (.int a)),some (.st (.int b)),some (.st d)]
 row_cond go
 refine ⟨_,_,_,rfl,?_⟩
 rw [hd]
 row_cond go
 refine akh j (k _ c.mgx) ?_
 row_cond go
 exact Nat.le_of_ble_eq_true rfl
theorem scX_need_joined:FnScope ["web"] ["web"] (aai s_need_joined):=by row_cond sc
theorem aht (T:Txt K mg):CanX P w K mg base "need_joined" 7 ["web"] (spX K (vpNJ mg)):=by
 obtain ⟨f,fd,D⟩:=T.d_need_joined
 obtain ⟨g,a⟩:=T.x_NoJoin
 refine D.canX (D.fn.okX scX_need_joined (fun vs H Q E h=>lenX h fun ss m p q=>by obtain ⟨n,es,rfl,l,j,c,d,i,k⟩:=q;rfl) (fun cdv A outer s H vs Q E r h=>?_))
 have nd:=scX_need_joined.nd
 refine ⟨_,(aag (aba (ac5 (ac1 (aaf (afp T) r (aaa (pv 0) aab))))
   (aag (aki a.ok))
   aa1)),?_⟩
 refine aiq h fun ss m p q B t o=>?_
 obtain ⟨n,es,rfl,l,j,c,d,i,k⟩:=q
 show EvS B _ _ [some (.st (webD n es))]
 row_cond go
 refine ⟨n,es,rfl,l,j,c,d,fun b hb=>?_⟩
 cases b with
 | true=>exact absurd (hb.mp rfl) i
 | false =>
  row_cond go
  refine akh o (k _ a.mgx) ?_
  row_cond go
  exact Nat.le_of_ble_eq_true rfl
theorem scX_far_rows:FnScope ["web","tied"] ["web"] (aai s_far_rows):=by row_cond sc
theorem alb (T:Txt K mg):CanX P w K mg base "far_rows" 8 ["web"] (spX K (vpNJ mg)):=by
 obtain ⟨f,fd,D⟩:=T.d_far_rows
 refine D.canX (D.fn.okX scX_far_rows (fun vs H Q E h=>lenX h fun ss i l q=>by obtain ⟨n,es,rfl,g,d,a,b,c,k⟩:=q;rfl) (fun cdv A outer s H vs Q E m h=>?_))
 have nd:=scX_far_rows.nd
 refine ⟨_,(aac (abh (ahm (aht T) m (aaa (pv 0) aab))) afs),?_⟩
 refine aiq h fun ss i l q B o j=>?_
 obtain ⟨n,es,rfl,g,d,a,b,c,k⟩:=q
 show EvS B _ _ [some (.st (webD n es)),none]
 row_cond go
 refine af9 j ?_
 row_cond go
 exact ⟨n,es,rfl,g,d,a,b,c,k⟩
theorem scX_hubs_for:FnScope ["web","k","rows","hubs","near","hub"] ["web","k"] (aai s_hubs_for):=by row_cond sc
theorem afq (T:Txt K mg):CanX P w K mg base "hubs_for" 9 ["web","k"] (spX K (anq mg)):=by
 obtain ⟨f,fd,D⟩:=T.d_hubs_for
 obtain ⟨b,a⟩:=T.v_MOST_HUB_TIES
 refine D.canX (D.fn.okX scX_hubs_for (fun vs H Q E h=>lenX h fun ss p r q=>by obtain ⟨n,es,d,rfl,l,j,c,g,hd,k1,k2⟩:=q;rfl) (fun cdv A outer s H vs Q E o h=>?_))
 have nd:=scX_hubs_for.nd
 refine ⟨_,(aac (aak (i:=2) nd rfl (Or.inl rfl) (as6 (alb T) (aqx (aei T)) o (aaa (pv 0) aab))) (aac (abh (ahm (ahs T) o (aaa aad (aaa (ach (v:=.int 20) rfl a ⟨_,rfl⟩) (aaa (pv 1) aab))))) afs)),?_⟩
 refine aiq h fun ss p r q B t m=>?_
 obtain ⟨n,es,d,rfl,l,j,c,g,hd,k1,k2⟩:=q
 show EvS B _ _ [some (.st (webD n es)),some (.st d),none,none,none,none]
 row_cond go
 refine aqy m ?_
 row_cond go
 by_cases hJ:Joined n es
 ·refine .inr ⟨n,es,rfl,l,j,c,g,hJ,ab9 ab1 ?_⟩
  row_cond go
  refine af9 m ?_
  row_cond go
  exact ⟨_,_,_,rfl,hd hJ,k2 hJ⟩
 ·exact .inl ⟨n,es,rfl,l,j,c,g,hJ,k1 hJ⟩
theorem scX_hub_ties:FnScope ["web","k","first","others","ties"] ["web","k"] (aai s_hub_ties):=by row_cond sc
theorem alc (T:Txt K mg):CanX P w K mg base "hub_ties" 10 ["web","k"] (spX K (anq mg)):=by
 obtain ⟨f,fd,D⟩:=T.d_hub_ties
 refine D.canX (D.fn.okX scX_hub_ties (fun vs H Q E h=>lenX h fun ss j m q=>by obtain ⟨n,es,d,rfl,g,c,a,b,hd,k1,k2⟩:=q;rfl) (fun cdv A outer s H vs Q E o h=>?_))
 have nd:=scX_hub_ties.nd
 refine ⟨_,(aac (ab6 (aat aau (ahm (afq T) o (aaa (pv 0) (aaa (pv 1) aab))) aad (fun _ _=>rfl)) (apl rfl (aan (i:=2) nd rfl (Or.inr rfl)) (aan (i:=3) nd rfl (Or.inl rfl)))) afs),?_⟩
 refine aiq h fun ss j m q B p l=>?_
 obtain ⟨n,es,d,rfl,g,c,a,b,hd,k1,k2⟩:=q
 show EvS B _ _ [some (.st (webD n es)),some (.st d),none,none,none]
 repeat (first | (refine avj l ?_) | row_cond st)
 exact ⟨n,es,d,rfl,g,c,a,b,hd,k1,k2⟩
end
theorem ald:bootBuiltins "ValueError" = some (.type "ValueError"):=by decide +kernel
def ayt (mg:Str->Option Value):VIo:=fun A ss Q=>∃ C,A=OE C/\ss=[]/\∃ w:Str,((mg "NoJoin" = some (.ref C)/\w = "NoJoin")\/(mg "NoNumber" = some (.ref C)/\w = "NoNumber"))/\Q (OE C) (.st (.str w))
def ayu:VP:=fun ss Q=>∃ (way n:Int) (es:List (Int × Int)) (d:PyData),ss=[.st (.int way),.st (webD n es),.st d]/\1<=n/\n<=100/\InN n es/\es.length<=5000/\es.Nodup/\(¬ Joined n es->Q (.st (.str "NoJoin")))/\(Joined n es->btwD 0 20 d=false->Q (.st (.str "NoNumber")))/\(Joined n es->btwD 0 20 d=true->Q (.st (.str "")))
theorem apv {a b:Int} {d:PyData} (h:btwD a b d=true):∃ n,d=.int n/\a<=n/\n<=b:=by
 cases d with
 | int n=>exact ⟨n,rfl,(of_decide_eq_true h).1,(of_decide_eq_true h).2⟩
 | _=>cases h
theorem awn {mg:Str->Option Value} {n:Int} {es:List (Int × Int)} {d:PyData} {Q:Sl->Prop} {R:Addr->Prop} (h:1<=n) (g:n<=100) (a:InN n es) (f:es.length<=5000) (hd:Joined n es->btwD 0 20 d=false) (k:∀ C (x:Str),((¬ Joined n es/\x = "NoJoin")\/(Joined n es/\x = "NoNumber"))->mg x=some (.ref C)->R C):anq mg [.st (webD n es),.st d] Q R :=
 ⟨n,es,d,rfl,h,g,a,by omega,hd,fun b C c=>k C _ (.inl ⟨b,rfl⟩) c,fun b C c=>k C _ (.inr ⟨b,rfl⟩) c⟩
section
variable {P:Program} {w:World} {K:Frag} {mg:Str->Option Value} {base:Heap}
theorem sc_law_kind:FnScope ["caught","kinds"] ["caught"] (aai s_law_kind):=by row_cond sc
theorem anr (T:Txt K mg):Can P w K mg base "_law_kind" 1 ["caught"] (spI K (ayt mg)):=by
 obtain ⟨f,fd,D⟩:=T.d_law_kind
 obtain ⟨t,d⟩:=T.x_NoJoin
 obtain ⟨c,a⟩:=T.x_NoNumber
 obtain ⟨G,x⟩:=T.x_NoTie
 obtain ⟨z,p⟩:=T.x_NoTree
 obtain ⟨r,u⟩:=T.x_NoName
 obtain ⟨b,l⟩:=T.x_NoPlace
 obtain ⟨n,y⟩:=T.x_NoRow
 obtain ⟨g,o⟩:=T.x_NoText
 refine D.can (D.fn.ok sc_law_kind (fun vs H Q E h=>lenI h fun A ss S q=>by obtain ⟨C,rfl,rfl,w,m,M⟩:=q;rfl) (fun cdv A outer s H vs Q E hr h=>?_))
 have nd:=sc_law_kind.nd
 refine ⟨_,(aac (aak (i:=1) nd rfl (Or.inl rfl) (aa3 (aaa (aal ad0 (by rfl) T.b_isinstance aa7 (aaa (pv 0) (aaa (ach (v:=.ref t) rfl d.mgx rfl) aab))) (aaa (aal ad0 (by rfl) T.b_isinstance aa7 (aaa (pv 0) (aaa (ach (v:=.ref c) rfl a.mgx rfl) aab))) aab))))
  (aac (aak (i:=1) nd rfl (Or.inl rfl) (aam afw (pv 1) (aa3 (aaa (aal ad0 (by rfl) T.b_isinstance aa7 (aaa (pv 0) (aaa (ach (v:=.ref G) rfl x.mgx rfl) aab))) (aaa (aal ad0 (by rfl) T.b_isinstance aa7 (aaa (pv 0) (aaa (ach (v:=.ref z) rfl p.mgx rfl) aab))) aab)))))
  (aac (aak (i:=1) nd rfl (Or.inl rfl) (aam afw (pv 1) (aa3 (aaa (aal aqw (by rfl) T.b_isinstance aa7 (aaa (pv 0) (aaa (aa6 (aaa (ach (v:=.ref r) rfl u.mgx rfl) (aaa (ach (v:=.ref b) rfl l.mgx rfl) (aaa (ach (v:=.ref n) rfl y.mgx rfl) (aaa (ach (v:=.ref g) rfl o.mgx rfl) aab))))) aab))) aab))))
  (aac (aba (PW.pt (ale (aav ahx (aby PySem.F.plainAttrs_list PySem.F.slot_list_count PySem.F.type_list_count asz (pv 1) (aaa ad2 aab)) aad (aax _)) (ahu (ac5 (ac1 (aal ad0 (by rfl) T.b_isinstance aa7 (aaa (pv 0) (aaa (aex (v:=.ty "ValueError") rfl T.b_ValueError ald rfl) aab))))))))
   (aag (aas ace))
   aa1)
  (aag (aas (aat aau (aa3 (aaa ace (aaa ace (aaa ace (aaa ace (aaa ace aab)))))) (aby PySem.F.plainAttrs_list PySem.F.slot_list_index PySem.F.type_list_index asx (pv 1) (aaa ad2 aab)) (fun _ _=>rfl)))))))),?_⟩
 refine aeo h fun A0 ss S q B hK=>?_
 obtain ⟨C,rfl,rfl,w,m,M⟩:=q
 show EvS B _ _ [some (.io (OE C)),none]
 obtain ⟨b1,J,I,X,Y,h3,h4,h5,U,R,Z,N,O⟩:∃ b1 J:Bool,XIn K C/\kitOne K (.ref C) (.ref t)=some b1/\kitOne K (.ref C) (.ref c)=some J/\kitOne K (.ref C) (.ref G)=some false/\kitOne K (.ref C) (.ref z)=some false/\kitOne K (.ref C) (.ref r)=some false/\kitOne K (.ref C) (.ref b)=some false/\kitOne K (.ref C) (.ref n)=some false/\kitOne K (.ref C) (.ref g)=some false/\kitOne K (.ref C) (.type "ValueError")=some true/\((b1=true/\J=false/\w = "NoJoin")\/(b1=false/\J=true/\w = "NoNumber")):=by
  rcases m with ⟨m,rfl⟩ | ⟨m,rfl⟩
  ·obtain rfl:t=C:=by have:=d.mgx.symm.trans m;cases this;rfl
   exact ⟨_,_,d.xin,T.y_NoJoin_NoJoin _ _ m m,T.y_NoJoin_NoNumber _ _ m a.mgx,T.y_NoJoin_NoTie _ _ m x.mgx,T.y_NoJoin_NoTree _ _ m p.mgx,T.y_NoJoin_NoName _ _ m u.mgx,T.y_NoJoin_NoPlace _ _ m l.mgx,T.y_NoJoin_NoRow _ _ m y.mgx,T.y_NoJoin_NoText _ _ m o.mgx,T.y_NoJoin_ValueError _ m,.inl ⟨rfl,rfl,rfl⟩⟩
  ·obtain rfl:c=C:=by have:=a.mgx.symm.trans m;cases this;rfl
   exact ⟨_,_,a.xin,T.y_NoNumber_NoJoin _ _ m d.mgx,T.y_NoNumber_NoNumber _ _ m m,T.y_NoNumber_NoTie _ _ m x.mgx,T.y_NoNumber_NoTree _ _ m p.mgx,T.y_NoNumber_NoName _ _ m u.mgx,T.y_NoNumber_NoPlace _ _ m l.mgx,T.y_NoNumber_NoRow _ _ m y.mgx,T.y_NoNumber_NoText _ _ m o.mgx,T.y_NoNumber_ValueError _ m,.inr ⟨rfl,rfl,rfl⟩⟩
 have L:PySem.W.kitAny K (.ref C) ((r :: [b,n,g]).map Value.ref)=some false:=by
  simp only [aD1,List.map_nil,PySem.W.kitAny,h5,U,R,Z]
 repeat (first
  | (refine agw (.inr rfl) I X ?_)
  | (refine agw (.inr rfl) I Y ?_)
  | (refine agw (.inr rfl) I h3 ?_)
  | (refine agw (.inr rfl) I h4 ?_)
  | (refine avm (Ds:=[b,n,g]) (.inr rfl) (by simp) I L ?_)
  | (refine ahn (.inr rfl) I N ?_)
  | (refine as4 (bs:=[b1,J,false,false,false]) ?_)
  | row_cond st)
 rw [show (!decide (((List.count true [b1,J,false,false,false]:Nat):Int)=1))=false by rcases O with ⟨rfl,rfl,_⟩ | ⟨rfl,rfl,_⟩ <;> decide]
 refine acg ?_
 rcases O with ⟨rfl,rfl,rfl⟩ | ⟨rfl,rfl,rfl⟩
 ·repeat (first | (refine ahn (.inr rfl) I N ?_) | (refine akj (bs:=[true,false,false,false,false]) (j:=0) ?_) | row_cond st)
  refine ⟨by decide,?_⟩
  row_cond go
  exact M
 ·repeat (first | (refine ahn (.inr rfl) I N ?_) | (refine akj (bs:=[false,true,false,false,false]) (j:=1) ?_) | row_cond st)
  refine ⟨by decide,?_⟩
  row_cond go
  exact M
theorem sc_law_word:FnScope ["way","web","k","e","caught"] ["way","web","k"] (aai s_law_word):=by row_cond sc
theorem aej (T:Txt K mg):Can P w K mg base "_law_word" 11 ["way","web","k"] (spP K (ayu)):=by
 obtain ⟨f,fd,D⟩:=T.d_law_word
 obtain ⟨o,m⟩:=T.x_TieError
 refine D.can (D.fn.ok sc_law_word (fun vs H Q E h=>lenP h fun ss O q=>by obtain ⟨way,n,es,d,rfl,y,I,r,t,z,k1,k2,k3⟩:=q;rfl) (fun cdv A outer s H vs Q E L h=>?_))
 have nd:=sc_law_word.nd
 refine ⟨_,(aac (aak (i:=4) nd rfl (Or.inl rfl) ac0)
  (aac (a0v (i:=3) ⟨rfl,rfl⟩ rfl m.ok rfl nd rfl rfl (a2b (aav agg (pv 0) aad (aax _))
    (akk (afq T) (aqx (agb T)) L (aaa (pv 1) (aaa (pv 2) aab)))
    (akk (alc T) (aqx (anp T)) L (aaa (pv 1) (aaa (pv 2) aab))))
   (fun W=>(aag (aak (i:=4) nd rfl (Or.inl rfl) (pv 3)))))
  (aac (aba (aav ai4 (pv 4) ac0 (aax _))
   (aag (aas ace))
   aa1)
  (aag (aas (aaf (anr T) L (aaa (pv 4) aab))))))),?_⟩
 refine abe h fun ss O q B S=>?_
 obtain ⟨way,n,es,d,rfl,y,I,r,t,z,k1,k2,k3⟩:=q
 show EvS B _ _ [some (.st (.int way)),some (.st (webD n es)),some (.st d),none,none]
 obtain ⟨l,j⟩:=T.x_NoJoin
 obtain ⟨g,c⟩:=T.x_NoNumber
 have F:XSub K l o:=apm j.exc (T.s_NoJoin_TieError _ _ j.mgx m.mgx)
 have v:XSub K g o:=apm c.exc (T.s_NoNumber_TieError _ _ c.mgx m.mgx)
 row_cond go
 refine ayf ?_
 refine a0w ?_
 row_cond go
 refine acf (fun U=>?_) (fun N=>?_)
 ·refine akl ?_
  row_cond go
  by_cases hg:Joined n es/\btwD 0 20 d=true
  ·obtain ⟨q,rfl,G,J⟩:=apv hg.2
   refine .inr ⟨n,es,q,rfl,y,I,r,by omega,hg.1,G,J,?_⟩
   row_cond go
   refine ab0 ?_
   row_cond go
   exact k3 hg.1 hg.2
  ·have hd:Joined n es->btwD 0 20 d=false:=fun p=>by
    cases e:btwD 0 20 d with
    | false=>rfl
    | true=>exact absurd ⟨p,e⟩ hg
   refine .inl (awn y (by omega) r t hd fun C x M u=>?_)
   rcases M with ⟨p,rfl⟩ | ⟨p,rfl⟩
   ·obtain rfl:l=C:=by have:=j.mgx.symm.trans u;cases this;rfl
    refine ⟨F,?_⟩
    dsimp only [List.set_cons_zero,List.set_cons_succ]
    refine ae3 (aee rfl ?_)
    dsimp only [List.set_cons_zero,List.set_cons_succ]
    repeat (first | (refine agx (.inl rfl) ?_) | row_cond st | (dsimp only [List.set_cons_zero,List.set_cons_succ];row_cond st))
    exact ⟨l,rfl,rfl,"NoJoin",.inl ⟨j.mgx,rfl⟩,k1 p⟩
   ·obtain rfl:g=C:=by have:=c.mgx.symm.trans u;cases this;rfl
    refine ⟨v,?_⟩
    dsimp only [List.set_cons_zero,List.set_cons_succ]
    refine ae3 (aee rfl ?_)
    dsimp only [List.set_cons_zero,List.set_cons_succ]
    repeat (first | (refine agx (.inl rfl) ?_) | row_cond st | (dsimp only [List.set_cons_zero,List.set_cons_succ];row_cond st))
    exact ⟨g,rfl,rfl,"NoNumber",.inr ⟨c.mgx,rfl⟩,k2 p (hd p)⟩
 ·refine akl ?_
  row_cond go
  by_cases hg:Joined n es/\btwD 0 20 d=true
  ·obtain ⟨q,rfl,G,J⟩:=apv hg.2
   refine .inr ⟨n,es,q,rfl,y,I,r,t,z,hg.1,G,J,fun ts R x a b _ _ _ _ _=>?_⟩
   row_cond go
   refine ab0 ?_
   row_cond go
   exact k3 hg.1 hg.2
  ·have hd:Joined n es->btwD 0 20 d=false:=fun p=>by
    cases e:btwD 0 20 d with
    | false=>rfl
    | true=>exact absurd ⟨p,e⟩ hg
   refine .inl (awn y (by omega) r t hd fun C x M u=>?_)
   rcases M with ⟨p,rfl⟩ | ⟨p,rfl⟩
   ·obtain rfl:l=C:=by have:=j.mgx.symm.trans u;cases this;rfl
    refine ⟨F,?_⟩
    dsimp only [List.set_cons_zero,List.set_cons_succ]
    refine ae3 (aee rfl ?_)
    dsimp only [List.set_cons_zero,List.set_cons_succ]
    repeat (first | (refine agx (.inl rfl) ?_) | row_cond st | (dsimp only [List.set_cons_zero,List.set_cons_succ];row_cond st))
    exact ⟨l,rfl,rfl,"NoJoin",.inl ⟨j.mgx,rfl⟩,k1 p⟩
   ·obtain rfl:g=C:=by have:=c.mgx.symm.trans u;cases this;rfl
    refine ⟨v,?_⟩
    dsimp only [List.set_cons_zero,List.set_cons_succ]
    refine ae3 (aee rfl ?_)
    dsimp only [List.set_cons_zero,List.set_cons_succ]
    repeat (first | (refine agx (.inl rfl) ?_) | row_cond st | (dsimp only [List.set_cons_zero,List.set_cons_succ];row_cond st))
    exact ⟨g,rfl,rfl,"NoNumber",.inr ⟨c.mgx,rfl⟩,k2 p (hd p)⟩
end
def aq4 (K:Frag):Sp:=fun vs H Q _=>∃ (a:Addr) (ns:List Int),vs=[.ref a]/\SqL K H a (ns.map V.int)/\ns.length<=63/\∀ H',Q (.bl true) H'
def awo:VP:=fun ss Q=>∃ ns:List Int,ss=[.scr ns]/\ns.length<=63/\Q (.st (.bool true))
theorem avw {K:Frag} {vs:List V} {H:Hp} {Q:VK} {E:XK} (h:aq4 K vs H Q E):spP K awo vs H Q E:=by
 obtain ⟨a,ns,rfl,b,c,k⟩:=h
 refine ⟨H,[.scr ns],fun s=>s=.st (.bool true),Same.refl _,fun a ks h=>h,.cons ⟨a,rfl,b⟩ .nil,⟨ns,rfl,c,rfl⟩,fun s e v G' H' Fv o=>?_⟩
 subst e
 have r:=o.ok.1
 cases r
 exact k _
theorem webP (n:Int) (es:List (Int × Int)):aaq (webD n es)=true:=by
 have:=afk es
 simp only [webD,aaq,plainDs,this,Bool.and_self]
theorem awp (n:Int) (es:List (Int × Int)):(webD n es).depth<=50:=by
 have h:PyData.depthAll (es.map prD)<=1:=ag6 fun d hd=>by
  obtain ⟨p,_,rfl⟩:=aB7.mp hd
  exact af6 p
 simp only [webD,PyData.depth,PyData.depthAll]
 omega
theorem aq5 (n m:Int) (es fs:List (Int × Int)):aaq (.list [webD n es,webD m fs])=true:=by
 have a:=webP n es
 have b:=webP m fs
 rw [aaq]
 simp only [plainDs,a,b,Bool.and_self]
theorem a1b (n m:Int) (es fs:List (Int × Int)):(PyData.list [webD n es,webD m fs]).depth<=60:=by
 have a:=awp n es
 have b:=awp m fs
 have h:PyData.depthAll [webD n es,webD m fs]<=51:=ag6 fun d hd=>by
  simp only [aA9,aI3,or_false] at hd
  rcases hd with rfl | rfl <;> omega
 simp only [PyData.depth]
 omega
def avx:VIo:=fun A ss Q=>∃ (n:Int) (es:List (Int × Int)),A=OSt/\ss=[.st (webD n es)]/\JWeb n es/\∀ (m:Int) (fs:List (Int × Int)),1<=m->m<=60->InN m fs->fs.length<=3600->fs.Nodup->Q OSt (.st (webD m fs))
theorem ae7 {n m:Int} {es:List (Int × Int)} (h:JWeb n es) (hm:n<=m) (p:Int × Int->Bool):InN m (es.filter p)/\(es.filter p).length<=3600/\(es.filter p).Nodup :=
 ⟨fun q a=>by have:=h.inn q (aE2.mp a).1;exact ⟨this.1,by omega,this.2.2.1,by omega⟩,aD0 (aF3 _ _) h.len,h.ps.nd.filter _⟩
section
variable {P:Program} {w:World} {K:Frag} {mg:Str->Option Value} {base:Heap}
theorem sc_law_parted:FnScope ["store","web","n","ties","place","way"] ["store","web"] (aai s_law_parted):=by row_cond sc
theorem ajp (T:Txt K mg):Can P w K mg base "_law_parted" 2 ["store","web"] (spI K (avx)):=by
 obtain ⟨f,fd,D⟩:=T.d_law_parted
 refine D.can (D.fn.ok sc_law_parted (fun vs H Q E h=>lenI h fun A ss y q=>by obtain ⟨n,es,rfl,rfl,b,k⟩:=q;rfl) (fun cdv A outer s H vs Q E v h=>?_))
 have nd:=sc_law_parted.nd
 refine ⟨_,(aac (ab6 (pv 1) (ac6 rfl (aa5 (aan (i:=2) nd rfl (Or.inr rfl)) (aa5 (aan (i:=3) nd rfl (Or.inl rfl)) acq))))
  (aac (aak (i:=4) nd rfl (Or.inr rfl) (aaf (aaj T) v (aaa (pv 0) (aaa (pv 2) aab))))
  (aac (aak (i:=5) nd rfl (Or.inl rfl) (aaf (aaj T) v (aaa (pv 0) (aaa aad aab))))
  (aac (aba (PW.pt (ahv (aav agg (pv 5) aad (aax _)) (agd (aav ae9 (pv 2) aad (aax _)))))
   (aag (aas (aa6 (aaa (pv 2) (aaa (adl rfl (N:=["tie","place"]) (src:=[none,some 4]) (by exact abp rfl rfl rfl rfl rfl rfl) (abo (pv 3)) (fun _ _ _ _=>(aan (i:=0) (show List.Nodup (["tie","place"]:List Str) by decide +kernel) rfl (Or.inl rfl) (hf:=Or.inr rfl))) (fun _ _ _ _=>agj (aav (adw v.units) (pv 1) (pv 0) rfl)) (fun _ _ _ _=>(pv 0))) aab)))))
   aa1)
  (aac (aba (PW.pt (ahv (aav agg (pv 5) aad (aax _)) (agd (aav ae9 (pv 2) aad (aax _)))))
   (aag (aas (aa6 (aaa (aam abb (aam act aad (aam aez (pv 2) aad)) (aam aea (pv 2) aad)) (aaa (adl rfl (N:=["tie","n"]) (src:=[none,some 2]) (by exact abp rfl rfl rfl rfl rfl rfl) (abo (pv 3)) (fun _ _ _ _=>(aan (i:=0) (show List.Nodup (["tie","n"]:List Str) by decide +kernel) rfl (Or.inl rfl) (hf:=Or.inr rfl))) (fun _ _ _ _=>agj (aav agg (adb ae8 (aat (show IxR _ (acl K) from aau) (pv 0) aad (fun _ _=>rfl)) (aam aez (pv 1) aad) (aax _)) (adb ae8 (aat (show IxR _ (acl K) from aau) (pv 0) aad (fun _ _=>rfl)) (aam aez (pv 1) aad) (aax _)) (aax _))) (fun _ _ _ _=>(pv 0))) aab)))))
   aa1)
  (aag (aas (aa6 (aaa (aam abb (aal (acr rfl) (by rfl) T.b_min ae0 (aaa aad (aaa (pv 2) aab))) (adp ah5 (by rfl) T.b_int aly (aaa (adb ae8 (pv 2) aad (aax _)) aab))) (aaa (adl rfl (N:=["tie","n"]) (src:=[none,some 2]) (by exact abp rfl rfl rfl rfl rfl rfl) (abo (pv 3)) (fun _ _ _ _=>(aan (i:=0) (show List.Nodup (["tie","n"]:List Str) by decide +kernel) rfl (Or.inl rfl) (hf:=Or.inr rfl))) (fun _ _ _ _=>agj (PW.pt (ale (aav ae8 (pv 1) aad (aax _)) (ahu (aav (adw v.units) aad (pv 0) rfl))))) (fun _ _ _ _=>(pv 0))) aab)))))))))),?_⟩
 refine aeo h fun C ss y q B F=>?_
 obtain ⟨n,es,rfl,rfl,b,k⟩:=q
 show EvS B _ _ [some (.io OSt),some (.st (webD n es)),none,none,none,none]
 have hn:=b.lo
 have j:=b.hi
 have x:=b.len
 row_cond go
 refine ⟨n,rfl,rfl,by omega,by omega,fun place p0 z=>?_⟩
 row_cond go
 refine ⟨3,rfl,rfl,by omega,by omega,fun way G I=>?_⟩
 rcases (show way=0\/way=1\/way=2 by omega) with rfl | rfl | rfl
 ·by_cases hn1:1 < n
  ·row_cond go
   refine acz (xs:=es) (f:=prD) prD (fun p => !(p.1 == place || p.2 == place)) rfl (by omega) (fun p t r u=>?_) ?_
   ·row_cond go
    refine amp rfl (show plainDs [.int p.1,.int p.2]=true from rfl) (by simp [PyData.depth]) ?_
    row_cond go
    refine ⟨?_,rfl,fun _=>?_⟩
    ·rw [aF5 rfl]
     simp [List.any_cons,PyData.eqv]
    ·row_cond go
     exact rfl
   ·row_cond go
    obtain ⟨c,a,d⟩:=ae7 b (Int.le_refl n) (fun p => !(p.1 == place || p.2 == place))
    exact k n _ hn j c a d
  ·row_cond go
   refine acz (xs:=es) (f:=prD) prD (fun p=>decide (n < 60) || !(p.1 == 0 || p.2 == 0)) rfl (by omega) (fun p t r u=>?_) ?_
   ·by_cases hm:n < 60
    ·row_cond go
     refine ⟨by rw [aD8 hm];rfl,rfl,fun _=>?_⟩
     row_cond go
     exact rfl
    ·exfalso;omega
   ·row_cond go
    obtain ⟨m,hm,o,l,g⟩:∃ m:Int,((if n < 60 then n else 60)+if decide (n < 60)=true then 1 else 0)=m/\n<=m/\1<=m/\m<=60:=⟨_,rfl,by by_cases h:n < 60 <;> simp [h] <;> omega,by by_cases h:n < 60 <;> simp [h] <;> omega,by by_cases h:n < 60 <;> simp [h] <;> omega⟩
    rw [hm]
    obtain ⟨c,a,d⟩:=ae7 b o (fun p=>decide (n < 60) || !(p.1 == 0 || p.2 == 0))
    exact k m _ l g c a d
 ·by_cases hn1:1 < n
  ·row_cond go
   refine acz (xs:=es) (f:=prD) prD (fun p=>decide (p.1 < n / 2) == decide (p.2 < n / 2)) rfl (by omega) (fun p t r u=>?_) ?_
   ·row_cond go
    intro _
    row_cond go
    exact rfl
   ·row_cond go
    obtain ⟨c,a,d⟩:=ae7 b (Int.le_refl n) (fun p=>decide (p.1 < n / 2) == decide (p.2 < n / 2))
    rw [show 2 * (n / 2)+n % 2=n by omega]
    exact k n _ hn j c a d
  ·row_cond go
   refine acz (xs:=es) (f:=prD) prD (fun p=>decide (n < 60) || !(p.1 == 0 || p.2 == 0)) rfl (by omega) (fun p t r u=>?_) ?_
   ·by_cases hm:n < 60
    ·row_cond go
     refine ⟨by rw [aD8 hm];rfl,rfl,fun _=>?_⟩
     row_cond go
     exact rfl
    ·exfalso;omega
   ·row_cond go
    obtain ⟨m,hm,o,l,g⟩:∃ m:Int,((if n < 60 then n else 60)+if decide (n < 60)=true then 1 else 0)=m/\n<=m/\1<=m/\m<=60:=⟨_,rfl,by by_cases h:n < 60 <;> simp [h] <;> omega,by by_cases h:n < 60 <;> simp [h] <;> omega,by by_cases h:n < 60 <;> simp [h] <;> omega⟩
    rw [hm]
    obtain ⟨c,a,d⟩:=ae7 b o (fun p=>decide (n < 60) || !(p.1 == 0 || p.2 == 0))
    exact k m _ l g c a d
 ·row_cond go
  refine acz (xs:=es) (f:=prD) prD (fun p=>decide (n < 60) || !(p.1 == 0 || p.2 == 0)) rfl (by omega) (fun p t r u=>?_) ?_
  ·by_cases hm:n < 60
   ·row_cond go
    refine ⟨by rw [aD8 hm];rfl,rfl,fun _=>?_⟩
    row_cond go
    exact rfl
   ·row_cond go
    refine amp rfl (show plainDs [.int p.1,.int p.2]=true from rfl) (by simp [PyData.depth]) ?_
    row_cond go
    refine ⟨?_,rfl,fun _=>?_⟩
    ·rw [aF5 rfl,aD7 hm]
     simp [List.any_cons,PyData.eqv]
    ·row_cond go
     exact rfl
  ·row_cond go
   obtain ⟨m,hm,o,l,g⟩:∃ m:Int,((if n < 60 then n else 60)+if decide (n < 60)=true then 1 else 0)=m/\n<=m/\1<=m/\m<=60:=⟨_,rfl,by by_cases h:n < 60 <;> simp [h] <;> omega,by by_cases h:n < 60 <;> simp [h] <;> omega,by by_cases h:n < 60 <;> simp [h] <;> omega⟩
   rw [hm]
   obtain ⟨c,a,d⟩:=ae7 b o (fun p=>decide (n < 60) || !(p.1 == 0 || p.2 == 0))
   exact k m _ l g c a d
def badH:List PyData:=[.int (-1),.int 21,.bool true,.bool false,.none,.str "1",.int 10000000000000000000000000,.list [.int 1],.tuple [.int 1],.dict (List.map (fun p:Key × PyData=>(kD p.fst,p.snd)) []),.int (0 - 100000000000000000000),.int 22]
theorem a1c:∀ d∈badH,btwD 0 20 d=false:=by
 intro d hd
 simp only [badH,aA9,aI3,or_false] at hd
 rcases hd with rfl | rfl | rfl | rfl | rfl | rfl | rfl | rfl | rfl | rfl | rfl | rfl <;> first | rfl | decide
theorem ayv {r:Int} (b:0<=r) (c:r < 12):∃ v,atI badH r=some v/\btwD 0 20 v=false:=by
 have a:r.toNat < badH.length:=by show r.toNat < 12;omega
 exact ⟨badH[r.toNat]'a,afj b (aA0 a),a1c _ (aF1 _)⟩
theorem sc_law:FnScope ["script","at","store","web","parted","kept","bad","way","k"] ["script"] (aai s_law):=by row_cond sc
theorem ayw (T:Txt K mg) {f:Addr} {fd:FuncData} (D:DefAt K mg "law" s_law ["script"] f fd):FnOk P w K mg base CX0 12 f fd ["script"] (spP K (awo)):=by
 refine D.fn.ok sc_law (fun vs H Q E h=>lenP h fun ss Q' q=>by obtain ⟨ns,rfl,R,Y⟩:=q;rfl) (fun cdv A outer s H vs Q E a h=>?_)
 have nd:=sc_law.nd
 refine ⟨_,(aac (ab7 aJ6 rfl (abw rfl T.b_range (aaa (aal (acr rfl) (by rfl) T.b_min ae0 (aaa (aal (ah4 rfl) (by rfl) T.b_max ads (aaa (aal abz (by rfl) T.b_len ac8 (aaa (pv 0) aab)) (aaa aad aab))) (aaa aad aab))) aab)) (aan (i:=1) nd rfl (Or.inl rfl))
   (aac (aak (i:=2) nd rfl (Or.inl rfl) (aaf (ak6 T) a (aaa (aaf (ang T) a (aaa (pv 0) (aaa (pv 1) aab))) aab)))
    (aac (aak (i:=3) nd rfl (Or.inl rfl) (aaf (an8 T) a (aaa (pv 2) aab)))
    (aac (aak (i:=4) nd rfl (Or.inl rfl) (aaf (ajp T) a (aaa (pv 2) (aaa (pv 3) aab))))
    (aac (aak (i:=5) nd rfl (Or.inl rfl) (aa3 (aaa (aa6 (aaa (aat aau (pv 3) aad (fun _ _=>rfl)) (aaa (adp ail (by rfl) T.b_list agk (aaa (aat aau (pv 3) aad (fun _ _=>rfl)) aab)) aab))) (aaa (aa6 (aaa (aat aau (pv 4) aad (fun _ _=>rfl)) (aaa (adp ail (by rfl) T.b_list agk (aaa (aat aau (pv 4) aad (fun _ _=>rfl)) aab)) aab))) aab))))
    (aac (aak (i:=6) nd rfl (Or.inl rfl) (aat aau (aa3 (by (refine' aaa (hs:=?C12) ?A12 ?B12;(case C12=>exact rfl);(case A12=>exact (a1e ay4 aad));(case B12=>refine' aaa (hs:=?C11) ?A11 ?B11;(case C11=>exact rfl);(case A11=>exact aad);(case B11=>refine' aaa (hs:=?C10) ?A10 ?B10;(case C10=>exact rfl);(case A10=>exact ad2);(case B10=>refine' aaa (hs:=?C9) ?A9 ?B9;(case C9=>exact rfl);(case A9=>exact ad2);(case B9=>refine' aaa (hs:=?C8) ?A8 ?B8;(case C8=>exact rfl);(case A8=>exact ac0);(case B8=>refine' aaa (hs:=?C7) ?A7 ?B7;(case C7=>exact rfl);(case A7=>exact ace);(case B7=>refine' aaa (hs:=?C6) ?A6 ?B6;(case C6=>exact rfl);(case A6=>exact (ai3 (n:=10000000000000000000000000) (by decide) (by refine ⟨by decide,by decide,by decide⟩)));(case B6=>refine' aaa (hs:=?C5) ?A5 ?B5;(case C5=>exact rfl);(case A5=>exact (aa3 (aaa aad aab)));(case B5=>refine' aaa (hs:=?C4) ?A4 ?B4;(case C4=>exact rfl);(case A4=>exact (aa6 (aaa aad aab)));(case B4=>refine' aaa (hs:=?C3) ?A3 ?B3;(case C3=>exact rfl);(case A3=>exact alv);(case B3=>refine' aaa (hs:=?C2) ?A2 ?B2;(case C2=>exact rfl);(case A2=>exact (aam abx aad (ai3 (n:=100000000000000000000) (by decide) (by refine ⟨by decide,by decide,by decide⟩))));(case B2=>refine' aaa (hs:=?C1) ?A1 ?B1;(case C1=>exact rfl);(case A1=>exact aad);(case B1=>exact aab))))))))))))))) (aaf (aaj T) a (aaa (pv 2) (aaa aad aab))) (fun _ _=>rfl)))
    (aac (ab7 aJ6 rfl (abw rfl T.b_range (aaa aad aab)) (aan (i:=7) nd rfl (Or.inl rfl))
     (aac (aba (PW.pt (ale (aav ahx (aaf (aej T) a (aaa (pv 7) (aaa (pv 3) (aaa (pv 6) aab)))) ace (aax _)) (ahu (aav ahx (aaf (aej T) a (aaa (pv 7) (aaa (pv 3) (aaa (aaf (aaj T) a (aaa (pv 2) (aaa aad aab))) aab)))) ace (aax _)))))
       (aag (aas ad2))
       aa1)
      (aag (aba (aav (azo a.units) ac0 (aaf (ahq T) a (aaa (pv 4) (aaa aad aab))) rfl)
       (aag (ab7 aJ6 rfl (abo (aa3 (aaa (pv 6) (aaa (aaf (aaj T) a (aaa (pv 2) (aaa aad aab))) aab)))) (aan (i:=8) nd rfl (Or.inl rfl))
         (aag (aba (aav ahx (aaf (aej T) a (aaa (pv 7) (aaa (pv 4) (aaa (pv 8) aab)))) ace (aax _))
           (aag (aas ad2))
           aa1))))
       aa1))))
    (aag (aba (aav (azn a.units) (aa3 (aaa (pv 3) (aaa (pv 4) aab))) (pv 5) (aax _))
     (aag (aas ad2))
     aa1)))))))))
  (aag (aas ad2))),?_⟩
 refine abe h fun ss Q' q B hK=>?_
 obtain ⟨ns,rfl,R,Y⟩:=q
 show EvS B _ _ [some (.scr ns),none,none,none,none,none,none,none,none]
 row_cond go
 refine adg (fun i e=>∃ G L J M I N x b,e=[some (.scr ns),G,L,J,M,I,N,x,b]) ⟨_,_,_,_,_,_,_,_,rfl⟩ ?_ ?_
 ·rintro i e hi ⟨G,L,J,M,I,N,x,b,rfl⟩
  have S:(i:Int) < 20:=by
   revert hi
   split <;> split <;> omega
  row_cond go
  refine ⟨ns,0+(i:Int),rfl,by omega,by omega,fun c=>?_⟩
  row_cond go
  refine ⟨c,rfl,fun g t u=>?_⟩
  repeat (first | (refine avq 2 rfl ?_) | row_cond st)
  refine ⟨rfl,rfl,fun n es p=>?_⟩
  have hn:=p.lo
  have a1:=p.hi
  have F:=p.inn
  have X:Joined n es:=p.conn.joined (by omega)
  have U:=p.len
  row_cond go
  refine ⟨n,es,rfl,rfl,p,fun m fs m0 m1 W f2 f3=>?_⟩
  repeat (first | (refine abr (aka ?_)) | row_cond st)
  refine ⟨12,rfl,rfl,by omega,by omega,fun r r0 Z=>?_⟩
  obtain ⟨o,y,hb⟩:=ayv r0 Z
  unfold badH at y
  row_cond go
  refine adg (fun j e=>∃ x b,e=[some (.scr ns),some (.st (.int (0+(i:Int)))),some (.own OSt),some (.st (webD n es)),some (.st (webD m fs)),some (.own (OL [webD n es,webD m fs])),some (.st o),x,b]) ⟨_,_,rfl⟩ ?_ ?_
  ·rintro j e hj ⟨x,b,rfl⟩
   row_cond go
   refine ⟨_,n,es,o,rfl,hn,by omega,F,by omega,p.ps.nd,fun z=>absurd X z,fun _ _=>?_,fun _ z=>by rw [hb] at z;cases z⟩
   row_cond go
   refine ⟨21,rfl,rfl,by omega,by omega,fun q q0 q1=>?_⟩
   row_cond go
   refine ⟨_,n,es,.int q,rfl,hn,by omega,F,by omega,p.ps.nd,fun z=>absurd X z,fun _ z=>?_,fun _ _=>?_⟩
   ·rw [show btwD 0 20 (.int q)=true from aD8 ⟨q0,by omega⟩] at z;cases z
   row_cond go
   refine ⟨m,0,fs,rfl,by omega,W,by omega,by omega,by omega,?_⟩
   row_cond go
   refine agp rfl aj8 (by simp [PyData.depth]) ?_
   rw [aF6 aB0]
   cases ea:(lab m.toNat (Gr.farO (Tied fs) 0)).any (fun z=>PyData.eqv z .none) with
   | false =>
    row_cond go
    exact ⟨_,_,rfl⟩
   | true =>
    have C:¬ Joined m fs:=fun O=>by
     obtain ⟨v,v0,G,e⟩:=lab_any.mp ea
     obtain ⟨d,hd⟩:=O v v0 (by omega)
     exact Gr.farO_none.mp e d hd
    row_cond go
    refine ⟨21,rfl,rfl,by omega,by omega,fun q2 a0 a2=>?_⟩
    row_cond go
    refine acw (xs:=[o,.int q2]) (f:=id) (fun l e=>∃ b,e=[some (.scr ns),some (.st (.int (0+(i:Int)))),some (.own OSt),some (.st (webD n es)),some (.st (webD m fs)),some (.own (OL [webD n es,webD m fs])),some (.st o),some (.st (.int (0+(j:Int)))),b]) ⟨_,rfl⟩ ?_ ?_
    ·rintro l d e hl ⟨b,rfl⟩
     show EvG B _ (.st d) _ _
     row_cond go
     refine ⟨_,m,fs,d,rfl,m0,by omega,W,by omega,f3,fun _=>?_,fun z=>absurd z C,fun z=>absurd z C⟩
     row_cond go
     exact ⟨_,rfl⟩
    ·rintro e ⟨b,rfl⟩
     exact ⟨_,_,rfl⟩
  ·rintro e ⟨x,b,rfl⟩
   row_cond go
   refine axh (aq5 n m es fs) (aq5 n m es fs) (a1b n m es fs) ?_
   rw [au5 (aq5 n m es fs)]
   row_cond go
   exact ⟨_,_,_,_,_,_,_,_,rfl⟩
 ·rintro e ⟨G,L,J,M,I,N,x,b,rfl⟩
  row_cond go
  exact Y
theorem a1d (T:Txt K mg) {f:Addr} {fd:FuncData} (D:DefAt K mg "law" s_law ["script"] f fd):FnOk P w K mg base CX0 12 f fd ["script"] (aq4 K):=(ayw T D).imp fun _ _ _ _ h=>avw h
end
theorem len0 {α:Type} {us:List α} (h:us.length=0):us=[]:=aH2 h
theorem len1 {α:Type} {us:List α} (h:us.length=1):∃ a0,us=[a0]:=by
 cases us with
 | nil=>cases h
 | cons a us=>exact ⟨a,by rw [len0 (Nat.succ.inj h)]⟩
theorem len2 {α:Type} {us:List α} (h:us.length=2):∃ a0 a1,us=[a0,a1]:=by
 cases us with
 | nil=>cases h
 | cons a us=>obtain ⟨a1,e⟩:=len1 (Nat.succ.inj h);exact ⟨a,a1,by rw [e]⟩
theorem len3 {α:Type} {us:List α} (h:us.length=3):∃ a0 a1 b,us=[a0,a1,b]:=by
 cases us with
 | nil=>cases h
 | cons a us=>obtain ⟨a1,b,e⟩:=len2 (Nat.succ.inj h);exact ⟨a,a1,b,by rw [e]⟩
def Bnd (x:Str) (st:Stmt) (ps:List Str):Prop:=∀ (kV doc pm:Value) (an:Option Addr) (cdv ct:Value) (us:List Value),us.length=ps.length->bindArgs (fnOf x x (aci st) (abu st) (aai st) .none kV doc pm an cdv ct) ⟨us,[]⟩=pure (ps.zip us)
def FnIn (K:Frag) (x:Str) (st:Stmt):Prop:=∃ f oc od kV dc pm an cd ct sl,nsIn K mainGlobals x=some (some (.ref f))/\K.lookup f=some ⟨oc,od,.func (fnOf x x (aci st) (abu st) (aai st) .none kV dc pm an cd ct),sl⟩/\codeIn K cd x=true/\keepIn K (.ref f)=true
theorem fn_in {K:Frag} {x:Str} {st:Stmt} {f:Addr} {od an:Option Addr} {sl:Array (Option Value)} {oc kV d pm b ct:Value} (a:nsIn K mainGlobals x=some (some (.ref f))) (l:K.lookup f=some ⟨oc,od,.func (fnOf x x (aci st) (abu st) (aai st) .none kV d pm an b ct),sl⟩) (c:codeIn K b x=true) (k:keepIn K (.ref f)=true):FnIn K x st:=⟨f,oc,od,kV,d,pm,an,b,ct,sl,a,l,c,k⟩
theorem bnd1 {st:Stmt} {x:Str} {ps:List Str} (c:ps.length=1) (h:∀ (kV doc pm:Value) (an:Option Addr) (cdv ct:Value) (a:Value),bindArgs (fnOf x x (aci st) (abu st) (aai st) .none kV doc pm an cdv ct) ⟨[a],[]⟩=pure (ps.zip [a])):Bnd x st ps:=by
 intro kV doc pm an cdv ct us b
 rw [c] at b
 obtain ⟨_,rfl⟩:=len1 b
 exact h _ _ _ _ _ _ _
theorem bnd2 {st:Stmt} {x:Str} {ps:List Str} (d:ps.length=2) (h:∀ (kV doc pm:Value) (an:Option Addr) (cdv ct:Value) (c b:Value),bindArgs (fnOf x x (aci st) (abu st) (aai st) .none kV doc pm an cdv ct) ⟨[c,b],[]⟩=pure (ps.zip [c,b])):Bnd x st ps:=by
 intro kV doc pm an cdv ct us a
 rw [d] at a
 obtain ⟨_,_,rfl⟩:=len2 a
 exact h _ _ _ _ _ _ _ _
theorem bnd3 {st:Stmt} {x:Str} {ps:List Str} (f:ps.length=3) (h:∀ (kV doc pm:Value) (an:Option Addr) (cdv ct:Value) (d b c:Value),bindArgs (fnOf x x (aci st) (abu st) (aai st) .none kV doc pm an cdv ct) ⟨[d,b,c],[]⟩=pure (ps.zip [d,b,c])):Bnd x st ps:=by
 intro kV doc pm an cdv ct us a
 rw [f] at a
 obtain ⟨_,_,_,rfl⟩:=len3 a
 exact h _ _ _ _ _ _ _ _ _
theorem aay {K:Frag} {h:Heap} {mg:Str->Option Value} {x:Str} {st:Stmt} {ps:List Str} (X:K.In h) (G:h.Ns mainGlobals mg) (q:FnIn K x st)
  (hb:Bnd x st ps):∃ f fd,DefAt K mg x st ps f fd:=by
 obtain ⟨f,oc,od,kV,b,pm,an,d,ct,sl,a,l,c,k⟩:=q
 exact ⟨_,_,have F:=azc (st:=st) l c k;⟨F,mg_of X G a,F.binds hb⟩⟩
theorem aa0 {K:Frag} {h:Heap} {mg:Str->Option Value} {r c:Str} {b:Bool} {C D:Addr} (X:K.In h) (G:h.Ns mainGlobals mg) (a:nsIn K mainGlobals r=some (some (.ref C))) (d:nsIn K mainGlobals c=some (some (.ref D))) (y:kitOne K (.ref C) (.ref D)=some b):YF K mg r c b:=fun C D g f=>by
 rw [mg_of X G a] at g
 rw [mg_of X G d] at f
 cases g;cases f;exact y
theorem txt_mk {K:Frag} {h:Heap} {mg:Str->Option Value} (X:K.In h) (G:h.Ns mainGlobals mg)
  {v:Tok} {l:Addr} {d:Addr} {g:Addr} {j:Addr} {o:Addr} {a:Addr} {n:Addr} {p:Addr} {r:Addr} 
  (h0:FnIn K "is_whole" s_is_whole)
  (h1:FnIn K "is_between" s_is_between)
  (h2:FnIn K "need_number" s_need_number)
  (h3:FnIn K "is_place" s_is_place)
  (h4:FnIn K "is_tie" s_is_tie)
  (h5:FnIn K "are_ties" s_are_ties)
  (h6:FnIn K "is_rising" s_is_rising)
  (h7:FnIn K "tied_places" s_tied_places)
  (h8:FnIn K "far_from" s_far_from)
  (h9:FnIn K "need_place" s_need_place)
  (c4:FnIn K "all_far" s_all_far)
  (c3:FnIn K "is_joined" s_is_joined)
  (c0:FnIn K "need_joined" s_need_joined)
  (c1:FnIn K "far_rows" s_far_rows)
  (c7:FnIn K "most_far" s_most_far)
  (b0:FnIn K "farthest_two" s_farthest_two)
  (b5:FnIn K "with_ties" s_with_ties)
  (c9:FnIn K "hubs_for" s_hubs_for)
  (b7:FnIn K "hub_ties" s_hub_ties)
  (b9:FnIn K "_law_cell" s_law_cell)
  (c6:FnIn K "_law_store" s_law_store)
  (c5:FnIn K "_law_take" s_law_take)
  (d1:FnIn K "_law_tree_ties" s_law_tree_ties)
  (b8:FnIn K "_law_renumbered" s_law_renumbered)
  (b1:FnIn K "_law_tree" s_law_tree)
  (b4:FnIn K "_law_crowd" s_law_crowd)
  (b3:FnIn K "_law_web" s_law_web)
  (b2:FnIn K "_law_far_from" s_law_far_from)
  (b6:FnIn K "_law_kind" s_law_kind)
  (d0:FnIn K "_law_word" s_law_word)
  (c2:FnIn K "_law_parted" s_law_parted)
  (c8:FnIn K "law" s_law)
  (z:nsIn K mainGlobals "ValueError" = some none)
  (a6:nsIn K mainGlobals "all" = some none)
  (a3:nsIn K mainGlobals "max" = some none)
  (S:nsIn K mainGlobals "sorted" = some none)
  (Z:nsIn K mainGlobals "range" = some none)
  (a2:nsIn K mainGlobals "list" = some none)
  (y:nsIn K mainGlobals "isinstance" = some none)
  (a8:nsIn K mainGlobals "int" = some none)
  (a4:nsIn K mainGlobals "len" = some none)
  (a7:nsIn K mainGlobals "set" = some none)
  (a5:nsIn K mainGlobals "min" = some none)
  (a1:nsIn K mainGlobals "bool" = some none)
  (a0:nsIn K mainGlobals "tuple" = some none)
  (a9:nsIn K mainGlobals "zip" = some none)
  (w:nsIn K mainGlobals "MOST_HUB_TIES" = some (some (.int 20 v)))
  (m:nsIn K mainGlobals "TieError" = some (some (.ref l))) (B:excIn K l bmV "ValueError.__new__" = true) (A:XIn K l)
  (c:nsIn K mainGlobals "NoPlace" = some (some (.ref d))) (H:excIn K d bmV "ValueError.__new__" = true) (I:XIn K d)
  (f:nsIn K mainGlobals "NoJoin" = some (some (.ref g))) (N:excIn K g bmV "ValueError.__new__" = true) (P:XIn K g)
  (i:nsIn K mainGlobals "NoTie" = some (some (.ref j))) (W:excIn K j bmV "ValueError.__new__" = true) (U:XIn K j)
  (t:nsIn K mainGlobals "NoTree" = some (some (.ref o))) (O:excIn K o bmV "ValueError.__new__" = true) (J:XIn K o)
  (b:nsIn K mainGlobals "NoNumber" = some (some (.ref a))) (E:excIn K a bmV "ValueError.__new__" = true) (F:XIn K a)
  (s:nsIn K mainGlobals "NoText" = some (some (.ref n))) (L:excIn K n bmV "ValueError.__new__" = true) (M:XIn K n)
  (q:nsIn K mainGlobals "NoName" = some (some (.ref p))) (Q:excIn K p bmV "ValueError.__new__" = true) (R:XIn K p)
  (u:nsIn K mainGlobals "NoRow" = some (some (.ref r))) (Y:excIn K r bmV "ValueError.__new__" = true) (T:XIn K r)
  (y_NoPlace_TieError:kitOne K (.ref d) (.ref l)=some true)
  (y_NoPlace_NoPlace:kitOne K (.ref d) (.ref d)=some true)
  (y_NoPlace_NoJoin:kitOne K (.ref d) (.ref g)=some false)
  (y_NoPlace_NoTie:kitOne K (.ref d) (.ref j)=some false)
  (y_NoPlace_NoTree:kitOne K (.ref d) (.ref o)=some false)
  (y_NoPlace_NoNumber:kitOne K (.ref d) (.ref a)=some false)
  (y_NoPlace_NoText:kitOne K (.ref d) (.ref n)=some false)
  (y_NoPlace_NoName:kitOne K (.ref d) (.ref p)=some false)
  (y_NoPlace_NoRow:kitOne K (.ref d) (.ref r)=some false)
  (y_NoPlace_ValueError:kitOne K (.ref d) (.type "ValueError")=some true)
  (s_NoPlace_TieError:mroIn K d (.ref l)=some true)
  (y_NoJoin_TieError:kitOne K (.ref g) (.ref l)=some true)
  (y_NoJoin_NoPlace:kitOne K (.ref g) (.ref d)=some false)
  (y_NoJoin_NoJoin:kitOne K (.ref g) (.ref g)=some true)
  (y_NoJoin_NoTie:kitOne K (.ref g) (.ref j)=some false)
  (y_NoJoin_NoTree:kitOne K (.ref g) (.ref o)=some false)
  (y_NoJoin_NoNumber:kitOne K (.ref g) (.ref a)=some false)
  (y_NoJoin_NoText:kitOne K (.ref g) (.ref n)=some false)
  (y_NoJoin_NoName:kitOne K (.ref g) (.ref p)=some false)
  (y_NoJoin_NoRow:kitOne K (.ref g) (.ref r)=some false)
  (y_NoJoin_ValueError:kitOne K (.ref g) (.type "ValueError")=some true)
  (s_NoJoin_TieError:mroIn K g (.ref l)=some true)
  (y_NoTie_TieError:kitOne K (.ref j) (.ref l)=some true)
  (y_NoTie_NoPlace:kitOne K (.ref j) (.ref d)=some false)
  (y_NoTie_NoJoin:kitOne K (.ref j) (.ref g)=some false)
  (y_NoTie_NoTie:kitOne K (.ref j) (.ref j)=some true)
  (y_NoTie_NoTree:kitOne K (.ref j) (.ref o)=some false)
  (y_NoTie_NoNumber:kitOne K (.ref j) (.ref a)=some false)
  (y_NoTie_NoText:kitOne K (.ref j) (.ref n)=some false)
  (y_NoTie_NoName:kitOne K (.ref j) (.ref p)=some false)
  (y_NoTie_NoRow:kitOne K (.ref j) (.ref r)=some false)
  (y_NoTie_ValueError:kitOne K (.ref j) (.type "ValueError")=some true)
  (s_NoTie_TieError:mroIn K j (.ref l)=some true)
  (y_NoNumber_TieError:kitOne K (.ref a) (.ref l)=some true)
  (y_NoNumber_NoPlace:kitOne K (.ref a) (.ref d)=some false)
  (y_NoNumber_NoJoin:kitOne K (.ref a) (.ref g)=some false)
  (y_NoNumber_NoTie:kitOne K (.ref a) (.ref j)=some false)
  (y_NoNumber_NoTree:kitOne K (.ref a) (.ref o)=some false)
  (y_NoNumber_NoNumber:kitOne K (.ref a) (.ref a)=some true)
  (y_NoNumber_NoText:kitOne K (.ref a) (.ref n)=some false)
  (y_NoNumber_NoName:kitOne K (.ref a) (.ref p)=some false)
  (y_NoNumber_NoRow:kitOne K (.ref a) (.ref r)=some false)
  (y_NoNumber_ValueError:kitOne K (.ref a) (.type "ValueError")=some true)
  (s_NoNumber_TieError:mroIn K a (.ref l)=some true)
  : Txt K mg where
  x_TieError:=⟨_,mg_of X G m,B,A⟩
  x_NoPlace:=⟨_,mg_of X G c,H,I⟩
  x_NoJoin:=⟨_,mg_of X G f,N,P⟩
  x_NoTie:=⟨_,mg_of X G i,W,U⟩
  x_NoTree:=⟨_,mg_of X G t,O,J⟩
  x_NoNumber:=⟨_,mg_of X G b,E,F⟩
  x_NoText:=⟨_,mg_of X G s,L,M⟩
  x_NoName:=⟨_,mg_of X G q,Q,R⟩
  x_NoRow:=⟨_,mg_of X G u,Y,T⟩
  y_NoPlace_TieError:=aa0 X G c m y_NoPlace_TieError
  y_NoPlace_NoPlace:=aa0 X G c c y_NoPlace_NoPlace
  y_NoPlace_NoJoin:=aa0 X G c f y_NoPlace_NoJoin
  y_NoPlace_NoTie:=aa0 X G c i y_NoPlace_NoTie
  y_NoPlace_NoTree:=aa0 X G c t y_NoPlace_NoTree
  y_NoPlace_NoNumber:=aa0 X G c b y_NoPlace_NoNumber
  y_NoPlace_NoText:=aa0 X G c s y_NoPlace_NoText
  y_NoPlace_NoName:=aa0 X G c q y_NoPlace_NoName
  y_NoPlace_NoRow:=aa0 X G c u y_NoPlace_NoRow
  y_NoPlace_ValueError:=fun C x=>by rw [mg_of X G c] at x;cases x;exact y_NoPlace_ValueError
  s_NoPlace_TieError:=fun C D x e2=>by rw [mg_of X G c] at x;rw [mg_of X G m] at e2;cases x;cases e2;exact s_NoPlace_TieError
  y_NoJoin_TieError:=aa0 X G f m y_NoJoin_TieError
  y_NoJoin_NoPlace:=aa0 X G f c y_NoJoin_NoPlace
  y_NoJoin_NoJoin:=aa0 X G f f y_NoJoin_NoJoin
  y_NoJoin_NoTie:=aa0 X G f i y_NoJoin_NoTie
  y_NoJoin_NoTree:=aa0 X G f t y_NoJoin_NoTree
  y_NoJoin_NoNumber:=aa0 X G f b y_NoJoin_NoNumber
  y_NoJoin_NoText:=aa0 X G f s y_NoJoin_NoText
  y_NoJoin_NoName:=aa0 X G f q y_NoJoin_NoName
  y_NoJoin_NoRow:=aa0 X G f u y_NoJoin_NoRow
  y_NoJoin_ValueError:=fun C x=>by rw [mg_of X G f] at x;cases x;exact y_NoJoin_ValueError
  s_NoJoin_TieError:=fun C D x e2=>by rw [mg_of X G f] at x;rw [mg_of X G m] at e2;cases x;cases e2;exact s_NoJoin_TieError
  y_NoTie_TieError:=aa0 X G i m y_NoTie_TieError
  y_NoTie_NoPlace:=aa0 X G i c y_NoTie_NoPlace
  y_NoTie_NoJoin:=aa0 X G i f y_NoTie_NoJoin
  y_NoTie_NoTie:=aa0 X G i i y_NoTie_NoTie
  y_NoTie_NoTree:=aa0 X G i t y_NoTie_NoTree
  y_NoTie_NoNumber:=aa0 X G i b y_NoTie_NoNumber
  y_NoTie_NoText:=aa0 X G i s y_NoTie_NoText
  y_NoTie_NoName:=aa0 X G i q y_NoTie_NoName
  y_NoTie_NoRow:=aa0 X G i u y_NoTie_NoRow
  y_NoTie_ValueError:=fun C x=>by rw [mg_of X G i] at x;cases x;exact y_NoTie_ValueError
  s_NoTie_TieError:=fun C D x e2=>by rw [mg_of X G i] at x;rw [mg_of X G m] at e2;cases x;cases e2;exact s_NoTie_TieError
  y_NoNumber_TieError:=aa0 X G b m y_NoNumber_TieError
  y_NoNumber_NoPlace:=aa0 X G b c y_NoNumber_NoPlace
  y_NoNumber_NoJoin:=aa0 X G b f y_NoNumber_NoJoin
  y_NoNumber_NoTie:=aa0 X G b i y_NoNumber_NoTie
  y_NoNumber_NoTree:=aa0 X G b t y_NoNumber_NoTree
  y_NoNumber_NoNumber:=aa0 X G b b y_NoNumber_NoNumber
  y_NoNumber_NoText:=aa0 X G b s y_NoNumber_NoText
  y_NoNumber_NoName:=aa0 X G b q y_NoNumber_NoName
  y_NoNumber_NoRow:=aa0 X G b u y_NoNumber_NoRow
  y_NoNumber_ValueError:=fun C x=>by rw [mg_of X G b] at x;cases x;exact y_NoNumber_ValueError
  s_NoNumber_TieError:=fun C D x e2=>by rw [mg_of X G b] at x;rw [mg_of X G m] at e2;cases x;cases e2;exact s_NoNumber_TieError
  b_ValueError:=mg_none_of X G z
  b_all:=mg_none_of X G a6
  b_max:=mg_none_of X G a3
  b_sorted:=mg_none_of X G S
  b_range:=mg_none_of X G Z
  b_list:=mg_none_of X G a2
  b_isinstance:=mg_none_of X G y
  b_int:=mg_none_of X G a8
  b_len:=mg_none_of X G a4
  b_set:=mg_none_of X G a7
  b_min:=mg_none_of X G a5
  b_bool:=mg_none_of X G a1
  b_tuple:=mg_none_of X G a0
  b_zip:=mg_none_of X G a9
  v_MOST_HUB_TIES:=⟨_,mg_of X G w⟩
  d_is_whole:=aay X G h0 (bnd1 rfl fun _ _ _ _ _ _ _=>rfl)
  d_is_between:=aay X G h1 (bnd3 rfl fun _ _ _ _ _ _ _ _ _=>rfl)
  d_need_number:=aay X G h2 (bnd3 rfl fun _ _ _ _ _ _ _ _ _=>rfl)
  d_is_place:=aay X G h3 (bnd2 rfl fun _ _ _ _ _ _ _ _=>rfl)
  d_is_tie:=aay X G h4 (bnd2 rfl fun _ _ _ _ _ _ _ _=>rfl)
  d_are_ties:=aay X G h5 (bnd2 rfl fun _ _ _ _ _ _ _ _=>rfl)
  d_is_rising:=aay X G h6 (bnd1 rfl fun _ _ _ _ _ _ _=>rfl)
  d_tied_places:=aay X G h7 (bnd1 rfl fun _ _ _ _ _ _ _=>rfl)
  d_far_from:=aay X G h8 (bnd2 rfl fun _ _ _ _ _ _ _ _=>rfl)
  d_need_place:=aay X G h9 (bnd2 rfl fun _ _ _ _ _ _ _ _=>rfl)
  d_all_far:=aay X G c4 (bnd2 rfl fun _ _ _ _ _ _ _ _=>rfl)
  d_is_joined:=aay X G c3 (bnd1 rfl fun _ _ _ _ _ _ _=>rfl)
  d_need_joined:=aay X G c0 (bnd1 rfl fun _ _ _ _ _ _ _=>rfl)
  d_far_rows:=aay X G c1 (bnd1 rfl fun _ _ _ _ _ _ _=>rfl)
  d_most_far:=aay X G c7 (bnd1 rfl fun _ _ _ _ _ _ _=>rfl)
  d_farthest_two:=aay X G b0 (bnd1 rfl fun _ _ _ _ _ _ _=>rfl)
  d_with_ties:=aay X G b5 (bnd2 rfl fun _ _ _ _ _ _ _ _=>rfl)
  d_hubs_for:=aay X G c9 (bnd2 rfl fun _ _ _ _ _ _ _ _=>rfl)
  d_hub_ties:=aay X G b7 (bnd2 rfl fun _ _ _ _ _ _ _ _=>rfl)
  d_law_cell:=aay X G b9 (bnd2 rfl fun _ _ _ _ _ _ _ _=>rfl)
  d_law_store:=aay X G c6 (bnd1 rfl fun _ _ _ _ _ _ _=>rfl)
  d_law_take:=aay X G c5 (bnd2 rfl fun _ _ _ _ _ _ _ _=>rfl)
  d_law_tree_ties:=aay X G d1 (bnd3 rfl fun _ _ _ _ _ _ _ _ _=>rfl)
  d_law_renumbered:=aay X G b8 (bnd3 rfl fun _ _ _ _ _ _ _ _ _=>rfl)
  d_law_tree:=aay X G b1 (bnd1 rfl fun _ _ _ _ _ _ _=>rfl)
  d_law_crowd:=aay X G b4 (bnd1 rfl fun _ _ _ _ _ _ _=>rfl)
  d_law_web:=aay X G b3 (bnd1 rfl fun _ _ _ _ _ _ _=>rfl)
  d_law_far_from:=aay X G b2 (bnd2 rfl fun _ _ _ _ _ _ _ _=>rfl)
  d_law_kind:=aay X G b6 (bnd1 rfl fun _ _ _ _ _ _ _=>rfl)
  d_law_word:=aay X G d0 (bnd3 rfl fun _ _ _ _ _ _ _ _ _=>rfl)
  d_law_parted:=aay X G c2 (bnd2 rfl fun _ _ _ _ _ _ _ _=>rfl)
  d_law:=aay X G c8 (bnd1 rfl fun _ _ _ _ _ _ _=>rfl)
theorem walk {l:PySem.W.OpenLaw} {q:Program} {b:List Str} {XP:(Str->Option Value)->Heap->Prop} {j:World->Heap->Prop} {d:DefRec} {K:Params->Frag} (hn:l.most=some 63) (c:d.params.defaults=[]) (i:d.name = "law")
  (p:∀ (w:World) (h:Heap),j w h->(K w.params).In h)
  (F:∀ (w:World) (mg:Str->Option Value) (h:Heap),(K w.params).In h->h.Ns mainGlobals mg->Txt (K w.params) mg) :
  PySem.W.WalkO q b XP j l.row.toRowW d [] (fun f vs=>PySem.call f vs):=by
 refine L2.walk_of (n:=63) (k:=12) (x:="script") (CX:=fun _=>CX0) (sp:=fun w=>aq4 (K w.params)) hn (by decide) c ⟨rfl,by decide,by decide⟩ p (fun w mg fa h X G e=>?_) (fun _ _ a ns m _ t=>⟨a,ns,rfl,t,m,fun _=>rfl⟩) fun _ _ _ _ _ z=>z
 have T:=F w mg h X G
 rw [i] at e
 obtain ⟨v,g,D⟩:=T.d_law
 have r:=e.symm.trans D.mgx
 cases r
 refine ⟨g,fun s u=>?_,fun base _ _=>?_⟩
 ·obtain ⟨oc,od,kV,doc,pm,an,cdv,ct,osl,rfl,y,o⟩:=D.fn.ex
  exact .of_eq rfl
 ·exact a1d T D
end G
end
theorem PySem.W.Fast.tw7009726195829518714 : True := trivial
theorem PySem.W.Fast.tw6368697947159024281 : True := trivial
theorem PySem.W.Fast.tw7266030727998482493 : True := trivial
theorem PySem.W.Fast.tw11888200422918561233 : True := trivial
theorem PySem.W.Fast.tw5536333182999829422 : True := trivial
theorem PySem.W.Fast.tw12351537453464835185 : True := trivial
theorem PySem.W.Fast.tw12128485773856393507 : True := trivial
theorem PySem.W.Fast.tw2410523128593885124 : True := trivial
theorem PySem.W.Fast.tw12850545777802647250 : True := trivial
theorem PySem.W.Fast.tw15554637941999202169 : True := trivial
theorem PySem.W.Fast.tw14594677660854974391 : True := trivial
theorem PySem.W.Fast.tw13935613052944851339 : True := trivial
theorem PySem.W.Fast.tw2185213491459744970 : True := trivial
theorem PySem.W.Fast.tw18407071403495031928 : True := trivial
theorem PySem.W.Fast.tw893346968514661995 : True := trivial
theorem PySem.W.Fast.tw16443009668005384948 : True := trivial
theorem PySem.W.Fast.tw3469725461558192002 : True := trivial
theorem PySem.W.Fast.tw13347103245643638639 : True := trivial
theorem PySem.W.Fast.tw16787288559883980252 : True := trivial
theorem PySem.W.Fast.tw16819994834419103663 : True := trivial
theorem PySem.W.Fast.tw4210476378496856689 : True := trivial
theorem PySem.W.Fast.tw4951648670594912452 : True := trivial
theorem PySem.W.Fast.tw6876817710749704763 : True := trivial
theorem PySem.W.Fast.tw18183645850693907858 : True := trivial
theorem PySem.W.Fast.tw6107050716863357901 : True := trivial
theorem PySem.W.Fast.tw4574211135637028651 : True := trivial
theorem PySem.W.Fast.tw2658524189512828196 : True := trivial
theorem PySem.W.Fast.tw10266058168041629463 : True := trivial
theorem PySem.W.Fast.tw14953394781892311917 : True := trivial
theorem PySem.W.Fast.tw14582398226131867389 : True := trivial
theorem PySem.W.Fast.tw17962481718479313798 : True := trivial
theorem PySem.W.Fast.tw11564946452809863864 : True := trivial
theorem PySem.W.Fast.tw15420943889053773053 : True := trivial
theorem PySem.W.Fast.tw15231705689430190758 : True := trivial
theorem PySem.W.Fast.tw6823776555195105306 : True := trivial
theorem PySem.W.Fast.tw9343429663604385346 : True := trivial
theorem PySem.W.Fast.tw4399302625464412810 : True := trivial
theorem PySem.W.Fast.tw9586313953446184064 : True := trivial
theorem PySem.W.Fast.tw10041504998614503144 : True := trivial
theorem PySem.W.Fast.tw15326368109430673572 : True := trivial
theorem PySem.W.Fast.tw10002846385496166245 : True := trivial
theorem PySem.W.Fast.tw16226768109442328224 : True := trivial
theorem PySem.W.Fast.tw6257131159936040990 : True := trivial
theorem PySem.W.Fast.tw17041552193200243400 : True := trivial
theorem PySem.W.Fast.tw12303960258329391496 : True := trivial
theorem PySem.W.Fast.tw16817987735439408108 : True := trivial
theorem PySem.W.Fast.tw1584959788317268724 : True := trivial
theorem PySem.W.Fast.tw8582588550129527015 : True := trivial
theorem PySem.W.Fast.tw14855952704073179930 : True := trivial
theorem PySem.W.Fast.tw4318078041738633542 : True := trivial
theorem PySem.W.Fast.tw17442066909429123188 : True := trivial
theorem PySem.W.Fast.tw10082342342277095944 : True := trivial
theorem PySem.W.Fast.tw2071896191400813138 : True := trivial
theorem PySem.W.Fast.tw11820027353802525311 : True := trivial
theorem PySem.W.Fast.tw13612260299959692229 : True := trivial
theorem PySem.W.Fast.tw17551165096542338849 : True := trivial
theorem PySem.W.Fast.tw17796982288434160456 : True := trivial
theorem PySem.W.Fast.tw768816393031901832 : True := trivial
theorem PySem.W.Fast.tw4302038625839296827 : True := trivial
theorem PySem.W.Fast.tw3057980048036330375 : True := trivial
theorem PySem.W.Fast.tw12063945833190320338 : True := trivial
theorem PySem.W.Fast.tw13572797887244186246 : True := trivial
theorem PySem.W.Fast.tw14976308219738998651 : True := trivial
theorem PySem.W.Fast.tw14601682474103220840 : True := trivial
theorem PySem.W.Fast.tw4191732940779499002 : True := trivial
theorem PySem.W.Fast.tw1851366376458230660 : True := trivial
theorem PySem.W.Fast.tw9927511559718080550 : True := trivial
theorem PySem.W.Fast.tw10085336643409296052 : True := trivial
theorem PySem.W.Fast.tw16184440509794081429 : True := trivial
theorem PySem.W.Fast.tw16327159584948462083 : True := trivial
theorem PySem.W.Fast.tw6107756994188741473 : True := trivial
theorem PySem.W.Fast.tw14791737353589985446 : True := trivial
theorem PySem.W.Fast.tw8043104544316195368 : True := trivial
theorem PySem.W.Fast.tw12642079704372787039 : True := trivial
theorem PySem.W.Fast.tw10171364390517176421 : True := trivial
theorem PySem.W.Fast.tw4825134730813126741 : True := trivial
theorem PySem.W.Fast.tw877181432605814969 : True := trivial
theorem PySem.W.Fast.tw4989380160207726497 : True := trivial
theorem PySem.W.Fast.tw8938303374744558232 : True := trivial
theorem PySem.W.Fast.tw13212017808369178932 : True := trivial
theorem PySem.W.Fast.tw6394708822073067791 : True := trivial
theorem PySem.W.Fast.tw12504003297895104457 : True := trivial
theorem PySem.W.Fast.tw8157824639033901299 : True := trivial
theorem PySem.W.Fast.tw16657437181582978075 : True := trivial
theorem PySem.W.Fast.tw11536952253411185299 : True := trivial
theorem PySem.W.Fast.tw87177506952444048 : True := trivial
theorem PySem.W.Fast.tw1069713250924865770 : True := trivial
theorem PySem.W.Fast.tw9306120939095684511 : True := trivial
theorem PySem.W.Fast.tw1955146075232267189 : True := trivial
theorem PySem.W.Fast.tw506987233008683013 : True := trivial
theorem PySem.W.Fast.tw11765941310966998934 : True := trivial
theorem PySem.W.Fast.tw2345331485345582751 : True := trivial
theorem PySem.W.Fast.tw11572986845942527278 : True := trivial
theorem PySem.W.Fast.tw15803267752845929136 : True := trivial
theorem PySem.W.Fast.tw12695076235449761729 : True := trivial
theorem PySem.W.Fast.tw15845518188131319480 : True := trivial
theorem PySem.W.Fast.tw1353987933043572672 : True := trivial
theorem PySem.W.Fast.tw9691658186052222872 : True := trivial
theorem PySem.W.Fast.tw9452140121038841740 : True := trivial
theorem PySem.W.Fast.tw1074702848418690016 : True := trivial
theorem PySem.W.Fast.tw6458826096477834758 : True := trivial
theorem PySem.W.Fast.tw2055012668055586344 : True := trivial
theorem PySem.W.Fast.tw13597614245570335715 : True := trivial
theorem PySem.W.Fast.tw4765713766171994602 : True := trivial
theorem PySem.W.Fast.tw2431487873690272767 : True := trivial
theorem PySem.W.Fast.tw16352630351853985633 : True := trivial
theorem PySem.W.Fast.tw6481040403984489326 : True := trivial
theorem PySem.W.Fast.tw10668360985046578997 : True := trivial
theorem PySem.W.Fast.tw14749171170378099859 : True := trivial
theorem PySem.W.Fast.tw5545887667456373150 : True := trivial
theorem PySem.W.Fast.tw13496761680093142105 : True := trivial
theorem PySem.W.Fast.tw6849437942764581951 : True := trivial
theorem PySem.W.Fast.tw3446950500623189739 : True := trivial
theorem PySem.W.Fast.tw10786948765191604191 : True := trivial
theorem PySem.W.Fast.tw18005957410003183209 : True := trivial
theorem PySem.W.Fast.tw11493621358783560538 : True := trivial
theorem PySem.W.Fast.tw3598162702622896893 : True := trivial
theorem PySem.W.Fast.tw4450155107340925358 : True := trivial
theorem PySem.W.Fast.tw16473257106440136261 : True := trivial
theorem PySem.W.Fast.tw4630615279572720688 : True := trivial
theorem PySem.W.Fast.tw17294826767575981375 : True := trivial
theorem PySem.W.Fast.tw9835343010090702612 : True := trivial
theorem PySem.W.Fast.tw8469962096477765492 : True := trivial
theorem PySem.W.Fast.tw1088820823393379605 : True := trivial
theorem PySem.W.Fast.tw17879025250156635178 : True := trivial
theorem PySem.W.Fast.tw18227995462301201795 : True := trivial
theorem PySem.W.Fast.tw1131936290148013075 : True := trivial
theorem PySem.W.Fast.tw414178046954819224 : True := trivial
theorem PySem.W.Fast.tw2337103267781597291 : True := trivial
theorem PySem.W.Fast.tw13787203577781644040 : True := trivial
theorem PySem.W.Fast.tw14308045316670645951 : True := trivial
theorem PySem.W.Fast.tw14254539691404166288 : True := trivial
theorem PySem.W.Fast.tw11188866922432312048 : True := trivial
theorem PySem.W.Fast.tw5398768820391725003 : True := trivial
theorem PySem.W.Fast.tw4746764475760204971 : True := trivial
theorem PySem.W.Fast.tw1037094089544089139 : True := trivial
theorem PySem.W.Fast.tw14669198873794865248 : True := trivial
theorem PySem.W.Fast.tw1783329867865239103 : True := trivial
theorem PySem.W.Fast.tw7800256930582638364 : True := trivial
theorem PySem.W.Fast.tw11377168494688533241 : True := trivial
theorem PySem.W.Fast.tw17965494043422876740 : True := trivial
theorem PySem.W.Fast.tw2173370888727875962 : True := trivial
theorem PySem.W.Fast.tw1394324310448634836 : True := trivial
theorem PySem.W.Fast.tw4588946350432721140 : True := trivial
theorem PySem.W.Fast.tw4395842864030155329 : True := trivial
theorem PySem.W.Fast.tw17246690829080963892 : True := trivial
theorem PySem.W.Fast.tw9886860777616521914 : True := trivial
theorem PySem.W.Fast.tw16002505503171429658 : True := trivial
theorem PySem.W.Fast.tw3660238978556735440 : True := trivial
theorem PySem.W.Fast.tw4706247651273130368 : True := trivial
theorem PySem.W.Fast.tw2607184895415102948 : True := trivial
theorem PySem.W.Fast.tw3713957873250487362 : True := trivial
theorem PySem.W.Fast.tw13572440215504519819 : True := trivial
theorem PySem.W.Fast.tw9235935980922642094 : True := trivial
theorem PySem.W.Fast.tw7100711823189379627 : True := trivial
theorem PySem.W.Fast.tw7034730385101493555 : True := trivial
theorem PySem.W.Fast.tw11251347307032650906 : True := trivial
theorem PySem.W.Fast.tw9382099476321368160 : True := trivial
theorem PySem.W.Fast.tw9584642019080450183 : True := trivial
theorem PySem.W.Fast.tw8892688335359920563 : True := trivial
theorem PySem.W.Fast.tw1867106653291270954 : True := trivial
theorem PySem.W.Fast.tw16035307469944173666 : True := trivial
theorem PySem.W.Fast.tw14422154551888604786 : True := trivial
theorem PySem.W.Fast.tw5841624138741652 : True := trivial
theorem PySem.W.Fast.tw13095000730019395370 : True := trivial
theorem PySem.W.Fast.tw8635135582466750761 : True := trivial
theorem PySem.W.Fast.tw16139757203048131083 : True := trivial
theorem PySem.W.Fast.tw17941721588038582420 : True := trivial
theorem PySem.W.Fast.tw4045736868992598147 : True := trivial
theorem PySem.W.Fast.tw16140124246322817934 : True := trivial
theorem PySem.W.Fast.tw351999962360378564 : True := trivial
theorem PySem.W.Fast.tw6382706688824302644 : True := trivial
theorem PySem.W.Fast.tw9894108002197383481 : True := trivial
theorem PySem.W.Fast.tw14274954626881045813 : True := trivial
theorem PySem.W.Fast.tw8911003109485974702 : True := trivial
theorem PySem.W.Fast.tw14392448455279291507 : True := trivial
theorem PySem.W.Fast.tw1161975329836148036 : True := trivial
theorem PySem.W.Fast.tw17168919376490736548 : True := trivial
theorem PySem.W.Fast.tw17841433306027183235 : True := trivial
theorem PySem.W.Fast.tw4086502217449314746 : True := trivial
theorem PySem.W.Fast.tw2793503941586333390 : True := trivial
theorem PySem.W.Fast.tw10600737540802472290 : True := trivial
open PySem PySem.W PyProof.Rows
set_option maxRecDepth 100000 in
set_option maxHeartbeats 0 in
theorem PySem.Challenge.cw_fewties_k27_hubs_refused_holds : PySem.Challenge.rw_fewties_k27_hubs_refused.Holds := by
 w_on;o_law;k_head;(case hw=>w_witness2)
 k_fill
 refine G.walk (l:=PySem.Challenge.rw_fewties_k27_hubs_refused) rfl rfl rfl (fun w h Y=>PySem.W.kIn_of Y) ?F
 case F =>
  intro w mg h KX GG
  refine' G.txt_mk KX GG ..
  all_goals try (refine' G.fn_in ?a_ ?l_ ?c_ ?k_;(case a_=>k_is);(case l_=>k_is);(case c_=>k_is);(case k_=>k_is))
  all_goals try k_is
  all_goals try k_exc
  all_goals try kit_is
  all_goals exact ⟨L2.cl_of (bmB:=L2.bmV) (newId:="ValueError.__new__") (by k_exc),by k_is,by k_is,by k_is,by k_is,by k_is⟩
#print axioms PySem.Challenge.cw_fewties_k27_hubs_refused_holds
