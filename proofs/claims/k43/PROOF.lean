import PyProof.Rows.All
import Wide.All
import OpenK.AllK
import Wide.FinOn
import PyProof.EqAt
import PyProof.EqKinds
import PyProof.TupleCall
import PyProof.NeData
import PyProof.P3In
import PyProof.WalkInts
import PyProof.Rows.SortWalk
import PyProof.SumWalkG
import PyProof.Rows.CallKwBuiltin
import KE.KDictList
import PyProof.WalksEnum
import PyProof.ZipIter
import PyProof.ConsumeWalk
import PyProof.ListRange
import PyProof.TupleOfSeq
import PyProof.Rows.RuleN_abs
import KE.KDictOf
import PyProof.AttrMissHeap
import PySem.Challenge.RW_fewties_k43_what_a_grower_tells
open PySem.W (Frag kitOne mg_of nsIn mg_none_of excIn fnOf mroIn keepIn codeIn)
set_option Elab.async false
set_option linter.all false
set_option compiler.extract_closed false
set_option maxRecDepth 100000
set_option maxHeartbeats 4000000
noncomputable section
abbrev aA0:=@List.getElem?_eq_getElem
abbrev aA1:=@List.getElem?_eq_some_iff
abbrev aA2:=@List.mem_of_getElem?
abbrev aA3:=@List.length_map
abbrev aA4:=@Array.getElem?_eq_getElem
abbrev aA5:=@List.getElem?_map
abbrev aA6:=@Nat.le_refl
abbrev aA7:=@List.mem_append
abbrev aA8:=@List.mem_cons
abbrev aA9:=@Bool.false_ne_true
abbrev aB0:=@List.length_append
abbrev aB1:=@List.size_toArray
abbrev aB2:=@List.mem_append_right
abbrev aB3:=@List.append_assoc
abbrev aB4:=@List.mem_cons_of_mem
abbrev aB5:=@Nat.ne_of_lt
abbrev aB6:=@List.mem_map
abbrev aB7:=@List.mem_cons_self
abbrev aB8:=@List.mem_range
abbrev aB9:=@List.mem_of_mem_take
abbrev aC0:=@List.take_append_drop
abbrev aC1:=@List.mem_singleton
abbrev aC2:=@List.getElem?_append_left
abbrev aC3:=@List.mem_of_mem_drop
abbrev aC4:=@Nat.lt_of_lt_of_le
abbrev aC5:=@Option.some.inj
abbrev aC6:=@List.mem_append_left
abbrev aC7:=@List.getElem?_append_right
abbrev aC8:=@List.pairwise_append
abbrev aC9:=@Nat.le_trans
abbrev aD0:=@List.map_cons
abbrev aD1:=@List.getElem?_set
abbrev aD2:=@List.getD_eq_getElem?_getD
abbrev aD3:=@Classical.byContradiction
abbrev aD4:=@Array.getElem?_toList
abbrev aD5:=@decide_eq_false
abbrev aD6:=@decide_eq_true
abbrev aD7:=@List.getElem?_range
abbrev aD8:=@List.map_map
abbrev aD9:=@List.map_append
abbrev aE0:=@List.length_cons
abbrev aE1:=@Int.emod_lt_of_pos
abbrev aE2:=@List.nodup_append
abbrev aE3:=@List.map_congr_left
abbrev aE4:=@List.append_nil
abbrev aE5:=@List.take_of_length_le
abbrev aE6:=@List.length_filter_le
abbrev aE7:=@List.all_eq_true
abbrev aE8:=@if_pos
abbrev aE9:=@if_neg
abbrev aF0:=@List.getElem?_eq_none_iff
abbrev aF1:=@Nat.lt_succ_of_lt
abbrev aF2:=@List.length_pos_iff
abbrev aF3:=@Nat.zero_le
abbrev aF4:=@List.pairwise_map
abbrev aF5:=@List.ext_getElem?
abbrev aF6:=@beq_iff_eq
abbrev aF7:=@Nat.lt_irrefl
abbrev aF8:=@Nat.le_of_lt
abbrev aF9:=@Array.toList_append
abbrev aG0:=@List.pairwise_iff_getElem
abbrev aG1:=@List.take_length
abbrev aG2:=@List.lookup_cons
abbrev aG3:=@List.length_take
abbrev aG4:=@Bool.and_eq_true
abbrev aG5:=@List.eq_nil_of_length_eq_zero
abbrev aG6:=@List.replicate_succ
abbrev aG7:=@List.take_add_one
abbrev aG8:=@List.getElem?_take_of_lt
abbrev aG9:=@List.mem_iff_getElem
abbrev aH0:=@List.getElem?_replicate
abbrev aH1:=@Bool.eq_iff_iff
abbrev aH2:=@Array.size_push
abbrev aH3:=@List.Pairwise.imp_of_mem
abbrev aH4:=@List.getElem?_cons_succ
abbrev aH5:=@Option.map_some
abbrev aH6:=@List.getElem?_drop
abbrev aH7:=@List.nodup_cons
abbrev aH8:=@Int.zero_add
abbrev aH9:=@Nat.lt_succ_self
abbrev aI0:=@List.length_nil
open PySem PySem.Spec in
abbrev aI1:=@wpAny_bind
open PySem PySem.Spec in
abbrev aI2:=@wpAny_pure
open PySem PySem.Spec in
abbrev aI3:=@Heap.get?_push_of_some
open PySem PySem.Spec in
abbrev aI4:=@Heap.lt_size
open PySem PySem.Spec in
abbrev aI5:=@Heap.get?_push_size
open PySem PySem.Spec in
abbrev aI6:=@wpAny_holding
open PySem PySem.Spec in
abbrev aI7:=@PassesOwn.never
open PySem PySem.Spec in
abbrev aI8:=@wpAny_mono
open PySem PySem.Spec in
abbrev aI9:=@wpAny_newObj_type
open PySem PySem.Spec in
abbrev aJ0:=@Around.under_plainId
open PySem PySem.Spec in
abbrev aJ1:=@Heap.size_push
open PySem PySem.Spec in
abbrev aJ2:=@wpAny_call_entry
open PySem PySem.Spec in
abbrev aJ3:=@wpAny_truthy_bool
open PySem PySem.Spec in
abbrev aJ4:=@wpAny_pyIter_list
namespace L2
open PySem PySem.Spec PyProof.Rows
abbrev Key:=Sum Int Str
def agv:Key->Value->Bool
 | .inl k,v=>Value.isInt k v
 | .inr x,v=>Value.isStrOf x v
def keyH (w:World):Key->Int
 | .inl k=>hashInt k
 | .inr x=>hashStr w x
theorem abr:∀ {k:Key} {v:Value},agv k v=true->(∃ i t,k=Sum.inl i/\v=Value.int i t)\/(∃ x t,k=Sum.inr x/\v=Value.str x t)
 | .inl i,v,h=>by
  obtain ⟨t,e⟩:=Value.isInt_shape (k:=i) (v:=v) h
  exact .inl ⟨i,t,rfl,e⟩
 | .inr x,v,h=>by
  obtain ⟨t,e⟩:=Value.isStrOf_shape (x:=x) (v:=v) h
  exact .inr ⟨x,t,rfl,e⟩
theorem aq1 (i:Int) (t:Tok):agv (.inl i) (.int i t)=true:=by simp [agv,Value.isInt]
theorem aq2 (x:Str) (t:Tok):agv (.inr x) (.str x t)=true:=by simp [agv,Value.isStrOf]
theorem ay1 (a b:Int):decide ((Sum.inl a:Key)=Sum.inl b)=(a == b):=by
 by_cases e:a=b
 ·subst e;simp
 ·have h:¬ (Sum.inl a:Key)=Sum.inl b:=fun q=>e (Sum.inl.inj q)
  rw [aD5 h]
  exact (beq_eq_false_iff_ne.mpr e).symm
theorem ay2 (a b:Str):decide ((Sum.inr a:Key)=Sum.inr b)=decide (a=b):=by
 by_cases e:a=b
 ·subst e;simp
 ·have h:¬ (Sum.inr a:Key)=Sum.inr b:=fun q=>e (Sum.inr.inj q)
  rw [aD5 h,aD5 e]
theorem ay3 (a:Int) (b:Str):decide ((Sum.inl a:Key)=Sum.inr b)=false:=aD5 (fun q=>nomatch q)
theorem ay4 (a:Str) (b:Int):decide ((Sum.inr a:Key)=Sum.inl b)=false:=aD5 (fun q=>nomatch q)
def aa7 (prog:Program) (w:World):PySem.KeyKind prog w Key where
 is:=agv
 hash:=keyH w
 inj:=fun v a b ha hb=>by
  rcases abr ha with ⟨i,t,rfl,rfl⟩ | ⟨x,t,rfl,rfl⟩
  ·rcases abr hb with ⟨j,u,rfl,e⟩ | ⟨y,u,rfl,e⟩
   ·injection e with e1 _;rw [e1]
   ·exact nomatch e
  ·rcases abr hb with ⟨j,u,rfl,e⟩ | ⟨y,u,rfl,e⟩
   ·exact nomatch e
   ·injection e with e1 _;rw [e1]
 byValue:=fun k v h=>by
  rcases abr h with ⟨i,t,rfl,rfl⟩ | ⟨x,t,rfl,rfl⟩ <;> rfl
 pyHash:=fun hv h=>by
  rcases abr hv with ⟨i,t,rfl,rfl⟩ | ⟨x,t,rfl,rfl⟩
  ·exact wpAny_pyHash_int h
  ·exact wpAny_pyHash_str h
 eqBool:=fun hu hv h=>by
  rcases abr hu with ⟨i,t,rfl,rfl⟩ | ⟨x,t,rfl,rfl⟩
  ·rcases abr hv with ⟨j,u,rfl,rfl⟩ | ⟨y,u,rfl,rfl⟩
   ·rw [ay1] at h;exact wpAny_eqBool_int h
   ·rw [ay3] at h;exact SeqAt.EqAt.int_str i t y u _ _ _ _ h
  ·rcases abr hv with ⟨j,u,rfl,rfl⟩ | ⟨y,u,rfl,rfl⟩
   ·rw [ay4] at h;exact SeqAt.EqAt.str_int x t j u _ _ _ _ h
   ·rw [ay2] at h;exact wpAny_eqBool_str h
 «strs»:=fun k x t v h=>by
  rcases abr h with ⟨i,u,rfl,e⟩ | ⟨y,u,rfl,e⟩
  ·exact nomatch e
  ·injection e with e1 _
   subst e1
   cases v <;> rfl
theorem ahh (prog:Program) (w:World) (i:Int) (t:Tok):(aa7 prog w).is (.inl i) (.int i t)=true:=aq1 i t
theorem anv (prog:Program) (w:World) (x:Str) (t:Tok):(aa7 prog w).is (.inr x) (.str x t)=true:=aq2 x t
inductive V where
 | non | bl (b:Bool) | int (i:Int) | str (x:Str) | byt (b:Array UInt8) | flt (b:UInt64) | ref (a:Addr) | ty (n:String)
 deriving DecidableEq
def RelV:V->Value->Prop
 | .non,u=>u=Value.none
 | .bl b,u=>u=Value.bool b
 | .int i,u=>∃ t,u=Value.int i t
 | .str x,u=>∃ t,u=Value.str x t
 | .byt b,u=>∃ t,u=Value.bytes b t
 | .flt b,u=>∃ t,u=Value.float b t
 | .ref a,u=>u=Value.ref a
 | .ty n,u=>u=Value.type n
abbrev Vals:List V->List Value->Prop:=Paired RelV
theorem Vals.length {xs:List V} {us:List Value} (r:Vals xs us):xs.length=us.length:=Paired.length r
theorem Vals.get:∀ {xs:List V} {us:List Value} {i:Nat} {x:V},Vals xs us->xs[i]?=some x->∃ u,us[i]?=some u/\RelV x u
 | _,_,_,_,.nil,e=>by simp at e
 | _,_,0,_,.cons r _,e=>by simp at e;subst e;exact ⟨_,rfl,r⟩
 | _,_,i+1,x,.cons _ t,e=>by
  obtain ⟨u,b,a⟩:=Vals.get (i:=i) (x:=x) t (by simpa using e)
  exact ⟨u,by simpa using b,a⟩
theorem Vals.set {x:V} {u:Value} (r:RelV x u):∀ {xs:List V} {us:List Value} (i:Nat),Vals xs us->Vals (xs.set i x) (us.set i u)
 | _,_,_,.nil => .nil
 | _,_,0,.cons _ t => .cons r t
 | _,_,i+1,.cons q t => .cons q (Vals.set r i t)
theorem Vals.append:∀ {xs ys:List V} {us a:List Value},Vals xs us->Vals ys a->Vals (xs ++ ys) (us ++ a)
 | _,_,_,_,.nil,s=>s
 | _,_,_,_,.cons r t,s => .cons r (Vals.append t s)
theorem Vals.take:∀ {xs:List V} {us:List Value} (n:Nat),Vals xs us->Vals (xs.take n) (us.take n)
 | _,_,0,_ => .nil
 | _,_,_+1,.nil => .nil
 | _,_,n+1,.cons r t => .cons r (Vals.take n t)
theorem Vals.drop:∀ {xs:List V} {us:List Value} (n:Nat),Vals xs us->Vals (xs.drop n) (us.drop n)
 | _,_,0,r=>r
 | _,_,_+1,.nil => .nil
 | _,_,n+1,.cons _ t=>Vals.drop n t
def RelO:Option V->Option Value->Prop
 | some v,some u=>RelV v u
 | none,none=>True
 | _,_=>False
def KV {κ:Type}:List (κ × V)->List (κ × Value)->Prop:=Paired fun (p : κ × V) (q : κ × Value)=>p.1=q.1/\RelV p.2 q.2
def kV:Key->V
 | .inl i => .int i
 | .inr x => .str x
inductive HO where
 /-- a list -/
 | lst (xs:List V)
 /-- a tuple (never changes) -/
 | tup (xs:List V)
 /-- a dict whose keys are ints and texts; one whose keys are tuples of ints and texts (the empty one is both) -/
 | dK (kvs:List (Key × V)) | dT (kvs:List (List Key × V))
 /-- a set of ints: its members, its size -/
 | set (S:Int->Bool) (n:Nat)
 /-- an instance of the class at C, its dict at dx, its attributes -/
 | ins (C dx:Addr) (fs:List (Str × V))
 /-- the dict of the instance at x -/
 | own (x:Addr)
 /-- the dict of an exception -/
 | xd (fs:List (Str × V))
 /-- a bound method, f of x -/
 | met (f x:Addr)
 /-- a range object lo, lo + 1, .. below hi -/
 | rng (lo hi:Int)
 /-- a thing that is known to the object (the script; a dict while a loop walks it): read, never written while it is so -/
 | frz (o:Obj) (u:HO)
 /-- a code object's table -/
 | tbl (ps:Array Value)
 /-- any other thing, by what is true of its one object (a def of one's own: SetO a S n:=HO.ext fun h => ..) -/
 | ext (φ:Heap->Prop)
abbrev Hp:=Addr->Option HO
def upd (H:Hp) (a:Addr) (o:HO):Hp:=fun b=>if b=a then some o else H b
theorem aaf {H:Hp} {a:Addr} {o:HO}:upd H a o a=some o:=by unfold upd;rw [aE8 rfl]
theorem aae {H:Hp} {a b:Addr} {o:HO} (h:b ≠ a):upd H a o b=H b:=by unfold upd;rw [aE9 h]
theorem afj {H:Hp} {a b:Addr} {o u:HO} (h:H a=some o) (h':H b=some u) (d:o ≠ u):a ≠ b:=by
 intro e;subst e;rw [h] at h';exact d (aC5 h')
theorem aar {H:Hp} {a b:Addr} {o:HO} (h:H a=some o) (h':H b=none):a ≠ b:=by
 intro e;subst e;rw [h] at h';cases h'
section
variable (P:Program) (w:World)
def ObjOk (H:Hp) (h:Heap) (a:Addr):HO->Prop
 | .lst xs=>xs.length<=sizeLine/\∃ (its:List Value) (n:Nat),Vals xs its/\h.get? a=some { cls:=.type "list",data:=.seq its.toArray n }
 | .tup xs=>xs.length<=sizeLine/\∃ its:List Value,Vals xs its/\IsTup h a its.toArray
 | .dK kvs=>kvs.length<=sizeLine/\(a == sysModules)=false/\∃ vs,KV kvs vs/\h.DictOf (aa7 P w) a vs
 | .dT kvs=>kvs.length<=sizeLine/\(a == sysModules)=false/\∃ xs:List (List Key × Addr × Value),
   Paired (fun (p:List Key × V) (q:List Key × Addr × Value)=>p.1=q.1/\H q.2.1=some (.tup (p.1.map kV))/\RelV p.2 q.2.2) kvs xs /\
   ∃ o es ep,h.get? a=some o/\o.ExactDict/\o.data=.dict es ep/\es.toList=xs.map (entryOfKey (tupleKind (aa7 P w)))/\(xs.map (·.1)).Nodup
 | .set S n=>h.SetOf (intKind P w) a S n
 | .ins C dx fs=>H dx=some (.own a)/\fs.length<=1000/\dx ≠ a/\h.get? a=some (PySem.W.instObj C dx) /\
   ∃ mA,h.Ns1 dx mA/\(∀ f,RelO (fs.lookup f) (mA f))/\PySem.Within mA (fs.map (·.1))
 | .own _=>∃ o,h.get? a=some o
 | .xd fs=>∃ mA,h.Ns1 a mA/\∀ f,RelO (fs.lookup f) (mA f)
 | .rng lo hi=>∃ t u v,h.get? a=some { cls:=.type "range",data:=.fields #[.int lo t,.int hi u,.int 1 v] }
 | .frz o u=>h.get? a=some o/\ObjOk H h a u
 | .tbl ps=>h.get? a=some { cls:=.none,data:=.fields ps }
 | .met f x=>h.get? a=some (PySem.W.methodObj (.ref f) (.ref x))
 | .ext φ => φ h/\(∃ o,h.get? a=some o)/\∀ h1 h2:Heap,φ h1->(∀ o,h1.get? a=some o->h2.get? a=some o)->φ h2
def HOk (H:Hp) (h:Heap):Prop:=∀ a o,H a=some o->ObjOk P w H h a o
end
section
variable {P:Program} {w:World} {H H':Hp} {h h':Heap} {a:Addr} {o:HO}
theorem ObjOk.lt (x:ObjOk P w H h a o):a < h.objs.size:=by
 cases o with
 | lst xs=>obtain ⟨_,_,_,_,e⟩:=x;exact aI4 e
 | tup xs=>obtain ⟨_,_,_,p⟩:=x;exact p.lt
 | dK kvs=>obtain ⟨_,_,_,_,o,_,_,e,_⟩:=x;exact aI4 e
 | dT kvs=>obtain ⟨_,_,_,_,o,_,_,e,_⟩:=x;exact aI4 e
 | set S n=>obtain ⟨o,_,_,_,e,_⟩:=x;exact aI4 e
 | ins C dx fs=>obtain ⟨_,_,_,e,_⟩:=x;exact aI4 e
 | own y=>obtain ⟨_,e⟩:=x;exact aI4 e
 | xd fs=>obtain ⟨_,⟨_,_,_,e,_⟩,_⟩:=x;exact aI4 e
 | rng lo hi=>obtain ⟨_,_,_,e⟩:=x;exact aI4 e
 | frz ob u=>obtain ⟨e,_⟩:=x;exact aI4 e
 | tbl ps=>exact aI4 (show h.get? a=some _ from x)
 | met f y=>exact aI4 (show h.get? a=some _ from x)
 | ext φ=>obtain ⟨_,⟨_,e⟩,_⟩:=x;exact aI4 e
theorem Paired.mapP {α β:Type} {F G : α->β->Prop}:∀ {c:List α} {d:List β},Paired F c d->(∀ a b,F a b->G a b)->Paired G c d
 | _,_,.nil,_ => .nil
 | _,_,.cons r t,f => .cons (f _ _ r) (Paired.mapP t f)
theorem ObjOk.stay (x:ObjOk P w H h a o) (k:∀ b u,(b=a\/H b=some (.own a))->h.get? b=some u->h'.get? b=some u)
  (l:∀ b,H b=some (.own a)->H' b=some (.own a)) (j:∀ b xs,H b=some (.tup xs)->H' b=some (.tup xs)):ObjOk P w H' h' a o:=by
 induction o with
 | lst xs=>obtain ⟨z,its,n,r,e⟩:=x;exact ⟨z,its,n,r,k _ _ (.inl rfl) e⟩
 | tup xs=>obtain ⟨z,its,r,g,e,c⟩:=x;exact ⟨z,its,r,g,k _ _ (.inl rfl) e,c⟩
 | dK kvs=>obtain ⟨z,y,vs,r,g,es,i,e,c⟩:=x;exact ⟨z,y,vs,r,g,es,i,k _ _ (.inl rfl) e,c⟩
 | dT kvs =>
  obtain ⟨z,y,xs,r,g,es,i,e,c⟩:=x
  exact ⟨z,y,xs,Paired.mapP r fun p q z=>⟨z.1,j _ _ z.2.1,z.2.2⟩,g,es,i,k _ _ (.inl rfl) e,c⟩
 | set S n=>obtain ⟨g,es,i,t,e,c⟩:=x;exact ⟨g,es,i,t,k _ _ (.inl rfl) e,c⟩
 | ins C dx fs =>
  obtain ⟨d,z,ne,e,mA,⟨od,es,i,e2,c⟩,r⟩:=x
  exact ⟨l _ d,z,ne,k _ _ (.inl rfl) e,mA,⟨od,es,i,k _ _ (.inr d) e2,c⟩,r⟩
 | own y=>obtain ⟨g,e⟩:=x;exact ⟨g,k _ _ (.inl rfl) e⟩
 | xd fs=>obtain ⟨mA,⟨od,es,i,e,c⟩,r⟩:=x;exact ⟨mA,⟨od,es,i,k _ _ (.inl rfl) e,c⟩,r⟩
 | rng lo hi=>obtain ⟨t,u,v,e⟩:=x;exact ⟨t,u,v,k _ _ (.inl rfl) e⟩
 | frz g u ih=>obtain ⟨e,q⟩:=x;exact ⟨k _ _ (.inl rfl) e,ih q⟩
 | tbl ps =>
  have e:h.get? a=some { cls:=.none,data:=.fields ps }:=x
  show h'.get? a=some { cls:=.none,data:=.fields ps }
  exact k a _ (.inl rfl) e
 | met f y =>
  have e:h.get? a=some (PySem.W.methodObj (.ref f) (.ref y)):=x
  show h'.get? a=some (PySem.W.methodObj (.ref f) (.ref y))
  exact k a _ (.inl rfl) e
 | ext φ=>obtain ⟨p,⟨o,e⟩,st⟩:=x;exact ⟨st _ _ p fun o q=>k _ _ (.inl rfl) q,⟨o,k _ _ (.inl rfl) e⟩,st⟩
theorem HOk.lt (x:HOk P w H h) (e:H a=some o):a < h.objs.size:=(x a o e).lt
theorem HOk.fresh (x:HOk P w H h) (e:h.objs.size<=a):H a=none:=by
 cases q:H a with
 | none=>rfl
 | some u=>exact absurd (aC4 (x.lt q) e) (aF7 _)
theorem HOk.kept (x:HOk P w H h) (k:∀ b u,h.get? b=some u->h'.get? b=some u):HOk P w H h':=fun a o e =>
 (x a o e).stay (fun b u _ q=>k b u q) (fun _ q=>q) fun _ _ q=>q
theorem HOk.laid (x:HOk P w H h) (k:∀ b u,h.get? b=some u->h'.get? b=some u) (d:h.objs.size<=a) (new:ObjOk P w (upd H a o) h' a o):HOk P w (upd H a o) h':=fun b u e=>by
 have hn:=x.fresh d
 by_cases hb:b=a
 ·subst hb;rw [aaf] at e;cases e;exact new
 ·rw [aae hb] at e
  exact (x b u e).stay (fun c v _ q=>k c v q) (fun c q=>by rw [aae (aar q hn)];exact q) fun c xs q=>by rw [aae (aar q hn)];exact q
end
def Rd (H:Hp) (a:Addr) (u:HO):Prop:=H a=some u\/∃ o,H a=some (.frz o u)
theorem Rd.of {H:Hp} {a:Addr} {u:HO} (h:H a=some u):Rd H a u:=.inl h
theorem Rd.ok {P:Program} {w:World} {H:Hp} {h:Heap} {a:Addr} {u:HO} (r:Rd H a u) (x:HOk P w H h):ObjOk P w H h a u:=by
 rcases r with r | ⟨o,r⟩
 ·exact x a u r
 ·obtain ⟨_,q⟩:=x a _ r
  exact q
def Mut:Option HO->Prop
 | some (.lst _)=>True
 | some (.dK _)=>True
 | some (.dT _)=>True
 | some (.set _ _)=>True
 | some (.ins _ _ _)=>True
 | some (.ext _)=>True
 | _=>False
section
variable {P:Program} {w:World} {H:Hp} {h h':Heap} {x e:Addr} {o':HO}
theorem HOk.write (ok:HOk P w H h) (g:Mut (H x)) (j:e=x\/H e=some (.own x)) (k:∀ b u,b ≠ e->h.get? b=some u->h'.get? b=some u) (i:∃ u,h'.get? e=some u)
  (new:ObjOk P w (upd H x o') h' x o'):HOk P w (upd H x o') h':=fun b u q=>by
 have a:∀ c y,H c=some (.own y)->c ≠ x:=fun c y r z=>by subst z;rw [r] at g;exact g
 have d:∀ c xs,H c=some (.tup xs)->c ≠ x:=fun c xs r z=>by subst z;rw [r] at g;exact g
 by_cases hb:b=x
 ·subst hb;rw [aaf] at q;cases q;exact new
 ·rw [aae hb] at q
  by_cases hbe:b=e
  ·have l:H b=some (.own x):=by
    rcases j with z | z
    ·exact absurd (hbe.trans z) hb
    ·rw [hbe];exact z
   rw [q] at l;cases l
   obtain ⟨v,m⟩:=i
   exact ⟨v,by rw [hbe];exact m⟩
  ·refine (ok b u q).stay (fun c v f r=>k c v ?_ r) (fun c r=>by rw [aae (a c b r)];exact r) fun c xs r=>by rw [aae (d c xs r)];exact r
   rcases f with rfl | f
   ·exact hbe
   ·rintro rfl
    rcases j with z | z
    ·exact a c b f z
    ·rw [f] at z;cases z;exact hb rfl
end
structure Un (fs ex:List Addr) (H H':Hp) (h h':Heap):Prop where
 keep:∀ b o,h.get? b=some o->H b=none->b ∉ fs->b ∉ ex->h'.get? b=some o
 slot:∀ b o,h.get? b=some o->H b=none->b∈fs->b ∉ ex->∃ sl,h'.get? b=some { o with slots:=sl }
 free:∀ b o,h.get? b=some o->H b=none->b ∉ ex->H' b=none
 there:∀ b o,h.get? b=some o->b ∉ ex->∃ o',h'.get? b=some o'
 tups:∀ b xs,H b=some (.tup xs)->H' b=some (.tup xs)
 frzs:∀ b o u,H b=some (.frz o u)->H' b=some (.frz o u)
 tbls:∀ b ps,H b=some (.tbl ps)->∃ more,H' b=some (.tbl (ps ++ more))
section
variable {fs fs' ex ex':List Addr} {H H1 H2:Hp} {h h1 h2 h':Heap} {a x e:Addr} {o:HO}
theorem Un.any (u:Un fs ex H H1 h h1) {b:Addr} {a:Obj} (q:h.get? b=some a) (n:H b=none) (c:b ∉ ex):∃ sl,h1.get? b=some { a with slots:=sl }:=by
 by_cases hb:b∈fs
 ·exact u.slot b a q n hb c
 ·exact ⟨a.slots,u.keep b a q n hb c⟩
theorem Un.trans (a:Un fs ex H H1 h h1) (b:Un fs ex H1 H2 h1 h2):Un fs ex H H2 h h2 where
 keep:=fun c f q n i d=>b.keep c f (a.keep c f q n i d) (a.free c f q n d) i d
 slot:=fun c f q n i d=>by
  obtain ⟨sl,g⟩:=a.slot c f q n i d
  obtain ⟨j,e2⟩:=b.slot c _ g (a.free c f q n d) i d
  exact ⟨j,e2⟩
 free:=fun c f q n d=>by
  obtain ⟨o',g⟩:=a.there c f q d
  exact b.free c o' g (a.free c f q n d) d
 there:=fun c f q d=>by
  obtain ⟨o',g⟩:=a.there c f q d
  exact b.there c o' g d
 tups:=fun c xs q=>b.tups c xs (a.tups c xs q)
 frzs:=fun c f xs q=>b.frzs c f xs (a.frzs c f xs q)
 tbls:=fun c ps q=>by
  obtain ⟨m,g⟩:=a.tbls c ps q
  obtain ⟨l,e2⟩:=b.tbls c _ g
  exact ⟨m ++ l,by rw [e2,Array.append_assoc]⟩
theorem Un.kept (k:∀ b u,h.get? b=some u->h'.get? b=some u):Un fs ex H H h h' :=
 ⟨fun b a q _ _ _=>k b a q,fun b a q _ _ _=>⟨a.slots,k b a q⟩,fun _ _ _ n _=>n,fun b a q _=>⟨a,k b a q⟩,fun _ _ q=>q,fun _ _ _ q=>q,fun _ ps q=>⟨#[],by rw [q];simp⟩⟩
theorem Un.refl:Un fs ex H H h h:=Un.kept fun _ _ q=>q
theorem Un.laid (k:∀ b u,h.get? b=some u->h'.get? b=some u) (c:h.objs.size<=a) (hn:H a=none):Un fs ex H (upd H a o) h h' where
 keep:=fun b u q _ _ _=>k b u q
 slot:=fun b u q _ _ _=>⟨u.slots,k b u q⟩
 free:=fun b u q n _=>by rw [aae (aB5 (aC4 (aI4 q) c))];exact n
 there:=fun b u q _=>⟨u,k b u q⟩
 tups:=fun b xs q=>by rw [aae (aar q hn)];exact q
 frzs:=fun b u xs q=>by rw [aae (aar q hn)];exact q
 tbls:=fun b ps q=>⟨#[],by rw [aae (aar q hn),q];simp⟩
theorem Un.write (a:Mut (H x)) (g:e=x\/H e=some (.own x)) (k:∀ b u,b ≠ e->h.get? b=some u->h'.get? b=some u) (c:∃ u,h'.get? e=some u):Un fs ex H (upd H x o) h h':=by
 have d:∀ b,H b=none->b ≠ x:=fun b n z=>by subst z;rw [n] at a;exact a
 have hb:∀ b,H b=none->b ≠ e:=fun b n z=>by
  subst z
  rcases g with r | r
  ·exact d b n r
  ·rw [n] at r;cases r
 have hm:∀ b u,H b=some u->¬ Mut (some u)->b ≠ x:=fun b u q f z=>by subst z;rw [q] at a;exact f a
 refine ⟨fun b u q n _ _=>k b u (hb b n) q,fun b u q n _ _=>⟨u.slots,k b u (hb b n) q⟩,fun b u q n _=>by rw [aae (d b n)];exact n,fun b u q _=>?_,
  fun b xs q=>by rw [aae (hm b _ q fun z=>z)];exact q,fun b u xs q=>by rw [aae (hm b _ q fun z=>z)];exact q,fun b ps q=>⟨#[],by rw [aae (hm b _ q fun z=>z),q];simp⟩⟩
 by_cases hbe:b=e
 ·subst hbe;exact c
 ·exact ⟨u,k b u hbe q⟩
theorem Un.mono (u:Un fs ex H H1 h h1) (f:∀ b∈fs,b∈fs') (d:∀ b∈ex,b∈ex'):Un fs' ex' H H1 h h1 :=
 ⟨fun b c q n hb a=>u.keep b c q n (fun z=>hb (f b z)) fun z=>a (d b z),fun _ _ q n _ a=>u.any q n fun z=>a (d _ z),fun b c q n a=>u.free b c q n fun z=>a (d b z),fun b c q a=>u.there b c q fun z=>a (d b z),u.tups,u.frzs,u.tbls⟩
end
def trk (h:Heap) (H:Hp):List Addr:=(List.range h.objs.size).filter fun a=>(H a).isSome
def hidT (h:Heap) (H:Hp):Heap:=PySem.W.hideAll h (trk h H)
theorem aq3 (h:Heap) (H:Hp):(hidT h H).objs.size=h.objs.size:=PySem.W.hideAll_size _ _
theorem atm {h:Heap} {H:Hp} {b:Addr} {o:Obj} (e:h.get? b=some o) (n:H b=none):(hidT h H).get? b=some o :=
 PySem.W.hideAll_get _ e fun hm=>by
  have q:(H b).isSome=true:=(List.mem_filter.mp hm).2
  rw [n] at q;simp at q
theorem awl {h:Heap} {H:Hp} {b:Addr} {o:Obj} (e:(hidT h H).get? b=some o):h.get? b=some o/\H b=none:=by
 have a:h.get? b=some o:=PySem.W.of_hideAll (trk h H) e
 refine ⟨a,?_⟩
 cases q:H b with
 | none=>rfl
 | some x =>
  have hm:b∈trk h H:=List.mem_filter.mpr ⟨aB8.mpr (aI4 a),by simp [q]⟩
  have z:(hidT h H).get? b=none:=PySem.W.hideAll_none (trk h H) hm
  rw [z] at e;cases e
def awm (g h:Heap) (L:Addr):List (Addr × Obj):=(List.range h.objs.size).filterMap fun a=>if a=L\/(g.get? a).isSome=true then none else (h.get? a).map fun o=>(a,o)
def rest (g h:Heap) (L d:Addr):List (Addr × Obj):=(awm g h L).filter fun p=>decide (p.1 ≠ d)
structure Mod (K:Frag) (mg:Str->Option Value) (base:Heap):Prop where
 kin:K.In base
 glob:base.Ns mainGlobals mg
 blt:∃ mb,base.Ns builtinsNs mb/\∀ x:Str,x ≠ "__name__"->mb x=bootBuiltins x
 nolimit:base.NoLimit
/-- the context: a def's body (or a comprehension's block) running. base: fixed through the whole law; s₀, H₀: the entry; outer: the frames whose slots others may change (a def's callers); stack: all frames that run;
  ex: iterators that were made ahead of the entry and are walked here (a comprehension's);fn: the names whose cells were made at the entry (a def: all;a comprehension's block: its own);calm: not within an except suite;pn: pins that every state bears;xe: what is wanted of an exception that leaves the code -/
structure Cx where
 prog:Program
 w:World
 K:Frag
 mg:Str->Option Value
 base:Heap
 A:Around
 N:List Str
 s₀:Shared
 H₀:Hp
 env:Env
 outer:List Env
 stack:List Env
 ex:List Addr
 fn:Str->Bool
 calm:Bool
 pn:List (Addr × Obj)
 xe:Value->Shared->Prop
def frs (l:List Env):List Addr:=l.filterMap (·.frame)
abbrev Cx.fs (X:Cx):List Addr:=frs X.outer
def Vis (sc:Scope) (x:Str):Prop:=sc.names.lookup x=some .local\/sc.names.lookup x=some .cell\/sc.names.lookup x=some .free
def Loc (sc:Scope) (x:Str):Prop:=sc.names.lookup x=some .local\/sc.names.lookup x=some .cell
def Look (env:Env) (h:Heap) (m:Str->Option Value) (x:Str) (u:Value):Prop :=
 (env.kindOf x=some .local/\m x=some u)\/((env.kindOf x=some .cell\/env.kindOf x=some .free)/\∃ c,env.cells.lookup x=some c/\h.IsCell c (some u))
structure Cx.Ok (X:Cx):Prop where
 mod:Mod X.K X.mg X.base
 kind:X.env.scope.kind=.function
 glob:X.env.globals=mainGlobals
 blt:X.env.builtins=builtinsNs
 above:X.s₀.heap.objs.size<=X.env.locals
 inj:∀ x y c,X.env.cells.lookup x=some c->X.env.cells.lookup y=some c->x=y
 has:∀ x,(X.env.kindOf x=some .cell\/X.env.kindOf x=some .free)->∃ c,X.env.cells.lookup x=some c
 cab:∀ x c,X.fn x=true->X.env.cells.lookup x=some c->X.s₀.heap.objs.size<=c
 hd:X.calm=true->X.A.handled=none
 frames:X.A.frames=some X.stack
 stk:X.stack=X.outer\/(X.stack=X.env :: X.outer/\X.env.frame=some X.env.locals)
 exf:∀ b∈X.ex,b ≠ X.env.locals/\∀ x c,X.env.cells.lookup x=some c->c ≠ b
 bs:∀ b o,X.base.get? b=some o->X.s₀.heap.get? b=some o/\X.H₀ b=none
 bsz:X.base.objs.size<=X.s₀.heap.objs.size
 noex:∀ b o,X.base.get? b=some o->b ∉ X.ex
 exfs:∀ b∈X.ex,b ∉ X.fs
 funs:X.s₀.heap.FunFrames X.base X.outer
 frf:∀ b∈X.fs,X.H₀ b=none
structure Inv (X:Cx) (pins:List (Addr × Obj)) (σ:List (Option V)) (H:Hp) (s:Shared):Prop where
 ok:X.Ok
 os:s.os=X.s₀.os
 bare:AllBare s.gens
 base:Un X.fs X.ex X.H₀ H X.s₀.heap s.heap
 loc:∃ m,s.heap.Ns X.env.locals m/\∀ (i:Nat) (x:Str) (v:V),X.N[i]?=some x->σ[i]?=some (some v)->Vis X.env.scope x->∃ u,RelV v u/\Look X.env s.heap m x u
 cell:∀ x c,X.env.cells.lookup x=some c->∃ v,s.heap.IsCell c v
 free:H X.env.locals=none
 freeC:∀ x c,X.env.cells.lookup x=some c->H c=none
 pin:∀ p∈X.pn ++ pins,s.heap.get? p.1=some p.2/\H p.1=none/\p.1 ≠ X.env.locals/\p.1 ∉ X.fs/\∀ v,p.2.data ≠ .cell v
 hok:HOk X.prog X.w H s.heap
 len : σ.length=X.N.length
section
variable {X:Cx} {pins:List (Addr × Obj)} {σ:List (Option V)} {H H':Hp} {s:Shared} {h':Heap}
theorem Cx.Ok.nofr (ok:X.Ok) {b:Addr} {o:Obj} (e:X.base.get? b=some o):b ∉ X.fs:=fun hb=>by
 have:=(ok.funs.mem hb).1
 rw [e] at this;cases this
theorem Inv.bs (I:Inv X pins σ H s):∀ b o,X.base.get? b=some o->s.heap.get? b=some o/\H b=none:=fun b o e =>
 ⟨I.base.keep b o (I.ok.bs b o e).1 (I.ok.bs b o e).2 (I.ok.nofr e) (I.ok.noex b o e),I.base.free b o (I.ok.bs b o e).1 (I.ok.bs b o e).2 (I.ok.noex b o e)⟩
theorem Inv.bk (I:Inv X pins σ H s):∀ b o,X.base.get? b=some o->s.heap.get? b=some o:=fun b o e=>(I.bs b o e).1
theorem Inv.mod (I:Inv X pins σ H s):Mod X.K X.mg X.base:=I.ok.mod
theorem Inv.kIn (I:Inv X pins σ H s):X.K.In s.heap:=I.ok.mod.kin.keeps I.bk
theorem Inv.fr (I:Inv X pins σ H s):∃ m,Fr X.base X.env.locals s.heap m :=
 let ⟨m,hn,_⟩:=I.loc
 ⟨m,hn,I.bk,aC9 I.ok.bsz I.ok.above⟩
theorem Inv.lt (I:Inv X pins σ H s):X.env.locals < s.heap.objs.size:=let ⟨_,hn,_⟩:=I.loc;hn.lt
theorem Inv.sz (I:Inv X pins σ H s):X.s₀.heap.objs.size<=s.heap.objs.size:=aC9 I.ok.above (aF8 I.lt)
theorem Inv.nofs (I:Inv X pins σ H s) {a:Addr} (h:s.heap.objs.size<=a):a ∉ X.fs:=fun hb=>by
 obtain ⟨_,o,b,_⟩:=I.ok.funs.mem hb
 exact absurd (aC4 (aI4 b) (aC9 I.sz h)) (aF7 _)
theorem Inv.cne (I:Inv X pins σ H s):∀ x c,X.env.cells.lookup x=some c->c ≠ X.env.locals:=fun x c e z=>by
 obtain ⟨v,o,d,hd⟩:=I.cell x c e
 obtain ⟨m,⟨o',es,f,a,b,_⟩,_⟩:=I.loc
 rw [z,a] at d;cases d;rw [b] at hd;cases hd
theorem Inv.funs (I:Inv X pins σ H s):s.heap.FunFrames X.base X.outer:=by
 have all:∀ (l:List Env),(∀ b∈frs l,b∈X.fs)->X.s₀.heap.FunFrames X.base l->s.heap.FunFrames X.base l:=by
  intro l
  induction l with
  | nil=>intro _ _;trivial
  | cons env r ih =>
   intro c h
   obtain ⟨d,⟨L,o,hf,hn,g,hd⟩,f⟩:=h
   have a:L∈X.fs:=c L (by unfold frs;rw [List.filterMap_cons,hf];exact aB7)
   obtain ⟨sl,e⟩:=I.base.slot L o g (I.ok.frf L a) a fun z=>I.ok.exfs L z a
   exact ⟨d,⟨L,_,hf,hn,e,hd⟩,ih (fun b hb=>c b (by unfold frs;rw [List.filterMap_cons,hf];exact aB4 _ hb)) f⟩
 exact all X.outer (fun _ hb=>hb) I.ok.funs
theorem Inv.stack (I:Inv X pins σ H s):s.heap.FunFrames X.base X.stack:=by
 rcases I.ok.stk with e | ⟨e,hf⟩
 ·rw [e];exact I.funs
 ·rw [e]
  obtain ⟨m,hn,_⟩:=I.loc
  refine .cons (by rw [I.ok.kind];decide) hf hn ?_ I.funs
  exact Heap.get?_none_of_le (aC9 I.ok.bsz I.ok.above)
theorem Inv.stkSub (I:Inv X pins σ H s):∀ b∈frs X.stack,b∈X.env.locals :: X.fs:=fun b hb=>by
 rcases I.ok.stk with e | ⟨e,hf⟩
 ·rw [e] at hb;exact aB4 _ hb
 ·rw [e] at hb
  unfold frs at hb
  rw [List.filterMap_cons,hf] at hb
  exact hb
theorem Inv.stkFree (I:Inv X pins σ H s):∀ b∈frs X.stack,H b=none:=fun b hb=>by
 rcases aA8.mp (I.stkSub b hb) with e | hb
 ·rw [e];exact I.free
 ·obtain ⟨_,o,a,_⟩:=I.ok.funs.mem hb
  exact I.base.free b o a (I.ok.frf b hb) fun z=>I.ok.exfs b z hb
theorem Inv.step {g':Array GenState} {t':Nat} {d':Drawn} {ch:List Addr} (I:Inv X pins σ H s)
  (g:∀ b∈ch,(b∈X.ex\/X.s₀.heap.objs.size<=b)/\b ≠ X.env.locals/\(∀ x c,X.env.cells.lookup x=some c->c ≠ b)/\∀ p∈X.pn ++ pins,p.1 ≠ b)
  (keep:∀ b o,b ≠ X.env.locals->b ∉ X.fs->b ∉ ch->s.heap.get? b=some o->H b=none->h'.get? b=some o)
  (slot:∀ b o,b ≠ X.env.locals->b∈X.fs->b ∉ ch->s.heap.get? b=some o->H b=none->∃ sl,h'.get? b=some { o with slots:=sl }) (free:∀ b o,b ∉ ch->s.heap.get? b=some o->H b=none->H' b=none)
  (there:∀ b o,b ∉ ch->s.heap.get? b=some o->∃ o',h'.get? b=some o')
  (tups:∀ b xs,H b=some (.tup xs)->H' b=some (.tup xs)) (frzs:∀ b o u,H b=some (.frz o u)->H' b=some (.frz o u)) (tbls:∀ b ps,H b=some (.tbl ps)->∃ more,H' b=some (.tbl (ps ++ more)))
  (ns:∀ m,s.heap.Ns X.env.locals m->h'.Ns X.env.locals m) (hok:HOk X.prog X.w H' h') (J:AllBare g') :
  Inv X pins σ H' { s with heap:=h',gens:=g',drawn:=d',toks:=t' }:=by
 have B:∀ b o,X.s₀.heap.get? b=some o->b ≠ X.env.locals:=fun b o e=>aB5 (aC4 (aI4 e) I.ok.above)
 have y:∀ b o,X.s₀.heap.get? b=some o->b ∉ X.ex->b ∉ ch:=fun b o e a hb=>by
  rcases (g b hb).1 with z | z
  ·exact a z
  ·exact absurd (aC4 (aI4 e) z) (aF7 _)
 have f:∀ x c,X.env.cells.lookup x=some c->∀ v,s.heap.IsCell c v->h'.IsCell c v:=fun x c e v K=>by
  obtain ⟨o,A,hd⟩:=K
  have h:c ∉ ch:=fun z=>(g c z).2.2.1 x c e rfl
  by_cases hc:c∈X.fs
  ·obtain ⟨sl,q⟩:=slot c o (I.cne x c e) hc h A (I.freeC x c e)
   exact ⟨_,q,hd⟩
  ·exact ⟨o,keep c o (I.cne x c e) hc h A (I.freeC x c e),hd⟩
 refine ⟨I.ok,I.os,J,⟨fun b o e n hb a=>?_,fun b o e n hb a=>?_,fun b o e n a=>?_,fun b o e a=>?_,fun b xs e=>tups b xs (I.base.tups b xs e),fun b o xs e=>frzs b o xs (I.base.frzs b o xs e),fun b ps e=>?_⟩,?_,fun x c e=>?_,?_,fun x c e=>?_,fun p D=>?_,hok,I.len⟩
 ·exact keep b o (B b o e) hb (y b o e a) (I.base.keep b o e n hb a) (I.base.free b o e n a)
 ·obtain ⟨sl,j⟩:=I.base.slot b o e n hb a
  obtain ⟨C,e2⟩:=slot b _ (B b o e) hb (y b o e a) j (I.base.free b o e n a)
  exact ⟨C,e2⟩
 ·obtain ⟨o',j⟩:=I.base.there b o e a
  exact free b o' (y b o e a) j (I.base.free b o e n a)
 ·obtain ⟨o',j⟩:=I.base.there b o e a
  exact there b o' (y b o e a) j
 ·obtain ⟨G,j⟩:=I.base.tbls b ps e
  obtain ⟨F,e2⟩:=tbls b _ j
  exact ⟨G ++ F,by rw [e2,Array.append_assoc]⟩
 ·obtain ⟨m,hn,M⟩:=I.loc
  refine ⟨m,ns m hn,fun i x v j e2 L=>?_⟩
  obtain ⟨u,r,l⟩:=M i x v j e2 L
  refine ⟨u,r,?_⟩
  rcases l with l | ⟨k,c,e,z⟩
  ·exact .inl l
  ·exact .inr ⟨k,c,e,f x c e _ z⟩
 ·obtain ⟨v,z⟩:=I.cell x c e
  exact ⟨v,f x c e v z⟩
 ·obtain ⟨m,⟨o,_,_,A,_⟩,_⟩:=I.loc
  exact free _ o (fun z=>(g _ z).2.1 rfl) A I.free
 ·obtain ⟨v,o,A,hd⟩:=I.cell x c e
  exact free c o (fun z=>(g c z).2.2.1 x c e rfl) A (I.freeC x c e)
 ·obtain ⟨e,n,ne,E,d⟩:=I.pin p D
  have h:p.1 ∉ ch:=fun z=>(g p.1 z).2.2.2 p D rfl
  exact ⟨keep p.1 p.2 ne E h e n,free p.1 p.2 h e n,ne,E,d⟩
theorem Inv.un {t':Nat} (I:Inv X pins σ H s) (u:Un X.fs [] H H' s.heap h') (hok:HOk X.prog X.w H' h'):Inv X pins σ H' { s with heap:=h',toks:=t' }:=by
 obtain ⟨m,⟨o,es,i,f,r⟩,_⟩:=id I.loc
 obtain ⟨sl,g⟩:=u.any f I.free (by simp)
 exact I.step (g':=s.gens) (d':=s.drawn) (ch:=[]) (fun _ z=>nomatch z) (fun b o _ hb _ e n=>u.keep b o e n hb (by simp)) (fun b o _ hb _ e n=>u.slot b o e n hb (by simp)) (fun b o _ e n=>u.free b o e n (by simp)) (fun b o _ e=>u.there b o e (by simp)) u.tups u.frzs u.tbls (fun j hm=>by
  obtain ⟨o',c,d,a,h⟩:=hm
  rw [f] at a;cases a
  exact ⟨_,c,d,g,h⟩) hok I.bare
theorem Inv.call {g':Array GenState} {t':Nat} {d':Drawn} {ch:List Addr} (I:Inv X pins σ H s) (u:Un (frs X.stack) ch H H' s.heap h') (hok:HOk X.prog X.w H' h') (l:AllBare g')
  (f:∀ b∈ch,(b∈X.ex\/X.s₀.heap.objs.size<=b)/\b ≠ X.env.locals/\(∀ x c,X.env.cells.lookup x=some c->c ≠ b)/\∀ p∈X.pn ++ pins,p.1 ≠ b) :
  Inv X pins σ H' { s with heap:=h',gens:=g',drawn:=d',toks:=t' }:=by
 obtain ⟨m,⟨o,es,v,j,r⟩,_⟩:=id I.loc
 obtain ⟨sl,h⟩:=u.any j I.free fun z=>(f _ z).2.1 rfl
 exact I.step (ch:=ch) f (fun b o h hb a e n=>u.keep b o e n (fun z=>(aA8.mp (I.stkSub b z)).elim h hb) a) (fun b o _ _ a e n=>u.any e n a) (fun b o a e n=>u.free b o e n a) (fun b o a e=>u.there b o e a) u.tups u.frzs u.tbls (fun y hm=>by
  obtain ⟨o',g,i,d,q⟩:=hm
  rw [j] at d;cases d
  exact ⟨_,g,i,h,q⟩) hok l
theorem Inv.turned {t':Nat} {it:Addr} (I:Inv X pins σ H s) (k:∀ b o,b ≠ it->s.heap.get? b=some o->h'.get? b=some o) (hn:H it=none) (f:it ≠ X.env.locals)
  (h:it∈X.ex\/X.s₀.heap.objs.size<=it) (i:∀ x c,X.env.cells.lookup x=some c->c ≠ it) (l:∀ p∈X.pn ++ pins,p.1 ≠ it):Inv X pins σ H { s with heap:=h',toks:=t' }:=by
 have d:∀ b u,H b=some u->b ≠ it:=fun b u e z=>by rw [z,hn] at e;cases e
 refine I.step (g':=s.gens) (d':=s.drawn) (ch:=[it]) (fun b hb=>?_) (fun b o _ _ a e _=>k b o (fun z=>a (by simp [z])) e) (fun b o _ _ a e _=>⟨o.slots,k b o (fun z=>a (by simp [z])) e⟩) (fun _ _ _ _ n=>n)
  (fun b o a e=>⟨o,k b o (fun z=>a (by simp [z])) e⟩) (fun _ _ e=>e) (fun _ _ _ e=>e) (fun b ps e=>⟨#[],by rw [e];simp⟩) (fun m hm=>?_) (fun b u e=>?_) I.bare
 ·have e:b=it:=by simpa using hb
  subst e
  exact ⟨h,f,i,l⟩
 ·obtain ⟨o,es,g,j,r⟩:=hm
  exact ⟨o,es,g,k _ o (Ne.symm f) j,r⟩
 ·refine (I.hok b u e).stay (fun c v a q=>k c v ?_ q) (fun _ q=>q) fun _ _ q=>q
  rcases a with z | z
  ·rw [z];exact d b u e
  ·exact d c _ z
theorem Inv.tok (I:Inv X pins σ H s) (t:Nat):Inv X pins σ H { s with toks:=t }:=I.un (h':=s.heap) (t':=t) Un.refl I.hok
theorem Inv.kept {t':Nat} (I:Inv X pins σ H s) (k:∀ b u,s.heap.get? b=some u->h'.get? b=some u):Inv X pins σ H { s with heap:=h',toks:=t' }:=I.un (Un.kept k) (I.hok.kept k)
theorem Inv.laid {a:Addr} {o:HO} {t':Nat} (I:Inv X pins σ H s) (k:∀ b u,s.heap.get? b=some u->h'.get? b=some u) (c:s.heap.objs.size<=a) (new:ObjOk X.prog X.w (upd H a o) h' a o) :
  Inv X pins σ (upd H a o) { s with heap:=h',toks:=t' }:=I.un (Un.laid k c (I.hok.fresh c)) (I.hok.laid k c new)
theorem Inv.write {x e:Addr} {o:HO} {t':Nat} (I:Inv X pins σ H s) (c:Mut (H x)) (d:e=x\/H e=some (.own x)) (k:∀ b u,b ≠ e->s.heap.get? b=some u->h'.get? b=some u) (a:∃ u,h'.get? e=some u)
  (new:ObjOk X.prog X.w (upd H x o) h' x o):Inv X pins σ (upd H x o) { s with heap:=h',toks:=t' }:=I.un (Un.write c d k a) (I.hok.write c d k a new)
theorem Inv.pins_of {a:List (Addr × Obj)} (I:Inv X pins σ H s) (h:∀ p∈a,s.heap.get? p.1=some p.2/\H p.1=none/\p.1 ≠ X.env.locals/\p.1 ∉ X.fs/\∀ v,p.2.data ≠ .cell v):Inv X a σ H s :=
 ⟨I.ok,I.os,I.bare,I.base,I.loc,I.cell,I.free,I.freeC,fun p b=>(aA7.mp b).elim (fun z=>I.pin p (aC6 _ z)) (h p),I.hok,I.len⟩
theorem nodup_ix {N:List Str} (d:N.Nodup) {i j:Nat} {x:Str} (a:N[i]?=some x) (b:N[j]?=some x):i=j:=by
 obtain ⟨g,c⟩:=aA1.mp a
 obtain ⟨f,e2⟩:=aA1.mp b
 exact (List.getElem_inj d).mp (c.trans e2.symm)
theorem aj2 {M:Model} {A:Around} {E:Value->Shared->Prop} {i:Nat} {x:Str} {v:V} {u:Value} {Q:Unit->Shared->Prop} (I:Inv X pins σ H s) (hN:X.N.Nodup) (hi:X.N[i]?=some x) (C:Loc X.env.scope x) (r:RelV v u)
  (h:∀ Y,Inv X pins (σ.set i (some v)) H Y->(∃ a,Heap.SameBut a s.heap Y.heap/\(a=X.env.locals\/X.env.cells.lookup x=some a))->Q () Y) (hf:X.fn x=true\/X.env.scope.names.lookup x=some .local:=by first | exact .inl rfl | exact .inr rfl | assumption):wpAny M A (storeName X.env x u) Q E s:=by
 obtain ⟨m,hn,hl⟩:=id I.loc
 have O:(X.env.scope.kind == .class || (X.env.scope.kind == .module && X.env.locals != X.env.globals))=false:=by rw [I.ok.kind];rfl
 have G:i < σ.length:=by rw [I.len];exact (aA1.mp hi).1
 have cne:=I.cne
 have l:∀ {a:Addr} {h':Heap},(∃ o,s.heap.get? a=some o/\H a=none)->Heap.SameBut a s.heap h'->HOk X.prog X.w H h':=fun {a h'} ha f b ob e=>by
  obtain ⟨_,_,D⟩:=ha
  refine (I.hok b ob e).stay (fun c S B q=>(f.2 c ?_).trans q) (fun _ q=>q) fun _ _ q=>q
  rintro rfl
  rcases B with rfl | B
  ·rw [D] at e;cases e
  ·rw [D] at B;cases B
 rcases C with F | F
 ·refine wpAny_storeName_local F hn (fun h' Z f=>?_) O
  obtain ⟨oL,_,_,a0,_⟩:=id hn
  refine h _ ⟨I.ok,I.os,I.bare,⟨fun b o e n hb C=>?_,fun b o e n hb C=>?_,I.base.free,fun b o e C=>?_,I.base.tups,I.base.frzs,I.base.tbls⟩,⟨_,Z,fun j y T g e2 U=>?_⟩,fun y c e=>?_,I.free,I.freeC,fun p hp=>?_,l ⟨oL,a0,I.free⟩ f,by simpa using I.len⟩ ⟨_,f,.inl rfl⟩
  ·exact (f.2 b (aB5 (aC4 (aI4 e) I.ok.above))).trans (I.base.keep b o e n hb C)
  ·obtain ⟨sl,g⟩:=I.base.slot b o e n hb C
   exact ⟨sl,(f.2 b (aB5 (aC4 (aI4 e) I.ok.above))).trans g⟩
  ·obtain ⟨o',g⟩:=I.base.there b o e C
   exact ⟨o',(f.2 b (aB5 (aC4 (aI4 e) I.ok.above))).trans g⟩
  ·by_cases hj:j=i
   ·subst hj
    rw [hi] at g;cases g
    rw [List.getElem?_set_self G] at e2
    cases e2
    exact ⟨u,r,.inl ⟨F,by simp⟩⟩
   ·rw [List.getElem?_set_ne (Ne.symm hj)] at e2
    obtain ⟨u',r',q⟩:=hl j y T g e2 U
    refine ⟨u',r',?_⟩
    rcases q with ⟨k,e⟩ | ⟨k,c,e,z⟩
    ·refine .inl ⟨k,?_⟩
     have:y ≠ x:=fun e=>hj (nodup_ix hN g (e ▸ hi))
     simp [this,e]
    ·exact .inr ⟨k,c,e,z.sameBut f (cne y c e)⟩
  ·obtain ⟨S,z⟩:=I.cell y c e
   exact ⟨S,z.sameBut f (cne y c e)⟩
  ·obtain ⟨e,n,ne,W,d⟩:=I.pin p hp
   exact ⟨(f.2 p.1 ne).trans e,n,ne,W,d⟩
 ·have J:X.fn x=true:=by
   rcases hf with z | z
   ·exact z
   ·rw [z] at F;cases F
  obtain ⟨c,B⟩:=I.ok.has x (.inl F)
  obtain ⟨S,z⟩:=I.cell x c B
  refine wpAny_storeName_cell I.ok.kind F B z (fun h' P f=>?_)
  obtain ⟨oc,L,K⟩:=id z
  refine h { s with heap:=h' } ⟨I.ok,I.os,I.bare,⟨fun b o e n hb C=>?_,fun b o e n hb C=>?_,I.base.free,fun b o e C=>?_,I.base.tups,I.base.frzs,I.base.tbls⟩,⟨m,hn.sameBut f (Ne.symm (cne x c B)),fun j y T g e2 U=>?_⟩,fun y R e=>?_,I.free,I.freeC,fun p hp=>?_,l ⟨oc,L,I.freeC x c B⟩ f,by simpa using I.len⟩ ⟨c,f,.inr B⟩
  ·exact (f.2 b (aB5 (aC4 (aI4 e) (I.ok.cab x c J B)))).trans (I.base.keep b o e n hb C)
  ·obtain ⟨sl,g⟩:=I.base.slot b o e n hb C
   exact ⟨sl,(f.2 b (aB5 (aC4 (aI4 e) (I.ok.cab x c J B)))).trans g⟩
  ·obtain ⟨o',g⟩:=I.base.there b o e C
   exact ⟨o',(f.2 b (aB5 (aC4 (aI4 e) (I.ok.cab x c J B)))).trans g⟩
  ·by_cases hj:j=i
   ·subst hj
    rw [hi] at g;cases g
    rw [List.getElem?_set_self G] at e2
    cases e2
    exact ⟨u,r,.inr ⟨.inl F,c,B,P⟩⟩
   ·rw [List.getElem?_set_ne (Ne.symm hj)] at e2
    obtain ⟨u',r',q⟩:=hl j y T g e2 U
    refine ⟨u',r',?_⟩
    rcases q with q | ⟨k,R,e,z'⟩
    ·exact .inl q
    ·refine .inr ⟨k,R,e,z'.sameBut f ?_⟩
     rintro rfl
     exact hj (nodup_ix hN g (I.ok.inj _ _ _ e B ▸ hi))
  ·by_cases hcc:R=c
   ·subst hcc;exact ⟨_,P⟩
   ·obtain ⟨w2,z2⟩:=I.cell y R e
    exact ⟨w2,z2.sameBut f hcc⟩
  ·obtain ⟨e,n,ne,W,d⟩:=I.pin p hp
   refine ⟨(f.2 p.1 ?_).trans e,n,ne,W,d⟩
   intro q
   rw [q,L] at e
   have q':oc=p.2:=aC5 e
   exact d S (by rw [← q'];exact K)
theorem alk {M:Model} {A:Around} {E:Value->Shared->Prop} {i:Nat} {x:Str} {v:V} {u:Value} {Q:Unit->Shared->Prop} (I:Inv X pins σ H s) (d:X.N.Nodup) (hi:X.N[i]?=some x) (b:Loc X.env.scope x) (r:RelV v u)
  (h:∀ a,Inv X pins (σ.set i (some v)) H a->Q () a) (hf:X.fn x=true\/X.env.scope.names.lookup x=some .local:=by first | exact .inl rfl | exact .inr rfl | assumption):wpAny M A (storeName X.env x u) Q E s :=
 aj2 I d hi b r (fun a c _=>h a c) hf
theorem Inv.call' {a:Shared} {ch:List Addr} (I:Inv X pins σ H s) (g:a.os=s.os) (u:Un (frs X.stack) ch H H' s.heap a.heap) (hok:HOk X.prog X.w H' a.heap) (f:AllBare a.gens)
  (d:∀ b∈ch,(b∈X.ex\/X.s₀.heap.objs.size<=b)/\b ≠ X.env.locals/\(∀ x c,X.env.cells.lookup x=some c->c ≠ b)/\∀ p∈X.pn ++ pins,p.1 ≠ b):Inv X pins σ H' a:=by
 obtain ⟨h',g',d',t',o'⟩:=a
 have e:o'=s.os:=g
 subst e
 exact I.call (g':=g') (t':=t') (d':=d') u hok f d
end
abbrev XK:=Value->Option Addr->Hp->Prop
abbrev St:=List (Option V)
abbrev VK:=V->Hp->Prop
abbrev TE:=St->Hp->VK->Prop
abbrev TT:=St->Hp->(Bool->Hp->Prop)->Prop
abbrev TA:=St->Hp->(List V->Hp->Prop)->Prop
structure Ends where
 nx:St->Hp->Prop
 rt:VK
 bk:St->Hp->Prop:=fun _ _=>False
 ct:St->Hp->Prop:=fun _ _=>False
abbrev TS:=Ends->St->Hp->Prop
def EP (X:Cx) (pins:List (Addr × Obj)) (σ:St) (Q:VK) (u:Value) (s':Shared):Prop:=∃ v H',Inv X pins σ H' s'/\RelV v u/\Q v H'
def TP (X:Cx) (pins:List (Addr × Obj)) (σ:St) (Q:Bool->Hp->Prop) (b:Bool) (s':Shared):Prop:=∃ H',Inv X pins σ H' s'/\Q b H'
def AP (X:Cx) (pins:List (Addr × Obj)) (σ:St) (Q:List V->Hp->Prop) (us:List Value) (s':Shared):Prop:=∃ vs H',Inv X pins σ H' s'/\Vals vs us/\Q vs H'
def SP (X:Cx) (pins:List (Addr × Obj)) (D:Ends) (f:Flow) (s':Shared):Prop :=
 match f with
 | .next=>∃ σ' H',Inv X pins σ' H' s'/\D.nx σ' H'
 | .brk=>∃ σ' H',Inv X pins σ' H' s'/\D.bk σ' H'
 | .cont=>∃ σ' H',Inv X pins σ' H' s'/\D.ct σ' H'
 | .ret u=>∃ v σ' H',Inv X pins σ' H' s'/\RelV v u/\D.rt v H'
def PE (X:Cx) (e:Expr) (t:TE):Prop :=
 ∀ (pins:List (Addr × Obj)) (s:Shared) (σ:St) (H:Hp) (Q:VK),Inv X pins σ H s->t σ H Q->wpAny (model X.prog X.w) X.A (eval e X.env) (EP X pins σ Q) X.xe s
def PT (X:Cx) (e:Expr) (t:TT):Prop :=
 ∀ (pins:List (Addr × Obj)) (s:Shared) (σ:St) (H:Hp) (Q:Bool->Hp->Prop),Inv X pins σ H s->t σ H Q->wpAny (model X.prog X.w) X.A (isTrue e X.env (eval e X.env)) (TP X pins σ Q) X.xe s
def PW (X:Cx) (e:Expr) (t:TT):Prop :=
 ∀ (whole:Sem Value) (pins:List (Addr × Obj)) (s:Shared) (σ:St) (H:Hp) (Q:Bool->Hp->Prop),Inv X pins σ H s->t σ H Q->wpAny (model X.prog X.w) X.A (isTrue e X.env whole) (TP X pins σ Q) X.xe s
theorem PW.pt {X:Cx} {e:Expr} {t:TT} (h:PW X e t):PT X e t:=h _
def PA (X:Cx) (es:List Expr) (t:TA):Prop :=
 ∀ (pos:Pos) (pins:List (Addr × Obj)) (s:Shared) (σ:St) (H:Hp) (Q:List V->Hp->Prop),Inv X pins σ H s->t σ H Q->wpAny (model X.prog X.w) X.A (spliced (backTo pos (starEach es X.env))) (AP X pins σ Q) X.xe s
def PS (X:Cx) (st:Stmt) (t:TS):Prop :=
 ∀ (pins:List (Addr × Obj)) (s:Shared) (σ:St) (H:Hp) (D:Ends),Inv X pins σ H s->t D σ H->wpAny (model X.prog X.w) X.A (exec st X.env) (SP X pins D) X.xe s
def PSs (X:Cx) (st:List Stmt) (t:TS):Prop :=
 ∀ (pins:List (Addr × Obj)) (s:Shared) (σ:St) (H:Hp) (D:Ends),Inv X pins σ H s->t D σ H->wpAny (model X.prog X.w) X.A (execs st X.env) (SP X pins D) X.xe s
theorem thn {α:Type} {t:Sem α} {Q Q' : α->Shared->Prop} {M:Model} {A:Around} {E:Value->Shared->Prop} {s:Shared} (h:wpAny M A t Q E s) (b:∀ a s,Q a s->Q' a s):wpAny M A t Q' E s:=aI8 h b fun _ _ x=>x
section
variable {X:Cx}
def tVar (i:Nat):TE:=fun σ H Q=>∃ v,σ[i]?=some (some v)/\Q v H
def tC (v:V):TE:=fun _ H Q=>Q v H
theorem ay5 {i:Nat} {x:Str} {d:Pos} (n:X.N[i]?=some x) (j:Vis X.env.scope x) (hd:(x == ("__debug__" : Str))=false:=by decide) (f:(x == ("__classdict__" : Str))=false:=by decide):PE X (.Name x d) (tVar i):=by
 intro pins s σ H Q I h
 obtain ⟨v,e,h⟩:=h
 obtain ⟨m,hn,o⟩:=I.loc
 obtain ⟨u,r,l⟩:=o i x v n e j
 have fin:EP X pins σ Q u s:=⟨v,H,I,r,h⟩
 rcases l with ⟨b,hm⟩ | ⟨b,c,g,a⟩
 ·exact wpAny_Name (wpAny_loadName_local I.ok.kind b hn hm fin) hd
 ·rcases b with b | b
  ·exact wpAny_Name (wpAny_loadName_cell I.ok.kind b g a fin) hd
  ·exact wpAny_Name (wpAny_loadName_free I.ok.kind b g a fin f) hd
theorem aad {i j pos}:PE X (.Constant (.int i) j pos) (tC (.int i)):=fun _ _ _ H _ I h=>wpAny_Constant_int ⟨.int i,H,I.tok _,⟨_,rfl⟩,h⟩
theorem acw {b j pos}:PE X (.Constant (.bool b) j pos) (tC (.bl b)):=fun _ _ _ H _ I h=>Constant_bool ⟨.bl b,H,I,rfl,h⟩
theorem ae9 {j pos}:PE X (.Constant .none j pos) (tC .non):=fun _ _ _ H _ I h=>Constant_none ⟨.non,H,I,rfl,h⟩
def Gl (X:Cx) (x:Str):Prop:=X.env.kindOf x=some .globalImplicit
theorem ai6 {E:Value->Shared->Prop} {pins:List (Addr × Obj)} {s:Shared} {σ:St} {H:Hp} {x:Str} {u:Value} {a:Pos} {Q:Value->Shared->Prop} (I:Inv X pins σ H s) (b:Gl X x) (hm:X.mg x=some u) (h:Q u s)
  (hd:(x == ("__debug__" : Str))=false:=by decide):wpAny (model X.prog X.w) X.A (eval (.Name x a) X.env) Q E s :=
 Calls.Name_function_global I.ok.kind b (Calls.loadGlobal_global (by rw [I.ok.glob];exact I.mod.glob.keeps I.bk) hm h) hd
theorem aed {E:Value->Shared->Prop} {pins:List (Addr × Obj)} {s:Shared} {σ:St} {H:Hp} {x:Str} {u:Value} {a:Pos} {Q:Value->Shared->Prop} (I:Inv X pins σ H s) (c:Gl X x) (hm:X.mg x=none) (d:bootBuiltins x=some u) (h:Q u s)
  (hn:x ≠ "__name__":=by decide) (hd:(x == ("__debug__" : Str))=false:=by decide):wpAny (model X.prog X.w) X.A (eval (.Name x a) X.env) Q E s:=by
 obtain ⟨mb,b,f⟩:=I.mod.blt
 exact Calls.Name_function_global I.ok.kind c (Calls.loadGlobal_builtin (by rw [I.ok.glob];exact I.mod.glob.keeps I.bk) hm (by rw [I.ok.blt];exact b.keeps I.bk) ((f x hn).trans d) h) hd
theorem awn {x:Str} {v:V} {u:Value} {a:Pos} (b:Gl X x) (hm:X.mg x=some u) (r:RelV v u) (hd:(x == ("__debug__" : Str))=false:=by decide):PE X (.Name x a) (tC v) :=
 fun _ _ _ H _ I h=>ai6 I b hm ⟨v,H,I,r,h⟩ hd
theorem ac7 {x:Str} {v:V} {u:Value} {a:Pos} (b:Gl X x) (hm:X.mg x=none) (c:bootBuiltins x=some u) (r:RelV v u) (hn:x ≠ "__name__":=by decide) (hd:(x == ("__debug__" : Str))=false:=by decide):PE X (.Name x a) (tC v) :=
 fun _ _ _ H _ I h=>aed I b hm c ⟨v,H,I,r,h⟩ hn hd
variable {a b:Expr} {ta tb:TE} {pos:Pos}
def PC (X:Cx) (op:CmpOp) (a b:Expr) (t:TE):Prop :=
 ∀ (pins:List (Addr × Obj)) (s:Shared) (σ:St) (H:Hp) (Q:VK),Inv X pins σ H s->t σ H Q ->
  wpAny (model X.prog X.w) X.A (eval a X.env) (fun v s₁=>wpAny (model X.prog X.w) X.A (eval b X.env) (fun u s₂=>wpAny (model X.prog X.w) X.A (compareOp op v u) (EP X pins σ Q) X.xe s₂) X.xe s₁) X.xe s
def tB (t:TE):TT:=fun σ H Q=>t σ H fun x H1=>∃ c,x=.bl c/\Q c H1
theorem ay6 {op:CmpOp} {t:TE} (h:PC X op a b t) (f:behindInMarks op b=false:=by first | exact nobehind _ (by decide) (by decide) | rfl):PT X (.Compare a [op] [b] pos) (tB t):=by
 intro pins s σ H Q I l
 refine wpAny_isTrue_Compare1 (thn (h pins s σ H _ I l) fun v s1 f=>thn f fun u s2 j=>thn j fun c o ⟨x,m,i,g,n⟩=>?_) f
 obtain ⟨d,rfl,q⟩:=n
 cases g
 exact aJ3 ⟨m,i,q⟩
theorem ab2 {e:Expr} {t:TE} (h:PE X e t) (f:∀ whole,isTrue e X.env whole=(do let v ← whole;standAt e.pos;holding [v] (truthy v)):=by intro _;rfl):PT X e (tB t):=by
 intro pins s σ H Q I c
 refine isTrue_plain (thn (h pins s σ H _ I c) fun v s1 ⟨x,g,b,a,i⟩=>?_) (f _)
 obtain ⟨d,rfl,q⟩:=i
 cases a
 exact aJ3 ⟨g,b,q⟩
variable {tA tB':TT} {rest:List Expr}
def tAnd (t u:TT):TT:=fun σ H Q=>t σ H fun c H1=>if c=true then u σ H1 Q else Q false H1
def tOr (t u:TT):TT:=fun σ H Q=>t σ H fun c H1=>if c=true then Q true H1 else u σ H1 Q
def tNot (t:TT):TT:=fun σ H Q=>t σ H fun c H1=>Q (!c) H1
theorem adj (ha:PT X a tA):PW X (.BoolOp .And [a] pos) tA:=by
 intro b pins s σ H Q I h
 refine isTrue_and (thn (ha pins s σ H Q I h) fun c s1 e=>?_)
 cases c with
 | true=>exact isTrue_and_nil e
 | false=>exact e
theorem ah5 (ha:PT X a tA):PW X (.BoolOp .Or [a] pos) tA:=by
 intro b pins s σ H Q I h
 refine isTrue_or (thn (ha pins s σ H Q I h) fun c s1 e=>?_)
 cases c with
 | false=>exact isTrue_or_nil e
 | true=>exact e
theorem aee (ha:PT X a tA) (hb:PW X (.BoolOp .And (b :: rest) pos) tB'):PW X (.BoolOp .And (a :: b :: rest) pos) (tAnd tA tB'):=by
 intro i pins s σ H Q I h
 refine isTrue_and (thn (ha pins s σ H _ I h) fun c s1 ⟨d,g,f⟩=>?_)
 cases c with
 | true=>exact hb i pins s1 σ d Q g f
 | false=>exact ⟨d,g,f⟩
theorem ah6 (ha:PT X a tA) (hb:PW X (.BoolOp .Or (b :: rest) pos) tB'):PW X (.BoolOp .Or (a :: b :: rest) pos) (tOr tA tB'):=by
 intro i pins s σ H Q I h
 refine isTrue_or (thn (ha pins s σ H _ I h) fun c s1 ⟨d,g,f⟩=>?_)
 cases c with
 | true=>exact ⟨d,g,f⟩
 | false=>exact hb i pins s1 σ d Q g f
theorem aci (ha:PT X a tA):PT X (.UnaryOp .Not a pos) (tNot tA):=by
 intro pins s σ H Q I h
 exact isTrue_not (ha pins s σ H (fun c b=>Q (!c) b) I h)
def apn (ta tb:TE):TE:=fun σ H Q=>ta σ H fun x H1=>∃ c,x=.bl c/\if c=true then tb σ H1 Q else Q (.bl false) H1
def apo (ta:TE):TE:=fun σ H Q=>ta σ H fun x H1=>∃ c,x=.bl c/\Q (.bl (!c)) H1
theorem ah7 {op} {t:TE} (h:PE X a t):PE X (.BoolOp op [a] pos) t:=fun pins s σ H Q I b=>BoolOp_one (h pins s σ H Q I b)
theorem agb (ha:PE X a ta) (hb:PE X (.BoolOp .And (b :: rest) pos) tb):PE X (.BoolOp .And (a :: b :: rest) pos) (apn ta tb):=by
 intro pins s σ H Q I h
 refine BoolOp_and (thn (ha pins s σ H _ I h) fun v s1 ⟨x,f,g,i,d⟩=>?_)
 obtain ⟨c,rfl,d⟩:=d
 cases i
 refine aJ3 ?_
 cases c with
 | true=>exact hb pins s1 σ f Q g d
 | false=>exact ⟨.bl false,f,g,rfl,d⟩
theorem ay7 (ha:PE X a ta):PE X (.UnaryOp .Not a pos) (apo ta):=by
 intro pins s σ H Q I h
 refine UnaryOp_ (thn (ha pins s σ H _ I h) fun v s1 ⟨x,d,g,f,b⟩=>?_)
 obtain ⟨c,rfl,b⟩:=b
 cases f
 exact not_of (aJ3 ⟨.bl (!c),d,g,rfl,b⟩)
def tIf (t:TT) (ta tb:TE):TE:=fun σ H Q=>t σ H fun c H1=>if c=true then ta σ H1 Q else tb σ H1 Q
theorem atn {c:Expr} (j:PT X c tA) (ha:PE X a ta) (hb:PE X b tb):PE X (.IfExp c a b pos) (tIf tA ta tb):=by
 intro pins s σ H Q I h
 refine wpAny_IfExp (thn (j pins s σ H _ I h) fun d s1 ⟨f,i,g⟩=>?_)
 cases d with
 | true=>exact ha pins s1 σ f Q i g
 | false=>exact hb pins s1 σ f Q i g
end
def SqL (K:Frag) (H:Hp) (a:Addr) (xs:List V):Prop :=
 Rd H a (.lst xs) ∨
  ∃ (o:Obj) (its:Array Value) (n:Nat),K.lookup a=some o/\o.cls=.type "list"/\o.dict=none/\o.data=.seq its n/\its.size<=sizeLine/\Vals xs its.toList
def SqT (K:Frag) (H:Hp) (a:Addr) (xs:List V):Prop :=
 Rd H a (.tup xs) ∨
  ∃ (o:Obj) (its:Array Value) (n:Nat),K.lookup a=some o/\o.cls=.type "tuple"/\o.data=.seq its n/\its.size<=sizeLine/\Vals xs its.toList
def absV:Value->Option V
 | .none=>some .non
 | .bool b=>some (.bl b)
 | .int i _=>some (.int i)
 | .str x _=>some (.str x)
 | .bytes b _=>some (.byt b)
 | .float b _=>some (.flt b)
 | .ref a=>some (.ref a)
 | .type n=>some (.ty n)
 | _=>none
theorem RelV.abs {x:V} {u:Value} (r:RelV x u):absV u=some x:=by
 cases x with
 | non=>cases r;rfl
 | bl _=>cases r;rfl
 | int _=>obtain ⟨t,rfl⟩:=r;rfl
 | str _=>obtain ⟨t,rfl⟩:=r;rfl
 | byt _=>obtain ⟨t,rfl⟩:=r;rfl
 | flt _=>obtain ⟨t,rfl⟩:=r;rfl
 | ref _=>cases r;rfl
 | ty _=>cases r;rfl
theorem RelV.inj {x y:V} {u:Value} (r:RelV x u) (q:RelV y u):x=y:=aC5 (r.abs.symm.trans q.abs)
theorem Vals.inj:∀ {xs ys:List V} {us:List Value},Vals xs us->Vals ys us->xs=ys
 | _,_,_,.nil,.nil=>rfl
 | _,_,_,.cons r t,.cons r' t'=>by rw [r.inj r',Vals.inj t t']
section
variable {X:Cx} {pins:List (Addr × Obj)} {σ:St} {H:Hp} {s:Shared} {a:Addr} {xs ys:List V}
theorem SqL.of {K:Frag} (h:H a=some (.lst xs)):SqL K H a xs:=.inl (.inl h)
theorem SqT.of {K:Frag} (h:H a=some (.tup xs)):SqT K H a xs:=.inl (.inl h)
theorem Inv.list (I:Inv X pins σ H s) (h:SqL X.K H a xs):∃ its:List Value,Vals xs its/\PlainL s.heap a its.toArray/\xs.length<=sizeLine:=by
 rcases h with h | ⟨o,its,n,d,b,hd,c,hz,r⟩
 ·obtain ⟨z,its,n,r,e⟩:=h.ok I.hok
  exact ⟨its,r,⟨_,n,e,rfl,rfl,rfl⟩,z⟩
 ·refine ⟨its.toList,r,⟨o,n,I.kIn a o d,b,hd,by simpa using c⟩,?_⟩
  have e:=r.length
  simp only [Array.length_toList] at e
  omega
theorem Inv.tuple (I:Inv X pins σ H s) (h:SqT X.K H a xs):∃ its:List Value,Vals xs its/\IsTup s.heap a its.toArray/\xs.length<=sizeLine:=by
 rcases h with h | ⟨o,its,n,d,b,c,hz,r⟩
 ·obtain ⟨z,its,r,p⟩:=h.ok I.hok
  exact ⟨its,r,p,z⟩
 ·refine ⟨its.toList,r,⟨o,I.kIn a o d,b,n,by simpa using c⟩,?_⟩
  have e:=r.length
  simp only [Array.length_toList] at e
  omega
theorem Inv.list_inj (I:Inv X pins σ H s) (h:SqL X.K H a xs) (h':SqL X.K H a ys):xs=ys:=by
 obtain ⟨its,r,⟨o,n,e,_,_,d⟩,_⟩:=I.list h
 obtain ⟨its',f,⟨o',g,b,_,_,d'⟩,_⟩:=I.list h'
 rw [e] at b;cases b
 rw [d] at d'
 injection d' with c _
 have:its=its':=by simpa using congrArg Array.toList c
 subst this
 exact r.inj f
end
abbrev Cx.wish (X:Cx) (E:Value->Shared->Prop):Cx:={ X with xe:=E }
abbrev Cx.nox (X:Cx):Cx:=X.wish fun _ _=>False
theorem Cx.Ok.wish {X:Cx} (ok:X.Ok) (E:Value->Shared->Prop):(X.wish E).Ok :=
 ⟨ok.mod,ok.kind,ok.glob,ok.blt,ok.above,ok.inj,ok.has,ok.cab,ok.hd,ok.frames,ok.stk,ok.exf,ok.bs,ok.bsz,ok.noex,ok.exfs,ok.funs,ok.frf⟩
theorem Cx.Ok.unwish {X:Cx} {E:Value->Shared->Prop} (ok:(X.wish E).Ok):X.Ok :=
 ⟨ok.mod,ok.kind,ok.glob,ok.blt,ok.above,ok.inj,ok.has,ok.cab,ok.hd,ok.frames,ok.stk,ok.exf,ok.bs,ok.bsz,ok.noex,ok.exfs,ok.funs,ok.frf⟩
section
variable {X:Cx} {pins:List (Addr × Obj)} {σ:St} {H:Hp} {s:Shared} {E:Value->Shared->Prop}
theorem Inv.wish (I:Inv X pins σ H s) (E:Value->Shared->Prop):Inv (X.wish E) pins σ H s:=⟨I.ok.wish E,I.os,I.bare,I.base,I.loc,I.cell,I.free,I.freeC,I.pin,I.hok,I.len⟩
theorem Inv.unwish (I:Inv (X.wish E) pins σ H s):Inv X pins σ H s:=⟨I.ok.unwish,I.os,I.bare,I.base,I.loc,I.cell,I.free,I.freeC,I.pin,I.hok,I.len⟩
theorem SP.unwish {D:Ends} {f:Flow} {b:Shared} (h:SP (X.wish E) pins D f b):SP X pins D f b:=by
 cases f with
 | next=>obtain ⟨a,H',I,q⟩:=h;exact ⟨a,H',I.unwish,q⟩
 | brk=>obtain ⟨a,H',I,q⟩:=h;exact ⟨a,H',I.unwish,q⟩
 | cont=>obtain ⟨a,H',I,q⟩:=h;exact ⟨a,H',I.unwish,q⟩
 | ret u=>obtain ⟨v,a,H',I,r,q⟩:=h;exact ⟨v,a,H',I.unwish,r,q⟩
theorem PSs.nox {st:List Stmt} {t:TS} (h:PSs X.nox st t):PSs X st t:=fun pins s σ H D I a =>
 aI8 (h pins s σ H D (I.wish _) a) (fun _ _ q=>q.unwish) fun _ _ z=>False.elim z
end
section
variable {X:Cx} {st:Stmt} {rest:List Stmt} {t u:TS} {e:Expr} {te:TE} {pos:Pos}
def apq:TS:=fun D σ H=>D.nx σ H
def tSeq (t u:TS):TS:=fun D σ H=>t { D with nx:=u D } σ H
theorem aav:PSs X [] apq:=fun _ _ σ H _ I h=>wpAny_execs_nil ⟨σ,H,I,h⟩
theorem aac (d:PS X st t) (b:PSs X rest u):PSs X (st :: rest) (tSeq t u):=by
 intro pins s σ H D I h
 refine wpAny_execs_cons (thn (d pins s σ H { D with nx:=u D } I h) fun f s1 q=>?_)
 cases f with
 | next =>
  obtain ⟨a,H',c,q⟩:=q
  exact b pins s1 a H' D c q
 | ret v=>exact q
 | brk=>exact q
 | cont=>exact q
theorem aag (a:PS X st t):PSs X [st] t:=by
 intro pins s σ H D I h
 refine wpAny_execs_cons (thn (a pins s σ H D I h) fun f s1 q=>?_)
 cases f with
 | next=>exact wpAny_execs_nil q
 | ret v=>exact q
 | brk=>exact q
 | cont=>exact q
theorem Inv.quiet {pins:List (Addr × Obj)} {σ:St} {H:Hp} {s:Shared} (I:Inv X pins σ H s):interactive X.env=false:=by simp [interactive,I.ok.kind]
def apr (te:TE):TS:=fun D σ H=>te σ H fun _ H1=>D.nx σ H1
theorem aa8 (f:PE X e te) (b:swapsWith e none pos.line X.env=pure false:=by rfl):PS X (.Expr e pos) (apr te):=by
 intro pins s σ H D I h
 exact wpAny_Expr_any (thn (f pins s σ H _ I h) fun v s1 ⟨x,a,d,g,c⟩=>⟨σ,a,d,c⟩) I.quiet b
def tRet (te:TE):TS:=fun D σ H=>te σ H D.rt
theorem aaq (f:PE X e te):PS X (.Return (some e) pos) (tRet te):=by
 intro pins s σ H D I h
 exact wpAny_Return_some (thn (f pins s σ H _ I h) fun v s1 ⟨x,a,d,b,c⟩=>⟨x,σ,a,d,b,c⟩)
def tIfS (c:TT) (t u:TS):TS:=fun D σ H=>c σ H fun b H1=>if b=true then t D σ H1 else u D σ H1
theorem aa6 {c:Expr} {a b:List Stmt} {f:TT} (l:PT X c f) (ha:PSs X a t) (hb:PSs X b u):PS X (.If c a b pos) (tIfS f t u):=by
 intro pins s σ H D I h
 refine wpAny_If (thn (l pins s σ H _ I h) fun d s1 ⟨i,g,j⟩=>?_)
 cases d with
 | true=>exact ha pins s1 σ i D g j
 | false=>exact hb pins s1 σ i D g j
def ay8:TS:=fun _ _ _=>False
theorem aef:PS X st ay8:=fun _ _ _ _ _ _ h=>h.elim
end
abbrev TG:=V->St->Hp->(St->Hp->Prop)->Prop
abbrev TGs:=List V->St->Hp->(St->Hp->Prop)->Prop
def PG (X:Cx) (target:Expr) (t:TG):Prop :=
 ∀ (pins:List (Addr × Obj)) (s:Shared) (σ:St) (H:Hp) (v:V) (u:Value) (Q:St->Hp->Prop),Inv X pins σ H s->RelV v u->t v σ H Q ->
  wpAny (model X.prog X.w) X.A (assign target X.env u) (fun _ s'=>∃ σ' H',Inv X pins σ' H' s'/\Q σ' H') X.xe s
def PGs (X:Cx) (ts:List Expr) (t:TGs):Prop :=
 ∀ (pins:List (Addr × Obj)) (s:Shared) (σ:St) (H:Hp) (vs:List V) (us:List Value) (Q:St->Hp->Prop),Inv X pins σ H s->Vals vs us->t vs σ H Q ->
  wpAny (model X.prog X.w) X.A (assignInOrder ((assignEach ts X.env).map (·.2)) us) (fun _ s'=>∃ σ' H',Inv X pins σ' H' s'/\Q σ' H') X.xe s
abbrev TSet:=V->V->V->Hp->(Hp->Prop)->Prop
def PSet (X:Cx) (t:TSet):Prop :=
 ∀ (pins:List (Addr × Obj)) (s:Shared) (σ:St) (H:Hp) (o i v:V) (ov iv u:Value) (Q:Hp->Prop),Inv X pins σ H s->RelV o ov->RelV i iv->RelV v u->t o i v H Q ->
  wpAny (model X.prog X.w) X.A (setItem ov iv u) (fun _ s'=>∃ H',Inv X pins σ H' s'/\Q H') X.xe s
section
variable {X:Cx} {pos:Pos}
def abl (i:Nat):TG:=fun v σ H Q=>Q (σ.set i (some v)) H
theorem aam {i:Nat} {x:Str} (c:X.N.Nodup) (hi:X.N[i]?=some x) (a:Loc X.env.scope x) (hf:X.fn x=true\/X.env.scope.names.lookup x=some .local:=by first | exact .inl rfl | exact .inr rfl | assumption):PG X (.Name x pos) (abl i):=by
 intro pins s σ H v u Q I r h
 exact wpAny_assign_Name (alk I c hi a r (fun d b=>⟨_,H,b,h⟩) hf)
def gNil:TGs:=fun vs σ H Q=>vs=[]/\Q σ H
def agw (t:TG) (u:TGs):TGs:=fun vs σ H Q=>∃ v r,vs=v :: r/\t v σ H fun σ' H'=>u r σ' H' Q
theorem ab8:PGs X [] gNil:=by
 intro pins s σ H vs us Q I r h
 obtain ⟨e,h⟩:=h
 subst e
 cases r
 exact assignInOrder_nil ⟨σ,H,I,h⟩
theorem aa2 {e:Expr} {es:List Expr} {t:TG} {u:TGs} (f:PG X e t) (g:PGs X es u)
  (c:(assignEach (e :: es) X.env).map (·.2)=assign e X.env :: (assignEach es X.env).map (·.2):=by rfl):PGs X (e :: es) (agw t u):=by
 intro pins s σ H vs us Q I r h
 obtain ⟨v,l,b,h⟩:=h
 subst b
 cases r with
 | cons r rr =>
  rw [c]
  refine assignInOrder_cons (thn (f pins s σ H _ _ _ I r h) fun _ s1 ⟨a,i,d,j⟩=>?_)
  exact g pins s1 a i _ _ Q d rr j
def gTup (K:Frag) (n:Nat) (t:TGs):TG:=fun v σ H Q=>∃ a xs,v=.ref a/\SqT K H a xs/\xs.length=n/\t xs σ H Q
theorem acq {es:List Expr} {k:Nat} {t:TGs} {n:Nat} (j:X.calm=true) (h:PGs X es t)
  (hn:(assignEach es X.env).length=n:=by rfl) (c:(assignEach es X.env).findIdx? (·.1)=none:=by rfl):PG X (.Tuple es k pos) (gTup X.K n t):=by
 intro pins s σ H v u Q I r d
 obtain ⟨a,xs,g,l,q,d⟩:=d
 subst g
 cases r
 obtain ⟨its,f,m,hz⟩:=I.tuple l
 refine assign_Tuple_tuple (I.ok.hd j) m (by simp [hn,← q,f.length]) c fun h' p=>?_
 have i:Inv X pins σ H { s with heap:=h' }:=I.kept (t':=s.toks) fun b o e=>p b o (aB5 (aI4 e)) e
 exact h pins _ σ H xs _ Q i (by simpa using f) d
def gSub (to ti:TE) (t:TSet):TG:=fun v σ H Q=>to σ H fun o H1=>ti σ H1 fun i H2=>t o i v H2 fun H3=>Q σ H3
theorem agc {o i:Expr} {to c:TE} {t:TSet} (n:PE X o to) (hi:PE X i c) (f:PSet X t)
  (ha:∀ v,assign (.Subscript o i pos) X.env v=(do
   let a ← holding [v] (eval o X.env)
   let b ← holding [v,a] (eval i X.env)
   standAt pos
   holding [v,a,b] (setItem a b v)
   release [v,a,b] []):=by intro _;rfl):PG X (.Subscript o i pos) (gSub to c t):=by
 intro pins s σ H v u Q I r h
 rw [ha]
 refine aI1 (aI6 (thn (n pins s σ H _ I h) fun a s1 ⟨x,q,j,g,w⟩=>?_))
 refine aI1 (aI6 (thn (hi pins s1 σ q _ j w) fun b s2 ⟨y,H2,z,l,m⟩=>?_))
 refine aI1 (wpAny_standAt (aI1 (aI6 (thn (f pins s2 σ H2 x y v a b u _ z g l r m) fun _ A ⟨H3,p,d⟩=>?_))))
 exact wpAny_release ⟨σ,H3,p,d⟩
def tAsg (te:TE) (g:TG):TS:=fun D σ H=>te σ H fun x H1=>g x σ H1 D.nx
theorem ab9 {tg e:Expr} {te:TE} {g:TG} (j:PE X e te) (f:PG X tg g) (a:swapsWithSole [tg] e pos.line X.env=pure false:=by rfl) (i:swappedStores [tg] e X.env=pure none:=by rfl)
  (d:(assignEach [tg] X.env).map (·.2)=[assign tg X.env]:=by rfl):PS X (.Assign [tg] e pos) (tAsg te g):=by
 intro pins s σ H D I h
 refine wpAny_Assign_stores (thn (j pins s σ H _ I h) fun v s1 ⟨x,l,c,b,m⟩=>?_) a i
 rw [d]
 exact thn (f pins s1 σ l x v _ c b m) fun _ s2 q=>q
theorem aal {i:Nat} {x:Str} {e:Expr} {te:TE} {a:Pos} (f:X.N.Nodup) (hi:X.N[i]?=some x) (j:Loc X.env.scope x) (g:PE X e te) (b:swapsWith e (some (.Name x a)) pos.line X.env=pure false:=by rfl) (hf:X.fn x=true\/X.env.scope.names.lookup x=some .local:=by first | exact .inl rfl | exact .inr rfl | assumption) :
  PS X (.Assign [.Name x a] e pos) (tAsg te (abl i)):=by
 intro pins s σ H D I h
 refine wpAny_Assign_Name (thn (g pins s σ H _ I h) fun v s1 ⟨y,l,d,c,m⟩=>?_) b
 exact alk d f hi j c (fun s2 n=>⟨_,l,n,m⟩) hf
end
section
variable {X:Cx} {pos:Pos}
def aq4 (c:TT) (tb:TS):TS:=fun D σ H=>∃ W:Nat->St->Hp->Prop,(∃ m,W m σ H)/\∀ m σ H,W m σ H ->
 c σ H fun b H1=>if b=true then ∃ N:St->Hp->Prop,(∀ σ' H',N σ' H'->∃ m',m' < m/\W m' σ' H')/\tb { D with nx:=N,ct:=N,bk:=D.nx } σ H1 else D.nx σ H1
theorem alm {c:Expr} {body:List Stmt} {r:TT} {x:TS} (u:PassesOwn (model X.prog X.w) X.A X.env X.xe) (G:PT X c r) (hb:PSs X body x):PS X (.While c body [] pos) (aq4 r x):=by
 intro pins s σ H D I h
 obtain ⟨W,⟨E,C⟩,g⟩:=h
 refine wpAny_While (codeAny_whileLoop (fun n J=>∃ i H',Inv X pins i H' J/\W n i H') ?_ E ⟨σ,H,I,C⟩)
 rintro n s1 ⟨d,z,F,K⟩
 refine wpAny_passesOwn u (thn (G pins s1 d z _ F (g n d z K)) fun b s2 ⟨H2,B,l⟩=>?_)
 cases b with
 | true =>
  obtain ⟨N,y,l⟩:=l
  rw [aE8 rfl]
  refine wpAny_passesOwn u (thn (hb pins s2 d H2 _ B l) fun f L j=>?_)
  cases f with
  | next =>
   obtain ⟨a,H3,q,p⟩:=j
   obtain ⟨o,hm,m⟩:=y a H3 p
   exact ⟨o,hm,a,H3,q,m⟩
  | cont =>
   obtain ⟨a,H3,q,p⟩:=j
   obtain ⟨o,hm,m⟩:=y a H3 p
   exact ⟨o,hm,a,H3,q,m⟩
  | brk=>exact j
  | ret v=>exact j
 | false =>
  rw [aE9 aA9]
  exact wpAny_execs_nil ⟨d,H2,B,l⟩
end
structure It where
 go:Nat->Hp->Prop
 yld:Nat->Hp->V->Hp->Prop
 stop:Nat->Hp->Prop
def FpOk (X:Cx) (pins:List (Addr × Obj)) (H:Hp) (b:Addr):Prop :=
 H b=none/\b ≠ X.env.locals/\b ∉ X.fs/\(b∈X.ex\/X.s₀.heap.objs.size<=b)/\(∀ x c,X.env.cells.lookup x=some c->c ≠ b)/\∀ p∈X.pn ++ pins,p.1 ≠ b
theorem Inv.fpOk {X:Cx} {pins:List (Addr × Obj)} {σ:St} {H H':Hp} {s:Shared} {b:Addr} (I:Inv X pins σ H s) (hb:s.heap.objs.size<=b) (hn:H' b=none):FpOk X pins H' b:=by
 refine ⟨hn,Nat.ne_of_gt (aC4 I.lt hb),I.nofs hb,.inr (aC9 I.sz hb),fun x c e z=>?_,fun p a z=>?_⟩
 ·obtain ⟨v,q⟩:=I.cell x c e
  exact absurd (aC4 q.lt (by rw [z];exact hb)) (aF7 _)
 ·exact absurd (aC4 (aI4 (I.pin p a).1) (by rw [z];exact hb)) (aF7 _)
structure Turn (P:Program) (w:World) (K:Frag) (tg:Expr) (J:It) (fp:List Addr) (it:Addr) (tn:Nat->Heap->Prop):Prop where
 mem:it∈fp
 obj:∀ i h,tn i h->∀ b∈fp,∃ o,h.get? b=some o/\∀ v,o.data ≠ .cell v
 keep:∀ i h h',tn i h->(∀ b∈fp,∀ o,h.get? b=some o->h'.get? b=some o)->tn i h'
 item:∀ (X:Cx),X.prog=P->X.w=w->X.K=K->X.calm=true->∀ (i:Nat) (pins:List (Addr × Obj)) (s:Shared) (σ:St) (H:Hp) (E:Value->Shared->Prop),Inv X pins σ H s->(∀ b∈fp,FpOk X pins H b)->tn i s.heap->J.go i H ->
  wpAny (model P w) X.A (pyNext (.ref it)) (fun r s1=>∃ u,r=some u /\
   wpAny (model P w) X.A (letOwnedTupleGo tg (.ref it) u) (fun _ s2=>∃ x H',Inv X pins σ H' s2/\RelV x u/\J.yld i H x H'/\tn (i+1) s2.heap/\∀ b∈fp,H' b=none) E s1) E s
 done:∀ (X:Cx),X.prog=P->X.w=w->X.K=K->X.calm=true->∀ (i:Nat) (pins:List (Addr × Obj)) (s:Shared) (σ:St) (H:Hp) (E:Value->Shared->Prop),Inv X pins σ H s->(∀ b∈fp,FpOk X pins H b)->tn i s.heap->J.stop i H ->
  wpAny (model P w) X.A (pyNext (.ref it)) (fun r s1=>r=none/\Inv X pins σ H s1) E s
 self:∀ (A:Around) (i:Nat) (s:Shared) (Q:Value->Shared->Prop) (E:Value->Shared->Prop),tn i s.heap->Q (.ref it) s->wpAny (model P w) A (pyIter (.ref it)) Q E s
abbrev TI:=St->Hp->(It->Hp->Prop)->Prop
def PIE (X:Cx) (pins:List (Addr × Obj)) (σ:St) (tg:Expr) (R:It->Hp->Prop) (itv:Value) (s2:Shared):Prop :=
 ∃ (it:Addr) (fp:List Addr) (tn:Nat->Heap->Prop) (J:It) (H':Hp),itv=.ref it/\Inv X pins σ H' s2/\Turn X.prog X.w X.K tg J fp it tn/\tn 0 s2.heap/\(∀ b∈fp,FpOk X pins H' b)/\R J H'
def PI (X:Cx) (tg iter:Expr) (wi:TI):Prop :=
 ∀ (pins:List (Addr × Obj)) (s:Shared) (σ:St) (H:Hp) (R:It->Hp->Prop),Inv X pins σ H s->wi σ H R ->
  wpAny (model X.prog X.w) X.A (eval iter X.env) (fun v s1=>wpAny (model X.prog X.w) X.A (pyIter v) (PIE X pins σ tg R) X.xe s1) X.xe s
theorem avz {M:Model} {A:Around} {E:Value->Shared->Prop} {s:Shared} {tg:Expr} {it:Addr} {u:Value} {o:Obj} {n:String} {vs:Array Value} {Q:Unit->Shared->Prop} (c:s.heap.get? it=some o) (b:o.cls=.type n) (hd:o.data=.fields vs)
  (hn:["enumerate","zip","dict_itemiterator","dict_reverseitemiterator","odict_iterator","itertools.zip_longest","itertools.pairwise"].contains n=false) (a:Q () s):wpAny M A (letOwnedTupleGo tg (.ref it) u) Q E s:=by
 unfold letOwnedTupleGo
 cases tg <;> first
  | exact aI2 a
  | (cases u <;> first
    | exact aI2 a
    | (refine aI1 (wpAny_load c ?_)
       rw [b,hd]
       show wpAny M A (if (["enumerate","zip","dict_itemiterator","dict_reverseitemiterator","odict_iterator","itertools.zip_longest","itertools.pairwise"].contains n && vs[0]? == some (rawInt _))=true then _ else _) Q E s
       rw [aE9 (by intro h;rw [hn,Bool.false_and] at h;cases h)]
       exact aI2 a))
def Itl (K:Frag) (a:Addr):It :=
 ⟨fun i H=>∃ xs x,SqL K H a xs/\xs[i]?=some x,fun i H x H'=>H'=H/\∀ xs,SqL K H a xs->xs[i]?=some x,fun i H=>∃ xs,SqL K H a xs/\xs.length<=i⟩
def Itr (lo:Int) (n:Nat):It:=⟨fun i _=>i < n,fun i H x H'=>H'=H/\x=.int (lo+i),fun i _=>n<=i⟩
theorem aq5 {P:Program} {w:World} {K:Frag} {tg:Expr} (a it:Addr):Turn P w K tg (Itl K a) [it] it (fun i h=>h.IsListIter it a i) where
 mem:=by simp
 obj:=fun i h st b hb=>by
  have e:b=it:=by simpa using hb
  subst e
  obtain ⟨o,e,c,d⟩:=st
  exact ⟨o,e,fun v z=>by rw [d] at z;cases z⟩
 keep:=fun i h h' st k=>st.at fun o e=>k it (by simp) o e
 item:=by
  intro X l m r D i pins s σ H E I hf st j
  subst l m r
  obtain ⟨xs,x,f,y⟩:=j
  obtain ⟨its,q,p,hz⟩:=I.list f
  obtain ⟨u,G,J⟩:=q.get y
  obtain ⟨A,g,N,B,n,C⟩:=hf it (by simp)
  refine wpAny_pyNext_list_item st p.isList (x:=u) (by simpa using G) fun h' st' sb=>?_
  have F:Inv X pins σ H { s with heap:=h' }:=I.turned (t':=s.toks) (fun b o hb e=>(sb.2 b hb).trans e) A g B n C
  obtain ⟨o,e,c,d⟩:=id st'
  exact ⟨u,rfl,avz (s:={ s with heap:=h' }) e c d (by decide) ⟨x,H,F,J,⟨rfl,fun ys M=>by rw [I.list_inj M f];exact y⟩,st',fun b hb=>(hf b hb).1⟩⟩
 done:=by
  intro X l m r D i pins s σ H E I hf st j
  subst l m r
  obtain ⟨xs,f,y⟩:=j
  obtain ⟨its,q,p,hz⟩:=I.list f
  obtain ⟨A,g,N,B,n,C⟩:=hf it (by simp)
  have O:=q.length
  exact wpAny_pyNext_list_end (I.ok.hd D) st p.isList (by simp;omega) fun h' L=>⟨rfl,I.turned (t':=s.toks) (fun b o hb e=>L b o hb e) A g B n C⟩
 self:=fun _ _ _ _ _ st h=>wpAny_pyIter_listiter st h
theorem aps {P:Program} {w:World} {K:Frag} {tg:Expr} (it:Addr) (lo:Int) (n:Nat):Turn P w K tg (Itr lo n) [it] it (fun i h=>IsRangeIter h it (lo+(i:Nat) * 1) ((n:Int) - (i:Nat)) 1) where
 mem:=by simp
 obj:=fun i h st b hb=>by
  have e:b=it:=by simpa using hb
  subst e
  exact ⟨_,st,fun v z=>by
   have u:Data.fields _=Data.cell v:=z
   cases u⟩
 keep:=fun i h h' st k=>k it (by simp) _ st
 item:=by
  intro X f g l c i pins s σ H E I hf st d
  subst f g l
  obtain ⟨m,a,A,p,j,q⟩:=hf it (by simp)
  have W:=Walks.range (prog:=X.prog) (w:=X.w) (I.ok.hd c) it lo 1 n
  refine W.item i s _ _ d st fun v h' r y st' B=>?_
  obtain ⟨t,rfl⟩:=y
  have x:Inv X pins σ H { s with heap:=h',toks:=r }:=I.turned (fun b o hb e=>B b o (by simpa using hb) e) m a p j q
  refine ⟨_,rfl,avz (s:={ s with heap:=h',toks:=r }) (n:="range_iterator") st' rfl rfl (by decide) ⟨.int (lo+i),H,x,⟨t,?_⟩,⟨rfl,rfl⟩,st',fun b hb=>(hf b hb).1⟩⟩
  rw [Int.mul_one]
 done:=by
  intro X f g l c i pins s σ H E I hf st d
  subst f g l
  obtain ⟨m,a,A,p,j,q⟩:=hf it (by simp)
  exact wpAny_pyNext_range_end (I.ok.hd c) st (by have:n<=i:=d;omega) fun h' C=>⟨rfl,I.turned (t':=s.toks) (fun b o hb e=>C b o hb e) m a p j q⟩
 self:=fun _ _ _ _ _ st h=>wpAny_pyIter_rangeiter st h
section
variable {X:Cx} {tg:Expr}
def av0 (K:Frag) (tl:TE):TI:=fun σ H R=>tl σ H fun x H1=>∃ a,x=.ref a/\(∃ xs,SqL K H1 a xs)/\R (Itl K a) H1
theorem aby {l:Expr} {tl:TE} (j:PE X l tl):PI X tg l (av0 X.K tl):=by
 intro pins s σ H R I h
 refine thn (j pins s σ H _ I h) fun v s1 ⟨x,g,c,d,i⟩=>?_
 obtain ⟨a,e,⟨xs,f⟩,q⟩:=i
 subst e
 cases d
 obtain ⟨its,m,p,hz⟩:=c.list f
 refine aJ4 p.isList ?_
 refine ⟨s1.heap.objs.size,[s1.heap.objs.size],_,_,g,rfl,c.kept (t':=s1.toks) fun b o e=>aI3 _ e,aq5 a _,⟨_,aI5 _ rfl,rfl,rfl⟩,fun b hb=>?_,q⟩
 have e:b=s1.heap.objs.size:=by simpa using hb
 subst e
 exact c.fpOk (aA6 _) (c.hok.fresh (aA6 _))
theorem aln {pins:List (Addr × Obj)} {σ:St} {H:Hp} {s:Shared} {R:It->Hp->Prop} {E:Value->Shared->Prop} {lo hi:Int} {t u v:Tok} {c:Nat} (I:Inv X pins σ H s) (f : -(2 ^ 62)<=lo) (g:lo < 2 ^ 62) (i : -(2 ^ 62)<=hi) (h:hi < 2 ^ 62)
  (q:R (Itr lo (hi - lo).toNat) H):wpAny (model X.prog X.w) X.A (pyIter (.ref s.heap.objs.size)) (PIE X pins σ tg R) E { s with heap:=s.heap.push { cls:=.type "range",data:=.fields #[.int lo t,.int hi u,.int 1 v] },toks:=c }:=by
 refine wpAny_pyIter_range (IsRange.new ..) (small_one f g i h) ?_
 have a:Inv X pins σ H { s with heap:=s.heap.push { cls:=.type "range",data:=.fields #[.int lo t,.int hi u,.int 1 v] },toks:=c }:=I.kept fun b o e=>aI3 _ e
 refine ⟨(s.heap.push { cls:=.type "range",data:=.fields #[.int lo t,.int hi u,.int 1 v] }).objs.size,[(s.heap.push { cls:=.type "range",data:=.fields #[.int lo t,.int hi u,.int 1 v] }).objs.size],_,_,H,rfl,
  a.kept (t':=c) fun b o e=>aI3 _ e,aps _ lo (hi - lo).toNat,?_,fun b hb=>?_,q⟩
 ·have d:lo+((0:Nat):Int) * 1=lo:=by simp
  have e2:(((hi - lo).toNat:Nat):Int) - ((0:Nat):Int)=Builtin.Range.rangeSize lo hi 1:=by rw [rangeSize_one];split <;> omega
  show IsRangeIter _ _ (lo+((0:Nat):Int) * 1) ((((hi - lo).toNat:Nat):Int) - ((0:Nat):Int)) 1
  rw [d,e2]
  exact aI5 _ rfl
 ·have e:b=(s.heap.push { cls:=.type "range",data:=.fields #[.int lo t,.int hi u,.int 1 v] }).objs.size:=by simpa using hb
  subst e
  exact a.fpOk (aA6 _) (a.hok.fresh (aA6 _))
def apt (ta:TA):TI:=fun σ H R=>ta σ H fun vs H1=>∃ j:Int,vs=[.int j]/\-(2 ^ 62)<=j/\j < 2 ^ 62/\R (Itr 0 j.toNat) H1
def av1 (ta:TA):TI:=fun σ H R=>ta σ H fun vs H1=>∃ i j:Int,vs=[.int i,.int j]/\(-(2 ^ 62)<=i/\i < 2 ^ 62/\-(2 ^ 62)<=j/\j < 2 ^ 62)/\R (Itr i (j - i).toNat) H1
theorem abg {a:Expr} {d:TA} {p b:Pos} (l:Gl X "range") (hm:X.mg "range" = none) (ha:PA X [a] d) (f:starEach [a] X.env=[(false,eval a X.env)]:=by rfl):PI X tg (.Call (.Name "range" p) [a] [] b) (apt d):=by
 intro pins s σ H R I h
 refine Call_ (aed I l hm boot_range (PyProof.Rows.callWith_type1 (thn (ha b pins s σ H _ I h) fun us s1 ⟨vs,n,i,g,c⟩=>?_) f rfl))
 obtain ⟨j,e,c,m,q⟩:=c
 subst e
 cases g with
 | cons r rr =>
  cases rr
  obtain ⟨t,rfl⟩:=r
  exact call_range_1 (aln i (by omega) (by omega) c m (by simpa using q))
theorem adt {a b:Expr} {g:TA} {p c:Pos} (u:Gl X "range") (hm:X.mg "range" = none) (ha:PA X [a,b] g) (m:starEach [a,b] X.env=[(false,eval a X.env),(false,eval b X.env)]:=by rfl) (d:starEach [b] X.env=[(false,eval b X.env)]:=by rfl) :
  PI X tg (.Call (.Name "range" p) [a,b] [] c) (av1 g):=by
 intro pins s σ H R I h
 refine Call_ (aed I u hm boot_range (PyProof.Rows.callWith_type1 (thn (ha c pins s σ H _ I h) fun us s1 ⟨vs,x,o,n,f⟩=>?_) (by rw [m,d]) (by rw [d];rfl)))
 obtain ⟨i,j,e,⟨f,v,l,w⟩,q⟩:=f
 subst e
 cases n with
 | cons r rr =>
  cases rr with
  | cons r' rr =>
   cases rr
   obtain ⟨t,rfl⟩:=r
   obtain ⟨t',rfl⟩:=r'
   exact call_range_2 (aln o f v l w q)
def tFor (wi:TI) (g:TG) (tb:TS):TS:=fun D σ H=>wi σ H fun J H1=>∃ W:Nat->Nat->St->Hp->Prop,(∃ m,W 0 m σ H1)/\∀ i m σ H,W i m σ H ->
 (J.stop i H/\D.nx σ H)\/(J.go i H/\∃ N:St->Hp->Prop,(∀ σ' H',N σ' H'->∃ m',m' < m/\W (i+1) m' σ' H')/\∀ x H',J.yld i H x H'->g x σ H' fun σ2 H2=>tb { D with nx:=N,ct:=N,bk:=D.nx } σ2 H2)
def agd (fp:List Addr) (h:Heap):List (Addr × Obj):=fp.filterMap fun b=>(h.get? b).map fun o=>(b,o)
theorem ad1 {fp:List Addr} {h:Heap} {b:Addr} {o:Obj} (hb:b∈fp) (e:h.get? b=some o):(b,o)∈agd fp h:=List.mem_filterMap.mpr ⟨b,hb,by rw [e];rfl⟩
theorem aq6 {fp:List Addr} {h:Heap} {p:Addr × Obj} (c:p∈agd fp h):p.1∈fp/\h.get? p.1=some p.2:=by
 obtain ⟨b,hb,e⟩:=List.mem_filterMap.mp c
 cases q:h.get? b with
 | none=>rw [q] at e;cases e
 | some o =>
  rw [q] at e
  have a:(b,o)=p:=aC5 e
  subst a
  exact ⟨hb,q⟩
theorem Inv.pinned {pins:List (Addr × Obj)} {σ:St} {H:Hp} {s:Shared} {fp:List Addr} (I:Inv X pins σ H s) (hf:∀ b∈fp,FpOk X pins H b) (g:∀ b∈fp,∃ o,s.heap.get? b=some o/\∀ v,o.data ≠ .cell v):Inv X (pins ++ agd fp s.heap) σ H s :=
 I.pins_of fun p c=>(aA7.mp c).elim (fun z=>I.pin p (aB2 _ z)) fun z=>by
  obtain ⟨hb,e⟩:=aq6 z
  obtain ⟨h,f,i,_⟩:=hf p.1 hb
  obtain ⟨o,a,d⟩:=g p.1 hb
  rw [e] at a;cases a
  exact ⟨e,h,f,i,d⟩
theorem Inv.unpinned {pins pl:List (Addr × Obj)} {σ:St} {H:Hp} {s:Shared} (I:Inv X (pins ++ pl) σ H s):Inv X pins σ H s:=I.pins_of fun p a=>I.pin p (aB2 _ (aC6 _ a))
theorem abi {z:Expr} {body:List Stmt} {wi:TI} {g:TG} {tb:TS} {O:Pos} (G:PassesOwn (model X.prog X.w) X.A X.env X.xe) (hc:X.calm=true) (hi:PI X tg z wi) (hg:PG X tg g) (hb:PSs X body tb)
  (hs:∀ x,foldedSetIterable z X.env x=pure x:=by intro _;rfl):PS X (.For tg z body [] O) (tFor wi g tb):=by
 intro pins s σ H D I h
 refine wpAny_For (thn (hi pins s σ H _ I h) fun v s1 h1=>thn h1 fun a0 s2 h2=>?_) hs
 obtain ⟨it,fp,tn,J,H2,e,I2,T,M,Z,W,⟨m0,w0⟩,E⟩:=h2
 subst e
 -- what stays true of the iterator's objects through the loop
 have y:∀ {H':Hp},(∀ b∈fp,H' b=none)->∀ b∈fp,FpOk X pins H' b:=fun hn b hb=>⟨hn b hb,(Z b hb).2⟩
 refine codeAny_forLoop_any (fun n Y=>∃ i q H',Inv X pins q H' Y/\tn i Y.heap/\(∀ b∈fp,H' b=none)/\W i n q H') ?_ m0 ⟨0,σ,H2,I2,M,fun b hb=>(Z b hb).1,w0⟩
 rintro n s3 ⟨i,l,H3,I3,L,F,w3⟩
 rcases E i n l H3 w3 with ⟨stop,qn⟩ | ⟨go,N,hN,step⟩
 ·refine wpAny_passesOwn G (thn (T.done X rfl rfl rfl hc i pins s3 l H3 X.xe I3 (y F) L stop) fun r s4 ⟨R,I4⟩=>?_)
  subst R
  exact wpAny_execs_nil ⟨l,H3,I4,qn⟩
 ·refine wpAny_passesOwn G (thn (T.item X rfl rfl rfl hc i pins s3 l H3 X.xe I3 (y F) L go) fun r s4 ⟨u,R,h4⟩=>?_)
  subst R
  refine wpAny_passesOwn G (thn h4 fun _ s5 ⟨x,H5,I5,r5,y5,C,P⟩=>?_)
  have Q:=I5.pinned (y P) (T.obj _ _ C)
  refine wpAny_passesOwn G (thn (hg _ s5 l H5 x u _ Q r5 (step x H5 y5)) fun _ s6 ⟨S,H6,I6,q6⟩=>?_)
  refine wpAny_passesOwn G (thn (hb _ s6 S H6 _ I6 q6) fun f U B=>?_)
  have j:∀ {a:St} {c:Hp},Inv X (pins ++ agd fp s5.heap) a c U->N a c->∃ m,m < n/\∃ i q H',Inv X pins q H' U/\tn i U.heap/\(∀ b∈fp,H' b=none)/\W i m q H':=fun {a c} p K=>by
   obtain ⟨m',hm,w7⟩:=hN a c K
   refine ⟨m',hm,i+1,a,c,p.unpinned,T.keep _ _ _ C fun b hb o e=>(p.pin (b,o) (aB2 _ (aB2 _ (ad1 hb e)))).1,fun b hb=>?_,w7⟩
   obtain ⟨o,e,d⟩:=T.obj _ _ C b hb
   exact (p.pin (b,o) (aB2 _ (aB2 _ (ad1 hb e)))).2.1
  cases f with
  | next=>obtain ⟨a,c,p,K⟩:=B;exact j p K
  | cont=>obtain ⟨a,c,p,K⟩:=B;exact j p K
  | brk=>obtain ⟨a,c,p,B⟩:=B;exact ⟨a,c,p.unpinned,B⟩
  | ret v=>obtain ⟨x7,a,c,p,r7,B⟩:=B;exact ⟨x7,a,c,p.unpinned,r7,B⟩
end
theorem aq7 {lo:Int} {n:Nat} {g:TG} {f:TS} {D:Ends} {σ:St} {H:Hp} (b:Nat->St->Hp->Prop) (j:b 0 σ H)
  (h:∀ i σ H,i < n->b i σ H->g (.int (lo+i)) σ H fun c H2=>f { D with nx:=b (i+1),ct:=b (i+1),bk:=D.nx } c H2) (hd:∀ σ H,b n σ H->D.nx σ H) :
  ∃ W:Nat->Nat->St->Hp->Prop,(∃ m,W 0 m σ H)/\∀ i m σ H,W i m σ H ->
   ((Itr lo n).stop i H/\D.nx σ H)\/((Itr lo n).go i H/\∃ N:St->Hp->Prop,(∀ a H',N a H'->∃ d,d < m/\W (i+1) d a H')/\∀ x H',(Itr lo n).yld i H x H'->g x σ H' fun c H2=>f { D with nx:=N,ct:=N,bk:=D.nx } c H2):=by
 refine ⟨fun i m σ H=>m=n - i/\i<=n/\b i σ H,⟨n,by simp,aF3 _,j⟩,?_⟩
 rintro i m σ H ⟨rfl,hi,p⟩
 by_cases hlt:i < n
 ·refine .inr ⟨hlt,b (i+1),fun a H' l=>⟨n - (i+1),by omega,rfl,hlt,l⟩,fun x H' y=>?_⟩
  obtain ⟨e,y⟩:=y
  subst e y
  exact h i σ _ hlt p
 ·have e:i=n:=by omega
  subst e
  exact .inl ⟨aA6 _,hd σ H p⟩
abbrev R2:=V->V->Hp->VK->Prop
def OpR (X:Cx) (f:Value->Value->Sem Value) (r:R2):Prop :=
 ∀ (pins:List (Addr × Obj)) (s:Shared) (σ:St) (H:Hp) (x y:V) (v u:Value) (Q:VK),Inv X pins σ H s->RelV x v->RelV y u->r x y H Q ->
  wpAny (model X.prog X.w) X.A (f v u) (EP X pins σ Q) X.xe s
def UnR (X:Cx) (f:Value->Sem Value) (r:V->Hp->VK->Prop):Prop :=
 ∀ (pins:List (Addr × Obj)) (s:Shared) (σ:St) (H:Hp) (x:V) (v:Value) (Q:VK),Inv X pins σ H s->RelV x v->r x H Q ->
  wpAny (model X.prog X.w) X.A (f v) (EP X pins σ Q) X.xe s
def abb (X:Cx) (f:Value) (r:List V->Hp->VK->Prop):Prop :=
 ∀ (pins:List (Addr × Obj)) (s:Shared) (σ:St) (H:Hp) (xs:List V) (us:List Value) (Q:VK),Inv X pins σ H s->Vals xs us->r xs H Q ->
  wpAny (model X.prog X.w) X.A (call f us) (EP X pins σ Q) X.xe s
def TruR (X:Cx) (r:V->Hp->(Bool->Hp->Prop)->Prop):Prop :=
 ∀ (pins:List (Addr × Obj)) (s:Shared) (σ:St) (H:Hp) (x:V) (v:Value) (Q:Bool->Hp->Prop),Inv X pins σ H s->RelV x v->r x H Q ->
  wpAny (model X.prog X.w) X.A (truthy v) (TP X pins σ Q) X.xe s
def tOp (r:R2) (ta tb:TE):TE:=fun σ H Q=>ta σ H fun x H1=>tb σ H1 fun y H2=>r x y H2 Q
def tUn (r:V->Hp->VK->Prop) (ta:TE):TE:=fun σ H Q=>ta σ H fun x H1=>r x H1 Q
def rI (C:Int->Int->Prop) (g:Int->Int->V):R2:=fun x y H Q=>∃ i j,x=.int i/\y=.int j/\C i j/\Q (g i j) H
def rI0 (g:Int->Int->V):R2:=fun x y H Q=>∃ i j,x=.int i/\y=.int j/\Q (g i j) H
def rU (g:Int->V):V->Hp->VK->Prop:=fun x H Q=>∃ i,x=.int i/\Q (g i) H
section
variable {X:Cx} {a b c:Expr} {ta tb tc:TE} {pos:Pos}
theorem binT (ha:PE X a ta) (hb:PE X b tb) {pins:List (Addr × Obj)} {s:Shared} {σ:St} {H:Hp} {R:V->V->Hp->Prop} (I:Inv X pins σ H s)
  (h:ta σ H fun x g=>tb σ g fun y H2=>R x y H2) {Q:Value->Shared->Prop} {f:Value->Value->Sem Value}
  (hf:∀ v u s2 x y H2,Inv X pins σ H2 s2->RelV x v->RelV y u->R x y H2->wpAny (model X.prog X.w) X.A (f v u) Q X.xe s2) :
  wpAny (model X.prog X.w) X.A (eval a X.env) (fun v d=>wpAny (model X.prog X.w) X.A (eval b X.env) (fun u c=>wpAny (model X.prog X.w) X.A (f v u) Q X.xe c) X.xe d) X.xe s:=by
 refine thn (ha pins s σ H _ I h) fun v s1 ⟨x,g,j,i,n⟩=>?_
 refine thn (hb pins s1 σ g _ j n) fun u s2 ⟨y,H2,o,l,m⟩=>?_
 exact hf v u s2 x y H2 o i l m
theorem aat {op:Operator} {r:R2} (d:OpR X (binaryOp op) r) (ha:PE X a ta) (hb:PE X b tb):PE X (.BinOp a op b pos) (tOp r ta tb):=by
 intro pins s σ H Q I h
 exact wpAny_BinOp (binT ha hb I h fun v u s2 x y H2 g c f q=>d pins s2 σ H2 x y v u Q g c f q)
theorem av2 {op:UnaryOp} {r:V->Hp->VK->Prop} (c:UnR X (unaryOp op) r) (ha:PE X a ta):PE X (.UnaryOp op a pos) (tUn r ta):=by
 intro pins s σ H Q I h
 exact UnaryOp_ (thn (ha pins s σ H _ I h) fun v s1 ⟨x,b,g,d,f⟩=>c pins s1 σ b x v Q g d f)
theorem opI {f:Value->Value->Sem Value} {C:Int->Int->Prop} {g:Int->Int->Int}
  (a:∀ (i j:Int) (t u:Tok) (s:Shared) (Q:Value->Shared->Prop) (E:Value->Shared->Prop),C i j->Q (.int (g i j) s.toks) { s with toks:=s.toks+1 }->wpAny (model X.prog X.w) X.A (f (.int i t) (.int j u)) Q E s) :
  OpR X f (rI C fun i j => .int (g i j)):=by
 intro pins s σ H x y v u Q I b d h
 obtain ⟨i,j,rfl,rfl,c,q⟩:=h
 obtain ⟨t,rfl⟩:=b
 obtain ⟨t',rfl⟩:=d
 exact a i j t t' s _ _ c ⟨.int (g i j),H,I.tok _,⟨_,rfl⟩,q⟩
theorem opI0 {f:Value->Value->Sem Value} {g:Int->Int->Int}
  (a:∀ (i j:Int) (t u:Tok) (s:Shared) (Q:Value->Shared->Prop) (E:Value->Shared->Prop),Q (.int (g i j) s.toks) { s with toks:=s.toks+1 }->wpAny (model X.prog X.w) X.A (f (.int i t) (.int j u)) Q E s) :
  OpR X f (rI0 fun i j => .int (g i j)):=by
 intro pins s σ H x y v u Q I b c h
 obtain ⟨i,j,rfl,rfl,q⟩:=h
 obtain ⟨t,rfl⟩:=b
 obtain ⟨t',rfl⟩:=c
 exact a i j t t' s _ _ ⟨.int (g i j),H,I.tok _,⟨_,rfl⟩,q⟩
theorem opB0 {f:Value->Value->Sem Value} {g:Int->Int->Bool}
  (a:∀ (i j:Int) (t u:Tok) (s:Shared) (Q:Value->Shared->Prop) (E:Value->Shared->Prop),Q (.bool (g i j)) s->wpAny (model X.prog X.w) X.A (f (.int i t) (.int j u)) Q E s) :
  OpR X f (rI0 fun i j => .bl (g i j)):=by
 intro pins s σ H x y v u Q I b c h
 obtain ⟨i,j,rfl,rfl,q⟩:=h
 obtain ⟨t,rfl⟩:=b
 obtain ⟨t',rfl⟩:=c
 exact a i j t t' s _ _ ⟨.bl (g i j),H,I,rfl,q⟩
def CDiv (i j:Int):Prop:=0 < j/\j < 1073741824
def CPow (i j:Int):Prop:=0<=j/\j<=1000000/\i.natAbs < 2 ^ 64
def CMul (i j:Int):Prop:=(-(2 ^ 64) < i/\i < 2 ^ 64)\/(-(2 ^ 64) < j/\j < 2 ^ 64)
theorem CMul.ok {i j:Int} (h:CMul i j):IntMulOk i j:=by
 rcases h with ⟨b,a⟩ | ⟨b,a⟩
 ·exact .of_left (intBits_le_64 b a)
 ·exact .of_right (intBits_le_64 b a)
theorem abe:OpR X (binaryOp .Add) (rI0 fun i j => .int (i+j)):=opI0 fun _ _ _ _ _ _ _ q=>add_int q
theorem aeg:OpR X (binaryOp .Sub) (rI0 fun i j => .int (i - j)):=opI0 fun _ _ _ _ _ _ _ q=>sub_int q
theorem age:OpR X (binaryOp .Mult) (rI CMul fun i j => .int (i * j)):=opI fun _ _ _ _ _ _ _ a q=>mul_int q a.ok
theorem ai7:OpR X (binaryOp .FloorDiv) (rI CDiv fun i j => .int (i / j)):=opI fun i j _ _ _ _ _ a q=>by
 have c:(0:Int) < j:=a.1
 have b:j < 1073741824:=a.2
 exact floordiv_int (by omega) (by rw [Int.fdiv_eq_ediv_of_nonneg i (by omega)];exact q) (.inl (PyProof.noPylong_small (by omega)))
theorem aeh:OpR X (binaryOp .Mod) (rI (fun _ j=>0 < j) fun i j => .int (i % j)):=opI fun i j _ _ _ _ _ a q=>by
 have b:(0:Int) < j:=a
 exact mod_int' (by omega) (by rw [Int.fmod_eq_emod_of_nonneg i (by omega)];exact q)
theorem ay9:OpR X (binaryOp .Pow) (rI CPow fun i j => .int (i ^ j.toNat)):=opI fun _ _ _ _ _ _ _ a q=>pow_int_small a.1 a.2.1 a.2.2 q
theorem unI {f:Value->Sem Value} {g:Int->Int}
  (a:∀ (i:Int) (t:Tok) (s:Shared) (Q:Value->Shared->Prop) (E:Value->Shared->Prop),Q (.int (g i) s.toks) { s with toks:=s.toks+1 }->wpAny (model X.prog X.w) X.A (f (.int i t)) Q E s) :
  UnR X f (rU fun i => .int (g i)):=by
 intro pins s σ H x v Q I b h
 obtain ⟨i,rfl,q⟩:=h
 obtain ⟨t,rfl⟩:=b
 exact a i t s _ _ ⟨.int (g i),H,I.tok _,⟨_,rfl⟩,q⟩
theorem aq8:UnR X (unaryOp .USub) (rU fun i => .int (-i)):=unI fun _ _ _ _ _ q=>neg_int q
end
def scal:V->V->Bool
 | .non,.non=>true | .non,.int _=>true | .int _,.non=>true | .non,.bl _=>true | .bl _,.non=>true | .non,.str _=>true | .str _,.non=>true
 | .int _,.int _=>true | .bl _,.bl _=>true | .str _,.str _=>true | .byt _,.byt _=>true
 | .int _,.str _=>true | .str _,.int _=>true | .bl _,.str _=>true | .str _,.bl _=>true
 | _,_=>false
def rEq:R2:=fun x y H Q=>scal x y=true/\Q (.bl (decide (x=y))) H
def rNe:R2:=fun x y H Q=>scal x y=true/\Q (.bl (!decide (x=y))) H
theorem agx {i j:Int}:decide (V.int i=V.int j)=(i == j):=by
 rw [aH1]
 simp
theorem aq9 {i j:Bool}:decide (V.bl i=V.bl j)=(i == j):=by
 rw [aH1]
 simp
theorem aoc {i j:Str}:decide (V.str i=V.str j)=(i == j):=by
 rw [aH1]
 simp
theorem aod {i j:Array UInt8}:decide (V.byt i=V.byt j)=(i.toList == j.toList):=by
 rw [aH1]
 cases i
 cases j
 simp
section
variable {X:Cx} {a b c:Expr} {ta tb tc:TE} {pos:Pos}
theorem aa0 {pins:List (Addr × Obj)} {σ:St} {H:Hp} {s:Shared} {Q:VK} {k a:Bool} (I:Inv X pins σ H s) (q:Q (.bl k) H) (e:k=a):EP X pins σ Q (.bool a) s:=by
 subst e
 exact ⟨.bl k,H,I,rfl,q⟩
theorem adb:OpR X (compareOp .Eq) rEq:=by
 intro pins s σ H x y v u Q I c a h
 obtain ⟨b,q⟩:=h
 cases x with
 | non =>
  cases c
  cases y with
  | non=>cases a;exact PySem.EqNone.eq_none_none (aa0 I q (by simp))
  | bl j=>cases a;exact PySem.EqNone.eq_none_bool (aa0 I q (by simp))
  | int j=>obtain ⟨t',rfl⟩:=a;exact PySem.EqNone.eq_none_int (aa0 I q (by simp))
  | str j=>obtain ⟨t',rfl⟩:=a;exact PySem.EqNone.eq_none_str (aa0 I q (by simp))
  | _=>exact absurd (show false=true from b) aA9
 | bl i =>
  cases c
  cases y with
  | non=>cases a;exact PySem.EqNone.eq_bool_none (aa0 I q (by simp))
  | bl j=>cases a;exact eq_bool (aa0 I q aq9)
  | str j=>obtain ⟨t',rfl⟩:=a;exact PySem.EqMixed.eq_bool_str (aa0 I q (by simp))
  | _=>exact absurd (show false=true from b) aA9
 | int i =>
  obtain ⟨t,rfl⟩:=c
  cases y with
  | non=>cases a;exact PySem.EqNone.eq_int_none (aa0 I q (by simp))
  | int j=>obtain ⟨t',rfl⟩:=a;exact eq_int (aa0 I q agx)
  | str j=>obtain ⟨t',rfl⟩:=a;exact PySem.EqMixed.eq_int_str (aa0 I q (by simp))
  | _=>exact absurd (show false=true from b) aA9
 | str i =>
  obtain ⟨t,rfl⟩:=c
  cases y with
  | non=>cases a;exact PySem.EqNone.eq_str_none (aa0 I q (by simp))
  | bl j=>cases a;exact PySem.EqMixed.eq_str_bool (aa0 I q (by simp))
  | int j=>obtain ⟨t',rfl⟩:=a;exact PySem.EqMixed.eq_str_int (aa0 I q (by simp))
  | str j=>obtain ⟨t',rfl⟩:=a;exact eq_str (aa0 I q aoc)
  | _=>exact absurd (show false=true from b) aA9
 | byt i =>
  obtain ⟨t,rfl⟩:=c
  cases y with
  | byt j=>obtain ⟨t',rfl⟩:=a;exact PySem.W.eq_bytes (aa0 I q aod)
  | _=>exact absurd (show false=true from b) aA9
 | _=>cases y <;> exact absurd (show false=true from b) aA9
theorem apu:OpR X (compareOp .NotEq) rNe:=by
 intro pins s σ H x y v u Q I c a h
 obtain ⟨b,q⟩:=h
 cases x with
 | non =>
  cases c
  cases y with
  | non=>cases a;exact PySem.EqNone.ne_none_none (aa0 I q (by simp))
  | bl j=>cases a;exact PySem.EqNone.ne_none_bool (aa0 I q (by simp))
  | int j=>obtain ⟨t',rfl⟩:=a;exact PySem.EqNone.ne_none_int (aa0 I q (by simp))
  | str j=>obtain ⟨t',rfl⟩:=a;exact PySem.EqNone.ne_none_str (aa0 I q (by simp))
  | _=>exact absurd (show false=true from b) aA9
 | bl i =>
  cases c
  cases y with
  | non=>cases a;exact PySem.EqNone.ne_bool_none (aa0 I q (by simp))
  | bl j=>cases a;exact ne_bool (aa0 I q (congrArg not aq9))
  | str j=>obtain ⟨t',rfl⟩:=a;exact PySem.EqMixed.ne_bool_str (aa0 I q (by simp))
  | _=>exact absurd (show false=true from b) aA9
 | int i =>
  obtain ⟨t,rfl⟩:=c
  cases y with
  | non=>cases a;exact PySem.EqNone.ne_int_none (aa0 I q (by simp))
  | int j=>obtain ⟨t',rfl⟩:=a;exact ne_int (aa0 I q (congrArg not agx))
  | str j=>obtain ⟨t',rfl⟩:=a;exact PySem.EqMixed.ne_int_str (aa0 I q (by simp))
  | _=>exact absurd (show false=true from b) aA9
 | str i =>
  obtain ⟨t,rfl⟩:=c
  cases y with
  | non=>cases a;exact PySem.EqNone.ne_str_none (aa0 I q (by simp))
  | bl j=>cases a;exact PySem.EqMixed.ne_str_bool (aa0 I q (by simp))
  | int j=>obtain ⟨t',rfl⟩:=a;exact PySem.EqMixed.ne_str_int (aa0 I q (by simp))
  | str j=>obtain ⟨t',rfl⟩:=a;exact ne_str (aa0 I q (congrArg not aoc))
  | _=>exact absurd (show false=true from b) aA9
 | byt i =>
  obtain ⟨t,rfl⟩:=c
  cases y with
  | byt j=>obtain ⟨t',rfl⟩:=a;exact PySem.W.ne_bytes (aa0 I q (congrArg not aod))
  | _=>exact absurd (show false=true from b) aA9
 | _=>cases y <;> exact absurd (show false=true from b) aA9
theorem apv:OpR X (compareOp .Lt) (rI0 fun i j => .bl (decide (i < j))):=opB0 fun _ _ _ _ _ _ _ q=>lt_int q
theorem av3:OpR X (compareOp .LtE) (rI0 fun i j => .bl (decide (i<=j))):=opB0 fun _ _ _ _ _ _ _ q=>le_int q
theorem ah8:OpR X (compareOp .Gt) (rI0 fun i j => .bl (decide (j < i))):=opB0 fun _ _ _ _ _ _ _ q=>gt_int q
theorem a1e:OpR X (compareOp .GtE) (rI0 fun i j => .bl (decide (j<=i))):=opB0 fun _ _ _ _ _ _ _ q=>ge_int q
theorem aza:OpR X (compareOp .Is) (fun x y H Q=>y=.non/\Q (.bl (decide (x=.non))) H):=by
 intro pins s σ H x y v u Q I a b h
 obtain ⟨rfl,q⟩:=h
 cases b
 refine is_none_gen (aa0 I q ?_)
 cases x <;> first
  | (cases a;rfl)
  | (obtain ⟨t,rfl⟩:=a;rfl)
theorem awo:OpR X (compareOp .IsNot) (fun x y H Q=>y=.non/\Q (.bl (!decide (x=.non))) H):=by
 intro pins s σ H x y v u Q I a b h
 obtain ⟨rfl,q⟩:=h
 cases b
 refine isnot_none_gen (aa0 I q ?_)
 cases x <;> first
  | (cases a;rfl)
  | (obtain ⟨t,rfl⟩:=a;rfl)
theorem aax (b:Expr) {op:CmpOp} (h:op ≠ .In:=by decide) (c:op ≠ .NotIn:=by decide):behindInMarks op b=false:=by
 have a:(op == CmpOp.In)=false:=by cases op <;> first | rfl | exact absurd rfl h
 have e2:(op == CmpOp.NotIn)=false:=by cases op <;> first | rfl | exact absurd rfl c
 cases b <;> simp [behindInMarks,a,e2]
theorem adk {op:CmpOp} {r:R2} (d:OpR X (compareOp op) r) (ha:PE X a ta) (hb:PE X b tb) (hm:behindInMarks op b=false):PE X (.Compare a [op] [b] pos) (tOp r ta tb):=by
 intro pins s σ H Q I h
 exact wpAny_Compare1 (binT ha hb I h fun v u s2 x y H2 g c f q=>d pins s2 σ H2 x y v u Q g c f q) hm
def apw (t:TE):TT:=fun σ H Q=>t σ H fun x H'=>∃ k,x=.bl k/\Q k H'
theorem aaw {op:CmpOp} {r:R2} (m:OpR X (compareOp op) r) (ha:PE X a ta) (hb:PE X b tb) (hm:behindInMarks op b=false):PT X (.Compare a [op] [b] pos) (apw (tOp r ta tb)):=by
 intro pins s σ H Q I h
 refine wpAny_isTrue_Compare1 (thn (ha pins s σ H _ I h) fun v s1 ⟨x,o,g,f,p⟩=>thn (hb pins s1 σ o _ g p) fun u s2 ⟨y,H2,q,i,j⟩ =>
  thn (m pins s2 σ H2 x y v u _ q f i j) fun c w ⟨z,H3,n,l,k,e,d⟩=>?_) hm
 subst e
 cases l
 exact aJ3 ⟨H3,n,d⟩
def alo (r r':R2) (ta tb tc:TE):TE:=fun σ H Q=>ta σ H fun x H1=>tb σ H1 fun y H2=>r x y H2 fun z H3=>∃ k,z=.bl k /\
 (if k=true then tc σ H3 fun w' H4=>r' y w' H4 Q else Q (.bl false) H3)
theorem ato {op f:CmpOp} {r l:R2} (E:OpR X (compareOp op) r) (g:OpR X (compareOp f) l) (ha:PE X a ta) (hb:PE X b tb) (w:PE X c tc)
  (hm:lastMarks [op,f] [b,c]=false:=by with_unfolding_all rfl):PE X (.Compare a [op,f] [b,c] pos) (alo r l ta tb tc):=by
 intro pins s σ H Q I h
 refine Compare_chain (thn (ha pins s σ H _ I h) fun v s1 ⟨x,L,q,o,M⟩=>chain_link (thn (hb pins s1 σ L _ q M) fun u s2 ⟨y,H2,N,j,A⟩ =>
  thn (E pins s2 σ H2 x y v u _ N o j A) fun d F ⟨z,H3,m,B,k,e,i⟩=>?_)) hm
 subst e
 cases B
 refine aJ3 ?_
 cases k with
 | false=>exact ite_ff ⟨.bl false,H3,m,rfl,i⟩
 | true=>exact ite_tt (chain_last (thn (w pins F σ H3 _ m i) fun K J ⟨n,G,p,D,C⟩=>g pins J σ G y n u K Q p j D C))
def TruV (K:Frag) (x:V) (H:Hp) (k:Bool):Prop :=
 match x with
 | .non=>k=false
 | .bl b=>k=b
 | .int i=>k=(i != 0)
 | .str y=>y.length<=sizeLine/\k=((y.length:Int) != 0)
 | .byt y=>y.size<=sizeLine/\k=((y.size:Int) != 0)
 | .ref p=>(∃ xs,SqL K H p xs/\k = !xs.isEmpty)\/(∃ xs,SqT K H p xs/\k = !xs.isEmpty)\/∃ kvs,H p=some (.dK kvs)/\k = !kvs.isEmpty
 | _=>False
theorem apx {κ:Type} {kvs:List (κ × V)} {vs:List (κ × Value)} (r:KV kvs vs):(!vs.isEmpty) = !kvs.isEmpty:=by
 cases r <;> rfl
theorem ah9 {xs:List V} {its:List Value} (r:Vals xs its):(!its.toArray.isEmpty) = !xs.isEmpty:=by
 cases r <;> simp
theorem agf:(sizeLine:Nat) < 2 ^ 63:=by rw [sizeLine_eq];decide
theorem azb:TruR X (fun x H Q=>∃ k,TruV X.K x H k/\Q k H):=by
 intro pins s σ H x v Q I d h
 obtain ⟨k,e,q⟩:=h
 have n:=agf
 have l:sizeLine=16777216:=sizeLine_eq
 cases x with
 | non =>
  cases d
  have a:k=false:=e
  subst a
  exact truthy_none ⟨H,I,q⟩
 | bl b =>
  cases d
  have a:k=b:=e
  subst a
  exact aJ3 ⟨H,I,q⟩
 | int i =>
  obtain ⟨t,rfl⟩:=d
  have a:k=(i != 0):=e
  subst a
  exact PySem.P.truthy_int ⟨H,I,q⟩
 | str y =>
  obtain ⟨t,rfl⟩:=d
  obtain ⟨j,a⟩:y.length<=sizeLine/\k=((y.length:Int) != 0):=e
  subst a
  exact PySem.P.truthy_str (by omega) ⟨H,I.tok _,q⟩
 | byt y =>
  obtain ⟨t,rfl⟩:=d
  obtain ⟨j,a⟩:y.size<=sizeLine/\k=((y.size:Int) != 0):=e
  subst a
  exact PySem.W.truthy_bytes (by omega) ⟨H,I.tok _,q⟩
 | ref p =>
  cases d
  have a:(∃ xs,SqL X.K H p xs/\k = !xs.isEmpty)\/(∃ xs,SqT X.K H p xs/\k = !xs.isEmpty)\/∃ kvs,H p=some (.dK kvs)/\k = !kvs.isEmpty:=e
  rcases a with ⟨xs,f,a⟩ | ⟨xs,f,a⟩ | ⟨kvs,f,a⟩
  ·subst a
   obtain ⟨its,r,pl,hz⟩:=I.list f
   have c:=r.length
   exact wpAny_truthy_list pl.isList (by simp only [aB1];omega) ⟨H,I.tok _,by rw [ah9 r];exact q⟩
  ·subst a
   obtain ⟨its,r,pl,hz⟩:=I.tuple f
   have c:=r.length
   exact truthy_tuple pl (by simp only [aB1];omega) ⟨H,I.tok _,by rw [ah9 r];exact q⟩
  ·subst a
   obtain ⟨hz,g,vs,r,m⟩:kvs.length<=sizeLine/\(p == sysModules)=false/\∃ vs,KV kvs vs/\s.heap.DictOf (aa7 X.prog X.w) p vs:=I.hok p _ f
   have c:kvs.length=vs.length:=Paired.length r
   exact wpAny_truthy_dict g m (by omega) ⟨H,I.tok _,by rw [apx r];exact q⟩
 | _=>exact (show False from e).elim
theorem atp (ha:PE X a ta) (d:∀ whole,isTrue a X.env whole=(do let v ← whole;standAt a.pos;holding [v] (truthy v))) :
  PT X a (fun σ H Q=>ta σ H fun x H'=>∃ k,TruV X.K x H' k/\Q k H'):=by
 intro pins s σ H Q I h
 exact isTrue_plain (thn (ha pins s σ H _ I h) fun v s1 ⟨x,f,c,b,g⟩=>azb pins s1 σ f x v Q c b g) (d _)
theorem acm {x:V} {us:List Value} (r:Vals [x] us):∃ u,us=[u]/\RelV x u:=by
 cases r with
 | cons r1 r2=>cases r2;exact ⟨_,rfl,r1⟩
theorem apy {x y:V} {us:List Value} (r:Vals [x,y] us):∃ u a,us=[u,a]/\RelV x u/\RelV y a:=by
 cases r with
 | cons r1 r2 =>
  cases r2 with
  | cons r3 r4=>cases r4;exact ⟨_,_,rfl,r1,r3⟩
theorem ara (a:X.calm=true):abb X (.builtin "max") (fun xs H Q=>∃ i j,xs=[.int i,.int j]/\Q (.int (if j > i then j else i)) H):=by
 intro pins s σ H xs us Q I r h
 obtain ⟨i,j,rfl,q⟩:=h
 obtain ⟨u,c,rfl,⟨t,rfl⟩,⟨t',rfl⟩⟩:=apy r
 refine max_two_ints (I.ok.hd a) fun h' b k=>⟨_,H,I.kept k,?_,q⟩
 by_cases hj:j > i
 ·rw [aE8 hj,aE8 hj];exact ⟨_,rfl⟩
 ·rw [aE9 hj,aE9 hj];exact ⟨_,rfl⟩
theorem arb (a:X.calm=true):abb X (.builtin "min") (fun xs H Q=>∃ i j,xs=[.int i,.int j]/\Q (.int (if j < i then j else i)) H):=by
 intro pins s σ H xs us Q I r h
 obtain ⟨i,j,rfl,q⟩:=h
 obtain ⟨u,c,rfl,⟨t,rfl⟩,⟨t',rfl⟩⟩:=apy r
 refine min_two_ints (I.ok.hd a) fun h' b k=>⟨_,H,I.kept k,?_,q⟩
 by_cases hj:j < i
 ·rw [aE8 hj,aE8 hj];exact ⟨_,rfl⟩
 ·rw [aE9 hj,aE9 hj];exact ⟨_,rfl⟩
theorem arc:abb X (.type "int") (fun xs H Q=>(∃ i,xs=[.int i]/\Q (.int i) H)\/∃ k,xs=[.bl k]/\Q (.int (if k then 1 else 0)) H):=by
 intro pins s σ H xs us Q I r h
 rcases h with ⟨i,rfl,q⟩ | ⟨k,rfl,q⟩
 ·obtain ⟨u,rfl,t,rfl⟩:=acm r
  exact call_int_int ⟨.int i,H,I,⟨_,rfl⟩,q⟩
 ·obtain ⟨u,rfl,a⟩:=acm r
  cases a
  exact call_int_bool ⟨.int (if k then 1 else 0),H,I.tok _,⟨_,rfl⟩,q⟩
end
structure ObjM (h:Heap) (x dx C:Addr) (mA:Str->Option Value):Prop where
 obj:h.get? x=some (PySem.W.instObj C dx)
 ns:h.Ns1 dx mA
 ne:dx ≠ x
theorem ard {h:Heap} {dx:Addr} {mA:Str->Option Value} (n:h.Ns1 dx mA):∃ od,h.get? dx=some od/\∀ name,PySem.W.lookIn name od=some (mA name):=by
 obtain ⟨o,es,i,f,hd,c,_,hm⟩:=n
 refine ⟨o,f,fun name=>?_⟩
 have e:=hm name
 unfold nsFind findBy at e
 rw [← Array.find?_toList] at e
 unfold PySem.W.lookIn
 rw [hd]
 dsimp only
 split
 ·rename_i y q
  rw [q] at e
  exact congrArg some e
 ·rename_i q
  rw [q] at e
  have a:es.toList.any (·.refKey)=false:=by
   rw [List.any_eq_false]
   intro y g
   obtain ⟨z,t,b⟩:=c y (Array.mem_toList_iff.mp g)
   simp [DictEntry.refKey,b]
  have d:¬ es.toList.any (·.refKey)=true:=by rw [a];exact aA9
  rw [aE9 d]
  exact congrArg some e
theorem ObjM.look {h:Heap} {x dx C:Addr} {mA:Str->Option Value} (I:ObjM h x dx C mA):∃ od,PySem.W.InstAt h x (PySem.W.instObj C dx) C (some od)/\∀ name,PySem.W.lookIn name od=some (mA name) :=
 let ⟨od,a,b⟩:=ard I.ns
 ⟨od,⟨I.obj,rfl,rfl,a⟩,b⟩
section
variable {prog:Program} {w:World} {A:Around} {E:Value->Shared->Prop} {s:Shared} {K:Frag} {x dx C f:Addr} {mA:Str->Option Value} {name:Str} {v:Value}
theorem awp {a:Bool} {Q:Value->Shared->Prop} (X:K.In s.heap) (I:ObjM s.heap x dx C mA) (c:PySem.W.plainGet K C name=true) (hh:PySem.W.hasDictIn K C=true)
  (ha:PySem.W.findIn K (.ref C) name=some none) (d:mA name=some v) (b:PySem.W.handedIn v=true) (h:Q v { s with toks:=s.toks+1 }) :
  wpAny (model prog w) A (getAttr (.ref x) name a) Q E s:=by
 obtain ⟨od,J,f⟩:=I.look
 exact PySem.W.get_value X J (PySem.W.plainGet_of c).1 (PySem.W.findObj_own hh ha rfl (by rw [f,d])) b h
theorem atq {pl:Sem Bool} {Q:Value × List Value->Shared->Prop} (X:K.In s.heap) (I:ObjM s.heap x dx C mA) (a:PySem.W.plainGet K C name=true)
  (hf:PySem.W.findIn K (.ref C) name=some (some (.ref f))) (c:PySem.W.isFn K (.ref f)=true) (b:mA name=none) (h:Q (.ref f,[.ref x]) s) :
  wpAny (model prog w) A (getMethod (.ref x) name pl) Q E s:=by
 obtain ⟨od,J,d⟩:=I.look
 exact PySem.W.method_fn X J (PySem.W.plainGet_of a).1 (PySem.W.plainGet_of a).2 hf (aF6.mp c) (by show (PySem.W.lookIn name od).map (·.isSome)=some false;rw [d,b];rfl) h
theorem awq {ns:List Str} {Q:Unit->Shared->Prop} (X:K.In s.heap) (I:ObjM s.heap x dx C mA)
  (l:PySem.W.findIn K (.ref C) "__setattr__" = some (some (.builtin "object.__setattr__"))) (m:PySem.W.plainOver K C=true) (o:PySem.W.takerIn K C name=some none) (hh:PySem.W.hasDictIn K C=true)
  (p:PySem.Within mA ns) (hsz:ns.length<=sizeLine)
  (h:∀ h',ObjM h' x dx C (fun y=>if y=name then some v else mA y)->Heap.SameBut dx s.heap h'->Q () { s with heap:=h',toks:=s.toks+2 }) :
  wpAny (model prog w) A (setAttr (.ref x) name v) Q E s:=by
 obtain ⟨od,J,D⟩:=I.look
 refine PySem.W.set_plain X J l (PySem.W.osa_open (s:={ s with toks:=s.toks+1 }) (r:=none) X J m o fun b=>?_)
 obtain ⟨B,n,j⟩:=PySem.W.any_some hh
 have z:s.heap.get? x=some ⟨.ref C,some dx,.plain,#[]⟩:=I.obj
 refine aI1 (aI2 (aI1 (aI1 (wpAny_loadPart z (aI1 (PySem.W.Looks.here (s:={ s with toks:=s.toks+1 }) (PySem.W.looks_clsIn X n) ?_))))))
 rw [j]
 refine aI2 (a:=some dx) (aI1 (aI2 (aI1 ?_)))
 refine wpAny_nsSet1 (s:={ s with toks:=s.toks+1 }) I.ns fun h' c d=>?_
 obtain ⟨oD,u,q,i,g,f⟩:=c.count (PySem.Within.cons name v p)
 refine aI1 (wpAny_lookBehind i (by rw [g];exact pastItsLine_dict (aC9 f (by rw [aE0];omega))) ?_)
 exact aI2 (h _ ⟨(d.2 _ (Ne.symm I.ne)).trans I.obj,c,I.ne⟩ d)
theorem atr {R:Result->Shared->Prop} {vs:List Value} {a:List (Str × Value)} (X:K.In s.heap) (hm:PySem.W.makesIn K C=true)
  (hi:PySem.W.findIn K (.ref C) "__init__" = some (some (.ref f))) (hf:PySem.W.typeIn K (.ref f)=some (.type "function"))
  (h:codeAny (model prog w) (A.under (.builtin "type.__call__" ⟨.ref C :: vs,a⟩)) (.call (.ref f) ⟨.ref (s.heap.objs.size+1) :: vs,a⟩) (PySem.W.InitBack (s.heap.objs.size+1) R)
   { s with heap:=(s.heap.push PySem.W.emptyDict).push (PySem.W.instObj C s.heap.objs.size) }) :
  codeAny (model prog w) A (.call (.ref C) ⟨vs,a⟩) R s:=by
 obtain ⟨hh,g,d,t,os⟩:=s
 exact PySem.W.make_core (PySem.W.makes_of X hm) (PySem.W.looks_findIn X hi) (fun self=>PySem.W.bind_fn X self hf) (.inl rfl) h
end
def putF (f:Str) (v:V):List (Str × V)->List (Str × V)
 | []=>[(f,v)]
 | (g,x) :: r=>if g=f then (g,v) :: r else (g,x) :: putF f v r
theorem ahi (f g:Str) (v:V):∀ fs:List (Str × V),(putF f v fs).lookup g=if g=f then some v else fs.lookup g
 | []=>by
  show List.lookup g [(f,v)]=_
  by_cases h:g=f
  ·have hb:(g == f)=true:=aF6.mpr h
   simp only [List.lookup,hb,aE8 h]
  ·have hb:(g == f)=false:=beq_eq_false_iff_ne.mpr h
   simp only [List.lookup,hb,aE9 h]
 | (k,x) :: r=>by
  have a:=ahi f g v r
  rw [show putF f v ((k,x) :: r)=(if k=f then (k,v) :: r else (k,x) :: putF f v r) from rfl]
  by_cases hk:k=f
  ·rw [aE8 hk]
   by_cases h:g=k
   ·have hb:(g == k)=true:=aF6.mpr h
    simp only [List.lookup,hb,aE8 (h.trans hk)]
   ·have hb:(g == k)=false:=beq_eq_false_iff_ne.mpr h
    simp only [List.lookup,hb,aE9 (fun e:g=f=>h (e.trans hk.symm))]
  ·rw [aE9 hk]
   by_cases h:g=k
   ·have hb:(g == k)=true:=aF6.mpr h
    simp only [List.lookup,hb,aE9 (fun e:g=f=>hk (h.symm.trans e))]
   ·have hb:(g == k)=false:=beq_eq_false_iff_ne.mpr h
    simp only [List.lookup,hb]
    exact a
theorem agg (f:Str) (v:V):∀ fs:List (Str × V),f∈(putF f v fs).map (·.1)/\∀ g,g∈fs.map (·.1)->g∈(putF f v fs).map (·.1)
 | []=>⟨by simp [putF],fun g h=>by simp at h⟩
 | (k,x) :: r=>by
  obtain ⟨b,a⟩:=agg f v r
  rw [show putF f v ((k,x) :: r)=(if k=f then (k,v) :: r else (k,x) :: putF f v r) from rfl]
  by_cases hk:k=f
  ·rw [aE8 hk]
   subst hk
   exact ⟨by simp,fun g h=>by simpa using h⟩
  ·rw [aE9 hk]
   refine ⟨?_,fun g h=>?_⟩
   ·rw [aD0]
    exact aB4 _ b
   ·rw [aD0] at h ⊢
    rcases aA8.mp h with e | e
    ·exact aA8.mpr (.inl e)
    ·exact aB4 _ (a g e)
theorem ahj (f:Str) (v:V):∀ fs:List (Str × V),(putF f v fs).length<=fs.length+1
 | []=>by simp [putF]
 | (k,x) :: r=>by
  have a:=ahj f v r
  rw [show putF f v ((k,x) :: r)=(if k=f then (k,v) :: r else (k,x) :: putF f v r) from rfl]
  by_cases hk:k=f
  ·rw [aE8 hk,aE0,aE0];omega
  ·rw [aE9 hk,aE0,aE0];omega
theorem RelO.some_of {v:V} {o:Option Value} (r:RelO (some v) o):∃ u,o=some u/\RelV v u:=by
 cases o with
 | none=>exact (show False from r).elim
 | some u=>exact ⟨u,rfl,r⟩
theorem RelO.none_of {o:Option Value} (r:RelO none o):o=none:=by
 cases o with
 | none=>rfl
 | some u=>exact (show False from r).elim
theorem arf {v:V} {u:Value} (r:RelV v u):PySem.W.handedIn u=true:=by
 cases v with
 | non=>cases (show u=Value.none from r);rfl
 | bl b=>cases (show u=Value.bool b from r);rfl
 | int i=>obtain ⟨t,e⟩:=(show ∃ t,u=Value.int i t from r);cases e;rfl
 | str x=>obtain ⟨t,e⟩:=(show ∃ t,u=Value.str x t from r);cases e;rfl
 | byt b=>obtain ⟨t,e⟩:=(show ∃ t,u=Value.bytes b t from r);cases e;rfl
 | flt b=>obtain ⟨t,e⟩:=(show ∃ t,u=Value.float b t from r);cases e;rfl
 | ref a=>cases (show u=Value.ref a from r);rfl
 | ty n=>cases (show u=Value.type n from r);rfl
section
variable {P:Program} {w:World} {H H':Hp} {h h':Heap} {a C dx:Addr} {fs fs':List (Str × V)}
theorem agy (hok:HOk P w H h) (e:H a=some (.ins C dx fs)):∃ mA,ObjM h a dx C mA/\(∀ f,RelO (fs.lookup f) (mA f))/\PySem.Within mA (fs.map (·.1))/\fs.length<=1000/\H dx=some (.own a):=by
 obtain ⟨d,z,ne,b,mA,n,r,q⟩:=(show ObjOk P w H h a (.ins C dx fs) from hok a _ e)
 exact ⟨mA,⟨b,n,ne⟩,r,q,z,d⟩
end
structure Cls (K:Frag) (C:Addr):Prop where
 pg:PySem.W.plainGet K C Str.empty=true
 hd:PySem.W.hasDictIn K C=true
 po:PySem.W.plainOver K C=true
 sa:PySem.W.findIn K (.ref C) "__setattr__" = some (some (.builtin "object.__setattr__"))
theorem Cls.get {K:Frag} {C:Addr} (c:Cls K C) (f:Str):PySem.W.plainGet K C f=true:=c.pg
def NoAttr (K:Frag) (C:Addr) (f:Str):Prop:=PySem.W.findIn K (.ref C) f=some none
theorem NoAttr.taker {K:Frag} {C:Addr} {f:Str} (n:NoAttr K C f):PySem.W.takerIn K C f=some none:=by
 unfold PySem.W.takerIn
 rw [show PySem.W.findIn K (.ref C) f=some none from n]
 rfl
structure Meth (K:Frag) (C:Addr) (m:Str) (f:Addr):Prop where
 at_:PySem.W.findIn K (.ref C) m=some (some (.ref f))
 fn:PySem.W.isFn K (.ref f)=true
 kp:keepIn K (.ref f)=true
section
variable {X:Cx} {pins:List (Addr × Obj)} {σ:St} {H:Hp} {s:Shared} {a C dx:Addr} {fs:List (Str × V)} {f:Str} {v:V} {A:Around} {E:Value->Shared->Prop}
theorem apz {b:Bool} {Q:Value->Shared->Prop} (I:Inv X pins σ H s) (e:H a=some (.ins C dx fs)) (c:Cls X.K C) (n:NoAttr X.K C f) (l:fs.lookup f=some v)
  (h:∀ u d,Inv X pins σ H d->RelV v u->Q u d):wpAny (model X.prog X.w) A (getAttr (.ref a) f b) Q E s:=by
 obtain ⟨mA,O,r,_,_,_⟩:=agy I.hok e
 obtain ⟨u,i,g⟩:=RelO.some_of (v:=v) (o:=mA f) (by rw [← l];exact r f)
 exact awp I.kIn O (c.get f) c.hd n i (arf g) (h u _ (I.tok _) g)
theorem aia {m:Str} {g:Addr} {pl:Sem Bool} {Q:Value × List Value->Shared->Prop} (I:Inv X pins σ H s) (e:H a=some (.ins C dx fs)) (c:Cls X.K C) (k:Meth X.K C m g) (l:fs.lookup m=none)
  (h:Q (.ref g,[.ref a]) s):wpAny (model X.prog X.w) A (getMethod (.ref a) m pl) Q E s:=by
 obtain ⟨mA,O,r,_,_,_⟩:=agy I.hok e
 have hn:mA m=none:=RelO.none_of (by rw [← l];exact r m)
 exact atq I.kIn O (c.get m) k.at_ k.fn hn h
theorem ap0 {y:V} {u:Value} {Q:Unit->Shared->Prop} (I:Inv X pins σ H s) (e:H a=some (.ins C dx fs)) (c:Cls X.K C) (n:NoAttr X.K C f) (B:fs.length < 1000) (m:RelV y u)
  (h:∀ l,Inv X pins σ (upd H a (.ins C dx (putF f y fs))) l->Q () l):wpAny (model X.prog X.w) A (setAttr (.ref a) f u) Q E s:=by
 obtain ⟨mA,O,r,i,_,j⟩:=agy I.hok e
 have hz:(fs.map (·.1)).length<=sizeLine:=by rw [aA3,sizeLine_eq];omega
 refine awq I.kIn O c.sa c.po n.taker c.hd i hz fun h' d sb=>h _ ?_
 have hd:∃ o,h'.get? dx=some o:=let ⟨o,_,_,v,_⟩:=d.ns;⟨o,v⟩
 refine I.write (x:=a) (e:=dx) (by rw [e];exact True.intro) (.inr j) (fun b q hb z=>(sb.2 b hb).trans z) hd ?_
 refine ⟨by rw [aae O.ne];exact j,?_,O.ne,d.obj,_,d.ns,fun g=>?_,fun g p=>?_⟩
 ·have:=ahj f y fs;omega
 ·show RelO ((putF f y fs).lookup g) (if g=f then some u else mA g)
  rw [ahi]
  by_cases q:g=f
  ·rw [aE8 q,aE8 q];exact m
  ·rw [aE9 q,aE9 q];exact r g
 ·by_cases q:g=f
  ·rw [q];exact (agg f y fs).1
  ·refine (agg f y fs).2 g (i g fun z=>p ?_)
   show (if g=f then some u else mA g)=none
   rw [aE9 q];exact z
theorem Inv.made (I:Inv X pins σ H s):Inv X pins σ (upd (upd H s.heap.objs.size (.own (s.heap.objs.size+1))) (s.heap.objs.size+1) (.ins C s.heap.objs.size []))
  { s with heap:=(s.heap.push PySem.W.emptyDict).push (PySem.W.instObj C s.heap.objs.size) }:=by
 have c:(s.heap.push PySem.W.emptyDict).get? s.heap.objs.size=some PySem.W.emptyDict:=aI5 s.heap rfl
 have e2:((s.heap.push PySem.W.emptyDict).push (PySem.W.instObj C s.heap.objs.size)).get? (s.heap.objs.size+1)=some (PySem.W.instObj C s.heap.objs.size):=by
  have:=aI5 (s.heap.push PySem.W.emptyDict) (o:=PySem.W.instObj C s.heap.objs.size) rfl
  rwa [aJ1] at this
 have f:(s.heap.push PySem.W.emptyDict).Ns s.heap.objs.size (fun _=>none):=⟨PySem.W.emptyDict,#[],_,c,rfl,(fun e h=>absurd h (by simp)),fun _=>rfl⟩
 have g:=I.laid (a:=s.heap.objs.size) (o:=.own (s.heap.objs.size+1)) (h':=s.heap.push PySem.W.emptyDict) (t':=s.toks) (fun b u q=>aI3 _ q) (aA6 _) ⟨_,c⟩
 refine g.laid (a:=s.heap.objs.size+1) (o:=.ins C s.heap.objs.size []) (t':=s.toks) (fun b u q=>aI3 _ q) (Nat.le_of_eq (aJ1 _ _)) ?_
 have ne:s.heap.objs.size ≠ s.heap.objs.size+1:=aB5 (aH9 _)
 refine ⟨by rw [aae ne,aaf],aF3 _,ne,e2,fun _=>none,(Heap.Ns1.of_empty f).at fun o q=>aI3 _ q,fun _=>True.intro,fun y d=>absurd rfl d⟩
theorem awr {prog:Program} {w:World} {env:Env} {e:Expr} {f:Str} {b:Pos} {s:Shared} {Q:Value->Shared->Prop} (hb:attributeBase e f env (eval e env)=eval e env)
  (h:wpAny (model prog w) A (eval e env) (fun o a=>wpAny (model prog w) A (getAttr o f true) Q E a) E s):wpAny (model prog w) A (eval (.Attribute e f b) env) Q E s :=
 Attribute_any_ h (by rw [arm_eval_Attribute,hb])
end
def tFld (K:Frag) (ta:TE) (f:Str):TE:=fun σ H Q=>ta σ H fun x H1=>∃ a C dx fs v,x=.ref a/\H1 a=some (.ins C dx fs)/\Cls K C/\NoAttr K C f/\fs.lookup f=some v/\Q v H1
def sFld (K:Frag) (ta tv:TE) (f:Str):TS:=fun D σ H=>tv σ H fun y H1=>ta σ H1 fun x H2=>∃ a C dx fs,x=.ref a/\H2 a=some (.ins C dx fs)/\Cls K C/\NoAttr K C f/\fs.length < 1000 /\
 D.nx σ (upd H2 a (.ins C dx (putF f y fs)))
section
variable {X:Cx} {o e value:Expr} {f:Str} {pos pos' tpos:Pos} {ta tv:TE}
theorem aei (j:PE X e ta) (hb:attributeBase e f X.env (eval e X.env)=eval e X.env):PE X (.Attribute e f pos) (tFld X.K ta f):=by
 intro pins s σ H Q I h
 refine awr hb (thn (j pins s σ H _ I h) fun u s1 ⟨x,m,b,d,a,C,dx,fs,v,ex,g,c,n,l,q⟩=>?_)
 subst ex
 obtain rfl:u=Value.ref a:=d
 exact apz b g c n l fun p s2 o i=>⟨v,m,o,i,q⟩
theorem arh (ha:PE X o ta) (m:PE X value tv) (b:swapsWith value (some (.Attribute o f pos')) pos.line X.env=pure false):PS X (.Assign [.Attribute o f pos'] value pos) (sFld X.K ta tv f):=by
 intro pins s σ H D I h
 refine plainObj_wpAny_Assign_Attribute (thn (m pins s σ H _ I h) fun u s1 ⟨y,v,g,w,q⟩=>thn (ha pins s1 σ v _ g q) fun d s2 ⟨x,H2,z,i,a,C,dx,fs,ex,j,c,n,l,p⟩=>?_) b
 subst ex
 obtain rfl:d=Value.ref a:=i
 exact ap0 z j c n l w fun A r=>⟨σ,_,r,p⟩
end
section
variable {X:Cx} {pins:List (Addr × Obj)} {σ:St} {H:Hp} {s:Shared} {A:Around} {E:Value->Shared->Prop} {Q:Value->Shared->Prop} {c:Value} {b:Bool}
inductive TyOf (K:Frag) (H:Hp):V->Value->Prop where
 | non:TyOf K H .non (.type "NoneType")
 | bl (x:Bool):TyOf K H (.bl x) (.type "bool")
 | int (i:Int):TyOf K H (.int i) (.type "int")
 | str (x:Str):TyOf K H (.str x) (.type "str")
 | flt (x:UInt64):TyOf K H (.flt x) (.type "float")
 | lst {a:Addr} {xs:List V} (e:H a=some (.lst xs)):TyOf K H (.ref a) (.type "list")
 | frz {a:Addr} {o:Obj} {xs:List V} (e:H a=some (.frz o (.lst xs))):TyOf K H (.ref a) (.type "list")
 | tup {a:Addr} {xs:List V} (e:H a=some (.tup xs)):TyOf K H (.ref a) (.type "tuple")
 | dK {a:Addr} {kvs:List (Key × V)} (e:H a=some (.dK kvs)):TyOf K H (.ref a) (.type "dict")
 | dT {a:Addr} {kvs:List (List Key × V)} (e:H a=some (.dT kvs)):TyOf K H (.ref a) (.type "dict")
 | ins {a C dx:Addr} {fs:List (Str × V)} (e:H a=some (.ins C dx fs)) (cl:Cls K C) (ha:PySem.W.findIn K (.ref C) "__class__" = some (some (.builtin "object.__class__")))
   (hn:PySem.W.specialIn K (.builtin "object.__class__") "__get__" = some (some (.builtin "getset_descriptor.__get__"))) (htk:PySem.W.takesIn K (.builtin "object.__class__")=some true)
   (hm:mroIn K C (.type "object")=some true):TyOf K H (.ref a) (.ref C)
theorem ari {x:V} {u t:Value} (I:Inv X pins σ H s) (d:RelV x u) (ty:TyOf X.K H x t) (e:kitOne X.K t c=some b) (h:∀ l,Q (.bool b) { s with toks:=l }) :
  wpAny (model X.prog X.w) A (call (.builtin "isinstance") [u,c]) Q E s:=by
 cases ty with
 | non=>cases (show u=Value.none from d);exact PySem.W.kia_one PySem.W.kitx_none I.kIn True.intro e (fun z=>nomatch z) h
 | bl y=>cases (show u=Value.bool y from d);exact PySem.W.kia_one PySem.W.kitx_bool I.kIn True.intro e (fun z=>nomatch z) h
 | int i=>obtain ⟨t,q⟩:=(show ∃ t,u=Value.int i t from d);cases q;exact PySem.W.kia_one PySem.W.kitx_int I.kIn True.intro e (fun z=>nomatch z) h
 | str y=>obtain ⟨t,q⟩:=(show ∃ t,u=Value.str y t from d);cases q;exact PySem.W.kia_one PySem.W.kitx_str I.kIn True.intro e (fun z=>nomatch z) h
 | flt y=>obtain ⟨t,q⟩:=(show ∃ t,u=Value.float y t from d);cases q;exact PySem.W.kia_one PySem.W.kitx_float I.kIn True.intro e (fun z=>nomatch z) h
 | @lst a xs ea =>
  cases (show u=Value.ref a from d)
  obtain ⟨_,_,n,_,f⟩:=(show ObjOk X.prog X.w H s.heap a (.lst xs) from I.hok a _ ea)
  exact PySem.W.kia_one PySem.W.kitx_list I.kIn ⟨_,f,rfl⟩ e (fun z=>nomatch z) h
 | @frz a ob xs ea =>
  cases (show u=Value.ref a from d)
  obtain ⟨_,_,_,n,_,f⟩:=(show ObjOk X.prog X.w H s.heap a (.frz ob (.lst xs)) from I.hok a _ ea)
  exact PySem.W.kia_one PySem.W.kitx_list I.kIn ⟨_,f,rfl⟩ e (fun z=>nomatch z) h
 | @tup a xs ea =>
  cases (show u=Value.ref a from d)
  obtain ⟨_,_,_,p⟩:=(show ObjOk X.prog X.w H s.heap a (.tup xs) from I.hok a _ ea)
  obtain ⟨o,f,g,_⟩:=p
  exact PySem.W.kia_one PySem.W.kitx_tuple I.kIn ⟨o,f,g⟩ e (fun z=>nomatch z) h
 | @dK a kvs ea =>
  cases (show u=Value.ref a from d)
  obtain ⟨_,_,vs,_,p⟩:=(show ObjOk X.prog X.w H s.heap a (.dK kvs) from I.hok a _ ea)
  obtain ⟨o,es,j,f,g,_⟩:=p
  exact PySem.W.kia_one PySem.W.kitx_dict I.kIn ⟨o,f,g.1⟩ e (fun z=>nomatch z) h
 | @dT a kvs ea =>
  cases (show u=Value.ref a from d)
  obtain ⟨_,_,xs,_,o,es,j,f,g,_⟩:=(show ObjOk X.prog X.w H s.heap a (.dT kvs) from I.hok a _ ea)
  exact PySem.W.kia_one PySem.W.kitx_dict I.kIn ⟨o,f,g.1⟩ e (fun z=>nomatch z) h
 | @ins a C dx fs ea cl ha hn htk hm =>
  cases (show u=Value.ref a from d)
  obtain ⟨mA,O,_⟩:=agy I.hok ea
  obtain ⟨od,J,_⟩:=O.look
  exact PySem.W.kia_one (PySem.W.kitx_own (cl.get _) cl.hd ha hn htk hm) I.kIn J e (fun z=>nomatch z) h
end
structure Room (k:Nat) (A:Around):Prop where
 hd:A.handled=none
 dp:A.depth+3 * k+5 < recursionLimit
 un:A.units+16 * k+200 < cLine
theorem Room.mono {j k:Nat} {A:Around} (r:Room k A) (h:j<=k):Room j A:=⟨r.hd,by have:=r.dp;omega,by have:=r.un;omega⟩
theorem Room.deeper {k:Nat} {A:Around} (r:Room (k+1) A) (env:Env):Room k (A.deeper env) :=
 ⟨r.hd,by have:=r.dp;show A.depth+1+3 * k+5 < _;omega,by have:=r.un;show A.units+3+16 * k+200 < _;omega⟩
theorem Room.in1 {k:Nat} {A:Around} (r:Room (k+1) A):Room k A.in1 :=
 ⟨r.hd,by have:=r.dp;show A.depth+3 * k+5 < _;omega,by have:=r.un;show A.units+1+16 * k+200 < _;omega⟩
theorem ap1 {A:Around} {C:Addr} {us:List Value} {a:List (Str × Value)}:(A.under (.builtin "type.__call__" ⟨.ref C :: us,a⟩)).depth=A.depth+1:=by
 first | rfl | simp [Around.under,Code.weight,Code.isCreation,Code.isGuard,Code.isCaller,Code.frames,Code.isFrame,guardIds]
theorem ap2 {A:Around} {C:Addr} {us:List Value} {a:List (Str × Value)}:(A.under (.builtin "type.__call__" ⟨.ref C :: us,a⟩)).units=A.units+1:=by
 first | rfl | simp [Around.under,Code.cUnits,Code.frames,Code.isFrame]
theorem Room.make {k:Nat} {A:Around} (r:Room (k+1) A) (C:Addr) (us:List Value) (a:List (Str × Value)):Room k (A.under (.builtin "type.__call__" ⟨.ref C :: us,a⟩)) :=
 ⟨r.hd,by have:=r.dp;rw [ap1];omega,by have:=r.un;rw [ap2];omega⟩
theorem Room.depth {k:Nat} {A:Around} (r:Room k A):A.depth < recursionLimit:=by have:=r.dp;omega
theorem Room.units {k:Nat} {A:Around} (r:Room k A):A.units+64 < cLine:=by have:=r.un;omega
theorem Room.units0 {k:Nat} {A:Around} (r:Room k A):A.units < cLine:=by have:=r.un;omega
def tNil:TA:=fun _ H Q=>Q [] H
def aa3 (ta:TE) (tr:TA):TA:=fun σ H Q=>ta σ H fun x H1=>tr σ H1 fun xs H2=>Q (x :: xs) H2
section
variable {X:Cx} {e:Expr} {es:List Expr} {te:TE} {t:TA} {pos:Pos}
theorem aab:PA X [] tNil:=fun _ _ _ _ H Q I h=>Calls.spliced_nil ⟨[],H,I,.nil,h⟩
theorem aaa (ha:PE X e te) (i:PA X es t) (b:starEach (e :: es) X.env=(false,eval e X.env) :: starEach es X.env:=by rfl):PA X (e :: es) (aa3 te t):=by
 intro a pins s σ H Q I h
 rw [b]
 show wpAny _ _ (spliced ((false,eval e X.env) :: backTo a (starEach es X.env))) _ _ s
 refine Calls.spliced_cons (thn (ha pins s σ H _ I h) fun u s1 ⟨x,j,d,c,l⟩=>?_)
 exact thn (i a pins s1 σ j _ d l) fun us s2 ⟨xs,H2,m,f,g⟩=>⟨x :: xs,H2,m,.cons c f,g⟩
def tTup (t:TA):TE:=fun σ H Q=>t σ H fun xs H1=>xs.length<=sizeLine/\∀ p,H1 p=none->Q (.ref p) (upd H1 p (.tup xs))
def tLst (t:TA):TE:=fun σ H Q=>t σ H fun xs H1=>xs.length<=sizeLine/\∀ p,H1 p=none->Q (.ref p) (upd H1 p (.lst xs))
theorem aa4 {x1} (h:PA X es t):PE X (.Tuple es x1 pos) (tTup t):=by
 intro pins s σ H Q I d
 refine wpAny_Tuple_spliced (thn (h pos pins s σ H _ I d) fun us s1 ⟨xs,c,a,r,z,q⟩=>⟨by rw [← r.length];exact z,?_⟩)
 have hf:c s1.heap.objs.size=none:=a.hok.fresh (aA6 _)
 refine ⟨.ref s1.heap.objs.size,upd c s1.heap.objs.size (.tup xs),a.laid (t':=s1.toks) (fun b u e=>aI3 _ e) (aA6 _) ?_,rfl,q _ hf⟩
 exact ⟨z,us,r,⟨_,aI5 _ rfl,rfl,_,rfl⟩⟩
theorem aa1 (h:PA X es t):PE X (.List es pos) (tLst t):=by
 intro pins s σ H Q I d
 refine wpAny_List_spliced (thn (h pos pins s σ H _ I d) fun us s1 ⟨xs,c,a,r,z,q⟩=>⟨by rw [← r.length];exact z,?_⟩)
 have hf:c s1.heap.objs.size=none:=a.hok.fresh (aA6 _)
 refine ⟨.ref s1.heap.objs.size,upd c s1.heap.objs.size (.lst xs),a.laid (t':=s1.toks) (fun b u e=>aI3 _ e) (aA6 _) ?_,rfl,q _ hf⟩
 exact ⟨z,us,0,r,aI5 _ rfl⟩
end
abbrev Sp:=List V->Hp->VK->XK->Prop
abbrev CXT:=List Env->Hp->Shared->XK->Value->Shared->Prop
structure Env0 (P:Program) (w:World) (K:Frag) (mg:Str->Option Value) (base:Heap) (A:Around) (outer:List Env) (s:Shared) (H:Hp):Prop where
 frames:A.frames=some outer
 mod:Mod K mg base
 bs:∀ b o,base.get? b=some o->s.heap.get? b=some o/\H b=none
 bsz:base.objs.size<=s.heap.objs.size
 funs:s.heap.FunFrames base outer
 frf:∀ b∈frs outer,H b=none
 hok:HOk P w H s.heap
 bare:AllBare s.gens
def CE (outer:List Env) (P:Program) (w:World) (H:Hp) (s:Shared) (Q:VK) (u:Value) (s':Shared):Prop :=
 ∃ v H',s'.os=s.os/\AllBare s'.gens/\Un (frs outer) [] H H' s.heap s'.heap/\HOk P w H' s'.heap/\RelV v u/\Q v H'
def CR (CX:CXT) (outer:List Env) (P:Program) (w:World) (H:Hp) (s:Shared) (Q:VK) (E:XK) (r:Result) (s':Shared):Prop :=
 match r with
 | .ok (.ret u)=>CE outer P w H s Q u s'
 | .ok _=>False
 | .error e=>CX outer H s E e s'
structure FnOk (P:Program) (w:World) (K:Frag) (mg:Str->Option Value) (base:Heap) (CX:CXT) (k:Nat) (f:Addr) (fd:FuncData) (ps:List Str) (sp:Sp):Prop where
 len:∀ vs H Q E,sp vs H Q E->vs.length=ps.length
 run:∀ (A:Around) (outer:List Env) (s:Shared) (H:Hp) (args:Args) (us:List Value) (vs:List V) (Q:VK) (E:XK),Room k A->Env0 P w K mg base A outer s H->BindsTo s fd args (ps.zip us)->Vals vs us->sp vs H Q E ->
  codeAny (model P w) A (.call (.ref f) args) (CR CX outer P w H s Q E) s
theorem FnOk.mono {P:Program} {w:World} {K:Frag} {mg:Str->Option Value} {base:Heap} {CX:CXT} {j k:Nat} {f:Addr} {fd:FuncData} {ps:List Str} {sp:Sp} (F:FnOk P w K mg base CX j f fd ps sp) (h:j<=k) :
  FnOk P w K mg base CX k f fd ps sp:=⟨F.len,fun A outer s H args us vs Q E a=>F.run A outer s H args us vs Q E (a.mono h)⟩
theorem FnOk.imp {P:Program} {w:World} {K:Frag} {mg:Str->Option Value} {base:Heap} {CX:CXT} {k:Nat} {f:Addr} {fd:FuncData} {ps:List Str} {sp a:Sp} (F:FnOk P w K mg base CX k f fd ps sp)
  (h:∀ vs H Q E,a vs H Q E->sp vs H Q E):FnOk P w K mg base CX k f fd ps a :=
 ⟨fun vs H Q E q=>F.len vs H Q E (h _ _ _ _ q),fun A outer s H args us vs Q E d g hb c b=>F.run A outer s H args us vs Q E d g hb c (h _ _ _ _ b)⟩
theorem Env0.make {P:Program} {w:World} {K:Frag} {mg:Str->Option Value} {base:Heap} {A:Around} {outer:List Env} {s:Shared} {H:Hp} (e:Env0 P w K mg base A outer s H) (C:Addr) (us:List Value) (a:List (Str × Value)) :
  Env0 P w K mg base (A.under (.builtin "type.__call__" ⟨.ref C :: us,a⟩)) outer s H:=⟨by first | exact e.frames | (simpa [Around.under,Code.envs,Code.isFrame,pushEnvs] using e.frames),e.mod,e.bs,e.bsz,e.funs,e.frf,e.hok,e.bare⟩
theorem Env0.in1 {P:Program} {w:World} {K:Frag} {mg:Str->Option Value} {base:Heap} {A:Around} {outer:List Env} {s:Shared} {H:Hp} (e:Env0 P w K mg base A outer s H) :
  Env0 P w K mg base A.in1 outer s H:=⟨e.frames,e.mod,e.bs,e.bsz,e.funs,e.frf,e.hok,e.bare⟩
section
variable {X:Cx} {pins:List (Addr × Obj)} {σ:St} {H:Hp} {s s':Shared}
theorem Inv.env0 (I:Inv X pins σ H s):Env0 X.prog X.w X.K X.mg X.base X.A X.stack s H :=
 ⟨I.ok.frames,I.ok.mod,I.bs,aC9 I.ok.bsz I.sz,I.stack,I.stkFree,I.hok,I.bare⟩
theorem Inv.after {Q:VK} {u:Value} (I:Inv X pins σ H s) (h:CE X.stack X.prog X.w H s Q u s'):EP X pins σ Q u s':=by
 obtain ⟨v,H',os,bare,un,hok,r,q⟩:=h
 obtain ⟨hh,g,d,t,os'⟩:=s'
 obtain rfl:os'=s.os:=os
 exact ⟨v,H',I.call (h':=hh) (g':=g) (d':=d) (t':=t) (ch:=[]) un hok bare (fun b z=>absurd z (by simp)),r,q⟩
end
def abw (sp:Sp) (dvs:List V) (E:XK) (t:TA):TE:=fun σ H Q=>t σ H fun vs H1=>sp (vs ++ dvs) H1 Q E
def afk (C:Addr) (m:Str) (sp:Sp) (dvs:List V) (E:XK) (ta:TE) (t:TA):TE:=fun σ H Q=>ta σ H fun x H1=>∃ a dx fs,x=.ref a/\H1 a=some (.ins C dx fs)/\fs.lookup m=none /\
 t σ H1 fun vs H2=>sp (x :: (vs ++ dvs)) H2 Q E
def ap3 (C:Addr) (sp:Sp) (dvs:List V) (E:XK) (t:TA):TE:=fun σ H Q=>t σ H fun vs H1=>∀ x dx,H1 x=none->H1 dx=none->dx ≠ x ->
 sp (.ref x :: (vs ++ dvs)) (upd (upd H1 dx (.own x)) x (.ins C dx [])) (fun v H2=>v=.non/\Q (.ref x) H2) E
def Binds (K:Frag) (fd:FuncData) (ps:List Str) (ds:List Value):Prop :=
 ∀ (s:Shared) (us:List Value),K.In s.heap->(us ++ ds).length=ps.length->BindsTo s fd ⟨us,[]⟩ (ps.zip (us ++ ds))
theorem Binds.all {K:Frag} {fd:FuncData} {ps:List Str} (h:∀ us:List Value,us.length=ps.length->bindArgs fd ⟨us,[]⟩=pure (ps.zip us)):Binds K fd ps []:=fun s us _ a=>by
 rw [aE4] at a ⊢
 exact .of_eq (h us a)
def aej (CX:CXT) (X:Cx) (E:XK):Prop:=∀ (pins:List (Addr × Obj)) (σ:St) (H:Hp) (s:Shared) (e:Value) (s':Shared),Inv X pins σ H s->CX X.stack H s E e s'->X.xe e s'
section
variable {X:Cx} {CX:CXT} {k:Nat} {f C:Addr} {fd:FuncData} {ps:List Str} {sp:Sp} {dvs:List V} {ds:List Value} {E:XK} {x m:Str} {p pos apos:Pos} {e o:Expr} {es:List Expr} {ta:TE} {t:TA}
theorem alp {pins:List (Addr × Obj)} {σ:St} {H:Hp} {s:Shared} {Q:VK} {us:List Value} {vs:List V} (F:FnOk X.prog X.w X.K X.mg X.base CX k f fd ps sp) (c:Room k X.A) (hb:Binds X.K fd ps ds) (hd:Vals dvs ds) (d:aej CX X E)
  (I:Inv X pins σ H s) (r:Vals vs us) (h:sp (vs ++ dvs) H Q E):wpAny (model X.prog X.w) X.A (call (.ref f) us) (EP X pins σ Q) X.xe s:=by
 have b:Vals (vs ++ dvs) (us ++ ds):=r.append hd
 have i:(us ++ ds).length=ps.length:=by rw [← b.length];exact F.len _ _ _ _ h
 refine wpAny_call (codeAny_mono (F.run X.A X.stack s H ⟨us,[]⟩ (us ++ ds) (vs ++ dvs) Q E c I.env0 (hb s us I.kIn i) b h) fun r g a=>?_)
 cases r with
 | error e=>exact d pins σ H s e g I a
 | ok fl =>
  cases fl with
  | ret u=>exact I.after a
  | next=>exact False.elim a
  | brk=>exact False.elim a
  | cont=>exact False.elim a
theorem aws (F:FnOk X.prog X.w X.K X.mg X.base CX k f fd ps sp) (i:Room k X.A) (g:Gl X x) (hm:X.mg x=some (.ref f)) (d:keepIn X.K (.ref f)=true) (hb:Binds X.K fd ps ds) (hd:Vals dvs ds) (l:aej CX X E)
  (ha:PA X (e :: es) t) (b:(x == ("__debug__" : Str))=false:=by decide) (j:starEach (e :: es) X.env=(false,eval e X.env) :: starEach es X.env:=by rfl) (a:(backTo pos (starEach es X.env)).any (·.1)=false:=by rfl) :
  PE X (.Call (.Name x p) (e :: es) [] pos) (abw sp dvs E t):=by
 intro pins s σ H Q I h
 refine wpAny_Call_Name_kw (ai6 I g hm ?_ b)
 refine PySem.W.callWith_K (h₀:=X.base) I.ok.mod.kin d (thn (ha pos pins s σ H _ I h) fun us s1 ⟨vs,m,c,r,q⟩=>⟨c.kIn,?_⟩) j a
 exact alp F i hb hd l c r q
theorem awt {pl:Sem Bool} (z:PE X o ta) (c:Cls X.K C) (hm:Meth X.K C m f) (F:FnOk X.prog X.w X.K X.mg X.base CX k f fd ps sp) (y:Room k X.A) (hb:Binds X.K fd ps ds) (hd:Vals dvs ds) (B:aej CX X E) (ha:PA X (e :: es) t)
  (b:starEach (e :: es) X.env=(false,eval e X.env) :: starEach es X.env:=by rfl) (d:(backTo pos (starEach es X.env)).any (·.1)=false:=by rfl)
  (v:eval (.Call (.Attribute o m apos) (e :: es) [] pos) X.env=(do
   let ov ← eval o X.env
   standAt apos.atName
   let (f,first) ← holding [ov] (getMethod ov m pl)
   callWith pos f first (backTo pos (starEach (e :: es) X.env)) (backToKw pos (keywordEach [] X.env))):=by rfl) :
  PE X (.Call (.Attribute o m apos) (e :: es) [] pos) (afk C m sp dvs E ta t):=by
 intro pins s σ H Q I h
 refine PySem.W.methodCall_KW (pl:=pl) (thn (z pins s σ H _ I h) fun u s1 ⟨x,D,g,j,a,dx,fs,ex,n,l,q⟩=>?_) v
 subst ex
 obtain rfl:u=Value.ref a:=j
 refine aia g n c hm l ?_
 refine PySem.W.callWith_K (first:=[.ref a]) (h₀:=X.base) I.ok.mod.kin hm.kp (thn (ha pos pins s1 σ D _ g q) fun us s2 ⟨vs,H2,i,r,p⟩=>⟨i.kIn,?_⟩) b d
 exact alp (us:=.ref a :: us) (vs:=.ref a :: vs) F y hb hd B i (.cons rfl r) p
theorem ats {pl:Sem Bool} (n:PE X o ta) (c:Cls X.K C) (hm:Meth X.K C m f) (F:FnOk X.prog X.w X.K X.mg X.base CX k f fd ps sp) (j:Room k X.A) (hb:Binds X.K fd ps ds) (hd:Vals dvs ds) (p:aej CX X E)
  (i:eval (.Call (.Attribute o m apos) [] [] pos) X.env=(do
   let ov ← eval o X.env
   standAt apos.atName
   let (f,first) ← holding [ov] (getMethod ov m pl)
   callWith pos f first (backTo pos (starEach [] X.env)) (backToKw pos (keywordEach [] X.env))):=by rfl) :
  PE X (.Call (.Attribute o m apos) [] [] pos) (afk C m sp dvs E ta tNil):=by
 intro pins s σ H Q I h
 refine PySem.W.methodCall_KW (pl:=pl) (thn (n pins s σ H _ I h) fun u s1 ⟨x,r,b,d,a,dx,fs,ex,g,l,q⟩=>?_) i
 subst ex
 obtain rfl:u=Value.ref a:=d
 refine aia b g c hm l ?_
 exact PySem.W.callWith_K0 (first:=[.ref a]) b.kIn hm.kp (alp (us:=[.ref a]) (vs:=[.ref a]) F j hb hd p b (.cons rfl .nil) q)
structure Mk (K:Frag) (C f:Addr):Prop where
 makes:PySem.W.makesIn K C=true
 init:PySem.W.findIn K (.ref C) "__init__" = some (some (.ref f))
 fn:PySem.W.isFn K (.ref f)=true
 kp:keepIn K (.ref C)=true
theorem att {pins:List (Addr × Obj)} {σ:St} {H:Hp} {s:Shared} {Q:VK} {us:List Value} {vs:List V} (M:Mk X.K C f) (F:FnOk X.prog X.w X.K X.mg X.base CX k f fd ps sp) (i:Room (k+1) X.A) (hb:Binds X.K fd ps ds) (hd:Vals dvs ds)
  (n:aej CX X E) (I:Inv X pins σ H s) (r:Vals vs us)
  (h:∀ x dx,H x=none->H dx=none->dx ≠ x->sp (.ref x :: (vs ++ dvs)) (upd (upd H dx (.own x)) x (.ins C dx [])) (fun v H2=>v=.non/\Q (.ref x) H2) E) :
  wpAny (model X.prog X.w) X.A (call (.ref C) us) (EP X pins σ Q) X.xe s:=by
 have d:=h (s.heap.objs.size+1) s.heap.objs.size (I.hok.fresh (Nat.le_succ _)) (I.hok.fresh (aA6 _)) (aB5 (aH9 _))
 have b:=Inv.made (C:=C) I
 have c:Vals (V.ref (s.heap.objs.size+1) :: (vs ++ dvs)) (Value.ref (s.heap.objs.size+1) :: (us ++ ds)):=.cons rfl (r.append hd)
 have p:(Value.ref (s.heap.objs.size+1) :: us ++ ds).length=ps.length:=by
  have e:=c.length
  rw [F.len _ _ _ _ d] at e
  exact e.symm
 refine wpAny_call (atr (f:=f) I.kIn M.makes M.init (aF6.mp M.fn) (codeAny_mono (F.run _ X.stack _ _ ⟨Value.ref (s.heap.objs.size+1) :: us,[]⟩ (Value.ref (s.heap.objs.size+1) :: (us ++ ds)) _ _ E (i.make C us [])
  (b.env0.make C us []) (hb _ (Value.ref (s.heap.objs.size+1) :: us) b.kIn p) c d) fun r o a=>?_))
 cases r with
 | error e=>exact n pins σ _ _ e o b a
 | ok fl =>
  cases fl with
  | ret u =>
   obtain ⟨v,H',m,j,l,g⟩:=b.after a
   subst l
   exact ⟨j,⟨V.ref (s.heap.objs.size+1),H',m,rfl,g⟩⟩
  | next=>exact False.elim a
  | brk=>exact False.elim a
  | cont=>exact False.elim a
theorem awu (M:Mk X.K C f) (F:FnOk X.prog X.w X.K X.mg X.base CX k f fd ps sp) (g:Room (k+1) X.A) (d:Gl X x) (hm:X.mg x=some (.ref C)) (hb:Binds X.K fd ps ds) (hd:Vals dvs ds) (j:aej CX X E)
  (ha:PA X (e :: es) t) (b:(x == ("__debug__" : Str))=false:=by decide) (i:starEach (e :: es) X.env=(false,eval e X.env) :: starEach es X.env:=by rfl) (a:(backTo pos (starEach es X.env)).any (·.1)=false:=by rfl) :
  PE X (.Call (.Name x p) (e :: es) [] pos) (ap3 C sp dvs E t):=by
 intro pins s σ H Q I h
 refine wpAny_Call_Name_kw (ai6 I d hm ?_ b)
 refine PySem.W.callWith_K (h₀:=X.base) I.ok.mod.kin M.kp (thn (ha pos pins s σ H _ I h) fun us s1 ⟨vs,l,c,r,q⟩=>⟨c.kIn,?_⟩) i a
 exact att M F g hb hd j c r q
end
section
variable {X:Cx} {CX:CXT} {k:Nat} {f C:Addr} {fd:FuncData} {ps ks:List Str} {sp:Sp} {E:XK} {x m:Str} {p pos apos kpos:Pos} {e o:Expr} {es:List Expr} {kws:List Keyword} {te ta:TE} {t tk:TA} {nm:Option Str}
variable {g:List Value->List Value->List Value} {gV:List V->List V->List V}
end
structure FnScope (N P:List Str) (sc:Scope):Prop where
 kind:sc.kind=.function
 co:sc.isCoroutine=false
 gen:sc.isGenerator=false
 nd:N.Nodup
 pre:N.take P.length=P
 par:∀ x∈P,sc.names.lookup x=some .local\/sc.names.lookup x=some .cell
 nofree:∀ y∈sc.names,y.2 ≠ .free
theorem aj3 {kindOf:Str->Option NameKind} {x:Str}:∀ {binds:List (Str × Value)} {m:Str->Option Value},(∀ v,(x,v) ∉ binds)->bindL kindOf binds m x=m x
 | [],_,_=>rfl
 | (n,v) :: r,m,h=>by
  unfold bindL
  rw [aj3 fun w a=>h w (aB4 _ a)]
  split
  ·have:x ≠ n:=by rintro rfl;exact h v aB7
   simp [this]
  ·rfl
theorem aj4 {kindOf:Str->Option NameKind} {x:Str}:∀ {binds:List (Str × Value)} {m:Str->Option Value},(∀ v,(x,v) ∉ binds)->bindC kindOf binds m x=m x
 | [],_,_=>rfl
 | (n,v) :: r,m,h=>by
  unfold bindC
  rw [aj4 fun w a=>h w (aB4 _ a)]
  split
  ·rfl
  ·have:x ≠ n:=by rintro rfl;exact h v aB7
   simp [this]
theorem aj5 {kindOf:Str->Option NameKind} {x:Str} {v:Value}:∀ {P:List Str} {vs:List Value} {i:Nat} {m:Str->Option Value},P.Nodup->P[i]?=some x->vs[i]?=some v->kindOf x=some .local ->
  bindL kindOf (P.zip vs) m x=some v
 | [],_,_,_,_,h,_,_=>by simp at h
 | _ :: _,[],_,_,_,_,h,_=>by simp at h
 | p :: P,w :: vs,0,m,nd,h1,h2,hk=>by
  simp at h1 h2;subst h1;subst h2
  show bindL kindOf ((p,w) :: P.zip vs) m p=_
  unfold bindL
  rw [aj3 fun v a=>(aH7.mp nd).1 (List.of_mem_zip a).1,aE8 hk]
  simp
 | p :: P,w :: vs,i+1,m,nd,h1,h2,hk=>by
  show bindL kindOf ((p,w) :: P.zip vs) m x=_
  unfold bindL
  exact aj5 (i:=i) (aH7.mp nd).2 (by simpa using h1) (by simpa using h2) hk
theorem aj6 {kindOf:Str->Option NameKind} {x:Str} {v:Value}:∀ {P:List Str} {vs:List Value} {i:Nat} {m:Str->Option Value},P.Nodup->P[i]?=some x->vs[i]?=some v->kindOf x ≠ some .local ->
  bindC kindOf (P.zip vs) m x=some v
 | [],_,_,_,_,h,_,_=>by simp at h
 | _ :: _,[],_,_,_,_,h,_=>by simp at h
 | p :: P,w :: vs,0,m,nd,h1,h2,hk=>by
  simp at h1 h2;subst h1;subst h2
  show bindC kindOf ((p,w) :: P.zip vs) m p=_
  unfold bindC
  rw [aj4 fun v a=>(aH7.mp nd).1 (List.of_mem_zip a).1,aE9 hk]
  simp
 | p :: P,w :: vs,i+1,m,nd,h1,h2,hk=>by
  show bindC kindOf ((p,w) :: P.zip vs) m x=_
  unfold bindC
  exact aj6 (i:=i) (aH7.mp nd).2 (by simpa using h1) (by simpa using h2) hk
def start (N:List Str) (vs:List V):St:=vs.map some ++ List.replicate (N.length - vs.length) none
def cxOf (CX:CXT) (P:Program) (w:World) (K:Frag) (mg:Str->Option Value) (base:Heap) (N:List Str) (qual:Str) (scope:Scope) (f:Addr) (cd:Value) (A:Around) (outer:List Env) (s:Shared) (H:Hp) (E:XK):Cx where
 prog:=P
 w:=w
 K:=K
 mg:=mg
 base:=base
 A:=A.deeper (envOfC qual scope s.heap.objs.size f cd)
 N:=N
 s₀:=s
 H₀:=H
 env:=envOfC qual scope s.heap.objs.size f cd
 outer:=outer
 stack:=envOfC qual scope s.heap.objs.size f cd :: outer
 ex:=[]
 calm:=true
 fn:=fun _=>true
 pn:=[]
 xe:=fun e s'=>wpAny (model P w) (A.deeper (envOfC qual scope s.heap.objs.size f cd)) (leaving (envOfC qual scope s.heap.objs.size f cd) e) (fun _ s''=>CX outer H s E e s'') (fun e' s''=>CX outer H s E e' s'') s'
theorem alq {sc:Scope} {n:Nat} {x:Str} (h:sc.names.lookup x=some .cell):∃ c,(cellsFrom n sc.names []).lookup x=some c:=by
 have q:=PySem.W.cellsFrom_some sc.names n [] (.inl h)
 exact Option.isSome_iff_exists.mp q
theorem arj {CX:CXT} {P:Program} {w:World} {K:Frag} {mg:Str->Option Value} {base:Heap} {N ps:List Str} {qual:Str} {scope:Scope} {f:Addr} {B:Value} {A:Around} {outer:List Env} {s s1:Shared} {H:Hp} {E:XK} {us:List Value} {vs:List V}
  (S:FnScope N ps scope) (hd:A.handled=none) (g:Env0 P w K mg base A outer s H) (L:vs.length=ps.length) (r:Vals vs us)
  (x:InCallC s s.heap.objs.size (bindL (envOfC qual scope s.heap.objs.size f B).kindOf (ps.zip us) fun _=>none) (cellsFrom (s.heap.objs.size+1) scope.names []) (bindC (envOfC qual scope s.heap.objs.size f B).kindOf (ps.zip us) fun _=>none) s1) :
  Inv (cxOf CX P w K mg base N qual scope f B A outer s H E) [] (start N vs) H s1:=by
 have I:ps.length<=N.length:=by have:=congrArg List.length S.pre;rw [aG3] at this;omega
 obtain ⟨C,M,rfl,D⟩:=x.done
 have l:∀ b:Addr,b ∉ (cxOf CX P w K mg base N qual scope f B A outer s H E).ex:=fun b z=>absurd (show b∈([]:List Addr) from z) (by simp)
 refine ⟨⟨g.mod,S.kind,rfl,rfl,aA6 _,fun y z c C d=>?_,fun y j=>?_,fun y c _ h=>?_,fun _=>hd,Around.frames_deeper g.frames,.inr ⟨rfl,rfl⟩,fun b z=>absurd z (l b),g.bs,g.bsz,fun b _ _=>l b,fun b z=>absurd z (l b),g.funs,g.frf⟩,
  rfl,g.bare,Un.kept D,⟨_,x.toInCall.ns,fun i y v C d J=>?_⟩,fun y c h=>⟨_,x.cell y c h⟩,g.hok.fresh (aA6 _),fun y c h=>?_,fun p o=>absurd (show p∈([]:List (Addr × Obj)) from o) (by simp),g.hok.kept D,?_⟩
 ·exact name_of_addr x.apart (PySem.mem_of_lookup C) (PySem.mem_of_lookup d)
 ·have j:scope.names.lookup y=some .cell\/scope.names.lookup y=some .free:=j
  rcases j with j | j
  ·exact alq j
  ·exact absurd rfl (S.nofree _ (PySem.mem_of_lookup j))
 ·exact aF8 (x.above y c (PySem.mem_of_lookup h))
 ·have hi:i < vs.length:=by
   unfold start at d
   by_cases hi:i < vs.length
   ·exact hi
   ·rw [aC7 (by simpa using hi)] at d
    rw [aH0] at d
    split at d <;> cases d
  have ha:vs[i]?=some v:=by
   unfold start at d
   rw [aC2 (by simpa using hi),aA5] at d
   cases e:vs[i]? with
   | none=>rw [e] at d;cases d
   | some a=>rw [e] at d;cases d;rfl
  obtain ⟨u,F,G⟩:=r.get ha
  have o:ps[i]?=some y:=by
   rw [← S.pre,aG8 (by omega)];exact C
  have m:ps.Nodup:=by rw [← S.pre];exact S.nd.sublist (List.take_sublist _ _)
  refine ⟨u,G,?_⟩
  rcases S.par y (aA2 o) with k | k
  ·exact .inl ⟨k,aj5 m o F k⟩
  ·obtain ⟨c,e⟩:=alq (n:=s.heap.objs.size+1) k
   refine .inr ⟨.inl k,c,e,?_⟩
   have q:=x.cell y c e
   rw [aj6 m o F (by show scope.names.lookup y ≠ _;rw [k];decide)] at q
   exact q
 ·exact g.hok.fresh (aF8 (x.above y c (PySem.mem_of_lookup h)))
 ·unfold start
  show _=N.length
  rw [aB0,aA3,List.length_replicate]
  omega
theorem a1f {CX:CXT} {P:Program} {w:World} {K:Frag} {mg:Str->Option Value} {base:Heap} {k:Nat} {f:Addr} {name qual:Str} {a:Arguments} {body:List Stmt} {scope:Scope} {C kV doc pm cdv ct oc:Value} {an od:Option Addr}
  {osl:Array (Option Value)} {N ps:List Str} {sp:Sp} (M:K.lookup f=some ⟨oc,od,.func (fnOf name qual a body scope C kV doc pm an cdv ct),osl⟩) (B:codeIn K cdv qual=true) (S:FnScope N ps scope)
  (len:∀ vs H Q E,sp vs H Q E->vs.length=ps.length)
  (d:∀ (A:Around) (outer:List Env) (s:Shared) (H:Hp) (vs:List V) (Q:VK) (E:XK),Room k (A.deeper (envOfC qual scope s.heap.objs.size f cdv))->sp vs H Q E ->
   ∃ t,PSs (cxOf CX P w K mg base N qual scope f cdv A outer s H E) body t/\t { nx:=fun _ H'=>Q .non H',rt:=Q } (start N vs) H) :
  FnOk P w K mg base CX (k+1) f (fnOf name qual a body scope C kV doc pm an cdv ct) ps sp:=by
 refine ⟨len,fun A outer s H args us vs Q E m j hb r i=>?_⟩
 have T:=len _ _ _ _ i
 have D:K.In s.heap:=j.mod.kin.keeps fun b o e=>(j.bs b o e).1
 have l:s.heap.NoLimit:=j.mod.nolimit.keeps fun b o e=>(j.bs b o e).1
 have g:∀ y∈ps.zip us,scope.names.lookup y.1=some .local\/(scope.names.lookup y.1=some .cell/\((cellsFrom (s.heap.objs.size+1) scope.names []).lookup y.1).isSome=true):=fun ⟨n,v⟩ R=>by
  rcases S.par n (List.of_mem_zip R).1 with q | q
  ·exact .inl q
  ·exact .inr ⟨q,PySem.W.cellsFrom_some _ _ _ (.inl q)⟩
 refine codeAny_call_function m.depth (D _ _ M) rfl S.co S.gen rfl (PySem.W.codeRec_of D B) (hb _ _ _ _ ?_)
 refine wpAny_newFunctionEnv_cells S.kind g fun env O s1 x=>?_
 subst O
 refine ⟨l.keeps x.toInCall.keep,codeAny_func ?_⟩
 obtain ⟨t,L,G⟩:=d A outer s H vs Q E (m.deeper _) i
 have I:Inv (cxOf CX P w K mg base N qual scope f cdv A outer s H E) [] (start N vs) H s1:=arj S m.hd j T r x
 refine aI8 (L [] s1 (start N vs) H _ I G) (fun F z h=>?_) fun e z h=>h
 have fin:∀ {c:St} {H':Hp} {v:V} {u:Value},Inv (cxOf CX P w K mg base N qual scope f cdv A outer s H E) [] c H' z->RelV v u->Q v H'->CE outer P w H s Q u z :=
  fun {c H' v u} J p q=>⟨v,H',J.os,J.bare,J.base,J.hok,p,q⟩
 cases F with
 | ret u =>
  obtain ⟨v,c,H',J,p,q⟩:=h
  exact fin J p q
 | next =>
  obtain ⟨c,H',J,q⟩:=h
  exact fin (v:=V.non) (u:=Value.none) J rfl q
 | brk =>
  obtain ⟨_,_,_,q⟩:=h
  exact False.elim q
 | cont =>
  obtain ⟨_,_,_,q⟩:=h
  exact False.elim q
section
variable {X:Cx} {x:Str} {p pos:Pos} {e:Expr} {es:List Expr} {t:TA} {id T:String} {r:List V->Hp->VK->Prop}
def tCB (r:List V->Hp->VK->Prop) (t:TA):TE:=fun σ H Q=>t σ H fun vs H1=>r vs H1 Q
theorem aaj (g:abb X (.builtin id) r) (f:Gl X x) (hm:X.mg x=none) (i:bootBuiltins x=some (.builtin id)) (ha:PA X (e :: es) t) (hn:x ≠ "__name__":=by decide) (b:(x == ("__debug__" : Str))=false:=by decide)
  (j:starEach (e :: es) X.env=(false,eval e X.env) :: starEach es X.env:=by rfl) (a:(backTo pos (starEach es X.env)).any (·.1)=false:=by rfl):PE X (.Call (.Name x p) (e :: es) [] pos) (tCB r t):=by
 intro pins s σ H Q I h
 refine wpAny_Call_Name_kw (aed I f hm i ?_ hn b)
 exact PyProof.Rows.callWith_builtin1 (thn (ha pos pins s σ H _ I h) fun us s1 ⟨vs,l,d,c,m⟩=>g pins s1 σ l vs us Q d c m) j a
theorem ac8 (g:abb X (.type T) r) (f:Gl X x) (hm:X.mg x=none) (i:bootBuiltins x=some (.type T)) (ha:PA X (e :: es) t) (hn:x ≠ "__name__":=by decide) (b:(x == ("__debug__" : Str))=false:=by decide)
  (j:starEach (e :: es) X.env=(false,eval e X.env) :: starEach es X.env:=by rfl) (a:(backTo pos (starEach es X.env)).any (·.1)=false:=by rfl):PE X (.Call (.Name x p) (e :: es) [] pos) (tCB r t):=by
 intro pins s σ H Q I h
 refine wpAny_Call_Name_kw (aed I f hm i ?_ hn b)
 exact PyProof.Rows.callWith_type1 (thn (ha pos pins s σ H _ I h) fun us s1 ⟨vs,l,d,c,m⟩=>g pins s1 σ l vs us Q d c m) j a
end
end L2
namespace HT
open PySem PyProof.Rows
def lexLt:List Int->List Int->Bool
 | [],[]=>false
 | [],_ :: _=>true
 | _ :: _,[]=>false
 | x :: xs,y :: ys=>if x=y then lexLt xs ys else decide (x < y)
theorem ad2 (x y:Int) (xs ys:List Int):lexLt (x :: xs) (y :: ys)=if x=y then lexLt xs ys else decide (x < y):=rfl
theorem akr:lexLt [] []=false:=rfl
theorem ai8 (y:Int) (ys:List Int):lexLt [] (y :: ys)=true:=rfl
theorem ai9 (x:Int) (xs:List Int):lexLt (x :: xs) []=false:=rfl
theorem atu (A:Around) (s:Shared) (a:Int) (t:Tok) (c:Int) (u:Tok):∃ e,SeqAt.EqAt A s (.int a t) (.int c u) e/\(e=true ↔ a=c) :=
 ⟨(a == c),SeqAt.EqAt.int_int a t c u,by simp⟩
theorem atv (A:Around) (s:Shared) (a:Int) (t:Tok) (c:Int) (u:Tok) (prog:Program) (w:World) (E:Value->Shared->Prop) (Q:Value->Shared->Prop) (h:Q (.bool (decide (a < c))) s) :
  wpAny (model prog w) A (richCompare .Lt (.int a t) (.int c u)) Q E s :=
 (PyProof.Rows.lt_int h:wpAny (model prog w) A (compareOp .Lt (.int a t) (.int c u)) Q E s)
section
open PySem.SeqAt
open PySem.AutoSeq1 (wpAny_loadPart')
open PySem.MeetsSeq PySem.MeetsSeq2 PySem.MeetsSeq3
theorem aks (l b:Addr) (items f:Array Value) (n N:Nat) (dd H:Option Addr) (sl J:Array (Option Value)) (ns C:List Int) (hi:IntsAre items.toList ns) (M:IntsAre f.toList C) :
  Meets (Builtin.«tuple.__lt__» ⟨[.ref l,.ref b],[]⟩)
   (fun _ R s=>s.heap.get? l=some { cls:=.type "tuple",dict:=dd,data:=.seq items n,slots:=sl }/\s.heap.get? b=some { cls:=.type "tuple",dict:=H,data:=.seq f N,slots:=J } /\
    R (.ok (.ret (.bool (lexLt ns C)))) s) :=
 .of_wp fun prog w A R s h=>by
  obtain ⟨D,g,d,E,os⟩:=s;obtain ⟨S,hb,h⟩:=h
  have X:=AutoSeq1.sub_tuple_tuple
  have U:items.size=ns.length:=by rw [← hi.length];simp
  have W:f.size=C.length:=by rw [← M.length];simp
  wp_walk using wpAny_loadPart' S,wpAny_loadPart' hb,wpAny_forIn_list _ (fun rest b K=>b.1=none/\K=⟨D,g,d,E,os⟩/\∃ (vs F:List Value) (m j:List Int),rest=vs.zip F /\
   IntsAre vs m/\IntsAre F j/\m.length+f.size=j.length+items.size/\R (.ok (.ret (.bool (lexLt m j)))) ⟨D,g,d,E,os⟩) _
  case turn =>
   rintro ⟨y,x⟩ rest b K ⟨v,rfl,vs,F,m,j,hz,B,o,i,r⟩
   cases B with
   | nil=>rw [List.zip_nil_left] at hz;cases hz
   | cons a t hvi' =>
    cases o with
    | nil=>rw [List.zip_nil_right] at hz;cases hz
    | cons c u hwi' =>
     rw [List.zip_cons_cons] at hz
     injection hz with I z
     injection I with Q P
     subst Q P
     rw [ad2] at r
     simp only [aE0] at i
     obtain ⟨e,O,p⟩:=atu A.in1 ⟨D,g,d,E,os⟩ a t c u
     refine aI1 (O prog w _ _ ?_)
     cases e with
     | true =>
      rw [aE8 (p.mp rfl)] at r
      wp_walk
      exact ⟨rfl,rfl,_,_,_,_,z,hvi',hwi',by omega,r⟩
     | false =>
      rw [aE9 (fun q=>absurd (p.mpr q) aA9)] at r
      have G:=atv A.in1 ⟨D,g,d,E,os⟩ a t c u prog w
      wp_walk using G
      exact ⟨_,rfl,by simpa using r⟩
  case fin =>
   rintro ⟨b1,T⟩ K ⟨v,rfl,vs,F,m,j,hz,B,o,i,r⟩
   simp only at v
   subst v
   have L:lexLt m j=decide (items.size < f.size):=by
    cases B with
    | nil =>
     cases o with
     | nil =>
      simp only [aI0] at i
      rw [akr]
      exact (aD5 (by omega)).symm
     | cons c u hw =>
      simp only [aI0,aE0] at i
      rw [ai8]
      exact (aD6 (by omega)).symm
    | cons a t L =>
     cases o with
     | nil =>
      simp only [aI0,aE0] at i
      rw [ai9]
      exact (aD5 (by omega)).symm
     | cons c u hw =>
      rw [List.zip_cons_cons] at hz
      cases hz
   rw [L] at r
   wp_walk
   exact ⟨_,rfl,by simpa [Builtin.Tuple.tupleCompareSizes] using r⟩
  case h =>
   exact ⟨rfl,rfl,items.toList,f.toList,ns,C,rfl,hi,M,by omega,h⟩
end
section
variable {prog:Program} {w:World} {A:Around} {E:Value->Shared->Prop} {s:Shared}
theorem lt_tupInts {l b:Addr} {items a:Array Value} {ns c:List Int} {Q:Value->Shared->Prop} (y:IsTup s.heap l items) (hb:IsTup s.heap b a) (hi:IntsAre items.toList ns) (v:IntsAre a.toList c)
  (r:A.units < cLine) (h:Q (.bool (lexLt ns c)) s):wpAny (model prog w) A (compareOp .Lt (.ref l) (.ref b)) Q E s:=by
 obtain ⟨⟨cls,dd,data,sl⟩,p,o,n,hd⟩:=id y
 obtain ⟨⟨q,i,j,m⟩,f,d,u,g⟩:=id hb
 simp only at o hd d g
 subst o hd d g
 exact richCompare_meets_room (op:=.Lt) ⟨_,p,rfl⟩ ⟨_,f,rfl⟩ PySem.F.slot_tuple_lt PySem.F.entry_tuple_lt (PySem.F.args_tuple_lt_2 _ _) (aks l b items a n u dd i sl m ns c hi v)
  ⟨p,f,show Value.bool (lexLt ns c) ≠ Value.notImplemented/\Q (.bool (lexLt ns c)) s from ⟨(fun x=>nomatch x),h⟩⟩ r
def sIx (n d:Nat):Option Int->Nat
 | none=>d
 | some v=>if v < 0 then (v+(n:Int)).toNat else min v.toNat n
end
end HT
namespace L2
open PySem PySem.Spec PyProof.Rows
abbrev TO:=St->Hp->(Option Int->Hp->Prop)->Prop
def PO (X:Cx) (e:Option Expr) (t:TO):Prop :=
 ∀ (pins:List (Addr × Obj)) (s:Shared) (σ:St) (H:Hp) (Q:Option Int->Hp->Prop),Inv X pins σ H s->t σ H Q ->
  wpAny (model X.prog X.w) X.A (evalPart e X.env) (fun u s'=>∃ o H',Inv X pins σ H' s'/\IsPart u o/\Q o H') X.xe s
def av4 (t:TE):TO:=fun σ H Q=>t σ H fun x H1=>∃ i,x=.int i/\Q (some i) H1
theorem ab3 {ns:List Int}:∀ {us:List Value},Vals (ns.map V.int) us->IntsAre us ns:=by
 induction ns with
 | nil=>intro us r;rw [List.map_nil] at r;cases r;exact .nil
 | cons n ns ih =>
  intro us r
  rw [aD0] at r
  cases r with
  | cons r1 r2 =>
   obtain ⟨t,e⟩:=r1
   subst e
   exact .cons n t (ih r2)
section
variable {X:Cx} {e:Expr} {te:TE} {lo hi:Option Expr} {tl th:TO} {pos p2:Pos}
theorem aoe (h:PE X e te):PO X (some e) (av4 te):=by
 intro pins s σ H Q I c
 rw [evalPart_some]
 refine thn (h pins s σ H _ I c) fun u s1 ⟨x,d,b,a,f⟩=>?_
 obtain ⟨i,rfl,q⟩:=f
 obtain ⟨t,rfl⟩:=a
 exact ⟨some i,d,b,.int i t,q⟩
def SlR (X:Cx) (r:V->Option Int->Option Int->Hp->VK->Prop):Prop :=
 ∀ (pins:List (Addr × Obj)) (s:Shared) (σ:St) (H:Hp) (x:V) (v vl vu:Value) (lo hi:Option Int) (sl:Addr) (Q:VK),Inv X pins σ H s->RelV x v->s.heap.IsSliceOf sl vl vu .none->IsPart vl lo->IsPart vu hi->r x lo hi H Q ->
  ∃ T id,typeLookup (.type T) "__getitem__" = pure (some (.builtin id))/\s.TypeIs v T/\wpAny (model X.prog X.w) X.A (getItem v (.ref sl)) (EP X pins σ Q) X.xe s
def tSl (r:V->Option Int->Option Int->Hp->VK->Prop) (te:TE) (tl th:TO):TE:=fun σ H Q=>te σ H fun x H1=>tl σ H1 fun l H2=>th σ H2 fun u H3=>r x l u H3 Q
theorem atw {r:V->Option Int->Option Int->Hp->VK->Prop} (z:SlR X r) (D:PE X e te) (G:PO X lo tl) (p:PO X hi th):PE X (.Subscript e (.Slice lo hi none p2) pos) (tSl r te tl th):=by
 intro pins s σ H Q I h
 refine Subscript_ (thn (D pins s σ H _ I h) fun v s1 ⟨x,E,j,g,F⟩=>?_)
 refine wpAny_Slice (thn (G pins s1 σ E _ j F) fun d s2 ⟨l,H2,J,pl,o⟩=>thn (p pins s2 σ H2 _ J o) fun c a ⟨u,H3,C,B,f⟩=>?_)
 rw [evalPart_none]
 refine aI2 ?_
 have i:Inv X pins σ H3 { a with heap:=a.heap.push { cls:=.type "slice",data:=.fields #[d,c,.none] } }:=C.kept (t':=a.toks) fun b K q=>aI3 _ q
 obtain ⟨T,id,m,y,n⟩:=z pins { a with heap:=a.heap.push { cls:=.type "slice",data:=.fields #[d,c,.none] } } σ H3 x v d c l u a.heap.objs.size Q i g (Heap.IsSliceOf.new ..) pl B f
 show wpAny (model X.prog X.w) X.A (subscriptTail e (.Slice lo hi none p2) v (.ref a.heap.objs.size)) (EP X pins σ Q) X.xe { a with heap:=a.heap.push { cls:=.type "slice",data:=.fields #[d,c,.none] } }
 exact tail_any (ops:=[.ref a.heap.objs.size,v]) y m n (by with_unfolding_all rfl)
def cutV (xs:List V) (lo hi:Option Int):List V:=(xs.drop (HT.sIx xs.length 0 lo)).take (HT.sIx xs.length xs.length hi - HT.sIx xs.length 0 lo)
theorem anw (xs:List V) (lo hi:Option Int):(cutV xs lo hi).length<=xs.length:=by
 unfold cutV
 rw [aG3,List.length_drop]
 omega
def rLtT (K:Frag):R2:=fun x y H Q=>∃ a b ns ms,x=.ref a/\y=.ref b/\SqT K H a (ns.map V.int)/\SqT K H b (ms.map V.int)/\Q (.bl (HT.lexLt ns ms)) H
theorem azc (l:X.A.units < cLine):OpR X (compareOp .Lt) (rLtT X.K):=by
 intro pins s σ H x y v u Q I j o h
 obtain ⟨a,b,ns,d,rfl,rfl,ha,hb,q⟩:=h
 cases j
 cases o
 obtain ⟨its,g,n,_⟩:=I.tuple ha
 obtain ⟨c,i,p2,_⟩:=I.tuple hb
 have m:IntsAre its.toArray.toList ns:=ab3 g
 have f:IntsAre c.toArray.toList d:=ab3 i
 exact HT.lt_tupInts n p2 m f l ⟨.bl (HT.lexLt ns d),H,I,rfl,q⟩
end
def ixN (n:Nat) (i:Int):Option Nat:=if 0<=i then (if i < n then some i.toNat else none) else if -(n:Int)<=i then some (i+n).toNat else none
def atI {α:Type} (xs:List α) (i:Int):Option α:=(ixN xs.length i).bind fun j=>xs[j]?
theorem aof {n:Nat} {i:Int} {j:Nat} (h:ixN n i=some j):seqIndex? i n=some j/\j < n/\-(n:Int)<=i/\i < n:=by
 unfold ixN at h
 by_cases h0:0<=i
 ·rw [aE8 h0] at h
  by_cases h1:i < n
  ·rw [aE8 h1] at h
   have e:i.toNat=j:=aC5 h
   exact ⟨by rw [seqIndex_of h0 h1,e],by omega,by omega,h1⟩
  ·rw [aE9 h1] at h;cases h
 ·rw [aE9 h0] at h
  by_cases h1 : -(n:Int)<=i
  ·rw [aE8 h1] at h
   have e:(i+n).toNat=j:=aC5 h
   exact ⟨by rw [seqIndex_neg (by omega) h1,e],by omega,h1,by omega⟩
  ·rw [aE9 h1] at h;cases h
theorem aog {α:Type} {xs:List α} {i:Int} {v : α} (h:atI xs i=some v):∃ j,seqIndex? i xs.length=some j/\xs[j]?=some v/\j < xs.length/\-(xs.length:Int)<=i/\i < xs.length:=by
 unfold atI at h
 cases e:ixN xs.length i with
 | none=>rw [e] at h;cases h
 | some j =>
  rw [e] at h
  obtain ⟨d,a,c,b⟩:=aof e
  exact ⟨j,d,h,a,c,b⟩
theorem ad6 {α:Type} {xs:List α} {j:Nat} {v : α} (h:xs[j]?=some v):atI xs (j:Int)=some v:=by
 have a:j < xs.length:=(aA1.mp h).1
 have e:ixN xs.length (j:Int)=some j:=by
  unfold ixN
  rw [aE8 (by omega),aE8 (by omega)];simp
 unfold atI;rw [e];exact h
def awv (b:Expr):Prop:=∀ o i,subscripted b false o i=operate [o,i] (getItem o i)
def IxR (X:Cx) (r:R2):Prop :=
 ∀ (value slice:Expr) (pins:List (Addr × Obj)) (s:Shared) (σ:St) (H:Hp) (x y:V) (v u:Value) (Q:VK),Inv X pins σ H s->RelV x v->RelV y u->r x y H Q ->
  subscripted slice false v u=operate [v,u] (getItem v u)->wpAny (model X.prog X.w) X.A (subscriptTail value slice v u) (EP X pins σ Q) X.xe s
def MtR (X:Cx) (id:String) (r:V->List V->Hp->VK->Prop):Prop :=
 ∀ (pins:List (Addr × Obj)) (s:Shared) (σ:St) (H:Hp) (x:V) (xs:List V) (v:Value) (us:List Value) (Q:VK),Inv X pins σ H s->RelV x v->Vals xs us->r x xs H Q ->
  wpAny (model X.prog X.w) X.A (call (.builtin id) (v :: us)) (EP X pins σ Q) X.xe s
section
variable {X:Cx} {a b:Expr} {ta tb:TE} {pos:Pos}
theorem IxR.or {r f:R2} (h:IxR X r) (h':IxR X f):IxR X (fun x y H Q=>r x y H Q\/f x y H Q):=by
 intro a b pins s σ H x y v u Q I d g q c
 rcases q with q | q
 ·exact h a b pins s σ H x y v u Q I d g q c
 ·exact h' a b pins s σ H x y v u Q I d g q c
theorem aan {r:R2} (f:IxR X r) (ha:PE X a ta) (hb:PE X b tb) (c:awv b):PE X (.Subscript a b pos) (tOp r ta tb):=by
 intro pins s σ H Q I h
 exact Subscript_ (binT ha hb I h fun v u s2 x y H2 i d g q=>f a b pins s2 σ H2 x y v u Q i d g q (c _ _))
def rIxL (K:Frag):R2:=fun x y H Q=>∃ p xs i v,x=.ref p/\y=.int i/\SqL K H p xs/\atI xs i=some v/\Q v H
def rIxT (K:Frag):R2:=fun x y H Q=>∃ p xs i v,x=.ref p/\y=.int i/\SqT K H p xs/\atI xs i=some v/\Q v H
theorem ix_list:IxR X (rIxL X.K):=by
 intro b f pins s σ H x y v u Q I m F h g
 obtain ⟨p,xs,i,z,rfl,rfl,o,C,q⟩:=h
 cases m
 obtain ⟨t,rfl⟩:=F
 obtain ⟨its,r,pl,hz⟩:=I.list o
 obtain ⟨j,a,n,G,A,B⟩:=aog C
 obtain ⟨w,l,d⟩:=r.get n
 have E:=r.length
 have hn:=agf
 have fin:EP X pins σ Q w s:=⟨z,H,I,d,q⟩
 by_cases h0:0<=i
 ·have c:i.toNat=j:=by
   rw [seqIndex_of h0 B] at a
   exact aC5 a
  exact item_listR pl.isList h0 (by omega) (by rw [c];simpa using l) fin g
 ·have c:(i+(its.toArray.size:Int)).toNat=j:=by
   rw [seqIndex_neg (by omega) A] at a
   rw [aB1,← E]
   exact aC5 a
  exact subscriptTail_builtinR (x:=w) pl.isList.typeIs slot_list_getitem.lookup
   (wpAny_getItem_list_neg (Q:=fun r D=>r=w/\EP X pins σ Q r D) pl.isList (by omega) (by rw [aB1] <;> omega) (by omega) (by rw [c];simpa using l) ⟨rfl,fin⟩) g
theorem azd:IxR X (rIxT X.K):=by
 intro a c pins s σ H x y v u Q I f C h d
 obtain ⟨p,xs,i,z,rfl,rfl,m,o,q⟩:=h
 cases f
 obtain ⟨t,rfl⟩:=C
 obtain ⟨its,r,pl,hz⟩:=I.tuple m
 obtain ⟨j,g,l,F,D,E⟩:=aog o
 obtain ⟨w,n,b⟩:=r.get l
 have B:=r.length
 have hn:=agf
 have fin:EP X pins σ Q w s:=⟨z,H,I,b,q⟩
 exact subscriptTail_builtinR (x:=w) pl.typeIs slot_tuple_getitem.lookup
  (getItem_tuple (j:=j) (Q:=fun r A=>r=w/\EP X pins σ Q r A) pl (by omega) (by omega) (by rw [aB1,← B];exact g) (by simpa using n) ⟨rfl,fin⟩) d
theorem ap4 (its:List Value) (n j:Nat) (u:Value):Obj.mapSeq (·.setIfInBounds j u) { cls:=.type "list",data:=.seq its.toArray n }={ cls:=.type "list",data:=.seq (its.set j u).toArray n }:=by
 simp [Obj.mapSeq]
theorem Inv.lst {pins:List (Addr × Obj)} {σ:St} {H:Hp} {s:Shared} {p:Addr} {xs:List V} (I:Inv X pins σ H s) (h:H p=some (.lst xs)) :
  ∃ (its:List Value) (n:Nat),Vals xs its/\s.heap.get? p=some { cls:=.type "list",data:=.seq its.toArray n }/\xs.length<=sizeLine:=by
 obtain ⟨z,its,n,r,e⟩:=I.hok p _ h
 exact ⟨its,n,r,e,z⟩
theorem Inv.lstUpd {pins:List (Addr × Obj)} {σ:St} {H:Hp} {s:Shared} {p:Addr} {xs ys:List V} {its its':List Value} {n a:Nat} {f:Obj->Obj} (I:Inv X pins σ H s) (h:H p=some (.lst xs))
  (c:s.heap.get? p=some { cls:=.type "list",data:=.seq its.toArray n }) (hf:f { cls:=.type "list",data:=.seq its.toArray n }={ cls:=.type "list",data:=.seq its'.toArray a }) (r:Vals ys its') (hz:ys.length<=sizeLine) (t:Nat) :
  Inv X pins σ (upd H p (.lst ys)) { s with heap:=s.heap.update p f,toks:=t }:=by
 have e:(s.heap.update p f).get? p=some { cls:=.type "list",data:=.seq its'.toArray a }:=by
  rw [Heap.get?_update_self f c (by rw [hf] <;> rfl),hf]
 refine I.write (x:=p) (e:=p) (by rw [h];trivial) (.inl rfl) (fun b u hb q=>(Heap.get?_update_other _ _ (Ne.symm hb)).trans q) ⟨_,e⟩ ?_
 exact ⟨hz,its',a,r,e⟩
def ap5:V->V->V->Hp->(Hp->Prop)->Prop:=fun o i v H Q=>∃ p xs k j,o=.ref p/\i=.int k/\H p=some (.lst xs)/\ixN xs.length k=some j/\Q (upd H p (.lst (xs.set j v)))
theorem aek:PSet X ap5:=by
 intro pins s σ H o i v A B u Q I w y x h
 obtain ⟨p,xs,k,j,rfl,rfl,f,z,q⟩:=h
 cases w
 obtain ⟨t,rfl⟩:=y
 obtain ⟨its,n,r,c,hz⟩:=I.lst f
 obtain ⟨a,C,l,g⟩:=aof z
 have d:=r.length
 have hn:=agf
 have m:Inv X pins σ (upd H p (.lst (xs.set j v))) { s with heap:=s.heap.update p (Obj.mapSeq (·.setIfInBounds j u)) } :=
  I.lstUpd f c (ap4 its n j u) (r.set x j) (by rw [List.length_set];exact hz) s.toks
 by_cases h0:0<=k
 ·have b:k.toNat=j:=by
   rw [seqIndex_of h0 g] at a
   exact aC5 a
  exact PySem.W.ki_setAt c h0 (by omega) (by rw [aB1,← d];exact g) (by rw [b];exact ⟨_,m,q⟩)
 ·have b:(k+(its.toArray.size:Int)).toNat=j:=by
   rw [seqIndex_neg (by omega) l] at a
   rw [aB1,← d]
   exact aC5 a
  exact PySem.W.ki_setBack c (by omega) (by rw [aB1,← d];exact l) (by omega) (by rw [b];exact ⟨_,m,q⟩)
theorem alr (lo hi:Option Int) (n:Nat):(sliceBounds lo hi none n).1=((HT.sIx n 0 lo:Nat):Int)/\(sliceBounds lo hi none n).2.1=((HT.sIx n n hi:Nat):Int)/\(sliceBounds lo hi none n).2.2=1:=by
 refine ⟨?_,?_,rfl⟩
 ·cases lo with
  | none=>simp [sliceBounds,HT.sIx]
  | some i =>
   simp only [sliceBounds,HT.sIx,Option.getD_none,show (1:Int) > 0 by decide,if_true]
   by_cases h:i < 0
   ·simp only [h,if_true] <;> omega
   ·simp only [h,if_false] <;> omega
 ·cases hi with
  | none=>simp [sliceBounds,HT.sIx]
  | some i =>
   simp only [sliceBounds,HT.sIx,Option.getD_none,show (1:Int) > 0 by decide,if_true]
   by_cases h:i < 0
   ·simp only [h,if_true] <;> omega
   ·simp only [h,if_false] <;> omega
theorem akt (its:List Value) (lo hi:Option Int):slicePick its.toArray lo hi none=((its.drop (HT.sIx its.length 0 lo)).take (HT.sIx its.length its.length hi - HT.sIx its.length 0 lo)).toArray:=by
 obtain ⟨c,a,b⟩:=alr lo hi its.toArray.size
 unfold slicePick
 rw [c,a,b]
 simp only [sliceRange_one,pick_run,aB1] <;> rfl
def rSlL (K:Frag):V->Option Int->Option Int->Hp->VK->Prop:=fun x lo hi H Q=>∃ a xs,x=.ref a/\SqL K H a xs/\∀ p,H p=none->Q (.ref p) (upd H p (.lst (cutV xs lo hi)))
theorem aww:SlR X (rSlL X.K):=by
 intro pins s σ H x v m l lo hi sl Q I g f pl i h
 obtain ⟨a,xs,rfl,j,q⟩:=h
 cases g
 obtain ⟨its,r,d,hz⟩:=I.list j
 have c:=r.length
 refine ⟨"list",_,slot_list_getitem.lookup,d.isList.typeIs,?_⟩
 refine wpAny_getItem_list_slice d.isList f pl i .none (by simp) ?_ (by rw [aB1] <;> omega)
 rw [akt,← c]
 refine ⟨.ref s.heap.objs.size,_,I.laid (t':=s.toks) (o:=.lst (cutV xs lo hi)) (fun b n q=>aI3 _ q) (aA6 _) ?_,rfl,q _ (I.hok.fresh (aA6 _))⟩
 exact ⟨aC9 (anw xs lo hi) hz,_,0,(r.drop (HT.sIx xs.length 0 lo)).take (HT.sIx xs.length xs.length hi - HT.sIx xs.length 0 lo),aI5 _ rfl⟩
theorem als:abb X (.builtin "len") (fun xs H Q=>∃ p ys,xs=[.ref p]/\(SqL X.K H p ys\/SqT X.K H p ys)/\Q (.int ys.length) H):=by
 intro pins s σ H xs us Q I r h
 obtain ⟨p,ys,rfl,b,q⟩:=h
 obtain ⟨u,rfl,d⟩:=acm r
 cases d
 have hn:=agf
 rcases b with b | b
 ·obtain ⟨its,c,pl,hz⟩:=I.list b
  have a:=c.length
  exact Calls.call_len_list pl.isList (by simp only [aB1] <;> omega) ⟨.int ys.length,H,I.tok _,⟨s.toks+1,by rw [aB1,a]⟩,q⟩
 ·obtain ⟨its,c,pl,hz⟩:=I.tuple b
  have a:=c.length
  exact len_tuple pl (by simp only [aB1] <;> omega) ⟨.int ys.length,H,I.tok _,⟨s.toks+1,by rw [aB1,a]⟩,q⟩
theorem alt:abb X (.type "list") (fun xs H Q=>∃ p ys,xs=[.ref p]/\(SqL X.K H p ys\/SqT X.K H p ys)/\∀ l,H l=none->Q (.ref l) (upd H l (.lst ys))):=by
 intro pins s σ H xs us Q I r h
 obtain ⟨p,ys,rfl,f,q⟩:=h
 obtain ⟨u,rfl,j⟩:=acm r
 cases j
 have fin:∀ (its:List Value),Vals ys its->ys.length<=sizeLine->∀ (h':Heap) (a:Nat),(∀ b o',s.heap.get? b=some o'->h'.get? b=some o') ->
   h'.get? s.heap.objs.size=some { cls:=.type "list",dict:=none,data:=.seq its.toArray a,slots:=#[] }->EP X pins σ Q (.ref s.heap.objs.size) { s with heap:=h' }:=fun its c hz h' a kp e =>
  ⟨.ref s.heap.objs.size,_,I.laid (t':=s.toks) kp (aA6 _) (show ObjOk X.prog X.w _ h' _ (.lst ys) from ⟨hz,its,a,c,e⟩),rfl,q _ (I.hok.fresh (aA6 _))⟩
 rcases f with f | f
 ·obtain ⟨its,c,pl,hz⟩:=I.list f
  have d:=c.length
  obtain ⟨o,i,g,n,hd⟩:=pl.isList
  exact call_list_seq p (.inl rfl) i g hd (fun h' a kp e=>fin its c hz h' a kp e) (by simp only [aB1] <;> omega)
 ·obtain ⟨its,c,pl,hz⟩:=I.tuple f
  have d:=c.length
  obtain ⟨o,i,g,n,hd⟩:=pl
  exact call_list_seq p (.inr rfl) i g hd (fun h' a kp e=>fin its c hz h' a kp e) (by simp only [aB1] <;> omega)
def tyV (K:Frag) (T:String) (x:V) (H:Hp):Prop:=match x with
 | .str _=>T = "str"
 | .int _=>T = "int"
 | .ref p=>(T = "list"/\∃ xs,SqL K H p xs)\/(T = "tuple"/\∃ o,K.lookup p=some o/\o.cls=.type "tuple"/\o.dict=none) ∨
   (T = "dict"/\((∃ kvs,H p=some (.dK kvs))\/∃ kvs,H p=some (.dT kvs)))\/(T = "set"/\∃ S n,H p=some (.set S n))
 | _=>False
theorem ark {pins:List (Addr × Obj)} {σ:St} {H:Hp} {s:Shared} {T:String} {x:V} {v:Value} (I:Inv X pins σ H s) (r:RelV x v) (ty:tyV X.K T x H) :
  s.TypeIs v T/\∀ a,v=.ref a->∃ d,s.heap.get? a=some d/\d.dict=none:=by
 cases x with
 | str z =>
  obtain ⟨t,rfl⟩:=r
  cases (show T = "str" from ty)
  exact ⟨typeIs_str s z t,fun _ e=>nomatch e⟩
 | int i =>
  obtain ⟨t,rfl⟩:=r
  cases (show T = "int" from ty)
  exact ⟨typeIs_int s i t,fun _ e=>nomatch e⟩
 | ref p =>
  cases r
  rcases ty with ⟨rfl,xs,g⟩ | ⟨rfl,o,b,f,hd⟩ | ⟨rfl,b⟩ | ⟨rfl,S,n,b⟩
  ·obtain ⟨its,_,pl,_⟩:=I.list g
   refine ⟨pl.isList.typeIs,fun a e=>?_⟩
   cases e
   obtain ⟨o,n,e,c,hd,_⟩:=pl
   exact ⟨o,e,hd⟩
  ·refine ⟨⟨o,I.kIn p o b,f⟩,fun a e=>?_⟩
   cases e
   exact ⟨o,I.kIn _ o b,hd⟩
  ·have z:∃ o,s.heap.get? p=some o/\o.ExactDict:=by
    rcases b with ⟨kvs,b⟩ | ⟨kvs,b⟩
    ·obtain ⟨_,_,_,_,o,_,_,e,ex,_⟩:=I.hok p _ b
     exact ⟨o,e,ex⟩
    ·obtain ⟨_,_,_,_,o,_,_,e,ex,_⟩:=I.hok p _ b
     exact ⟨o,e,ex⟩
   obtain ⟨o,e,ex⟩:=z
   refine ⟨⟨o,e,ex.1⟩,fun a e2=>?_⟩
   cases e2
   exact ⟨o,e,ex.2.1⟩
  ·obtain ⟨o,_,_,_,e,ex,_⟩:=I.hok p _ b
   refine ⟨⟨o,e,ex.1⟩,fun a e2=>?_⟩
   cases e2
   exact ⟨o,e,ex.2.1⟩
 | _=>exact False.elim ty
def tBM0 (K:Frag) (T:String) (r:V->List V->Hp->VK->Prop) (to:TE):TE:=fun σ H Q=>to σ H fun x H1=>tyV K T x H1/\r x [] H1 Q
def tBM (K:Frag) (T:String) (r:V->List V->Hp->VK->Prop) (to:TE) (t:TA):TE:=fun σ H Q=>to σ H fun x H1=>tyV K T x H1/\t σ H1 fun xs H2=>r x xs H2 Q
variable {o e:Expr} {es:List Expr} {to:TE} {t:TA} {name:Str} {apos cpos:Pos} {T id:String} {r:V->List V->Hp->VK->Prop}
theorem arl (n:PlainAttrs T) (slot:Slot T name id) (c:typeOf (.builtin id)=pure (.type "method_descriptor")) (hm:MtR X id r) (j:PE X o to)
  (a:attributeBase o name X.env (eval o X.env)=eval o X.env:=by rfl) (b:(apos.endLine == cpos.line)=true:=by rfl):PE X (.Call (.Attribute o name apos) [] [] cpos) (tBM0 X.K T r to):=by
 intro pins s σ H Q I h
 refine wpAny_Call_method0_late a b (thn (j pins s σ H _ I h) fun v s1 ⟨x,l,f,d,ty,m⟩=>?_)
 obtain ⟨g,i⟩:=ark f d ty
 exact ⟨T,id,n,slot,c,g,i,Calls.callWith_builtin rfl (PySem.evalArgs_none (hm pins s1 σ l x [] v [] Q f d .nil m))⟩
theorem acn (A:PlainAttrs T) (slot:Slot T name id) (g:typeOf (.builtin id)=pure (.type "method_descriptor")) (hm:MtR X id r) (w:PE X o to) (ha:PA X (e :: es) t)
  (c:attributeBase o name X.env (eval o X.env)=eval o X.env:=by rfl)
  (f:((backTo cpos (starEach (e :: es) X.env)).all (fun x => !x.1) && (backToKw cpos (keywordEach [] X.env)).all (fun x=>x.1.isSome)
   && decide ((e :: es).length+([]:List Keyword).length+(if ([]:List Keyword).isEmpty then 0 else 1) < 30))=true:=by rfl)
  (d:(apos.endLine == cpos.line)=true:=by rfl) (m:starEach (e :: es) X.env=(false,eval e X.env) :: starEach es X.env:=by rfl) (b:(backTo cpos (starEach es X.env)).any (·.1)=false:=by rfl) :
  PE X (.Call (.Attribute o name apos) (e :: es) [] cpos) (tBM X.K T r to t):=by
 intro pins s σ H Q I h
 refine wpAny_Call_method_late c f d rfl (thn (w pins s σ H _ I h) fun v s1 ⟨x,y,j,i,ty,z⟩=>?_)
 obtain ⟨p,q⟩:=ark j i ty
 refine ⟨T,id,A,slot,g,p,q,?_⟩
 have l:=ha cpos pins s1 σ y _ j z
 rw [m] at l ⊢
 refine Calls.callWith_builtin (by show (false || (backTo cpos (starEach es X.env)).any (·.1))=false;rw [b] <;> rfl) (Calls.evalArgs_plain ?_)
 exact thn l fun us s2 ⟨vs,H2,B,n,u⟩=>hm pins s2 σ H2 x vs v us Q B i n u
/- xs.append(e), list.index on a module's tuple .. are MtR facts of 06m -/
end
def MtM (X:Cx) (id:String) (r:V->List V->Hp->VK->Prop):Prop :=
 ∀ (pins:List (Addr × Obj)) (s:Shared) (σ:St) (H:Hp) (x:V) (xs:List V) (v:Value) (us:List Value) (Q:VK),Inv X pins σ H s->RelV x v->Vals xs us->r x xs H Q ->
  wpAny (model X.prog X.w) X.A (call (.builtin id) (v :: us)) (EP X pins σ Q) X.xe s
theorem Vals.one:∀ {x:V} {us:List Value},Vals [x] us->∃ u,us=[u]/\RelV x u
 | _,_,.cons r .nil=>⟨_,rfl,r⟩
theorem Vals.zero:∀ {us:List Value},Vals [] us->us=[]
 | _,.nil=>rfl
theorem Vals.eraseIdx:∀ {xs:List V} {us:List Value} (i:Nat),Vals xs us->Vals (xs.eraseIdx i) (us.eraseIdx i)
 | _,_,_,.nil => .nil
 | _,_,0,.cons _ t=>t
 | _,_,i+1,.cons r t => .cons r (Vals.eraseIdx i t)
theorem Vals.reverse {xs:List V} {us:List Value} (h:Vals xs us):Vals xs.reverse us.reverse:=by
 induction h with
 | nil=>exact .nil
 | cons r t ih=>rw [List.reverse_cons,List.reverse_cons];exact Vals.append ih (.cons r .nil)
theorem Vals.rep {xs:List V} {us:List Value} (h:Vals xs us):∀ k:Nat,Vals (List.replicate k xs).flatten (List.replicate k us).flatten
 | 0 => .nil
 | k+1=>by
  rw [aG6,aG6,List.flatten_cons,List.flatten_cons]
  exact Vals.append h (Vals.rep h k)
theorem aj7 {α:Type}:∀ (l:List α) (i:Nat),(l.eraseIdx i).length<=l.length
 | [],_=>aA6 _
 | _ :: _,0=>Nat.le_succ _
 | _ :: r,i+1=>Nat.succ_le_succ (aj7 r i)
theorem aj8 (its:List Value):∀ (k:Nat) (a:List Value),
  List.foldl (fun b c=>b ++ c) a.toArray (List.replicate k its.toArray)=(a ++ (List.replicate k its).flatten).toArray
 | 0,a=>by simp
 | k+1,a=>by
  have e:a.toArray ++ its.toArray=(a ++ its).toArray:=by simp
  have e2:(a ++ its) ++ (List.replicate k its).flatten=a ++ (List.replicate (k+1) its).flatten:=by
   rw [aG6,List.flatten_cons,aB3]
  rw [← e2,← aj8 its k (a ++ its),← e,aG6,List.foldl_cons]
section
variable {X:Cx} {pins:List (Addr × Obj)} {σ:St} {H:Hp} {s:Shared} {l b:Addr} {xs ys zs:List V}
theorem Inv.lset {its its':List Value} {n:Nat} {f:Array Value->Array Value} {t':Nat} (I:Inv X pins σ H s) (c:H l=some (.lst xs))
  (e:s.heap.get? l=some { cls:=.type "list",data:=.seq its.toArray n }) (hf:f its.toArray=its'.toArray) (a:Vals ys its') (hz:ys.length<=sizeLine) :
  Inv X pins σ (upd H l (.lst ys)) { s with heap:=s.heap.update l (Obj.mapSeq f),toks:=t' }:=by
 have q:=PySem.IsL.update e f
 rw [hf] at q
 refine I.write (x:=l) (e:=l) (by rw [c];exact trivial) (.inl rfl) (fun d u hb b=>(Heap.get?_update_other s.heap (Obj.mapSeq f) (Ne.symm hb)).trans b) ⟨_,q⟩ ?_
 exact ⟨hz,its',_,a,q⟩
theorem Inv.lnew {its:List Value} {t':Nat} (I:Inv X pins σ H s) (a:Vals ys its) (hz:ys.length<=sizeLine) :
  Inv X pins σ (upd H s.heap.objs.size (.lst ys)) { s with heap:=s.heap.push { cls:=.type "list",data:=.seq its.toArray },toks:=t' } :=
 I.laid (fun _ _ q=>aI3 _ q) (aA6 _) ⟨hz,its,0,a,aI5 _ rfl⟩
theorem Inv.fresh (I:Inv X pins σ H s):H s.heap.objs.size=none:=I.hok.fresh (aA6 _)
theorem Inv.lstM (I:Inv X pins σ H s) (a:H l=some (.lst xs)):xs.length<=sizeLine/\∃ (its:List Value) (n:Nat),Vals xs its/\xs.length=its.length/\s.heap.get? l=some { cls:=.type "list",data:=.seq its.toArray n }:=by
 obtain ⟨z,its,n,r,e⟩:=I.hok l _ a
 exact ⟨z,its,n,r,r.length,e⟩
theorem alu {n:Nat} (h:n<=sizeLine):Builtin.List.listTooLong n=false:=by
 unfold Builtin.List.listTooLong
 exact aD5 (by omega)
end
section
variable {X:Cx}
def ad7:V->List V->Hp->VK->Prop:=fun x vs H Q=>∃ l xs y,x=.ref l/\vs=[y]/\H l=some (.lst xs)/\xs.length < sizeLine/\Q .non (upd H l (.lst (xs ++ [y])))
theorem abu:MtM X "list.append" ad7:=by
 intro pins s σ H x vs v us Q I b d h
 obtain ⟨l,xs,y,rfl,rfl,a,hz,q⟩:=h
 cases b
 obtain ⟨u,rfl,c⟩:=d.one
 obtain ⟨z,its,n,r,f,e⟩:=I.lstM a
 refine call_meets F.slot_list_append ⟨_,e,rfl⟩ F.entry_list_append (F.args_list_append_2 _ _) (PySem.list_append l its.toArray n u (by rw [aB1];omega)) ⟨e,?_⟩
 refine ⟨.non,_,I.lset (its':=its ++ [u]) a e (by simp) (r.append (.cons c .nil)) ?_,rfl,q⟩
 rw [aB0,List.length_singleton]
 omega
def aja:V->List V->Hp->VK->Prop:=fun x vs H Q=>∃ l b xs zs,x=.ref l/\vs=[.ref b]/\H l=some (.lst xs)/\H b=some (.lst zs)/\xs.length+zs.length<=sizeLine/\Q .non (upd H l (.lst (xs ++ zs)))
theorem arm:MtM X "list.extend" aja:=by
 intro pins s σ H x vs v us Q I g o h
 obtain ⟨l,b,xs,y,rfl,rfl,d,p,hz,q⟩:=h
 cases g
 obtain ⟨u,rfl,m⟩:=o.one
 cases m
 obtain ⟨z,its,n,r,w,e⟩:=I.lstM d
 obtain ⟨A,a,i,f,j,e2⟩:=I.lstM p
 have hsz:its.toArray.size+a.toArray.size<=sizeLine:=by rw [aB1,aB1];omega
 have c:¬ (!its.toArray.isEmpty && Builtin.List.listTooLong (its.toArray.size+a.toArray.size))=true:=by
  rw [alu hsz,Bool.and_false]
  exact aA9
 refine call_meets F.slot_list_extend ⟨_,e,rfl⟩ F.entry_list_extend (F.args_list_extend_2 _ _)
  (AutoSeq1.list_extend_list_list_0 l its.toArray n b a.toArray i c (by rw [aB1];omega) (by omega)) ⟨e,e2,?_⟩
 refine ⟨.non,_,I.lset (its':=its ++ a) d e (by simp) (r.append f) ?_,rfl,q⟩
 rw [aB0]
 omega
def alv:V->List V->Hp->VK->Prop:=fun x vs H Q=>∃ l xs i k y,x=.ref l/\vs=[.int i]/\H l=some (.lst xs)/\-(2 ^ 63)<=i/\i < 2 ^ 63/\seqIndex? i xs.length=some k/\xs[k]?=some y/\Q y (upd H l (.lst (xs.eraseIdx k)))
theorem atx:MtM X "list.pop" alv:=by
 intro pins s σ H x vs v us Q I d o h
 obtain ⟨l,xs,i,k,y,rfl,rfl,b,f,g,c,p,q⟩:=h
 cases d
 obtain ⟨u,rfl,m⟩:=o.one
 obtain ⟨t,rfl⟩:=m
 obtain ⟨z,its,n,r,A,e⟩:=I.lstM b
 obtain ⟨w,j,a⟩:=r.get p
 refine call_meets F.slot_list_pop ⟨_,e,rfl⟩ F.entry_list_pop (F.args_list_pop_2 _ _)
  (MeetsSeq.list_pop_at l its.toArray n i t k w (fitsIndex_both f g) (by rw [aB1,← A];exact c) (by rw [← aD4];exact j) (by rw [aB1];omega)) ⟨e,?_⟩
 refine ⟨y,_,I.lset (its':=its.eraseIdx k) b e ?_ (r.eraseIdx k) ?_,a,q⟩
 ·show its.toArray.eraseIdxIfInBounds k=(its.eraseIdx k).toArray
  rw [List.eraseIdxIfInBounds_toArray]
 ·have:=aj7 xs k
  omega
def alw:V->List V->Hp->VK->Prop:=fun x vs H Q=>∃ l xs,x=.ref l/\vs=[]/\H l=some (.lst xs)/\Q .non (upd H l (.lst []))
theorem alx:MtM X "list.clear" alw:=by
 intro pins s σ H x vs v us Q I c d h
 obtain ⟨l,xs,rfl,rfl,b,q⟩:=h
 cases c
 have a:=d.zero
 subst a
 obtain ⟨z,its,n,r,f,e⟩:=I.lstM b
 refine call_meets F.slot_list_clear ⟨_,e,rfl⟩ F.entry_list_clear (F.args_list_clear_1 _) (AutoSeq1.list_clear_list_0 l its.toArray n (by rw [aB1];omega)) ⟨e,?_⟩
 exact ⟨.non,_,I.lset (its':=[]) (ys:=[]) b e rfl .nil (aF3 _),rfl,q⟩
def rCat:R2:=fun x y H Q=>∃ l b xs zs,x=.ref l/\y=.ref b/\H l=some (.lst xs)/\H b=some (.lst zs)/\xs.length+zs.length<=sizeLine/\∀ p,H p=none->Q (.ref p) (upd H p (.lst (xs ++ zs)))
theorem aib:OpR X (binaryOp .Add) rCat:=by
 intro pins s σ H x y v u Q I d m h
 obtain ⟨l,b,xs,p,rfl,rfl,i,j,hz,q⟩:=h
 cases d
 cases m
 obtain ⟨z,its,n,r,A,e⟩:=I.lstM i
 obtain ⟨w,a,o,c,g,e2⟩:=I.lstM j
 refine PySem.P.add_list e e2 ?_ (by rw [aB1,aB1];omega)
 have f:its.toArray ++ a.toArray=(its ++ a).toArray:=by simp
 rw [f]
 exact ⟨.ref _,_,I.lnew (t':=s.toks) (r.append c) (by rw [aB0];omega),rfl,q _ I.fresh⟩
def rRep:R2:=fun x y H Q=>∃ l k xs,x=.ref l/\y=.int k/\H l=some (.lst xs)/\-(2 ^ 63)<=k/\k < 2 ^ 63/\xs.length * k.toNat<=sizeLine /\
 ∀ p,H p=none->Q (.ref p) (upd H p (.lst (List.replicate k.toNat xs).flatten))
theorem aoh {α:Type} (xs:List α) (k:Nat):(List.replicate k xs).flatten.length=k * xs.length:=by
 induction k with
 | zero=>simp
 | succ k ih=>rw [aG6,List.flatten_cons,aB0,ih,Nat.succ_mul,Nat.add_comm]
theorem aze:OpR X (binaryOp .Mult) rRep:=by
 intro pins s σ H x y v u Q I o E h
 obtain ⟨l,k,xs,rfl,rfl,A,p,w,hz,q⟩:=h
 cases o
 obtain ⟨t,rfl⟩:=E
 obtain ⟨z,its,n,r,B,e⟩:=I.lstM A
 have c:its.toArray.size * k.toNat<=sizeLine:=by rw [aB1,← B];exact hz
 have g:¬ its.toArray.size * k.toNat > (2 ^ 63 - 1) / 8:=by
  have:(sizeLine:Nat)<=(2 ^ 63 - 1) / 8:=by decide
  omega
 have d:¬ (!Builtin.List.listFitsIndex k)=true:=by
  rw [fitsIndex_both p w]
  exact aA9
 have b:¬ Builtin.List.listTooLong (its.toArray.size * k.toNat)=true:=by
  rw [alu c]
  exact aA9
 have f:List.foldl (fun i j=>i ++ j) #[] (List.replicate (if its.toArray.isEmpty=true then 0 else k.toNat) its.toArray)=(List.replicate k.toNat its).flatten.toArray:=by
  have C:∀ m:Nat,List.foldl (fun i j=>i ++ j) #[] (List.replicate m its.toArray)=(List.replicate m its).flatten.toArray:=fun m=>by
   have:=aj8 its m []
   rw [List.nil_append] at this
   exact this
  rw [C]
  cases its with
  | nil=>simp
  | cons a r'=>rw [aE9 (by simp)]
 refine wpAny_binaryOp_repeat_ref (T:="list") (U:="int") (by decide) ⟨_,e,rfl⟩ (fun D=>typeIs_int D k t) noFill_list_mul F.fills_int_mul F.slot_int_rmul repeat_list F.slot_int_index.lookup
  (call_meets F.slot_int_rmul (typeIs_int s k t) F.entry_int_rmul (F.args_int_rmul_2 _ _) (int___rmul___int_list k t l its.toArray n)
   ⟨e,rfl,⟨_,e,rfl⟩,call_meets F.slot_list_mul ⟨_,e,rfl⟩ F.entry_list_mul (F.args_list_mul_2 _ _) (AutoListH.list___mul___list_int_3 l its.toArray n k t d g b) ⟨e,?_⟩⟩)
 rw [f]
 exact ⟨.ref _,_,I.lnew (t':=s.toks) (r.rep k.toNat) (by rw [aoh,Nat.mul_comm];exact hz),rfl,q _ I.fresh⟩
end
section
variable {prog:Program} {w:World} {A:Around} {E:Value->Shared->Prop} {s:Shared}
end
section
variable {X:Cx}
end
section
variable {κ:Type} [DecidableEq κ]
def valV (kvs:List (κ × V)) (k : κ):Option V:=(kvs.find? fun kv=>decide (kv.1=k)).map (·.2)
def putK (kvs:List (κ × V)) (k : κ) (v:V):List (κ × V) :=
 if (kvs.any fun kv=>decide (kv.1=k))=true then kvs.map (fun kv=>if kv.1=k then (kv.1,v) else kv) else kvs ++ [(k,v)]
def av5 (kvs:List (κ × V)) (k : κ):List (κ × V):=kvs.filter fun kv=>decide (kv.1 ≠ k)
theorem afl {p : κ × V} {r:List (κ × V)} {k : κ} (e:p.1=k):valV (p :: r) k=some p.2:=by simp [valV,List.find?_cons,e]
theorem afm {p : κ × V} {r:List (κ × V)} {k : κ} (e:¬ p.1=k):valV (p :: r) k=valV r k:=by simp [valV,List.find?_cons,e]
theorem aly (k : κ):∀ kvs:List (κ × V),(kvs.any fun a=>decide (a.1=k))=(valV kvs k).isSome
 | []=>rfl
 | p :: r=>by
  rw [List.any_cons]
  by_cases e:p.1=k
  ·simp only [afl e,aD6 e,Bool.true_or,Option.isSome_some]
  ·rw [afm e,aD5 e,Bool.false_or];exact aly k r
theorem ae5 (kvs:List (κ × V)) (k : κ) (v:V):(putK kvs k v).length<=kvs.length+1:=by
 unfold putK
 split
 ·rw [aA3];omega
 ·rw [aB0,aE0,aI0];omega
theorem RelO.isSome_eq {o:Option V} {u:Option Value} (r:RelO o u):o.isSome=u.isSome:=by
 cases o with
 | none=>cases u with
  | none=>rfl
  | some _=>exact (show False from r).elim
 | some _=>cases u with
  | none=>exact (show False from r).elim
  | some _=>rfl
theorem RelO.getD {o:Option V} {u:Option Value} {d:V} {d':Value} (r:RelO o u) (a:RelV d d'):RelV (o.getD d) (u.getD d'):=by
 cases o with
 | none=>cases u with
  | none=>exact a
  | some _=>exact (show False from r).elim
 | some _=>cases u with
  | none=>exact (show False from r).elim
  | some _=>exact r
theorem KV.val {kvs:List (κ × V)} {vs:List (κ × Value)} (r:KV kvs vs) (k : κ):RelO (valV kvs k) (valueAt vs k):=by
 unfold KV at r
 induction r with
 | nil=>exact True.intro
 | @cons p q ps qs h t ih =>
  obtain ⟨c,d⟩:=h
  by_cases e:p.1=k
  ·have a:q.1=k:=c.symm.trans e
   have b:valueAt (q :: qs) k=some q.2:=by simp [valueAt,List.find?_cons,a]
   rw [afl e,b];exact d
  ·have a:¬ q.1=k:=fun z=>e (c.trans z)
   have b:valueAt (q :: qs) k=valueAt qs k:=by simp [valueAt,List.find?_cons,a]
   rw [afm e,b];exact ih
theorem KV.any {kvs:List (κ × V)} {vs:List (κ × Value)} (r:KV kvs vs) (k : κ):(kvs.any fun a=>decide (a.1=k))=vs.any fun a=>decide (a.1=k):=by
 unfold KV at r
 induction r with
 | nil=>rfl
 | cons h t ih=>rw [List.any_cons,List.any_cons,ih,h.1]
theorem KV.repl {kvs:List (κ × V)} {vs:List (κ × Value)} (r:KV kvs vs) (k : κ) {y:V} {u:Value} (d:RelV y u) :
  KV (kvs.map fun a=>if a.1=k then (a.1,y) else a) (vs.map fun a=>if a.1=k then (a.1,u) else a):=by
 unfold KV at r ⊢
 induction r with
 | nil=>exact .nil
 | @cons p q ps qs h t ih =>
  rw [aD0,aD0]
  refine .cons ?_ ih
  obtain ⟨b,c⟩:=h
  by_cases e:p.1=k
  ·rw [aE8 e,aE8 (b.symm.trans e)];exact ⟨b,d⟩
  ·rw [aE9 e,aE9 (fun z=>e (b.trans z))];exact ⟨b,c⟩
theorem KV.put {kvs:List (κ × V)} {vs:List (κ × Value)} (r:KV kvs vs) (k : κ) {y:V} {u:Value} (a:RelV y u):KV (putK kvs k y) (stored vs k u):=by
 unfold putK stored
 rw [r.any k]
 by_cases e:(vs.any fun b=>decide (b.1=k))=true
 ·rw [aE8 e,aE8 e];exact r.repl k a
 ·rw [aE9 e,aE9 e];exact Paired.snoc r ⟨rfl,a⟩
theorem KV.drop {kvs:List (κ × V)} {vs:List (κ × Value)} (r:KV kvs vs) (k : κ):KV (av5 kvs k) (without vs k):=by
 unfold KV at r ⊢
 unfold av5 without
 induction r with
 | nil=>exact .nil
 | @cons p q ps qs h t ih =>
  obtain ⟨c,d⟩:=h
  rw [List.filter_cons,List.filter_cons]
  by_cases e:p.1=k
  ·have a:¬ decide (p.1 ≠ k)=true:=by simp [e]
   have b:¬ decide (q.1 ≠ k)=true:=by simp [c.symm.trans e]
   rw [aE9 a,aE9 b];exact ih
  ·have f:¬ q.1=k:=fun z=>e (c.trans z)
   have a:decide (p.1 ≠ k)=true:=by simp [e]
   have b:decide (q.1 ≠ k)=true:=by simp [f]
   rw [aE8 a,aE8 b];exact .cons ⟨c,d⟩ ih
theorem KV.length {kvs:List (κ × V)} {vs:List (κ × Value)} (r:KV kvs vs):kvs.length=vs.length:=Paired.length r
end
theorem agz {P:Program} {w:World} {k:Key} {u:Value} (r:RelV (kV k) u):(aa7 P w).is k u=true:=by
 cases k with
 | inl i=>obtain ⟨t,e⟩:=(show ∃ t,u=Value.int i t from r);subst e;exact ahh P w i t
 | inr x=>obtain ⟨t,e⟩:=(show ∃ t,u=Value.str x t from r);subst e;exact anv P w x t
theorem aj9 {P:Program} {w:World}:∀ {a:List Key} {us:List Value},Vals (a.map kV) us->ItemsAre (aa7 P w) a us
 | [],_,r=>by rw [List.map_nil] at r;cases r;exact .nil
 | k :: a,_,r=>by
  rw [aD0] at r
  cases r with
  | cons h t=>exact .cons (agz h) (aj9 t)
abbrev KT (H:Hp):List (List Key × V)->List (List Key × Addr × Value)->Prop:=Paired fun p q=>p.1=q.1/\H q.2.1=some (.tup (p.1.map kV))/\RelV p.2 q.2.2
theorem KT.val {H:Hp} {kvs:List (List Key × V)} {xs:List (List Key × Addr × Value)} (r:KT H kvs xs) (k:List Key):RelO (valV kvs k) ((atKey xs k).map (·.2)):=by
 induction r with
 | nil=>exact True.intro
 | @cons p q ps qs h t ih =>
  obtain ⟨c,_,d⟩:=h
  by_cases e:p.1=k
  ·have a:q.1=k:=c.symm.trans e
   have b:atKey (q :: qs) k=some q.2:=by simp [atKey,List.find?_cons,a]
   rw [afl e,b];exact d
  ·have a:¬ q.1=k:=fun z=>e (c.trans z)
   have b:atKey (q :: qs) k=atKey qs k:=by simp [atKey,List.find?_cons,a]
   rw [afm e,b];exact ih
theorem KT.repl {H:Hp} {kvs:List (List Key × V)} {xs:List (List Key × Addr × Value)} (r:KT H kvs xs) (k:List Key) {y:V} {u:Value} (f:RelV y u) :
  KT H (kvs.map fun b=>if b.1=k then (b.1,y) else b) (xs.map (putAt k u)):=by
 induction r with
 | nil=>exact .nil
 | @cons p q ps qs h t ih =>
  rw [aD0,aD0]
  refine .cons ?_ ih
  obtain ⟨a,c,d⟩:=h
  unfold putAt
  by_cases e:p.1=k
  ·rw [aE8 e,aE8 (a.symm.trans e)];exact ⟨a,c,f⟩
  ·rw [aE9 e,aE9 (fun z=>e (a.trans z))];exact ⟨a,c,d⟩
theorem KT.put {H:Hp} {kvs:List (List Key × V)} {xs:List (List Key × Addr × Value)} (r:KT H kvs xs) (k:List Key) {b:Addr} {y:V} {u:Value} (hb:H b=some (.tup (k.map kV))) (a:RelV y u) :
  KT H (putK kvs k y) (storedH xs k b u):=by
 have e:(kvs.any fun c=>decide (c.1=k))=(atKey xs k).isSome:=by
  rw [aly,(r.val k).isSome_eq,Option.isSome_map]
 unfold putK storedH
 rw [e]
 by_cases q:(atKey xs k).isSome=true
 ·rw [aE8 q,aE8 q];exact r.repl k a
 ·rw [aE9 q,aE9 q];exact Paired.snoc r ⟨rfl,hb,a⟩
theorem KT.keeps {H H':Hp} {kvs:List (List Key × V)} {xs:List (List Key × Addr × Value)} (r:KT H kvs xs) (a:∀ b ys,H b=some (.tup ys)->H' b=some (.tup ys)):KT H' kvs xs :=
 Paired.mapP r fun _ _ z=>⟨z.1,a _ _ z.2.1,z.2.2⟩
section
variable {P:Program} {w:World} {H:Hp} {h:Heap} {a:Addr}
theorem av6 {u:HO} (ok:HOk P w H h) (e:Rd H a u):ObjOk P w H h a u:=e.ok ok
theorem afn {kvs:List (Key × V)} (ok:HOk P w H h) (e:Rd H a (.dK kvs)):kvs.length<=sizeLine/\(a == sysModules)=false/\∃ vs,KV kvs vs/\h.DictOf (aa7 P w) a vs :=
 show ObjOk P w H h a (.dK kvs) from av6 ok e
theorem av7 {kvs:List (Key × V)} (ok:HOk P w H h) (e:H a=some (.dK kvs)):kvs.length<=sizeLine/\(a == sysModules)=false/\∃ vs,KV kvs vs/\h.DictOf (aa7 P w) a vs:=afn ok (.inl e)
theorem afa {b:List Key} (ok:HOk P w H h) (e:H a=some (.tup (b.map kV))):(tupleKind (aa7 P w)).is h b a:=by
 obtain ⟨_,its,r,o,f,c,n,d⟩:=(show ObjOk P w H h a (.tup (b.map kV)) from ok a _ e)
 exact ⟨o,its.toArray,n,f,c,d,by simpa using aj9 r⟩
theorem ag0 {kvs:List (List Key × V)} (ok:HOk P w H h) (e:Rd H a (.dT kvs)):kvs.length<=sizeLine/\(a == sysModules)=false /\
  ∃ xs,KT H kvs xs/\h.DictOfH (tupleKind (aa7 P w)) a xs:=by
 obtain ⟨z,y,xs,r,o,es,c,d,f,j,g,i⟩:=(show ObjOk P w H h a (.dT kvs) from av6 ok e)
 refine ⟨z,y,xs,r,o,es,c,d,f,j,g,fun x b=>?_,i⟩
 have all:∀ {l:List (List Key × V)} {m:List (List Key × Addr × Value)},KT H l m->∀ x∈m,(tupleKind (aa7 P w)).is h x.1 x.2.1:=by
  intro l m q
  induction q with
  | nil=>intro x b;exact nomatch b
  | @cons p q ps qs hq t ih =>
   intro x b
   rcases aA8.mp b with e | b
   ·subst e
    exact afa ok (by rw [← hq.1];exact hq.2.1)
   ·exact ih x b
 exact all r x b
theorem aic {kvs:List (List Key × V)} (ok:HOk P w H h) (e:H a=some (.dT kvs)):kvs.length<=sizeLine/\(a == sysModules)=false /\
  ∃ xs,KT H kvs xs/\h.DictOfH (tupleKind (aa7 P w)) a xs:=ag0 ok (.inl e)
end
def DGet (H:Hp) (a:Addr) (y:V) (r:Option V):Prop :=
 (∃ kvs k,Rd H a (.dK kvs)/\y=kV k/\r=valV kvs k)\/∃ kvs k b,Rd H a (.dT kvs)/\y=.ref b/\H b=some (.tup (k.map kV))/\r=valV kvs k
def DPut (H:Hp) (a:Addr) (y v:V) (H':Hp):Prop :=
 (∃ kvs k,H a=some (.dK kvs)/\y=kV k/\kvs.length < sizeLine/\H'=upd H a (.dK (putK kvs k v))) ∨
 ∃ kvs k b,H a=some (.dT kvs)/\y=.ref b/\H b=some (.tup (k.map kV))/\kvs.length < sizeLine/\H'=upd H a (.dT (putK kvs k v))
theorem DGet.k {H:Hp} {a:Addr} {kvs:List (Key × V)} {k:Key} (e:H a=some (.dK kvs)):DGet H a (kV k) (valV kvs k):=.inl ⟨kvs,k,.inl e,rfl,rfl⟩
theorem DGet.t {H:Hp} {a b:Addr} {kvs:List (List Key × V)} {k:List Key} (e:H a=some (.dT kvs)) (c:H b=some (.tup (k.map kV))):DGet H a (.ref b) (valV kvs k):=.inr ⟨kvs,k,b,.inl e,rfl,c,rfl⟩
theorem DPut.k {H:Hp} {a:Addr} {kvs:List (Key × V)} {k:Key} {v:V} (e:H a=some (.dK kvs)) (b:kvs.length < sizeLine):DPut H a (kV k) v (upd H a (.dK (putK kvs k v))):=.inl ⟨kvs,k,e,rfl,b,rfl⟩
theorem DPut.t {H:Hp} {a b:Addr} {kvs:List (List Key × V)} {k:List Key} {v:V} (e:H a=some (.dT kvs)) (d:H b=some (.tup (k.map kV))) (c:kvs.length < sizeLine) :
  DPut H a (.ref b) v (upd H a (.dT (putK kvs k v))):=.inr ⟨kvs,k,b,e,rfl,d,c,rfl⟩
section
variable {X:Cx} {pins:List (Addr × Obj)} {σ:St} {H:Hp} {s:Shared} {a:Addr} {y v:V} {u r:Value} {o:Option V} {A:Around} {E:Value->Shared->Prop}
theorem Inv.big (I:Inv X pins σ H s):sysModules < s.heap.objs.size:=by
 have h:mainGlobals < s.heap.objs.size:=(I.mod.glob.keeps I.bk).lt
 exact Nat.lt_trans (by decide) h
theorem arn {Q:Value->Shared->Prop} (x:A.units+1 < cLine) (I:Inv X pins σ H s) (g:DGet H a y (some v)) (q:RelV y u) (h:∀ f n,Inv X pins σ H n->RelV v f->Q f n) :
  wpAny (model X.prog X.w) A (getItem (.ref a) u) Q E s:=by
 rcases g with ⟨kvs,k,e,m,l⟩ | ⟨kvs,k,b,e,m,B,l⟩
 ·subst m
  obtain ⟨z,hd,vs,c,dd⟩:=afn I.hok e
  obtain ⟨f,j,d⟩:=RelO.some_of (v:=v) (o:=valueAt vs k) (by rw [l];exact c.val k)
  exact wpAny_getItem_of (agz q) dd.mapOf j (h f _ (I.tok _) d)
 ·subst m
  cases (show u=Value.ref b from q)
  obtain ⟨z,hd,xs,c,dd⟩:=ag0 I.hok e
  obtain ⟨f,j,d⟩:=RelO.some_of (v:=v) (o:=(atKey xs k).map (·.2)) (by rw [l];exact c.val k)
  obtain ⟨p,r,i⟩:=Option.map_eq_some_iff.mp j
  refine wpAny_getItem_heap (tupleKind_room_in1 x) (afa I.hok B) dd r ?_
  rw [i]
  exact h f _ (I.tok _) d
theorem awx {Q:Value->Shared->Prop} (j:A.units+1 < cLine) (I:Inv X pins σ H s) (g:DGet H a y o) (f:RelV y u) (h:∀ i,Inv X pins σ H i->Q (.bool (!o.isSome)) i) :
  wpAny (model X.prog X.w) A (compareOp .NotIn u (.ref a)) Q E s:=by
 rcases g with ⟨kvs,k,e,d,l⟩ | ⟨kvs,k,b,e,d,m,l⟩
 ·subst d
  obtain ⟨z,hd,vs,c,dd⟩:=afn I.hok e
  refine wpAny_notIn_of (agz f) hd dd.mapOf ?_
  rw [← (c.val k).isSome_eq,← l]
  exact h _ (I.tok _)
 ·subst d
  cases (show u=Value.ref b from f)
  obtain ⟨z,hd,xs,c,dd⟩:=ag0 I.hok e
  refine wpAny_notIn_heap (tupleKind_room_in1 j) (afa I.hok m) hd dd ?_
  have q:=(c.val k).isSome_eq
  rw [Option.isSome_map] at q
  rw [← q,← l]
  exact h _ (I.tok _)
theorem ag1 {h':Heap} {t':Nat} {c:HO} (I:Inv X pins σ H s) (f:Mut (H a)) (d:Heap.SameBut a s.heap h') (g:∃ q,h'.get? a=some q) (new:ObjOk X.prog X.w (upd H a c) h' a c) :
  Inv X pins σ (upd H a c) { s with heap:=h',toks:=t' } :=
 I.write (x:=a) (e:=a) f (.inl rfl) (fun b q hb z=>(d.2 b hb).trans z) g new
theorem aro {P:Program} {w:World} {H':Hp} {h':Heap} {kvs:List (Key × V)} {vs:List (Key × Value)} (z:kvs.length<=sizeLine) (hd:(a == sysModules)=false) (b:KV kvs vs) (dd:h'.DictOf (aa7 P w) a vs) :
  ObjOk P w H' h' a (.dK kvs):=⟨z,hd,vs,b,dd⟩
theorem arp {H':Hp} {Q:Unit->Shared->Prop} (J:A.units+1 < cLine) (I:Inv X pins σ H s) (g:DPut H a y v H') (D:RelV y u) (x:RelV v r) (h:∀ C,Inv X pins σ H' C->Q () C) :
  wpAny (model X.prog X.w) A (setItem (.ref a) u r) Q E s:=by
 rcases g with ⟨kvs,k,e,m,l,n⟩ | ⟨kvs,k,b,e,m,B,l,n⟩
 ·subst m n
  obtain ⟨z,hd,vs,d,dd⟩:=av7 I.hok e
  have hz:vs.length<=sizeLine:=by rw [← d.length];exact z
  have o:(putK kvs k v).length<=sizeLine:=by have:=ae5 kvs k v;omega
  refine wpAny_setItem_pairs (hsz:=hz) (agz D) dd fun h' f j=>h _ ?_
  have N:∃ q,h'.get? a=some q:=let ⟨q,_,_,i,_⟩:=f;⟨q,i⟩
  exact ag1 I (by rw [e];exact True.intro) j N (aro o hd (d.put k x) f)
 ·subst m n
  cases (show u=Value.ref b from D)
  obtain ⟨z,hd,xs,d,dd⟩:=aic I.hok e
  have hz:xs.length<=sizeLine:=by rw [← Paired.length d];exact z
  have o:(putK kvs k v).length<=sizeLine:=by have:=ae5 kvs k v;omega
  refine wpAny_setItem_heap (hsz:=hz) (tupleKind_room_in1 J) (afa I.hok B) dd fun h' f j=>h _ ?_
  obtain ⟨q,es,F,i,G,M,K,_,L⟩:=f
  refine ag1 I (by rw [e];exact True.intro) j ⟨q,i⟩ ⟨o,hd,_,(d.put k B x).keeps fun c ys p=>?_,q,es,F,i,G,M,K,L⟩
  rw [aae (afj p e (fun z=>nomatch z))]
  exact p
end
section
variable {X:Cx} {pins:List (Addr × Obj)} {σ:St} {H:Hp} {s:Shared} {a:Addr} {kvs:List (Key × V)} {k:Key} {u:Value} {A:Around} {E:Value->Shared->Prop}
theorem a1g {Q:Value->Shared->Prop} (I:Inv X pins σ H s) (e:Rd H a (.dK kvs)) (h:∀ t c,Inv X pins σ H c->Q (.int kvs.length t) c):wpAny (model X.prog X.w) A (call (.builtin "len") [.ref a]) Q E s:=by
 obtain ⟨z,hd,vs,b,dd⟩:=afn I.hok e
 refine call_len_dict hd dd (by rw [← b.length];rw [sizeLine_eq] at z;omega) ?_
 rw [← b.length]
 exact h _ _ (I.tok _)
end
def NoSl (i:Expr):Prop:=∀ ov iv,subscripted i false ov iv=operate [ov,iv] (getItem ov iv)
theorem awy {prog:Program} {w:World} {A:Around} {E:Value->Shared->Prop} {s:Shared} {env:Env} {b a:Expr} {m:Pos} {T id:String} {Q:Value->Shared->Prop}
  (q:typeLookup (.type T) "__getitem__" = pure (some (.builtin id))) (p:NoSl a)
  (h:wpAny (model prog w) A (eval b env) (fun o g=>wpAny (model prog w) A (eval a env) (fun i c=>c.TypeIs o T/\wpAny (model prog w) A (getItem o i) Q E c) E g) E s) :
  wpAny (model prog w) A (eval (.Subscript b a m) env) Q E s:=by
 refine Subscript_ (aI8 h (fun o g l=>aI8 l (fun i c d=>?_) fun _ _ x=>x) fun _ _ x=>x)
 obtain ⟨n,d⟩:=d
 unfold subscriptTail
 refine aI1 ?_
 rw [getitemInPython_of_ne n.not_modules]
 refine aI1 (wpAny_specialOf n q ?_)
 have fin:wpAny (model prog w) A (subscripted a false o i) (fun r f=>wpAny (model prog w) A (letTemporaryGo b o r >>= fun _=>pure r) Q E f) E c:=by
  rw [p o i]
  exact wpAny_operating (aI8 d (fun r f j=>aI1 (wpAny_letTemporaryGo (aI2 j))) fun _ _ x=>x)
 first
  | exact aI2 (aI1 fin)
  | exact aI1 (aI2 (aI1 fin))
  | exact aI1 fin
theorem anx {X:Cx} {pins:List (Addr × Obj)} {σ:St} {H:Hp} {s:Shared} {a:Addr} {y:V} {o:Option V} (I:Inv X pins σ H s) (g:DGet H a y o):s.TypeIs (.ref a) "dict":=by
 rcases g with ⟨kvs,k,e,_,_⟩ | ⟨kvs,k,b,e,_,_,_⟩
 ·obtain ⟨_,_,vs,_,dd⟩:=afn I.hok e
  exact dd.typeIs
 ·obtain ⟨_,_,xs,_,dd⟩:=ag0 I.hok e
  exact dd.typeIs
def ak8 (td ty:TE):TE:=fun σ H Q=>td σ H fun x H1=>ty σ H1 fun y H2=>∃ a v,x=.ref a/\DGet H2 a y (some v)/\Q v H2
def ag2 (ty td:TE):TE:=fun σ H Q=>ty σ H fun y H1=>td σ H1 fun x H2=>∃ a o,x=.ref a/\DGet H2 a y o/\Q (.bl (!o.isSome)) H2
def aid (td ty tv:TE):TS:=fun D σ H=>tv σ H fun v H1=>td σ H1 fun x H2=>ty σ H2 fun y H3=>∃ a H4,x=.ref a/\DPut H3 a y v H4/\D.nx σ H4
section
variable {X:Cx} {o i e value:Expr} {pos pos' tpos:Pos} {td ty tv:TE}
theorem afb (m:X.A.units+1 < cLine) (n:PE X o td) (hi:PE X i ty) (d:NoSl i):PE X (.Subscript o i pos) (ak8 td ty):=by
 intro pins s σ H Q I h
 refine awy PySem.F.slot_dict_getitem.lookup d (thn (n pins s σ H _ I h) fun u s1 ⟨x,q,f,j,r⟩=>thn (hi pins s1 σ q _ f r) fun z s2 ⟨y,H2,c,w,a,v,ex,g,l⟩=>?_)
 subst ex
 obtain rfl:u=Value.ref a:=j
 exact ⟨anx c g,arn m c g w fun C B p b=>⟨v,H2,p,b,l⟩⟩
theorem arq (j:X.A.units+1 < cLine) (hi:PE X i ty) (l:PE X o td):PC X .NotIn i o (ag2 ty td):=by
 intro pins s σ H Q I h
 refine thn (hi pins s σ H _ I h) fun v s1 ⟨y,n,c,q,p⟩=>thn (l pins s1 σ n _ c p) fun u s2 ⟨x,H2,r,d,a,b,ex,g,f⟩=>?_
 subst ex
 obtain rfl:u=Value.ref a:=d
 exact awx j r g q fun w m=>⟨.bl (!b.isSome),H2,m,rfl,f⟩
theorem ag3 (n:X.A.units+1 < cLine) (q:PE X o td) (hi:PE X i ty) (l:PE X value tv) (c:swapsWith value (some (.Subscript o i pos')) pos.line X.env=pure false) :
  PS X (.Assign [.Subscript o i pos'] value pos) (aid td ty tv):=by
 intro pins s σ H D I h
 refine wpAny_Assign_Subscript (thn (l pins s σ H _ I h) fun r s1 ⟨v,B,f,p,C⟩=>thn (q pins s1 σ B _ f C) fun u s2 ⟨x,H2,F,j,m⟩=>thn (hi pins s2 σ H2 _ F m) fun G J ⟨y,H3,z,E,a,w,ex,g,b⟩=>?_) c
 subst ex
 obtain rfl:u=Value.ref a:=j
 exact arp n z g E p fun K d=>⟨σ,w,d,b⟩
end
theorem aty {P:Program} {w:World} {H:Hp} (h:Heap) (hb:sysModules < h.objs.size):ObjOk P w H (h.push { cls:=.type "dict",data:=.dict #[] }) h.objs.size (.dK []) :=
 ⟨aF3 _,beq_eq_false_iff_ne.mpr (Ne.symm (aB5 hb)),[],.nil,Heap.DictOf.new h⟩
theorem atz {P:Program} {w:World} {H:Hp} (h:Heap) (hb:sysModules < h.objs.size):ObjOk P w H (h.push { cls:=.type "dict",data:=.dict #[] }) h.objs.size (.dT []) :=
 ⟨aF3 _,beq_eq_false_iff_ne.mpr (Ne.symm (aB5 hb)),[],.nil,_,#[],0,aI5 _ rfl,⟨rfl,rfl,rfl⟩,rfl,rfl,List.nodup_nil⟩
def alz:TE:=fun _ H Q=>∀ p,H p=none->Q (.ref p) (upd H p (.dT []))
section
variable {X:Cx} {pos:Pos}
theorem al0:PE X (.Dict [] [] pos) alz:=fun pins s σ H Q I h =>
 wpAny_Dict_empty ⟨.ref s.heap.objs.size,_,I.laid (a:=s.heap.objs.size) (o:=.dT []) (t':=s.toks) (fun _ _ q=>aI3 _ q) (aA6 _) (atz s.heap I.big),rfl,h _ (I.hok.fresh (aA6 _))⟩
end
def al1:List (TE × TE)->St->Hp->(List (V × V)->Hp->Prop)->Prop
 | [],_,H,Q=>Q [] H
 | (tk,tv) :: r,σ,H,Q=>tk σ H fun x H1=>tv σ H1 fun y H2=>al1 r σ H2 fun ps H3=>Q ((x,y) :: ps) H3
abbrev VV:List (V × V)->List (Value × Value)->Prop:=Paired fun p q=>RelV p.1 q.1/\RelV p.2 q.2
def PPs (X:Cx) (pos:Pos) (keys:List (Option Expr)) (values:List Expr) (trs:List (TE × TE)):Prop :=
 ∀ (pins:List (Addr × Obj)) (s:Shared) (σ:St) (H:Hp) (Q:List (V × V)->Hp->Prop),Inv X pins σ H s->al1 trs σ H Q ->
  wpAny (model X.prog X.w) X.A (evalPairs (pairTrees keys values X.env pos)) (fun vs s'=>∃ ps H',Inv X pins σ H' s'/\VV ps vs/\Q ps H') X.xe s
theorem awz {X:Cx} {a:Pos}:PPs X a [] [] []:=fun pins s σ H Q I h=>pairTrees_nil_walk ⟨[],H,I,.nil,h⟩
theorem at3 {X:Cx} {a:Pos} {k v:Expr} {g:List (Option Expr)} {vs:List Expr} {f d:TE} {b:List (TE × TE)} (j:PE X k f) (n:PE X v d) (p:PPs X a g vs b) :
  PPs X a (some k :: g) (v :: vs) ((f,d) :: b):=fun pins s σ H Q I h =>
 pairTrees_cons_walk (thn (j pins s σ H _ I h) fun u s1 ⟨x,r,l,m,w⟩=>thn (n pins s1 σ r _ l w) fun B s2 ⟨y,H2,A,z,o⟩ =>
  thn (p pins s2 σ H2 _ A o) fun D C ⟨ps,H3,q,c,i⟩=>⟨(x,y) :: ps,H3,q,.cons ⟨m,z⟩ c,i⟩)
def afc (kvs more:List (Key × V)):List (Key × V):=more.foldl (fun acc kv=>putK acc kv.1 kv.2) kvs
theorem KV.merge:∀ {more:List (Key × V)} {rs:List (Key × Value)} {kvs:List (Key × V)} {vs:List (Key × Value)},KV more rs->KV kvs vs->KV (afc kvs more) (merged vs rs):=by
 intro more rs kvs vs r
 unfold KV at r
 induction r generalizing kvs vs with
 | nil=>intro q;exact q
 | @cons p q ps qs h t ih =>
  intro a
  have e:KV (putK kvs p.1 p.2) (stored vs q.1 q.2):=by
   have:=a.put p.1 h.2
   rw [← h.1];exact this
  exact ih e
theorem af2:∀ (more kvs:List (Key × V)),(afc kvs more).length<=kvs.length+more.length
 | [],kvs=>by show kvs.length<=kvs.length+0;omega
 | p :: r,kvs=>by
  have b:=af2 r (putK kvs p.1 p.2)
  have a:=ae5 kvs p.1 p.2
  show (afc (putK kvs p.1 p.2) r).length<=_
  rw [aE0];omega
theorem aie {P:Program} {w:World}:∀ {kvs:List (Key × V)} {d:List (Value × Value)},VV (kvs.map fun f=>(kV f.1,f.2)) d->∃ rs,Carries (aa7 P w) d rs/\KV kvs rs
 | [],_,r=>by rw [List.map_nil] at r;cases r;exact ⟨[],True.intro,.nil⟩
 | p :: kvs,_,r=>by
  rw [aD0] at r
  cases r with
  | @cons a b as bs h t =>
   obtain ⟨rs,c,q⟩:=aie (P:=P) (w:=w) t
   obtain ⟨b1,g⟩:=b
   exact ⟨(p.1,g) :: rs,⟨agz h.1,rfl,c⟩,.cons ⟨rfl,h.2⟩ q⟩
def av8 (trs:List (TE × TE)):TE:=fun σ H Q=>∀ p,H p=none->al1 trs σ (upd H p (.dK [])) fun ps H2=>H2 p=some (.dK [])/\∃ kvs:List (Key × V),ps=kvs.map (fun kv=>(kV kv.1,kv.2))/\kvs.length<=15/\Q (.ref p) (upd H2 p (.dK (afc [] kvs)))
theorem aw0 {X:Cx} {d:Pos} {keys:List (Option Expr)} {b:List Expr} {f:List (TE × TE)} (h:PPs X d keys b f) (i:keys.all (·.isSome)=true) (C:keys.length=b.length) (v:keys ≠ [])
  (j:keys.length<=15):PE X (.Dict keys b d) (av8 f):=by
 intro pins s σ H Q I q
 have hn:=I.hok.fresh (aA6 s.heap.objs.size)
 have r:=I.laid (a:=s.heap.objs.size) (o:=.dK []) (h':=s.heap.push { cls:=.type "dict",data:=.dict #[] }) (t':=s.toks) (fun _ _ q=>aI3 _ q) (aA6 _) (aty s.heap I.big)
 refine wpAny_Dict_walk (knd:=aa7 X.prog X.w) i C v j (thn (h pins _ σ _ _ r (q _ hn)) fun F s2 ⟨ps,H2,m,l,e,kvs,n,G,y⟩=>?_)
 subst n
 obtain ⟨rs,c,B⟩:=aie (P:=X.prog) (w:=X.w) l
 obtain ⟨z,hd,D,A,dd⟩:=av7 m.hok e
 cases A
 refine ⟨rs,c,dd,fun h' g p=>⟨.ref s.heap.objs.size,_,?_,rfl,y⟩⟩
 have hz:(afc [] kvs).length<=sizeLine:=by
  have u:=af2 kvs []
  rw [aI0] at u
  rw [sizeLine_eq];omega
 have E:∃ q,h'.get? s.heap.objs.size=some q:=let ⟨q,_,_,x,_⟩:=g;⟨q,x⟩
 exact ag1 m (by rw [e];exact True.intro) p E (aro hz hd (B.merge .nil) g)
structure M1 (X:Cx) (o:Expr) (m:Str) (apos:Pos) (e:Expr) (cpos:Pos):Prop where
 base:attributeBase o m X.env (eval o X.env)=eval o X.env
 few:((backTo cpos (starEach [e] X.env)).all (fun x => !x.1) && (backToKw cpos (keywordEach [] X.env)).all (fun x=>x.1.isSome)
  && decide (([e]:List Expr).length+([]:List Keyword).length+(if ([]:List Keyword).isEmpty then 0 else 1) < 30))=true
 line:(apos.endLine == cpos.line)=true
 trees:backTo cpos (starEach [e] X.env)=[(false,eval e X.env)]
def IsD (H:Hp) (a:Addr):Prop:=(∃ kvs,Rd H a (.dK kvs))\/∃ kvs,Rd H a (.dT kvs)
theorem ars {X:Cx} {pins:List (Addr × Obj)} {σ:St} {H:Hp} {s:Shared} {a:Addr} (I:Inv X pins σ H s) (d:IsD H a) :
  s.TypeIs (.ref a) "dict"/\(∀ b,Value.ref a=.ref b->∃ c,s.heap.get? b=some c/\c.dict=none)/\(a == sysModules)=false:=by
 rcases d with ⟨kvs,e⟩ | ⟨kvs,e⟩
 ·obtain ⟨_,hd,vs,_,dd⟩:=afn I.hok e
  refine ⟨dd.typeIs,fun b q=>?_,hd⟩
  cases q
  obtain ⟨c,_,_,f,g,_⟩:=dd
  exact ⟨c,f,g.2.1⟩
 ·obtain ⟨_,hd,xs,_,dd⟩:=ag0 I.hok e
  refine ⟨dd.typeIs,fun b q=>?_,hd⟩
  cases q
  obtain ⟨c,_,_,f,g,_⟩:=dd
  exact ⟨c,f,g.2.1⟩
section
variable {X:Cx} {pins:List (Addr × Obj)} {σ:St} {H:Hp} {s:Shared} {a:Addr} {y d:V} {u r:Value} {o:Option V} {A:Around} {E:Value->Shared->Prop}
theorem azf {Q:Value->Shared->Prop} (m:A.units+1 < cLine) (I:Inv X pins σ H s) (g:DGet H a y o) (f:RelV y u) (h:∀ i j,Inv X pins σ H j->RelV (o.getD .non) i->Q i j) :
  wpAny (model X.prog X.w) A (call (.builtin "dict.get") [.ref a,u]) Q E s:=by
 rcases g with ⟨kvs,k,e,d,l⟩ | ⟨kvs,k,b,e,d,n,l⟩
 ·subst d
  obtain ⟨z,hd,vs,c,dd⟩:=afn I.hok e
  refine call_meetsIn PySem.F.slot_dict_get dd.typeIs PySem.F.entry_dict_get (PySem.F.args_dict_get_2 _ _) (meets_dict_get (aa7 X.prog X.w) a (agz f) hd) ⟨_,dd.mapOf,h _ _ (I.tok _) ?_⟩
  rw [l]
  exact (c.val k).getD rfl
 ·subst d
  cases (show u=Value.ref b from f)
  obtain ⟨z,hd,xs,c,dd⟩:=ag0 I.hok e
  refine call_meetsIn PySem.F.slot_dict_get dd.typeIs PySem.F.entry_dict_get (PySem.F.args_dict_get_2 _ _) (meetsH_dict_get (tupleKind (aa7 X.prog X.w)) a b hd) ⟨tupleKind_room_in1 m,k,xs,afa I.hok n,dd,h _ _ (I.tok _) ?_⟩
  rw [l]
  exact (c.val k).getD rfl
end
def al2 (td ty:TE):TE:=fun σ H Q=>td σ H fun x H1=>∃ a,x=.ref a/\IsD H1 a/\ty σ H1 fun y H2=>∃ o,DGet H2 a y o/\Q (o.getD .non) H2
section
variable {X:Cx} {o e f:Expr} {apos cpos:Pos} {td ty tx:TE}
theorem at4 (j:X.A.units+1 < cLine) (n:PE X o td) (q:PE X e ty) (m:M1 X o "get" apos e cpos):PE X (.Call (.Attribute o "get" apos) [e] [] cpos) (al2 td ty):=by
 intro pins s σ H Q I h
 refine wpAny_Call_method m.base m.few m.line PySem.F.plainAttrs_dict PySem.F.slot_dict_get PySem.F.type_dict_get (thn (n pins s σ H _ I h) fun u s1 ⟨x,r,c,f,a,ex,d,v⟩=>?_)
 subst ex
 obtain rfl:u=Value.ref a:=f
 obtain ⟨l,w,_⟩:=ars c d
 refine ⟨l,w,?_⟩
 rw [m.trees]
 refine Calls.callWith_builtin rfl (Calls.evalArgs_plain (Calls.spliced_cons (thn (q pins s1 σ r _ c v) fun D s2 ⟨y,H2,B,z,C,g,i⟩=>Calls.spliced_nil ?_)))
 exact azf j B g z fun G E p b=>⟨_,H2,p,b,i⟩
end
section
variable {X:Cx} {pins:List (Addr × Obj)} {σ:St} {H:Hp} {s:Shared} {a:Addr} {kvs:List (Key × V)} {A:Around} {E:Value->Shared->Prop}
end
section
variable {X:Cx} {pins:List (Addr × Obj)} {σ:St} {H:Hp} {s:Shared} {a:Addr} {y:V} {u:Value} {A:Around} {E:Value->Shared->Prop}
end
end L2
namespace Att
open PySem PySem.W PySem.Calls PyProof.Rows
theorem aif {P:Params} {h:Heap}:∀ (ns:List Int) (vs:List Value),WellAll P h vs (ns.map WData.int)->IntsAre vs ns:=by
 intro ns
 induction ns with
 | nil =>
  intro vs w
  rw [List.map_nil] at w
  cases w
  exact .nil
 | cons n ns ih =>
  intro vs w
  rw [aD0] at w
  cases w with
  | cons a b =>
   cases a
   exact .cons _ _ (ih _ b)
theorem art {l:OpenLaw} {n:Nat} (hn:l.most=some n) {P:Params} {h:Heap} {args:List WData} {c:List Value}
  (b:l.row.toRowW.claim.pre args=true) (m:WellAll P h c args) :
  ∃ a vs ns,c=[Value.ref a]/\args=[WData.list (ns.map WData.int)]/\h.get? a=some { cls:=.type "list",data:=.seq vs.toArray }/\IntsAre vs ns/\ns.length<=n:=by
 have j:WShape.hasAll [] args [.list .int]=true:=(pre_splitW b).1
 have o:l.pre.holds [] { args:=args }=true:=(pre_splitW b).2
 obtain ⟨d,r,rfl,p,s⟩:=hasAllW_cons j
 obtain rfl:=hasAllW_nil s
 obtain ⟨xs,rfl,u⟩:=hasW_list p
 obtain ⟨ns,rfl⟩:=items_int u
 have f:ns.length<=n:=by
  unfold OpenLaw.pre at o
  have g:(WTm.not (.lt (.lit (.int (n:Int))) (.len (.arg 0)))).holds [] { args:=[.list (ns.map .int)] }=true:=by
   have g:=(holds_andW o).1
   rw [hn] at g
   exact g
  have i:=condW_of g (w_not (w_lt w_lit (w_len_list (w_arg rfl))))
  rw [aA3] at i
  refine Nat.le_of_not_lt fun q=>?_
  have v:(n:Int) < ((ns.length:Nat):Int):=by omega
  first
   | (rw [aD6 v] at i;exact absurd i (by decide))
   | (simp at i;omega)
 cases m with
 | cons w1 w2 =>
  cases w2
  cases w1 with
  | list ho hall=>exact ⟨_,_,ns,rfl,rfl,ho,aif ns _ hall,f⟩
theorem aru (l:OpenLaw) (args:List WData):l.row.toRowW.claim.post args (.bool true) args=true :=
 postW_of (r:=l.row.toRowW) (X:=(true == true))
  (show WShape.has [] (.bool true) .bool=true by first | rfl | decide | simp [WShape.has,WShape.arms,WShape.armsAll])
  (show (WTm.eq .res (.lit (.bool true))).value [] { args:=args,res:=some (.bool true),after:=args }=some (.bool (true == true)) from w_eq_bool (w_res rfl) w_lit) rfl
theorem attach_call {l:OpenLaw} {n:Nat} {q:Program} {c:List Str} {z:(Str->Option Value)->Heap->Prop} {A:World->Heap->Prop} {d:DefRec}
  (hn:l.most=some n) (u:d.params.defaults=[])
  (call:∀ (w:World) (s₀ b:Shared) (mg mb:Str->Option Value) (fa:Addr) (o:Obj) (pm m doc:Value) (a:Addr) (vs:List Value) (ns:List Int),
   Ground q c [] z w s₀ mg mb b.heap->A w b.heap ->
   b.heap.get? fa=some o->o.data=.func (docDef d.name d.params d.body d.scope pm m doc)->b.heap.CodeRec m d.name->mg d.name=some (.ref fa) ->
   b.heap.get? a=some { cls:=.type "list",data:=.seq vs.toArray }->IntsAre vs ns->ns.length<=n->b.gens = #[] ->
   codeAny (model l.prog w) callerA (.call (.ref fa) ⟨[.ref a],[]⟩) (fun r p=>r=.ok (.ret (.bool true))/\OldK b.heap p.heap/\p.os=b.os/\AllBare p.gens) b) :
  WalkO q c z A l.row.toRowW d [] (fun f vs=>PySem.call f vs):=by
 intro w s₀ b mg mb G Y fa o pm m doc D kV J hd x B v E args C as i y I s M
 obtain rfl:D=.none:=Dflts.none B u
 obtain rfl:kV=.none:=Dflts.noKw B
 obtain ⟨a,vs,ns,rfl,rfl,j,g,h⟩:=art hn i s
 refine enter_call (codeAny_mono (call w s₀ b mg mb fa o pm m doc a vs ns G Y J (fd_plain hd) x v j g h E) fun r p F=>?_)
 obtain ⟨rfl,H,L,K⟩:=F
 exact ⟨.inl ⟨.bool true,.bool true,[],rfl,fun _=>rfl,.bool true,aru l _,fun _=>⟨List.Pairwise.nil,fun _ hm=>(nomatch hm)⟩⟩,H,L,K⟩
section
variable {prog:Program} {w:World} {A:Around} {E:Value->Shared->Prop} {s:Shared} {K:Frag}
end
end Att
namespace L2
open PySem PySem.Spec PyProof.Rows
theorem aka:∀ {vs:List Value} {ns:List Int},IntsAre vs ns->Vals (ns.map V.int) vs
 | _,_,.nil => .nil
 | _,_,.cons n t h => .cons ⟨t,rfl⟩ (aka h)
def Only (H:Hp):Prop:=∀ b,H b=none\/∃ o xs,H b=some (.frz o (.lst xs))
theorem at5 {P:Program} {w:World} {K:Frag} {mg mb:Str->Option Value} {CX:CXT} {k:Nat} {fa a:Addr} {fd:FuncData} {x:Str} {sp:Sp} {c:Shared} {vs:List Value} {ns:List Int}
  (T:K.In c.heap) (p:c.heap.Ns mainGlobals mg) (hb:c.heap.Ns builtinsNs mb) (G:∀ x:Str,x ≠ "__name__"->mb x=bootBuiltins x) (A:c.heap.NoLimit) (hg:c.gens = #[])
  (ha:c.heap.get? a=some { cls:=.type "list",data:=.seq vs.toArray }) (hi:IntsAre vs ns) (R:ns.length<=sizeLine) (hr:Room k callerA)
  (F:∀ base:Heap,K.In base->base.Ns mainGlobals mg->FnOk P w K mg base CX k fa fd [x] sp) (l:∀ (s:Shared) (u:Value),BindsTo s fd ⟨[u],[]⟩ [(x,u)])
  (I:∀ H:Hp,Only H->SqL K H a (ns.map V.int)->sp [.ref a] H (fun v _=>v=.bl true) fun _ _ _=>False)
  (L:∀ H e g,CX [] H c (fun _ _ _=>False) e g->False) :
  codeAny (model P w) callerA (.call (.ref fa) ⟨[.ref a],[]⟩) (fun r g=>r=.ok (.ret (.bool true))/\OldK c.heap g.heap/\g.os=c.os/\AllBare g.gens) c:=by
 have S:=aka hi
 have D:=hi.length
 -- from an abstract heap in which nothing but the script may be tracked
 have j:∀ H:Hp,Only H->SqL K H a (ns.map V.int)->HOk P w H c.heap->(∀ b,H b ≠ none->b=a)->(H a ≠ none->K.lookup a=none) ->
   codeAny (model P w) callerA (.call (.ref fa) ⟨[.ref a],[]⟩) (fun r g=>r=.ok (.ret (.bool true))/\OldK c.heap g.heap/\g.os=c.os/\AllBare g.gens) c:=by
  intro H Q Z hok N U
  have f:∀ {b:Addr} {o:Obj},c.heap.get? b=some o->H b=none->(hidT c.heap H).get? b=some o:=fun e n=>atm e n
  have M:∀ {b:Addr} {o:Obj} {es:Array DictEntry} {E:Nat},c.heap.get? b=some o->o.data=.dict es E->H b=none:=fun {b o es E} e d=>by
   cases q:H b with
   | none=>rfl
   | some u =>
    have J:b=a:=N b (by rw [q];simp)
    subst J
    rw [ha] at e;cases e
    have d':Data.seq vs.toArray _=Data.dict es E:=d
    cases d'
  have i:∀ {b:Addr} {m:Str->Option Value},c.heap.Ns b m->(hidT c.heap H).Ns b m:=fun {b m} ⟨o,es,E,e,d,r⟩=>⟨o,es,E,f e (M e d),d,r⟩
  have y:K.In (hidT c.heap H):=fun b o e=>f (T b o e) (by
   cases q:H b with
   | none=>rfl
   | some u =>
    have J:b=a:=N b (by rw [q];simp)
    subst J
    rw [U (by rw [q];simp)] at e;cases e)
  have Y:Mod K mg (hidT c.heap H):=⟨y,i p,⟨mb,i hb,G⟩,let ⟨mc,h1,h2⟩:=A;⟨mc,i h1,h2⟩⟩
  have W:Env0 P w K mg (hidT c.heap H) callerA [] c H:=⟨rfl,Y,fun b o e=>awl e,Nat.le_of_eq (aq3 _ _),trivial,fun b hb=>absurd (show b∈([]:List Addr) from hb) (by simp),hok,.of_eq hg⟩
  refine codeAny_mono ((F _ y (i p)).run callerA [] c H ⟨[.ref a],[]⟩ [.ref a] [.ref a] _ _ hr W (l c (.ref a)) (.cons rfl .nil) (I H Q Z)) fun r g h=>?_
  cases r with
  | error e=>exact (L H e g h).elim
  | ok fl =>
   cases fl with
   | next=>exact False.elim h
   | brk=>exact False.elim h
   | cont=>exact False.elim h
   | ret u =>
    obtain ⟨v,H',os,bare,un,C,X,q⟩:=h
    have q':v=.bl true:=q
    subst q'
    obtain rfl:u=Value.bool true:=X
    refine ⟨rfl,OldK.of_keep fun b o e=>?_,os,bare⟩
    cases q:H b with
    | none=>exact un.keep b o e q (by intro z;exact absurd (show b∈([]:List Addr) from z) (by simp)) (by simp)
    | some u =>
     rcases Q b with z | ⟨ob,xs,z⟩
     ·rw [q] at z;cases z
     ·have z2:=un.frzs b ob _ z
      obtain ⟨O,_⟩:=hok b _ z
      obtain ⟨e2,_⟩:=C b _ z2
      rw [e] at O;cases O
      exact e2
 cases hk:K.lookup a with
 | some o =>
  -- the script is one of the module's own objects
  have e:=T a o hk
  rw [ha] at e
  cases e
  refine j (fun _=>none) (fun _ => .inl rfl) (.inr ⟨_,vs.toArray,_,hk,rfl,rfl,rfl,by rw [aB1,D];exact R,by simpa using S⟩) (fun b u z=>by have B:(none:Option HO)=some u:=z;cases B) (fun b z=>absurd rfl z) fun z=>absurd rfl z
 | none =>
  refine j (fun b=>if b=a then some (.frz { cls:=.type "list",data:=.seq vs.toArray } (.lst (ns.map V.int))) else none) (fun b=>?_) (.inl (.inr ⟨{ cls:=.type "list",data:=.seq vs.toArray },aE8 rfl⟩)) (fun b u z=>?_) (fun b z=>?_) fun _=>hk
  ·by_cases hb:b=a
   ·exact .inr ⟨_,_,aE8 hb⟩
   ·exact .inl (aE9 hb)
  ·by_cases hb:b=a
   ·have B:=(aE8 hb).symm.trans z
    cases B
    subst hb
    exact ⟨ha,by rw [aA3];exact R,vs,_,S,ha⟩
   ·have B:=(aE9 hb).symm.trans z
    cases B
  ·by_cases hb:b=a
   ·exact hb
   ·exact absurd (aE9 hb) z
abbrev KOf {K:Frag} {h:Heap} (_:K.In h):Frag:=K
theorem walk_of {l:PySem.W.OpenLaw} {n k:Nat} {q:Program} {i:List Str} {J:(Str->Option Value)->Heap->Prop} {E:World->Heap->Prop} {d:DefRec} {K:Params->Frag} {CX:World->CXT} {sp:World->Sp} {x:Str}
  (hn:l.most=some n) (y:n<=sizeLine) (z:d.params.defaults=[]) (L:Room k callerA)
  (O:∀ (w:World) (h:Heap),E w h->(K w.params).In h)
  (F:∀ (w:World) (mg:Str->Option Value) (fa:Addr) (h:Heap),(K w.params).In h->h.Ns mainGlobals mg->mg d.name=some (.ref fa) ->
   ∃ fd:FuncData,(∀ (s:Shared) (u:Value),BindsTo s fd ⟨[u],[]⟩ [(x,u)]) /\
    ∀ base:Heap,(K w.params).In base->base.Ns mainGlobals mg->FnOk l.prog w (K w.params) mg base (CX w) k fa fd [x] (sp w))
  (r:∀ (w:World) (H:Hp) (a:Addr) (ns:List Int),ns.length<=n->Only H->SqL (K w.params) H a (ns.map V.int)->sp w [.ref a] H (fun v _=>v=.bl true) fun _ _ _=>False)
  (B:∀ (w:World) (H:Hp) (s:Shared) (e:Value) (A:Shared),CX w [] H s (fun _ _ _=>False) e A->False) :
  PySem.W.WalkO q i J E l.row.toRowW d [] (fun f vs=>PySem.call f vs):=by
 refine Att.attach_call hn z fun w s₀ m mg mb fa o pm R doc a vs ns G Y S hd Q C p j c I=>?_
 have D:=O w _ Y
 obtain ⟨fd,hb,P⟩:=F w mg fa _ D G.T.g C
 exact at5 D G.T.g G.T.b G.T.builtins G.T.nolimit I p j (aC9 c y) L P hb (fun H M N=>r w H a ns c M N) fun H e A=>B w H m e A
end L2
/- THE LAST THEOREM (shape; LID, My.* are yours):
  My.Adr: a structure of the addresses that your layer names (classes,functions);My.Txt K t: a structure (Prop) of the equations over K;
  My.txt_mk:{K} {implicit addresses ..} (e1:nsIn K mainGlobals "law" = some (some (.ref f))) (e2:K.lookup f=some ⟨oc,od,.func (fnOf "law" "law" params body scope dV kV doc pm an cdv ct),sl⟩) (e3:codeIn K cdv "law" = true) .. : ∃ t,My.Txt K t
set_option maxRecDepth 100000 in
set_option maxHeartbeats 0 in
theorem PySem.Challenge.cw_LID_holds : PySem.Challenge.rw_LID.Holds := by
 w_on;o_law;k_head;(case hw=>w_witness2)
 k_fill
 refine L2.walk_of (l:=PySem.Challenge.rw_LID) (n:=63) (k:=40) (x:="script") (CX:=fun w => ..) (sp:=fun _=>My.sp_law) rfl (by decide) rfl ⟨rfl,by decide,by decide⟩ (fun w h Y=>PySem.W.kIn_of Y) ?F ?S ?C
 case F =>
  intro w mg fa h KX G hmg
  have T:∃ t,My.Txt (L2.KOf KX) t:=by
   dsimp only [L2.KOf]                          -- K must stand as «<heap const> w.params» for k_is
   refine' My.txt_mk ?e1 ?e2 ?e3 ..
   (case e1=>PySem.W.k_is)                    -- in the order: a name -> its address -> its object -> its parts
   (case e2=>PySem.W.k_is)
   ..
  obtain ⟨t,T⟩:=T
  have e0:=hmg.symm.trans (mg_of KX G T.law)
  cases e0                                       -- fa is the law's own address
  exact ⟨_,fun s u => .of_eq rfl,fun base kb nb=>My.law_fn T kb nb⟩     -- if «.of_eq rfl» comes too early: refine' ⟨_,?b,fun base kb nb=>My.law_fn T kb nb⟩;exact fun s u => .of_eq rfl
 case S=>exact fun w H a ns hl hO hS => ..
 case C=>exact ..
(the tactic k_is has no namespace: write k_is) -/
namespace L2
open PySem PySem.Spec PyProof.Rows
def adl (s:Stmt) (j:Nat):Stmt:=match s with
 | .ClassDef _ _ _ body _ _ _ _ _ _ _=>body.getD j (.Pass ⟨0,0,0,0⟩)
 | _ => .Pass ⟨0,0,0,0⟩
def abj (s:Stmt):Arguments:=match s with
 | .FunctionDef _ a _ _ _ _ _ _ _ _=>a
 | _=>{ posonlyargs:=[],args:=[],vararg:=none,kwonlyargs:=[],kw_defaults:=[],kwarg:=none,defaults:=[] }
def abh (s:Stmt):List Stmt:=match s with
 | .FunctionDef _ _ b _ _ _ _ _ _ _=>b
 | _=>[]
def aai (s:Stmt):Scope:=match s with
 | .FunctionDef _ _ _ _ _ _ sc _ _ _=>sc
 | _=>{ kind:=.function,names:=[],isGenerator:=false,isCoroutine:=false }
abbrev CX0:CXT:=fun _ _ _ _ _ _=>False
abbrev E0:XK:=fun _ _ _=>False
theorem ak9 {X:Cx}:aej CX0 X E0:=fun _ _ _ _ _ _ _ h=>h.elim
structure Fun (K:Frag) (x qual:Str) (st:Stmt) (f:Addr) (fd:FuncData):Prop where
 ex:∃ (oc:Value) (od:Option Addr) (kV doc pm:Value) (an:Option Addr) (cdv ct:Value) (osl:Array (Option Value)),
  fd=fnOf x qual (abj st) (abh st) (aai st) .none kV doc pm an cdv ct/\K.lookup f=some ⟨oc,od,.func fd,osl⟩/\codeIn K cdv qual=true
 kp:keepIn K (.ref f)=true
section
variable {P:Program} {w:World} {K:Frag} {mg:Str->Option Value} {base:Heap}
theorem Fun.ok {x qual:Str} {st:Stmt} {f:Addr} {fd:FuncData} {N ps:List Str} {k:Nat} {sp:Sp} (F:Fun K x qual st f fd) (S:FnScope N ps (aai st)) (len:∀ vs H Q E,sp vs H Q E->vs.length=ps.length)
  (a:∀ (cdv:Value) (A:Around) (outer:List Env) (s:Shared) (H:Hp) (vs:List V) (Q:VK) (E:XK),Room k (A.deeper (envOfC qual (aai st) s.heap.objs.size f cdv))->sp vs H Q E ->
   ∃ t,PSs (cxOf CX0 P w K mg base N qual (aai st) f cdv A outer s H E).nox (abh st) t/\t { nx:=fun _ H'=>Q .non H',rt:=Q } (start N vs) H):FnOk P w K mg base CX0 (k+1) f fd ps sp:=by
 obtain ⟨oc,od,kV,doc,pm,an,cdv,ct,osl,rfl,g,c⟩:=F.ex
 refine a1f g c S len fun A outer s H vs Q E d b=>?_
 obtain ⟨t,h,q⟩:=a cdv A outer s H vs Q E d b
 exact ⟨t,h.nox,q⟩
theorem Fun.binds {x qual:Str} {st:Stmt} {f:Addr} {fd:FuncData} {ps:List Str} (F:Fun K x qual st f fd)
  (h:∀ (kV doc pm:Value) (an:Option Addr) (cdv ct:Value) (us:List Value),us.length=ps.length->bindArgs (fnOf x qual (abj st) (abh st) (aai st) .none kV doc pm an cdv ct) ⟨us,[]⟩=pure (ps.zip us)):Binds K fd ps []:=by
 obtain ⟨oc,od,kV,doc,pm,an,cdv,ct,osl,rfl,b,a⟩:=F.ex
 exact .all (h kV doc pm an cdv ct)
theorem arv {x qual:Str} {st:Stmt} {f:Addr} {oc:Value} {od an:Option Addr} {osl:Array (Option Value)} {kV doc pm cdv ct:Value} (l:K.lookup f=some ⟨oc,od,.func (fnOf x qual (abj st) (abh st) (aai st) .none kV doc pm an cdv ct),osl⟩)
  (c:codeIn K cdv qual=true) (k:keepIn K (.ref f)=true):Fun K x qual st f (fnOf x qual (abj st) (abh st) (aai st) .none kV doc pm an cdv ct):=⟨⟨oc,od,kV,doc,pm,an,cdv,ct,osl,rfl,l,c⟩,k⟩
end
theorem ac1 {A:Around} {k:Nat} (a:Room k A):A.units+1 < cLine:=Nat.lt_of_le_of_lt (Nat.add_le_add_left (by decide:1<=64) _) a.units
theorem aeu {n:Nat} (h:n<=1000):n < sizeLine:=Nat.lt_of_le_of_lt h (by decide)
section
variable {X:Cx}
theorem pv (i:Nat) {x:Str} {a:Pos} (d:X.N[i]?=some x:=by rfl) (c:Vis X.env.scope x:=by first | exact Or.inl rfl | exact Or.inr (Or.inl rfl) | exact Or.inr (Or.inr rfl)) (hd:(x == ("__debug__" : Str))=false:=by decide)
  (b:(x == ("__classdict__" : Str))=false:=by decide):PE X (.Name x a) (tVar i):=ay5 d c hd b
end
theorem iteF {A B:Prop} (h:B):if false=true then A else B:=by
 rw [aE9 aA9]
 exact h
theorem iteT {A B:Prop} (h:A):if true=true then A else B:=by
 rw [aE8 rfl]
 exact h
def Same (H H':Hp):Prop:=∀ b o,H b=some o->H' b=some o
theorem Same.refl (H:Hp):Same H H:=fun _ _ h=>h
theorem Same.trans {H d H2:Hp} (a:Same H d) (b:Same d H2):Same H H2:=fun c o h=>b c o (a c o h)
theorem Same.free {H H':Hp} (e:Same H H') {l:Addr} (h:H' l=Option.none):H l=Option.none:=by
 cases q:H l with
 | none=>rfl
 | some o =>
  rw [e l o q] at h
  cases h
theorem Same.seq {K:Frag} {H H':Hp} {a:Addr} {xs:List V} (e:Same H H') (h:SqL K H a xs):SqL K H' a xs:=by
 rcases h with (h | ⟨o,h⟩) | h
 ·exact .inl (.inl (e _ _ h))
 ·exact .inl (.inr ⟨o,e _ _ h⟩)
 ·exact .inr h
section
variable {X:Cx}
theorem arw:abb X (.builtin "len") (fun xs H Q=>∃ a kvs,xs=[V.ref a]/\H a=some (.dK kvs)/\Q (.int kvs.length) H):=by
 intro pins s σ H xs us Q I r h
 obtain ⟨a,kvs,rfl,ha,q⟩:=h
 obtain ⟨u,rfl,b⟩:=acm r
 cases b
 exact a1g I (.inl ha) fun t d c=>⟨.int kvs.length,H,c,⟨t,rfl⟩,q⟩
end
section
variable {κ:Type} [DecidableEq κ]
end
def clos (env:Env):List (Str × NameKind)->List (Str × Addr)->List (Str × Addr)
 | [],cs=>cs
 | (n,k) :: r,cs=>if k == NameKind.free then (match env.cells.lookup n with | some a=>clos env r ((n,a) :: cs) | none=>clos env r cs) else clos env r cs
theorem aig {env:Env} {sc:Scope} (h:∀ n,(n,NameKind.free)∈sc.names->∃ a,env.cells.lookup n=some a):closureFor sc env=pure (clos env sc.names []):=by
 have all:∀ (l:List (Str × NameKind)) (cs:List (Str × Addr)),(∀ n,(n,NameKind.free)∈l->∃ a,env.cells.lookup n=some a) ->
   (forIn l cs fun (x:Str × NameKind) (cs:List (Str × Addr))=>match x with | (name,kind)=>if kind == NameKind.free then (do let a ← cellOf env name;pure (ForInStep.yield ((name,a) :: cs))) else pure (ForInStep.yield cs))=(pure (clos env l cs):Sem _):=by
  intro l
  induction l with
  | nil=>intro cs _;rfl
  | cons p r ih =>
   intro cs c
   obtain ⟨n,k⟩:=p
   rw [List.forIn_cons]
   unfold clos
   dsimp only
   cases hk:(k == NameKind.free) with
   | false =>
    simp only [Bool.false_eq_true,if_false,pure_bind]
    exact ih cs fun m hm=>c m (aB4 _ hm)
   | true =>
    have f:k=NameKind.free:=by simpa using hk
    subst f
    obtain ⟨a,ha⟩:=c n aB7
    have d:cellOf env n=pure a:=by unfold cellOf;rw [ha]
    simp only [if_true,d,pure_bind,ha]
    exact ih _ fun m hm=>c m (aB4 _ hm)
 have e:=all sc.names [] h
 unfold closureFor
 refine Eq.trans (b:=(pure (clos env sc.names []):Sem _) >>= fun cs=>pure cs) ?_ (pure_bind _ _)
 exact congrArg (fun z:Sem (List (Str × Addr))=>z >>= fun cs=>pure cs) e
theorem aev {env:Env} {x:Str} {c:Addr}:∀ {l:List (Str × NameKind)} {cs:List (Str × Addr)},(clos env l cs).lookup x=some c->env.cells.lookup x=some c\/cs.lookup x=some c
 | [],cs,h => .inr h
 | (n,k) :: r,cs,h=>by
  unfold clos at h
  by_cases hk:(k == NameKind.free)=true
  ·rw [aE8 hk] at h
   cases ha:env.cells.lookup n with
   | none=>rw [ha] at h;exact aev h
   | some a =>
    rw [ha] at h
    rcases aev h with e | e
    ·exact .inl e
    ·rw [aG2] at e
     cases hx:(x == n) with
     | true =>
      rw [hx] at e
      have:x=n:=by simpa using hx
      subst this
      cases e
      exact .inl ha
     | false=>rw [hx] at e;exact .inr e
  ·rw [aE9 hk] at h
   exact aev h
theorem aew {env:Env} {x:Str}:∀ {l:List (Str × NameKind)} {cs:List (Str × Addr)},(∃ c,cs.lookup x=some c)->∃ c,(clos env l cs).lookup x=some c
 | [],cs,h=>h
 | (n,k) :: r,cs,h=>by
  unfold clos
  by_cases hk:(k == NameKind.free)=true
  ·rw [aE8 hk]
   cases ha:env.cells.lookup n with
   | none=>exact aew h
   | some a =>
    refine aew ?_
    rw [aG2]
    cases hx:(x == n) with
    | true=>exact ⟨_,rfl⟩
    | false=>exact h
  ·rw [aE9 hk]
   exact aew h
theorem ael {env:Env} {x:Str} (h:∃ a,env.cells.lookup x=some a):∀ {l:List (Str × NameKind)} {cs:List (Str × Addr)},(x,NameKind.free)∈l->∃ c,(clos env l cs).lookup x=some c
 | [],_,hm=>absurd hm (by simp)
 | (n,k) :: r,cs,hm=>by
  rcases aA8.mp hm with e | hm
  ·cases e
   obtain ⟨a,ha⟩:=h
   unfold clos
   rw [aE8 (by rfl),ha]
   refine aew ⟨a,?_⟩
   rw [aG2]
   simp
  ·unfold clos
   by_cases hk:(k == NameKind.free)=true
   ·rw [aE8 hk]
    cases ha:env.cells.lookup n with
    | none=>exact ael h hm
    | some a=>exact ael h hm
   ·rw [aE9 hk]
    exact ael h hm
theorem agh {env:Env} {x:Str}:∀ {names:List (Str × NameKind)},(∀ y∈names,y.2 ≠ .cell) ->
  ((names.map fun (n,k)=>if (k == NameKind.free && env.scope.kind == .function && env.kindOf n == some .cell) then (n,NameKind.cell) else (n,k)).lookup x=some .cell ∨
   (names.map fun (n,k)=>if (k == NameKind.free && env.scope.kind == .function && env.kindOf n == some .cell) then (n,NameKind.cell) else (n,k)).lookup x=some .free)->names.lookup x=some .free
 | [],_,h=>by rcases h with h | h <;> simp at h
 | (n,k) :: r,hc,h=>by
  have a:=@agh env x r fun y c=>hc y (aB4 _ c)
  rw [aG2]
  simp only [aD0] at h
  by_cases hq:(k == NameKind.free && env.scope.kind == .function && env.kindOf n == some .cell)=true
  ·rw [aE8 hq] at h
   have b:k=NameKind.free:=by
    have:=hq;simp only [aG4] at this;simpa using this.1.1
   subst b
   cases hx:(x == n) with
   | true=>rfl
   | false=>simp only [aG2,hx] at h;exact a h
  ·rw [aE9 hq] at h
   cases hx:(x == n) with
   | true =>
    simp only [aG2,hx] at h
    rcases h with h | h
    ·cases h;exact absurd rfl (hc (n,NameKind.cell) aB7)
    ·exact h
   | false=>simp only [aG2,hx] at h;exact a h
theorem aex {env:Env} {x:Str}:∀ {names:List (Str × NameKind)},names.lookup x=some .free ->
  ((names.map fun (n,k)=>if (k == NameKind.free && env.scope.kind == .function && env.kindOf n == some .cell) then (n,NameKind.cell) else (n,k)).lookup x=some .cell ∨
   (names.map fun (n,k)=>if (k == NameKind.free && env.scope.kind == .function && env.kindOf n == some .cell) then (n,NameKind.cell) else (n,k)).lookup x=some .free)
 | [],h=>by simp at h
 | (n,k) :: r,h=>by
  have a:=@aex env x r
  rw [aG2] at h
  simp only [aD0]
  by_cases hq:(k == NameKind.free && env.scope.kind == .function && env.kindOf n == some .cell)=true
  ·rw [aE8 hq]
   cases hx:(x == n) with
   | true=>left;simp [aG2,hx]
   | false=>rw [hx] at h;simp only [aG2,hx];exact a h
  ·rw [aE9 hq]
   cases hx:(x == n) with
   | true=>rw [hx] at h;right;simp only [aG2,hx];exact h
   | false=>rw [hx] at h;simp only [aG2,hx];exact a h
def Cx.comp (X:Cx) (N:List Str) (sc:Scope) (C:Addr) (s0:Shared) (H0:Hp) (ex:List Addr):Cx where
 prog:=X.prog
 w:=X.w
 K:=X.K
 mg:=X.mg
 base:=X.base
 A:=X.A
 N:=N
 s₀:=s0
 H₀:=H0
 env:=compEnvC sc (clos X.env sc.names []) C X.env
 outer:=X.stack
 stack:=X.stack
 ex:=ex
 fn:=fun _=>false
 calm:=X.calm
 pn:=[]
 xe:=fun _ _=>False
def pick (src:List (Option Nat)) (σ:St):St:=src.map fun o=>match o with | some j=>(σ[j]?).getD none | none=>none
structure LcOk (X:Cx) (N:List Str) (sc:Scope) (src:List (Option Nat)):Prop where
 kind:sc.kind=.function
 nocell:∀ y∈sc.names,y.2 ≠ .cell
 own:∀ y∈sc.names,y.2=.local->sc.names.lookup y.1=some .local
 outs:∀ y∈sc.names,y.2=.free->X.env.kindOf y.1=some .cell\/X.env.kindOf y.1=some .free
 len:src.length=N.length
 from':∀ (i j:Nat),src[i]?=some (some j)->∃ x,N[i]?=some x/\X.N[j]?=some x/\sc.names.lookup x=some .free
theorem LcOk.clo {X:Cx} {N:List Str} {sc:Scope} {src:List (Option Nat)} (L:LcOk X N sc src) (ok:X.Ok):closureFor sc X.env=pure (clos X.env sc.names []) :=
 aig fun n hn=>ok.has n (L.outs (n,.free) hn rfl)
theorem at6 {X:Cx} {pins:List (Addr × Obj)} {σ:St} {H:Hp} {s:Shared} {N:List Str} {sc:Scope} {src:List (Option Nat)} {fp:List Addr} {h:Heap} {t':Nat}
  (L:LcOk X N sc src) (I:Inv X pins σ H s) (hf:∀ b∈fp,FpOk X pins H b) (f:∀ b∈fp,b < s.heap.objs.size)
  (hn:h.Ns s.heap.objs.size fun _=>none) (d:∀ b o,s.heap.get? b=some o->h.get? b=some o) :
  Inv (X.comp N sc s.heap.objs.size s H fp) [] (pick src σ) H { s with heap:=h,toks:=t' }:=by
 have look:∀ {x c},(clos X.env sc.names []).lookup x=some c->X.env.cells.lookup x=some c:=fun {x c} e=>by
  rcases aev e with z | z
  ·exact z
  ·simp at z
 refine ⟨⟨I.ok.mod,L.kind,I.ok.glob,I.ok.blt,aA6 _,fun x y c g e2=>?_,fun x K=>?_,fun x c z _=>?_,I.ok.hd,I.ok.frames,.inl rfl,fun b hb=>⟨?_,fun x c e=>?_⟩,I.bs,aC9 I.ok.bsz I.sz,fun b o e hb=>?_,fun b hb z=>?_,I.stack,I.stkFree⟩,
  rfl,I.bare,Un.kept d,⟨_,hn,fun i x v g e2 P=>?_⟩,fun x c e=>?_,I.hok.fresh (aA6 _),fun x c e=>I.freeC x c (look e),fun p F=>?_,I.hok.kept d,?_⟩
 ·exact I.ok.inj x y c (look g) (look e2)
 ·have q:=agh (env:=X.env) (x:=x) L.nocell K
  exact ael (I.ok.has x (L.outs (x,.free) (PySem.mem_of_lookup q) rfl)) (PySem.mem_of_lookup q)
 ·exact Bool.noConfusion z
 ·exact aB5 (f b hb)
 ·exact (hf b hb).2.2.2.2.1 x c (look e)
 ·rcases (hf b hb).2.2.2.1 with z | z
  ·exact I.ok.noex b o e z
  ·exact absurd (aC4 (aI4 e) (aC9 I.ok.bsz z)) (aF7 _)
 ·rcases aA8.mp (I.stkSub b z) with q | q
  ·exact (hf b hb).2.1 q
  ·exact (hf b hb).2.2.1 q
 ·unfold pick at e2
  rw [aA5] at e2
  cases q:src[i]? with
  | none=>rw [q] at e2;cases e2
  | some o =>
   rw [q] at e2
   cases o with
   | none=>cases e2
   | some j =>
    obtain ⟨y,D,G,n⟩:=L.from' i j q
    have A:N[i]?=some x:=g
    rw [A] at D
    cases D
    have J : σ[j]?=some (some v):=by
     cases q2 : σ[j]? with
     | none=>simp [q2] at e2
     | some z=>simp [q2] at e2;rw [e2]
    have f:=L.outs (x,.free) (PySem.mem_of_lookup n) rfl
    have w:Vis X.env.scope x:=by
     rcases f with z | z
     ·exact .inr (.inl z)
     ·exact .inr (.inr z)
    obtain ⟨m,_,M⟩:=I.loc
    obtain ⟨u,r,l⟩:=M j x v G J w
    refine ⟨u,r,.inr ⟨?_,?_⟩⟩
    ·exact aex (env:=X.env) n
    ·rcases l with ⟨z,_⟩ | ⟨_,c,C,oc,a,hd⟩
     ·rcases f with B | B <;> (rw [B] at z;cases z)
     ·obtain ⟨O,E⟩:=ael (env:=X.env) ⟨c,C⟩ (PySem.mem_of_lookup n) (cs:=[])
      have:=look E
      rw [C] at this;cases this
      exact ⟨c,E,oc,d c oc a,hd⟩
 ·obtain ⟨v,oc,a,hd⟩:=I.cell x c (look e)
  exact ⟨v,oc,d c oc a,hd⟩
 ·exact absurd (show p∈([]:List (Addr × Obj)) from F) (by simp)
 ·show (pick src σ).length=N.length
  unfold pick
  rw [aA3]
  exact L.len
def PIf (X:Cx) (ifs:List Expr) (t:TT):Prop :=
 ∀ (pins:List (Addr × Obj)) (s:Shared) (σ:St) (H:Hp) (Q:Bool->Hp->Prop),Inv X pins σ H s->t σ H Q ->
  wpAny (model X.prog X.w) X.A (forIn ifs true fun c r=>if r=true then do let ok ← isTrue c X.env (eval c X.env);pure (ForInStep.yield ok) else pure (ForInStep.yield r)) (TP X pins σ Q) X.xe s
def tYes:TT:=fun _ H Q=>Q true H
theorem ack {X:Cx}:PIf X [] tYes:=fun _ _ _ H _ I h=>wpAny_tests_nil ⟨H,I,h⟩
theorem aoi {X:Cx} {c:Expr} {t:TT} (h:PT X c t):PIf X [c] t:=fun pins s σ H Q I q=>wpAny_tests_one (h pins s σ H Q I q)
abbrev LW:=Nat->Nat->List V->St->Hp->Prop
def agi (J:It) (g:TG) (tif:TT) (te:TE) (acc:Addr) (Qd:List V->Hp->Prop) (W:LW):Prop:=∀ (i m:Nat) (ys:List V) (σ:St) (H:Hp),W i m ys σ H->H acc=some (.lst ys)/\((J.stop i H/\Qd ys H)\/(J.go i H /\
 ∃ Nx:List V->St->Hp->Prop,(∀ ys' σ' H',Nx ys' σ' H'->∃ m',m' < m/\W (i+1) m' ys' σ' H')/\∀ x H2,J.yld i H x H2 ->
 g x σ H2 fun σ3 H3=>tif σ3 H3 fun b H4=>if b=true then te σ3 H4 fun y H5=>H5 acc=some (.lst ys)/\ys.length < sizeLine/\Nx (ys ++ [y]) σ3 (upd H5 acc (.lst (ys ++ [y]))) else Nx ys σ3 H4))
theorem arx {X:Cx} {tg v C:Expr} {D:List Expr} {sc:Scope} {M:Pos} {J:It} {fp:List Addr} {it:Addr} {tn:Nat->Heap->Prop} {g:TG} {L:TT} {te:TE} {a:Addr} {Qd:List V->Hp->Prop} {W:LW} {R:Result->Shared->Prop}
  (T:Turn X.prog X.w X.K tg J fp it tn) (hc:X.calm=true) (l:∀ e s,¬ X.xe e s) (hg:PG X tg g) (a0:PIf X D L) (he:PE X C te)
  (P:agi J g L te a Qd W) (hR:∀ ys σ H s,Inv X [] σ H s->Qd ys H->R (.ok .next) s)
  {i m:Nat} {ys:List V} {σ:St} {H:Hp} {s:Shared} (I:Inv X [] σ H s) (st:tn i s.heap) (hf:∀ b∈fp,FpOk X [] H b) (w:W i m ys σ H) :
  codeAny (model X.prog X.w) X.A (.compLoop (.ListComp C [⟨tg,v,D,0⟩] sc M) 0 (.ref it) (.ref a) X.env) R s:=by
 have h:∀ {H':Hp},(∀ b∈fp,H' b=none)->∀ b∈fp,FpOk X [] H' b:=fun hn b hb=>⟨hn b hb,(hf b hb).2⟩
 refine codeAny_loop rfl (fun n j=>∃ i ys f H',Inv X [] f H' j/\tn i j.heap/\(∀ b∈fp,H' b=none)/\W i n ys f H') ?_ m ⟨i,ys,σ,H,I,st,fun b hb=>(hf b hb).1,w⟩
 rintro n s1 ⟨i,ys,c,U,I1,Q,N,w1⟩
 show wpAny _ X.A ((compTurn (.ListComp C [⟨tg,v,D,0⟩] sc M) 0 (.ref it) (.ref a) X.env).onRaise (fun x=>do noteFrame x X.env;theTreesLotGoes x)) _ _ s1
 refine wpAny_noted ?_
 rw [compTurn_list]
 refine aI1 (wpAny_standAt (aI1 ?_))
 obtain ⟨a3,⟨stop,qd⟩ | ⟨go,Nx,F,step⟩⟩:=P i n ys c U w1
 ·refine thn (T.done X rfl rfl rfl hc i [] s1 c U _ I1 (h N) Q stop) fun r s2 ⟨hr,I2⟩=>?_
  subst hr
  exact aI2 (hR ys c U s2 I2 qd)
 ·refine thn (T.item X rfl rfl rfl hc i [] s1 c U _ I1 (h N) Q go) fun r s2 ⟨u,hr,h2⟩=>?_
  subst hr
  refine aI1 (thn h2 fun _ s3 ⟨x,H3,I3,r3,y3,E,a2⟩=>?_)
  have a1:=I3.pinned (h a2) (T.obj _ _ E)
  refine aI1 (aI8 (hg _ s3 c H3 x u _ a1 r3 (step x H3 y3)) (fun _ s4 ⟨B,H4,I4,q4⟩=>?_) fun e j z=>(l e j z).elim)
  have q:∀ {p:St} {G:Hp} {S:Shared} {zs:List V},Inv X ([] ++ agd fp s3.heap) p G S->(∃ Z,Z < n/\W (i+1) Z zs p G)->∃ m,m < n/\∃ i ys f H',Inv X [] f H' S/\tn i S.heap/\(∀ b∈fp,H' b=none)/\W i m ys f H':=fun {p G S zs} O w7=>by
   obtain ⟨Z,hm,w7⟩:=w7
   refine ⟨Z,hm,i+1,zs,p,G,O.unpinned,T.keep _ _ _ E fun b hb o e=>(O.pin (b,o) (aB2 _ (aB2 _ (ad1 hb e)))).1,fun b hb=>?_,w7⟩
   obtain ⟨o,e,d⟩:=T.obj _ _ E b hb
   exact (O.pin (b,o) (aB2 _ (aB2 _ (ad1 hb e)))).2.1
  refine aI1 (aI8 (a0 _ s4 B H4 _ I4 q4) (fun b s5 ⟨H5,I5,Y⟩=>?_) fun e j z=>(l e j z).elim)
  cases b with
  | false =>
   rw [aE9 aA9] at Y
   exact aI2 ⟨rfl,q I5 (F _ _ _ Y)⟩
  | true =>
   rw [aE8 rfl] at Y
   refine aI1 (aI1 (aI8 (he _ s5 B H5 _ I5 Y) (fun yv s6 ⟨y,H6,I6,r6,a6,l6,w6⟩=>?_) fun e j z=>(l e j z).elim))
   have ap:=abu (X:=X) _ s6 B H6 (.ref a) [y] (.ref a) [yv] (fun _ H'=>H'=upd H6 a (.lst (ys ++ [y]))) I6 rfl (.cons r6 .nil) ⟨a,ys,y,rfl,rfl,a6,l6,rfl⟩
   refine aI1 (aI8 ap (fun _ S ⟨v7,G,O,_,e7⟩=>?_) fun e j z=>(l e j z).elim)
   subst e7
   exact aI2 (aI2 ⟨rfl,q O (F _ _ _ w6)⟩)
def tLC (src:List (Option Nat)) (wi:TI) (g:TG) (tif:TT) (te:TE):TE:=fun σ H Q=>wi σ H fun J H1=>∀ acc,H1 acc=none->∃ W:LW,(∃ m,W 0 m [] (pick src σ) (upd H1 acc (.lst [])))/\agi J g tif te acc (fun _ H'=>Q (.ref acc) H') W
section
variable {X:Cx} {N:List Str} {tg iter elt:Expr} {ifs:List Expr} {sc:Scope} {src:List (Option Nat)} {wi:TI} {g:TG} {tif:TT} {te:TE} {pos:Pos}
theorem aw1 (hc:X.calm=true) (L:LcOk X N sc src) (S:∀ C s0 q ex,PG (X.comp N sc C s0 q ex) tg g) (H:∀ C s0 q ex,PIf (X.comp N sc C s0 q ex) ifs tif) (U:∀ C s0 q ex,PE (X.comp N sc C s0 q ex) elt te)
  {pins:List (Addr × Obj)} {d:Shared} {σ:St} {H3:Hp} {Q:VK} (i:Inv X pins σ H3 d) {it a:Addr} {fp:List Addr} {J:It} {tn:Nat->Heap->Prop} (T:Turn X.prog X.w X.K tg J fp it tn) (D:tn 0 d.heap) (j:∀ b∈fp,FpOk X pins H3 b)
  {W:LW} {m0:Nat} (w0:W 0 m0 [] (pick src σ) H3) (s:agi J g tif te a (fun _ H'=>Q (.ref a) H') W) (use:Option (Value->Sem Unit)) (P:Value->Shared->Prop)
  (hP:∀ C H' f m,Inv X pins σ H' f->Q (.ref a) H'->f.heap.Ns C m->H' C=none->C ≠ X.env.locals->(C∈X.ex\/X.s₀.heap.objs.size<=C)->(∀ x c,X.env.cells.lookup x=some c->c ≠ C)->(∀ p∈X.pn ++ pins,p.1 ≠ C) ->
   compPost (model X.prog X.w) X.A X.xe use P (.ref a) C (.ok .next) f) :
  wpAny (model X.prog X.w) X.A (newFunctionEnv sc X.env.globals (clos X.env sc.names []) [] X.env.qual none .none (some X.env)) (fun h n =>
    codeAny (model X.prog X.w) X.A (.compStart (.ListComp elt [⟨tg,iter,ifs,0⟩] sc pos) 0 (.ref it) (.ref a) { h with scope:=relabel sc X.env }) (compPost (model X.prog X.w) X.A X.xe use P (.ref a) h.locals) n) X.xe d:=by
 refine wpAny_newFunctionEnv L.nocell (by intro y Y;simp at Y) (fun M E F=>?_) L.kind
 have R:∀ b∈fp,b < d.heap.objs.size:=fun b hb=>by
  obtain ⟨o,I,_⟩:=T.obj _ _ D b hb
  exact aI4 I
 have B:∀ b o,d.heap.get? b=some o->M.get? b=some o:=fun b o e=>F.extBut b o (aB5 (aI4 e)) (aI3 _ e)
 have G:=at6 (t':=d.toks+([]:List (Str × Value)).length) L i j R (by simpa using E) B
 have r:tn 0 M:=T.keep _ _ _ D fun b _ o e=>B b o e
 have f4:∀ b∈fp,FpOk (X.comp N sc d.heap.objs.size d H3 fp) [] H3 b:=fun b hb =>
  ⟨(j b hb).1,(G.ok.exf b hb).1,G.ok.exfs b hb,.inl hb,(G.ok.exf b hb).2,fun p O=>absurd (show p∈([]:List (Addr × Obj)) from O) (by simp)⟩
 have fin:∀ (ys:List V) u H' f,Inv (X.comp N sc d.heap.objs.size d H3 fp) [] u H' f->Q (.ref a) H'->compPost (model X.prog X.w) X.A X.xe use P (.ref a) d.heap.objs.size (.ok .next) f:=fun ys u H' f l q'=>by
  have Z:Inv X pins σ H' f:=i.call' (ch:=fp) l.os l.base l.hok l.bare fun b hb=>⟨(j b hb).2.2.2.1,(j b hb).2.1,(j b hb).2.2.2.2.1,(j b hb).2.2.2.2.2⟩
  obtain ⟨m,hn,_⟩:=l.loc
  refine hP _ H' f m Z q' hn l.free (Nat.ne_of_gt i.lt) (.inr i.sz) (fun x c e z=>?_) fun p O z=>?_
  ·obtain ⟨v,o,I,_⟩:=i.cell x c e
   exact absurd (aI4 I) (by rw [z];exact aF7 _)
  ·exact absurd (aI4 (i.pin p O).1) (by rw [z];exact aF7 _)
 have loop:codeAny (model X.prog X.w) X.A (.compLoop (.ListComp elt [⟨tg,iter,ifs,0⟩] sc pos) 0 (.ref it) (.ref a) (X.comp N sc d.heap.objs.size d H3 fp).env)
   (compPost (model X.prog X.w) X.A X.xe use P (.ref a) d.heap.objs.size) { d with heap:=M,toks:=d.toks+([]:List (Str × Value)).length } :=
  arx (X:=X.comp N sc d.heap.objs.size d H3 fp) T hc (fun _ _ z=>z) (S _ _ _ _) (H _ _ _ _) (U _ _ _ _) s fin G r f4 w0
 exact codeAny_compStart_list loop (T.self _ 0 _ _ _ r loop)
theorem al3 (F:X.calm=true) (L:LcOk X N sc src) (hi:PI X tg iter wi) (E:∀ C s0 f ex,PG (X.comp N sc C s0 f ex) tg g) (n:∀ C s0 f ex,PIf (X.comp N sc C s0 f ex) ifs tif) (R:∀ C s0 f ex,PE (X.comp N sc C s0 f ex) elt te)
  {pins:List (Addr × Obj)} {s:Shared} {σ:St} {H:Hp} {Q:VK} (I:Inv X pins σ H s) (h:tLC src wi g tif te σ H Q) (use:Option (Value->Sem Unit)) (P:Value->Shared->Prop)
  (M:∀ i C H' q m,Inv X pins σ H' q->Q (.ref i) H'->q.heap.Ns C m->H' C=none->C ≠ X.env.locals->(C∈X.ex\/X.s₀.heap.objs.size<=C)->(∀ x c,X.env.cells.lookup x=some c->c ≠ C)->(∀ p∈X.pn ++ pins,p.1 ≠ C) ->
   compPost (model X.prog X.w) X.A X.xe use P (.ref i) C (.ok .next) q)
  (z:∀ x,foldedSetIterable iter X.env x=pure x) :
  wpAny (model X.prog X.w) X.A (comprehension (.ListComp elt [⟨tg,iter,ifs,0⟩] sc pos) sc X.env (firstIterPos [⟨tg,iter,ifs,0⟩] pos) (newList []) false (eval iter X.env) use) P X.xe s:=by
 refine wpAny_comprehension_free rfl z (L.clo I.ok) L.kind L.own (thn (hi pins s σ H _ I h) fun v s1 D=>thn D fun S s2 G=>?_)
 obtain ⟨it,fp,tn,J,H2,e,y,T,j,r,K⟩:=G
 subst e
 have d:H2 s2.heap.objs.size=none:=y.hok.fresh (aA6 _)
 obtain ⟨W,⟨U,B⟩,a⟩:=K s2.heap.objs.size d
 have l:∀ b∈fp,b < s2.heap.objs.size:=fun b hb=>by
  obtain ⟨o,O,_⟩:=T.obj _ _ j b hb
  exact aI4 O
 refine aI9 ?_
 refine aw1 F L E n R (H3:=upd H2 s2.heap.objs.size (.lst [])) ?_ T ?_ ?_ B a use P (M _)
 ·exact y.laid (t':=s2.toks) (fun b u e=>aI3 _ e) (aA6 _) ⟨aF3 _,[],0,.nil,aI5 _ rfl⟩
 ·exact T.keep _ _ _ j fun b _ o e=>aI3 _ e
 ·exact fun b hb=>⟨by rw [aae (aB5 (l b hb))];exact (r b hb).1,(r b hb).2⟩
theorem adp (p:X.calm=true) (L:LcOk X N sc src) (hi:PI X tg iter wi) (n:∀ C s0 a ex,PG (X.comp N sc C s0 a ex) tg g) (d:∀ C s0 a ex,PIf (X.comp N sc C s0 a ex) ifs tif) (r:∀ C s0 a ex,PE (X.comp N sc C s0 a ex) elt te)
  (i:∀ x,foldedSetIterable iter X.env x=pure x:=by intro _;rfl):PE X (.ListComp elt [⟨tg,iter,ifs,0⟩] sc pos) (tLC src wi g tif te):=by
 intro pins s σ H Q I h
 rw [eval_ListComp]
 refine al3 p L hi n d r I h none _ (fun f C H' w m J q hn u l v c j=>?_) i
 refine ⟨m,hn,fun h' sb=>⟨.ref f,H',?_,rfl,q⟩⟩
 exact J.turned (t':=w.toks) (fun b o hb e=>sb.extBut b o hb e) u l v c j
end
section
variable {X:Cx} {N:List Str} {tg iter elt:Expr} {ifs:List Expr} {sc:Scope} {src:List (Option Nat)} {wi:TI} {g:TG} {tif:TT} {te:TE} {pos spos px:Pos}
theorem al4 {i:Nat} {x:Str} (O:X.N.Nodup) (r:X.N[i]?=some x) (R:Loc X.env.scope x) (G:X.calm=true) (L:LcOk X N sc src) (hi:PI X tg iter wi) (K:∀ C s0 d ex,PG (X.comp N sc C s0 d ex) tg g)
  (u:∀ C s0 d ex,PIf (X.comp N sc C s0 d ex) ifs tif) (P:∀ C s0 d ex,PE (X.comp N sc C s0 d ex) elt te)
  (n:swapsWith (.ListComp elt [⟨tg,iter,ifs,0⟩] sc pos) (some (.Name x px)) spos.line X.env=pure true:=by rfl)
  (hf:X.fn x=true\/X.env.scope.names.lookup x=some .local:=by first | exact .inl rfl | exact .inr rfl | assumption)
  (E:∀ x,foldedSetIterable iter X.env x=pure x:=by intro _;rfl):PS X (.Assign [.Name x px] (.ListComp elt [⟨tg,iter,ifs,0⟩] sc pos) spos) (tAsg (tLC src wi g tif te) (abl i)):=by
 intro pins s σ H D I h
 rw [exec_Assign_Name_used _ _ _ _ n]
 refine aI1 (wpAny_standAt (aI1 ?_))
 show wpAny _ X.A (do let _ ← comprehension (.ListComp elt [⟨tg,iter,ifs,0⟩] sc pos) sc X.env _ (newList []) false (eval iter X.env) (some (assign (.Name x px) X.env))) _ _ s
 refine aI1 (aI8 (al3 G L hi K u P I h (some (assign (.Name x px) X.env)) (fun _ w=>SP X pins D .next w) (fun f C H' w m J q hn Q y j c F=>?_) E) (fun _ w M=>aI2 (aI2 M)) fun _ _ e=>e)
 show wpAny _ X.A (assign (.Name x px) X.env (.ref f)) _ _ _
 refine wpAny_assign_Name (aj2 J O r R (v:=.ref f) rfl (fun s2 B ⟨a,sb,ha⟩=>?_) hf)
 have p:C ≠ a:=by
  rcases ha with z | z
  ·rw [z];exact y
  ·exact (c x a z).symm
 refine ⟨m,hn.sameBut sb p,fun h' l=>⟨_,H',?_,q⟩⟩
 exact B.turned (t':=s2.toks) (fun b o hb e=>l.extBut b o hb e) Q y j c F
end
section
variable {g:TG} {tif:TT} {te:TE} {acc:Addr} {Qd:List V->Hp->Prop} {σ0:St} {H0:Hp}
theorem at7 {lo:Int} {n:Nat} (c:Nat->List V->St->Hp->Prop) (j:c 0 [] σ0 H0) (ha:∀ i ys σ H,c i ys σ H->H acc=some (.lst ys))
  (h:∀ i ys σ H,i < n->c i ys σ H->g (.int (lo+i)) σ H fun a H3=>tif a H3 fun b d=>if b=true then te a d fun y f=>f acc=some (.lst ys)/\ys.length < sizeLine/\c (i+1) (ys ++ [y]) a (upd f acc (.lst (ys ++ [y]))) else c (i+1) ys a d)
  (hd:∀ ys σ H,c n ys σ H->Qd ys H):∃ W:LW,(∃ m,W 0 m [] σ0 H0)/\agi (Itr lo n) g tif te acc Qd W:=by
 refine ⟨fun i m ys σ H=>m=n - i/\i<=n/\c i ys σ H,⟨n,by simp,aF3 _,j⟩,?_⟩
 rintro i m ys σ H ⟨rfl,hi,p⟩
 refine ⟨ha i ys σ H p,?_⟩
 by_cases hlt:i < n
 ·refine .inr ⟨hlt,c (i+1),fun o l H' q=>⟨n - (i+1),by omega,rfl,hlt,q⟩,fun x H' y=>?_⟩
  obtain ⟨e,y⟩:=y
  subst e y
  exact h i ys σ _ hlt p
 ·have e:i=n:=by omega
  subst e
  exact .inl ⟨aA6 _,hd ys σ H p⟩
end
section
variable {X:Cx} {N:List Str} {t1 i1 t2 i2 elt:Expr} {f1 f2:List Expr} {sc:Scope} {src:List (Option Nat)} {wi wi2:TI} {g g2:TG} {tif tif2:TT} {te:TE} {pos:Pos}
end
def rLen (K:Frag):List V->Hp->VK->Prop:=fun xs H Q=>∃ p ys,xs=[.ref p]/\(SqL K H p ys\/SqT K H p ys)/\Q (.int ys.length) H
theorem abv {X:Cx}:abb X (.builtin "len") (rLen X.K):=als
def ala:List V->Hp->VK->Prop:=fun xs H Q=>∃ i j,xs=[.int i,.int j]/\Q (.int (if j > i then j else i)) H
def alb:List V->Hp->VK->Prop:=fun xs H Q=>∃ i j,xs=[.int i,.int j]/\Q (.int (if j < i then j else i)) H
theorem ace {X:Cx} (a:X.calm=true):abb X (.builtin "max") ala:=ara a
theorem acf {X:Cx} (a:X.calm=true):abb X (.builtin "min") alb:=arb a
def alc:List V->Hp->VK->Prop:=fun xs H Q=>(∃ i,xs=[.int i]/\Q (.int i) H)\/∃ k,xs=[.bl k]/\Q (.int (if k then 1 else 0)) H
theorem aih {X:Cx}:abb X (.type "int") alc:=arc
section
variable {σ:St} {H:Hp} {D:Ends} {K:Frag}
theorem azg {t u:TS} (h:t { D with nx:=u D } σ H):tSeq t u D σ H:=h
theorem azh {te:TE} {g:TG} (h:te σ H fun x a=>g x σ a D.nx):tAsg te g D σ H:=h
theorem azi {te:TE} (h:te σ H D.rt):tRet te D σ H:=h
theorem aw2 {te:TE} (h:te σ H fun _ a=>D.nx σ a):apr te D σ H:=h
theorem aw3 (h:D.nx σ H):apq D σ H:=h
theorem azj {c:TT} {t u:TS} (h:c σ H fun b a=>if b=true then t D σ a else u D σ a):tIfS c t u D σ H:=h
theorem ajb {i:Nat} {v:V} {Q:St->Hp->Prop} (h:Q (σ.set i (some v)) H):abl i v σ H Q:=h
theorem aw4 {to a:TE} {t:TSet} {v:V} {Q:St->Hp->Prop} (h:to σ H fun o b=>a σ b fun i H2=>t o i v H2 fun H3=>Q σ H3):gSub to a t v σ H Q:=h
theorem ary {i:Nat} {v:V} {Q:VK} (a : σ[i]?=some (some v)) (h:Q v H):tVar i σ H Q:=⟨v,a,h⟩
theorem go_c {v:V} {Q:VK} (h:Q v H):tC v σ H Q:=h
theorem a1h {r:R2} {b a:TE} {Q:VK} (h:b σ H fun x c=>a σ c fun y H2=>r x y H2 Q):tOp r b a σ H Q:=h
theorem aw5 {t:TE} {Q:Bool->Hp->Prop} (h:t σ H fun x H'=>∃ k,x=.bl k/\Q k H'):apw t σ H Q:=h
theorem a1i {k:Bool} {Q:Bool->Prop} (h:Q k):∃ a,V.bl k=.bl a/\Q a:=⟨k,rfl,h⟩
theorem azk {t u:TT} {Q:Bool->Hp->Prop} (h:t σ H fun c a=>if c=true then u σ a Q else Q false a):tAnd t u σ H Q:=h
theorem ajc {a:TE} {tr:TA} {Q:List V->Hp->Prop} (h:a σ H fun x b=>tr σ b fun xs H2=>Q (x :: xs) H2):aa3 a tr σ H Q:=h
theorem agj {Q:List V->Hp->Prop} (h:Q [] H):tNil σ H Q:=h
theorem azl {t:TA} {Q:VK} (h:t σ H fun xs a=>xs.length<=sizeLine/\∀ p,a p=none->Q (.ref p) (upd a p (.tup xs))):tTup t σ H Q:=h
theorem arz {t:TA} {Q:VK} (h:t σ H fun xs a=>xs.length<=sizeLine/\∀ p,a p=none->Q (.ref p) (upd a p (.lst xs))):tLst t σ H Q:=h
theorem a1j {r:List V->Hp->VK->Prop} {t:TA} {Q:VK} (h:t σ H fun vs a=>r vs a Q):tCB r t σ H Q:=h
theorem aw6 {sp:Sp} {E:XK} {t:TA} {Q:VK} (h:t σ H fun vs a=>sp vs a Q E):abw sp [] E t σ H Q:=by
 unfold abw
 simp only [aE4]
 exact h
theorem go_I {C:Int->Int->Prop} {g:Int->Int->V} {i j:Int} {Q:VK} (a:C i j) (h:Q (g i j) H):rI C g (.int i) (.int j) H Q:=⟨i,j,rfl,rfl,a,h⟩
theorem a1k {g:Int->Int->V} {i j:Int} {Q:VK} (h:Q (g i j) H):rI0 g (.int i) (.int j) H Q:=⟨i,j,rfl,rfl,h⟩
theorem ar0 {i j:Int} {Q:VK} (h:Q (.bl (decide (i=j))) H):rEq (.int i) (.int j) H Q:=by
 have e:decide (V.int i=V.int j)=decide (i=j):=by rw [agx];exact Bool.beq_eq_decide_eq i j
 exact ⟨rfl,by rw [e];exact h⟩
theorem azm {i j:Int} {Q:VK} (h:Q (.bl (!decide (i=j))) H):rNe (.int i) (.int j) H Q:=by
 have e:decide (V.int i=V.int j)=decide (i=j):=by rw [agx];exact Bool.beq_eq_decide_eq i j
 exact ⟨rfl,by rw [e];exact h⟩
theorem azn {a:Addr} {xs:List V} {i:Int} {v:V} {Q:VK} (ha:H a=some (.lst xs)) (b:atI xs i=some v) (h:Q v H):rIxL K (.ref a) (.int i) H Q:=⟨a,xs,i,v,rfl,rfl,SqL.of ha,b,h⟩
theorem azo {a:Addr} {xs:List V} {i:Int} {v:V} {Q:VK} (ha:H a=some (.tup xs)) (b:atI xs i=some v) (h:Q v H):rIxT K (.ref a) (.int i) H Q:=⟨a,xs,i,v,rfl,rfl,SqT.of ha,b,h⟩
theorem aoj {a:Addr} {xs:List V} {k:Int} {j:Nat} {v:V} {Q:Hp->Prop} (ha:H a=some (.lst xs)) (b:ixN xs.length k=some j) (h:Q (upd H a (.lst (xs.set j v)))):ap5 (.ref a) (.int k) v H Q:=⟨a,xs,k,j,rfl,rfl,ha,b,h⟩
theorem aey {a:Addr} {xs:List V} {y:V} {Q:VK} (ha:H a=some (.lst xs)) (b:xs.length < sizeLine) (h:Q .non (upd H a (.lst (xs ++ [y])))):ad7 (.ref a) [y] H Q:=⟨a,xs,y,rfl,rfl,ha,b,h⟩
theorem ar1 {a b:Addr} {xs c:List V} {Q:VK} (ha:H a=some (.lst xs)) (hb:H b=some (.lst c)) (d:xs.length+c.length<=sizeLine) (h:Q .non (upd H a (.lst (xs ++ c)))):aja (.ref a) [.ref b] H Q:=⟨a,b,xs,c,rfl,rfl,ha,hb,d,h⟩
theorem azp {r:V->List V->Hp->VK->Prop} {to:TE} {t:TA} {Q:VK} (h:to σ H fun x a=>tyV K "list" x a/\t σ a fun xs H2=>r x xs H2 Q):tBM K "list" r to t σ H Q:=h
theorem azq {a b:Addr} {xs c:List V} {Q:VK} (ha:H a=some (.lst xs)) (hb:H b=some (.lst c)) (d:xs.length+c.length<=sizeLine) (h:∀ p,H p=none->Q (.ref p) (upd H p (.lst (xs ++ c)))):rCat (.ref a) (.ref b) H Q:=⟨a,b,xs,c,rfl,rfl,ha,hb,d,h⟩
theorem aok {a:Addr} {xs:List V} {Q:VK} (ha:H a=some (.lst xs)) (h:Q (.int xs.length) H):rLen K [.ref a] H Q:=⟨a,xs,rfl,.inl (SqL.of ha),h⟩
theorem aw7 {a:Addr} {xs:List V} {Q:VK} (ha:H a=some (.tup xs)) (h:Q (.int xs.length) H):rLen K [.ref a] H Q:=⟨a,xs,rfl,.inr (SqT.of ha),h⟩
theorem aol {i j:Int} {Q:VK} (h:Q (.int (if j > i then j else i)) H):ala [.int i,.int j] H Q:=⟨i,j,rfl,h⟩
theorem aom {i j:Int} {Q:VK} (h:Q (.int (if j < i then j else i)) H):alb [.int i,.int j] H Q:=⟨i,j,rfl,h⟩
theorem aon {k:Bool} {Q:VK} (h:Q (.int (if k then 1 else 0)) H):alc [.bl k] H Q:=.inr ⟨k,rfl,h⟩
theorem ajd {c:Prop} [Decidable c] {A B:Prop} (a:c) (h:A):if decide c=true then A else B:=by rw [aD6 a];exact iteT h
theorem aje {c:Prop} [Decidable c] {A B:Prop} (a:¬ c) (h:B):if decide c=true then A else B:=by rw [aD5 a];exact iteF h
theorem adc {c:Prop} [Decidable c] {A B:Prop} (b:c->A) (a:¬ c->B):if decide c=true then A else B:=by
 by_cases hc:c
 ·exact ajd hc (b hc)
 ·exact aje hc (a hc)
theorem aw8 {c:Prop} [Decidable c] {A B:Prop} (b:¬ c->A) (a:c->B):if (!decide c)=true then A else B:=by
 by_cases hc:c
 ·rw [aD6 hc];exact iteF (a hc)
 ·rw [aD5 hc];exact iteT (b hc)
theorem at0 {x:V} {xs:List V}:atI (x :: xs) 0=some x:=ad6 (j:=0) rfl
theorem at1 {x y:V} {xs:List V}:atI (x :: y :: xs) 1=some y:=ad6 (j:=1) rfl
theorem at2 {x y z:V} {xs:List V}:atI (x :: y :: z :: xs) 2=some z:=ad6 (j:=2) rfl
theorem ixN0 {n:Nat}:ixN (n+1) 0=some 0:=by unfold ixN;rw [aE8 (by decide),aE8 (by omega)];rfl
theorem ixN1 {n:Nat}:ixN (n+2) 1=some 1:=by unfold ixN;rw [aE8 (by decide),aE8 (by omega)];rfl
theorem ixN2 {n:Nat}:ixN (n+3) 2=some 2:=by unfold ixN;rw [aE8 (by decide),aE8 (by omega)];rfl
end
structure CallOk (P:Program) (w:World) (K:Frag) (mg:Str->Option Value) (base:Heap) (x:Str) (k:Nat) (ps:List Str) (sp:Sp) (f:Addr) (fd:FuncData):Prop where
 ok:FnOk P w K mg base CX0 k f fd ps sp
 mgx:mg x=some (.ref f)
 kp:keepIn K (.ref f)=true
 bd:Binds K fd ps []
def Can (P:Program) (w:World) (K:Frag) (mg:Str->Option Value) (base:Heap) (x:Str) (k:Nat) (ps:List Str) (sp:Sp):Prop:=∃ f fd,CallOk P w K mg base x k ps sp f fd
structure DefAt (K:Frag) (mg:Str->Option Value) (x:Str) (st:Stmt) (ps:List Str) (f:Addr) (fd:FuncData):Prop where
 fn:Fun K x x st f fd
 mgx:mg x=some (.ref f)
 bd:Binds K fd ps []
theorem DefAt.can {P:Program} {w:World} {K:Frag} {mg:Str->Option Value} {base:Heap} {x:Str} {st:Stmt} {k:Nat} {ps:List Str} {sp:Sp} {f:Addr} {fd:FuncData} (D:DefAt K mg x st ps f fd) (ok:FnOk P w K mg base CX0 k f fd ps sp):Can P w K mg base x k ps sp :=
 ⟨f,fd,ok,D.mgx,D.fn.kp,D.bd⟩
section
variable {X:Cx} {k j:Nat} {ps:List Str} {sp:Sp} {x:Str} {p pos:Pos} {e:Expr} {es:List Expr} {t:TA}
theorem aah (F:Can X.prog X.w X.K X.mg X.base x k ps sp) (c:Room j X.A) (ha:PA X (e :: es) t) (g:k<=j:=by decide) (d:Gl X x:=by rfl) (a:(x == ("__debug__" : Str))=false:=by decide)
  (h:starEach (e :: es) X.env=(false,eval e X.env) :: starEach es X.env:=by rfl) (b:(backTo pos (starEach es X.env)).any (·.1)=false:=by rfl) :
  PE X (.Call (.Name x p) (e :: es) [] pos) (abw sp [] E0 t):=by
 obtain ⟨f,fd,C⟩:=F
 exact aws C.ok (c.mono g) d C.mgx C.kp C.bd .nil ak9 ha a h b
end
theorem ab0 {X:Cx} {N:List Str} {sc:Scope} {src:List (Option Nat)} (h:sc.kind=.function) (l:sc.names.all (fun y=>y.2 != .cell)=true) (g:sc.names.all (fun y=>y.2 != .local || sc.names.lookup y.1 == some .local)=true)
  (d:sc.names.all (fun y=>y.2 != .free || X.env.kindOf y.1 == some .cell || X.env.kindOf y.1 == some .free)=true) (f:src.length=N.length)
  (c:(List.range src.length).all (fun i=>match src[i]? with | some (some j)=>(match N[i]?,X.N[j]? with | some x,some y=>x == y && sc.names.lookup x == some .free | _,_=>false) | _=>true)=true):LcOk X N sc src:=by
 refine ⟨h,fun y a e=>?_,fun y a e=>?_,fun y a e=>?_,f,fun i j e=>?_⟩
 ·have:=aE7.mp l y a
  rw [e] at this
  exact absurd this (by decide)
 ·have:=aE7.mp g y a
  rw [e] at this
  simpa using this
 ·have:=aE7.mp d y a
  rw [e] at this
  simpa using this
 ·have hi:i < src.length:=(aA1.mp e).1
  have:=aE7.mp c i (aB8.mpr hi)
  rw [e] at this
  dsimp only at this
  cases h7:N[i]? with
  | none=>rw [h7] at this;cases this
  | some x =>
   cases h8:X.N[j]? with
   | none=>rw [h7,h8] at this;cases this
   | some y =>
    rw [h7,h8] at this
    simp only [aG4] at this
    have b:x=y:=by simpa using this.1
    subst b
    exact ⟨x,rfl,rfl,by simpa using this.2⟩
section
variable {σ:St} {H:Hp} {D:Ends} {K:Frag}
def ForW (J:It) (g:TG) (tb:TS) (D:Ends) (σ:St) (H1:Hp):Prop:=∃ W:Nat->Nat->St->Hp->Prop,(∃ m,W 0 m σ H1)/\∀ i m σ H,W i m σ H ->
 (J.stop i H/\D.nx σ H)\/(J.go i H/\∃ N:St->Hp->Prop,(∀ σ' H',N σ' H'->∃ m',m' < m/\W (i+1) m' σ' H')/\∀ x H',J.yld i H x H'->g x σ H' fun σ2 H2=>tb { D with nx:=N,ct:=N,bk:=D.nx } σ2 H2)
theorem azr {b:TI} {g:TG} {a:TS} (h:b σ H fun J c=>ForW J g a D σ c):tFor b g a D σ H:=h
def LcW (J:It) (g:TG) (tif:TT) (te:TE) (σ0:St) (Q:VK) (H1:Hp):Prop:=∀ acc,H1 acc=none->∃ W:LW,(∃ m,W 0 m [] σ0 (upd H1 acc (.lst [])))/\agi J g tif te acc (fun _ H'=>Q (.ref acc) H') W
theorem a1l {src:List (Option Nat)} {b:TI} {g:TG} {a:TT} {te:TE} {Q:VK} (h:b σ H fun J c=>LcW J g a te (pick src σ) Q c):tLC src b g a te σ H Q:=h
def av9 (R:It->Hp->Prop):List V->Hp->Prop:=fun vs H1=>∃ j:Int,vs=[.int j]/\-(2 ^ 62)<=j/\j < 2 ^ 62/\R (Itr 0 j.toNat) H1
theorem at8 {a:TA} {R:It->Hp->Prop} (h:a σ H (av9 R)):apt a σ H R:=h
theorem aoo {R:It->Hp->Prop} {j:Int} (b:0<=j) (a:j < 2 ^ 62) (h:R (Itr 0 j.toNat) H):av9 R [.int j] H:=⟨j,rfl,by omega,a,h⟩
theorem azs {a:Addr} {xs:List V} {i:Int} {v:V} {Q:VK} (ha:SqL K H a xs) (b:atI xs i=some v) (h:Q v H):rIxL K (.ref a) (.int i) H Q:=⟨a,xs,i,v,rfl,rfl,ha,b,h⟩
theorem aop {a:Addr} {xs:List V} {Q:VK} (ha:SqL K H a xs) (h:Q (.int xs.length) H):rLen K [.ref a] H Q:=⟨a,xs,rfl,.inl ha,h⟩
theorem azt {a:Addr} {xs:List V} {R:Prop} (ha:H a=some (.lst xs)) (h:R):tyV K "list" (.ref a) H/\R:=⟨.inl ⟨rfl,_,SqL.of ha⟩,h⟩
theorem al5 {Q:Bool->Hp->Prop} (h:Q true H):tYes σ H Q:=h
theorem at9 {a:Addr} {xs:List V} {i:Int} {k:Nat} {y:V} {Q:VK} (ha:H a=some (.lst xs)) (f : -(2 ^ 63)<=i) (b:i < 2 ^ 63) (d:seqIndex? i xs.length=some k) (c:xs[k]?=some y) (h:Q y (upd H a (.lst (xs.eraseIdx k)))):alv (.ref a) [.int i] H Q :=
 ⟨a,xs,i,k,y,rfl,rfl,ha,f,b,d,c,h⟩
end
end L2
namespace L2
open PySem
theorem aca:bootBuiltins "len" = some (.builtin "len"):=by decide +kernel
theorem acr:bootBuiltins "max" = some (.builtin "max"):=by decide +kernel
theorem adu:bootBuiltins "min" = some (.builtin "min"):=by decide +kernel
theorem ar2:bootBuiltins "sum" = some (.builtin "sum"):=by decide +kernel
theorem ac9:bootBuiltins "sorted" = some (.builtin "sorted"):=by decide +kernel
theorem abp:bootBuiltins "isinstance" = some (.builtin "isinstance"):=by decide +kernel
theorem ar3:bootBuiltins "all" = some (.builtin "all"):=by decide +kernel
theorem al6:bootBuiltins "int" = some (.type "int"):=by decide +kernel
theorem ad8:bootBuiltins "list" = some (.type "list"):=by decide +kernel
theorem aw9:bootBuiltins "dict" = some (.type "dict"):=by decide +kernel
theorem aho:bootBuiltins "tuple" = some (.type "tuple"):=by decide +kernel
theorem aoq:bootBuiltins "bool" = some (.type "bool"):=by decide +kernel
end L2
namespace TS
open PySem PyProof.Rows
def ajf:Bool->Keyed->Array Keyed->Nat->Nat->Nat->StateT SortSt Sem (Option Nat):=sortPriv% PySem.Builtin.gallop
def aua:Array Keyed->Array Keyed->StateT SortSt Sem (Array Keyed):=sortPriv% PySem.Builtin.mergeLo
def aub:Array Keyed->Array Keyed->StateT SortSt Sem (Array Keyed):=sortPriv% PySem.Builtin.mergeHi
def al7:Nat->StateT SortSt Sem Bool:=sortPriv% PySem.Builtin.mergeAt
def axa:Nat->Nat->StateT SortSt Sem (Option Nat):=sortPriv% PySem.Builtin.countRun
def auc:Nat->Nat->Nat->StateT SortSt Sem Bool:=sortPriv% PySem.Builtin.binarySort
def a1m:StateT SortSt Sem Unit:=sortPriv% PySem.Builtin.sortRuns
structure Cmp (M:Model) (A:Around) (E:Value->Shared->Prop) (s:Shared) (κ:SortKind) (S:Keyed->Prop) (R:Keyed->Keyed->Bool):Prop where
 ask:∀ x y,S x->S y->∀ (Q:Option Bool->SortSt->Prop) (st:SortSt),kindOf st = κ->Q (some (R x y)) st->wpS M A E s (lt' x y) Q st
 asy:∀ x y,S x->S y->R x y=true->R y x=false
 tr:∀ x y z,S x->S y->S z->R y x=false->R z y=false->R z x=false
section
variable {M:Model} {A:Around} {E:Value->Shared->Prop} {s:Shared} {κ:SortKind} {S:Keyed->Prop} {R:Keyed->Keyed->Bool}
theorem aaz {arr:Array Keyed} {i:Nat} {x:Keyed} {Q:Keyed->SortSt->Prop} {st:SortSt} (a:arr[i]?=some x) (h:Q x st):wpS M A E s (elem' arr i) Q st:=by
 rw [elem'_eq,a]
 exact wpS_pure h
theorem adm {x:String} {Q:Unit->SortSt->Prop} {st:SortSt} (h:Q () st):wpS M A E s (liftM (PySem.rule x):StateT SortSt Sem Unit) Q st :=
 wpS_lift (wpAny_rule ⟨rfl,h⟩)
def bey (left:Bool) (key:Keyed) (arr:Array Keyed) (base i:Nat):StateT SortSt Sem (Option Bool):=do
 let x ← elem' arr (base+i)
 if left=true then lt' x key else do
  let r ← lt' key x
  pure (Option.map (fun b => !b) r)
theorem akb {left:Bool} {p:Keyed} {arr:Array Keyed} {base n a:Nat} {B:Nat->Bool}
  (hb:∀ i,i < n->∀ (Q:Option Bool->SortSt->Prop) (st:SortSt),kindOf st = κ->Q (some (B i)) st->wpS M A E s (bey left p arr base i) Q st)
  (mono:∀ i j,i < j->j < n->B j=true->B i=true) (hh:a < n) {Q:Option Nat->SortSt->Prop} {st:SortSt} (x:kindOf st = κ)
  (h:∀ k,k<=n->(∀ i,i < k->B i=true)->(∀ i,k<=i->i < n->B i=false)->Q (some k) st):wpS M A E s (ajf left p arr base n a) Q st:=by
 have c:∀ i j,i < j->j < n->B i=false->B j=false:=fun i j y I hi=>by
  cases e:B j with
  | false=>rfl
  | true=>rw [mono i j y I e] at hi;cases hi
 -- the last loop
 have last:∀ (lo hi:Nat) (F:Option (Option Nat) × Nat × Nat->StateT SortSt Sem (Option Nat)),lo<=hi->hi<=n->(∀ i,i < lo->B i=true)->(∀ i,hi<=i->i < n->B i=false) ->
   (∀ lo hi,F (none,lo,hi)=pure (some hi)) ->
   wpS M A E s (forIn [:n] ((none,lo,hi):Option (Option Nat) × Nat × Nat) (fun (_:Nat) z=>if z.2.1 ≥ z.2.2 then pure (ForInStep.done (none,z.2.1,z.2.2)) else bey left p arr base (z.2.1+(z.2.2 - z.2.1) / 2) >>= fun r=>match r with
    | some more=>if more=true then pure (ForInStep.yield (none,z.2.1+(z.2.2 - z.2.1) / 2+1,z.2.2)) else pure (ForInStep.yield (none,z.2.1,z.2.1+(z.2.2 - z.2.1) / 2))
    | _=>pure (ForInStep.done (some none,z.2.1,z.2.2))) >>= F) Q st:=by
  intro lo hi F G H L J D
  refine wpS_bind (wpS_forRange (fun t z st'=>st'=st/\z.1=none/\z.2.1<=z.2.2/\z.2.2<=n/\z.2.2 - z.2.1+t<=n/\(∀ i,i < z.2.1->B i=true)/\(∀ i,z.2.2<=i->i < n->B i=false)) ?_ ?_ ⟨rfl,rfl,G,H,by dsimp only;omega,L,J⟩)
  ·rintro t ⟨o,l,u⟩ st' _ C ⟨rfl,e,q,d,b,g,w⟩
   dsimp only at e q d b g w ⊢
   subst e
   by_cases hlu:l ≥ u
   ·rw [aE8 hlu]
    have:l=u:=by omega
    subst this
    exact wpS_pure (by dsimp only;rw [D];exact wpS_pure (h l d g w))
   ·rw [aE9 hlu]
    have hm:l+(u - l) / 2 < u:=by omega
    refine wpS_bind (hb _ (by omega) _ _ x ?_)
    dsimp only
    cases e:B (l+(u - l) / 2) with
    | true =>
     rw [aE8 rfl]
     refine wpS_pure ⟨rfl,rfl,by dsimp only;omega,d,by dsimp only;omega,fun i hi=>?_,w⟩
     dsimp only at hi
     by_cases hi2:i=l+(u - l) / 2
     ·rw [hi2];exact e
     ·exact mono i _ (by omega) (by omega) e
    | false =>
     rw [aE9 (by simp)]
     refine wpS_pure ⟨rfl,rfl,by dsimp only;omega,by dsimp only;omega,by dsimp only;omega,g,fun i hi hn=>?_⟩
     dsimp only at hi
     by_cases hi2:i=l+(u - l) / 2
     ·rw [hi2];exact e
     ·exact c _ i (by omega) hn e
  ·rintro ⟨o,l,u⟩ st' ⟨rfl,e,q,d,b,g,w⟩
   dsimp only at e q d b g w ⊢
   subst e
   have : l = u := by have:n ≤ max 0 n := by omega
                      omega
   subst this
   rw [D]
   exact wpS_pure (h l d g w)
 refine wpS_bind (f:=fun K=>_) (m:=bey left p arr base a) (hb a hh _ st x ?_)
 dsimp only
 cases e0:B a with
 | true =>
  rw [aE8 rfl]
  refine wpS_bind ?_
  refine wpS_forRange (fun t (z:Option (Option Nat) × Nat × Nat) st'=>st'=st/\z.1=none/\z.2.1 < z.2.2/\a+z.2.1 < n/\B (a+z.2.1)=true/\t+1<=z.2.2) ?_ ?_ ⟨rfl,rfl,by decide,by dsimp only;omega,e0,Nat.le_refl _⟩
  ·rintro t ⟨o,l,u⟩ st' _ C ⟨rfl,e,q,d,b,g⟩
   dsimp only at e q d b g ⊢
   subst e
   by_cases hu:u ≥ n - a
   ·rw [aE8 hu]
    refine wpS_pure ?_
    dsimp only
    refine last _ _ _ (by omega) (by omega) (fun i hi=>?_) (fun i hi hn=>by omega) (fun _ _=>rfl)
    by_cases hi2:i=a+l
    ·rw [hi2];exact b
    ·exact mono i _ (by omega) d b
   ·rw [aE9 hu]
    refine wpS_bind (m:=bey left p arr base (a+u)) (hb _ (by omega) _ _ x ?_)
    dsimp only
    cases e1:B (a+u) with
    | true =>
     rw [aE9 (by decide)]
     exact wpS_pure ⟨rfl,rfl,by dsimp only;omega,by dsimp only;omega,e1,by dsimp only;omega⟩
    | false =>
     rw [aE8 (by decide)]
     refine wpS_pure ?_
     dsimp only
     refine last _ _ _ (by omega) (by omega) (fun i hi=>?_) (fun i hi hn=>?_) (fun _ _=>rfl)
     ·by_cases hi2:i=a+l
      ·rw [hi2];exact b
      ·exact mono i _ (by omega) d b
     ·by_cases hi2:i=a+u
      ·rw [hi2];exact e1
      ·exact c _ i (by omega) hn e1
  ·rintro ⟨o,l,u⟩ st' ⟨rfl,e,q,d,b,g⟩
   dsimp only at e q d b g ⊢
   subst e
   dsimp only
   refine last _ _ _ (by omega) (by omega) (fun i hi=>?_) (fun i hi hn=>by omega) (fun _ _=>rfl)
   by_cases hi2:i=a+l
   ·rw [hi2];exact b
   ·exact mono i _ (by omega) d b
 | false =>
  rw [aE9 (by decide)]
  refine wpS_bind ?_
  refine wpS_forRange (fun t (z:Option (Option Nat) × Nat × Nat) st'=>st'=st/\z.1=none/\z.2.1 < z.2.2/\z.2.1<=a/\B (a - z.2.1)=false/\t+1<=z.2.2) ?_ ?_ ⟨rfl,rfl,by decide,aF3 _,e0,aA6 _⟩
  ·rintro t ⟨o,l,u⟩ st' _ C ⟨rfl,e,q,d,b,g⟩
   dsimp only at e q d b g ⊢
   subst e
   have v:∀ i,a - l<=i->i < n->B i=false:=fun i hi hn=>by
    by_cases hi2:i=a - l
    ·rw [hi2];exact b
    ·exact c _ i (by omega) hn b
   by_cases hu:u ≥ a+1
   ·rw [aE8 hu]
    refine wpS_pure ?_
    dsimp only
    exact last _ _ _ (by omega) (by omega) (fun i hi=>by omega) v (fun _ _=>rfl)
   ·rw [aE9 hu]
    refine wpS_bind (m:=bey left p arr base (a - u)) (hb _ (by omega) _ _ x ?_)
    dsimp only
    cases e1:B (a - u) with
    | true =>
     rw [aE8 rfl]
     refine wpS_pure ?_
     dsimp only
     refine last _ _ _ (by omega) (by omega) (fun i hi=>?_) v (fun _ _=>rfl)
     by_cases hi2:i=a - u
     ·rw [hi2];exact e1
     ·exact mono i _ (by omega) (by omega) e1
    | false =>
     rw [aE9 (by decide)]
     exact wpS_pure ⟨rfl,rfl,by dsimp only;omega,by dsimp only;omega,e1,by dsimp only;omega⟩
  ·rintro ⟨o,l,u⟩ st' ⟨rfl,e,q,d,b,g⟩
   dsimp only at e q d b g ⊢
   subst e
   dsimp only
   refine last _ _ _ (by omega) (by omega) (fun i hi=>by omega) (fun i hi hn=>?_) (fun _ _=>rfl)
   by_cases hi2:i=a - l
   ·rw [hi2];exact b
   ·exact c _ i (by omega) hn b
end
def Srt (R:Keyed->Keyed->Bool) (l:List Keyed):Prop:=l.Pairwise fun x y=>R y x=false
structure Mid (R:Keyed->Keyed->Bool) (L out a b:List Keyed):Prop where
 perm:(out ++ a ++ b).Perm L
 so:Srt R out
 le:∀ x∈out,∀ y∈a ++ b,R y x=false
 sa:Srt R a
 sb:Srt R b
section
variable {R:Keyed->Keyed->Bool} {L out a b p:List Keyed}
theorem Mid.takeA (m:Mid R L out (p ++ a) b) (h:∀ x∈p,∀ y∈b,R y x=false):Mid R L (out ++ p) a b:=by
 have sp:=aC8.mp m.sa
 refine ⟨by have:=m.perm;rw [← aB3] at this;exact this,aC8.mpr ⟨m.so,sp.1,fun x d y c=>m.le x d y (aC6 _ (aC6 _ c))⟩,fun x d y c=>?_,sp.2.1,m.sb⟩
 rcases aA7.mp d with d | d
 ·refine m.le x d y ?_
  rcases aA7.mp c with c | c
  ·exact aC6 _ (aB2 _ c)
  ·exact aB2 _ c
 ·rcases aA7.mp c with c | c
  ·exact sp.2.2 x d y c
  ·exact h x d y c
theorem Mid.takeB (m:Mid R L out a (p ++ b)) (h:∀ x∈p,∀ y∈a,R y x=false):Mid R L (out ++ p) a b:=by
 have sp:=aC8.mp m.sb
 refine ⟨List.Perm.trans ?_ m.perm,aC8.mpr ⟨m.so,sp.1,fun x d y c=>m.le x d y (aB2 _ (aC6 _ c))⟩,fun x d y c=>?_,m.sa,sp.2.1⟩
 ·rw [← aB3 (out ++ a) p b]
  refine List.Perm.append_right b ?_
  rw [aB3,aB3]
  exact List.Perm.append_left out List.perm_append_comm
 ·rcases aA7.mp d with d | d
  ·refine m.le x d y ?_
   rcases aA7.mp c with c | c
   ·exact aC6 _ c
   ·exact aB2 _ (aB2 _ c)
  ·rcases aA7.mp c with c | c
   ·exact h x d y c
   ·exact sp.2.2 x d y c
theorem Mid.done (m:Mid R L out a b) (h:a=[]\/b=[]):(out ++ a ++ b).Perm L/\Srt R (out ++ a ++ b):=by
 refine ⟨m.perm,?_⟩
 rw [aB3]
 refine aC8.mpr ⟨m.so,?_,m.le⟩
 rcases h with h | h
 ·subst h;exact m.sb
 ·subst h;rw [aE4];exact m.sa
theorem Mid.last (m:Mid R L out a b) (h:∀ y∈b,∀ x∈a,R x y=false):(out ++ b ++ a).Perm L/\Srt R (out ++ b ++ a):=by
 refine ⟨List.Perm.trans ?_ m.perm,?_⟩
 ·rw [aB3,aB3]
  exact List.Perm.append_left out List.perm_append_comm
 ·rw [aB3]
  refine aC8.mpr ⟨m.so,aC8.mpr ⟨m.sb,m.sa,h⟩,fun x d y c=>m.le x d y ?_⟩
  rcases aA7.mp c with c | c
  ·exact aB2 _ c
  ·exact aC6 _ c
end
structure Eqv (st st':SortSt):Prop where
 k:kindOf st'=kindOf st
 a:arrOf st'=arrOf st
 p:pendingOf st'=pendingOf st
 f:failedOf st'=failedOf st
theorem Eqv.refl (st:SortSt):Eqv st st:=⟨rfl,rfl,rfl,rfl⟩
theorem Eqv.trans {a b c:SortSt} (h:Eqv a b) (g:Eqv b c):Eqv a c:=⟨g.k.trans h.k,g.a.trans h.a,g.p.trans h.p,g.f.trans h.f⟩
theorem ag4 (a:Array Keyed) (i:Nat):(a.extract i a.size).toList=a.toList.drop i:=by
 rw [Array.toList_extract];simp only [List.extract_eq_take_drop];exact aE5 (by simp)
theorem ajg (a:Array Keyed) (i k:Nat):(a.extract i (i+k)).toList=(a.toList.drop i).take k:=by
 rw [Array.toList_extract];simp [List.extract]
theorem abq {a:Array Keyed} {i:Nat} (h:i < a.size):a.toList.drop i=a[i] :: a.toList.drop (i+1):=by
 rw [List.drop_eq_getElem_cons (by simpa using h)];simp
section
variable {M:Model} {A:Around} {E:Value->Shared->Prop} {s:Shared} {κ:SortKind} {S:Keyed->Prop} {R:Keyed->Keyed->Bool}
theorem Cmp.irr {x:Keyed} (C:Cmp M A E s κ S R) (a:S x):R x x=false:=by
 cases e:R x x with
 | false=>rfl
 | true=>have:=C.asy x x a a e;rw [e] at this;cases this
theorem agk (C:Cmp M A E s κ S R) {a:Keyed} {arr:Array Keyed} {base n f:Nat} (g:S a) (O:∀ x∈arr.toList,S x) (hn:base+n<=arr.size) (G:Srt R ((arr.toList.drop base).take n)) (hh:f < n)
  {Q:Option Nat->SortSt->Prop} {st:SortSt} (I:kindOf st = κ)
  (h:∀ k,k<=n->(∀ x∈(arr.toList.drop base).take k,R a x=false)->(∀ x∈((arr.toList.drop base).take n).drop k,R a x=true)->Q (some k) st) :
  wpS M A E s (ajf false a arr base n f) Q st:=by
 have b:∀ i,i < n->∃ x,arr[base+i]?=some x/\S x/\((arr.toList.drop base).take n)[i]?=some x:=fun i hi=>by
  have o:base+i < arr.size:=by omega
  refine ⟨arr[base+i],aA4 o,O _ (by simp),?_⟩
  rw [aG8 hi,aH6]
  simp [o]
 have m:∀ i j x y,i < j->j < n->arr[base+i]?=some x->arr[base+j]?=some y->R y x=false:=fun i j x y l q ex N=>by
  obtain ⟨X,c,_,e2⟩:=b i (by omega)
  obtain ⟨W,F,_,r⟩:=b j q
  rw [ex] at c;cases c
  rw [N] at F;cases F
  obtain ⟨U,e2⟩:=aA1.mp e2
  obtain ⟨P,r⟩:=aA1.mp r
  have:=aG0.mp G i j U P l
  rw [e2,r] at this
  exact this
 refine akb (κ:=κ) (B:=fun i=>match arr[base+i]? with | some x => !(R a x) | none=>false) (fun i hi Q' st' u D=>?_) (fun i j l q p=>?_) hh I fun k z K L=>h k z (fun x w=>?_) fun x w=>?_
 ·obtain ⟨x,c,v,_⟩:=b i hi
  unfold bey
  refine wpS_bind (aaz c ?_)
  rw [aE9 (by decide)]
  refine wpS_bind (C.ask _ _ g v _ _ u ?_)
  refine wpS_pure ?_
  simp only [c] at D
  exact D
 ·obtain ⟨x,c,v,_⟩:=b i (by omega)
  obtain ⟨y,e2,T,_⟩:=b j q
  simp only [c,e2] at p ⊢
  have H:=m i j x y l q c e2
  have J:R a y=false:=by simpa using p
  have:=C.tr x y a v T g H J
  simp [this]
 ·obtain ⟨i,hi,e⟩:=List.getElem_of_mem w
  have d:i < k:=by rw [aG3] at hi;omega
  obtain ⟨y,c,_,e2⟩:=b i (by omega)
  have hb:=K i d
  simp only [c] at hb
  have ex:x=y:=by
   have:((arr.toList.drop base).take k)[i]?=some x:=by rw [aA0 hi,e]
   rw [aG8 d] at this
   rw [aG8 (by omega)] at e2
   rw [this] at e2;exact aC5 e2
  subst ex
  simpa using hb
 ·obtain ⟨i,hi,e⟩:=List.getElem_of_mem w
  have d:k+i < n:=by rw [List.length_drop,aG3] at hi;omega
  obtain ⟨y,c,_,e2⟩:=b (k+i) d
  have hb:=L (k+i) (by omega) d
  simp only [c] at hb
  have ex:x=y:=by
   have:(((arr.toList.drop base).take n).drop k)[i]?=some x:=by rw [aA0 hi,e]
   rw [aH6] at this
   rw [this] at e2;exact aC5 e2
  subst ex
  simpa using hb
theorem ahp (C:Cmp M A E s κ S R) {a:Keyed} {arr:Array Keyed} {base n f:Nat} (g:S a) (N:∀ x∈arr.toList,S x) (hn:base+n<=arr.size) (G:Srt R ((arr.toList.drop base).take n)) (hh:f < n)
  {Q:Option Nat->SortSt->Prop} {st:SortSt} (I:kindOf st = κ)
  (h:∀ k,k<=n->(∀ x∈(arr.toList.drop base).take k,R x a=true)->(∀ x∈((arr.toList.drop base).take n).drop k,R x a=false)->Q (some k) st) :
  wpS M A E s (ajf true a arr base n f) Q st:=by
 have b:∀ i,i < n->∃ x,arr[base+i]?=some x/\S x/\((arr.toList.drop base).take n)[i]?=some x:=fun i hi=>by
  have p:base+i < arr.size:=by omega
  refine ⟨arr[base+i],aA4 p,N _ (by simp),?_⟩
  rw [aG8 hi,aH6]
  simp [p]
 have o:∀ i j x y,i < j->j < n->arr[base+i]?=some x->arr[base+j]?=some y->R y x=false:=fun i j x y l q ex L=>by
  obtain ⟨W,c,_,e2⟩:=b i (by omega)
  obtain ⟨U,F,_,r⟩:=b j q
  rw [ex] at c;cases c
  rw [L] at F;cases F
  obtain ⟨T,e2⟩:=aA1.mp e2
  obtain ⟨O,r⟩:=aA1.mp r
  have:=aG0.mp G i j T O l
  rw [e2,r] at this
  exact this
 refine akb (κ:=κ) (B:=fun i=>match arr[base+i]? with | some x=>R x a | none=>false) (fun i hi Q' st' u D=>?_) (fun i j l q m=>?_) hh I fun k z J K=>h k z (fun x w=>?_) fun x w=>?_
 ·obtain ⟨x,c,v,_⟩:=b i hi
  unfold bey
  refine wpS_bind (aaz c ?_)
  rw [aE8 rfl]
  simp only [c] at D
  exact C.ask _ _ v g _ _ u D
 ·obtain ⟨x,c,v,_⟩:=b i (by omega)
  obtain ⟨y,e2,P,_⟩:=b j q
  simp only [c,e2] at m ⊢
  have H:=o i j x y l q c e2
  cases e:R x a with
  | true=>rfl
  | false =>
   have:=C.tr a x y g v P e H
   rw [this] at m;cases m
 ·obtain ⟨i,hi,e⟩:=List.getElem_of_mem w
  have d:i < k:=by rw [aG3] at hi;omega
  obtain ⟨y,c,_,e2⟩:=b i (by omega)
  have hb:=J i d
  simp only [c] at hb
  have ex:x=y:=by
   have:((arr.toList.drop base).take k)[i]?=some x:=by rw [aA0 hi,e]
   rw [aG8 d] at this
   rw [aG8 (by omega)] at e2
   rw [this] at e2;exact aC5 e2
  subst ex
  exact hb
 ·obtain ⟨i,hi,e⟩:=List.getElem_of_mem w
  have d:k+i < n:=by rw [List.length_drop,aG3] at hi;omega
  obtain ⟨y,c,_,e2⟩:=b (k+i) d
  have hb:=K (k+i) (by omega) d
  simp only [c] at hb
  have ex:x=y:=by
   have:(((arr.toList.drop base).take n).drop k)[i]?=some x:=by rw [aA0 hi,e]
   rw [aH6] at this
   rw [this] at e2;exact aC5 e2
  subst ex
  exact hb
end
section
variable {M:Model} {A:Around} {E:Value->Shared->Prop} {s:Shared} {κ:SortKind} {S:Keyed->Prop} {R:Keyed->Keyed->Bool}
structure Two (S:Keyed->Prop) (R:Keyed->Keyed->Bool) (a b:Array Keyed):Prop where
 ha:∀ x∈a.toList,S x
 hb:∀ x∈b.toList,S x
 sa:Srt R a.toList
 sb:Srt R b.toList
 a0:0 < a.size
 b0:0 < b.size
 first:∀ x∈a.toList,∀ y,b[0]?=some y->R x y=false
 last:∀ y∈b.toList,∀ x,a[a.size - 1]?=some x->R x y=false
def Fin2 (R:Keyed->Keyed->Bool) (a b m:Array Keyed):Prop:=m.toList.Perm (a.toList ++ b.toList)/\Srt R m.toList
structure Lo (S:Keyed->Prop) (R:Keyed->Keyed->Bool) (a b out:Array Keyed) (ia ib:Nat):Prop where
 mid:Mid R (a.toList ++ b.toList) out.toList (a.toList.drop ia) (b.toList.drop ib)
 ia:ia<=a.size
 ib:ib<=b.size
theorem Lo.len {a b out:Array Keyed} {ia ib:Nat} (l:Lo S R a b out ia ib):out.size+(a.size - ia)+(b.size - ib)=a.size+b.size:=by
 have:=l.mid.perm.length_eq
 simp at this
 omega
theorem Lo.doneA {a b out:Array Keyed} {ia ib:Nat} (l:Lo S R a b out ia ib) (h:ib=b.size\/ia=a.size):Fin2 R a b (out ++ a.extract ia ++ b.extract ib):=by
 have:=l.mid.done (by
  rcases h with h | h
  ·right;rw [h];simp
  ·left;rw [h];simp)
 unfold Fin2
 rw [aF9,aF9,ag4,ag4]
 exact this
theorem ar4 {a:Array Keyed} {i:Nat} (h:i+1=a.size):a.toList.drop i=[a[a.size - 1]'(by omega)]:=by
 have hi:i < a.size:=by omega
 rw [abq hi]
 have:i=a.size - 1:=by omega
 subst this
 have e:a.toList.drop (a.size - 1+1)=[]:=by
  apply List.drop_eq_nil_of_le
  simp;omega
 rw [e]
theorem Lo.lastA {a b out:Array Keyed} {ia ib:Nat} (T:Two S R a b) (l:Lo S R a b out ia ib) (h:ia+1=a.size):Fin2 R a b (out ++ b.extract ib ++ a.extract ia):=by
 have:=l.mid.last (by
  intro y d x c
  rw [ar4 h] at c
  have ex:x=a[a.size - 1]'(by omega):=by simpa using c
  refine T.last y (aC3 d) x ?_
  rw [ex]
  exact aA4 _)
 unfold Fin2
 rw [aF9,aF9,ag4,ag4]
 exact this
theorem aem {x:Keyed} {l:List Keyed} (C:Cmp M A E s κ S R) (h:Srt R (x :: l)) (b:S x):∀ y∈x :: l,R y x=false:=by
 intro y a
 rcases aA8.mp a with e | a
 ·rw [e];exact C.irr b
 ·exact (List.pairwise_cons.mp h).1 y a
theorem Lo.pushB {a b out:Array Keyed} {ia ib:Nat} (C:Cmp M A E s κ S R) (T:Two S R a b) (l:Lo S R a b out ia ib) (hb:ib < b.size) (h:∀ x∈a.toList.drop ia,R x b[ib]=false):Lo S R a b (out.push b[ib]) ia (ib+1):=by
 refine ⟨?_,l.ia,hb⟩
 have m:=l.mid
 rw [abq hb] at m
 rw [Array.toList_push]
 exact m.takeB (p:=[b[ib]]) (fun x d y c=>by
  have:x=b[ib]:=by simpa using d
  rw [this];exact h y c)
theorem Lo.pushA {a b out:Array Keyed} {ia ib:Nat} (l:Lo S R a b out ia ib) (ha:ia < a.size) (h:∀ y∈b.toList.drop ib,R y a[ia]=false):Lo S R a b (out.push a[ia]) (ia+1) ib:=by
 refine ⟨?_,ha,l.ib⟩
 have m:=l.mid
 rw [abq ha] at m
 rw [Array.toList_push]
 exact m.takeA (p:=[a[ia]]) (fun x d y c=>by
  have:x=a[ia]:=by simpa using d
  rw [this];exact h y c)
theorem Lo.runA {a b out:Array Keyed} {ia ib k:Nat} (l:Lo S R a b out ia ib) (d:ia+k<=a.size) (h:∀ x∈(a.toList.drop ia).take k,∀ y∈b.toList.drop ib,R y x=false):Lo S R a b (out ++ a.extract ia (ia+k)) (ia+k) ib:=by
 refine ⟨?_,d,l.ib⟩
 have m:=l.mid
 rw [← aC0 k (a.toList.drop ia)] at m
 rw [aF9,ajg]
 have c:=m.takeA h
 rw [List.drop_drop] at c
 exact c
theorem Lo.runB {a b out:Array Keyed} {ia ib k:Nat} (l:Lo S R a b out ia ib) (d:ib+k<=b.size) (h:∀ x∈(b.toList.drop ib).take k,∀ y∈a.toList.drop ia,R y x=false):Lo S R a b (out ++ b.extract ib (ib+k)) ia (ib+k):=by
 refine ⟨?_,l.ia,d⟩
 have m:=l.mid
 rw [← aC0 k (b.toList.drop ib)] at m
 rw [aF9,ajg]
 have c:=m.takeB h
 rw [List.drop_drop] at c
 exact c
theorem acs {l:List Keyed} {i:Nat} (h:Srt R l):Srt R (l.drop i):=List.Pairwise.sublist (List.drop_sublist i l) h
theorem jpn {α β:Type} {prog : β->StateT SortSt Sem α} {P : β->Prop} {Q : α->SortSt->Prop} {st:SortSt} {G:Prop} (use:(∀ m,P m->wpS M A E s (prog m) Q st)->G) (a:∀ m,P m->wpS M A E s (prog m) Q st):G:=use a
theorem jpn2 {α:Type} {prog:Array Keyed->Nat->StateT SortSt Sem α} {P:Array Keyed->Nat->Prop} {Q : α->SortSt->Prop} {st:SortSt} {G:Prop} (use:(∀ o i,P o i->wpS M A E s (prog o i) Q st)->G) (a:∀ o i,P o i->wpS M A E s (prog o i) Q st):G:=use a
section
variable {ρ β γ δ ε ζ η:Type}
@[elab_as_elim] theorem un5 {J : β->γ->δ->ε->Prop} {G:Option ρ × β × γ × δ × ε->Prop} (z:Option ρ × β × γ × δ × ε) (h:z.1=none/\J z.2.1 z.2.2.1 z.2.2.2.1 z.2.2.2.2) (k:∀ x y u v,J x y u v->G (none,x,y,u,v)):G z:=by
 have e:z=(none,z.2.1,z.2.2.1,z.2.2.2.1,z.2.2.2.2):=by rw [← h.1]
 rw [e];exact k _ _ _ _ h.2
@[elab_as_elim] theorem un6 {J : β->γ->δ->ε->ζ->Prop} {G:Option ρ × β × γ × δ × ε × ζ->Prop} (z:Option ρ × β × γ × δ × ε × ζ) (h:z.1=none/\J z.2.1 z.2.2.1 z.2.2.2.1 z.2.2.2.2.1 z.2.2.2.2.2) (k:∀ x y u v a,J x y u v a->G (none,x,y,u,v,a)):G z:=by
 have e:z=(none,z.2.1,z.2.2.1,z.2.2.2.1,z.2.2.2.2.1,z.2.2.2.2.2):=by rw [← h.1]
 rw [e];exact k _ _ _ _ _ h.2
@[elab_as_elim] theorem un7 {J : β->γ->δ->ε->ζ->η->Prop} {G:Option ρ × β × γ × δ × ε × ζ × η->Prop} (z:Option ρ × β × γ × δ × ε × ζ × η) (h:z.1=none/\J z.2.1 z.2.2.1 z.2.2.2.1 z.2.2.2.2.1 z.2.2.2.2.2.1 z.2.2.2.2.2.2) (k:∀ x y u v a b,J x y u v a b->G (none,x,y,u,v,a,b)):G z:=by
 have e:z=(none,z.2.1,z.2.2.1,z.2.2.2.1,z.2.2.2.2.1,z.2.2.2.2.2.1,z.2.2.2.2.2.2):=by rw [← h.1]
 rw [e];exact k _ _ _ _ _ _ h.2
@[elab_as_elim] theorem unR {κ:Type} {F : ρ->Prop} {J : κ->Prop} {G:Option ρ × κ->Prop} (z:Option ρ × κ) (h:(∃ r,z.1=some r/\F r)\/(z.1=none/\J z.2)) (b:∀ r x,F r->G (some r,x)) (c:z.1=none/\J z.2->G z):G z:=by
 rcases h with ⟨r,e,a⟩ | h
 ·have e:z=(some r,z.2):=by rw [← e]
  rw [e];exact b _ _ a
 ·exact c h
end
theorem aap {c:Prop} [Decidable c] {α:Type} {b a:StateT SortSt Sem α} {Q : α->SortSt->Prop} {st:SortSt} (f:c->wpS M A E s b Q st) (d:¬ c->wpS M A E s a Q st):wpS M A E s (if c then b else a) Q st:=by
 by_cases h:c
 ·rw [aE8 h];exact f h
 ·rw [aE9 h];exact d h
theorem ap6 (C:Cmp M A E s κ S R) {a b:Array Keyed} (T:Two S R a b) {Q:Array Keyed->SortSt->Prop} {st:SortSt} (hk:kindOf st = κ)
  (h:∀ m st',Eqv st st'->Fin2 R a b m->Q m st'):wpS M A E s (aua a b) Q st:=by
 have L:∀ i (h:i < a.size),S a[i]:=fun i h=>T.ha _ (by simp)
 have N:∀ i (h:i < b.size),S b[i]:=fun i h=>T.hb _ (by simp)
 have b0:=T.b0
 have a0:=T.a0
 refine wpS_bind (adm ?_)
 refine wpS_bind (aaz (x:=b[0]'b0) (aA4 b0) ?_)
 have l1:Lo S R a b #[b[0]'b0] 0 1:=by
  have l0:Lo S R a b #[] 0 0:=⟨⟨by simp,List.Pairwise.nil,fun x w=>by simp at w,T.sa,T.sb⟩,aF3 _,aF3 _⟩
  exact l0.pushB C T b0 fun x w=>T.first x (by simpa using w) _ (aA4 b0)
 refine aap (fun e1=>wpS_pure (h _ _ (Eqv.refl _) (l1.doneA (.inl (aF6.mp e1))))) (fun e1=>?_)
 refine aap (fun e2=>wpS_pure (h _ _ (Eqv.refl _) (l1.lastA T (aF6.mp e2)))) (fun e2=>?_)
 replace e1:1 ≠ b.size:=fun q=>e1 (aF6.mpr q)
 replace e2:0+1 ≠ a.size:=fun q=>e2 (aF6.mpr q)
 refine wpS_bind (wpS_get ?_)
 refine wpS_bind (wpS_mono (Q:=fun (z:Option (Array Keyed) × Array Keyed × Nat × Nat × Nat) st'=>Eqv st st'/\∃ r,z.1=some r/\Fin2 R a b r) ?_ ?_)
 ·refine wpS_forRange (fun t (z:Option (Array Keyed) × Array Keyed × Nat × Nat × Nat) st'=>Eqv st st'/\z.1=none/\Lo S R a b z.2.1 z.2.2.1 z.2.2.2.1/\z.2.2.1+1 < a.size/\z.2.2.2.1 < b.size/\t+1<=z.2.1.size) ?_ ?_ ⟨Eqv.refl _,rfl,l1,by dsimp only;omega,by dsimp only;omega,by simp⟩
  ·intro t z a8 _ ht n
   have q1:=n.1
   refine un5 (J:=fun out ia ib _=>Lo S R a b out ia ib/\ia+1 < a.size/\ib < b.size/\t+1<=out.size) z n.2 fun out ia ib mg v=>?_
   dsimp only
   refine wpS_bind (wpS_mono (Q:=fun (z:Option (Array Keyed) × Array Keyed × Nat × Nat × Nat × Nat) st'=>Eqv st st'/\((∃ r,z.1=some r/\Fin2 R a b r)\/(z.1=none/\Lo S R a b z.2.1 z.2.2.1 z.2.2.2.1/\z.2.2.1+1 < a.size/\z.2.2.2.1 < b.size/\t+2<=z.2.1.size))) ?_ ?_)
   ·refine wpS_forRange (fun i (z:Option (Array Keyed) × Array Keyed × Nat × Nat × Nat × Nat) st'=>Eqv st st'/\z.1=none/\Lo S R a b z.2.1 z.2.2.1 z.2.2.2.1/\z.2.2.1+1 < a.size/\z.2.2.2.1 < b.size/\t+1+min i 1<=z.2.1.size) ?_ ?_ ⟨q1,rfl,v.1,v.2.1,v.2.2.1,v.2.2.2⟩
    ·intro i z o _ hi n
     have q:=n.1
     refine un6 (J:=fun out ia ib _ _=>Lo S R a b out ia ib/\ia+1 < a.size/\ib < b.size/\t+1+min i 1<=out.size) z n.2 fun out ia ib ac bc v=>?_
     have l:=v.1
     have H:=v.2.1
     have d:=v.2.2.1
     have hsz:=v.2.2.2
     have g:ia < a.size:=Nat.lt_of_succ_lt H
     refine wpS_bind (aaz (x:=b[ib]) (aA4 d) ?_)
     refine wpS_bind (aaz (x:=a[ia]) (aA4 g) ?_)
     refine wpS_bind (C.ask _ _ (N ib d) (L ia g) _ _ (q.k.trans hk) ?_)
     dsimp only
     refine aap (fun er=>?_) (fun er=>?_)
     ·refine wpS_bind (aaz (x:=b[ib]) (aA4 d) ?_)
      have F:Lo S R a b (out.push b[ib]) ia (ib+1):=l.pushB C T d fun x w=>by
       rw [abq g] at w
       have hd:Srt R (a[ia] :: a.toList.drop (ia+1)):=by rw [← abq g];exact acs T.sa
       have sx:S x:=T.ha x (aC3 (i:=ia) (by rw [abq g];exact w))
       exact C.tr _ _ _ (N ib d) (L ia g) sx (C.asy _ _ (N ib d) (L ia g) er) (aem C hd (L ia g) x w)
      refine aap (fun D=>wpS_pure ⟨q,.inl ⟨_,rfl,F.doneA (.inl (aF6.mp D))⟩⟩) (fun D=>?_)
      have hf:ib+1 < b.size/\t+2<=(out.push b[ib]).size:=by
       have a1:ib+1 ≠ b.size:=fun q=>D (aF6.mpr q)
       rw [aH2];omega
      refine aap (fun _=>wpS_pure ⟨q,.inr ⟨rfl,F,H,hf⟩⟩) (fun _=>wpS_pure ⟨q,rfl,F,H,hf.1,aC9 (by omega) hf.2⟩)
     ·refine wpS_bind (aaz (x:=a[ia]) (aA4 g) ?_)
      have F:Lo S R a b (out.push a[ia]) (ia+1) ib:=l.pushA g fun y I=>by
       rw [abq d] at I
       have hd:Srt R (b[ib] :: b.toList.drop (ib+1)):=by rw [← abq d];exact acs T.sb
       have Y:S y:=T.hb y (aC3 (i:=ib) (by rw [abq d];exact I))
       exact C.tr _ _ _ (L ia g) (N ib d) Y (eq_false_of_ne_true er) (aem C hd (N ib d) y I)
      refine aap (fun D=>wpS_pure ⟨q,.inl ⟨_,rfl,F.lastA T (aF6.mp D)⟩⟩) (fun D=>?_)
      have hf:ia+1+1 < a.size/\ib < b.size/\t+2<=(out.push a[ia]).size:=by
       have a1:ia+1+1 ≠ a.size:=fun q=>D (aF6.mpr q)
       rw [aH2];omega
      refine aap (fun _=>wpS_pure ⟨q,.inr ⟨rfl,F,hf⟩⟩) (fun _=>wpS_pure ⟨q,rfl,F,hf.1,d,aC9 (by omega) hf.2.2⟩)
    ·exact fun z o n=>⟨n.1,.inr ⟨n.2.1,n.2.2.1,n.2.2.2.1,n.2.2.2.2.1,aC9 (by omega) n.2.2.2.2.2⟩⟩
   ·intro z o n
    have W:=n.1
    refine unR (J:=fun y:Array Keyed × Nat × Nat × Nat × Nat=>Lo S R a b y.1 y.2.1 y.2.2.1/\y.2.1+1 < a.size/\y.2.2.1 < b.size/\t+2<=y.1.size) z n.2 (fun r x hr=>wpS_pure ⟨W,r,rfl,hr⟩) fun hN=>?_
    refine un6 (J:=fun out ia ib _ _=>Lo S R a b out ia ib/\ia+1 < a.size/\ib < b.size/\t+2<=out.size) z hN fun out ia ib ac bc v=>?_
    dsimp only
    refine wpS_bind (adm ?_)
    refine wpS_bind (wpS_mono (Q:=fun (z:Option (Array Keyed) × Array Keyed × Nat × Nat × Nat × Nat × Nat) st'=>Eqv st st'/\((∃ r,z.1=some r/\Fin2 R a b r)\/(z.1=none/\Lo S R a b z.2.1 z.2.2.1 z.2.2.2.1/\z.2.2.1+1 < a.size/\z.2.2.2.1 < b.size/\t+2<=z.2.1.size))) ?_ ?_)
    ·refine wpS_forRange (fun i (z:Option (Array Keyed) × Array Keyed × Nat × Nat × Nat × Nat × Nat) st'=>Eqv st st'/\z.1=none/\Lo S R a b z.2.1 z.2.2.1 z.2.2.2.1/\z.2.2.1+1 < a.size/\z.2.2.2.1 < b.size/\t+2<=z.2.1.size) ?_ (fun z o n=>⟨n.1,.inr n.2⟩) ⟨W,rfl,v⟩
     intro i z o _ hi n
     have q:=n.1
     refine un7 (J:=fun out ia ib _ _ _=>Lo S R a b out ia ib/\ia+1 < a.size/\ib < b.size/\t+2<=out.size) z n.2 fun out ia ib mg ac bc v=>?_
     have l:=v.1
     have H:=v.2.1
     have d:=v.2.2.1
     have hsz:=v.2.2.2
     dsimp only
     refine' jpn (M:=M) (A:=A) (E:=E) (s:=s) (st:=o) (β:=Nat) (P:=fun _=>True) (prog:=?prog) (fun U=>?use) (fun b1 _=>?pf)
     case use =>
      refine aap (fun hm=>?_) (fun hm=>?_)
      ·generalize mg - 1=m
       exact U m trivial
      ·exact U mg trivial
     refine wpS_bind (wpS_mono (Q:=fun _ O=>Eqv o O) (wpS_modify ⟨rfl,rfl,rfl,rfl⟩) fun _ O K=>?_)
     replace K:=q.trans K
     refine wpS_bind (aaz (x:=b[ib]) (aA4 d) ?_)
     refine wpS_bind (agk C (N ib d) T.ha (by omega) (by rw [aE5 (by simp)];exact acs T.sa) (by omega) (K.k.trans hk) fun k a6 h1 h2=>?_)
     rw [aE5 (by simp),List.drop_drop] at h2
     dsimp only
     refine' jpn2 (M:=M) (A:=A) (E:=E) (s:=s) (st:=O) (P:=fun j c=>Lo S R a b j c ib/\c+1 < a.size/\(∀ x∈a.toList.drop c,R x b[ib]=false)/\t+2<=j.size) (prog:=?prog2) (fun U=>?use2) (fun j c h5=>?pf2)
     case use2 =>
      have u:∀ x∈a.toList.drop (ia+k),R x b[ib]=false:=fun x w=>C.asy _ _ (N ib d) (T.ha x (aC3 w)) (h2 x w)
      refine aap (fun k0=>?_) (fun k0=>?_)
      ·have F:Lo S R a b (out ++ a.extract ia (ia+k)) (ia+k) ib:=l.runA (by omega) fun x w y I=>by
        rw [abq d] at I
        have hd:Srt R (b[ib] :: b.toList.drop (ib+1)):=by rw [← abq d];exact acs T.sb
        have Y:S y:=T.hb y (aC3 (i:=ib) (by rw [abq d];exact I))
        exact C.tr _ _ _ (T.ha x (aC3 (aB9 w))) (N ib d) Y (h1 x w) (aem C hd (N ib d) y I)
       refine aap (fun D=>wpS_pure ⟨K,.inl ⟨_,rfl,F.lastA T (aF6.mp D)⟩⟩) (fun D=>?_)
       refine aap (fun e4=>wpS_pure ⟨K,.inl ⟨_,rfl,F.doneA (.inr (aF6.mp e4))⟩⟩) (fun e4=>?_)
       have X:Lo S R a b (out ++ a.extract ia (ia+k)) (ia+k) ib/\ia+k+1 < a.size/\(∀ x∈a.toList.drop (ia+k),R x b[ib]=false)/\t+2<=(out ++ a.extract ia (ia+k)).size:=by
        have a1:ia+k+1 ≠ a.size:=fun q=>D (aF6.mpr q)
        have a9:ia+k ≠ a.size:=fun q=>e4 (aF6.mpr q)
        exact ⟨F,by omega,u,by rw [Array.size_append];omega⟩
       revert X
       clear D e4 F u
       generalize out ++ a.extract ia (ia+k)=j
       generalize ia+k=c
       intro X
       exact U j c X
      ·have:k=0:=by omega
       rw [this] at u
       exact U out ia ⟨l,H,u,hsz⟩
     have l3:=h5.1
     have Z:=h5.2.1
     have a2:=h5.2.2.1
     have a3:=h5.2.2.2
     have f:c < a.size:=Nat.lt_of_succ_lt Z
     refine wpS_bind (aaz (x:=b[ib]) (aA4 d) ?_)
     have l4:=l3.pushB C T d a2
     refine aap (fun e5=>wpS_pure ⟨K,.inl ⟨_,rfl,l4.doneA (.inl (aF6.mp e5))⟩⟩) (fun e5=>?_)
     replace e5:ib+1 ≠ b.size:=fun q=>e5 (aF6.mpr q)
     refine wpS_bind (aaz (x:=a[c]) (aA4 f) ?_)
     refine wpS_bind (ahp C (L c f) T.hb (by omega) (by rw [aE5 (by simp)];exact acs T.sb) (by omega) (K.k.trans hk) fun G a5 h3 h4=>?_)
     rw [aE5 (by simp),List.drop_drop] at h4
     dsimp only
     refine' jpn2 (M:=M) (A:=A) (E:=E) (s:=s) (st:=O) (P:=fun p B=>Lo S R a b p c B/\B < b.size/\(∀ y∈b.toList.drop B,R y a[c]=false)/\t+2<=p.size) (prog:=?prog3) (fun U=>?use3) (fun p B h6=>?pf3)
     case use3 =>
      refine aap (fun k0=>?_) (fun k0=>?_)
      ·have hd:Srt R (a[c] :: a.toList.drop (c+1)):=by rw [← abq f];exact acs T.sa
       have l5:Lo S R a b (j.push b[ib] ++ b.extract (ib+1) (ib+1+G)) c (ib+1+G):=l4.runB (by omega) fun x w y I=>by
        rw [abq f] at I
        have Y:S y:=T.ha y (aC3 (i:=c) (by rw [abq f];exact I))
        have sx:S x:=T.hb x (aC3 (aB9 w))
        exact C.tr _ _ _ sx (L c f) Y (C.asy _ _ sx (L c f) (h3 x w)) (aem C hd (L c f) y I)
       refine aap (fun e6=>wpS_pure ⟨K,.inl ⟨_,rfl,l5.doneA (.inl (aF6.mp e6))⟩⟩) (fun e6=>?_)
       have X:Lo S R a b (j.push b[ib] ++ b.extract (ib+1) (ib+1+G)) c (ib+1+G)/\ib+1+G < b.size/\(∀ y∈b.toList.drop (ib+1+G),R y a[c]=false)/\t+2<=(j.push b[ib] ++ b.extract (ib+1) (ib+1+G)).size:=by
        have a4:ib+1+G ≠ b.size:=fun q=>e6 (aF6.mpr q)
        exact ⟨l5,by omega,h4,by rw [Array.size_append,aH2];omega⟩
       revert X
       clear e6 l5 hd
       generalize j.push b[ib] ++ b.extract (ib+1) (ib+1+G)=p
       generalize ib+1+G=B
       intro X
       exact U p B X
      ·have:G=0:=by omega
       rw [this] at h4
       exact U (j.push b[ib]) (ib+1) ⟨l4,by omega,h4,by rw [aH2];omega⟩
     refine wpS_bind (aaz (x:=a[c]) (aA4 f) ?_)
     have l7:=h6.1.pushA f h6.2.2.1
     refine aap (fun e7=>wpS_pure ⟨K,.inl ⟨_,rfl,l7.lastA T (aF6.mp e7)⟩⟩) (fun e7=>?_)
     have hf:c+1+1 < a.size/\B < b.size/\t+2<=(p.push a[c]).size:=by
      have a7:c+1+1 ≠ a.size:=fun q=>e7 (aF6.mpr q)
      have h7:=h6.2.2.2
      exact ⟨by omega,h6.2.1,by rw [aH2];omega⟩
     exact aap (fun _=>wpS_pure ⟨K,.inr ⟨rfl,l7,hf⟩⟩) (fun _=>wpS_pure ⟨K,rfl,l7,hf⟩)
    ·intro z o n
     have W:=n.1
     refine unR (J:=fun y:Array Keyed × Nat × Nat × Nat × Nat × Nat=>Lo S R a b y.1 y.2.1 y.2.2.1/\y.2.1+1 < a.size/\y.2.2.1 < b.size/\t+2<=y.1.size) z n.2 (fun r x hr=>wpS_pure ⟨W,r,rfl,hr⟩) fun hN=>?_
     refine un7 (J:=fun out ia ib _ _ _=>Lo S R a b out ia ib/\ia+1 < a.size/\ib < b.size/\t+2<=out.size) z hN fun out ia ib mg ac bc v=>?_
     dsimp only
     refine wpS_bind (wpS_modify ?_)
     exact wpS_pure ⟨W.trans ⟨rfl,rfl,rfl,rfl⟩,rfl,v⟩
  ·intro z o n
   exfalso
   have h1:=n.2.2.1.len
   have h2:=n.2.2.2
   have:a.size+b.size<=max 0 (a.size+b.size):=by omega
   omega
 ·intro z o n
  have W:=n.1
  exact unR (J:=fun _=>False) z (.inl n.2) (fun r x hr=>wpS_pure (h r o W hr)) fun hN=>hN.2.elim
end
structure MidH (R:Keyed->Keyed->Bool) (L a b tl:List Keyed):Prop where
 perm:(a ++ b ++ tl).Perm L
 so:Srt R tl
 le:∀ x∈a ++ b,∀ y∈tl,R y x=false
 sa:Srt R a
 sb:Srt R b
section
variable {R:Keyed->Keyed->Bool} {L tl a b p:List Keyed}
theorem MidH.takeA (m:MidH R L (a ++ p) b tl) (h:∀ x∈b,∀ y∈p,R y x=false):MidH R L a b (p ++ tl):=by
 have sp:=aC8.mp m.sa
 refine ⟨List.Perm.trans ?_ m.perm,aC8.mpr ⟨sp.2.1,m.so,fun x c y d=>m.le x (aC6 _ (aB2 _ c)) y d⟩,fun x c y d=>?_,sp.1,m.sb⟩
 ·rw [← aB3,aB3 a p b,aB3 a b p]
  exact List.Perm.append_right tl (List.Perm.append_left a List.perm_append_comm)
 ·rcases aA7.mp d with d | d
  ·rcases aA7.mp c with c | c
   ·exact sp.2.2 x c y d
   ·exact h x c y d
  ·refine m.le x ?_ y d
   rcases aA7.mp c with c | c
   ·exact aC6 _ (aC6 _ c)
   ·exact aB2 _ c
theorem MidH.takeB (m:MidH R L a (b ++ p) tl) (h:∀ x∈a,∀ y∈p,R y x=false):MidH R L a b (p ++ tl):=by
 have sp:=aC8.mp m.sb
 refine ⟨by have:=m.perm;simp only [aB3] at this ⊢;exact this,aC8.mpr ⟨sp.2.1,m.so,fun x c y d=>m.le x (aB2 _ (aB2 _ c)) y d⟩,fun x c y d=>?_,m.sa,sp.1⟩
 rcases aA7.mp d with d | d
 ·rcases aA7.mp c with c | c
  ·exact h x c y d
  ·exact sp.2.2 x c y d
 ·refine m.le x ?_ y d
  rcases aA7.mp c with c | c
  ·exact aC6 _ c
  ·exact aB2 _ (aC6 _ c)
theorem MidH.done (m:MidH R L a b tl) (h:a=[]\/b=[]):(a ++ b ++ tl).Perm L/\Srt R (a ++ b ++ tl):=by
 refine ⟨m.perm,aC8.mpr ⟨?_,m.so,m.le⟩⟩
 rcases h with h | h
 ·subst h;exact m.sb
 ·subst h;rw [aE4];exact m.sa
theorem MidH.first (m:MidH R L a b tl) (h:∀ y∈b,∀ x∈a,R x y=false):(b ++ a ++ tl).Perm L/\Srt R (b ++ a ++ tl):=by
 refine ⟨List.Perm.trans (List.Perm.append_right tl List.perm_append_comm) m.perm,aC8.mpr ⟨aC8.mpr ⟨m.sb,m.sa,h⟩,m.so,fun x c y d=>m.le x ?_ y d⟩⟩
 rcases aA7.mp c with c | c
 ·exact aB2 _ c
 ·exact aC6 _ c
end
theorem acb {a:Array Keyed} {i:Nat} (c:0 < i) (h:i<=a.size):a.toList.take i=a.toList.take (i - 1) ++ [a[i - 1]'(by omega)]:=by
 obtain ⟨j,rfl⟩:∃ j,i=j+1:=⟨i - 1,by omega⟩
 rw [List.take_succ]
 have b:j < a.size:=by omega
 simp [b]
theorem ald (a:Array Keyed) (k:Nat):(a.extract 0 k).toList=a.toList.take k:=by
 rw [Array.toList_extract];simp [List.extract]
theorem al8 (a:Array Keyed) (k n:Nat):(a.extract k n).toList=(a.toList.take n).drop k:=by
 rw [Array.toList_extract];simp [List.extract,List.drop_take]
section
variable {M:Model} {A:Around} {E:Value->Shared->Prop} {s:Shared} {κ:SortKind} {S:Keyed->Prop} {R:Keyed->Keyed->Bool}
structure Hi (S:Keyed->Prop) (R:Keyed->Keyed->Bool) (a b out:Array Keyed) (na nb:Nat):Prop where
 mid:MidH R (a.toList ++ b.toList) (a.toList.take na) (b.toList.take nb) out.toList.reverse
 na:na<=a.size
 nb:nb<=b.size
theorem Hi.len {a b out:Array Keyed} {na nb:Nat} (l:Hi S R a b out na nb):out.size+na+nb=a.size+b.size:=by
 have:=l.mid.perm.length_eq
 have d:=l.na
 have c:=l.nb
 simp at this
 omega
theorem Hi.doneA {a b out:Array Keyed} {na nb:Nat} (l:Hi S R a b out na nb) (h:na=0\/nb=0):Fin2 R a b (a.extract 0 na ++ b.extract 0 nb ++ out.reverse):=by
 have:=l.mid.done (by
  rcases h with h | h
  ·left;rw [h];simp
  ·right;rw [h];simp)
 unfold Fin2
 rw [aF9,aF9,ald,ald,Array.toList_reverse]
 exact this
theorem Hi.firstB {a b out:Array Keyed} {na nb:Nat} (T:Two S R a b) (l:Hi S R a b out na nb) (h:nb=1):Fin2 R a b (b.extract 0 nb ++ a.extract 0 na ++ out.reverse):=by
 subst h
 have:=l.mid.first (by
  intro y c x f
  rw [acb (by decide) l.nb] at c
  have d:y=b[0]'T.b0:=by simpa using c
  exact T.first x (aB9 f) y (by rw [d];exact aA4 _))
 unfold Fin2
 rw [aF9,aF9,ald,ald,Array.toList_reverse]
 exact this
theorem ab4 {l:List Keyed} {i:Nat} (h:Srt R l):Srt R (l.take i):=List.Pairwise.sublist (List.take_sublist i l) h
theorem adv {x:Keyed} {l:List Keyed} (C:Cmp M A E s κ S R) (h:Srt R (l ++ [x])) (b:S x):∀ y∈l ++ [x],R x y=false:=by
 intro y a
 rcases aA7.mp a with a | a
 ·exact (aC8.mp h).2.2 y a x (by simp)
 ·have:y=x:=by simpa using a
  rw [this];exact C.irr b
theorem Hi.pushA {a b out:Array Keyed} {na nb:Nat} (l:Hi S R a b out na nb) (d:0 < na) (h:∀ x∈b.toList.take nb,R (a[na - 1]'(by have:=l.na;omega)) x=false):Hi S R a b (out.push (a[na - 1]'(by have:=l.na;omega))) (na - 1) nb:=by
 refine ⟨?_,by have:=l.na;omega,l.nb⟩
 have m:=l.mid
 rw [acb d l.na] at m
 rw [Array.toList_push,List.reverse_append]
 exact m.takeA (p:=[_]) (fun x f y c=>by
  rw [aC1.mp c];exact h x f)
theorem Hi.pushB {a b out:Array Keyed} {na nb:Nat} (l:Hi S R a b out na nb) (d:0 < nb) (h:∀ x∈a.toList.take na,R (b[nb - 1]'(by have:=l.nb;omega)) x=false):Hi S R a b (out.push (b[nb - 1]'(by have:=l.nb;omega))) na (nb - 1):=by
 refine ⟨?_,l.na,by have:=l.nb;omega⟩
 have m:=l.mid
 rw [acb d l.nb] at m
 rw [Array.toList_push,List.reverse_append]
 exact m.takeB (p:=[_]) (fun x f y c=>by
  rw [aC1.mp c];exact h x f)
theorem Hi.runA {a b out:Array Keyed} {na nb k:Nat} (l:Hi S R a b out na nb) (d:k<=na) (h:∀ x∈b.toList.take nb,∀ y∈(a.toList.take na).drop k,R y x=false):Hi S R a b (out ++ (a.extract k na).reverse) k nb:=by
 refine ⟨?_,by have:=l.na;omega,l.nb⟩
 have m:=l.mid
 rw [← aC0 k (a.toList.take na)] at m
 rw [aF9,Array.toList_reverse,al8,List.reverse_append,List.reverse_reverse]
 have c:=m.takeA h
 rw [List.take_take,Nat.min_eq_left d] at c
 exact c
theorem Hi.runB {a b out:Array Keyed} {na nb k:Nat} (l:Hi S R a b out na nb) (d:k<=nb) (h:∀ x∈a.toList.take na,∀ y∈(b.toList.take nb).drop k,R y x=false):Hi S R a b (out ++ (b.extract k nb).reverse) na k:=by
 refine ⟨?_,l.na,by have:=l.nb;omega⟩
 have m:=l.mid
 rw [← aC0 k (b.toList.take nb)] at m
 rw [aF9,Array.toList_reverse,al8,List.reverse_append,List.reverse_reverse]
 have c:=m.takeB h
 rw [List.take_take,Nat.min_eq_left d] at c
 exact c
theorem ap7 (C:Cmp M A E s κ S R) {a b:Array Keyed} (T:Two S R a b) {Q:Array Keyed->SortSt->Prop} {st:SortSt} (hk:kindOf st = κ)
  (h:∀ m st',Eqv st st'->Fin2 R a b m->Q m st'):wpS M A E s (aub a b) Q st:=by
 have I:∀ i (h:i < a.size),S a[i]:=fun i h=>T.ha _ (by simp)
 have K:∀ i (h:i < b.size),S b[i]:=fun i h=>T.hb _ (by simp)
 have b0:=T.b0
 have a0:=T.a0
 have la:a.size - 1 < a.size:=by omega
 refine wpS_bind (adm ?_)
 refine wpS_bind (aaz (x:=a[a.size - 1]'la) (aA4 la) ?_)
 have l1:Hi S R a b #[a[a.size - 1]'la] (a.size - 1) b.size:=by
  have l0:Hi S R a b #[] a.size b.size:=⟨⟨by simp [aE5],List.Pairwise.nil,fun x j y hy=>by simp at hy,ab4 T.sa,ab4 T.sb⟩,aA6 _,aA6 _⟩
  exact l0.pushA a0 fun x j=>T.last x (aB9 j) _ (aA4 la)
 refine aap (fun e1=>wpS_pure (h _ _ (Eqv.refl _) (l1.doneA (.inl (aF6.mp e1))))) (fun e1=>?_)
 refine aap (fun e2=>wpS_pure (h _ _ (Eqv.refl _) (l1.firstB T (aF6.mp e2)))) (fun e2=>?_)
 replace e1:a.size - 1 ≠ 0:=fun q=>e1 (aF6.mpr q)
 replace e2:b.size ≠ 1:=fun q=>e2 (aF6.mpr q)
 refine wpS_bind (wpS_get ?_)
 have a5:∀ {na nb:Nat} (D:0 < na) (L:na<=a.size) (X:0 < nb) (O:nb<=b.size),R (b[nb - 1]'(by omega)) (a[na - 1]'(by omega))=true->∀ x∈b.toList.take nb,R (a[na - 1]'(by omega)) x=false:=fun {na nb} D L X O er x j=>by
  have sx:S x:=T.hb x (aB9 j)
  have hs:Srt R (b.toList.take (nb - 1) ++ [b[nb - 1]'(by omega)]):=by rw [← acb X O];exact ab4 T.sb
  rw [acb X O] at j
  exact C.tr _ _ _ sx (K _ _) (I _ _) (adv C hs (K _ _) x j) (C.asy _ _ (K _ _) (I _ _) er)
 have b1:∀ {na nb:Nat} (D:0 < na) (L:na<=a.size) (X:0 < nb) (O:nb<=b.size),R (b[nb - 1]'(by omega)) (a[na - 1]'(by omega))=false->∀ x∈a.toList.take na,R (b[nb - 1]'(by omega)) x=false:=fun {na nb} D L X O er x j=>by
  have sx:S x:=T.ha x (aB9 j)
  have hs:Srt R (a.toList.take (na - 1) ++ [a[na - 1]'(by omega)]):=by rw [← acb D L];exact ab4 T.sa
  rw [acb D L] at j
  exact C.tr _ _ _ sx (I _ _) (K _ _) (adv C hs (I _ _) x j) er
 refine wpS_bind (wpS_mono (Q:=fun (z:Option (Array Keyed) × Nat × Nat × Array Keyed × Nat) st'=>Eqv st st'/\∃ r,z.1=some r/\Fin2 R a b r) ?_ ?_)
 ·refine wpS_forRange (fun t (z:Option (Array Keyed) × Nat × Nat × Array Keyed × Nat) st'=>Eqv st st'/\z.1=none/\Hi S R a b z.2.2.2.1 z.2.1 z.2.2.1/\0 < z.2.1/\1 < z.2.2.1/\t+1<=z.2.2.2.1.size) ?_ ?_ ⟨Eqv.refl _,rfl,l1,by dsimp only;omega,by dsimp only;omega,by simp⟩
  ·intro t z b6 _ ht f
   have q1:=f.1
   refine un5 (J:=fun na nb out _=>Hi S R a b out na nb/\0 < na/\1 < nb/\t+1<=out.size) z f.2 fun na nb out mg o=>?_
   dsimp only
   refine wpS_bind (wpS_mono (Q:=fun (z:Option (Array Keyed) × Nat × Nat × Array Keyed × Nat × Nat) st'=>Eqv st st'/\((∃ r,z.1=some r/\Fin2 R a b r)\/(z.1=none/\Hi S R a b z.2.2.2.1 z.2.1 z.2.2.1/\0 < z.2.1/\1 < z.2.2.1/\t+2<=z.2.2.2.1.size))) ?_ ?_)
   ·refine wpS_forRange (fun i (z:Option (Array Keyed) × Nat × Nat × Array Keyed × Nat × Nat) st'=>Eqv st st'/\z.1=none/\Hi S R a b z.2.2.2.1 z.2.1 z.2.2.1/\0 < z.2.1/\1 < z.2.2.1/\t+1+min i 1<=z.2.2.2.1.size) ?_ ?_ ⟨q1,rfl,o.1,o.2.1,o.2.2.1,o.2.2.2⟩
    ·intro i z g _ hi f
     have q:=f.1
     refine un6 (J:=fun na nb out _ _=>Hi S R a b out na nb/\0 < na/\1 < nb/\t+1+min i 1<=out.size) z f.2 fun na nb out ac bc o=>?_
     have l:=o.1
     have p:=o.2.1
     have a2:=o.2.2.1
     have hsz:=o.2.2.2
     have ia:na - 1 < a.size:=by have:=l.na;omega
     have ib:nb - 1 < b.size:=by have:=l.nb;omega
     refine wpS_bind (aaz (x:=b[nb - 1]) (aA4 ib) ?_)
     refine wpS_bind (aaz (x:=a[na - 1]) (aA4 ia) ?_)
     refine wpS_bind (C.ask _ _ (K _ ib) (I _ ia) _ _ (q.k.trans hk) ?_)
     dsimp only
     refine aap (fun er=>?_) (fun er=>?_)
     ·refine wpS_bind (aaz (x:=a[na - 1]) (aA4 ia) ?_)
      have F:=l.pushA p (a5 p l.na (by omega) l.nb er)
      refine aap (fun w=>wpS_pure ⟨q,.inl ⟨_,rfl,F.doneA (.inl (aF6.mp w))⟩⟩) (fun w=>?_)
      have hf:0 < na - 1/\1 < nb/\t+2<=(out.push a[na - 1]).size:=by
       have a3:na - 1 ≠ 0:=fun q=>w (aF6.mpr q)
       rw [aH2];omega
      exact aap (fun _=>wpS_pure ⟨q,.inr ⟨rfl,F,hf⟩⟩) (fun _=>wpS_pure ⟨q,rfl,F,hf.1,a2,aC9 (by omega) hf.2.2⟩)
     ·refine wpS_bind (aaz (x:=b[nb - 1]) (aA4 ib) ?_)
      have F:=l.pushB (by omega) (b1 p l.na (by omega) l.nb (eq_false_of_ne_true er))
      refine aap (fun w=>wpS_pure ⟨q,.inl ⟨_,rfl,F.firstB T (aF6.mp w)⟩⟩) (fun w=>?_)
      have hf:1 < nb - 1/\t+2<=(out.push b[nb - 1]).size:=by
       have a3:nb - 1 ≠ 1:=fun q=>w (aF6.mpr q)
       rw [aH2];omega
      exact aap (fun _=>wpS_pure ⟨q,.inr ⟨rfl,F,p,hf⟩⟩) (fun _=>wpS_pure ⟨q,rfl,F,p,hf.1,aC9 (by omega) hf.2⟩)
    ·exact fun z g f=>⟨f.1,.inr ⟨f.2.1,f.2.2.1,f.2.2.2.1,f.2.2.2.2.1,aC9 (by omega) f.2.2.2.2.2⟩⟩
   ·intro z g f
    have Z:=f.1
    refine unR (J:=fun y:Nat × Nat × Array Keyed × Nat × Nat=>Hi S R a b y.2.2.1 y.1 y.2.1/\0 < y.1/\1 < y.2.1/\t+2<=y.2.2.1.size) z f.2 (fun r x hr=>wpS_pure ⟨Z,r,rfl,hr⟩) fun hN=>?_
    refine un6 (J:=fun na nb out _ _=>Hi S R a b out na nb/\0 < na/\1 < nb/\t+2<=out.size) z hN fun na nb out ac bc o=>?_
    dsimp only
    refine wpS_bind (adm ?_)
    refine wpS_bind (wpS_mono (Q:=fun (z:Option (Array Keyed) × Nat × Nat × Array Keyed × Nat × Nat × Nat) st'=>Eqv st st'/\((∃ r,z.1=some r/\Fin2 R a b r)\/(z.1=none/\Hi S R a b z.2.2.2.1 z.2.1 z.2.2.1/\0 < z.2.1/\1 < z.2.2.1/\t+2<=z.2.2.2.1.size))) ?_ ?_)
    ·refine wpS_forRange (fun i (z:Option (Array Keyed) × Nat × Nat × Array Keyed × Nat × Nat × Nat) st'=>Eqv st st'/\z.1=none/\Hi S R a b z.2.2.2.1 z.2.1 z.2.2.1/\0 < z.2.1/\1 < z.2.2.1/\t+2<=z.2.2.2.1.size) ?_ (fun z g f=>⟨f.1,.inr f.2⟩) ⟨Z,rfl,o⟩
     intro i z g _ hi f
     have q:=f.1
     refine un7 (J:=fun na nb out _ _ _=>Hi S R a b out na nb/\0 < na/\1 < nb/\t+2<=out.size) z f.2 fun na nb out mg ac bc o=>?_
     have l:=o.1
     have p:=o.2.1
     have a2:=o.2.2.1
     have hsz:=o.2.2.2
     have b4:=l.na
     have Y:=l.nb
     have ib:nb - 1 < b.size:=by omega
     dsimp only
     refine' jpn (M:=M) (A:=A) (E:=E) (s:=s) (st:=g) (β:=Nat) (P:=fun _=>True) (prog:=?prog) (fun W=>?use) (fun b7 _=>?pf)
     case use =>
      refine aap (fun hm=>?_) (fun hm=>?_)
      ·generalize mg - 1=m
       exact W m trivial
      ·exact W mg trivial
     refine wpS_bind (wpS_mono (Q:=fun _ N=>Eqv g N) (wpS_modify ⟨rfl,rfl,rfl,rfl⟩) fun _ N G=>?_)
     replace G:=q.trans G
     refine wpS_bind (aaz (x:=b[nb - 1]) (aA4 ib) ?_)
     refine wpS_bind (agk C (K _ ib) T.ha (by omega) (by rw [List.drop_zero];exact ab4 T.sa) (by omega) (G.k.trans hk) fun k a6 D L=>?_)
     rw [List.drop_zero] at D L
     dsimp only
     generalize hac:na - k=ac2
     refine' jpn2 (M:=M) (A:=A) (E:=E) (s:=s) (st:=N) (P:=fun d c=>Hi S R a b d c nb/\0 < c/\(∀ x∈a.toList.take c,R b[nb - 1] x=false)/\t+2<=d.size) (prog:=?prog2) (fun W=>?use2) (fun d c h5=>?pf2)
     case use2 =>
      refine aap (fun k0=>?_) (fun k0=>?_)
      ·have b2:Srt R (b.toList.take (nb - 1) ++ [b[nb - 1]]):=by rw [← acb (by omega) Y];exact ab4 T.sb
       have F:Hi S R a b (out ++ (a.extract k na).reverse) k nb:=l.runA a6 fun x j y hy=>by
        have sx:S x:=T.hb x (aB9 j)
        have sy:S y:=T.ha y (aB9 (aC3 hy))
        rw [acb (by omega) Y] at j
        exact C.tr _ _ _ sx (K _ ib) sy (adv C b2 (K _ ib) x j) (C.asy _ _ (K _ ib) sy (L y hy))
       refine aap (fun w=>wpS_pure ⟨G,.inl ⟨_,rfl,F.doneA (.inl (aF6.mp w))⟩⟩) (fun w=>?_)
       have hP:Hi S R a b (out ++ (a.extract k na).reverse) k nb/\0 < k/\(∀ x∈a.toList.take k,R b[nb - 1] x=false)/\t+2<=(out ++ (a.extract k na).reverse).size:=by
        have a3:k ≠ 0:=fun q=>w (aF6.mpr q)
        exact ⟨F,by omega,D,by rw [Array.size_append];omega⟩
       revert hP
       clear w F
       generalize out ++ (a.extract k na).reverse=d
       generalize k=c
       intro hP
       exact W d c hP
      ·have:k=na:=by omega
       rw [this] at D
       exact W out na ⟨l,p,D,hsz⟩
     have l3:=h5.1
     have B:=h5.2.1
     have a8:=h5.2.2.1
     have b3:=h5.2.2.2
     have H:=l3.na
     have ia:c - 1 < a.size:=by omega
     refine wpS_bind (aaz (x:=b[nb - 1]) (aA4 ib) ?_)
     have l4:=l3.pushB (by omega) a8
     refine aap (fun e5=>wpS_pure ⟨G,.inl ⟨_,rfl,l4.firstB T (aF6.mp e5)⟩⟩) (fun e5=>?_)
     replace e5:nb - 1 ≠ 1:=fun q=>e5 (aF6.mpr q)
     refine wpS_bind (aaz (x:=a[c - 1]) (aA4 ia) ?_)
     refine wpS_bind (ahp C (I _ ia) T.hb (by omega) (by rw [List.drop_zero];exact ab4 T.sb) (by omega) (G.k.trans hk) fun v a4 X O=>?_)
     rw [List.drop_zero] at X O
     dsimp only
     generalize hbc:nb - 1 - v=bc2
     refine' jpn2 (M:=M) (A:=A) (E:=E) (s:=s) (st:=N) (P:=fun n u=>Hi S R a b n c u/\1 < u/\(∀ x∈b.toList.take u,R a[c - 1] x=false)/\t+2<=n.size) (prog:=?prog3) (fun W=>?use3) (fun n u h6=>?pf3)
     case use3 =>
      have a1:∀ x∈b.toList.take v,R a[c - 1] x=false:=fun x j=>C.asy _ _ (T.hb x (aB9 j)) (I _ ia) (X x j)
      refine aap (fun k0=>?_) (fun k0=>?_)
      ·have a7:Srt R (a.toList.take (c - 1) ++ [a[c - 1]]):=by rw [← acb B H];exact ab4 T.sa
       have l5:Hi S R a b (d.push b[nb - 1] ++ (b.extract v (nb - 1)).reverse) c v:=l4.runB a4 fun x j y hy=>by
        have sx:S x:=T.ha x (aB9 j)
        have sy:S y:=T.hb y (aB9 (aC3 hy))
        rw [acb B H] at j
        exact C.tr _ _ _ sx (I _ ia) sy (adv C a7 (I _ ia) x j) (O y hy)
       refine aap (fun e6=>wpS_pure ⟨G,.inl ⟨_,rfl,l5.firstB T (aF6.mp e6)⟩⟩) (fun e6=>?_)
       refine aap (fun U=>wpS_pure ⟨G,.inl ⟨_,rfl,l5.doneA (.inr (aF6.mp U))⟩⟩) (fun U=>?_)
       have hP:Hi S R a b (d.push b[nb - 1] ++ (b.extract v (nb - 1)).reverse) c v/\1 < v/\(∀ x∈b.toList.take v,R a[c - 1] x=false)/\t+2<=(d.push b[nb - 1] ++ (b.extract v (nb - 1)).reverse).size:=by
        have b5:v ≠ 1:=fun q=>e6 (aF6.mpr q)
        have a9:v ≠ 0:=fun q=>U (aF6.mpr q)
        exact ⟨l5,by omega,a1,by rw [Array.size_append,aH2];omega⟩
       revert hP
       clear e6 U l5
       generalize d.push b[nb - 1] ++ (b.extract v (nb - 1)).reverse=n
       generalize v=u
       intro hP
       exact W n u hP
      ·have:v=nb - 1:=by omega
       rw [this] at a1
       exact W (d.push b[nb - 1]) (nb - 1) ⟨l4,by omega,a1,by rw [aH2];omega⟩
     refine wpS_bind (aaz (x:=a[c - 1]) (aA4 ia) ?_)
     have l7:=h6.1.pushA B h6.2.2.1
     refine aap (fun U=>wpS_pure ⟨G,.inl ⟨_,rfl,l7.doneA (.inl (aF6.mp U))⟩⟩) (fun U=>?_)
     have hf:0 < c - 1/\1 < u/\t+2<=(n.push a[c - 1]).size:=by
      have a9:c - 1 ≠ 0:=fun q=>U (aF6.mpr q)
      have h7:=h6.2.2.2
      exact ⟨by omega,h6.2.1,by rw [aH2];omega⟩
     exact aap (fun _=>wpS_pure ⟨G,.inr ⟨rfl,l7,hf⟩⟩) (fun _=>wpS_pure ⟨G,rfl,l7,hf⟩)
    ·intro z g f
     have Z:=f.1
     refine unR (J:=fun y:Nat × Nat × Array Keyed × Nat × Nat × Nat=>Hi S R a b y.2.2.1 y.1 y.2.1/\0 < y.1/\1 < y.2.1/\t+2<=y.2.2.1.size) z f.2 (fun r x hr=>wpS_pure ⟨Z,r,rfl,hr⟩) fun hN=>?_
     refine un7 (J:=fun na nb out _ _ _=>Hi S R a b out na nb/\0 < na/\1 < nb/\t+2<=out.size) z hN fun na nb out mg ac bc o=>?_
     dsimp only
     refine wpS_bind (wpS_modify ?_)
     exact wpS_pure ⟨Z.trans ⟨rfl,rfl,rfl,rfl⟩,rfl,o⟩
  ·intro z g f
   exfalso
   have D:=f.2.2.1.len
   have L:=f.2.2.2
   have:a.size+b.size<=max 0 (a.size+b.size):=by omega
   omega
 ·intro z g f
  have Z:=f.1
  exact unR (J:=fun _=>False) z (.inl f.2) (fun r x hr=>wpS_pure (h r g Z hr)) fun hN=>hN.2.elim
end
theorem akc (base:Nat):∀ (b v u w:List Keyed) (j:Nat) (xs:Array Keyed),xs.toList=u ++ v ++ w->v.length=b.length->u.length=base+j ->
  ((b.zipIdx j).foldl (fun a x=>match x with | (p,j)=>a.setIfInBounds (base+j) p) xs).toList=u ++ b ++ w
 | [],v,u,w,j,xs,h1,h2,h3=>by
  have:v=[]:=aG5 h2
  subst this
  exact h1
 | m :: b,v,u,w,j,xs,h1,h2,h3=>by
  cases v with
  | nil=>cases h2
  | cons y v =>
   rw [List.zipIdx_cons,List.foldl_cons]
   have c:=akc base b v (u ++ [m]) w (j+1) (xs.setIfInBounds (base+j) m) (by
    rw [Array.toList_setIfInBounds,h1,← h3]
    simp [List.set_append]) (by simpa using h2) (by simp [h3];omega)
   rw [c]
   simp
section
variable {M:Model} {A:Around} {E:Value->Shared->Prop} {s:Shared} {κ:SortKind} {S:Keyed->Prop} {R:Keyed->Keyed->Bool}
theorem axb {σ:Type} {st st' : σ} {Q:PUnit->σ->Prop} (h:Q ⟨⟩ st'):wpS M A E s (set st':StateT σ Sem PUnit) Q st:=by
 unfold wpS
 rw [StateT.run_set]
 exact aI2 ⟨rfl,h⟩
theorem ap8 (C:Cmp M A E s κ S R) {st:SortSt} {i pw pw2:Nat} {pre a b g:List Keyed} (G:(arrOf st).toList=pre ++ a ++ b ++ g) (hS:∀ x∈(arrOf st).toList,S x)
  (a7:(pendingOf st)[i]?=some (pre.length,a.length,pw)) (a4:(pendingOf st)[i+1]?=some (pre.length+a.length,b.length,pw2)) (na:a ≠ []) (nb:b ≠ []) (W:Srt R a) (O:Srt R b) (hk:kindOf st = κ) (hf:failedOf st=none)
  {Q:Bool->SortSt->Prop}
  (h:∀ st' m,kindOf st' = κ->failedOf st'=none->pendingOf st'=((pendingOf st).setIfInBounds i (pre.length,a.length+b.length,pw)).eraseIdxIfInBounds (i+1)->(arrOf st').toList=pre ++ m ++ g->m.Perm (a ++ b)->Srt R m->Q true st') :
  wpS M A E s (al7 i) Q st:=by
 have la:0 < a.length:=aF2.mpr na
 have lb:0 < b.length:=aF2.mpr nb
 have L:∀ x∈a,S x:=fun x c=>hS x (by rw [G];simp [c])
 have P:∀ x∈b,S x:=fun x c=>hS x (by rw [G];simp [c])
 have lx:(arrOf st).size=pre.length+a.length+b.length+g.length:=by
  have:=congrArg List.length G
  simp at this
  omega
 have w:((arrOf st).toList.drop pre.length).take a.length=a:=by rw [G];simp [aB3]
 have F:((arrOf st).toList.drop (pre.length+a.length)).take b.length=b:=by
  rw [show pre.length+a.length=(pre ++ a).length by simp,G,aB3 (pre ++ a),List.drop_left,List.take_left]
 refine wpS_bind (wpS_get ?_)
 rw [a7,a4]
 refine wpS_bind (wpS_mono (Q:=fun _ n=>kindOf n = κ/\failedOf n=none/\arrOf n=arrOf st/\pendingOf n=((pendingOf st).setIfInBounds i (pre.length,a.length+b.length,pw)).eraseIdxIfInBounds (i+1)) (axb ⟨hk,hf,rfl,rfl⟩) fun _ n ⟨Z,f1,a1,p1⟩=>?_)
 obtain ⟨b0,bt,eb⟩:∃ b0 bt,b=b0 :: bt:=by cases b with | nil=>exact absurd rfl nb | cons x r=>exact ⟨x,r,rfl⟩
 have a5:(arrOf st)[pre.length+a.length]?=some b0:=by
  rw [← aD4,G,eb]
  simp [List.getElem?_append]
 have v:S b0:=P b0 (by rw [eb];simp)
 have D:∀ y∈b,R y b0=false:=fun y d=>by rw [eb] at d O;exact aem C O v y d
 -- nothing is laid together: the two stand in order already
 have B:(∀ x∈a,∀ y∈b,R y x=false)->∀ st',Eqv n st'->Q true st':=fun hc st' q=>by
  refine h st' (a ++ b) (q.k.trans Z) (q.f.trans f1) (q.p.trans p1) ?_ (List.Perm.refl _) (aC8.mpr ⟨W,O,hc⟩)
  rw [q.a,a1,G]
  simp [aB3]
 refine wpS_bind (aaz a5 ?_)
 refine wpS_bind (agk C v hS (by omega) (by rw [w];exact W) la Z fun k a6 h1 h2=>?_)
 rw [w] at h2
 have H:∀ x∈a.take k,R b0 x=false:=fun x c=>h1 x (by
  have:((arrOf st).toList.drop pre.length).take k=a.take k:=by rw [← w,List.take_take,Nat.min_eq_left a6]
  rw [this];exact c)
 dsimp only
 refine aap (fun e=>?_) (fun e=>?_)
 ·have e':a.length - k=0:=by simpa using e
  refine wpS_pure (B (fun x c y d=>?_) n (Eqv.refl _))
  have:a.take k=a:=aE5 (by omega)
  rw [this] at H
  exact C.tr x b0 y (L x c) v (P y d) (H x c) (D y d)
 ·have e':a.length - k ≠ 0:=by simpa using e
  -- the last of a
  have U:pre.length+k+(a.length - k) - 1=pre.length+(a.length - 1):=by omega
  have o:a.length - 1 < a.length:=by omega
  have a9:(arrOf st)[pre.length+k+(a.length - k) - 1]?=some (a[a.length - 1]'o):=by
   rw [← aD4,G,U]
   simp [List.getElem?_append,o,aB3]
  have Sl:S (a[a.length - 1]'o):=L _ (List.getElem_mem o)
  have u:a=a.take (a.length - 1) ++ [a[a.length - 1]'o]:=by
   have:=List.take_succ (l:=a) (i:=a.length - 1)
   rw [show a.length - 1+1=a.length by omega,aG1] at this
   simpa [o] using this
  have K:∀ x∈a,R (a[a.length - 1]'o) x=false:=fun x c=>by
   have hs:Srt R (a.take (a.length - 1) ++ [a[a.length - 1]'o]):=by rw [← u];exact W
   exact adv C hs Sl x (by rw [← u];exact c)
  refine wpS_bind (aaz a9 ?_)
  refine wpS_bind (ahp C Sl hS (by omega) (by rw [F];exact O) (by omega) Z fun j b1 h3 h4=>?_)
  rw [F] at h4
  have a0:((arrOf st).toList.drop (pre.length+a.length)).take j=b.take j:=by rw [← F,List.take_take,Nat.min_eq_left b1]
  rw [a0] at h3
  dsimp only
  refine aap (fun e2=>?_) (fun e2=>?_)
  ·have a2:j=0:=by simpa using e2
   subst a2
   refine wpS_pure (B (fun x c y d=>?_) n (Eqv.refl _))
   exact C.tr x _ y (L x c) Sl (P y d) (K x c) (h4 y (by simpa using d))
  ·have a2:j ≠ 0:=by simpa using e2
   have ex:((arrOf st).extract (pre.length+k) (pre.length+a.length)).toList=a.drop k:=by
    rw [al8,G]
    simp [aB3,List.take_append,List.drop_append]
   have N:((arrOf st).extract (pre.length+a.length) (pre.length+a.length+j)).toList=b.take j:=by
    rw [ajg,a0]
   generalize hX:(arrOf st).extract (pre.length+k) (pre.length+a.length)=X at ex
   generalize hY:(arrOf st).extract (pre.length+a.length) (pre.length+a.length+j)=Y at N
   have sX:X.size=a.length - k:=by have:=congrArg List.length ex;simpa using this
   have sY:Y.size=j:=by have:=congrArg List.length N;simp at this;omega
   have T:Two S R X Y:=by
    refine ⟨fun x c=>L x (aC3 (by rw [← ex];exact c)),fun x c=>P x (aB9 (by rw [← N];exact c)),by rw [ex];exact acs W,by rw [N];exact ab4 O,by omega,by omega,fun x c y d=>?_,fun y d x c=>?_⟩
    ·rw [← aD4,N,eb] at d
     have:y=b0:=by
      obtain ⟨j',rfl⟩:∃ j',j=j'+1:=⟨j - 1,by omega⟩
      simpa using d.symm
     rw [this]
     rw [ex] at c
     exact C.asy _ _ v (L x (aC3 c)) (h2 x c)
    ·rw [← aD4,ex,sX] at c
     rw [aH6,show k+(a.length - k - 1)=a.length - 1 by omega,aA0 o] at c
     cases c
     rw [N] at d
     exact C.asy _ _ (P y (aB9 d)) Sl (h3 y d)
   have fin:∀ (m:Array Keyed) (st':SortSt),Eqv n st'->Fin2 R X Y m->wpS M A E s (do
     modify fun (z:SortSt)=>setArr z (List.foldl (fun a x=>match x with | (p,j)=>a.setIfInBounds (pre.length+k+j) p) (arrOf z) m.toList.zipIdx)
     let z ← get
     pure (failedOf z).isNone) Q st':=by
    intro m st' q ⟨I,ms⟩
    rw [ex,N] at I
    refine wpS_bind (wpS_modify ?_)
    refine wpS_bind (wpS_get ?_)
    refine wpS_pure ?_
    show Q (failedOf st').isNone _
    rw [q.f,f1]
    have lm:m.toList.length=(a.drop k).length+(b.take j).length:=by rw [I.length_eq,aB0]
    have J:∀ z∈m.toList,z∈a.drop k\/z∈b.take j:=fun z hz=>aA7.mp (I.mem_iff.mp hz)
    refine h _ (a.take k ++ m.toList ++ b.drop j) (q.k.trans Z) (q.f.trans f1) (q.p.trans p1) ?_ ?_ ?_
    ·show (List.foldl _ (arrOf st') m.toList.zipIdx).toList=_
     have base:(arrOf st').toList=(pre ++ a.take k) ++ (a.drop k ++ b.take j) ++ (b.drop j ++ g):=by
      rw [q.a,a1,G]
      have t1:=aC0 k a
      have t2:=aC0 j b
      calc pre ++ a ++ b ++ g=pre ++ (a.take k ++ a.drop k) ++ (b.take j ++ b.drop j) ++ g:=by rw [t1,t2]
       _=_:=by simp only [aB3]
     have:=akc (pre.length+k) m.toList (a.drop k ++ b.take j) (pre ++ a.take k) (b.drop j ++ g) 0 (arrOf st') base (by rw [aB0,lm]) (by rw [aB0,aG3];omega)
     rw [this]
     simp only [aB3]
    ·have t1:=aC0 k a
     have t2:=aC0 j b
     calc (a.take k ++ m.toList ++ b.drop j).Perm (a.take k ++ (a.drop k ++ b.take j) ++ b.drop j):=List.Perm.append_right _ (List.Perm.append_left _ I)
      _ = a ++ b:=by
       simp only [aB3]
       rw [t2,← aB3,t1]
    ·have a3:Srt R (a.take k ++ a.drop k):=by rw [aC0];exact W
     have a8:Srt R (b.take j ++ b.drop j):=by rw [aC0];exact O
     have ca:=(aC8.mp a3).2.2
     have cb:=(aC8.mp a8).2.2
     refine aC8.mpr ⟨aC8.mpr ⟨ab4 W,ms,fun x c y d=>?_⟩,acs O,fun x c y d=>?_⟩
     ·rcases J y d with d | d
      ·exact ca x c y d
      ·exact C.tr x b0 y (L x (aB9 c)) v (P y (aB9 d)) (H x c) (D y (aB9 d))
     ·have Sy:=P y (aC3 d)
      rcases aA7.mp c with c | c
      ·exact C.tr x b0 y (L x (aB9 c)) v Sy (H x c) (D y (aC3 d))
      ·rcases J x c with c | c
       ·exact C.tr x _ y (L x (aC3 c)) Sl Sy (K x (aC3 c)) (h4 y d)
       ·exact cb x c y d
   refine aap (fun e3=>?_) (fun e3=>?_)
   ·exact wpS_bind (ap6 C T Z fun m st' q fm=>fin m st' q fm)
   ·exact wpS_bind (ap7 C T Z fun m st' q fm=>fin m st' q fm)
end
def e (xs:Array Keyed) (k:Nat):Keyed:=(xs[k]?).getD (.none,.none)
theorem aii {xs:Array Keyed} {k:Nat} (h:k < xs.size):xs[k]?=some (e xs k):=by
 unfold e;rw [aA4 h];rfl
def Asc (R:Keyed->Keyed->Bool) (xs:Array Keyed) (l h:Nat):Prop:=∀ i j,l<=i->i<=j->j < h->R (e xs j) (e xs i)=false
def Des (R:Keyed->Keyed->Bool) (xs:Array Keyed) (l h:Nat):Prop:=∀ i j,l<=i->i<=j->j < h->R (e xs i) (e xs j)=false
structure Bs (κ:SortKind) (p0:Array (Nat × Nat × Nat)) (a0:Array Keyed) (lo:Nat) (st:SortSt):Prop where
 k:kindOf st = κ
 f:failedOf st=none
 p:pendingOf st=p0
 perm:(arrOf st).toList.Perm a0.toList
 pre:∀ k,k < lo->(arrOf st)[k]?=a0[k]?
theorem aud {xs:Array Keyed} {src d:Nat} (a:src < xs.size) (hd:d<=src) (k:Nat):e (bubble xs src d) k=if k=src - d then e xs src else if src - d < k/\k<=src then e xs (k - 1) else e xs k:=by
 unfold e
 rw [getElem?_bubble a d hd]
 repeat' split
 all_goals rfl
theorem ac6 {xs:Array Keyed} {i j:Nat} (a:j<=xs.size) (k:Nat):e (mirror xs i j ((j - i) / 2)) k=if i<=k/\k < j then e xs (i+j - 1 - k) else e xs k:=by
 unfold e
 rw [getElem?_mirror_all a]
 split <;> rfl
section
variable {M:Model} {A:Around} {E:Value->Shared->Prop} {s:Shared} {κ:SortKind} {S:Keyed->Prop} {R:Keyed->Keyed->Bool} {p0:Array (Nat × Nat × Nat)} {a0:Array Keyed} {lo:Nat}
theorem Bs.size {st:SortSt} (B:Bs κ p0 a0 lo st):(arrOf st).size=a0.size:=by
 have:=B.perm.length_eq
 simpa using this
theorem Bs.sat {st:SortSt} (B:Bs κ p0 a0 lo st) (a:∀ x∈a0.toList,S x) {k:Nat} (b:k < a0.size):S (e (arrOf st) k):=by
 have h:=aii (xs:=arrOf st) (k:=k) (by rw [B.size];exact b)
 refine a _ (B.perm.mem_iff.mp ?_)
 rw [← aD4] at h
 exact aA2 h
theorem agl (C:Cmp M A E s κ S R) (b:∀ x∈a0.toList,S x) {st:SortSt} (B:Bs κ p0 a0 lo st) {i j:Nat} (hi:i < a0.size) (a:j < a0.size) {Q:Option Bool->SortSt->Prop} (h:Q (some (R (e (arrOf st) i) (e (arrOf st) j))) st) :
  wpS M A E s (ltAt' i j) Q st:=by
 rw [ltAt'_eq]
 refine wpS_bind (wpS_get ?_)
 refine wpS_bind (aaz (aii (by rw [B.size];exact hi)) ?_)
 refine wpS_bind (aaz (aii (by rw [B.size];exact a)) ?_)
 exact C.ask _ _ (B.sat b hi) (B.sat b a) _ _ B.k h
theorem aue (C:Cmp M A E s κ S R) {xs:Array Keyed} {l h:Nat} (b:∀ k,k<=h->S (e xs k)) (f:l < h) (a:Asc R xs l h) (n:R (e xs h) (e xs (h - 1))=false):Asc R xs l (h+1):=by
 intro i j c d g
 by_cases hj:j=h
 ·subst hj
  by_cases hi:i=j
  ·subst hi;exact C.irr (b _ (aA6 _))
  ·exact C.tr _ (e xs (j - 1)) _ (b _ (by omega)) (b _ (by omega)) (b _ (by omega)) (a i (j - 1) c (by omega) (by omega)) n
 ·exact a i j c d (by omega)
theorem afo (C:Cmp M A E s κ S R) {xs:Array Keyed} {l h:Nat} (b:∀ k,k<=h->S (e xs k)) (f:l < h) (a:Des R xs l h) (n:R (e xs (h - 1)) (e xs h)=false):Des R xs l (h+1):=by
 intro i j c d g
 by_cases hj:j=h
 ·subst hj
  by_cases hi:i=j
  ·subst hi;exact C.irr (b _ (aA6 _))
  ·exact C.tr _ (e xs (j - 1)) _ (b _ (by omega)) (b _ (by omega)) (b _ (by omega)) n (a i (j - 1) c (by omega) (by omega))
 ·exact a i j c d (by omega)
theorem Bs.set {st:SortSt} (B:Bs κ p0 a0 lo st) {xs:Array Keyed} (b:xs.Perm (arrOf st)) (c:∀ k,k < lo->xs[k]?=(arrOf st)[k]?):Bs κ p0 a0 lo (setArr st xs) :=
 ⟨B.k,B.f,B.p,b.toList.trans B.perm,fun k a=>(c k a).trans (B.pre k a)⟩
theorem ap9 (C:Cmp M A E s κ S R) (F:∀ x∈a0.toList,S x) {st:SortSt} (B:Bs κ p0 a0 lo st) {n ok:Nat} (hn:lo+n<=a0.size) (hok:ok<=n) (P:1<=n) (J:Asc R (arrOf st) lo (lo+ok)) {Q:Bool->SortSt->Prop}
  (h:∀ st',Bs κ p0 a0 lo st'->Asc R (arrOf st') lo (lo+n)->Q true st'):wpS M A E s (auc lo n ok) Q st:=by
 refine wpS_bind (wpS_mono (Q:=fun (z:Option Bool × Unit) st'=>z.1=none/\Bs κ p0 a0 lo st'/\Asc R (arrOf st') lo (lo+n)) ?_ ?_)
 ·refine wpS_forRange (fun k (z:Option Bool × Unit) st'=>z.1=none/\Bs κ p0 a0 lo st'/\Asc R (arrOf st') lo (lo+k)) ?_ ?_ ⟨rfl,B,fun i j p g v=>?_⟩
  ·rintro k ⟨o,_⟩ b O L ⟨rfl,q,as⟩
   have d:∀ j,j < lo+n->S (e (arrOf b) j):=fun j D=>q.sat F (by omega)
   refine wpS_bind (wpS_mono (Q:=fun (z:Option Bool × Nat × Nat) st'=>st'=b/\z.1=none/\z.2.1<=k/\(∀ i,i < z.2.1->R (e (arrOf b) (lo+k)) (e (arrOf b) (lo+i))=false)/\(∀ i,z.2.1<=i->i < k->R (e (arrOf b) (lo+k)) (e (arrOf b) (lo+i))=true)) ?_ ?_)
   ·refine wpS_forRange (fun t (z:Option Bool × Nat × Nat) st'=>st'=b/\z.1=none/\z.2.1<=z.2.2/\z.2.2<=k/\z.2.2 - z.2.1+t<=k/\(∀ i,i < z.2.1->R (e (arrOf b) (lo+k)) (e (arrOf b) (lo+i))=false)/\(∀ i,z.2.2<=i->i < k->R (e (arrOf b) (lo+k)) (e (arrOf b) (lo+i))=true)) ?_ ?_
     ⟨rfl,rfl,Nat.zero_le _,Nat.le_refl _,by dsimp only;omega,fun i hi=>absurd hi (Nat.not_lt_zero _),fun i p g=>by dsimp only at p;omega⟩
    ·rintro t ⟨o,l,r⟩ a _ T ⟨rfl,c,p,g,v,m,f⟩
     dsimp only at c p g v m f ⊢
     subst c
     refine aap (fun G=>?_) (fun G=>?_)
     ·have:l=r:=by omega
      subst this
      exact wpS_pure ⟨rfl,rfl,g,m,f⟩
     ·have hm:(l+r) / 2 < r:=by omega
      have y:l<=(l+r) / 2:=by omega
      refine wpS_bind (agl C F q (by omega) (by omega) ?_)
      dsimp only
      cases er:R (e (arrOf a) (lo+k)) (e (arrOf a) (lo+(l+r) / 2)) with
      | true =>
       rw [aE8 rfl]
       refine wpS_pure ⟨rfl,rfl,y,by dsimp only;omega,by dsimp only;omega,m,fun i u w=>?_⟩
       dsimp only at u
       cases e2:R (e (arrOf a) (lo+k)) (e (arrOf a) (lo+i)) with
       | true=>rfl
       | false =>
        have:=C.tr _ _ _ (d _ (by omega)) (d _ (by omega)) (d _ (by omega)) (as (lo+(l+r) / 2) (lo+i) (by omega) (by omega) (by omega)) e2
        rw [this] at er;cases er
      | false =>
       rw [aE9 (by decide)]
       refine wpS_pure ⟨rfl,rfl,by dsimp only;omega,g,by dsimp only;omega,fun i u=>?_,f⟩
       dsimp only at u
       exact C.tr _ _ _ (d _ (by omega)) (d _ (by omega)) (d _ (by omega)) (as (lo+i) (lo+(l+r) / 2) (by omega) (by omega) (by omega)) er
    ·rintro ⟨o,l,r⟩ a ⟨rfl,c,p,g,v,m,f⟩
     dsimp only at c p g v m f ⊢
     have : l = r := by have:k ≤ max 0 k := by omega
                        omega
     subst this
     exact ⟨rfl,c,g,m,f⟩
   ·rintro ⟨o,l,r⟩ a ⟨rfl,c,p,m,f⟩
    dsimp only at c p m f ⊢
    subst c
    dsimp only
    have hsz:lo+k < (arrOf a).size:=by rw [q.size];omega
    have hd:(lo+k) - (lo+l)=k - l:=by omega
    refine wpS_bind (wpS_modify ?_)
    have H:∀ j,e (bubble (arrOf a) (lo+k) (lo+k - (lo+l))) j=if j=lo+l then e (arrOf a) (lo+k) else if lo+l < j/\j<=lo+k then e (arrOf a) (j - 1) else e (arrOf a) j:=fun j=>by
     rw [aud hsz (by omega),show lo+k - (lo+k - (lo+l))=lo+l by omega]
    refine wpS_pure ⟨rfl,q.set (bubble_perm _ _ _) (fun j D=>?_),fun i j u w K=>?_⟩
    ·show (bubble (arrOf a) (lo+k) (lo+k - (lo+l)))[j]?=_
     rw [getElem?_bubble hsz _ (by omega),aE9 (by omega),aE9 (by omega)]
    ·show R (e (bubble (arrOf a) (lo+k) (lo+k - (lo+l))) j) (e (bubble (arrOf a) (lo+k) (lo+k - (lo+l))) i)=false
     rw [H,H]
     have N:∀ j,j < lo+n->S (e (arrOf a) j):=d
     by_cases j1:j=lo+l
     ·rw [aE8 j1]
      by_cases i4:i=lo+l
      ·rw [aE8 i4];exact C.irr (d _ (by omega))
      ·rw [aE9 i4,aE9 (by omega)]
       have:=m (i - lo) (by omega)
       rw [show lo+(i - lo)=i by omega] at this
       exact this
     ·rw [aE9 j1]
      by_cases j2:lo+l < j/\j<=lo+k
      ·rw [aE8 j2]
       have I:=f (j - 1 - lo) (by omega) (by omega)
       rw [show lo+(j - 1 - lo)=j - 1 by omega] at I
       by_cases i4:i=lo+l
       ·rw [aE8 i4];exact C.asy _ _ (d _ (by omega)) (d _ (by omega)) I
       ·rw [aE9 i4]
        by_cases i5:lo+l < i/\i<=lo+k
        ·rw [aE8 i5];exact as (i - 1) (j - 1) (by omega) (by omega) (by omega)
        ·rw [aE9 i5];exact as i (j - 1) (by omega) (by omega) (by omega)
      ·rw [aE9 j2,aE9 (by omega),aE9 (by omega)]
       exact as i j (by omega) (by omega) (by omega)
  ·rintro ⟨o,_⟩ b ⟨c,q,as⟩
   exact ⟨c,q,fun i j u w K=>as i j u w (by omega)⟩
  ·by_cases D:j < lo+ok
   ·exact J i j p g D
   ·have:i=j:=by omega
    subst this
    exact C.irr (B.sat F (by omega))
 ·rintro ⟨o,_⟩ b ⟨c,q,as⟩
  dsimp only at c ⊢
  subst c
  exact wpS_pure (h b q as)
end
def Eqb (R:Keyed->Keyed->Bool) (xs:Array Keyed) (l h:Nat):Prop:=∀ i j,l<=i->i < h->l<=j->j < h->R (e xs i) (e xs j)=false
section
variable {M:Model} {A:Around} {E:Value->Shared->Prop} {s:Shared} {κ:SortKind} {S:Keyed->Prop} {R:Keyed->Keyed->Bool} {p0:Array (Nat × Nat × Nat)} {a0:Array Keyed} {lo:Nat}
theorem aor {α:Type} {prog:StateT SortSt Sem α} {P:SortSt->Prop} {Q : α->SortSt->Prop} {G:Prop} (use:(∀ st,P st->wpS M A E s prog Q st)->G) (a:∀ st,P st->wpS M A E s prog Q st):G:=use a
theorem al9 (C:Cmp M A E s κ S R) (f:∀ x∈a0.toList,S x) {st:SortSt} (B:Bs κ p0 a0 lo st) {a nrem:Nat} (l:1<=a) (g:a<=nrem) (hn:lo+nrem<=a0.size) (as:Asc R (arrOf st) lo (lo+a)) {Q:Option (Option Nat) × Nat->SortSt->Prop}
  (h:∀ n,a<=n->n<=nrem->Asc R (arrOf st) lo (lo+n)->(n < nrem->R (e (arrOf st) (lo+n)) (e (arrOf st) (lo+n - 1))=true)->Q (none,n) st) :
  wpS M A E s (forIn [a:nrem] ((none,a):Option (Option Nat) × Nat) (fun (_:Nat) z=>ltAt' (lo+z.2) (lo+z.2 - 1) >>= fun x=>match x with
   | some smaller=>if smaller=true then pure (ForInStep.done (none,z.2)) else pure (ForInStep.yield (none,z.2+1))
   | _=>pure (ForInStep.done (some none,z.2)))) Q st:=by
 refine wpS_forRange (fun t (z:Option (Option Nat) × Nat) st'=>st'=st/\z=(none,t)/\Asc R (arrOf st) lo (lo+t)) ?_ ?_ ⟨rfl,rfl,as⟩
 ·rintro t ⟨o,n⟩ c i m ⟨rfl,d,b⟩
  cases d
  dsimp only
  refine wpS_bind (agl C f B (by omega) (by omega) ?_)
  dsimp only
  cases er:R (e (arrOf c) (lo+t)) (e (arrOf c) (lo+t - 1)) with
  | true =>
   rw [aE8 rfl]
   exact wpS_pure (h t i (by omega) b fun _=>er)
  | false =>
   rw [aE9 (by decide)]
   exact wpS_pure ⟨rfl,rfl,aue C (h:=lo+t) (fun k j=>B.sat f (by omega)) (by omega) b er⟩
 ·rintro ⟨o,n⟩ c ⟨rfl,d,b⟩
  cases d
  rw [show max a nrem=nrem by omega] at b ⊢
  exact h nrem g (aA6 _) b fun z=>absurd z (aF7 _)
theorem auf (C:Cmp M A E s κ S R) {st:SortSt} (B:Bs κ p0 a0 lo st) {n:Nat} (hn:lo+n<=a0.size) (a:Des R (arrOf st) lo (lo+n)) :
  Bs κ p0 a0 lo (setArr st (mirror (arrOf st) lo (lo+n) ((lo+n - lo) / 2)))/\Asc R (mirror (arrOf st) lo (lo+n) ((lo+n - lo) / 2)) lo (lo+n):=by
 have hz:lo+n<=(arrOf st).size:=by rw [B.size];exact hn
 refine ⟨B.set (mirror_perm _ _ _ _) (fun k c=>by rw [getElem?_mirror_all hz,aE9 (by omega)]),fun i j f b d=>?_⟩
 rw [ac6 hz,ac6 hz,aE8 (by omega),aE8 (by omega)]
 exact a _ _ (by omega) (by omega) (by omega)
theorem ajh (C:Cmp M A E s κ S R) (d:∀ x∈a0.toList,S x) {st:SortSt} (B:Bs κ p0 a0 lo st) {l h m:Nat} (p:lo<=l) (hh:h<=a0.size) (hm:h<=m) (c:m<=a0.size) (a:Des R (arrOf st) lo m) (eq:Eqb R (arrOf st) l h) :
  Bs κ p0 a0 lo (setArr st (mirror (arrOf st) l h ((h - l) / 2)))/\Des R (mirror (arrOf st) l h ((h - l) / 2)) lo m:=by
 have hz:h<=(arrOf st).size:=by rw [B.size];exact hh
 refine ⟨B.set (mirror_perm _ _ _ _) (fun k b=>by rw [getElem?_mirror_all hz,aE9 (by omega)]),fun i j g n o=>?_⟩
 rw [ac6 hz,ac6 hz]
 have f:∀ k,k < m->S (e (arrOf st) k):=fun k b=>B.sat d (by omega)
 by_cases c1:l<=i/\i < h
 ·rw [aE8 c1]
  by_cases c2:l<=j/\j < h
  ·rw [aE8 c2]
   exact eq _ _ (by omega) (by omega) (by omega) (by omega)
  ·rw [aE9 c2]
   exact a _ _ (by omega) (by omega) (by omega)
 ·rw [aE9 c1]
  by_cases c2:l<=j/\j < h
  ·rw [aE8 c2]
   exact a _ _ (by omega) (by omega) (by omega)
  ·rw [aE9 c2]
   exact a _ _ (by omega) (by omega) (by omega)
theorem ar5 (C:Cmp M A E s κ S R) (p:∀ x∈a0.toList,S x) {st:SortSt} (B:Bs κ p0 a0 lo st) {nrem:Nat} (h1:1<=nrem) (hn:lo+nrem<=a0.size) {Q:Option Nat->SortSt->Prop}
  (h:∀ st' n,Bs κ p0 a0 lo st'->1<=n->n<=nrem->Asc R (arrOf st') lo (lo+n)->Q (some n) st'):wpS M A E s (axa lo nrem) Q st:=by
 refine wpS_bind (al9 C p B (aA6 1) h1 hn (fun i j u r W=>?_) fun n n1 n2 as br=>?_)
 ·have:i=j:=by omega
  subst this
  exact C.irr (B.sat p (by omega))
 dsimp only
 refine aap (fun en=>wpS_pure (h st n B n1 n2 as)) (fun en=>?_)
 have a5:n ≠ nrem:=by simpa using en
 have U:n < nrem:=by omega
 have H:=br U
 refine aor (M:=M) (A:=A) (E:=E) (s:=s) (α:=Option Nat) (Q:=Q) (P:=fun w=>Bs κ p0 a0 lo w/\Des R (arrOf w) lo (lo+n)/\R (e (arrOf w) (lo+n)) (e (arrOf w) (lo+n - 1))=true) (prog:=?prog) (fun N=>?use) (fun w ⟨L,X,a3⟩=>?pf)
 case use =>
  refine aap (fun g1=>?_) (fun g1=>?_)
  ·refine wpS_bind (agl C p B (by omega) (by omega) ?_)
   dsimp only
   cases er:R (e (arrOf st) lo) (e (arrOf st) (lo+n - 1)) with
   | true=>rw [aE8 rfl];exact wpS_pure (h st n B n1 n2 as)
   | false =>
    rw [aE9 (by decide)]
    -- all of them are equal
    have c:∀ k,k < lo+n->S (e (arrOf st) k):=fun k K=>B.sat p (by omega)
    have all:Eqb R (arrOf st) lo (lo+n):=fun i j u r D y=>by
     -- j<=last<=first<=i
     have a1:=as j (lo+n - 1) D (by omega) (by omega)
     have a2:=as lo i (aA6 _) u r
     exact C.tr _ _ _ (c j y) (c lo (by omega)) (c i r) (C.tr _ _ _ (c j y) (c (lo+n - 1) (by omega)) (c lo (by omega)) a1 er) a2
    have X:Des R (arrOf st) lo (lo+n):=fun i j u r W=>all i j u (by omega) (by omega) W
    have hz:lo+n<=(arrOf st).size:=by rw [B.size];omega
    obtain ⟨q,a⟩:=ajh C p B (aA6 lo) (show lo+n<=a0.size by omega) (aA6 _) (by omega) X all
    refine wpS_bind (wpS_modify ?_)
    refine N _ ⟨q,a,?_⟩
    show R (e (mirror (arrOf st) lo (lo+n) ((lo+n - lo) / 2)) (lo+n)) (e (mirror (arrOf st) lo (lo+n) ((lo+n - lo) / 2)) (lo+n - 1))=true
    rw [ac6 hz,ac6 hz,aE9 (by omega),aE8 (by omega)]
    rw [show lo+(lo+n) - 1 - (lo+n - 1)=lo by omega]
    cases e2:R (e (arrOf st) (lo+n)) (e (arrOf st) lo) with
    | true=>rfl
    | false =>
     have:=C.tr _ _ _ (c (lo+n - 1) (by omega)) (c lo (by omega)) (B.sat p (show lo+n < a0.size by omega)) er e2
     rw [this] at H;cases H
  ·have:n=1:=by omega
   subst this
   refine N st ⟨B,fun i j u r W=>?_,H⟩
   have:i=j:=by omega
   subst this
   exact C.irr (B.sat p (by omega))
 case pf =>
  -- the falling part
  refine wpS_bind (adm ?_)
  refine wpS_bind (wpS_mono (Q:=fun (z:Option (Option Nat) × Nat × Nat) st'=>z.1=none/\Bs κ p0 a0 lo st'/\z.2.1<=nrem/\z.2.2+1<=z.2.1/\Des R (arrOf st') lo (lo+z.2.1)/\Eqb R (arrOf st') (lo+z.2.1 - (z.2.2+1)) (lo+z.2.1)) ?_ ?_)
  ·refine wpS_forRange (fun t (z:Option (Option Nat) × Nat × Nat) st'=>z.1=none/\z.2.1=t/\Bs κ p0 a0 lo st'/\z.2.2+1<=z.2.1/\Des R (arrOf st') lo (lo+z.2.1)/\Eqb R (arrOf st') (lo+z.2.1 - (z.2.2+1)) (lo+z.2.1)) ?_ ?_ ⟨rfl,rfl,L,by dsimp only;omega,?_,fun i j u r D y=>?_⟩
   ·rintro t ⟨o,m,b⟩ d t1 t2 ⟨F,T,q,G,a,f⟩
    dsimp only at F T G a f ⊢
    subst F T
    have c:∀ k,k < a0.size->S (e (arrOf d) k):=fun k K=>q.sat p K
    refine wpS_bind (agl C p q (by omega) (by omega) ?_)
    dsimp only
    cases er:R (e (arrOf d) (lo+m)) (e (arrOf d) (lo+m - 1)) with
    | true =>
     rw [aE8 rfl]
     refine aap (fun g=>?_) (fun g=>?_)
     ·have hz:lo+m<=(arrOf d).size:=by rw [q.size];omega
      obtain ⟨I,v⟩:=ajh C p q (l:=lo+m - (b+1)) (h:=lo+m) (by omega) (by omega) (aA6 _) (by omega) a f
      have O:∀ k,e (mirror (arrOf d) (lo+m - (b+1)) (lo+m) ((lo+m - (lo+m - (b+1))) / 2)) k=if lo+m - (b+1)<=k/\k < lo+m then e (arrOf d) (lo+m - (b+1)+(lo+m) - 1 - k) else e (arrOf d) k:=fun k=>ac6 hz k
      refine wpS_bind (wpS_modify ?_)
      refine wpS_pure ⟨rfl,rfl,I,by dsimp only;omega,?_,fun i j u r D y=>?_⟩
      ·show Des R (mirror (arrOf d) (lo+m - (b+1)) (lo+m) ((lo+m - (lo+m - (b+1))) / 2)) lo (lo+(m+1))
       refine afo C (h:=lo+m) (fun k K=>I.sat p (by omega)) (by omega) v ?_
       rw [O,O,aE8 (by omega),aE9 (by omega)]
       rw [show lo+m - (b+1)+(lo+m) - 1 - (lo+m - 1)=lo+m - (b+1) by omega]
       exact C.tr _ _ _ (c _ (by omega)) (c (lo+m - 1) (by omega)) (c _ (by omega)) (C.asy _ _ (c _ (by omega)) (c _ (by omega)) er) (a _ _ (by omega) (by omega) (by omega))
      ·dsimp only at u r D y
       have:i=j:=by omega
       subst this
       exact C.irr (I.sat p (by omega))
     ·have:b=0:=by omega
      subst this
      refine wpS_pure ⟨rfl,rfl,q,by dsimp only;omega,afo C (h:=lo+m) (fun k K=>c k (by omega)) (by omega) a (C.asy _ _ (c _ (by omega)) (c _ (by omega)) er),fun i j u r D y=>?_⟩
      dsimp only at u r D y
      have:i=j:=by omega
      subst this
      exact C.irr (c _ (by omega))
    | false =>
     rw [aE9 (by decide)]
     refine wpS_bind (agl C p q (by omega) (by omega) ?_)
     dsimp only
     cases er2:R (e (arrOf d) (lo+m - 1)) (e (arrOf d) (lo+m)) with
     | true =>
      rw [aE8 rfl]
      exact wpS_pure ⟨rfl,q,by dsimp only;omega,G,a,f⟩
     | false =>
      rw [aE9 (by decide)]
      refine wpS_pure ⟨rfl,rfl,q,by dsimp only;omega,afo C (h:=lo+m) (fun k K=>c k (by omega)) (by omega) a er2,fun i j u r D y=>?_⟩
      dsimp only at u r D y
      by_cases ci:i=lo+m
      ·by_cases cj:j=lo+m
       ·rw [ci,cj];exact C.irr (c _ (by omega))
       ·rw [ci]
        exact C.tr _ _ _ (c j (by omega)) (c (lo+m - 1) (by omega)) (c _ (by omega)) (f (lo+m - 1) j (by omega) (by omega) (by omega) (by omega)) er
      ·by_cases cj:j=lo+m
       ·rw [cj]
        exact C.tr _ _ _ (c _ (by omega)) (c (lo+m - 1) (by omega)) (c i (by omega)) er2 (f i (lo+m - 1) (by omega) (by omega) (by omega) (by omega))
       ·exact f i j (by omega) (by omega) (by omega) (by omega)
   ·rintro ⟨o,m,b⟩ d ⟨F,T,q,G,a,f⟩
    dsimp only at F T G a f ⊢
    exact ⟨F,q,by omega,G,a,f⟩
   ·exact afo C (h:=lo+n) (fun k K=>L.sat p (by omega)) (by omega) X (C.asy _ _ (L.sat p (by omega)) (L.sat p (by omega)) a3)
   ·dsimp only at u r D y
    have:i=j:=by omega
    subst this
    exact C.irr (L.sat p (by omega))
  ·rintro ⟨o,m,b⟩ d ⟨F,q,hm,G,a,f⟩
   dsimp only at F hm G a f ⊢
   subst F
   dsimp only
   refine aor (M:=M) (A:=A) (E:=E) (s:=s) (α:=Option Nat) (Q:=Q) (P:=fun J=>Bs κ p0 a0 lo J/\Des R (arrOf J) lo (lo+m)) (prog:=?prog2) (fun N=>?use2) (fun J ⟨I,v⟩=>?pf2)
   case use2 =>
    refine aap (fun g=>?_) (fun g=>?_)
    ·obtain ⟨I,v⟩:=ajh C p q (l:=lo+m - (b+1)) (h:=lo+m) (by omega) (by omega) (aA6 _) (by omega) a f
     refine wpS_bind (wpS_modify ?_)
     exact N _ ⟨I,v⟩
    ·exact N _ ⟨q,a⟩
   case pf2 =>
    obtain ⟨B5,Z⟩:=auf C I (n:=m) (by omega) v
    refine wpS_bind (wpS_modify ?_)
    refine wpS_bind (al9 C p B5 (by omega) hm hn Z fun n' a6 Y a4 _=>?_)
    exact wpS_pure (h _ n' B5 (by omega) Y a4)
end
def flat (rs:List (List Keyed × Nat)):List Keyed:=(rs.map (·.1)).flatten
def pend:Nat->List (List Keyed × Nat)->List (Nat × Nat × Nat)
 | _,[]=>[]
 | k,(r,pw) :: t=>(k,r.length,pw) :: pend (k+r.length) t
theorem ahq:flat []=[]:=rfl
theorem abx (r:List Keyed × Nat) (t:List (List Keyed × Nat)):flat (r :: t)=r.1 ++ flat t:=rfl
theorem abt (p q:List (List Keyed × Nat)):flat (p ++ q)=flat p ++ flat q:=by simp [flat]
theorem ab5:∀ (k:Nat) (p q:List (List Keyed × Nat)),pend k (p ++ q)=pend k p ++ pend (k+(flat p).length) q
 | k,[],q=>by simp [pend,ahq]
 | k,(r,pw) :: t,q=>by
  simp only [List.cons_append,pend,abx,aB0,List.cons.injEq,true_and]
  rw [ab5 (k+r.length) t q,Nat.add_assoc]
theorem adq:∀ (k:Nat) (p:List (List Keyed × Nat)),(pend k p).length=p.length
 | _,[]=>rfl
 | k,(r,pw) :: t=>by simp [pend,adq _ t]
section
variable {M:Model} {A:Around} {E:Value->Shared->Prop} {s:Shared} {κ:SortKind} {S:Keyed->Prop} {R:Keyed->Keyed->Bool} {a0:Array Keyed}
structure Rn (κ:SortKind) (R:Keyed->Keyed->Bool) (a0:Array Keyed) (rs:List (List Keyed × Nat)) (rest:List Keyed) (st:SortSt):Prop where
 k:kindOf st = κ
 f:failedOf st=none
 arr:(arrOf st).toList=flat rs ++ rest
 pn:(pendingOf st).toList=pend 0 rs
 ok:∀ r∈rs,r.1 ≠ []/\Srt R r.1
 perm:(arrOf st).toList.Perm a0.toList
theorem axc {α:Type} (a c:List α) (x b y : α):((a ++ x :: y :: c).set a.length b).eraseIdx (a.length+1)=a ++ b :: c:=by
 rw [List.set_append_right _ _ (aA6 _),Nat.sub_self,List.set_cons_zero,List.eraseIdx_append_of_length_le (by omega)]
 rw [show a.length+1 - a.length=1 by omega]
 rfl
theorem aij (C:Cmp M A E s κ S R) (F:∀ x∈a0.toList,S x) {st:SortSt} {rs:List (List Keyed × Nat)} {rest:List Keyed} (N:Rn κ R a0 rs rest st) {i:Nat} (hi:i+1 < rs.length) {Q:Bool->SortSt->Prop}
  (h:∀ st' l,Rn κ R a0 l rest st'->l.length+1=rs.length->(flat l).length=(flat rs).length->Q true st'):wpS M A E s (al7 i) Q st:=by
 obtain ⟨p,a,pw,b,pw2,q,e,y⟩:∃ p a pw b pw2 q,rs=p ++ (a,pw) :: (b,pw2) :: q/\p.length=i:=by
  have v:rs=rs.take i ++ rs.drop i:=(aC0 i rs).symm
  have hd:rs.drop i=rs[i] :: rs[i+1] :: rs.drop (i+2):=by
   rw [List.drop_eq_getElem_cons (by omega),List.drop_eq_getElem_cons hi]
  exact ⟨rs.take i,rs[i].1,rs[i].2,rs[i+1].1,rs[i+1].2,rs.drop (i+2),by rw [← hd];exact v,by simp;omega⟩
 subst y
 have d:=N.ok (a,pw) (by rw [e];simp)
 have j:=N.ok (b,pw2) (by rw [e];simp)
 have n:(pendingOf st).toList=pend 0 p ++ ((flat p).length,a.length,pw) :: ((flat p).length+a.length,b.length,pw2) :: pend ((flat p).length+a.length+b.length) q:=by
  rw [N.pn,e,ab5];simp [pend]
 have c:(pend 0 p).length=p.length:=adq 0 p
 have g:(arrOf st).toList=flat p ++ a ++ b ++ (flat q ++ rest):=by
  rw [N.arr,e,abt,abx,abx];simp [aB3]
 refine ap8 C (i:=p.length) (pw:=pw) (pw2:=pw2) g (fun x I=>F x (N.perm.mem_iff.mp I)) ?_ ?_ d.1 j.1 d.2 j.2 N.k N.f fun st' m H G D u pm B=>?_
 ·rw [← aD4,n,aC7 (by omega),c,Nat.sub_self];rfl
 ·rw [← aD4,n,aC7 (by omega),c,show p.length+1 - p.length=1 by omega];rfl
 ·refine h st' (p ++ (m,pw) :: q) ⟨H,G,?_,?_,fun r o=>?_,?_⟩ (by rw [e];simp;omega) ?_
  ·rw [u,abt,abx];simp [aB3]
  ·rw [D,Array.toList_eraseIdxIfInBounds,Array.toList_setIfInBounds,n,← c,axc,ab5]
   simp [pend,pm.length_eq,Nat.add_assoc]
  ·rcases aA7.mp o with o | o
   ·exact N.ok r (by rw [e];simp [o])
   ·rcases aA8.mp o with rfl | o
    ·refine ⟨?_,B⟩
     intro z
     have:=pm.length_eq
     have w:m=[]:=z
     rw [w] at this
     have:=aF2.mpr d.1
     simp at *
     omega
    ·exact N.ok r (by rw [e];simp [o])
  ·rw [u]
   refine List.Perm.trans ?_ N.perm
   rw [g]
   have:(flat p ++ a ++ b ++ (flat q ++ rest))=flat p ++ (a ++ b) ++ (flat q ++ rest):=by simp [aB3]
   rw [this]
   exact (pm.append_left (flat p)).append_right _
  ·rw [e,abt,abt,abx,abx,abx]
   simp [pm.length_eq]
   omega
theorem Rn.run {rs:List (List Keyed × Nat)} {rest:List Keyed} {st st':SortSt} {n:Nat} (N:Rn κ R a0 rs rest st) (B:Bs κ (pendingOf st) (arrOf st) (flat rs).length st') (u:1<=n) (hn:(flat rs).length+n<=(arrOf st).size) (as:Asc R (arrOf st') (flat rs).length ((flat rs).length+n)) :
  ∃ r a,r.length=n/\r ≠ []/\Srt R r/\Rn κ R a0 rs (r ++ a) st':=by
 have hsz:=B.size
 have c:(arrOf st').toList.take (flat rs).length=flat rs:=by
  have l:(arrOf st').toList.take (flat rs).length=(arrOf st).toList.take (flat rs).length:=by
   apply aF5
   intro k
   rw [List.getElem?_take,List.getElem?_take]
   split
   ·rename_i b
    have:=B.pre k b
    simpa using this
   ·rfl
  rw [l,N.arr,List.take_left]
 refine ⟨((arrOf st').toList.drop (flat rs).length).take n,((arrOf st').toList.drop (flat rs).length).drop n,?_,?_,?_,B.k,B.f,?_,?_,N.ok,B.perm.trans N.perm⟩
 ·simp;omega
 ·intro z
  have:=congrArg List.length z
  simp at this
  omega
 ·unfold Srt
  rw [aG0]
  intro i j hi g m
  have d:j < n:=by simp at g;omega
  have get:∀ k,k < n->∀ (b:k < (((arrOf st').toList.drop (flat rs).length).take n).length),(((arrOf st').toList.drop (flat rs).length).take n)[k]=e (arrOf st') ((flat rs).length+k):=by
   intro k b o
   rw [List.getElem_take,List.getElem_drop]
   have s:=aii (xs:=arrOf st') (k:=(flat rs).length+k) (by omega)
   have q:(flat rs).length+k < (arrOf st').toList.length:=by simp;omega
   have h:(arrOf st').toList[(flat rs).length+k]?=some (e (arrOf st') ((flat rs).length+k)):=by simpa using s
   rw [aA0 q] at h
   exact aC5 h
  rw [get i (by omega) hi,get j d g]
  exact as _ _ (by omega) (by omega) (by omega)
 ·rw [aC0]
  conv=>lhs;rw [← aC0 (flat rs).length (arrOf st').toList,c]
 ·rw [B.p];exact N.pn
theorem Rn.bs {rs:List (List Keyed × Nat)} {rest:List Keyed} {st:SortSt} (N:Rn κ R a0 rs rest st):Bs κ (pendingOf st) (arrOf st) (flat rs).length st:=⟨N.k,N.f,rfl,List.Perm.refl _,fun _ _=>rfl⟩
theorem Rn.size {rs:List (List Keyed × Nat)} {rest:List Keyed} {st:SortSt} (N:Rn κ R a0 rs rest st):(arrOf st).size=a0.size:=by
 have:=N.perm.length_eq;simpa using this
theorem Rn.len {rs:List (List Keyed × Nat)} {rest:List Keyed} {st:SortSt} (N:Rn κ R a0 rs rest st):(flat rs).length+rest.length=a0.size:=by
 have:=congrArg List.length N.arr
 have a:=N.size
 simp at this
 omega
theorem aug {rs:List (List Keyed × Nat)} (h:∀ r∈rs,r.1 ≠ []):rs.length<=(flat rs).length:=by
 induction rs with
 | nil=>simp [flat]
 | cons r t ih =>
  rw [abx,aB0,aE0]
  have:=ih fun q a=>h q (aB4 _ a)
  have:=aF2.mpr (h r aB7)
  omega
theorem ama {α:Type} (f : α->α):∀ (l:List α) (x : α),(l ++ [x]).modify l.length f=l ++ [f x]
 | [],x=>rfl
 | y :: l,x=>by
  show (y :: (l ++ [x])).modify (l.length+1) f=_
  rw [List.modify_succ_cons,ama f l x];rfl
theorem anz {α:Type} (arr:Array α) (f : α->α) {l:List α} {x : α} (h:arr.toList=l ++ [x]):(arr.modify (arr.size - 1) f).toList=l ++ [f x]:=by
 have a:arr.size=l.length+1:=by have:=congrArg List.length h;simpa using this
 rw [Array.toList_modify,h,a,show l.length+1 - 1=l.length by omega]
 exact ama f l x
theorem axd {α:Type} (arr:Array α) {l:List α} {x : α} (h:arr.toList=l ++ [x]):arr.back?=some x:=by
 have a:arr.size=l.length+1:=by have:=congrArg List.length h;simpa using this
 rw [Array.back?_eq_getElem?,← aD4,h,a]
 simp
theorem aos:∀ (rs:List (List Keyed × Nat)),rs ≠ []->∃ p x,rs=p ++ [x]
 | rs,h=>⟨rs.dropLast,rs.getLast h,(List.dropLast_concat_getLast h).symm⟩
theorem Rn.push {rs:List (List Keyed × Nat)} {r rest:List Keyed} {st st':SortSt} (N:Rn κ R a0 rs (r ++ rest) st) (c:r ≠ []) (d:Srt R r) (k:kindOf st'=kindOf st) (f:failedOf st'=failedOf st) (a:arrOf st'=arrOf st)
  (p:pendingOf st'=(pendingOf st).push ((flat rs).length,r.length,0)):Rn κ R a0 (rs ++ [(r,0)]) rest st':=by
 refine ⟨k.trans N.k,f.trans N.f,?_,?_,fun q b=>?_,by rw [a];exact N.perm⟩
 ·rw [a,N.arr,abt];simp [flat,aB3]
 ·rw [p,Array.toList_push,N.pn,ab5];simp [pend]
 ·rcases aA7.mp b with b | b
  ·exact N.ok q b
  ·have:q=(r,0):=by simpa using b
   subst this;exact ⟨c,d⟩
theorem Rn.pow {rs:List (List Keyed × Nat)} {rest:List Keyed} {st st':SortSt} {pw:Nat} (N:Rn κ R a0 rs rest st) (hz:rs ≠ []) (k:kindOf st'=kindOf st) (f:failedOf st'=failedOf st) (a:arrOf st'=arrOf st)
  (p:pendingOf st'=(pendingOf st).modify ((pendingOf st).size - 1) fun x=>(x.1,x.2.1,pw)):∃ c,Rn κ R a0 c rest st'/\(flat c).length=(flat rs).length:=by
 obtain ⟨q,⟨b,d⟩,e⟩:=aos rs hz
 subst e
 have h:(pendingOf st).toList=pend 0 q ++ [((flat q).length,b.length,d)]:=by rw [N.pn,ab5];simp [pend]
 refine ⟨q ++ [(b,pw)],⟨k.trans N.k,f.trans N.f,?_,?_,fun x g=>?_,by rw [a];exact N.perm⟩,by simp [abt,abx,ahq]⟩
 ·rw [a,N.arr];simp [abt,abx,ahq]
 ·rw [p,anz _ _ h,ab5];simp [pend]
 ·rcases aA7.mp g with g | g
  ·exact N.ok x (by simp [g])
  ·have:x=(b,pw):=by simpa using g
   subst this
   exact N.ok (b,d) (by simp)
theorem azu {c:Prop} [Decidable c] {x y z:Nat} (b:x+1 < z) (a:y+1 < z):(if c then x else y)+1 < z:=by
 split
 ·exact b
 ·exact a
theorem Rn.powK {rs:List (List Keyed × Nat)} {rest:List Keyed} {st st':SortSt} {pw:Nat} {G:SortSt->Prop} (N:Rn κ R a0 rs rest st) (hz:rs ≠ []) (h:∀ b,Rn κ R a0 b rest st'->(flat b).length=(flat rs).length->G st') (k:kindOf st'=kindOf st) (f:failedOf st'=failedOf st) (a:arrOf st'=arrOf st)
  (p:pendingOf st'=(pendingOf st).modify ((pendingOf st).size - 1) fun x=>(x.1,x.2.1,pw)):G st':=by
 obtain ⟨b,d,c⟩:=N.pow hz k f a p
 exact h b d c
theorem axe (C:Cmp M A E s κ S R) (Y:∀ x∈a0.toList,S x) {st:SortSt} (h0:arrOf st=a0) (hk:kindOf st = κ) (hf:failedOf st=none) (hp:pendingOf st = #[]) {Q:Unit->SortSt->Prop}
  (h:∀ st',failedOf st'=none->(arrOf st').toList.Perm a0.toList->Srt R (arrOf st').toList->Q () st'):wpS M A E s a1m Q st:=by
 have o:(arrOf st).size=a0.size:=by rw [h0]
 refine wpS_bind (wpS_get ?_)
 dsimp only
 refine wpS_bind (wpS_mono (Q:=fun (c:Option Unit × Nat) v=>c.1=none/\∃ rs,Rn κ R a0 rs [] v) ?_ ?_)
 ·refine wpS_forRange (fun i (c:Option Unit × Nat) v=>c.1=none/\∃ rs rest,Rn κ R a0 rs rest v/\c.2=(flat rs).length/\i<=c.2) ?_ ?_ ⟨rfl,[],a0.toList,⟨hk,hf,by rw [h0];rfl,by rw [hp];rfl,fun r J=>(by cases J),by rw [h0]⟩,rfl,aA6 _⟩
  ·rintro i ⟨c1,lo⟩ v _ hi ⟨F,rs,rest,N,e2,D⟩
   dsimp only at F e2 D ⊢
   subst F e2
   have U:=N.len
   have b4:i < a0.size:=by rw [← o];exact hi
   refine aap (fun a4=>?_) (fun a2=>?_)
   ·have b0:a0.size<=(flat rs).length:=by rw [← o];exact a4
    refine wpS_pure ⟨rfl,rs,?_⟩
    have:rest=[]:=aG5 (by omega)
    subst this
    exact N
   ·have a8:(flat rs).length < a0.size:=by
     have:¬ (flat rs).length ≥ (arrOf st).size:=a2
     omega
    refine wpS_bind (ar5 C (fun x hx=>Y x (N.perm.mem_iff.mp hx)) N.bs (nrem:=(arrOf st).size - (flat rs).length) (by omega) (by rw [N.size];omega) fun b1 n B2 n1 n2 L=>?_)
    dsimp only
    have y:=N.size
    refine aap (fun m=>?g1) (fun m=>?g2)
    case' g1 =>
     refine wpS_bind (adm ?_)
     generalize hmr:min (_:Nat) _=nn
     refine wpS_bind (ap9 C (fun x hx=>Y x (N.perm.mem_iff.mp hx)) B2 (n:=nn) (ok:=n) ?_ ?_ ?_ L fun b3 B3 a6=>?_)
     ·have:nn<=(arrOf st).size - (flat rs).length:=by rw [← hmr];exact Nat.min_le_left _ _
      rw [y];omega
     ·rw [← hmr];exact Nat.le_min.mpr ⟨n2,aF8 m⟩
     ·have:n<=nn:=by rw [← hmr];exact Nat.le_min.mpr ⟨n2,aF8 m⟩
      omega
     rw [aE9 (by decide)]
     have O:1<=nn:=by
      have:n<=nn:=by rw [← hmr];exact Nat.le_min.mpr ⟨n2,aF8 m⟩
      omega
     have a9:nn<=(arrOf st).size - (flat rs).length:=by rw [← hmr];exact Nat.min_le_left _ _
     obtain ⟨r,g,J,B,I,T⟩:=N.run B3 O (by rw [y];omega) a6
     clear hmr
     subst J
    case' g2 =>
     obtain ⟨r,g,J,B,I,T⟩:=N.run B2 n1 (by rw [y];omega) L
     clear m
     subst J
    all_goals
     refine wpS_bind (wpS_get ?_)
     rcases Classical.em (rs=[]) with hz | hz
     ·have w:=T.pn
      rw [hz] at w
      have hb:=Array.back?_eq_none_iff.mpr (Array.toList_eq_nil_iff.mp w)
      rw [hb]
      dsimp only
      refine wpS_bind (wpS_modify (wpS_pure ⟨rfl,rs ++ [(r,0)],g,T.push B I rfl rfl rfl rfl,?_,?_⟩))
      ·rw [abt,aB0];simp [flat]
      ·have:=aF2.mpr B
       show i+1<=(flat rs).length+r.length
       omega
     ·obtain ⟨q,⟨b,W⟩,eq⟩:=aos rs hz
      have w:=T.pn
      rw [eq,ab5,show pend (0+(flat q).length) [(b,W)]=[((flat q).length,b.length,W)] by simp [pend]] at w
      have hb:=axd _ w
      rw [hb]
      dsimp only
      refine wpS_bind (wpS_mono (Q:=fun (c:Option Unit × Unit) d=>c.1=none/\∃ a,Rn κ R a0 a (r ++ g) d/\a ≠ []/\(flat a).length=(flat rs).length) ?_ ?_)
      ·refine wpS_forRange (fun _ (c:Option Unit × Unit) d=>c.1=none/\∃ a,Rn κ R a0 a (r ++ g) d/\a ≠ []/\(flat a).length=(flat rs).length) ?_ (fun c d h4=>h4) ⟨rfl,rs,T,hz,rfl⟩
       rintro i4 ⟨Z,u4⟩ d _ _ ⟨u,a,l,X,p⟩
       dsimp only at u
       subst u
       refine wpS_bind (wpS_get ?_)
       have P:(pendingOf d).size=a.length:=by
        have:=congrArg List.length l.pn
        rw [adq] at this
        simpa using this
       by_cases K:(pendingOf d).size > 1
       ·rw [aE8 K]
        obtain ⟨x4,a1⟩:∃ x4,(pendingOf d)[(pendingOf d).size - 2]?=some x4:=⟨_,aA4 (by omega)⟩
        obtain ⟨y1,y2,y3⟩:=x4
        rw [a1]
        dsimp only
        refine aap (fun _=>wpS_pure ⟨rfl,a,l,X,p⟩) (fun _=>?_)
        rw [P]
        refine wpS_bind (aij C Y l (i:=a.length - 2) (by omega) fun a5 H N5 l5 f5=>?_)
        rw [aE9 (by decide)]
        refine wpS_pure ⟨rfl,H,N5,?_,by omega⟩
        rintro rfl
        simp at l5
        omega
       ·rw [aE9 K]
        exact wpS_pure ⟨rfl,a,l,X,p⟩
      ·rintro ⟨Z,u4⟩ d ⟨u,a,l,X,p⟩
       dsimp only at u ⊢
       subst u
       dsimp only
       refine wpS_bind (wpS_modify ?_)
       refine l.powK (G:=fun z=>wpS M A E s _ _ z) X (fun a7 N6 l6=>?_) rfl rfl rfl rfl
       refine wpS_bind (wpS_modify (wpS_pure ⟨rfl,a7 ++ [(r,0)],g,N6.push B I rfl rfl rfl ?_,?_,?_⟩))
       ·rw [l6,p]
       ·rw [abt,aB0,l6,p];simp [flat]
       ·have:=aF2.mpr B
        show i+1<=(flat rs).length+r.length
        omega
  ·rintro ⟨c1,lo⟩ v ⟨F,rs,rest,N,e2,D⟩
   dsimp only at F e2 D ⊢
   refine ⟨F,rs,?_⟩
   have U:=N.len
   have a3:(arrOf st).size<=lo:=aC9 (Nat.le_max_right 0 _) D
   have:rest=[]:=aG5 (by rw [o] at a3;omega)
   subst this
   exact N
 ·rintro ⟨c1,lo⟩ v ⟨F,rs,N⟩
  dsimp only at F ⊢
  subst F
  dsimp only
  refine wpS_bind (wpS_mono (Q:=fun (c:Option Unit × Unit) d=>c.1=none/\∃ a,Rn κ R a0 a [] d/\a.length<=1) ?_ ?_)
  ·refine wpS_forRange (fun j (c:Option Unit × Unit) d=>c.1=none/\∃ a,Rn κ R a0 a [] d/\(a.length<=1\/a.length+j<=a0.size)) ?_ ?_ ⟨rfl,rs,N,.inr ?_⟩
   ·rintro j ⟨Z,u4⟩ d _ _ ⟨u,a,l,p⟩
    dsimp only at u
    subst u
    refine wpS_bind (wpS_get ?_)
    have P:(pendingOf d).size=a.length:=by
     have:=congrArg List.length l.pn
     rw [adq] at this
     simpa using this
    refine aap (fun K=>wpS_pure ⟨rfl,a,l,?_⟩) (fun K=>?_)
    ·have:(pendingOf d).size<=1:=K
     omega
    ·have b2:¬ (pendingOf d).size<=1:=K
     refine wpS_bind (aij C Y l (i:=_) ?_ fun a5 H N5 l5 f5=>?_)
     ·refine azu ?_ ?_
      ·show (pendingOf d).size - 2 - 1+1 < a.length
       omega
      ·show (pendingOf d).size - 2+1 < a.length
       omega
     rw [aE9 (by decide)]
     exact wpS_pure ⟨rfl,H,N5,by omega⟩
   ·rintro ⟨Z,u4⟩ d ⟨u,a,l,p⟩
    refine ⟨u,a,l,?_⟩
    rcases p with p | p
    ·exact p
    ·have:(arrOf st).size<=max 0 (arrOf st).size:=Nat.le_max_right _ _
     have h3:a.length+max 0 (arrOf st).size<=a0.size:=p
     omega
   ·have:=aug fun r J=>(N.ok r J).1
    have:=N.len
    omega
  ·rintro ⟨Z,u4⟩ d ⟨u,a,l,p⟩
   dsimp only at u ⊢
   subst u
   dsimp only
   refine wpS_pure (h d l.f l.perm ?_)
   rw [l.arr]
   match a,p with
   | [],_=>exact List.Pairwise.nil
   | [x],_=>simpa [flat] using (l.ok x (by simp)).2
end
end TS
namespace L2
open PySem PySem.Spec PyProof.Rows
mutual
inductive Rep (H:Hp):V->PyData->Prop
 | non:Rep H .non .none
 | bl (b:Bool):Rep H (.bl b) (.bool b)
 | int (i:Int):Rep H (.int i) (.int i)
 | str (x:Str):Rep H (.str x) (.str x)
 | lst {a:Addr} {xs:List V} {ds:List PyData}:H a=some (.lst xs)->Reps H xs ds->Rep H (.ref a) (.list ds)
 | tup {a:Addr} {xs:List V} {ds:List PyData}:H a=some (.tup xs)->Reps H xs ds->Rep H (.ref a) (.tuple ds)
inductive Reps (H:Hp):List V->List PyData->Prop
 | nil:Reps H [] []
 | cons {v:V} {vs:List V} {d:PyData} {ds:List PyData}:Rep H v d->Reps H vs ds->Reps H (v :: vs) (d :: ds)
end
mutual
theorem Rep.same {H H':Hp} (s:Same H H'):∀ {v:V} {d:PyData},Rep H v d->Rep H' v d
 | _,_,.non => .non
 | _,_,.bl b => .bl b
 | _,_,.int i => .int i
 | _,_,.str x => .str x
 | _,_,.lst h r => .lst (s _ _ h) (Reps.same s r)
 | _,_,.tup h r => .tup (s _ _ h) (Reps.same s r)
theorem Reps.same {H H':Hp} (s:Same H H'):∀ {vs:List V} {ds:List PyData},Reps H vs ds->Reps H' vs ds
 | _,_,.nil => .nil
 | _,_,.cons r t => .cons (Rep.same s r) (Reps.same s t)
end
theorem Reps.length {H:Hp}:∀ {vs:List V} {ds:List PyData},Reps H vs ds->vs.length=ds.length
 | _,_,.nil=>rfl
 | _,_,.cons _ t=>by simp [Reps.length t]
theorem Reps.get {H:Hp}:∀ {vs:List V} {ds:List PyData} {i:Nat} {d:PyData},Reps H vs ds->ds[i]?=some d->∃ v,vs[i]?=some v/\Rep H v d
 | _,_,_,_,.nil,e=>by simp at e
 | _,_,0,_,.cons r _,e=>by simp at e;subst e;exact ⟨_,rfl,r⟩
 | _,_,i+1,d,.cons _ t,e=>by
  obtain ⟨u,b,a⟩:=Reps.get (i:=i) (d:=d) t (by simpa using e)
  exact ⟨u,by simpa using b,a⟩
theorem Reps.append {H:Hp}:∀ {vs a:List V} {ds es:List PyData},Reps H vs ds->Reps H a es->Reps H (vs ++ a) (ds ++ es)
 | _,_,_,_,.nil,s=>s
 | _,_,_,_,.cons r t,s => .cons r (Reps.append t s)
section
variable {X:Cx} {pins:List (Addr × Obj)} {σ:St} {H:Hp} {s:Shared}
mutual
theorem Rep.reads (I:Inv X pins σ H s):∀ {v:V} {d:PyData} {u:Value},Rep H v d->RelV v u->∃ as,Reads s.heap u d as
 | _,_,_,.non,r=>by cases r;exact ⟨_,.none⟩
 | _,_,_,.bl b,r=>by cases r;exact ⟨_,.bool b⟩
 | _,_,_,.int i,r=>by obtain ⟨t,rfl⟩:=r;exact ⟨_,.int i t⟩
 | _,_,_,.str x,r=>by obtain ⟨t,rfl⟩:=r;exact ⟨_,.str x t⟩
 | _,_,_,.lst (a:=a) (xs:=xs) h q,r=>by
  cases r
  obtain ⟨_,its,n,f,e⟩:=(show ObjOk X.prog X.w H s.heap a (.lst xs) from I.hok a _ h)
  obtain ⟨as,g⟩:=Reps.reads I q f
  exact ⟨_,.list e rfl rfl (by simpa using g)⟩
 | _,_,_,.tup (a:=a) (xs:=xs) h q,r=>by
  cases r
  obtain ⟨_,its,f,o,e,c,n,dd⟩:=(show ObjOk X.prog X.w H s.heap a (.tup xs) from I.hok a _ h)
  obtain ⟨as,g⟩:=Reps.reads I q f
  exact ⟨_,.tuple e c dd (by simpa using g)⟩
theorem Reps.reads (I:Inv X pins σ H s):∀ {vs:List V} {ds:List PyData} {us:List Value},Reps H vs ds->Vals vs us->∃ as,ReadsAll s.heap us ds as
 | _,_,_,.nil,.nil=>⟨_,.nil⟩
 | _,_,_,.cons r t,.cons q qs=>by
  obtain ⟨as,a⟩:=Rep.reads I r q
  obtain ⟨bs,rb⟩:=Reps.reads I t qs
  exact ⟨_,.cons a rb⟩
end
end
mutual
def aas:PyData->Bool
 | .none | .int _=>true
 | .list xs | .tuple xs=>plainDs xs
 | _=>false
def plainDs:List PyData->Bool
 | []=>true
 | x :: xs=>aas x && plainDs xs
end
mutual
theorem act:∀ (d:PyData),aas d=true->d.canLay0=true
 | .none,_=>by simp [PyData.canLay0]
 | .int _,_=>by simp [PyData.canLay0]
 | .list xs,h=>by simp only [PyData.canLay0];exact plain_lays xs (by simpa [aas] using h)
 | .tuple xs,h=>by simp only [PyData.canLay0];exact plain_lays xs (by simpa [aas] using h)
 | .bool _,h=>by simp [aas] at h
 | .str _,h=>by simp [aas] at h
 | .dict _,h=>by simp [aas] at h
theorem plain_lays:∀ (ds:List PyData),plainDs ds=true->PyData.canLayAll0 ds=true
 | [],_=>by simp [PyData.canLayAll0]
 | x :: xs,h=>by
  have h':aas x=true/\plainDs xs=true:=by simpa [plainDs] using h
  simp only [PyData.canLayAll0,act x h'.1,plain_lays xs h'.2,Bool.and_self]
end
mutual
theorem agm:∀ (d e:PyData),aas d=true->aas e=true->(PyData.eqv d e=true ↔ d=e)
 | .none,e,_,h=>by cases e <;> simp_all [aas,PyData.eqv]
 | .int i,e,_,h=>by cases e <;> simp_all [aas,PyData.eqv]
 | .list xs,e,g,h=>by
  cases e with
  | list ys=>simp only [PyData.eqv,PyData.list.injEq];exact eqvAll_plain xs ys (by simpa [aas] using g) (by simpa [aas] using h)
  | _=>simp_all [aas,PyData.eqv]
 | .tuple xs,e,g,h=>by
  cases e with
  | tuple ys=>simp only [PyData.eqv,PyData.tuple.injEq];exact eqvAll_plain xs ys (by simpa [aas] using g) (by simpa [aas] using h)
  | _=>simp_all [aas,PyData.eqv]
 | .bool _,_,h,_=>by simp [aas] at h
 | .str _,_,h,_=>by simp [aas] at h
 | .dict _,_,h,_=>by simp [aas] at h
theorem eqvAll_plain:∀ (ds es:List PyData),plainDs ds=true->plainDs es=true->(PyData.eqvAll ds es=true ↔ ds=es)
 | [],[],_,_=>by simp [PyData.eqvAll]
 | [],_ :: _,_,_=>by simp [PyData.eqvAll]
 | _ :: _,[],_,_=>by simp [PyData.eqvAll]
 | x :: xs,y :: ys,g,h=>by
  have g':aas x=true/\plainDs xs=true:=by simpa [plainDs] using g
  have h':aas y=true/\plainDs ys=true:=by simpa [plainDs] using h
  simp only [PyData.eqvAll,aG4,List.cons.injEq,agm x y g'.1 h'.1,eqvAll_plain xs ys g'.2 h'.2]
end
theorem ae6 (ds:List PyData):plainDs ds=true ↔ ∀ d∈ds,aas d=true:=by
 induction ds with
 | nil=>simp [plainDs]
 | cons d ds ih=>simp [plainDs,ih]
def rEqD:R2:=fun x y H Q=>∃ d e,Rep H x d/\Rep H y e/\aas d=true/\aas e=true/\d.depth<=60/\Q (.bl (PyData.eqv d e)) H
def rNeD:R2:=fun x y H Q=>∃ d e,Rep H x d/\Rep H y e/\aas d=true/\aas e=true/\d.depth<=60/\Q (.bl (!PyData.eqv d e)) H
section
variable {X:Cx}
theorem ar6 (i:X.A.units+64 < cLine):OpR X (compareOp .Eq) rEqD:=by
 intro pins s σ H x y v u Q I c b h
 obtain ⟨d,e,g,re,hd,f,hz,q⟩:=h
 obtain ⟨as,a⟩:=g.reads I c
 obtain ⟨bs,rb⟩:=re.reads I b
 refine SeqAt.compareEq_reads a rb (act _ hd) (act _ f) ?_ ⟨.bl _,H,I,rfl,q⟩
 have:=Nat.min_le_left d.depth e.depth
 omega
theorem afd (i:X.A.units+64 < cLine):OpR X (compareOp .NotEq) rNeD:=by
 intro pins s σ H x y v u Q I c b h
 obtain ⟨d,e,g,re,hd,f,hz,q⟩:=h
 obtain ⟨as,a⟩:=g.reads I c
 obtain ⟨bs,rb⟩:=re.reads I b
 refine SeqAt.compareNe_reads a rb (act _ hd) (act _ f) ?_ ⟨.bl _,H,I,rfl,q⟩
 have:=Nat.min_le_left d.depth e.depth
 omega
def rInD (neg:Bool):R2:=fun x y H Q=>∃ d es,Rep H x d/\(Rep H y (.list es)\/Rep H y (.tuple es))/\aas d=true/\plainDs es=true/\d.depth<=60/\Q (.bl (if neg then !es.any (fun z=>PyData.eqv z d) else es.any (fun z=>PyData.eqv z d))) H
theorem akd (i:X.A.units+64 < cLine):OpR X (compareOp .NotIn) (rInD true):=by
 intro pins s σ H x y v u Q I f b h
 obtain ⟨d,es,g,re,hd,c,hz,q⟩:=h
 obtain ⟨as,a⟩:=g.reads I f
 have hm:=Nat.min_le_right (PyData.depthAll es) d.depth
 rcases re with re | re
 ·obtain ⟨bs,rb⟩:=re.reads I b
  exact SeqAt.notIn_list_reads rb a (plain_lays _ c) (act _ hd) (by omega) ⟨.bl _,H,I,rfl,q⟩
 ·obtain ⟨bs,rb⟩:=re.reads I b
  exact SeqAt.notIn_tuple_reads rb a (plain_lays _ c) (act _ hd) (by omega) ⟨.bl _,H,I,rfl,q⟩
def rIsi (K:Frag):List V->Hp->VK->Prop:=fun xs H Q=>∃ (x:V) (T:String) (t:Value) (b:Bool),xs=[x,.ty T]/\TyOf K H x t/\kitOne K t (.type T)=some b/\Q (.bl b) H
theorem acu:abb X (.builtin "isinstance") (rIsi X.K):=by
 intro pins s σ H xs us Q I r h
 obtain ⟨x,T,t,b,rfl,ty,e,q⟩:=h
 obtain ⟨u,c,rfl,a,d⟩:=apy r
 cases d
 exact ari I a ty e fun f=>⟨.bl b,H,I.tok _,rfl,q⟩
end
end L2
namespace HT
open PySem PyProof.Rows
section
open PySem.SeqAt
open PySem.AutoSeq1 (wpAny_loadPart')
open PySem.MeetsSeq PySem.MeetsSeq2 PySem.MeetsSeq3
end
section
variable {prog:Program} {w:World} {A:Around} {E:Value->Shared->Prop} {s:Shared}
end
end HT
namespace L2
open PySem PySem.Spec PyProof.Rows
section
variable {X:Cx}
end
end L2
namespace HT
open PySem PyProof.Rows
theorem aji (val:Nat->Int):∀ k,argBest (fun i j=>decide (val i > val j)) k<=k/\∀ i,i<=k->val i<=val (argBest (fun i j=>decide (val i > val j)) k)
 | 0 => ⟨Nat.le_refl _, fun i hi => by have:i=0 := by omega
                                       subst this;exact Int.le_refl _⟩
 | k+1=>by
  obtain ⟨b,a⟩:=aji val k
  unfold argBest
  by_cases hc:val (k+1) > val (argBest (fun i j=>decide (val i > val j)) k)
  ·rw [aE8 (aD6 hc)]
   refine ⟨aA6 _,fun i hi=>?_⟩
   by_cases e:i=k+1
   ·subst e;exact Int.le_refl _
   ·have:=a i (by omega)
    exact Int.le_trans this (Int.le_of_lt hc)
  ·rw [aE9 (by simpa using hc)]
   refine ⟨by omega,fun i hi=>?_⟩
   by_cases e:i=k+1
   ·subst e;omega
   ·exact a i (by omega)
theorem ajj (val:Nat->Int):∀ k,argBest (fun i j=>decide (val i < val j)) k<=k/\∀ i,i<=k->val (argBest (fun i j=>decide (val i < val j)) k)<=val i
 | 0 => ⟨Nat.le_refl _, fun i hi => by have:i=0 := by omega
                                       subst this;exact Int.le_refl _⟩
 | k+1=>by
  obtain ⟨b,a⟩:=ajj val k
  unfold argBest
  by_cases hc:val (k+1) < val (argBest (fun i j=>decide (val i < val j)) k)
  ·rw [aE8 (aD6 hc)]
   refine ⟨aA6 _,fun i hi=>?_⟩
   by_cases e:i=k+1
   ·subst e;exact Int.le_refl _
   ·have:=a i (by omega)
    exact Int.le_trans (Int.le_of_lt hc) this
  ·rw [aE9 (by simpa using hc)]
   refine ⟨by omega,fun i hi=>?_⟩
   by_cases e:i=k+1
   ·subst e;omega
   ·exact a i (by omega)
def val (ns:List Int) (i:Nat):Int:=(ns[i]?).getD 0
theorem ade {us:List Value} {ns:List Int} (hi:IntsAre us ns) (i:Nat) (v:Value) (h:us.toArray[i]?=some v):∃ t,v=.int (val ns i) t:=by
 induction hi generalizing i with
 | nil=>simp at h
 | cons n t r ih =>
  cases i with
  | zero=>simp at h;subst h;exact ⟨t,by simp [val]⟩
  | succ i =>
   obtain ⟨t',e⟩:=ih i (by simpa using h)
   exact ⟨t',by simpa [val] using e⟩
theorem ag5 {ns:List Int} {i:Nat} (h:i < ns.length):val ns i∈ns:=by
 unfold val
 rw [aA0 h]
 exact List.getElem_mem h
theorem aik {ns:List Int} {x:Int} (h:x∈ns):∃ i,i < ns.length/\val ns i=x:=by
 obtain ⟨i,hi,e⟩:=aG9.mp h
 exact ⟨i,hi,by unfold val;rw [aA0 hi];exact e⟩
section
variable {prog:Program} {w:World} {A:Around} {E:Value->Shared->Prop} {s:Shared}
theorem max_list {l:Addr} {us:List Value} {ns:List Int} {Q:Value->Shared->Prop} (hh:A.handled=none) (g:s.heap.IsList l us.toArray) (hi:IntsAre us ns) (f:ns ≠ [])
  (h:∀ m t h' d,m∈ns->(∀ x∈ns,x<=m)->(∀ b o,s.heap.get? b=some o->h'.get? b=some o)->Q (.int m t) { s with heap:=h',toks:=d }) :
  wpAny (model prog w) A (call (.builtin "max") [.ref l]) Q E s:=by
 have a:l < s.heap.objs.size:=by obtain ⟨_,e,_⟩:=g;exact aI4 e
 have hz:us.length=ns.length:=hi.length
 have y:0 < ns.length:=aF2.mpr f
 refine call_max_walk (aJ4 g ?_)
 refine ⟨_,[s.heap.objs.size,l],_,_,_,_,_,rfl,Walks.list (A:=A.in1) hh _ l (aB5 a) us.toArray,⟨⟨_,aI5 _ rfl,rfl,rfl⟩,g.push _⟩,fun b hb=>?_,by simp;omega,CmpOf.ints_gt (val ns) (fun i v=>ade hi i v),fun v h' d q p=>?_⟩
 ·show b < (s.heap.push _).objs.size
  rw [aJ1]
  rcases aA8.mp hb with rfl | hb
  ·exact aH9 _
  ·rcases aA8.mp hb with rfl | hb
   ·exact aF1 a
   ·cases hb
 ·obtain ⟨t,e⟩:=ade hi _ _ q
  obtain ⟨b1,j⟩:=aji (val ns) (us.toArray.size - 1)
  have c:us.toArray.size=ns.length:=by simp [hz]
  rw [c] at b1 j
  subst e
  refine h _ t h' d (ag5 (by rw [c];omega)) (fun x u=>?_) fun b o e=>?_
  ·obtain ⟨i,r,e⟩:=aik u
   have:=j i (by omega)
   rw [e] at this
   rw [c]
   exact this
  ·refine p b o (fun hm=>?_) (aI3 _ e)
   rcases aA8.mp hm with n | hm
   ·exact absurd (n ▸ aI4 e) (aF7 _)
   ·cases hm
theorem min_list {l:Addr} {us:List Value} {ns:List Int} {Q:Value->Shared->Prop} (hh:A.handled=none) (g:s.heap.IsList l us.toArray) (hi:IntsAre us ns) (f:ns ≠ [])
  (h:∀ m t h' d,m∈ns->(∀ x∈ns,m<=x)->(∀ b o,s.heap.get? b=some o->h'.get? b=some o)->Q (.int m t) { s with heap:=h',toks:=d }) :
  wpAny (model prog w) A (call (.builtin "min") [.ref l]) Q E s:=by
 have a:l < s.heap.objs.size:=by obtain ⟨_,e,_⟩:=g;exact aI4 e
 have hz:us.length=ns.length:=hi.length
 have y:0 < ns.length:=aF2.mpr f
 refine call_min_walk (aJ4 g ?_)
 refine ⟨_,[s.heap.objs.size,l],_,_,_,_,_,rfl,Walks.list (A:=A.in1) hh _ l (aB5 a) us.toArray,⟨⟨_,aI5 _ rfl,rfl,rfl⟩,g.push _⟩,fun b hb=>?_,by simp;omega,CmpOf.ints_lt (val ns) (fun i v=>ade hi i v),fun v h' d q p=>?_⟩
 ·show b < (s.heap.push _).objs.size
  rw [aJ1]
  rcases aA8.mp hb with rfl | hb
  ·exact aH9 _
  ·rcases aA8.mp hb with rfl | hb
   ·exact aF1 a
   ·cases hb
 ·obtain ⟨t,e⟩:=ade hi _ _ q
  obtain ⟨b1,j⟩:=ajj (val ns) (us.toArray.size - 1)
  have c:us.toArray.size=ns.length:=by simp [hz]
  rw [c] at b1 j
  subst e
  refine h _ t h' d (ag5 (by rw [c];omega)) (fun x u=>?_) fun b o e=>?_
  ·obtain ⟨i,r,e⟩:=aik u
   have:=j i (by omega)
   rw [e] at this
   rw [c]
   exact this
  ·refine p b o (fun hm=>?_) (aI3 _ e)
   rcases aA8.mp hm with n | hm
   ·exact absurd (n ▸ aI4 e) (aF7 _)
   ·cases hm
theorem max_tup {l:Addr} {us:List Value} {ns:List Int} {Q:Value->Shared->Prop} (hh:A.handled=none) (j:s.heap.IsTuple l us.toArray) (hi:IntsAre us ns) (g:ns ≠ [])
  (h:∀ m t h' d,m∈ns->(∀ x∈ns,x<=m)->(∀ b o,s.heap.get? b=some o->h'.get? b=some o)->Q (.int m t) { s with heap:=h',toks:=d }) :
  wpAny (model prog w) A.in1 (pyIter (.ref l)) (fun it a=>∃ I fp r n P St q,it=.ref I/\Walks prog w A.in1 I fp r n P St/\St 0 a.heap/\(∀ b∈fp,b < a.heap.objs.size)/\0 < n/\CmpOf prog w A.in1 .Gt P q /\
   ∀ v h' d,P (argBest q (n - 1)) v->(∀ b o,b ∉ r->a.heap.get? b=some o->h'.get? b=some o)->Q v { a with heap:=h',toks:=d }) E s:=by
 have c:l < s.heap.objs.size:=by obtain ⟨_,e,_⟩:=j;exact aI4 e
 have hz:us.length=ns.length:=hi.length
 have D:0 < ns.length:=aF2.mpr g
 refine wpAny_pyIter_tuple j ?_
 refine ⟨_,[s.heap.objs.size,l],[_],_,_,_,_,rfl,Walks.tuple (A:=A.in1) hh _ l (aB5 c) us.toArray,⟨⟨_,aI5 _ rfl,rfl,rfl⟩,j.push _⟩,fun b hb=>?_,by simp;omega,CmpOf.ints_gt (val ns) (fun i v=>ade hi i v),fun v h' d z y=>?_⟩
 ·show b < (s.heap.push _).objs.size
  rw [aJ1]
  rcases aA8.mp hb with rfl | hb
  ·exact aH9 _
  ·rcases aA8.mp hb with rfl | hb
   ·exact aF1 c
   ·cases hb
 ·obtain ⟨t,e⟩:=ade hi _ _ z
  obtain ⟨b1,p⟩:=aji (val ns) (us.toArray.size - 1)
  have f:us.toArray.size=ns.length:=by simp [hz]
  rw [f] at b1 p
  subst e
  refine h _ t h' d (ag5 (by rw [f];omega)) (fun x C=>?_) fun b o e=>?_
  ·obtain ⟨i,B,e⟩:=aik C
   have:=p i (by omega)
   rw [e] at this
   rw [f]
   exact this
  ·refine y b o (fun hm=>?_) (aI3 _ e)
   rcases aA8.mp hm with u | hm
   ·exact absurd (u ▸ aI4 e) (aF7 _)
   ·cases hm
theorem min_tup {l:Addr} {us:List Value} {ns:List Int} {Q:Value->Shared->Prop} (hh:A.handled=none) (j:s.heap.IsTuple l us.toArray) (hi:IntsAre us ns) (g:ns ≠ [])
  (h:∀ m t h' d,m∈ns->(∀ x∈ns,m<=x)->(∀ b o,s.heap.get? b=some o->h'.get? b=some o)->Q (.int m t) { s with heap:=h',toks:=d }) :
  wpAny (model prog w) A.in1 (pyIter (.ref l)) (fun it a=>∃ I fp r n P St q,it=.ref I/\Walks prog w A.in1 I fp r n P St/\St 0 a.heap/\(∀ b∈fp,b < a.heap.objs.size)/\0 < n/\CmpOf prog w A.in1 .Lt P q /\
   ∀ v h' d,P (argBest q (n - 1)) v->(∀ b o,b ∉ r->a.heap.get? b=some o->h'.get? b=some o)->Q v { a with heap:=h',toks:=d }) E s:=by
 have c:l < s.heap.objs.size:=by obtain ⟨_,e,_⟩:=j;exact aI4 e
 have hz:us.length=ns.length:=hi.length
 have D:0 < ns.length:=aF2.mpr g
 refine wpAny_pyIter_tuple j ?_
 refine ⟨_,[s.heap.objs.size,l],[_],_,_,_,_,rfl,Walks.tuple (A:=A.in1) hh _ l (aB5 c) us.toArray,⟨⟨_,aI5 _ rfl,rfl,rfl⟩,j.push _⟩,fun b hb=>?_,by simp;omega,CmpOf.ints_lt (val ns) (fun i v=>ade hi i v),fun v h' d z y=>?_⟩
 ·show b < (s.heap.push _).objs.size
  rw [aJ1]
  rcases aA8.mp hb with rfl | hb
  ·exact aH9 _
  ·rcases aA8.mp hb with rfl | hb
   ·exact aF1 c
   ·cases hb
 ·obtain ⟨t,e⟩:=ade hi _ _ z
  obtain ⟨b1,p⟩:=ajj (val ns) (us.toArray.size - 1)
  have f:us.toArray.size=ns.length:=by simp [hz]
  rw [f] at b1 p
  subst e
  refine h _ t h' d (ag5 (by rw [f];omega)) (fun x C=>?_) fun b o e=>?_
  ·obtain ⟨i,B,e⟩:=aik C
   have:=p i (by omega)
   rw [e] at this
   rw [f]
   exact this
  ·refine y b o (fun hm=>?_) (aI3 _ e)
   rcases aA8.mp hm with u | hm
   ·exact absurd (u ▸ aI4 e) (aF7 _)
   ·cases hm
end
end HT
namespace L2
open PySem PySem.Spec PyProof.Rows
section
variable {X:Cx}
def ad3 (ns:List Int) (m:Int):Prop:=m∈ns/\∀ x∈ns,x<=m
def aqa (ns:List Int) (m:Int):Prop:=m∈ns/\∀ x∈ns,m<=x
def afp (K:Frag):List V->Hp->VK->Prop:=fun xs H Q=>∃ (a:Addr) (ns:List Int),xs=[.ref a]/\(SqL K H a (ns.map V.int)\/SqT K H a (ns.map V.int))/\ns ≠ []/\∀ m,ad3 ns m->Q (.int m) H
def ale (K:Frag):List V->Hp->VK->Prop:=fun xs H Q=>∃ (a:Addr) (ns:List Int),xs=[.ref a]/\(SqL K H a (ns.map V.int)\/SqT K H a (ns.map V.int))/\ns ≠ []/\∀ m,aqa ns m->Q (.int m) H
theorem aez (j:X.calm=true):abb X (.builtin "max") (afp X.K):=by
 intro pins s σ H xs us Q I r h
 obtain ⟨a,ns,rfl,ha,b,q⟩:=h
 obtain ⟨u,rfl,n⟩:=acm r
 cases n
 rcases ha with ha | ha
 ·obtain ⟨its,f,i,_⟩:=I.list ha
  have g:IntsAre its.toArray.toList ns:=ab3 f
  exact HT.max_list (I.ok.hd j) i.isList (by simpa using g) b fun m t h' l d c kp=>⟨.int m,H,I.kept kp,⟨_,rfl⟩,q m ⟨d,c⟩⟩
 ·obtain ⟨its,f,i,_⟩:=I.tuple ha
  have g:IntsAre its.toArray.toList ns:=ab3 f
  refine call_max_walk (HT.max_tup (I.ok.hd j) i (by simpa using g) b fun m t h' l d c kp=>⟨.int m,H,I.kept kp,⟨_,rfl⟩,q m ⟨d,c⟩⟩)
theorem ar7 (j:X.calm=true):abb X (.builtin "min") (ale X.K):=by
 intro pins s σ H xs us Q I r h
 obtain ⟨a,ns,rfl,ha,b,q⟩:=h
 obtain ⟨u,rfl,n⟩:=acm r
 cases n
 rcases ha with ha | ha
 ·obtain ⟨its,f,i,_⟩:=I.list ha
  have g:IntsAre its.toArray.toList ns:=ab3 f
  exact HT.min_list (I.ok.hd j) i.isList (by simpa using g) b fun m t h' l d c kp=>⟨.int m,H,I.kept kp,⟨_,rfl⟩,q m ⟨d,c⟩⟩
 ·obtain ⟨its,f,i,_⟩:=I.tuple ha
  have g:IntsAre its.toArray.toList ns:=ab3 f
  refine call_min_walk (HT.min_tup (I.ok.hd j) i (by simpa using g) b fun m t h' l d c kp=>⟨.int m,H,I.kept kp,⟨_,rfl⟩,q m ⟨d,c⟩⟩)
end
def tTru (K:Frag) (ta:TE):TT:=fun σ H Q=>ta σ H fun x H'=>∃ k,TruV K x H' k/\Q k H'
def rIsN:R2:=fun x y H Q=>y=.non/\Q (.bl (decide (x=.non))) H
def awa:R2:=fun x y H Q=>y=.non/\Q (.bl (!decide (x=.non))) H
section
variable {X:Cx} {a:Expr} {ta:TE}
theorem ar8 (ha:PE X a ta) (b:∀ whole,isTrue a X.env whole=(do let v ← whole;standAt a.pos;holding [v] (truthy v)):=by intro _;rfl):PT X a (tTru X.K ta):=atp ha b
def acg (K:Frag):R2:=fun x y H Q=>rIxL K x y H Q\/rIxT K x y H Q
theorem aao:IxR X (acg X.K):=ix_list.or azd
theorem axf {i j n:Int} {b f:Nat} {c p2 a:Pos} (h:i ^ j.toNat=n) (d:CPow i j):PE X (.BinOp (.Constant (.int i) b c) .Pow (.Constant (.int j) f p2) a) (tC (.int n)):=by
 intro pins s σ H Q I q
 subst h
 exact aat ay9 aad aad pins s σ H Q I ⟨i,j,rfl,rfl,d,q⟩
theorem axg:OpR X (compareOp .Is) rIsN:=aza
theorem auh:OpR X (compareOp .IsNot) awa:=awo
end
section
variable {σ:St} {H:Hp} {D:Ends} {K:Frag}
theorem afq {a:Addr} {xs:List V} {i:Int} {v:V} {Q:VK} (ha:H a=some (.lst xs)) (b:atI xs i=some v) (h:Q v H):acg K (.ref a) (.int i) H Q:=.inl (azn ha b h)
theorem afr {a:Addr} {xs:List V} {i:Int} {v:V} {Q:VK} (ha:H a=some (.tup xs)) (b:atI xs i=some v) (h:Q v H):acg K (.ref a) (.int i) H Q:=.inr (azo ha b h)
theorem aui {a:Addr} {xs:List V} {i:Int} {v:V} {Q:VK} (ha:SqL K H a xs) (b:atI xs i=some v) (h:Q v H):acg K (.ref a) (.int i) H Q:=.inl (azs ha b h)
theorem acj {A B:Prop} (h:A):if true=true then A else B:=by rw [aE8 rfl];exact h
theorem acz {A B:Prop} (h:B):if false=true then A else B:=by rw [aE9 aA9];exact h
theorem ad9 {A B:Prop} (h:B):if (!true)=true then A else B:=by rw [aE9 (by decide)];exact h
theorem ajk {A B:Prop} (h:A):if (!false)=true then A else B:=by rw [aE8 (by decide)];exact h
theorem auj {c:Prop} [Decidable c] {A B:Prop} (a:c) (h:B):if (!decide c)=true then A else B:=by rw [aD6 a];exact ad9 h
theorem auk {c:Prop} [Decidable c] {A B:Prop} (a:¬ c) (h:A):if (!decide c)=true then A else B:=by rw [aD5 a];exact ajk h
theorem ahr {K:Frag}:kitOne K (.type "NoneType") (.type "int")=some false:=by first | rfl | decide
theorem ahd {K:Frag}:kitOne K (.type "NoneType") (.type "bool")=some false:=by first | rfl | decide
theorem agn {K:Frag}:kitOne K (.type "NoneType") (.type "tuple")=some false:=by first | rfl | decide
theorem ahe {K:Frag}:kitOne K (.type "NoneType") (.type "list")=some false:=by first | rfl | decide
theorem ahs {K:Frag}:kitOne K (.type "NoneType") (.type "str")=some false:=by first | rfl | decide
theorem ahf {K:Frag}:kitOne K (.type "NoneType") (.type "dict")=some false:=by first | rfl | decide
theorem amb {K:Frag}:kitOne K (.type "bool") (.type "int")=some true:=by first | rfl | decide
theorem aku {K:Frag}:kitOne K (.type "bool") (.type "bool")=some true:=by first | rfl | decide
theorem ajl {K:Frag}:kitOne K (.type "bool") (.type "tuple")=some false:=by first | rfl | decide
theorem akv {K:Frag}:kitOne K (.type "bool") (.type "list")=some false:=by first | rfl | decide
theorem amc {K:Frag}:kitOne K (.type "bool") (.type "str")=some false:=by first | rfl | decide
theorem akw {K:Frag}:kitOne K (.type "bool") (.type "dict")=some false:=by first | rfl | decide
theorem an0 {K:Frag}:kitOne K (.type "int") (.type "int")=some true:=by first | rfl | decide
theorem amd {K:Frag}:kitOne K (.type "int") (.type "bool")=some false:=by first | rfl | decide
theorem akx {K:Frag}:kitOne K (.type "int") (.type "tuple")=some false:=by first | rfl | decide
theorem ame {K:Frag}:kitOne K (.type "int") (.type "list")=some false:=by first | rfl | decide
theorem an1 {K:Frag}:kitOne K (.type "int") (.type "str")=some false:=by first | rfl | decide
theorem amf {K:Frag}:kitOne K (.type "int") (.type "dict")=some false:=by first | rfl | decide
theorem an2 {K:Frag}:kitOne K (.type "str") (.type "int")=some false:=by first | rfl | decide
theorem amg {K:Frag}:kitOne K (.type "str") (.type "bool")=some false:=by first | rfl | decide
theorem aky {K:Frag}:kitOne K (.type "str") (.type "tuple")=some false:=by first | rfl | decide
theorem amh {K:Frag}:kitOne K (.type "str") (.type "list")=some false:=by first | rfl | decide
theorem an3 {K:Frag}:kitOne K (.type "str") (.type "str")=some true:=by first | rfl | decide
theorem ami {K:Frag}:kitOne K (.type "str") (.type "dict")=some false:=by first | rfl | decide
theorem amj {K:Frag}:kitOne K (.type "list") (.type "int")=some false:=by first | rfl | decide
theorem akz {K:Frag}:kitOne K (.type "list") (.type "bool")=some false:=by first | rfl | decide
theorem ajm {K:Frag}:kitOne K (.type "list") (.type "tuple")=some false:=by first | rfl | decide
theorem ak0 {K:Frag}:kitOne K (.type "list") (.type "list")=some true:=by first | rfl | decide
theorem amk {K:Frag}:kitOne K (.type "list") (.type "str")=some false:=by first | rfl | decide
theorem ak1 {K:Frag}:kitOne K (.type "list") (.type "dict")=some false:=by first | rfl | decide
theorem ak2 {K:Frag}:kitOne K (.type "tuple") (.type "int")=some false:=by first | rfl | decide
theorem ajn {K:Frag}:kitOne K (.type "tuple") (.type "bool")=some false:=by first | rfl | decide
theorem ail {K:Frag}:kitOne K (.type "tuple") (.type "tuple")=some true:=by first | rfl | decide
theorem ajo {K:Frag}:kitOne K (.type "tuple") (.type "list")=some false:=by first | rfl | decide
theorem ak3 {K:Frag}:kitOne K (.type "tuple") (.type "str")=some false:=by first | rfl | decide
theorem ajp {K:Frag}:kitOne K (.type "tuple") (.type "dict")=some false:=by first | rfl | decide
theorem aml {K:Frag}:kitOne K (.type "dict") (.type "int")=some false:=by first | rfl | decide
theorem ak4 {K:Frag}:kitOne K (.type "dict") (.type "bool")=some false:=by first | rfl | decide
theorem ajq {K:Frag}:kitOne K (.type "dict") (.type "tuple")=some false:=by first | rfl | decide
theorem ak5 {K:Frag}:kitOne K (.type "dict") (.type "list")=some false:=by first | rfl | decide
theorem amm {K:Frag}:kitOne K (.type "dict") (.type "str")=some false:=by first | rfl | decide
theorem ak6 {K:Frag}:kitOne K (.type "dict") (.type "dict")=some true:=by first | rfl | decide
end
end L2
namespace L2
open PySem
section
variable {σ:St} {H:Hp} {K:Frag}
theorem abn {p:Addr} {o:HO} (a:H p=none):Same H (upd H p o):=fun b u e=>by rw [aae (aar e a)];exact e
theorem Same.new {H H':Hp} {q:Addr} {o:HO} (s:Same H H') (h:H' q=none):Same H (upd H' q o):=fun b u e=>by
 have:=s b u e
 rw [aae (aar this h)];exact this
theorem Same.set {H H':Hp} {q:Addr} {o:HO} (s:Same H H') (h:H q=none):Same H (upd H' q o):=fun b u e=>by
 have:=s b u e
 rw [aae (aar e h)];exact this
theorem Same.at {H H':Hp} {b:Addr} {o:HO} (s:Same H H') (h:H b=some o):H' b=some o:=s b o h
end
section
variable {σ:St} {H:Hp} {K:Frag}
abbrev NewL (Q:VK):List V->Hp->Prop:=fun xs H1=>xs.length<=sizeLine/\∀ p,H1 p=none->Q (.ref p) (upd H1 p (.lst xs))
theorem axh {t:TA} {Q:VK} (h:t σ H (NewL Q)):tLst t σ H Q:=h
end
end L2
namespace Gr
inductive Walk (T:Int->Int->Prop) (u:Int):Nat->Int->Prop
 | refl:Walk T u 0 u
 | step {k:Nat} {v w:Int}:Walk T u k v->T v w->Walk T u (k+1) w
def Dist (T:Int->Int->Prop) (u v:Int) (d:Nat):Prop:=Walk T u d v/\∀ k,Walk T u k v->d<=k
theorem Dist.uniq {T:Int->Int->Prop} {u v:Int} {d e:Nat} (h:Dist T u v d) (g:Dist T u v e):d=e:=Nat.le_antisymm (h.2 _ g.1) (g.2 _ h.1)
theorem Dist.self (T:Int->Int->Prop) (u:Int):Dist T u u 0:=⟨.refl,fun _ _=>aF3 _⟩
theorem Dist.of_walk {T:Int->Int->Prop} {u v:Int} {k:Nat} (h:Walk T u k v):∃ d,d<=k/\Dist T u v d:=by
 induction k using Nat.strongRecOn with
 | ind k ih =>
  by_cases hx:∃ j,j < k/\Walk T u j v
  ·obtain ⟨j,a,w⟩:=hx
   obtain ⟨d,hd,e⟩:=ih j a w
   exact ⟨d,by omega,e⟩
  ·refine ⟨k,aA6 _,h,fun j w=>?_⟩
   by_cases a:j < k
   ·exact absurd ⟨j,a,w⟩ hx
   ·omega
theorem Dist.pred {T:Int->Int->Prop} {u w:Int} {d:Nat} (h:Dist T u w (d+1)):∃ v,T v w/\Dist T u v d:=by
 obtain ⟨a,hm⟩:=h
 cases a with
 | step hv ht =>
  rename_i v
  refine ⟨v,ht,hv,fun k b=>?_⟩
  have:=hm (k+1) (.step b ht)
  omega
theorem Dist.next {T:Int->Int->Prop} {u v w:Int} {d:Nat} (h:Dist T u v d) (t:T v w):∃ e,e<=d+1/\Dist T u w e:=Dist.of_walk (.step h.1 t)
structure Bfs (T:Int->Int->Prop) (a:Int) (line:List Int) (ds:List Nat) (at_:Nat):Prop where
 len:ds.length=line.length
 fst:line[0]?=some a
 nd:line.Nodup
 le:at_<=line.length
 dist:∀ (i:Nat) v d,line[i]?=some v->ds[i]?=some d->Dist T a v d
 mono:∀ (i j:Nat) d e,i<=j->ds[i]?=some d->ds[j]?=some e->d<=e
 near:∀ (i j:Nat) d e,at_<=i->ds[i]?=some d->ds[j]?=some e->e<=d+1
 done:∀ (i:Nat) v w,i < at_->line[i]?=some v->T v w->w∈line
theorem Bfs.start (T:Int->Int->Prop) (a:Int):Bfs T a [a] [0] 0:=by
 refine ⟨rfl,rfl,by simp,aF3 _,fun i v d c b=>?_,fun i j d e h c b=>?_,fun i j d e h c b=>?_,fun i v w h=>absurd h (by omega)⟩
 ·match i,c,b with
  | 0,c,b=>simp at c b;subst c b;exact Dist.self T a
  | i+1,c,_=>simp at c
 ·match j,b with
  | 0,b =>
   have:i=0:=by omega
   subst this
   rw [c] at b;cases b;exact aA6 _
  | j+1,b=>simp at b
 ·match i,j,c,b with
  | 0,0,c,b=>rw [c] at b;cases b;omega
  | i+1,_,c,_=>simp at c
  | 0,j+1,_,b=>simp at b
theorem Bfs.all {T:Int->Int->Prop} {a:Int} {line:List Int} {ds:List Nat} {at_:Nat} {d:Nat} (b:Bfs T a line ds at_) (hd:ds[at_]?=some d) :
  ∀ k w,k<=d->Dist T a w k->w∈line:=by
 intro k
 induction k with
 | zero =>
  intro w _ h
  have:w=a:=by
   cases h.1;rfl
  subst this
  exact aA2 b.fst
 | succ k ih =>
  intro w m h
  obtain ⟨v,j,g⟩:=h.pred
  have l:=ih v (by omega) g
  obtain ⟨i,hi,e⟩:=aG9.mp l
  have f:line[i]?=some v:=by rw [aA0 hi,e]
  have c:i < ds.length:=by rw [b.len];exact hi
  have e2:ds[i]?=some ds[i]:=aA0 c
  have n:=(b.dist i v _ f e2).uniq g
  by_cases hlt:i < at_
  ·exact b.done i v w hlt f j
  ·have:=b.mono at_ i d _ (by omega) hd e2
   omega
theorem Bfs.add {T:Int->Int->Prop} {a:Int} {line:List Int} {ds:List Nat} {at_:Nat} {p w:Int} {d:Nat} (b:Bfs T a line ds at_) (o:line[at_]?=some p) (hd:ds[at_]?=some d) (t:T p w) (q:w ∉ line) :
  Bfs T a (line ++ [w]) (ds ++ [d+1]) at_:=by
 have s:at_ < line.length:=(aA1.mp o).1
 have dw:Dist T a w (d+1):=by
  obtain ⟨e,C,h⟩:=(b.dist _ _ _ o hd).next t
  by_cases f:e<=d
  ·exact absurd (b.all hd e w f h) q
  ·have:e=d+1:=by omega
   rw [← this];exact h
 have g:∀ (j:Nat) e,(ds ++ [d+1])[j]?=some e->(ds[j]?=some e)\/(j=ds.length/\e=d+1):=by
  intro j e h
  rw [List.getElem?_append] at h
  split at h
  ·exact .inl h
  ·rename_i hj
   right
   have:j - ds.length=0:=by
    match hz:j - ds.length,h with
    | 0,_=>rfl
    | k+1,h=>simp at h
   rw [this] at h
   simp at h
   exact ⟨by omega,h.symm⟩
 refine ⟨by simp [b.len],?_,?_,by simp;omega,fun i v e c f=>?_,fun i j x y h c f=>?_,fun i j x y h c f=>?_,fun i v u h c z=>?_⟩
 ·rw [aC2 (by omega)];exact b.fst
 ·rw [aE2]
  exact ⟨b.nd,by simp,fun x A y r=>by simp at r;subst r;intro e;subst e;exact q A⟩
 ·rcases g _ _ f with f | ⟨n,l⟩
  ·have hi:i < ds.length:=(aA1.mp f).1
   rw [aC2 (by rw [← b.len];exact hi)] at c
   exact b.dist i v e c f
  ·subst l
   rw [aC7 (by rw [← b.len];omega)] at c
   have:i - line.length=0:=by rw [← b.len];omega
   rw [this] at c
   simp at c;subst c
   exact dw
 ·rcases g _ _ c with c | ⟨n,l⟩
  ·rcases g _ _ f with f | ⟨m,l⟩
   ·exact b.mono i j x y h c f
   ·subst l
    by_cases hia:at_<=i
    ·exact b.near at_ i d x (aA6 _) hd c
    ·have:=b.mono i at_ x d (by omega) c hd;omega
  ·rcases g _ _ f with f | ⟨m,B⟩
   ·have:=(aA1.mp f).1;omega
   ·omega
 ·rcases g _ _ c with c | ⟨n,l⟩
  ·rcases g _ _ f with f | ⟨m,l⟩
   ·exact b.near i j x y h c f
   ·subst l
    have:=b.mono at_ i d x h hd c;omega
  ·subst l
   rcases g _ _ f with f | ⟨m,l⟩
   ·have:=b.near at_ j d y (aA6 _) hd f;omega
   ·omega
 ·rw [aC2 (by omega)] at c
  exact aC6 _ (b.done i v u h c z)
theorem Bfs.next {T:Int->Int->Prop} {a:Int} {line:List Int} {ds:List Nat} {at_:Nat} {p:Int} (b:Bfs T a line ds at_) (g:line[at_]?=some p) (h:∀ w,T p w->w∈line):Bfs T a line ds (at_+1):=by
 have c:at_ < line.length:=(aA1.mp g).1
 refine ⟨b.len,b.fst,b.nd,c,b.dist,b.mono,fun i j d e hi=>b.near i j d e (by omega),fun i v w hi f t=>?_⟩
 by_cases e:i=at_
 ·subst e
  rw [g] at f;cases f
  exact h w t
 ·exact b.done i v w (by omega) f t
theorem Bfs.fin {T:Int->Int->Prop} {a:Int} {line:List Int} {ds:List Nat} (b:Bfs T a line ds line.length):∀ k w,Walk T a k w->w∈line:=by
 intro k w h
 induction h with
 | refl=>exact aA2 b.fst
 | step _ t ih =>
  obtain ⟨i,hi,e⟩:=aG9.mp ih
  exact b.done i _ _ hi (by rw [aA0 hi,e]) t
end Gr
namespace L2
open PySem PySem.Spec PyProof.Rows
section
variable {σ:St} {H:Hp} {D:Ends} {K:Frag}
end
theorem few_places:∀ (n:Nat) (l:List Int),l.Nodup->(∀ v∈l,0<=v/\v < (n:Int))->l.length<=n
 | 0,l,_,h=>by
  cases l with
  | nil=>simp
  | cons v r=>have:=h v (by simp);omega
 | n+1,l,hn,h=>by
  have d:=few_places n (l.erase (n:Int)) (hn.erase _) fun v a=>by
   have hm:=List.mem_of_mem_erase a
   have hb:=h v hm
   have b:v ≠ (n:Int):=by
    rintro rfl
    exact absurd a (List.Nodup.not_mem_erase hn)
   omega
  have c:l.length<=(l.erase (n:Int)).length+1:=by
   rw [List.length_erase]
   split <;> omega
  omega
end L2
namespace L2
open PySem
end L2
namespace HT
open PySem PyProof.Rows
theorem aim (ns:List Int):∀ k,k<=ns.length->preSum (val ns) k=(ns.take k).sum
 | 0,_=>by simp [preSum]
 | k+1,h=>by
  have a:=aim ns k (by omega)
  have e:ns.take (k+1)=ns.take k ++ [ns[k]]:=by rw [aG7,aA0 (by omega)];rfl
  rw [e,List.sum_append]
  unfold preSum
  rw [a]
  unfold val
  rw [aA0 (by omega)]
  simp
section
variable {prog:Program} {w:World} {A:Around} {E:Value->Shared->Prop} {s:Shared}
theorem sum_list {l:Addr} {us:List Value} {ns:List Int} {Q:Value->Shared->Prop} (hh:A.handled=none) (d:s.heap.IsList l us.toArray) (hi:IntsAre us ns)
  (h:∀ t h' c,(∀ b o,s.heap.get? b=some o->h'.get? b=some o)->Q (.int ns.sum t) { s with heap:=h',toks:=c }) :
  wpAny (model prog w) A (call (.builtin "sum") [.ref l]) Q E s:=by
 have a:l < s.heap.objs.size:=by obtain ⟨_,e,_⟩:=d;exact aI4 e
 have hz:us.length=ns.length:=hi.length
 refine call_sum_walkG (aJ4 d ?_)
 refine ⟨_,[s.heap.objs.size,l],_,_,_,_,val ns,rfl,Walks.list (A:=A.in1) hh _ l (aB5 a) us.toArray,⟨⟨_,aI5 _ rfl,rfl,rfl⟩,d.push _⟩,fun b hb=>?_,fun i v=>ade hi i v,fun h' c t' j=>?_⟩
 ·show b < (s.heap.push _).objs.size
  rw [aJ1]
  rcases aA8.mp hb with rfl | hb
  ·exact aH9 _
  ·rcases aA8.mp hb with rfl | hb
   ·exact aF1 a
   ·cases hb
 ·have g:us.toArray.size=ns.length:=by simp [hz]
  rw [g,aim ns _ (aA6 _),aG1]
  refine h t' h' c fun b o e=>?_
  refine j b o (fun hm=>?_) (aI3 _ e)
  rcases aA8.mp hm with f | hm
  ·exact absurd (f ▸ aI4 e) (aF7 _)
  ·cases hm
end
end HT
namespace L2
open PySem PySem.Spec PyProof.Rows
section
variable {X:Cx}
def aqb (K:Frag):List V->Hp->VK->Prop:=fun xs H Q=>∃ (a:Addr) (ns:List Int),xs=[.ref a]/\SqL K H a (ns.map V.int)/\Q (.int ns.sum) H
theorem ake (c:X.calm=true):abb X (.builtin "sum") (aqb X.K):=by
 intro pins s σ H xs us Q I r h
 obtain ⟨a,ns,rfl,ha,q⟩:=h
 obtain ⟨u,rfl,d⟩:=acm r
 cases d
 obtain ⟨its,b,g,_⟩:=I.list ha
 have f:IntsAre its.toArray.toList ns:=ab3 b
 exact HT.sum_list (I.ok.hd c) g.isList (by simpa using f) fun t h' i kp=>⟨.int _,H,I.kept kp,⟨_,rfl⟩,q⟩
end
section
variable {X:Cx} {pins:List (Addr × Obj)} {σ:St} {H:Hp} {s:Shared} {A:Around} {E:Value->Shared->Prop} {Q:Value->Shared->Prop} {b:Bool}
end
section
variable {X:Cx}
end
end L2
namespace HT
open PySem PyProof.Rows L2
def LtAt (A:Around) (s:Shared) (y x:Value) (b:Bool):Prop :=
 ∀ (prog:Program) (w:World) (E:Value->Shared->Prop) (Q:Value->Shared->Prop),Q (.bool b) s->wpAny (model prog w) A (richCompare .Lt y x) Q E s
section
open PySem.SeqAt
open PySem.AutoSeq1 (wpAny_loadPart')
open PySem.MeetsSeq PySem.MeetsSeq2 PySem.MeetsSeq3
inductive Its (A:Around) (s:Shared):List Value->List Value->Bool->Prop
 | nn:Its A s [] [] false
 | nc {x:Value} {ys:List Value}:Its A s [] (x :: ys) true
 | cn {x:Value} {xs:List Value}:Its A s (x :: xs) [] false
 | eq {x y:Value} {xs ys:List Value} {b:Bool}:EqAt A s x y true->Its A s xs ys b->Its A s (x :: xs) (y :: ys) b
 | ne {x y:Value} {xs ys:List Value} {b:Bool}:EqAt A s x y false->LtAt A s x y b->Its A s (x :: xs) (y :: ys) b
theorem amn (l b:Addr) (items a:Array Value) (n F:Nat) (dd q:Option Addr) (sl v:Array (Option Value)) (r:Bool) :
  Meets (Builtin.«tuple.__lt__» ⟨[.ref l,.ref b],[]⟩)
   (fun A R s=>s.heap.get? l=some { cls:=.type "tuple",dict:=dd,data:=.seq items n,slots:=sl }/\s.heap.get? b=some { cls:=.type "tuple",dict:=q,data:=.seq a F,slots:=v } /\
    Its A.in1 s items.toList a.toList r/\R (.ok (.ret (.bool r))) s) :=
 .of_wp fun prog w A R s h=>by
  obtain ⟨C,g,d,D,os⟩:=s;obtain ⟨G,hb,hi,h⟩:=h
  have I:=AutoSeq1.sub_tuple_tuple
  wp_walk using wpAny_loadPart' G,wpAny_loadPart' hb,wpAny_forIn_list _ (fun rest b z=>b.1=none/\z=⟨C,g,d,D,os⟩/\∃ (vs m:List Value),rest=vs.zip m /\
   vs.length+a.size=m.length+items.size/\Its A.in1 ⟨C,g,d,D,os⟩ vs m r) _
  case turn =>
   rintro ⟨y,x⟩ rest b z ⟨i,rfl,vs,m,hz,c,p⟩
   cases p with
   | nn=>cases hz
   | nc=>cases hz
   | cn=>cases hz
   | eq he hI' =>
    rw [List.zip_cons_cons] at hz
    injection hz with j f
    injection j with B u
    subst B u
    simp only [aE0] at c
    refine aI1 (he prog w _ _ ?_)
    wp_walk
    exact ⟨rfl,rfl,_,_,f,by omega,hI'⟩
   | ne he hlt =>
    rw [List.zip_cons_cons] at hz
    injection hz with j f
    injection j with B u
    subst B u
    refine aI1 (he prog w _ _ ?_)
    have o:=hlt prog w
    wp_walk using o
    exact ⟨_,rfl,by simpa using h⟩
  case fin =>
   rintro ⟨b1,H⟩ z ⟨i,rfl,vs,m,hz,c,p⟩
   simp only at i
   subst i
   have E:r=decide (items.size < a.size):=by
    cases p with
    | nn =>
     simp only [aI0] at c
     exact (aD5 (by omega)).symm
    | nc =>
     simp only [aI0,aE0] at c
     exact (aD6 (by omega)).symm
    | cn =>
     simp only [aI0,aE0] at c
     exact (aD5 (by omega)).symm
    | eq=>cases hz
    | ne=>cases hz
   rw [E] at h
   wp_walk
   exact ⟨_,rfl,by simpa [Builtin.Tuple.tupleCompareSizes] using h⟩
  case h =>
   exact ⟨rfl,rfl,items.toList,a.toList,rfl,by simp;omega,hi⟩
end
section
variable {A:Around} {s:Shared}
theorem LtAt.tup {l b:Addr} {o f:Obj} {items a:Array Value} {n m:Nat} {r:Bool} (u:s.heap.get? l=some o) (j:o.cls=.type "tuple") (hd:o.data=.seq items n) (hb:s.heap.get? b=some f) (c:f.cls=.type "tuple") (d:f.data=.seq a m)
  (v:A.units < cLine) (hi:Its A.in1 s items.toList a.toList r):LtAt A s (.ref l) (.ref b) r:=by
 intro prog w E Q q
 obtain ⟨cls,dd,data,sl⟩:=o
 obtain ⟨p,g,h,i⟩:=f
 simp only at j hd c d
 subst j hd c d
 exact richCompare_meets_room (op:=.Lt) ⟨_,u,rfl⟩ ⟨_,hb,rfl⟩ PySem.F.slot_tuple_lt PySem.F.entry_tuple_lt (PySem.F.args_tuple_lt_2 _ _) (amn l b items a n m dd g sl i r)
  ⟨u,hb,hi,show Value.bool r ≠ Value.notImplemented/\Q (.bool r) s from ⟨(fun x=>nomatch x),q⟩⟩ v
end
end HT
namespace L2
open PySem PySem.Spec PyProof.Rows
section
variable {X:Cx}
end
end L2
namespace L2
open PySem
end L2
namespace TS
open PySem PyProof.Rows HT
theorem aot:∀ x y:List Int,HT.lexLt x y=true->HT.lexLt y x=false
 | [],[],h=>by simp [HT.lexLt] at h
 | [],_ :: _,_=>rfl
 | _ :: _,[],h=>by simp [HT.lexLt] at h
 | a :: x,b :: y,h=>by
  rw [ad2] at h ⊢
  by_cases e:a=b
  ·subst e
   rw [aE8 rfl] at h ⊢
   exact aot x y h
  ·rw [aE9 e] at h
   rw [aE9 (fun z=>e z.symm)]
   have:=of_decide_eq_true h
   exact aD5 (by omega)
theorem ar9:∀ x y z:List Int,HT.lexLt y x=false->HT.lexLt z y=false->HT.lexLt z x=false
 | _,[],[],h,_=>h
 | [],[],_ :: _,_,_=>rfl
 | _ :: _,[],_ :: _,h,_=>by simp [HT.lexLt] at h
 | _,_ :: _,[],_,h=>by simp [HT.lexLt] at h
 | [],_ :: _,_ :: _,_,_=>rfl
 | a :: x,b :: y,c :: z,h,g=>by
  rw [ad2] at h g ⊢
  by_cases e:b=a
  ·subst e
   rw [aE8 rfl] at h
   by_cases e2:c=b
   ·subst e2
    rw [aE8 rfl] at g ⊢
    exact ar9 x y z h g
   ·rw [aE9 e2] at g ⊢
    exact g
  ·rw [aE9 e] at h
   have h':=of_decide_eq_false h
   by_cases e2:c=b
   ·subst e2
    rw [aE9 e]
    exact h
   ·rw [aE9 e2] at g
    have g':=of_decide_eq_false g
    rw [aE9 (by omega)]
    exact aD5 (by omega)
def TI (h:Heap) (a:Addr) (ns:List Int):Prop:=∃ o xs n,h.get? a=some o/\o.cls=.type "tuple"/\o.data=.seq xs n/\IntsAre xs.toList ns
def kfV (kf:Addr->List Int):Value->List Int
 | .ref a=>kf a
 | _=>[]
section
variable {prog:Program} {w:World} {A:Around} {E:Value->Shared->Prop} {s:Shared}
theorem ahk {fin:Bool} {Q:Bool->Shared->Prop}:∀ {xs ys:List Value} {ns c:List Int} (i:Nat),IntsAre xs ns->IntsAre ys c->(ns.length < c.length->fin=true)->(c.length<=ns.length->fin=false)->Q (HT.lexLt ns c) s ->
  PySem.W.KatLex prog w A true fin Q (xs.zip ys) i s
 | _,_,_,_,i,.nil,.nil,_,h2,q=>by
  rw [h2 (aA6 _)];exact q
 | _,_,_,_,i,.nil,.cons b u r,h1,_,q=>by
  rw [h1 (by simp)];exact q
 | _,_,_,_,i,.cons a t r,.nil,_,h2,q=>by
  rw [List.zip_nil_right,h2 (by simp)];exact q
 | _,_,_,_,i,.cons a t r,.cons b u r2,h1,h2,q=>by
  rw [List.zip_cons_cons]
  refine PySem.W.kat_cons (SeqAt.EqAt.int_int a t b u prog w _ _ ?_)
  rw [ad2] at q
  by_cases e:a=b
  ·subst e
   rw [aE8 rfl] at q
   rw [show (a == a)=true by simp]
   exact PySem.W.kat_yes (ahk (i+1) r r2 (fun z=>h1 (by simpa using z)) (fun z=>h2 (by simpa using z)) q)
  ·rw [aE9 e] at q
   rw [show (a == b)=false by simpa using e]
   refine PySem.W.kat_no ?_
   by_cases hi:i=0
   ·subst hi
    exact oneLt_int q
   ·rw [show (true && i == 0)=false by simpa using hi]
    exact PySem.W.kat_one _ _ (PyProof.Rows.lt_int q)
def tS (h:Heap) (kf:Addr->List Int) (x:Keyed):Prop:=x.1=x.2/\∃ a,x.1=.ref a/\TI h a (kf a)
def tR (kf:Addr->List Int) (x y:Keyed):Bool:=HT.lexLt (kfV kf x.1) (kfV kf y.1)
theorem cmp_tups (i:Addr->List Int):Cmp (model prog w) A E s (tuples' true) (tS s.heap i) (tR i):=by
 refine ⟨fun x y v B Q st m q=>?_,fun x y _ _=>aot _ _,fun x y z _ _ _=>ar9 _ _ _⟩
 obtain ⟨C,G⟩:=x
 obtain ⟨H,I⟩:=y
 obtain ⟨_,a,h,o,xs,n,l,e2,u,c⟩:=v
 obtain ⟨_,b,j,o',ys,D,p,F,r,g⟩:=B
 dsimp only at h j
 subst h j
 rw [lt'_eq]
 refine wpS_bind (wpS_get ?_)
 rw [m]
 refine wpS_bind (wpS_lift (wpAny_attempt (PySem.W.kat_lt l u p r (ahk 0 c g (fun z=>?_) (fun z=>?_) ⟨rfl,?_⟩))))
 ·have d:=c.length;have f:=g.length
  simp at d f
  exact aD6 (by omega)
 ·have d:=c.length;have f:=g.length
  simp at d f
  exact aD5 (by omega)
 ·exact wpS_pure q
theorem aqc {vs:List Value} {ps:List Keyed} (h:ps.Perm (vs.zip vs)):(∀ p∈ps,p.1=p.2/\p.1∈vs)/\(ps.map (·.2)).Perm vs:=by
 refine ⟨fun p a=>mem_zip_self (h.mem_iff.mp a),?_⟩
 have b:=h.map (fun p=>p.2)
 have e:(vs.zip vs).map (fun p=>p.2)=vs:=List.map_snd_zip (aA6 _)
 rwa [e] at b
theorem af3 {a:Addr} {vs:List Value} {n:Nat} {P:PySem.Fin->Shared->Prop} (j:s.heap.get? a=some (seqObj "list" vs.toArray n)) (c:vs.length<=sizeLine)
  (p:2<=vs.length->∀ h',(∀ b o,b ≠ a->s.heap.get? b=some o->h'.get? b=some o)->∃ κ S R,(∀ (Q:SortKind->Shared->Prop),Q κ { s with heap:=h' }->wpAny (model prog w) A (keyKind' vs.toArray) Q E { s with heap:=h' })/\Cmp (model prog w) A E { s with heap:=h' } κ S R/\(∀ v∈vs,S (v,v)) /\
   ∀ out:List Value,out.Perm vs->out.Pairwise (fun x y=>R (y,y) (x,x)=false)->P (.done (.ret .none)) { s with heap:=sortedHeap s.heap a vs out.toArray })
  (H:vs.length < 2->P (.done (.ret .none)) { s with heap:=sortedHeap s.heap a vs vs.toArray }) :
  wpAny (model prog w) A (Builtin.«list.sort» ⟨[.ref a],[]⟩) P E s:=by
 rw [list_sort_plain]
 have ha:a < s.heap.objs.size:=aI4 j
 refine aI1 (listItems_at j rfl ?_)
 refine aI1 (listUpdate_at j rfl ?_ (by rw [aB1];exact c) (aF3 _))
 obtain ⟨l,f⟩:∃ l,(s.heap.update a (Obj.mapSeq fun _ => #[])).get? a=some (seqObj "list" #[] l):=⟨_,get?_update_seq j (fun _ => #[])⟩
 refine aI1 (seqEpoch_at f rfl ?_)
 refine aI1 (wpAny_newTuple ?_ (by show vs.length<=_;exact c))
 refine aI1 (wpAny_newList ?_ (aF3 _))
 refine aI6 ?_
 have d:(((s.heap.update a (Obj.mapSeq fun _ => #[])).push (seqObj "tuple" vs.toArray 0)).push (seqObj "list" #[] 0)).get? a=some (seqObj "list" #[] l):=by
  rw [Heap.get?_push_ne _ _ _ (by rw [size_push',Heap.size_update];exact aB5 (aF1 ha)),Heap.get?_push_ne _ _ _ (by rw [Heap.size_update];exact aB5 ha)]
  exact f
 show wpAny (model prog w) A _ P E { s with heap:=((s.heap.update a (Obj.mapSeq fun _ => #[])).push (seqObj "tuple" vs.toArray 0)).push (seqObj "list" #[] 0) }
 dsimp only
 have hsz:vs.toArray.size=vs.length:=by simp
 have kp:∀ b o,b ≠ a->s.heap.get? b=some o->(((s.heap.update a (Obj.mapSeq fun _ => #[])).push (seqObj "tuple" vs.toArray 0)).push (seqObj "list" #[] 0)).get? b=some o:=fun b o hb e=>by
  refine aI3 _ (aI3 _ ?_)
  rw [Heap.get?_update_ne _ _ _ _ hb];exact e
 by_cases h2:vs.toArray.size < 2
 ·rw [aE8 h2,aE8 h2]
  refine aI1 (aI2 ?_)
  rw [StateT.run_pure]
  refine aI1 (aI2 ?_)
  dsimp only
  have r:(arrOf (SortSt.mk' general' (vs.toArray.zip vs.toArray) #[] 7 none)).map (·.2)=vs.toArray:=by
   show (vs.toArray.zip vs.toArray).map (·.2)=vs.toArray
   apply Array.toList_inj.mp
   rw [Array.toList_map,Array.toList_zip]
   exact List.map_snd_zip (aA6 _)
  rw [r]
  refine aI1 (seqEpoch_at d rfl ?_)
  refine aI1 (listUpdate_at d rfl ?_ (aF3 _) (by rw [aB1];exact Nat.le_succ_of_le c))
  simp only [bne_self_eq_false,Bool.false_eq_true,if_false]
  exact aI2 (H (by omega))
 ·rw [aE9 h2,aE9 h2]
  obtain ⟨κ,S,R,F,C,L,h⟩:=p (by omega) _ kp
  refine aI1 (F _ ?_)
  refine aI1 (aI8 (axe C (a0:=vs.toArray.zip vs.toArray) (st:=SortSt.mk' κ (vs.toArray.zip vs.toArray) #[] 7 none) (Q:=fun _ st'=>failedOf st'=none/\(arrOf st').toList.Perm (vs.zip vs)/\Srt R (arrOf st').toList) (fun x q=>?_) rfl rfl rfl rfl fun st' M J z=>⟨M,by simpa using J,z⟩) ?_ fun _ _ e=>e)
  ·have:x∈vs.zip vs:=by simpa using q
   obtain ⟨i,g⟩:=mem_zip_self this
   obtain ⟨B,I⟩:=x
   dsimp only at i g
   subst i
   exact L _ g
  rintro ⟨⟨⟩,st'⟩ z ⟨rfl,hf,G,D⟩
  dsimp only
  obtain ⟨i,g⟩:=aqc G
  have r:(arrOf st').map (·.2)=(((arrOf st').toList.map (·.2)).toArray):=by
   apply Array.toList_inj.mp
   simp
  rw [r]
  have m:((arrOf st').toList.map (·.2)).length=vs.length:=g.length_eq
  refine aI1 (seqEpoch_at d rfl ?_)
  refine aI1 (listUpdate_at d rfl ?_ (aF3 _) (by rw [aB1,m];exact Nat.le_succ_of_le c))
  rw [hf]
  simp only [bne_self_eq_false,Bool.false_eq_true,if_false]
  refine aI2 (h _ g ?_)
  rw [aF4]
  refine aH3 ?_ D
  intro x y q N K
  have ex:=(i x q).1
  have u:=(i y N).1
  obtain ⟨B,I⟩:=x
  obtain ⟨O,T⟩:=y
  dsimp only at ex u
  subst ex u
  exact K
theorem sorted_any {l:Addr} {vs:List Value} {Q:Value->Shared->Prop} (u:s.heap.IsList l vs.toArray) (c:vs.length<=sizeLine)
  (g:2<=vs.length->∀ h',(∀ b o,s.heap.get? b=some o->h'.get? b=some o)->∃ κ S R,(∀ (Q:SortKind->Shared->Prop),Q κ { s with heap:=h' }->wpAny (model prog w) A.in1.in1 (keyKind' vs.toArray) Q E { s with heap:=h' })/\Cmp (model prog w) A.in1.in1 E { s with heap:=h' } κ S R/\(∀ v∈vs,S (v,v)) /\
   ∀ out:List Value,out.Perm vs->out.Pairwise (fun x y=>R (y,y) (x,x)=false)->Q (.ref (s.heap.objs.size+1)) { s with heap:=sortedAll s.heap vs out.toArray })
  (j:vs.length < 2->Q (.ref (s.heap.objs.size+1)) { s with heap:=sortedAll s.heap vs vs.toArray }) :
  wpAny (model prog w) A (call (.builtin "sorted") [.ref l]) Q E s:=by
 refine Calls.call_function_entry kind_sorted plain_sorted entry_sorted (args_sorted1 _) ?_
 unfold Builtin.«sorted»
 refine aI1 (m:=checkCount "sorted" 1 1 _) (aI2 ?_)
 refine aI1 (collect_list u ?_ c)
 refine aI1 (wpAny_newList ?_ c)
 have hsz:((s.heap.push (seqObj "list" #[] 0)).update s.heap.objs.size (Obj.mapSeq (· ++ vs.toArray))).objs.size=s.heap.objs.size+1:=by
  rw [Heap.size_update,size_push']
 have d:(((s.heap.push (seqObj "list" #[] 0)).update s.heap.objs.size (Obj.mapSeq (· ++ vs.toArray))).push (seqObj "list" vs.toArray 0)).get? (s.heap.objs.size+1)=some (seqObj "list" vs.toArray 0):=by
  rw [← hsz];exact aI5 _ rfl
 have keep:∀ b o,s.heap.get? b=some o->(((s.heap.push (seqObj "list" #[] 0)).update s.heap.objs.size (Obj.mapSeq (· ++ vs.toArray))).push (seqObj "list" vs.toArray 0)).get? b=some o:=fun b o q=>by
  have a:b < s.heap.objs.size:=aI4 q
  rw [Heap.get?_push_ne _ _ _ (by rw [hsz];exact aB5 (aF1 a)),Heap.get?_update_ne _ _ _ _ (aB5 a),Heap.get?_push_ne _ _ _ (aB5 a)]
  exact q
 show wpAny _ _ _ _ _ { s with heap:=((s.heap.push (seqObj "list" #[] 0)).update s.heap.objs.size (Obj.mapSeq (· ++ vs.toArray))).push (seqObj "list" vs.toArray 0) }
 rw [hsz]
 refine aI1 (aI6 (aJ2 slot_list_sort ⟨_,d,rfl⟩ entry_list_sort ?body (args_list_sort _)))
 case body =>
  refine af3 (s:={ s with heap:=((s.heap.push (seqObj "list" #[] 0)).update s.heap.objs.size (Obj.mapSeq (· ++ vs.toArray))).push (seqObj "list" vs.toArray 0) }) d c (fun h h' kp=>?_) fun a=>?_
  ·obtain ⟨κ,S,R,i,C,p,f⟩:=g h h' fun b o e=>kp b o (aB5 (aF1 (aI4 e))) (keep b o e)
   exact ⟨κ,S,R,i,C,p,fun out r n=>⟨_,rfl,aI2 ⟨_,rfl,f out r n⟩⟩⟩
  ·exact ⟨_,rfl,aI2 ⟨_,rfl,j a⟩⟩
end
end TS
namespace L2
open PySem PySem.Spec PyProof.Rows
def toI:V->Int
 | .int i=>i
 | _=>0
def kH (H:Hp):V->List Int
 | .ref t=>match H t with
  | some (.tup xs)=>xs.map toI
  | _=>[]
 | _=>[]
theorem axi (ns:List Int):(ns.map V.int).map toI=ns:=by
 rw [aD8]
 have:(toI ∘ V.int)=id:=by funext i;rfl
 rw [this,List.map_id]
theorem alf {H:Hp} {t:Addr} {ns:List Int} (h:H t=some (.tup (ns.map V.int))):kH H (.ref t)=ns:=by
 simp only [kH,h];exact axi ns
def TupI (H:Hp) (v:V):Prop:=∃ t ns,v=.ref t/\H t=some (.tup (ns.map V.int))/\ns ≠ []
def adf:Value->V
 | .ref a => .ref a
 | _ => .non
theorem ago:∀ {us:List Value},(∀ u∈us,∃ a,u=.ref a)->Vals (us.map adf) us
 | [],_ => .nil
 | u :: us,h=>by
  obtain ⟨a,e⟩:=h u aB7
  subst e
  exact .cons rfl (ago fun v b=>h v (aB4 _ b))
theorem agp {H:Hp}:∀ {vs:List V} {us:List Value},Vals vs us->(∀ v∈vs,TupI H v)->(∀ u∈us,∃ a,u=.ref a)/\us.map adf=vs
 | _,_,.nil,_=>⟨fun u f=>(by cases f),rfl⟩
 | v :: vs,u :: us,.cons r t,h=>by
  obtain ⟨a,ns,rfl,_,_⟩:=h v aB7
  cases r
  obtain ⟨g,c⟩:=agp t fun v d=>h v (aB4 _ d)
  refine ⟨fun x b=>?_,by rw [aD0,c];rfl⟩
  rcases aA8.mp b with rfl | b
  ·exact ⟨_,rfl⟩
  ·exact g x b
section
variable {X:Cx}
def ain (K:Frag):List V->Hp->VK->Prop:=fun xs H Q=>∃ (a:Addr) (vs:List V),xs=[.ref a]/\SqL K H a vs/\(∀ v∈vs,TupI H v) /\
 ∀ (vs':List V) (p:Addr),vs'.Perm vs->vs'.Pairwise (fun x y=>HT.lexLt (kH H y) (kH H x)=false)->H p=none->Q (.ref p) (upd H p (.lst vs'))
theorem aht {H:Hp} {pins:List (Addr × Obj)} {σ:St} {s:Shared} (I:Inv X pins σ H s) {h':Heap} (kp:∀ b o,s.heap.get? b=some o->h'.get? b=some o):∀ {vs:List V} {us:List Value},Vals vs us->(∀ v∈vs,TupI H v) ->
  (∃ fs,PySem.W.KatTups h' us fs/\fs.length=us.length/\∀ f∈fs,∃ i t,f=.int i t)/\∀ u∈us,∃ a,u=.ref a/\TS.TI h' a (kH H (.ref a))
 | _,_,.nil,_=>⟨⟨[],trivial,rfl,fun f hf=>by cases hf⟩,fun u z=>by cases z⟩
 | v :: vs,u :: us,.cons r t,h=>by
  obtain ⟨a,ns,rfl,e,j⟩:=h v aB7
  cases r
  obtain ⟨⟨fs,B,F,A⟩,D⟩:=aht I kp t fun v y=>h v (aB4 _ y)
  obtain ⟨_,its,C,o,m,e2,n,p⟩:=(show ObjOk X.prog X.w H s.heap a (.tup (ns.map V.int)) from I.hok a _ e)
  have hi:IntsAre its ns:=by simpa using (ab3 C:IntsAre its.toArray.toList ns)
  have q:TS.TI h' a (kH H (.ref a)):=⟨o,its.toArray,n,kp _ _ m,e2,p,by rw [alf e];simpa using hi⟩
  obtain ⟨f,hf,i,d,E⟩:∃ f,its.toArray[0]?=some f/\∃ i t,f=.int i t:=by
   cases hi with
   | nil=>exact absurd rfl j
   | cons i d _=>exact ⟨_,by simp,i,d,rfl⟩
  refine ⟨⟨f :: fs,PySem.W.KatTups.cons (kp _ _ m) e2 p hf B,by simp [F],fun g c=>?_⟩,fun x l=>?_⟩
  ·rcases aA8.mp c with rfl | c
   ·exact ⟨i,d,E⟩
   ·exact A g c
  ·rcases aA8.mp l with rfl | l
   ·exact ⟨a,rfl,q⟩
   ·exact D x l
theorem amo {α:Type} {R : α->α->Prop}:∀ {l:List α},l.length < 2->l.Pairwise R
 | [],_=>List.Pairwise.nil
 | [_],_=>List.pairwise_singleton _ _
 | _ :: _ :: _,h=>absurd h (by simp)
theorem ad4:abb X (.builtin "sorted") (ain X.K):=by
 intro pins s σ H xs us Q I r h
 obtain ⟨a,vs,rfl,ha,p,q⟩:=h
 obtain ⟨u,rfl,C⟩:=acm r
 cases C
 obtain ⟨its,m,L,hz⟩:=I.list ha
 obtain ⟨b1,F⟩:=agp m p
 have c:its.length<=sizeLine:=by rw [← m.length];exact hz
 have f:H (s.heap.objs.size+1)=none:=I.hok.fresh (Nat.le_succ _)
 have fin:∀ out:List Value,out.Perm its->(out.map adf).Pairwise (fun x y=>HT.lexLt (kH H y) (kH H x)=false)->EP X pins σ Q (.ref (s.heap.objs.size+1)) { s with heap:=sortedAll s.heap its out.toArray }:=by
  intro out d l
  obtain ⟨e,J⟩:=sortedAll_at s.heap its out.toArray
  have g:Vals (out.map adf) out:=ago fun u z=>b1 u (d.mem_iff.mp z)
  refine ⟨.ref (s.heap.objs.size+1),_,I.laid (t':=s.toks) (o:=.lst (out.map adf)) (fun b U q=>sortedAll_old q) (Nat.le_succ _) ?_,rfl,q _ _ ?_ l f⟩
  ·refine ⟨by rw [aA3,d.length_eq];exact c,out,e,g,by rw [J]⟩
  ·rw [← F];exact d.map adf
 refine TS.sorted_any L.isList c (fun O h' kp=>?_) fun j=>?_
 ·obtain ⟨⟨fs,E,S,B⟩,G⟩:=aht I kp m p
  have n:(Value.type "int" != Value.type "tuple")=true:=by rfl
  refine ⟨tuples' true,TS.tS h' (fun a=>kH H (.ref a)),TS.tR (fun a=>kH H (.ref a)),fun Q' w=>?_,TS.cmp_tups (s:={ s with heap:=h' }) (fun a=>kH H (.ref a)),fun v g=>?_,fun out d l=>fin out d ?_⟩
  ·refine PySem.W.kat_kind (T:=.type "int") (s:={ s with heap:=h' }) E (by omega) (fun v g=>?_) (by rfl) ?_
   ·obtain ⟨i,t,rfl⟩:=B v g
    exact .now
   ·rw [n];exact w
  ·obtain ⟨a,e,A⟩:=G v g
   exact ⟨rfl,a,e,A⟩
  ·rw [aF4]
   refine aH3 ?_ l
   intro x y M N D
   obtain ⟨R,rfl⟩:=b1 x (d.mem_iff.mp M)
   obtain ⟨P,rfl⟩:=b1 y (d.mem_iff.mp N)
   exact D
 ·refine fin its (List.Perm.refl _) ?_
  exact amo (by rw [aA3];exact j)
end
end L2
namespace HT
open PySem PySem.Spec PyProof.Rows L2
section
variable {prog:Program} {w:World} {A:Around} {kw:List (Str × Value)} {R:Result->Shared->Prop} {I S:Addr} {fp wr:List Addr} {n:Nat} {P:Nat->Value->Prop} {St:Nat->Heap->Prop} {Hd:Heap->Prop}
end
section
variable {prog:Program} {w:World} {A:Around} {E:Value->Shared->Prop} {s:Shared}
end
end HT
namespace L2
open PySem PySem.Spec PyProof.Rows
section
variable {X:Cx} {x:Str} {p pos kpos:Pos} {e en:Expr} {t:TA}
end
end L2
namespace HT
open PySem PySem.Spec PyProof.Rows
section
variable {prog:Program} {w:World} {A:Around} {E:Value->Shared->Prop} {s:Shared}
end
end HT
namespace L2
open PySem PySem.Spec PyProof.Rows
section
variable {X:Cx}
end
end L2
namespace VL
open PySem PySem.Spec L2
def kD:Key->PyData
 | .inl i => .int i
 | .inr x => .str x
mutual
inductive Rp (G:Hp):V->PyData->Prop
 | non:Rp G .non .none
 | bl (b:Bool):Rp G (.bl b) (.bool b)
 | int (i:Int):Rp G (.int i) (.int i)
 | str (x:Str):Rp G (.str x) (.str x)
 | lst {a:Addr} {xs:List V} {ds:List PyData}:G a=some (.lst xs)->Rps G xs ds->Rp G (.ref a) (.list ds)
 | tup {a:Addr} {xs:List V} {ds:List PyData}:G a=some (.tup xs)->Rps G xs ds->Rp G (.ref a) (.tuple ds)
 | dk {a:Addr} {kvs:List (Key × V)} {es:List (Key × PyData)} {ds:List (PyData × PyData)}:G a=some (.dK kvs)->RpK G kvs es->ds=es.map (fun p=>(kD p.1,p.2))->Rp G (.ref a) (.dict ds)
 | dt {a:Addr} {kvs:List (List Key × V)} {es:List (List Key × PyData)} {ds:List (PyData × PyData)}:G a=some (.dT kvs)->RpT G kvs es->ds=es.map (fun p=>(.tuple (p.1.map kD),p.2))->Rp G (.ref a) (.dict ds)
inductive Rps (G:Hp):List V->List PyData->Prop
 | nil:Rps G [] []
 | cons {v:V} {vs:List V} {d:PyData} {ds:List PyData}:Rp G v d->Rps G vs ds->Rps G (v :: vs) (d :: ds)
inductive RpK (G:Hp):List (Key × V)->List (Key × PyData)->Prop
 | nil:RpK G [] []
 | cons {k:Key} {v:V} {d:PyData} {r:List (Key × V)} {s:List (Key × PyData)}:Rp G v d->RpK G r s->RpK G ((k,v) :: r) ((k,d) :: s)
inductive RpT (G:Hp):List (List Key × V)->List (List Key × PyData)->Prop
 | nil:RpT G [] []
 | cons {k:List Key} {v:V} {d:PyData} {r:List (List Key × V)} {s:List (List Key × PyData)}:Rp G v d->RpT G r s->RpT G ((k,v) :: r) ((k,d) :: s)
end
mutual
theorem Rp.same {G G':Hp} (s:Same G G'):∀ {v:V} {d:PyData},Rp G v d->Rp G' v d
 | _,_,.non => .non
 | _,_,.bl b => .bl b
 | _,_,.int i => .int i
 | _,_,.str x => .str x
 | _,_,.lst h r => .lst (s _ _ h) (Rps.same s r)
 | _,_,.tup h r => .tup (s _ _ h) (Rps.same s r)
 | _,_,.dk h r e => .dk (s _ _ h) (RpK.same s r) e
 | _,_,.dt h r e => .dt (s _ _ h) (RpT.same s r) e
theorem Rps.same {G G':Hp} (s:Same G G'):∀ {vs:List V} {ds:List PyData},Rps G vs ds->Rps G' vs ds
 | _,_,.nil => .nil
 | _,_,.cons r t => .cons (Rp.same s r) (Rps.same s t)
theorem RpK.same {G G':Hp} (s:Same G G'):∀ {vs:List (Key × V)} {ds:List (Key × PyData)},RpK G vs ds->RpK G' vs ds
 | _,_,.nil => .nil
 | _,_,.cons r t => .cons (Rp.same s r) (RpK.same s t)
theorem RpT.same {G G':Hp} (s:Same G G'):∀ {vs:List (List Key × V)} {ds:List (List Key × PyData)},RpT G vs ds->RpT G' vs ds
 | _,_,.nil => .nil
 | _,_,.cons r t => .cons (Rp.same s r) (RpT.same s t)
end
theorem Rps.length {G:Hp}:∀ {vs:List V} {ds:List PyData},Rps G vs ds->vs.length=ds.length
 | _,_,.nil=>rfl
 | _,_,.cons _ t=>by simp [Rps.length t]
theorem Rps.get {G:Hp}:∀ {vs:List V} {ds:List PyData} {i:Nat} {d:PyData},Rps G vs ds->ds[i]?=some d->∃ v,vs[i]?=some v/\Rp G v d
 | _,_,_,_,.nil,e=>by simp at e
 | _,_,0,_,.cons r _,e=>by simp at e;subst e;exact ⟨_,rfl,r⟩
 | _,_,i+1,d,.cons _ t,e=>by
  obtain ⟨u,b,a⟩:=Rps.get (i:=i) (d:=d) t (by simpa using e)
  exact ⟨u,by simpa using b,a⟩
theorem Rps.append {G:Hp}:∀ {vs a:List V} {ds es:List PyData},Rps G vs ds->Rps G a es->Rps G (vs ++ a) (ds ++ es)
 | _,_,_,_,.nil,s=>s
 | _,_,_,_,.cons r t,s => .cons r (Rps.append t s)
theorem Rps.set {G:Hp} {v:V} {d:PyData} (h:Rp G v d):∀ {vs:List V} {ds:List PyData} (i:Nat),Rps G vs ds->Rps G (vs.set i v) (ds.set i d)
 | _,_,_,.nil => .nil
 | _,_,0,.cons _ t => .cons h t
 | _,_,i+1,.cons r t => .cons r (Rps.set h i t)
theorem Rps.erase {G:Hp}:∀ {vs:List V} {ds:List PyData} (i:Nat),Rps G vs ds->Rps G (vs.eraseIdx i) (ds.eraseIdx i)
 | _,_,_,.nil => .nil
 | _,_,0,.cons _ t=>t
 | _,_,i+1,.cons r t => .cons r (Rps.erase i t)
theorem Rps.take {G:Hp}:∀ {vs:List V} {ds:List PyData} (i:Nat),Rps G vs ds->Rps G (vs.take i) (ds.take i)
 | _,_,0,_ => .nil
 | _,_,_+1,.nil => .nil
 | _,_,i+1,.cons r t => .cons r (Rps.take i t)
theorem Rps.drop {G:Hp}:∀ {vs:List V} {ds:List PyData} (i:Nat),Rps G vs ds->Rps G (vs.drop i) (ds.drop i)
 | _,_,0,r=>r
 | _,_,_+1,.nil => .nil
 | _,_,i+1,.cons _ t=>Rps.drop i t
theorem Rps.rep {G:Hp} {vs:List V} {ds:List PyData} (h:Rps G vs ds):∀ (k:Nat),Rps G (List.replicate k vs).flatten (List.replicate k ds).flatten
 | 0 => .nil
 | k+1=>by
  rw [aG6,aG6,List.flatten_cons,List.flatten_cons]
  exact h.append (Rps.rep h k)
theorem Rps.ints {G:Hp}:∀ (ns:List Int),Rps G (ns.map V.int) (ns.map PyData.int)
 | [] => .nil
 | n :: ns => .cons (.int n) (Rps.ints ns)
theorem Rps.ints_inv {G:Hp}:∀ {ns:List Int} {vs:List V},Rps G vs (ns.map PyData.int)->vs=ns.map V.int
 | [],_,.nil=>rfl
 | n :: ns,_,.cons r t=>by
  cases r
  rw [Rps.ints_inv t];rfl
mutual
theorem Rp.rep {G:Hp}:∀ {v:V} {d:PyData},Rp G v d->aas d=true->Rep G v d
 | _,_,.non,_ => .non
 | _,_,.bl b,_ => .bl b
 | _,_,.int i,_ => .int i
 | _,_,.str x,_ => .str x
 | _,_,.lst h r,p => .lst h (Rps.reps r (by simpa [aas] using p))
 | _,_,.tup h r,p => .tup h (Rps.reps r (by simpa [aas] using p))
 | _,_,.dk h r e,p=>by simp [aas] at p
 | _,_,.dt h r e,p=>by simp [aas] at p
theorem Rps.reps {G:Hp}:∀ {vs:List V} {ds:List PyData},Rps G vs ds->plainDs ds=true->Reps G vs ds
 | _,_,.nil,_ => .nil
 | _,_,.cons r t,p=>by
  simp only [plainDs,aG4] at p
  exact .cons (Rp.rep r p.1) (Rps.reps t p.2)
end
structure Own where
 P:Hp->Hp->V->(Addr->Prop)->Prop
 mono:∀ {G H G' H':Hp} {v:V} {F:Addr->Prop},P G H v F->Same G G'->(∀ a o,F a->H a=some o->H' a=some o)->P G' H' v F
 dom:∀ {G H:Hp} {v:V} {F:Addr->Prop},P G H v F->∀ a,F a->∃ o,H a=some o
inductive Sl where
 | st (d:PyData) | own (A:Own) | io (A:Own) | scr (ns:List Int)
abbrev En:=List (Option Sl)
structure Bs where
 K:Frag
 G:Hp
 H:Hp
 R:Hp
 S:St
 F:Nat->Addr->Prop
def SlOk (B:Bs) (G H:Hp) (i:Nat) (v:V) (F:Addr->Prop):Sl->Prop
 | .st d=>Rp G v d/\∀ a,¬ F a
 | .own A=>A.P G H v F/\∀ a,F a->B.H a=none
 | .io A=>A.P G H v F/\(∀ a,F a->B.F i a\/B.H a=none)/\B.S[i]?=some (some v)
 | .scr ns=>(∃ a,v=.ref a/\SqL B.K G a (ns.map V.int))/\∀ a,¬ F a
def FT (G H:Hp):Prop:=∀ (a:Addr) (ks:List Key),H a=some (.tup (ks.map kV))->G a=some (.tup (ks.map kV))
structure VI (B:Bs) (G H:Hp) (σ:St) (env:En) (F:Nat->Addr->Prop):Prop where
 gh:Same G H
 g0:Same B.G G
 gn:∀ a o,G a=some o->B.G a=some o\/B.H a=none
 rs:Same B.R H
 rb:Same B.R B.H
 bh:∀ a o,B.H a=some o->∃ o',H a=some o'
 fg:∀ i a,F i a->G a=none
 fr:∀ i a,F i a->B.R a=none
 fd:∀ i j a,F i a->F j a->i=j
 fo:∀ i a,F i a->∃ o,H a=some o
 sl:∀ i s,env[i]?=some (some s)->∃ v,σ[i]?=some (some v)/\SlOk B G H i v (F i) s
 ln : σ.length=env.length
 ft:FT G H
def RsOk (G H:Hp) (v:V) (F:Addr->Prop):Sl->Prop
 | .st d=>Rp G v d/\∀ a,¬ F a
 | .own A=>A.P G H v F
 | _=>False
structure RsX (B:Bs) (G H:Hp) (v:V) (Fv:Addr->Prop) (s:Sl) (F:Nat->Addr->Prop):Prop where
 ok:RsOk G H v Fv s
 fb:∀ a,Fv a->B.H a=none
 fg:∀ a,Fv a->G a=none
 fo:∀ a,Fv a->∃ o,H a=some o
 fd:∀ j a,Fv a->¬ F j a
structure Out (G H:Hp) (v:V) (G' H':Hp) (s:Sl) (Fv:Addr->Prop):Prop where
 gg:Same G G'
 gh:Same G' H'
 hh:Same H H'
 gn:∀ a o,G' a=some o->G a=some o\/H a=none
 fn:∀ a,Fv a->H a=none
 fg:∀ a,Fv a->G' a=none
 fo:∀ a,Fv a->∃ o,H' a=some o
 ok:RsOk G' H' v Fv s
 ft:FT G H->FT G' H'
theorem aqd {α:Type} {o:Option α} (h:o ≠ none):∃ x,o=some x:=by
 cases o with
 | none=>exact absurd rfl h
 | some x=>exact ⟨x,rfl⟩
theorem SlOk.mono {B:Bs} {G H G' H':Hp} {i:Nat} {v:V} {F:Addr->Prop} {s:Sl} (h:SlOk B G H i v F s) (g:Same G G') (hh:∀ a o,F a->H a=some o->H' a=some o):SlOk B G' H' i v F s:=by
 cases s with
 | st d=>exact ⟨h.1.same g,h.2⟩
 | own A=>exact ⟨A.mono h.1 g hh,h.2⟩
 | io A=>exact ⟨A.mono h.1 g hh,h.2⟩
 | scr ns =>
  obtain ⟨⟨a,e,q⟩,n⟩:=h
  exact ⟨⟨a,e,g.seq q⟩,n⟩
section
variable {B:Bs} {G H G' H':Hp} {σ:St} {env:En} {F:Nat->Addr->Prop} {v:V} {s:Sl} {Fv:Addr->Prop}
theorem VI.no_r (I:VI B G H σ env F) {a:Addr} (h:H a=none):B.R a=none:=by
 cases e:B.R a with
 | none=>rfl
 | some o=>rw [I.rs a o e] at h;cases h
theorem VI.no_b (I:VI B G H σ env F) {a:Addr} (h:H a=none):B.H a=none:=by
 cases e:B.H a with
 | none=>rfl
 | some o=>obtain ⟨o',b⟩:=I.bh a o e;rw [b] at h;cases h
theorem VI.no_g (I:VI B G H σ env F) {a:Addr} (h:H a=none):G a=none:=by
 cases e:G a with
 | none=>rfl
 | some o=>rw [I.gh a o e] at h;cases h
theorem VI.no_f (I:VI B G H σ env F) {a:Addr} (h:H a=none) (i:Nat):¬ F i a:=fun z=>by
 obtain ⟨o,e⟩:=I.fo i a z;rw [e] at h;cases h
theorem VI.grow (I:VI B G H σ env F) (gg:Same G G') (gh:Same G' H') (hh:Same H H') (gn:∀ a o,G' a=some o->G a=some o\/H a=none) (ft:FT G' H'):VI B G' H' σ env F where
 gh:=gh
 g0:=I.g0.trans gg
 gn:=fun a o e=>by
  rcases gn a o e with e | e
  ·exact I.gn a o e
  ·exact .inr (I.no_b e)
 rs:=I.rs.trans hh
 rb:=I.rb
 bh:=fun a o e=>by obtain ⟨o',c⟩:=I.bh a o e;exact ⟨o',hh _ _ c⟩
 fg:=fun i a z=>by
  cases e:G' a with
  | none=>rfl
  | some o =>
   rcases gn a o e with e | e
   ·rw [I.fg i a z] at e;cases e
   ·exact absurd z (I.no_f e i)
 fr:=I.fr
 fd:=I.fd
 fo:=fun i a z=>by obtain ⟨o,e⟩:=I.fo i a z;exact ⟨o,hh _ _ e⟩
 sl:=fun i s e=>by
  obtain ⟨v,b,e2⟩:=I.sl i s e
  exact ⟨v,b,e2.mono gg fun a o _ q=>hh _ _ q⟩
 ln:=I.ln
 ft:=ft
theorem VI.out (I:VI B G H σ env F) (o:Out G H v G' H' s Fv):VI B G' H' σ env F/\RsX B G' H' v Fv s F :=
 ⟨I.grow o.gg o.gh o.hh o.gn (o.ft I.ft),o.ok,fun a z=>I.no_b (o.fn a z),o.fg,o.fo,fun j a z y=>I.no_f (o.fn a z) j y⟩
theorem VI.b_r (I:VI B G H σ env F) {a:Addr} (h:B.H a=none):B.R a=none:=by
 cases e:B.R a with
 | none=>rfl
 | some o=>rw [I.rb a o e] at h;cases h
def putF (F:Nat->Addr->Prop) (i:Nat) (Fv:Addr->Prop):Nat->Addr->Prop:=fun j a=>if j=i then Fv a else F j a
theorem putF_same {i:Nat} {a:Addr}:putF F i Fv i a ↔ Fv a:=by unfold putF;rw [aE8 rfl]
theorem afe {i:Nat}:putF F i Fv i=Fv:=by funext a;unfold putF;rw [aE8 rfl]
theorem aa9 {i j:Nat} (h:j ≠ i):putF F i Fv j=F j:=by funext a;unfold putF;rw [aE9 h]
theorem VI.slot (I:VI B G H σ env F) (i:Nat) (o:Option V) (os:Option Sl) (fg:∀ a,Fv a->G a=none) (fr:∀ a,Fv a->B.R a=none) (fo:∀ a,Fv a->∃ o,H a=some o) (fd:∀ j a,j ≠ i->Fv a->¬ F j a)
  (ok:∀ s,os=some s->∃ v,o=some v/\SlOk B G H i v Fv s):VI B G H (σ.set i o) (env.set i os) (putF F i Fv) where
 gh:=I.gh
 g0:=I.g0
 gn:=I.gn
 rs:=I.rs
 rb:=I.rb
 bh:=I.bh
 fg:=fun j a z=>by
  by_cases h:j=i
  ·subst h;exact fg a (putF_same.mp z)
  ·rw [aa9 h] at z;exact I.fg j a z
 fr:=fun j a z=>by
  by_cases h:j=i
  ·subst h;exact fr a (putF_same.mp z)
  ·rw [aa9 h] at z;exact I.fr j a z
 fd:=fun j k a y z=>by
  by_cases h:j=i
  ·by_cases g:k=i
   ·rw [h,g]
   ·subst h;rw [aa9 g] at z;exact absurd z (fd k a g (putF_same.mp y))
  ·by_cases g:k=i
   ·subst g;rw [aa9 h] at y;exact absurd y (fd j a h (putF_same.mp z))
   ·rw [aa9 h] at y;rw [aa9 g] at z;exact I.fd j k a y z
 fo:=fun j a z=>by
  by_cases h:j=i
  ·subst h;exact fo a (putF_same.mp z)
  ·rw [aa9 h] at z;exact I.fo j a z
 sl:=fun j t e=>by
  by_cases h:j=i
  ·subst h
   rw [aD1,aE8 rfl] at e
   by_cases hl:j < env.length
   ·rw [aE8 hl] at e
    obtain ⟨v,b,q⟩:=ok t (aC5 e)
    refine ⟨v,by rw [aD1,aE8 rfl,aE8 (by rw [I.ln];exact hl),b],?_⟩
    rw [afe];exact q
   ·rw [aE9 hl] at e;cases e
  ·rw [aD1,aE9 (fun z=>h z.symm)] at e
   obtain ⟨v,b,q⟩:=I.sl j t e
   refine ⟨v,by rw [aD1,aE9 (fun z=>h z.symm)];exact b,?_⟩
   rw [aa9 h];exact q
 ln:=by simp [I.ln]
 ft:=I.ft
theorem VI.store (I:VI B G H σ env F) (r:RsX B G H v Fv s F) (i:Nat):VI B G H (σ.set i (some v)) (env.set i (some s)) (putF F i Fv):=by
 refine I.slot i (some v) (some s) r.fg (fun a z=>I.b_r (r.fb a z)) r.fo (fun j a _ z=>r.fd j a z) fun t e=>?_
 cases e
 refine ⟨v,rfl,?_⟩
 have:=r.ok
 cases s with
 | st d=>exact this
 | own A=>exact ⟨this,r.fb⟩
 | io A=>exact this.elim
 | scr ns=>exact this.elim
theorem VI.drop (I:VI B G H σ env F) (i:Nat):VI B G H σ (env.set i none) (putF F i fun _=>False):=by
 have:=I.slot (Fv:=fun _=>False) i ((σ[i]?).getD none) none (fun a z=>z.elim) (fun a z=>z.elim) (fun a z=>z.elim) (fun j a _ z=>z.elim) (fun s e=>by cases e)
 rwa [show σ.set i ((σ[i]?).getD none) = σ from ?_] at this
 apply aF5
 intro j
 rw [aD1]
 by_cases h:i=j
 ·subst h
  rw [aE8 rfl]
  by_cases hl:i < σ.length
  ·rw [aE8 hl,aA0 hl];rfl
  ·rw [aE9 hl,aF0.mpr (by omega)]
 ·rw [aE9 h]
theorem VI.change {A:Own} (I:VI B G H σ env F) (i:Nat) {H2:Hp} {F2:Addr->Prop} {os os':Sl} (e:env[i]?=some (some os)) (g : σ[i]?=some (some v))
  (keep:∀ a o,¬ F i a->H a=some o->H2 a=some o) (n:∀ a o,H a=some o->∃ o',H2 a=some o') (c:∀ a,F2 a->(F i a\/H a=none)/\∃ o,H2 a=some o) (m:A.P G H2 v F2) (K:FT G H2)
  (w:(os'=.own A/\∃ d,os=.own d)\/(os'=.io A/\∃ d,os=.io d)):VI B G H2 σ (env.set i (some os')) (putF F i F2):=by
 obtain ⟨Q,f,q⟩:=I.sl i os e
 rw [g] at f;cases f
 have p:∀ j a,j ≠ i->F j a->¬ F i a:=fun j a b y z=>b (I.fd j i a y z)
 have L:∀ a,F2 a->G a=none:=fun a z=>by
  rcases (c a z).1 with y | y
  ·exact I.fg i a y
  ·exact I.no_g y
 have J:VI B G H2 σ (env.set i none) (putF F i fun _=>False):=by
  have D:=I.drop i
  refine ⟨fun a o x=>keep a o (fun z=>by rw [I.fg i a z] at x;cases x) (I.gh a o x),D.g0,D.gn,fun a o x=>keep a o (fun z=>by rw [I.fr i a z] at x;cases x) (I.rs a o x),D.rb,fun a o x=>?_,D.fg,D.fr,D.fd,fun j a z=>?_,fun j s x=>?_,D.ln,K⟩
  ·obtain ⟨o',N⟩:=I.bh a o x
   exact n a o' N
  ·obtain ⟨o,x⟩:=D.fo j a z
   exact n a o x
  ·obtain ⟨u,C,E⟩:=D.sl j s x
   refine ⟨u,C,E.mono (Same.refl G) fun a o z y=>?_⟩
   by_cases b:j=i
   ·subst b;exact (putF_same.mp z).elim
   ·rw [aa9 b] at z
    exact keep a o (p j a b z) y
 have l:=J.slot (Fv:=F2) i (some v) (some os') L (fun a z=>by
   rcases (c a z).1 with y | y
   ·exact I.fr i a y
   ·exact I.no_r y) (fun a z=>(c a z).2) (fun j a b z y=>by
   rw [aa9 b] at y
   rcases (c a z).1 with x | x
   ·exact p j a b y x
   ·exact I.no_f x j y) fun t M=>by
   cases M
   refine ⟨v,rfl,?_⟩
   rcases w with ⟨rfl,d,rfl⟩ | ⟨rfl,d,rfl⟩
   ·refine ⟨m,fun a z=>?_⟩
    rcases (c a z).1 with y | y
    ·exact q.2 a y
    ·exact I.no_b y
   ·refine ⟨m,fun a z=>?_,q.2.2⟩
    rcases (c a z).1 with y | y
    ·exact q.2.1 a y
    ·exact .inr (I.no_b y)
 have r : σ.set i (some v) = σ:=by
  apply aF5
  intro j
  rw [aD1]
  by_cases h:i=j
  ·subst h
   rw [aE8 rfl,g,aE8 (aA1.mp g).1]
  ·rw [aE9 h]
 have e2:(env.set i none).set i (some os')=env.set i (some os'):=by simp
 have O:putF (putF F i fun _=>False) i F2=putF F i F2:=by
  funext j a
  by_cases h:j=i
  ·subst h;rw [afe,afe]
  ·rw [aa9 h,aa9 h,aa9 h]
 rw [r,e2,O] at l
 exact l
end
open Classical in
def jn (G H:Hp) (F:Addr->Prop):Hp:=fun a=>if F a then H a else G a
theorem adg {G H:Hp} {F:Addr->Prop} {a:Addr} (h:F a):jn G H F a=H a:=aE8 h
theorem aio {G H:Hp} {F:Addr->Prop} {a:Addr} (h:¬ F a):jn G H F a=G a:=aE9 h
theorem abk {G H:Hp} {F:Addr->Prop} (h:∀ a,F a->G a=none):Same G (jn G H F):=fun a o e=>by
 rw [aio (fun z=>by rw [h a z] at e;cases e)];exact e
theorem alg {G H:Hp} {F:Addr->Prop} (h:Same G H):Same (jn G H F) H:=fun a o e=>by
 by_cases z:F a
 ·rw [adg z] at e;exact e
 ·rw [aio z] at e;exact h a o e
def Frz (A:Own) (d:PyData):Prop:=∀ (G H:Hp) (v:V) (F:Addr->Prop),A.P G H v F->(∀ a,F a->G a=none)->Same G H->Rp (jn G H F) v d
def FQ:Sl->(PyData->Prop)->Prop
 | .st d,R=>R d
 | .own A,R=>∃ d,Frz A d/\R d
 | _,_=>False
def OL (ds:List PyData):Own where
 P:=fun G H v F=>∃ a vs,v=.ref a/\H a=some (.lst vs)/\Rps G vs ds/\∀ b,F b ↔ b=a
 mono:=fun ⟨a,vs,e,h,r,f⟩ g hh=>⟨a,vs,e,hh a _ ((f a).mpr rfl) h,r.same g,f⟩
 dom:=fun ⟨a,vs,e,h,r,f⟩ b z=>by rw [(f b).mp z];exact ⟨_,h⟩
def OD (es:List (Key × PyData)):Own where
 P:=fun G H v F=>∃ a kvs,v=.ref a/\H a=some (.dK kvs)/\RpK G kvs es/\∀ b,F b ↔ b=a
 mono:=fun ⟨a,vs,e,h,r,f⟩ g hh=>⟨a,vs,e,hh a _ ((f a).mpr rfl) h,r.same g,f⟩
 dom:=fun ⟨a,vs,e,h,r,f⟩ b z=>by rw [(f b).mp z];exact ⟨_,h⟩
def OT (es:List (List Key × PyData)):Own where
 P:=fun G H v F=>∃ a kvs,v=.ref a/\H a=some (.dT kvs)/\RpT G kvs es/\∀ b,F b ↔ b=a
 mono:=fun ⟨a,vs,e,h,r,f⟩ g hh=>⟨a,vs,e,hh a _ ((f a).mpr rfl) h,r.same g,f⟩
 dom:=fun ⟨a,vs,e,h,r,f⟩ b z=>by rw [(f b).mp z];exact ⟨_,h⟩
theorem ac0 {ds:List PyData}:Frz (OL ds) (.list ds):=fun G H v F ⟨a,vs,e,h,r,f⟩ n g=>by
 subst e
 exact .lst (by rw [adg ((f a).mpr rfl)];exact h) (r.same (abk n))
theorem azv {es:List (Key × PyData)}:Frz (OD es) (.dict (es.map fun p=>(kD p.1,p.2))):=fun G H v F ⟨a,vs,e,h,r,f⟩ n g=>by
 subst e
 exact .dk (by rw [adg ((f a).mpr rfl)];exact h) (r.same (abk n)) rfl
theorem alh {d:PyData} {R:PyData->Prop} (h:R d):FQ (.st d) R:=h
theorem ac5 {ds:List PyData} {R:PyData->Prop} (h:R (.list ds)):FQ (.own (OL ds)) R:=⟨_,ac0,h⟩
section
variable {B:Bs} {G H G' H':Hp} {σ:St} {env:En} {F:Nat->Addr->Prop} {v:V} {s:Sl} {Fv:Addr->Prop}
theorem VI.freeze (I:VI B G H σ env F) (fb:∀ a,Fv a->B.H a=none) (fd:∀ j a,Fv a->¬ F j a) (fg:∀ a,Fv a->G a=none):VI B (jn G H Fv) H σ env F where
 gh:=alg I.gh
 g0:=I.g0.trans (abk fg)
 gn:=fun a o e=>by
  by_cases z:Fv a
  ·exact .inr (fb a z)
  ·rw [aio z] at e;exact I.gn a o e
 rs:=I.rs
 rb:=I.rb
 bh:=I.bh
 fg:=fun i a z=>by
  rw [aio (fun y=>fd i a y z)];exact I.fg i a z
 fr:=I.fr
 fd:=I.fd
 fo:=I.fo
 sl:=fun i s e=>by
  obtain ⟨v,b,e2⟩:=I.sl i s e
  exact ⟨v,b,e2.mono (abk fg) fun a o _ q=>q⟩
 ln:=I.ln
 ft:=fun a c e=>abk fg _ _ (I.ft a c e)
theorem VI.frz {A:Own} {d:PyData} {i:Nat} (I:VI B G H σ env F) (e:env[i]?=some (some (.own A))) (f:Frz A d) :
  ∃ v,σ[i]?=some (some v)/\Rp (jn G H (F i)) v d/\Same G (jn G H (F i))/\VI B (jn G H (F i)) H σ (env.set i (some (.st d))) (putF F i fun _=>False):=by
 obtain ⟨v,b,q⟩:=I.sl i _ e
 have c:=f G H v (F i) q.1 (I.fg i) I.gh
 refine ⟨v,b,c,abk (I.fg i),?_⟩
 have D:=(I.drop i).freeze (Fv:=F i) q.2 (fun j a z y=>by
  by_cases h:j=i
  ·subst h;exact (putF_same.mp y).elim
  ·rw [aa9 h] at y;exact h (I.fd j i a y z)) (I.fg i)
 have J:=D.slot (Fv:=fun _=>False) i (some v) (some (.st d)) (fun a z=>z.elim) (fun a z=>z.elim) (fun a z=>z.elim) (fun j a _ z=>z.elim) (fun t l=>by cases l;exact ⟨v,rfl,c,fun a z=>z⟩)
 have g : σ.set i (some v) = σ:=by
  apply aF5
  intro j
  rw [aD1]
  by_cases h:i=j
  ·subst h
   rw [aE8 rfl,b,aE8 (aA1.mp b).1]
  ·rw [aE9 h]
 have m:putF (putF F i fun _=>False) i (fun _=>False)=putF F i fun _=>False:=by
  funext j a
  by_cases h:j=i
  ·subst h;rw [afe,afe]
  ·rw [aa9 h,aa9 h]
 rw [g,m,List.set_set] at J
 exact J
theorem Out.refl {d:PyData} (g:Same G H) (r:Rp G v d):Out G H v G H (.st d) (fun _=>False):=⟨Same.refl _,g,Same.refl _,fun a o e => .inl e,fun a z=>z.elim,fun a z=>z.elim,fun a z=>z.elim,⟨r,fun a z=>z⟩,fun t=>t⟩
theorem axj {p:Addr} {o:HO} (g:Same G H) (h:H p=none):Same (upd G p o) (upd H p o):=fun a u e=>by
 by_cases z:a=p
 ·subst z;rw [aaf] at e ⊢;exact e
 ·rw [aae z] at e ⊢;exact g a u e
theorem abd {p:Addr} (g:Same G H) (h:H p=none):G p=none:=by
 cases e:G p with
 | none=>rfl
 | some o=>rw [g p o e] at h;cases h
theorem Out.newT {p:Addr} {xs:List V} {ds:List PyData} (g:Same G H) (h:H p=none) (r:Rps G xs ds):Out G H (.ref p) (upd G p (.tup xs)) (upd H p (.tup xs)) (.st (.tuple ds)) (fun _=>False) where
 gg:=abn (abd g h)
 gh:=axj g h
 hh:=abn h
 gn:=fun a o e=>by
  by_cases z:a=p
  ·subst z;exact .inr h
  ·rw [aae z] at e;exact .inl e
 fn:=fun a z=>z.elim
 fg:=fun a z=>z.elim
 fo:=fun a z=>z.elim
 ok:=⟨.tup aaf (r.same (abn (abd g h))),fun a z=>z⟩
 ft:=fun t a b e=>by
  by_cases z:a=p
  ·subst z;rw [aaf] at e ⊢;exact e
  ·rw [aae z] at e ⊢;exact t a b e
theorem Out.newO {p:Addr} {o:HO} {A:Own} (g:Same G H) (h:H p=none) (b:∀ xs,o ≠ .tup xs) (r:A.P G (upd H p o) (.ref p) (· = p)):Out G H (.ref p) G (upd H p o) (.own A) (· = p) where
 gg:=Same.refl _
 gh:=g.trans (abn h)
 hh:=abn h
 gn:=fun a o e => .inl e
 fn:=fun a z=>by rw [z];exact h
 fg:=fun a z=>by rw [z];exact abd g h
 fo:=fun a z=>by rw [z];exact ⟨_,aaf⟩
 ok:=r
 ft:=fun t a c e=>by
  by_cases z:a=p
  ·subst z;rw [aaf] at e;exact absurd (aC5 e) (b _)
  ·rw [aae z] at e;exact t a c e
theorem Out.newL {p:Addr} {xs:List V} {ds:List PyData} (g:Same G H) (h:H p=none) (r:Rps G xs ds):Out G H (.ref p) G (upd H p (.lst xs)) (.own (OL ds)) (· = p) :=
 .newO g h (fun _ z=>nomatch z) ⟨p,xs,rfl,aaf,r,fun b=>Iff.rfl⟩
theorem Out.newD {p:Addr} {xs:List (Key × V)} {ds:List (Key × PyData)} (g:Same G H) (h:H p=none) (r:RpK G xs ds):Out G H (.ref p) G (upd H p (.dK xs)) (.own (OD ds)) (· = p) :=
 .newO g h (fun _ z=>nomatch z) ⟨p,xs,rfl,aaf,r,fun b=>Iff.rfl⟩
theorem Out.newDT {p:Addr} {xs:List (List Key × V)} {ds:List (List Key × PyData)} (g:Same G H) (h:H p=none) (r:RpT G xs ds):Out G H (.ref p) G (upd H p (.dT xs)) (.own (OT ds)) (· = p) :=
 .newO g h (fun _ z=>nomatch z) ⟨p,xs,rfl,aaf,r,fun b=>Iff.rfl⟩
end
def EvO (B:Bs) (te:TE) (env:En) (Q':Sl->En->Prop):Prop:=∀ (σ:St) (G H:Hp) (F:Nat->Addr->Prop) (Q:VK),VI B G H σ env F ->
 (∀ v G' H' F' Fv s env',VI B G' H' σ env' F'->Same G G'->RsX B G' H' v Fv s F'->Q' s env'->Q v H')->te σ H Q
def Ev (B:Bs) (te:TE) (env:En) (Q':PyData->En->Prop):Prop:=∀ (σ:St) (G H:Hp) (F:Nat->Addr->Prop) (Q:VK),VI B G H σ env F ->
 (∀ v G' H' F' d env',VI B G' H' σ env' F'->Same G G'->Rp G' v d->Q' d env'->Q v H')->te σ H Q
def EvT (B:Bs) (tt:TT) (env:En) (Q':Bool->En->Prop):Prop:=∀ (σ:St) (G H:Hp) (F:Nat->Addr->Prop) (Q:Bool->Hp->Prop),VI B G H σ env F ->
 (∀ b G' H' F' env',VI B G' H' σ env' F'->Same G G'->Q' b env'->Q b H')->tt σ H Q
def EvA (B:Bs) (ta:TA) (env:En) (Q':List PyData->En->Prop):Prop:=∀ (σ:St) (G H:Hp) (F:Nat->Addr->Prop) (Q:List V->Hp->Prop),VI B G H σ env F ->
 (∀ vs G' H' F' ds env',VI B G' H' σ env' F'->Same G G'->Rps G' vs ds->Q' ds env'->Q vs H')->ta σ H Q
structure ItOk (G:Hp) (J:It) (ds:List PyData):Prop where
 go:∀ i G' H',Same G G'->Same G' H'->i < ds.length->J.go i H'
 stop:∀ i G' H',Same G G'->Same G' H'->i=ds.length->J.stop i H'
 yld:∀ i G' H' x H'' d,Same G G'->Same G' H'->FT G' H'->ds[i]?=some d->J.yld i H' x H''->∃ G'',Out G' H' x G'' H'' (.st d) (fun _=>False)
def EvI (B:Bs) (ti:TI) (env:En) (Q':List PyData->En->Prop):Prop:=∀ (σ:St) (G H:Hp) (F:Nat->Addr->Prop) (R:It->Hp->Prop),VI B G H σ env F ->
 (∀ J G' H' F' ds env',VI B G' H' σ env' F'->Same G G'->ItOk G' J ds->Q' ds env'->R J H')->ti σ H R
def EvG (B:Bs) (g:TG) (s:Sl) (env:En) (Q':En->Prop):Prop:=∀ (σ:St) (G H:Hp) (F:Nat->Addr->Prop) (v:V) (Fv:Addr->Prop) (Q:St->Hp->Prop),VI B G H σ env F->RsX B G H v Fv s F ->
 (∀ σ' G' H' F' env',VI B G' H' σ' env' F'->Same G G'->Q' env'->Q σ' H')->g v σ H Q
def EvGs (B:Bs) (g:TGs) (ds:List PyData) (env:En) (Q':En->Prop):Prop:=∀ (σ:St) (G H:Hp) (F:Nat->Addr->Prop) (vs:List V) (Q:St->Hp->Prop),VI B G H σ env F->Rps G vs ds ->
 (∀ σ' G' H' F' env',VI B G' H' σ' env' F'->Same G G'->Q' env'->Q σ' H')->g vs σ H Q
structure VEnds where
 nx:En->Prop
 rt:Sl->En->Prop
 bk:En->Prop:=fun _=>False
 ct:En->Prop:=fun _=>False
structure RelE (B:Bs) (G:Hp) (D:Ends) (D':VEnds):Prop where
 nx:∀ σ G' H F env,VI B G' H σ env F->Same G G'->D'.nx env->D.nx σ H
 rt:∀ σ G' H F env v Fv s,VI B G' H σ env F->Same G G'->RsX B G' H v Fv s F->D'.rt s env->D.rt v H
 bk:∀ σ G' H F env,VI B G' H σ env F->Same G G'->D'.bk env->D.bk σ H
 ct:∀ σ G' H F env,VI B G' H σ env F->Same G G'->D'.ct env->D.ct σ H
def EvS (B:Bs) (ts:TS) (D':VEnds) (env:En):Prop:=∀ (σ:St) (G H:Hp) (F:Nat->Addr->Prop) (D:Ends),VI B G H σ env F->RelE B G D D'->ts D σ H
theorem RelE.later {B:Bs} {G G':Hp} {D:Ends} {D':VEnds} (r:RelE B G D D') (g:Same G G'):RelE B G' D D' :=
 ⟨fun σ a H F env I q=>r.nx σ a H F env I (g.trans q),fun σ a H F env v Fv s I q=>r.rt σ a H F env v Fv s I (g.trans q),fun σ a H F env I q=>r.bk σ a H F env I (g.trans q),fun σ a H F env I q=>r.ct σ a H F env I (g.trans q)⟩
section
variable {B:Bs} {env:En} {Q':PyData->En->Prop} {QO:Sl->En->Prop} {QT:Bool->En->Prop} {QA:List PyData->En->Prop} {te ta tb:TE}
theorem aen {G H:Hp} {v:V} {d:PyData} {F:Nat->Addr->Prop} (r:Rp G v d):RsX B G H v (fun _=>False) (.st d) F:=⟨⟨r,fun a z=>z⟩,fun a z=>z.elim,fun a z=>z.elim,fun a z=>z.elim,fun j a z=>z.elim⟩
theorem aa5 (h:Ev B te env fun d e=>QO (.st d) e):EvO B te env QO:=fun σ G H F Q I k =>
 h σ G H F Q I fun v G' H' F' d a b g r q=>k v G' H' F' _ (.st d) a b g (aen r) q
theorem abo (h:EvO B te env fun s e=>FQ s fun d=>Q' d e):Ev B te env Q':=fun σ G H F Q I k =>
 h σ G H F Q I fun v G' H' F' Fv s a b g r q=>by
  cases s with
  | st d=>exact k v G' H' F' d a b g r.ok.1 q
  | own A =>
   obtain ⟨d,f,q⟩:=q
   exact k v _ H' F' d a (b.freeze r.fb r.fd r.fg) (g.trans (abk r.fg)) (f G' H' v Fv r.ok r.fg b.gh) q
  | io A=>exact q.elim
  | scr ns=>exact q.elim
theorem azw {i:Nat} {d:PyData} (e:env[i]?=some (some (.st d))) (q:Q' d env):Ev B (tVar i) env Q':=fun σ G H F Q I k=>by
 obtain ⟨v,a,r⟩:=I.sl i _ e
 exact ⟨v,a,k v G H F d env I (Same.refl _) r.1 q⟩
theorem axk {i:Nat} {A:Own} {d:PyData} (e:env[i]?=some (some (.own A))) (f:Frz A d) (q:Q' d (env.set i (some (.st d)))):Ev B (tVar i) env Q':=fun σ G H F Q I k=>by
 obtain ⟨v,a,r,g,J⟩:=I.frz e f
 exact ⟨v,a,k v _ H _ d _ J g r q⟩
theorem aul {i:Nat} {A:Own} (e:env[i]?=some (some (.own A))) (q:QO (.own A) (env.set i none)):EvO B (tVar i) env QO:=fun σ G H F Q I k=>by
 obtain ⟨v,b,r⟩:=I.sl i _ e
 refine ⟨v,b,k v G H _ (F i) (.own A) _ (I.drop i) (Same.refl _) ⟨r.1,r.2,I.fg i,I.fo i,fun j a z y=>?_⟩ q⟩
 by_cases h:j=i
 ·subst h;exact putF_same.mp y
 ·rw [aa9 h] at y;exact h (I.fd j i a y z)
theorem azx {i:Int} (q:Q' (.int i) env):Ev B (tC (.int i)) env Q':=fun σ G H F Q I k=>k _ G H F _ env I (Same.refl _) (.int i) q
theorem a1n {b:Bool} (q:Q' (.bool b) env):Ev B (tC (.bl b)) env Q':=fun σ G H F Q I k=>k _ G H F _ env I (Same.refl _) (.bl b) q
theorem azy (q:Q' .none env):Ev B (tC .non) env Q':=fun σ G H F Q I k=>k _ G H F _ env I (Same.refl _) .non q
def Op2 (r:R2) (x y:PyData) (R:Sl->Prop):Prop:=∀ (G H:Hp) (vx vy:V) (Q:VK),Same G H->Rp G vx x->Rp G vy y->(∀ v G' H' s Fv,Out G H v G' H' s Fv->R s->Q v H')->r vx vy H Q
def Op1 (r:V->Hp->VK->Prop) (x:PyData) (R:Sl->Prop):Prop:=∀ (G H:Hp) (vx:V) (Q:VK),Same G H->Rp G vx x->(∀ v G' H' s Fv,Out G H v G' H' s Fv->R s->Q v H')->r vx H Q
def OpA (r:List V->Hp->VK->Prop) (ds:List PyData) (R:Sl->Prop):Prop:=∀ (G H:Hp) (vs:List V) (Q:VK),Same G H->Rps G vs ds->(∀ v G' H' s Fv,Out G H v G' H' s Fv->R s->Q v H')->r vs H Q
theorem amp {r:R2} (h:Ev B ta env fun x b=>Ev B tb b fun y e2=>Op2 r x y fun s=>QO s e2):EvO B (tOp r ta tb) env QO:=fun σ G H F Q I k =>
 h σ G H F _ I fun q j u m x b g l f z=>z σ j u m _ g fun p A H2 F2 y e2 a c i n =>
  n A H2 q p Q a.gh (f.same c) i fun v w H3 s Fv o d=>k v w H3 F2 Fv s e2 (a.out o).1 (l.trans (c.trans o.gg)) (a.out o).2 d
theorem awb {r:R2} (h:Ev B ta env fun x a=>Ev B tb a fun y e2=>Op2 r x y fun s=>FQ s fun d=>Q' d e2):Ev B (tOp r ta tb) env Q':=abo (amp h)
theorem azz {r:V->Hp->VK->Prop} (h:Ev B ta env fun x a=>Op1 r x fun s=>QO s a):EvO B (tUn r ta) env QO:=fun σ G H F Q I k =>
 h σ G H F _ I fun j f l i x a b g d n=>n f l j Q b.gh d fun v m H3 s Fv o c=>k v m H3 i Fv s a (b.out o).1 (g.trans o.gg) (b.out o).2 c
theorem a1o {r:V->Hp->VK->Prop} (h:Ev B ta env fun x a=>Op1 r x fun s=>FQ s fun d=>Q' d a):Ev B (tUn r ta) env Q':=abo (azz h)
theorem aou (q:QA [] env):EvA B tNil env QA:=fun σ G H F Q I k=>k [] G H F [] env I (Same.refl _) .nil q
theorem amq {tr:TA} (h:Ev B ta env fun x a=>EvA B tr a fun xs e2=>QA (x :: xs) e2):EvA B (aa3 ta tr) env QA:=fun σ G H F Q I k =>
 h σ G H F _ I fun q g m j x a d i c n=>n σ g m j _ d fun vs o H2 F2 ds e2 p b f l=>k _ o H2 F2 _ e2 p (i.trans b) (.cons (c.same b) f) l
theorem asa {r:List V->Hp->VK->Prop} {t:TA} (h:EvA B t env fun ds a=>OpA r ds fun s=>QO s a):EvO B (tCB r t) env QO:=fun σ G H F Q I k =>
 h σ G H F _ I fun vs f j i ds a b g d m=>m f j vs Q b.gh d fun v l H3 s Fv o c=>k v l H3 i Fv s a (b.out o).1 (g.trans o.gg) (b.out o).2 c
theorem a1p {r:List V->Hp->VK->Prop} {t:TA} (h:EvA B t env fun ds a=>OpA r ds fun s=>FQ s fun d=>Q' d a):Ev B (tCB r t) env Q':=abo (asa h)
theorem aov {t:TA} (h:EvA B t env fun ds a=>ds.length<=1000/\QO (.st (.tuple ds)) a):EvO B (tTup t) env QO:=fun σ G H F Q I k =>
 h σ G H F _ I fun vs j l i ds a b g c d=>⟨by rw [c.length];exact aF8 (aeu d.1),fun p f=>by
  have o:=Out.newT b.gh f c
  exact k _ _ _ i _ _ a (b.out o).1 (g.trans o.gg) (b.out o).2 d.2⟩
theorem az0 {t:TA} (h:EvA B t env fun ds a=>ds.length<=1000/\Q' (.tuple ds) a):Ev B (tTup t) env Q':=abo (aov h)
theorem aow {t:TA} (h:EvA B t env fun ds a=>ds.length<=1000/\QO (.own (OL ds)) a):EvO B (tLst t) env QO:=fun σ G H F Q I k =>
 h σ G H F _ I fun vs j l i ds a b g c d=>⟨by rw [c.length];exact aF8 (aeu d.1),fun p f=>by
  have o:=Out.newL b.gh f c
  exact k _ _ _ i _ _ a (b.out o).1 (g.trans o.gg) (b.out o).2 d.2⟩
theorem az1 {t:TA} (h:EvA B t env fun ds a=>ds.length<=1000/\Q' (.list ds) a):Ev B (tLst t) env Q':=abo (aow fun σ G H F Q I k=>h σ G H F Q I fun vs G' H' F' ds a b g r q=>k vs G' H' F' ds a b g r ⟨q.1,ac5 q.2⟩)
theorem ahu (h:Ev B te env fun x a=>∃ b,x=.bool b/\QT b a):EvT B (apw te) env QT:=fun σ G H F Q I k =>
 h σ G H F _ I fun v f l i x a d g c j=>by
  obtain ⟨b,e,q⟩:=j
  subst e
  cases c
  exact ⟨b,rfl,k b f l i a d g q⟩
theorem a1q (h:Ev B te env fun x a=>∃ b,x=.bool b/\QT b a):EvT B (tB te) env QT:=ahu h
theorem x_bl {b:Bool} {R:Bool->Prop} (h:R b):∃ c,PyData.bool b=.bool c/\R c:=⟨b,rfl,h⟩
theorem axl {t u:TT} (h:EvT B t env fun c a=>if c=true then EvT B u a QT else QT false a):EvT B (tAnd t u) env QT:=fun σ G H F Q I k =>
 h σ G H F _ I fun b f j i a d g q=>by
  cases b with
  | true=>rw [aE8 rfl] at q ⊢;exact q σ f j i Q d fun c n H2 F2 e2 o m l=>k c n H2 F2 e2 o (g.trans m) l
  | false=>rw [aE9 aA9] at q ⊢;exact k false f j i a d g q
theorem az2 {t u:TT} (h:EvT B t env fun c a=>if c=true then QT true a else EvT B u a QT):EvT B (tOr t u) env QT:=fun σ G H F Q I k =>
 h σ G H F _ I fun b f j i a d g q=>by
  cases b with
  | false=>rw [aE9 aA9] at q ⊢;exact q σ f j i Q d fun c n H2 F2 e2 o m l=>k c n H2 F2 e2 o (g.trans m) l
  | true=>rw [aE8 rfl] at q ⊢;exact k true f j i a d g q
theorem aox {t:TT} (h:EvT B t env fun c a=>QT (!c) a):EvT B (tNot t) env QT:=fun σ G H F Q I k =>
 h σ G H F _ I fun b j g f a i d q=>k (!b) j g f a i d q
theorem ajr (q:QT true env):EvT B tYes env QT:=fun σ G H F Q I k=>k true G H F env I (Same.refl _) q
def TruD:PyData->Bool->Prop
 | .bool b,k=>k=b
 | .list ds,k=>k = !ds.isEmpty
 | _,_=>False
theorem axm {K:Frag} (h:Ev B te env fun x a=>∃ b,TruD x b/\QT b a):EvT B (tTru K te) env QT:=fun σ G H F Q I k =>
 h σ G H F _ I fun v f j i x a d g l m=>by
  obtain ⟨b,e,q⟩:=m
  cases l with
  | bl c=>cases e;exact ⟨_,rfl,k _ f j i a d g q⟩
  | lst ha rs =>
   refine ⟨b,.inl ⟨_,SqL.of (d.gh _ _ ha),?_⟩,k _ f j i a d g q⟩
   have n:b = !_:=e
   rw [n]
   cases rs <;> rfl
  | _=>exact e.elim
theorem axn (h:Ev B ta env fun x a=>∃ b,x=.bool b/\if b=true then Ev B tb a Q' else Q' (.bool false) a):Ev B (apn ta tb) env Q':=fun σ G H F Q I k =>
 h σ G H F _ I fun v f j i x a c g l p=>by
  obtain ⟨b,e,q⟩:=p
  subst e
  cases l
  refine ⟨b,rfl,?_⟩
  cases b with
  | true=>rw [aE8 rfl] at q ⊢;exact q σ f j i Q c fun v r H2 F2 d e2 s o m n=>k v r H2 F2 d e2 s (g.trans o) m n
  | false=>rw [aE9 aA9] at q ⊢;exact k _ f j i _ a c g (.bl false) q
theorem axo (h:Ev B ta env fun x a=>∃ b,x=.bool b/\Q' (.bool (!b)) a):Ev B (apo ta) env Q':=fun σ G H F Q I k =>
 h σ G H F _ I fun v f l i x a d g c j=>by
  obtain ⟨b,e,q⟩:=j
  subst e
  cases c
  exact ⟨b,rfl,k _ f l i _ a d g (.bl _) q⟩
theorem aum {r M:R2} {w:TE} (h:Ev B ta env fun x p=>Ev B tb p fun y e2=>Op2 r x y fun s=>∃ b,s=.st (.bool b)/\if b=true then Ev B w e2 fun z e3=>Op2 M y z fun s'=>FQ s' fun d=>Q' d e3 else Q' (.bool false) e2):Ev B (alo r M ta tb w) env Q':=fun σ G H F Q I k =>
 h σ G H F _ I fun v1 X H1 Y x p W K T q1=>q1 σ X H1 Y _ W fun L G2 H2 F2 y e2 S j E Z =>
  Z G2 H2 v1 L _ S.gh (T.same j) E fun v P H3 s Fv o z_=>by
   obtain ⟨b,es,a⟩:=z_
   have N:=(S.out o).1
   have m:=o.ok
   subst es
   obtain ⟨m,_⟩:=m
   cases m
   refine ⟨b,rfl,?_⟩
   cases b with
   | false=>rw [aE9 aA9] at a ⊢;exact k _ P H3 F2 _ e2 N (K.trans (j.trans o.gg)) (.bl _) a
   | true =>
    rw [aE8 rfl] at a ⊢
    refine a σ P H3 F2 _ N fun v3 G4 H4 O z u C R r4 q4=>q4 G4 H4 L v3 Q C.gh (E.same (o.gg.trans R)) r4 fun l D n U g i c=>?_
    have J:=C.out i
    have gg:=K.trans (j.trans (o.gg.trans (R.trans i.gg)))
    cases U with
    | st d=>exact k l D n O d u J.1 gg i.ok.1 c
    | own A =>
     obtain ⟨d,f,q⟩:=c
     exact k l _ n O d u (J.1.freeze J.2.fb J.2.fd J.2.fg) (gg.trans (abk J.2.fg)) (f D n l g J.2.ok J.2.fg J.1.gh) q
    | io A=>exact c.elim
    | scr ns=>exact c.elim
end
section
variable {B:Bs} {env:En} {D':VEnds} {t u tb:TS} {te:TE} {g:TG} {c:TT} {QE:En->Prop}
theorem aoy (h:EvS B t { D' with nx:=fun e=>EvS B u D' e } env):EvS B (tSeq t u) D' env:=fun σ G H F D I r =>
 h σ G H F { D with nx:=u D } I ⟨fun σ G' H F env a g q=>q σ G' H F D a (r.later g),r.rt,r.bk,r.ct⟩
theorem aun (h:D'.nx env):EvS B apq D' env:=fun σ G H F D I r=>r.nx σ G H F env I (Same.refl _) h
theorem axp (h:EvO B te env fun s e=>EvG B g s e D'.nx):EvS B (tAsg te g) D' env:=fun σ G H F D I r =>
 h σ G H F _ I fun v d m i Fv s q c f b n=>n σ d m i v Fv D.nx c b fun a o H2 F2 e2 p l j=>r.nx a o H2 F2 e2 p (f.trans l) j
theorem abf {i:Nat} {s:Sl} (h:QE (env.set i (some s))):EvG B (abl i) s env QE:=fun σ G H F v Fv Q I x k=>k _ G H _ _ (I.store x i) (Same.refl _) h
theorem amr (h:QE env):EvGs B gNil [] env QE:=fun σ G H F vs Q I x k=>by cases x;exact ⟨rfl,k σ G H F env I (Same.refl _) h⟩
theorem agq {c:TGs} {d:PyData} {ds:List PyData} (h:EvG B g (.st d) env fun e=>EvGs B c ds e QE):EvGs B (agw g c) (d :: ds) env QE:=fun σ G H F vs Q I x k=>by
 cases x with
 | cons r rs =>
  refine ⟨_,_,rfl,h σ G H F _ _ _ I (aen r) fun a j o l u i f p=>p a j o l _ Q i (rs.same f) fun b q H2 F2 e2 s n m=>k b q H2 F2 e2 s (f.trans n) m⟩
theorem aoz {K:Frag} {n:Nat} {a:TGs} {ds:List PyData} (b:ds.length=n) (h:EvGs B a ds env QE):EvG B (gTup K n a) (.st (.tuple ds)) env QE:=fun σ G H F v Fv Q I x k=>by
 obtain ⟨r,_⟩:=x.ok
 cases r with
 | tup ha rs=>exact ⟨_,_,rfl,SqT.of (I.gh _ _ ha),by rw [rs.length,b],h σ G H F _ Q I rs k⟩
theorem ao0 (h:EvO B te env fun s e=>D'.rt s e):EvS B (tRet te) D' env:=fun σ G H F D I r =>
 h σ G H F _ I fun v d i g Fv s a c f b j=>r.rt σ d i g a v Fv s c f b j
theorem ams (h:EvO B te env fun _ e=>D'.nx e):EvS B (apr te) D' env:=fun σ G H F D I r =>
 h σ G H F _ I fun v c g f Fv s a b d j i=>r.nx σ c g f a b d i
theorem asb (h:EvT B c env fun b e=>if b=true then EvS B t D' e else EvS B u D' e):EvS B (tIfS c t u) D' env:=fun σ G H F D I r =>
 h σ G H F _ I fun b i f d j g a q=>by
  cases b with
  | true=>rw [aE8 rfl] at q ⊢;exact q σ i f d D g (r.later a)
  | false=>rw [aE9 aA9] at q ⊢;exact q σ i f d D g (r.later a)
def ForV (B:Bs) (g:TG) (tb:TS) (D':VEnds) (ds:List PyData) (e1:En):Prop:=∃ J:Nat->En->Prop,J 0 e1/\(∀ i d e,ds[i]?=some d->J i e->EvG B g (.st d) e fun e2=>EvS B tb { D' with nx:=J (i+1),ct:=J (i+1),bk:=D'.nx } e2)/\∀ e,J ds.length e->D'.nx e
theorem axq {E:TI} (h:EvI B E env fun ds u=>ForV B g tb D' ds u):EvS B (tFor E g tb) D' env:=fun σ G H F D I r =>
 h σ G H F _ I fun J z H1 S ds u Q A it Y=>by
  obtain ⟨L,W,js,jd⟩:=Y
  refine ⟨fun i m σ H=>m=ds.length - i/\i<=ds.length/\∃ l F2 e2,VI B l H σ e2 F2/\Same z l/\L i e2,⟨ds.length,by simp,aF3 _,z,S,u,Q,Same.refl _,W⟩,?_⟩
  rintro i m σ H ⟨rfl,hi,l,F2,e2,n,p,K⟩
  by_cases hlt:i < ds.length
  ·refine .inr ⟨it.go i l H p n.gh hlt,fun σ H=>∃ s F3 M,VI B s H σ M F3/\Same z s/\L (i+1) M,fun T H' h'=>⟨ds.length - (i+1),by omega,rfl,hlt,h'⟩,fun x H' y=>?_⟩
   obtain ⟨s,o⟩:=it.yld i l H x H' _ p n.gh n.ft (aA0 hlt) y
   have N:=n.out o
   refine js i _ e2 (aA0 hlt) K σ s H' F2 x _ _ N.1 N.2 fun C G4 Z F4 e4 P R U=>?_
   have gg:=p.trans (o.gg.trans R)
   refine U C G4 Z F4 _ P ⟨fun a c q b d j f w=>⟨c,b,d,j,gg.trans f,w⟩,fun a c q b d X v O j f=>r.rt a c q b d X v O j (A.trans (gg.trans f)),fun a c q b d j f=>r.nx a c q b d j (A.trans (gg.trans f)),fun a c q b d j f w=>⟨c,b,d,j,gg.trans f,w⟩⟩
  ·have e:i=ds.length:=by omega
   subst e
   exact .inl ⟨it.stop _ l H p n.gh rfl,r.nx σ l H F2 e2 n (A.trans p) (jd e2 K)⟩
theorem akf (J:Nat->En->Prop) (w:∃ m,J m env) (h:∀ m e,J m e->EvT B c e fun b y=>if b=true then EvS B tb { D' with nx:=fun e2=>∃ d,d < m/\J d e2,ct:=fun e2=>∃ d,d < m/\J d e2,bk:=D'.nx } y else D'.nx y):EvS B (aq4 c tb) D' env:=fun σ G H F D I r=>by
 obtain ⟨L,w⟩:=w
 refine ⟨fun m σ H=>∃ q F2 e2,VI B q H σ e2 F2/\Same G q/\J m e2,⟨L,G,F,env,I,Same.refl _,w⟩,?_⟩
 rintro m σ H ⟨q,F2,e2,U,Q,R⟩
 refine h m e2 R σ q H F2 _ U fun b C H3 A T z P p=>?_
 have gg:=Q.trans P
 cases b with
 | false=>rw [aE9 aA9] at p ⊢;exact r.nx σ C H3 A T z gg p
 | true =>
  rw [aE8 rfl] at p ⊢
  refine ⟨fun σ H=>∃ s x o,VI B s H σ o x/\Same G s/\∃ d,d < m/\J d o,fun O H' ⟨s,x,o,K,N,d,hm,M⟩=>⟨d,hm,s,x,o,K,N,M⟩,?_⟩
  exact p σ C H3 A _ z ⟨fun a g n f i l j v=>⟨g,f,i,l,gg.trans j,v⟩,fun a g n f i S u E l j=>r.rt a g n f i S u E l (gg.trans j),fun a g n f i l j=>r.nx a g n f i l (gg.trans j),fun a g n f i l j v=>⟨g,f,i,l,gg.trans j,v⟩⟩
variable {QI:List PyData->En->Prop}
theorem auo {K:Frag} (h:Ev B te env fun d e=>∃ ds,d=.list ds/\QI ds e):EvI B (av0 K te) env QI:=fun σ G H F R I k =>
 h σ G H F _ I fun v j r m d c b l f p=>by
  obtain ⟨ds,q,s⟩:=p
  subst q
  cases f with
  | @lst a vs ds ha rs =>
   refine ⟨a,rfl,⟨vs,SqL.of (b.gh _ _ ha)⟩,k _ j r m ds c b l ⟨fun i G' H' g h hi=>?_,fun i G' H' g h hi=>?_,fun i G' H' x H'' d g h ft hd y=>?_⟩ s⟩
   ·have:i < vs.length:=by rw [rs.length];exact hi
    exact ⟨vs,vs[i],SqL.of (h _ _ (g _ _ ha)),aA0 this⟩
   ·exact ⟨vs,SqL.of (h _ _ (g _ _ ha)),by rw [rs.length];exact Nat.le_of_eq hi.symm⟩
   ·obtain ⟨e,y⟩:=y
    subst e
    obtain ⟨v,n,o⟩:=rs.get hd
    have:=y vs (SqL.of (h _ _ (g _ _ ha)))
    rw [n] at this
    cases this
    exact ⟨G',Out.refl h (o.same g)⟩
theorem az3 {ds:List PyData} {R:List PyData->Prop} (h:R ds):∃ xs,PyData.list ds=.list xs/\R xs:=⟨ds,rfl,h⟩
def rngD (lo:Int) (n:Nat):List PyData:=(List.range n).map fun (i:Nat) => .int (lo+(i:Int))
theorem acl {lo:Int} {n:Nat}:(rngD lo n).length=n:=by simp [rngD]
theorem ahv {lo:Int} {n i:Nat} {d:PyData} (h:(rngD lo n)[i]?=some d):i < n/\d=.int (lo+(i:Int)):=by
 unfold rngD at h
 rw [aA5] at h
 have hi:i < n:=by
  have:=(aA1 (l:=(List.range n).map fun (i:Nat)=>PyData.int (lo+(i:Int)))).mp (by rw [aA5];exact h)
  obtain ⟨q,_⟩:=this
  simpa using q
 rw [aA0 (by simpa using hi)] at h
 simp at h
 exact ⟨hi,h.symm⟩
theorem asc {G:Hp} {lo:Int} {n:Nat}:ItOk G (Itr lo n) (rngD lo n):=by
 refine ⟨fun i G' H' g h hi=>?_,fun i G' H' g h hi=>?_,fun i G' H' x H'' d g h ft hd y=>?_⟩
 ·rw [acl] at hi;exact hi
 ·rw [acl] at hi;exact Nat.le_of_eq hi.symm
 ·obtain ⟨e,y⟩:=y
  subst e y
  rw [(ahv hd).2]
  exact ⟨G',Out.refl h (.int _)⟩
def ali (ds:List PyData) (R:List PyData->Prop):Prop:=∃ j:Int,ds=[.int j]/\-(2 ^ 62)<=j/\j < 2 ^ 62/\R (rngD 0 j.toNat)
def alj (ds:List PyData) (R:List PyData->Prop):Prop:=∃ i j:Int,ds=[.int i,.int j]/\(-(2 ^ 62)<=i/\i < 2 ^ 62/\-(2 ^ 62)<=j/\j < 2 ^ 62)/\R (rngD i (j - i).toNat)
theorem aup {a:TA} (h:EvA B a env fun ds e=>ali ds fun xs=>QI xs e):EvI B (apt a) env QI:=fun σ G H F R I k =>
 h σ G H F _ I fun vs f o i ds b d g c l=>by
  obtain ⟨j,n,b1,m,p⟩:=l
  subst n
  obtain rfl:vs=[V.int j]:=Rps.ints_inv (ns:=[j]) c
  exact ⟨j,rfl,b1,m,k _ f o i _ b d g asc p⟩
theorem auq {a:TA} (h:EvA B a env fun ds e=>alj ds fun xs=>QI xs e):EvI B (av1 a) env QI:=fun σ G H F R I k =>
 h σ G H F _ I fun vs f o l ds b d g c m=>by
  obtain ⟨i,j,n,b1,p⟩:=m
  subst n
  obtain rfl:vs=[V.int i,V.int j]:=Rps.ints_inv (ns:=[i,j]) c
  exact ⟨i,j,rfl,b1,k _ f o l _ b d g asc p⟩
theorem az4 {j:Int} {R:List PyData->Prop} (b : -4611686018427387904<=j) (a:j < 4611686018427387904) (h:R (rngD 0 j.toNat)):ali [.int j] R:=⟨j,rfl,by omega,by omega,h⟩
theorem az5 {a b:Int} {R:List PyData->Prop} (c : -4611686018427387904<=a/\a < 4611686018427387904/\-4611686018427387904<=b/\b < 4611686018427387904) (h:R (rngD a (b - a).toNat)):alj [.int a,.int b] R:=⟨a,b,rfl,by omega,h⟩
theorem abz {lo:Int} {n:Nat} (J:Nat->En->Prop) (a:J 0 env) (b:∀ i e,i < n->J i e->EvG B g (.st (.int (lo+(i:Int)))) e fun e2=>EvS B tb { D' with nx:=J (i+1),ct:=J (i+1),bk:=D'.nx } e2) (hd:∀ e,J n e->D'.nx e):ForV B g tb D' (rngD lo n) env :=
 ⟨J,a,fun i d e h j=>by obtain ⟨hi,rfl⟩:=ahv h;exact b i e hi j,fun e j=>hd e (by rw [acl] at j;exact j)⟩
theorem acv {α:Type} {f : α->PyData} {xs:List α} (J:Nat->En->Prop) (a:J 0 env) (b:∀ i x e,xs[i]?=some x->J i e->EvG B g (.st (f x)) e fun e2=>EvS B tb { D' with nx:=J (i+1),ct:=J (i+1),bk:=D'.nx } e2) (hd:∀ e,J xs.length e->D'.nx e):ForV B g tb D' (xs.map f) env :=
 ⟨J,a,fun i d e h j=>by
  rw [aA5] at h
  cases hx:xs[i]? with
  | none=>rw [hx] at h;cases h
  | some x=>rw [hx] at h;cases h;exact b i x e hx j,fun e j=>hd e (by rw [aA3] at j;exact j)⟩
end
theorem amt {B:Bs} {a b:TS} {D':VEnds} {env:En} (h:∀ c:TS,c=b->EvS B a { D' with nx:=fun e=>EvS B c D' e } env):EvS B (tSeq a b) D' env:=aoy (h b rfl)
theorem ajs {B:Bs} {c b:TS} {D':VEnds} {env:En} (e:c=b) (h:EvS B b D' env):EvS B c D' env:=by rw [e];exact h
@[elab_as_elim] theorem exS1 {c:Type} {σ:Type} {f : c->σ} {p : c->Prop} {a : σ->Prop} (s : σ) (h:∃ b,s=f b/\p b) (k:∀ b,p b->a (f b)):a s:=by
 obtain ⟨b,e,h⟩:=h
 rw [e];exact k _ h
@[elab_as_elim] theorem exS2 {d:Type} {g:Type} {σ:Type} {f : d->g->σ} {p : d->g->Prop} {a : σ->Prop} (s : σ) (h:∃ c b,s=f c b/\p c b) (k:∀ c b,p c b->a (f c b)):a s:=by
 obtain ⟨c,b,e,h⟩:=h
 rw [e];exact k _ _ h
@[elab_as_elim] theorem exS3 {i:Type} {j:Type} {g:Type} {σ:Type} {f : i->j->g->σ} {p : i->j->g->Prop} {a : σ->Prop} (s : σ) (h:∃ c b d,s=f c b d/\p c b d) (k:∀ c b d,p c b d->a (f c b d)):a s:=by
 obtain ⟨c,b,d,e,h⟩:=h
 rw [e];exact k _ _ _ h
@[elab_as_elim] theorem exS4 {j:Type} {m:Type} {i:Type} {l:Type} {σ:Type} {f : j->m->i->l->σ} {p : j->m->i->l->Prop} {a : σ->Prop} (s : σ) (h:∃ c b g d,s=f c b g d/\p c b g d) (k:∀ c b g d,p c b g d->a (f c b g d)):a s:=by
 obtain ⟨c,b,g,d,e,h⟩:=h
 rw [e];exact k _ _ _ _ h
@[elab_as_elim] theorem exE4 {j:Type} {m:Type} {i:Type} {l:Type} {σ:Type} {f : j->m->i->l->σ} {a : σ->Prop} (s : σ) (h:∃ c b g d,s=f c b g d) (k:∀ c b g d,a (f c b g d)):a s:=by
 obtain ⟨c,b,g,d,e⟩:=h
 rw [e];exact k _ _ _ _
@[elab_as_elim] theorem exS5 {l:Type} {n:Type} {j:Type} {m:Type} {o:Type} {σ:Type} {f : l->n->j->m->o->σ} {p : l->n->j->m->o->Prop} {a : σ->Prop} (s : σ) (h:∃ c b g d i,s=f c b g d i/\p c b g d i) (k:∀ c b g d i,p c b g d i->a (f c b g d i)):a s:=by
 obtain ⟨c,b,g,d,i,e,h⟩:=h
 rw [e];exact k _ _ _ _ _ h
@[elab_as_elim] theorem exS6 {l:Type} {o:Type} {q:Type} {m:Type} {r:Type} {n:Type} {σ:Type} {f : l->o->q->m->r->n->σ} {p : l->o->q->m->r->n->Prop} {a : σ->Prop} (s : σ) (h:∃ c b j d g i,s=f c b j d g i/\p c b j d g i) (k:∀ c b j d g i,p c b j d g i->a (f c b j d g i)):a s:=by
 obtain ⟨c,b,j,d,g,i,e,h⟩:=h
 rw [e];exact k _ _ _ _ _ _ h
@[elab_as_elim] theorem exE6 {l:Type} {o:Type} {p:Type} {m:Type} {q:Type} {n:Type} {σ:Type} {f : l->o->p->m->q->n->σ} {a : σ->Prop} (s : σ) (h:∃ c b j d g i,s=f c b j d g i) (k:∀ c b j d g i,a (f c b j d g i)):a s:=by
 obtain ⟨c,b,j,d,g,i,e⟩:=h
 rw [e];exact k _ _ _ _ _ _
@[elab_as_elim] theorem exS7 {m:Type} {q:Type} {u:Type} {n:Type} {v:Type} {o:Type} {r:Type} {σ:Type} {f : m->q->u->n->v->o->r->σ} {p : m->q->u->n->v->o->r->Prop} {a : σ->Prop} (s : σ) (h:∃ c b j d g i l,s=f c b j d g i l/\p c b j d g i l) (k:∀ c b j d g i l,p c b j d g i l->a (f c b j d g i l)):a s:=by
 obtain ⟨c,b,j,d,g,i,l,e,h⟩:=h
 rw [e];exact k _ _ _ _ _ _ _ h
@[elab_as_elim] theorem exS8 {n:Type} {u:Type} {w:Type} {o:Type} {x:Type} {q:Type} {v:Type} {r:Type} {σ:Type} {f : n->u->w->o->x->q->v->r->σ} {p : n->u->w->o->x->q->v->r->Prop} {a : σ->Prop} (s : σ) (h:∃ c b j d g i l m,s=f c b j d g i l m/\p c b j d g i l m) (k:∀ c b j d g i l m,p c b j d g i l m->a (f c b j d g i l m)):a s:=by
 obtain ⟨c,b,j,d,g,i,l,m,e,h⟩:=h
 rw [e];exact k _ _ _ _ _ _ _ _ h
theorem big {n:Nat} (h:n<=1000000):n < sizeLine:=Nat.lt_of_le_of_lt h (by decide)
section
variable {B B1:Bs} {G H G' H':Hp} {σ σI:St} {env envI:En} {F F':Nat->Addr->Prop} {v:V} {s:Sl} {Fv:Addr->Prop} {inv:Nat->Option Nat}
open Classical in
def ab6 (H:Hp) (F:Nat->Addr->Prop) (inv:Nat->Option Nat):Hp:=fun a=>if ∃ i j,inv i=some j/\F i a then none else H a
theorem afs {i j:Nat} {a:Addr} (h:inv i=some j) (f:F i a):ab6 H F inv a=none:=aE8 ⟨i,j,h,f⟩
theorem aft {a:Addr} (h:∀ i j,inv i=some j->¬ F i a):ab6 H F inv a=H a:=aE9 fun ⟨i,j,x,y⟩=>h i j x y
theorem adh:Same (ab6 H F inv) H:=fun a o e=>by
 unfold ab6 at e
 split at e
 ·cases e
 ·exact e
theorem VI.enter (I:VI B G H σ env F) (inj:∀ i b j,inv i=some j->inv b=some j->i=b) (ln : σI.length=envI.length)
  (sl:∀ j s,envI[j]?=some (some s)->∃ v,σI[j]?=some (some v)/\((∃ d,s=.st d/\Rp G v d/\∀ i,inv i ≠ some j)\/(∃ ns a,s=.scr ns/\v=.ref a/\SqL B.K G a (ns.map V.int)/\∀ i,inv i ≠ some j) ∨
   ∃ i A,inv i=some j/\s=.io A/\σ[i]?=some (some v)/\(env[i]?=some (some (.own A))\/env[i]?=some (some (.io A))))) :
  VI ⟨B.K,G,H,ab6 H F inv,σI,fun j a=>∃ i,inv i=some j/\F i a⟩ G H σI envI (fun j a=>∃ i,inv i=some j/\F i a) where
 gh:=I.gh
 g0:=Same.refl _
 gn:=fun a o e => .inl e
 rs:=adh
 rb:=adh
 bh:=fun a o e=>⟨o,e⟩
 fg:=fun j a ⟨i,_,z⟩=>I.fg i a z
 fr:=fun j a ⟨i,h,z⟩=>afs h z
 fd:=fun j k a ⟨i,h,z⟩ ⟨b,h',m⟩=>by
  have:=I.fd i b a z m
  subst this
  rw [h] at h';cases h';rfl
 fo:=fun j a ⟨i,h,z⟩=>I.fo i a z
 sl:=fun j s e=>by
  obtain ⟨v,l,q⟩:=sl j s e
  refine ⟨v,l,?_⟩
  rcases q with ⟨d,rfl,r,n⟩ | ⟨ns,a,rfl,rfl,q,n⟩ | ⟨i,A,hi,rfl,g,f⟩
  ·exact ⟨r,fun a ⟨i,h,_⟩=>n i h⟩
  ·exact ⟨⟨a,rfl,q⟩,fun a ⟨i,h,_⟩=>n i h⟩
  ·refine ⟨?_,fun a z => .inl z,l⟩
   have p:(fun a=>∃ b,inv b=some j/\F b a)=F i:=by
    funext a
    exact propext ⟨fun ⟨b,h,z⟩=>by rw [inj i b j hi h];exact z,fun z=>⟨i,hi,z⟩⟩
   show A.P G H v (fun a=>∃ b,inv b=some j/\F b a)
   rw [p]
   rcases f with f | f
   ·obtain ⟨u,c,e2⟩:=I.sl i _ f
    rw [g] at c;cases c;exact e2.1
   ·obtain ⟨u,c,e2⟩:=I.sl i _ f
    rw [g] at c;cases c;exact e2.1
 ln:=ln
 ft:=I.ft
theorem VI.leave (I:VI B G H σ env F) (inj:∀ i h j,inv i=some j->inv h=some j->i=h) (p:B1.G=G) (g:B1.H=H) (C:∀ a o,H a=some o->(∀ i j,inv i=some j->¬ F i a)->B1.R a=some o)
  (N:∀ i j,inv i=some j->∀ a,B1.F j a->F i a) (L:∀ i j,inv i=some j->B1.S[j]? = σ[i]?) (J:VI B1 G' H' σI envI F') (io:∀ i j,inv i=some j->∃ A',envI[j]?=some (some (.io A'))) {env2:En} (M:env2.length=env.length)
  (D:∀ i s,env2[i]?=some (some s)->(inv i=none/\env[i]?=some (some s))\/∃ j A A',inv i=some j/\envI[j]?=some (some (.io A'))/\((env[i]?=some (some (.own A))/\s=.own A')\/(env[i]?=some (some (.io A))/\s=.io A'))) :
  VI B G' H' σ env2 (fun i a=>match inv i with | some j=>F' j a | none=>F i a):=by
 have c:∀ a o,G' a=some o->G a=some o\/H a=none:=fun a o e=>by
  have:=J.gn a o e
  rw [p,g] at this;exact this
 have fi:∀ i j a,inv i=some j->F' j a->F i a\/H a=none:=fun i j a hi z=>by
  obtain ⟨A',e⟩:=io i j hi
  obtain ⟨v,_,q⟩:=J.sl j _ e
  rcases q.2.1 a z with y | y
  ·exact .inl (N i j hi a y)
  ·rw [g] at y;exact .inr y
 have kp:∀ a o,H a=some o->(∀ i j,inv i=some j->¬ F i a)->H' a=some o:=fun a o e n=>J.rs a o (C a o e n)
 refine ⟨J.gh,I.g0.trans (p ▸ J.g0),fun a o e=>?_,fun a o e=>?_,I.rb,fun a o e=>?_,fun i a z=>?_,fun i a z=>?_,fun i k a y z=>?_,fun i a z=>?_,fun i t e=>?_,by rw [M];exact I.ln,J.ft⟩
 ·rcases c a o e with e | e
  ·exact I.gn a o e
  ·exact .inr (I.no_b e)
 ·refine kp a o (I.rs a o e) fun i j _ z=>?_
  rw [I.fr i a z] at e;cases e
 ·obtain ⟨E,b⟩:=I.bh a o e
  exact J.bh a E (by rw [g];exact b)
 ·cases hi:inv i with
  | some j=>rw [hi] at z;exact J.fg j a z
  | none =>
   rw [hi] at z
   cases e:G' a with
   | none=>rfl
   | some o =>
    rcases c a o e with e | e
    ·rw [I.fg i a z] at e;cases e
    ·exact absurd z (I.no_f e i)
 ·cases hi:inv i with
  | some j =>
   rw [hi] at z
   rcases fi i j a hi z with y | y
   ·exact I.fr i a y
   ·exact I.no_r y
  | none=>rw [hi] at z;exact I.fr i a z
 ·cases hi:inv i with
  | some j =>
   rw [hi] at y
   cases hk:inv k with
   | some l =>
    rw [hk] at z
    have:=J.fd j l a y z
    subst this
    exact inj i k j hi hk
   | none =>
    rw [hk] at z
    rcases fi i j a hi y with x | x
    ·exact I.fd i k a x z
    ·exact absurd z (I.no_f x k)
  | none =>
   rw [hi] at y
   cases hk:inv k with
   | some l =>
    rw [hk] at z
    rcases fi k l a hk z with x | x
    ·exact I.fd i k a y x
    ·exact absurd y (I.no_f x i)
   | none=>rw [hk] at z;exact I.fd i k a y z
 ·cases hi:inv i with
  | some j=>rw [hi] at z;exact J.fo j a z
  | none =>
   rw [hi] at z
   obtain ⟨o,e⟩:=I.fo i a z
   exact J.bh a o (by rw [g];exact e)
 ·rcases D i t e with ⟨hi,b⟩ | ⟨j,A,A',hi,b,e2⟩
  ·obtain ⟨v,r,q⟩:=I.sl i t b
   refine ⟨v,r,?_⟩
   simp only [hi]
   refine q.mono (p ▸ J.g0) fun a o z y=>kp a o y fun h O d w=>?_
   have:=I.fd i h a z w
   subst this
   rw [hi] at d;cases d
  ·obtain ⟨v,r,q⟩:=J.sl j _ b
   have u : σ[i]?=some (some v):=by rw [← L i j hi];exact q.2.2
   refine ⟨v,u,?_⟩
   simp only [hi]
   rcases e2 with ⟨e2,rfl⟩ | ⟨e2,rfl⟩
   ·obtain ⟨K,_,m⟩:=I.sl i _ e2
    refine ⟨q.1,fun a z=>?_⟩
    rcases fi i j a hi z with y | y
    ·exact m.2 a y
    ·exact I.no_b y
   ·obtain ⟨K,f,m⟩:=I.sl i _ e2
    rw [u] at f;cases f
    refine ⟨q.1,fun a z=>?_,m.2.2⟩
    rcases fi i j a hi z with y | y
    ·exact m.2.1 a y
    ·exact .inr (I.no_b y)
theorem RsX.leave (I:VI B G H σ env F) (b:B1.H=H) (r:RsX B1 G' H' v Fv s F'):RsX B G' H' v Fv s (fun i a=>match inv i with | some j=>F' j a | none=>F i a):=by
 have hn:∀ a,Fv a->H a=none:=fun a z=>b ▸ r.fb a z
 refine ⟨r.ok,fun a z=>I.no_b (hn a z),r.fg,r.fo,fun i a z y=>?_⟩
 cases hi:inv i with
 | some j=>rw [hi] at y;exact r.fd j a z y
 | none=>rw [hi] at y;exact I.no_f (hn a z) i y
end
abbrev VP:=List Sl->(Sl->Prop)->Prop
abbrev VIo:=Own->List Sl->(Own->Sl->Prop)->Prop
def noF:Nat->Addr->Prop:=fun _ _=>False
def bsP (K:Frag) (G H:Hp) (vs:List V):Bs:=⟨K,G,H,H,vs.map some,noF⟩
def awc (K:Frag) (G:Hp):V->Sl->Prop
 | v,.st d=>Rp G v d
 | v,.scr ns=>∃ a,v=.ref a/\SqL K G a (ns.map V.int)
 | _,_=>False
inductive ArgsOk (K:Frag) (G:Hp):List V->List Sl->Prop
 | nil:ArgsOk K G [] []
 | cons {v:V} {s:Sl} {vs:List V} {ss:List Sl}:awc K G v s->ArgsOk K G vs ss->ArgsOk K G (v :: vs) (s :: ss)
theorem ArgsOk.length {K:Frag} {G:Hp}:∀ {vs:List V} {ss:List Sl},ArgsOk K G vs ss->vs.length=ss.length
 | _,_,.nil=>rfl
 | _,_,.cons _ t=>by simp [ArgsOk.length t]
theorem ArgsOk.get {K:Frag} {G:Hp}:∀ {vs:List V} {ss:List Sl} {i:Nat} {s:Sl},ArgsOk K G vs ss->ss[i]?=some s->∃ v,vs[i]?=some v/\awc K G v s
 | _,_,_,_,.nil,e=>by simp at e
 | _,_,0,_,.cons r _,e=>by simp at e;subst e;exact ⟨_,rfl,r⟩
 | _,_,i+1,s,.cons _ t,e=>by
  obtain ⟨u,b,a⟩:=ArgsOk.get (i:=i) (s:=s) t (by simpa using e)
  exact ⟨u,by simpa using b,a⟩
theorem ArgsOk.of {K:Frag} {G:Hp}:∀ {vs:List V} {ds:List PyData},Rps G vs ds->ArgsOk K G vs (ds.map Sl.st)
 | _,_,.nil => .nil
 | _,_,.cons r t => .cons r (ArgsOk.of t)
theorem ao1 {α:Type} {xs:List α} {n i:Nat} {s : α} (e:(xs.map some ++ List.replicate n none)[i]?=some (some s)):xs[i]?=some s:=by
 by_cases h:i < xs.length
 ·rw [aC2 (by simpa using h),aA5] at e
  rw [aA0 h] at e ⊢
  simpa using e
 ·rw [aC7 (by simpa using h),aH0] at e
  split at e <;> cases e
theorem ao2 {α:Type} {xs:List α} {n i:Nat} {s : α} (e:xs[i]?=some s):(xs.map some ++ List.replicate n none)[i]?=some (some s):=by
 have h:i < xs.length:=(aA1.mp e).1
 rw [aC2 (by simpa using h),aA5,e];rfl
def spP (K:Frag) (f:VP):Sp:=fun vs H Q _=>∃ G ss Q',Same G H/\FT G H/\ArgsOk K G vs ss/\f ss Q'/\∀ s,Q' s->∀ v G' H' Fv,Out G H v G' H' s Fv->Q v H'
structure OutI (G H R:Hp) (F0:Addr->Prop) (v0:V) (A':Own) (s:Sl) (v:V) (G' H':Hp) (F' Fv:Addr->Prop):Prop where
 gg:Same G G'
 gh:Same G' H'
 ft:FT G' H'
 gn:∀ a o,G' a=some o->G a=some o\/H a=none
 rs:Same R H'
 bh:∀ a o,H a=some o->∃ o',H' a=some o'
 ap:A'.P G' H' v0 F'
 fi:∀ a,F' a->F0 a\/H a=none
 fg:∀ a,F' a->G' a=none
 ok:RsOk G' H' v Fv s
 fv:∀ a,Fv a->H a=none/\G' a=none/\(∃ o,H' a=some o)/\¬ F' a
def spI (K:Frag) (f:VIo):Sp:=fun vs H Q _=>∃ v0 vr G R A ss F0 Q',vs=v0 :: vr/\Same G H/\FT G H/\Same R H/\A.P G H v0 F0/\(∀ a,F0 a->G a=none)/\(∀ a,F0 a->R a=none)/\ArgsOk K G vr ss /\
 f A ss Q'/\∀ A' s,Q' A' s->∀ v G' H' F' Fv,OutI G H R F0 v0 A' s v G' H' F' Fv->Q v H'
theorem abm {K:Frag} {f:VP} {c:TS} {N:List Str} {vs:List V} {H:Hp} {Q:VK} {E:XK} (h:spP K f vs H Q E)
  (hb:∀ ss Q',f ss Q'->∀ B,B.K=K->EvS B c { nx:=fun _=>Q' (.st .none),rt:=fun s _=>Q' s } (ss.map some ++ List.replicate (N.length - ss.length) none)):c { nx:=fun _ H'=>Q .non H',rt:=Q } (L2.start N vs) H:=by
 obtain ⟨G,ss,Q',gh,ft,b,hf,l⟩:=h
 have fin:∀ {σ G' H' F env v Fv s},VI (bsP K G H vs) G' H' σ env F->RsX (bsP K G H vs) G' H' v Fv s F->Out G H v G' H' s Fv:=fun I r =>
  ⟨I.g0,I.gh,I.rs,I.gn,r.fb,r.fg,r.fo,r.ok,fun _=>I.ft⟩
 refine hb ss _ hf (bsP K G H vs) rfl (L2.start N vs) G H noF _ ?_ ⟨fun σ G' H' F env I g q=>l _ q _ _ _ _ (fin I (aen .non)),fun σ G' H' F env v Fv s I g r q=>l _ q v G' H' Fv (fin I r),fun _ _ _ _ _ _ _ q=>q,fun _ _ _ _ _ _ _ q=>q⟩
 refine ⟨gh,Same.refl _,fun a o e => .inl e,Same.refl _,Same.refl _,fun a o e=>⟨o,e⟩,fun i a z=>z.elim,fun i a z=>z.elim,fun i j a z=>z.elim,fun i a z=>z.elim,fun i s e=>?_,?_,ft⟩
 ·obtain ⟨v,m,q⟩:=b.get (ao1 e)
  refine ⟨v,by unfold L2.start;exact ao2 m,?_⟩
  cases s with
  | st d=>exact ⟨q,fun a z=>z⟩
  | scr ns=>exact ⟨q,fun a z=>z⟩
  | own A=>exact q.elim
  | io A=>exact q.elim
 ·unfold L2.start;simp [b.length]
theorem adi {K:Frag} {f:VIo} {p:TS} {N:List Str} {vs:List V} {H:Hp} {Q:VK} {E:XK} (h:spI K f vs H Q E)
  (hb:∀ A ss Q',f A ss Q'->∀ B,B.K=K->EvS B p { nx:=fun e=>∃ A',e[0]?=some (some (.io A'))/\Q' A' (.st .none),rt:=fun s e=>∃ A',e[0]?=some (some (.io A'))/\Q' A' s } (some (.io A) :: (ss.map some ++ List.replicate (N.length - (ss.length+1)) none))):p { nx:=fun _ H'=>Q .non H',rt:=Q } (L2.start N vs) H:=by
 obtain ⟨v0,b,G,R,A,ss,F0,Q',rfl,gh,ft,n,ap,fg,fr,c,hf,L⟩:=h
 have M:(v0 :: b).length=ss.length+1:=by simp [c.length]
 refine hb A ss _ hf ⟨K,G,H,R,(v0 :: b).map some,fun i a=>i=0/\F0 a⟩ rfl (L2.start N (v0 :: b)) G H (fun i a=>i=0/\F0 a) _ ?_ ?_
 ·refine ⟨gh,Same.refl _,fun a o e => .inl e,n,n,fun a o e=>⟨o,e⟩,fun i a z=>fg a z.2,fun i a z=>fr a z.2,fun i j a z y=>by rw [z.1,y.1],fun i a z=>A.dom ap a z.2,fun i s e=>?_,?_,ft⟩
  ·cases i with
   | zero =>
    simp at e
    subst e
    refine ⟨v0,rfl,?_,fun a z => .inl z,rfl⟩
    have:(fun a=>0=0/\F0 a)=F0:=by funext a;simp
    rw [this];exact ap
   | succ i =>
    have D:(ss.map some ++ List.replicate (N.length - (ss.length+1)) none)[i]?=some (some s):=by simpa using e
    obtain ⟨v,w,q⟩:=c.get (ao1 D)
    refine ⟨v,?_,?_⟩
    ·unfold L2.start;exact ao2 (by simpa using w)
    ·cases s with
     | st d=>exact ⟨q,fun a z=>by cases z.1⟩
     | scr ns=>exact ⟨q,fun a z=>by cases z.1⟩
     | own A=>exact q.elim
     | io A=>exact q.elim
  ·unfold L2.start;simp [c.length]
 ·have fin:∀ σ G' H' F env v Fv s,VI ⟨K,G,H,R,(v0 :: b).map some,fun i a=>i=0/\F0 a⟩ G' H' σ env F->RsX ⟨K,G,H,R,(v0 :: b).map some,fun i a=>i=0/\F0 a⟩ G' H' v Fv s F->(∃ A',env[0]?=some (some (.io A'))/\Q' A' s)->Q v H':=by
   intro σ G' H' F env v Fv s I r ⟨A',e,q⟩
   obtain ⟨m,J,C,x,u⟩:=I.sl 0 _ e
   have:m=v0:=by
    have l:((v0 :: b).map some)[0]?=some (some m):=u
    simpa using l.symm
   subst this
   exact L A' s q v G' H' (F 0) Fv ⟨I.g0,I.gh,I.ft,I.gn,I.rs,I.bh,C,fun a z=>by
    rcases x a z with y | y
    ·exact .inl y.2
    ·exact .inr y,I.fg 0,r.ok,fun a z=>⟨r.fb a z,r.fg a z,r.fo a z,r.fd 0 a z⟩⟩
  refine ⟨fun σ G' H' F env I g q=>fin σ G' H' F env .non _ (.st .none) I (aen .non) q,fun σ G' H' F env v Fv s I g r q=>fin σ G' H' F env v Fv s I r q,fun _ _ _ _ _ _ _ q=>q,fun _ _ _ _ _ _ _ q=>q⟩
section
variable {B:Bs} {env:En} {Q':PyData->En->Prop} {QO:Sl->En->Prop} {K:Frag} {E:XK}
theorem akg {f:VP} {t:TA} (h:EvA B t env fun ds b=>f (ds.map Sl.st) fun s=>QO s b):EvO B (abw (spP K f) [] E t) env QO:=fun σ G H F Q I k=>by
 unfold abw
 simp only [aE4]
 exact h σ G H F _ I fun vs d l i ds b a g c j=>⟨d,_,_,a.gh,a.ft,ArgsOk.of c,j,fun s q v G' H' Fv o=>k v G' H' i Fv s b (a.out o).1 (g.trans o.gg) (a.out o).2 q⟩
theorem aur {f:VP} {t:TA} (h:EvA B t env fun ds a=>f (ds.map Sl.st) fun s=>FQ s fun d=>Q' d a):Ev B (abw (spP K f) [] E t) env Q':=abo (akg h)
theorem asd {f:VP} {t:TA} {i:Nat} {ns:List Int} (e:env[i]?=some (some (.scr ns))) (r:B.K=K) (h:EvA B t env fun ds c=>f (.scr ns :: ds.map Sl.st) fun s=>QO s c):EvO B (abw (spP K f) [] E (aa3 (tVar i) t)) env QO:=fun σ G H F Q I k=>by
 subst r
 unfold abw
 simp only [aE4]
 obtain ⟨v0,n,⟨a,m,p⟩,_⟩:=I.sl i _ e
 refine ⟨v0,n,h σ G H F _ I fun vs j w l ds c b d g u=>⟨j,_,_,b.gh,b.ft,.cons (s:=.scr ns) ⟨a,m,d.seq p⟩ (ArgsOk.of g),u,fun s q v G' H' Fv o=>k v G' H' l Fv s c (b.out o).1 (d.trans o.gg) (b.out o).2 q⟩⟩
def reS:Sl->Own->Sl
 | .io _,A => .io A
 | _,A => .own A
theorem agr {f:VIo} {t:TA} {i:Nat} (T:∃ s,env[i]?=some (some s)) (h:EvA B t env fun ds w=>∃ s0 A,w[i]?=some (some s0)/\(s0=.own A\/s0=.io A)/\f A (ds.map Sl.st) fun A' s=>QO s (w.set i (some (reS s0 A')))):EvO B (abw (spI K f) [] E (aa3 (tVar i) t)) env QO:=fun σ G H F Q I k=>by
 unfold abw
 simp only [aE4]
 obtain ⟨s,e⟩:=T
 obtain ⟨v0,N,_⟩:=I.sl i _ e
 refine ⟨v0,N,h σ G H F _ I fun vs M p m ds w r S R ⟨s0,A,D,O,U⟩=>?_⟩
 obtain ⟨W,C,q⟩:=r.sl i _ D
 rw [N] at C;cases C
 have ap:A.P M p v0 (m i):=by
  rcases O with rfl | rfl
  ·exact q.1
  ·exact q.1
 let inv:Nat->Option Nat:=fun j=>if j=i then some 0 else none
 have d:inv i=some 0:=aE8 rfl
 have g:∀ j,j ≠ i->inv j=none:=fun j h=>aE9 h
 have c:∀ j l,inv j=some l->j=i/\l=0:=fun j l h=>by
  by_cases hj:j=i
  ·subst hj;rw [d] at h;cases h;exact ⟨rfl,rfl⟩
  ·rw [g j hj] at h;cases h
 refine ⟨v0,vs,M,ab6 p m inv,A,_,m i,_,rfl,r.gh,r.ft,adh,ap,r.fg i,fun a z=>afs d z,ArgsOk.of R,U,fun A' s q v G' H' F' Fv o=>?_⟩
 have hi:i < w.length:=(aA1.mp D).1
 have J:VI ⟨K,M,p,ab6 p m inv,[some v0],fun j a=>j=0/\m i a⟩ G' H' [some v0] [some (.io A')] (fun j a=>j=0/\F' a):=by
  refine ⟨o.gh,o.gg,o.gn,o.rs,adh,o.bh,fun j a z=>o.fg a z.2,fun j a z=>?_,fun j l a y z=>by rw [y.1,z.1],fun j a z=>A'.dom o.ap a z.2,fun j s e=>?_,rfl,o.ft⟩
  ·rcases o.fi a z.2 with y | y
   ·exact afs d y
   ·cases e:ab6 p m inv a with
    | none=>exact e
    | some u=>rw [adh a u e] at y;cases y
  ·cases j with
   | zero =>
    simp at e
    subst e
    refine ⟨v0,rfl,?_,fun a z=>?_,rfl⟩
    ·have:(fun a=>0=0/\F' a)=F':=by funext a;simp
     rw [this];exact o.ap
    ·rcases o.fi a z.2 with y | y
     ·exact .inl ⟨rfl,y⟩
     ·exact .inr y
   | succ j=>simp at e
 have L:=r.leave (inv:=inv) (env2:=w.set i (some (reS s0 A'))) (fun a b j ha hb=>by rw [(c a j ha).1,(c b j hb).1]) rfl rfl (fun a u e n=>by show ab6 p m inv a=_;rw [aft n];exact e)
  (fun a j ha x z=>by rw [(c a j ha).1];exact z.2) (fun a j ha=>by rw [(c a j ha).1,(c a j ha).2,N];rfl) J (fun a j ha=>⟨A',by rw [(c a j ha).2];rfl⟩) (by simp) fun j Y e=>by
   by_cases hj:j=i
   ·subst hj
    rw [aD1,aE8 rfl,aE8 hi] at e
    cases e
    refine .inr ⟨0,A,A',d,rfl,?_⟩
    rcases O with rfl | rfl
    ·exact .inl ⟨D,rfl⟩
    ·exact .inr ⟨D,rfl⟩
   ·rw [aD1,aE9 (fun z=>hj z.symm)] at e
    exact .inl ⟨g j hj,e⟩
 have X:RsX ⟨K,M,p,ab6 p m inv,[some v0],fun j a=>j=0/\m i a⟩ G' H' v Fv s (fun j a=>j=0/\F' a):=⟨o.ok,fun a z=>(o.fv a z).1,fun a z=>(o.fv a z).2.1,fun a z=>(o.fv a z).2.2.1,fun j a z y=>(o.fv a z).2.2.2 y.2⟩
 exact k v G' H' _ Fv s _ L (S.trans o.gg) (X.leave (inv:=inv) r rfl) q
end
def aip:Option Sl->Option Sl
 | some (.own A)=>some (.io A)
 | s=>s
def aau (src:List (Option Nat)) (env:En):En:=src.map fun o=>match o with | some j=>aip ((env[j]?).getD none) | none=>none
def isIo:Option Sl->Bool
 | some (.io _)=>true
 | _=>false
def idxE (i:Nat):List (Option Nat)->Nat->Option Nat
 | [],_=>none
 | o :: r,k=>if o=some i then some k else idxE i r (k+1)
def ag6 (src:List (Option Nat)) (e:En) (i:Nat) (s:Option Sl):Option Sl :=
 match s with
 | some (.own A)=>(match idxE i src 0 with | some j=>(match e[j]? with | some (some (.io A'))=>some (.own A') | _=>none) | none=>some (.own A))
 | some (.io A)=>(match idxE i src 0 with | some j=>(match e[j]? with | some (some (.io A'))=>some (.io A') | _=>none) | none=>some (.io A))
 | s=>s
def aff (src:List (Option Nat)) (e:En):Nat->En->En
 | _,[]=>[]
 | k,s :: r=>ag6 src e k s :: aff src e (k+1) r
def aiq (src:List (Option Nat)) (e1 e:En):En:=aff src e 0 e1
theorem afu (src:List (Option Nat)) (e:En):∀ (k:Nat) (l:En) (i:Nat),(aff src e k l)[i]?=(l[i]?).map (ag6 src e (k+i))
 | _,[],i=>by simp [aff]
 | k,s :: r,0=>by simp [aff]
 | k,s :: r,i+1=>by
  have:=afu src e (k+1) r i
  simp only [aff,aH4,this]
  rw [show k+1+i=k+(i+1) by omega]
theorem ae0 {i:Nat}:∀ {src:List (Option Nat)} {k j:Nat},idxE i src k=some j->k<=j/\src[j - k]?=some (some i)
 | [],_,_,h=>by cases h
 | o :: r,k,j,h=>by
  unfold idxE at h
  by_cases e:o=some i
  ·rw [aE8 e] at h;cases h
   exact ⟨aA6 _,by simp [e]⟩
  ·rw [aE9 e] at h
   obtain ⟨b,a⟩:=ae0 h
   refine ⟨by omega,?_⟩
   rw [show j - k=(j - (k+1))+1 by omega]
   simpa using a
theorem akh {i:Nat}:∀ {src:List (Option Nat)} {k:Nat},idxE i src k=none->∀ j:Nat,src[j]? ≠ some (some i)
 | [],_,_,j=>by simp
 | o :: r,k,h,j=>by
  unfold idxE at h
  by_cases e:o=some i
  ·rw [aE8 e] at h;cases h
  ·rw [aE9 e] at h
   cases j with
   | zero=>simpa using e
   | succ j=>simpa using akh h j
theorem amu:∀ (src:List (Option Nat)),(src.filterMap id).Nodup->∀ j a i:Nat,src[j]?=some (some i)->src[a]?=some (some i)->j=a
 | [],_,j,_,_,h,_=>by simp at h
 | none :: r,h,j,a,i,h1,h2=>by
  cases j with
  | zero=>simp at h1
  | succ j =>
   cases a with
   | zero=>simp at h2
   | succ a=>rw [amu r (by simpa using h) j a i (by simpa using h1) (by simpa using h2)]
 | some x :: r,h,j,a,i,h1,h2=>by
  have h':=aH7.mp (show (x :: r.filterMap id).Nodup by simpa using h)
  have c:∀ k,r[k]?=some (some x)->False:=fun k d=>h'.1 (List.mem_filterMap.mpr ⟨some x,aA2 d,rfl⟩)
  cases j with
  | zero =>
   have b:x=i:=by simpa using h1
   subst b
   cases a with
   | zero=>rfl
   | succ a=>exact (c a (by simpa using h2)).elim
  | succ j =>
   cases a with
   | zero =>
    have b:x=i:=by simpa using h2
    subst b
    exact (c j (by simpa using h1)).elim
   | succ a=>rw [amu r h'.2 j a i (by simpa using h1) (by simpa using h2)]
def ag7:Option Sl->Bool
 | some (.own _)=>true
 | _=>false
def ioLe:En->En->Prop
 | a :: r,b :: s=>(isIo a=isIo b/\ag7 b=false)/\ioLe r s
 | [],[]=>True
 | _,_=>False
theorem amv {x:Option Sl} (h:isIo x=true):∃ A,x=some (.io A):=by
 cases x with
 | none=>simp [isIo] at h
 | some y =>
  cases y with
  | io A=>exact ⟨A,rfl⟩
  | _=>simp [isIo] at h
theorem ioLe.get:∀ {a b:En} {j:Nat} {x:Option Sl},ioLe a b->a[j]?=some x->isIo x=true->∃ A,b[j]?=some (some (.io A))
 | [],_,_,_,_,e,_=>by simp at e
 | x :: r,[],_,_,h,_,_=>h.elim
 | x :: r,y :: s,0,z,h,e,p=>by
  simp at e;subst e
  have:=h.1.1
  rw [p] at this
  obtain ⟨A,q⟩:=amv this.symm
  exact ⟨A,by simp [q]⟩
 | x :: r,y :: s,j+1,z,h,e,p=>by
  obtain ⟨A,q⟩:=ioLe.get (j:=j) h.2 (by simpa using e) p
  exact ⟨A,by simpa using q⟩
theorem ioLe.got:∀ {a b:En} {j:Nat} {x:Option Sl},ioLe a b->b[j]?=some x->(isIo x=true->∃ A,a[j]?=some (some (.io A)))/\ag7 x=false
 | [],[],_,_,_,e=>by simp at e
 | [],_ :: _,_,_,h,e=>h.elim
 | x :: r,[],_,_,h,_=>h.elim
 | x :: r,y :: s,0,z,h,e=>by
  simp at e;subst e
  refine ⟨fun p=>?_,h.1.2⟩
  have:=h.1.1
  rw [p] at this
  obtain ⟨A,q⟩:=amv this
  exact ⟨A,by simp [q]⟩
 | x :: r,y :: s,j+1,z,h,e=>by
  obtain ⟨p,q⟩:=ioLe.got (j:=j) (x:=z) h.2 (by simpa using e)
  exact ⟨fun t=>by obtain ⟨A,u⟩:=p t;exact ⟨A,by simpa using u⟩,q⟩
section
variable {B:Bs} {G H:Hp} {σ:St} {env:En} {F:Nat->Addr->Prop}
theorem VI.aside (I:VI B G H σ env F) {p:Addr} {o:HO} (d:∀ xs,o ≠ .tup xs) (b:G p=none) (hf:∀ j,¬ F j p) (hb:B.H p=none):VI B G (upd H p o) σ env F where
 gh:=fun a u e=>by rw [aae (aar e b)];exact I.gh a u e
 g0:=I.g0
 gn:=I.gn
 rs:=fun a u e=>by rw [aae (aar e (I.b_r hb))];exact I.rs a u e
 rb:=I.rb
 bh:=fun a u e=>by rw [aae (aar e hb)];exact I.bh a u e
 fg:=I.fg
 fr:=I.fr
 fd:=I.fd
 fo:=fun j a z=>by rw [aae (fun e:a=p=>hf j (e ▸ z))];exact I.fo j a z
 sl:=fun i s e=>by
  obtain ⟨v,c,q⟩:=I.sl i s e
  exact ⟨v,c,q.mono (Same.refl _) fun a u z y=>by rw [aae (fun e:a=p=>hf i (e ▸ z))];exact y⟩
 ln:=I.ln
 ft:=fun a f e=>by
  by_cases z:a=p
  ·subst z;rw [aaf] at e;exact absurd (aC5 e) (d _)
  ·rw [aae z] at e;exact I.ft a f e
def LcV (K:Frag) (src:List (Option Nat)) (g:TG) (tif:TT) (te:TE) (ds:List PyData) (e1:En) (R:List PyData->En->Prop):Prop:=∃ J:Nat->List PyData->En->Prop,J 0 [] (aau src e1)/\(∀ i ys e,J i ys e->ioLe (aau src e1) e) /\
 (∀ i d ys e,ds[i]?=some d->J i ys e->∀ B':Bs,B'.K=K->EvG B' g (.st d) e fun e2=>EvT B' tif e2 fun b e3=>if b=true then Ev B' te e3 fun y e4=>ys.length<=999999/\J (i+1) (ys ++ [y]) e4 else J (i+1) ys e3)/\∀ ys e,J ds.length ys e->R ys (aiq src e1 e)
theorem aki {src:List (Option Nat)} {j:Nat} {s:Sl} (h:(aau src env)[j]?=some (some s)):∃ i t,src[j]?=some (some i)/\env[i]?=some (some t)/\aip (some t)=some s:=by
 unfold aau at h
 rw [aA5] at h
 cases e:src[j]? with
 | none=>rw [e] at h;cases h
 | some o =>
  rw [e] at h
  cases o with
  | none=>cases h
  | some i =>
   simp only [aH5,Option.some.injEq] at h
   cases e2:env[i]? with
   | none=>rw [e2] at h;cases h
   | some o2 =>
    rw [e2] at h
    cases o2 with
    | none=>cases h
    | some t=>exact ⟨i,t,rfl,e2,h⟩
theorem aus {src:List (Option Nat)} {i j:Nat} {v:V} (h:src[j]?=some (some i)) (a : σ[i]?=some (some v)):(pick src σ)[j]?=some (some v):=by
 unfold pick
 rw [aA5,h]
 simp [a]
theorem ase {src:List (Option Nat)} {wi:TI} {g:TG} {b1:TT} {te:TE} {QO:Sl->En->Prop} (nd:(src.filterMap id).Nodup) (h:EvI B wi env fun ds U=>LcV B.K src g b1 te ds U fun ys e2=>QO (.own (OL ys)) e2):EvO B (tLC src wi g b1 te) env QO:=fun σ G H F Q I k=>by
 refine h σ G H F _ I fun J G1 H1 F1 ds U I1 g1 it ⟨Jv,j0,a7,js,jd⟩ p T=>?_
 let M:Nat->Bool:=fun i=>match U[i]? with | some (some (.own _))=>true | some (some (.io _))=>true | _=>false
 let inv:Nat->Option Nat:=fun i=>if M i=true then idxE i src 0 else none
 have D:∀ i j,inv i=some j->src[j]?=some (some i)/\M i=true:=fun i j hi=>by
  by_cases hm:M i=true
  ·have f:idxE i src 0=some j:=by simpa [inv,hm] using hi
   have:=(ae0 f).2
   exact ⟨by simpa using this,hm⟩
  ·simp [inv,hm] at hi
 have a3:∀ i j,src[j]?=some (some i)->M i=true->inv i=some j:=fun i j X hm=>by
  have e0:inv i=idxE i src 0:=by simp [inv,hm]
  cases e:idxE i src 0 with
  | none=>exact absurd X (akh e j)
  | some j' =>
   have:=(ae0 e).2
   rw [e0,e,amu src nd j j' i X (by simpa using this)]
 have inj:∀ i c j,inv i=some j->inv c=some j->i=c:=fun i c j Y C=>by
  have a:=(D i j Y).1
  rw [(D c j C).1] at a
  simpa using a.symm
 have b0:∀ i,M i=true->∃ A,U[i]?=some (some (.own A))\/U[i]?=some (some (.io A)):=fun i hm=>by
  cases e:U[i]? with
  | none=>simp [M,e] at hm
  | some o =>
   cases o with
   | none=>simp [M,e] at hm
   | some s =>
    cases s with
    | own A=>exact ⟨A,.inl rfl⟩
    | io A=>exact ⟨A,.inr rfl⟩
    | st d=>simp [M,e] at hm
    | scr ns=>simp [M,e] at hm
 have b2:∀ i ys e,Jv i ys e->∀ c j,inv c=some j->∃ A,e[j]?=some (some (.io A)):=fun i ys e hj c j hi=>by
  obtain ⟨X,hm⟩:=D c j hi
  obtain ⟨A,N⟩:=b0 c hm
  refine (a7 i ys e hj).get (x:=some (.io A)) ?_ rfl
  unfold aau
  rw [aA5,X]
  rcases N with N | N <;> simp [N,aip]
 -- between two turns
 let Wv:Nat->List V->St->Hp->Prop:=fun i ys σI H=>∃ G2 F2 e env2 yd,VI B G2 H σ env2 F2/\Same G1 G2/\H p=some (.lst ys)/\Rps G2 ys yd/\G2 p=none/\(∀ j,¬ F2 j p)/\Jv i yd e/\σI.length=e.length/\env2.length=U.length /\
  (∀ j s,e[j]?=some (some s)->∃ v,σI[j]?=some (some v)/\((∃ d,s=.st d/\Rp G2 v d/\∀ i,inv i ≠ some j)\/(∃ ns a,s=.scr ns/\v=.ref a/\SqL B.K G2 a (ns.map V.int)/\∀ i,inv i ≠ some j) ∨
   ∃ i A,inv i=some j/\s=.io A/\σ[i]?=some (some v)/\(env2[i]?=some (some (.own A))\/env2[i]?=some (some (.io A))))) /\
  (∀ i,inv i=none->env2[i]?=U[i]?)/\(∀ i j,inv i=some j->∃ A0 A,e[j]?=some (some (.io A))/\((U[i]?=some (some (.own A0))/\env2[i]?=some (some (.own A)))\/(U[i]?=some (some (.io A0))/\env2[i]?=some (some (.io A)))))
 have hb:B.H p=none:=I1.no_b T
 refine ⟨fun i m ys σI H=>m=ds.length - i/\i<=ds.length/\Wv i ys σI H,⟨ds.length,by simp,aF3 _,?_⟩,?_⟩
 ·refine ⟨G1,F1,aau src U,U,[],I1.aside (fun _ z=>nomatch z) (I1.no_g T) (I1.no_f T) hb,Same.refl _,aaf,.nil,I1.no_g T,I1.no_f T,j0,by simp [pick,aau],rfl,fun j s e=>?_,fun _ _=>rfl,fun i j hi=>?_⟩
  ·obtain ⟨i,t,X,ht,hp⟩:=aki e
   obtain ⟨v,hv,q⟩:=I1.sl i t ht
   refine ⟨v,aus X hv,?_⟩
   cases t with
   | st d =>
    cases hp
    refine .inl ⟨d,rfl,q.1,fun c f=>?_⟩
    have a:=(D c j f).1
    rw [X] at a
    have:i=c:=by simpa using a
    subst this
    have:=(D i j f).2
    simp [M,ht] at this
   | scr ns =>
    cases hp
    obtain ⟨⟨a,ea,sq⟩,_⟩:=q
    refine .inr (.inl ⟨ns,a,rfl,ea,sq,fun c f=>?_⟩)
    have a:=(D c j f).1
    rw [X] at a
    have:i=c:=by simpa using a
    subst this
    have:=(D i j f).2
    simp [M,ht] at this
   | own A=>cases hp;exact .inr (.inr ⟨i,A,a3 i j X (by simp [M,ht]),rfl,hv,.inl ht⟩)
   | io A=>cases hp;exact .inr (.inr ⟨i,A,a3 i j X (by simp [M,ht]),rfl,hv,.inr ht⟩)
  ·obtain ⟨X,hm⟩:=D i j hi
   obtain ⟨A,N⟩:=b0 i hm
   refine ⟨A,A,?_,?_⟩
   ·unfold aau
    rw [aA5,X]
    rcases N with N | N <;> simp [N,aip]
   ·rcases N with N | N
    ·exact .inl ⟨N,N⟩
    ·exact .inr ⟨N,N⟩
 ·rintro i m ys σI H2 ⟨rfl,hi,G2,F2,e,env2,yd,I2,g2,a1,ry,ga,fa,jv,ln,b8,sl,un,mv⟩
  refine ⟨a1,?_⟩
  by_cases hlt:i < ds.length
  ·refine .inr ⟨it.go i G2 H2 g2 I2.gh hlt,Wv (i+1),fun a2 c2 H' hw=>⟨ds.length - (i+1),by omega,rfl,hlt,hw⟩,fun x H3 y=>?_⟩
   obtain ⟨G3,o⟩:=it.yld i G2 H2 x H3 _ g2 I2.gh I2.ft (aA0 hlt) y
   obtain ⟨I3,X3⟩:=I2.out o
   have a6:=o.hh _ _ a1
   have a8:=fa
   have b6:G3 p=none:=by
    cases e':G3 p with
    | none=>rfl
    | some u =>
     rcases o.gn p u e' with q | q
     ·rw [ga] at q;cases q
     ·rw [a1] at q;cases q
   have b9:∀ j s,e[j]?=some (some s)->∃ v,σI[j]?=some (some v)/\((∃ d,s=.st d/\Rp G3 v d/\∀ i,inv i ≠ some j)\/(∃ ns a,s=.scr ns/\v=.ref a/\SqL B.K G3 a (ns.map V.int)/\∀ i,inv i ≠ some j) ∨
     ∃ i A,inv i=some j/\s=.io A/\σ[i]?=some (some v)/\(env2[i]?=some (some (.own A))\/env2[i]?=some (some (.io A)))):=fun j s es=>by
    obtain ⟨v,hv,q⟩:=sl j s es
    refine ⟨v,hv,?_⟩
    rcases q with ⟨d,a9,r,n⟩ | ⟨ns,a,a9,b5,r,n⟩ | q
    ·exact .inl ⟨d,a9,r.same o.gg,n⟩
    ·exact .inr (.inl ⟨ns,a,a9,b5,o.gg.seq r,n⟩)
    ·exact .inr (.inr q)
   have E3:=I3.enter (inv:=inv) (σI:=σI) (envI:=e) inj ln b9
   -- back from the turn
   have fin:∀ (R:St) (G4 H4:Hp) (F4:Nat->Addr->Prop) (e4:En) (Z:List PyData) (a2:List V) (o4:HO),VI ⟨B.K,G3,H3,ab6 H3 F2 inv,σI,fun j a=>∃ i,inv i=some j/\F2 i a⟩ G4 H4 R e4 F4->Jv (i+1) Z e4->Rps G4 a2 Z ->
     Wv (i+1) a2 R (upd H4 p (.lst a2))/\H4 p=some (.lst ys):=by
    intro R G4 H4 F4 e4 Z a2 o4 I4 j4 r4
    have a4:=b2 (i+1) Z e4 j4
    have b7:H4 p=some (.lst ys):=I4.rs p _ (by show ab6 H3 F2 inv p=_;rw [aft (fun c _ _=>a8 c)];exact a6)
    have b4:G4 p=none:=by
     cases e':G4 p with
     | none=>rfl
     | some u =>
      rcases I4.gn p u e' with q | q
      ·change G3 p=_ at q;rw [b6] at q;cases q
      ·change H3 p=_ at q;rw [a6] at q;cases q
    -- the slots of the outer frame
    let E:En:=(List.range env2.length).map fun c=>match inv c with
     | some j=>(match env2[c]?,e4[j]? with | some (some (.own _)),some (some (.io A))=>some (.own A) | some (some (.io _)),some (some (.io A))=>some (.io A) | _,_=>none)
     | none=>(env2[c]?).getD none
    have P:∀ c,c < env2.length->E[c]?=some (match inv c with
     | some j=>(match env2[c]?,e4[j]? with | some (some (.own _)),some (some (.io A))=>some (.own A) | some (some (.io _)),some (some (.io A))=>some (.io A) | _,_=>none)
     | none=>(env2[c]?).getD none):=fun c hl=>by
     simp only [E,aA5]
     rw [aA0 (by simpa using hl)]
     simp
    have L:=I3.leave (inv:=inv) (env2:=E) inj rfl rfl (fun a u q n=>by show ab6 H3 F2 inv a=_;rw [aft n];exact q) (fun c j f a z=>by obtain ⟨W,Y,C⟩:=z;rw [inj c W j f Y];exact C)
     (fun c j f=>by
      obtain ⟨A0,A,Y,C⟩:=mv c j f
      obtain ⟨v,hv,q⟩:=sl j _ Y
      rcases q with ⟨d,q,_⟩ | ⟨ns,a,q,_⟩ | ⟨W,c0,q1,q2,q3,_⟩
      ·cases q
      ·cases q
      ·rw [inj c W j f q1]
       show σI[j]?=_
       rw [hv,q3]) I4 a4 (by simp [E]) (fun c s es=>by
      have hl:c < env2.length:=by
       have:=(aA1.mp es).1
       simpa [E] using this
      rw [P c hl] at es
      cases f:inv c with
      | none =>
       refine .inl ⟨rfl,?_⟩
       rw [f] at es
       simp only [Option.some.injEq] at es
       cases q:env2[c]? with
       | none=>rw [q] at es;cases es
       | some u=>rw [q] at es;simp at es;rw [es]
      | some j =>
       rw [f] at es
       obtain ⟨A',S⟩:=a4 c j f
       obtain ⟨A0,A,Y,C⟩:=mv c j f
       simp only [S] at es
       rcases C with ⟨_,C⟩ | ⟨_,C⟩
       ·rw [C] at es
        simp only [Option.some.injEq] at es
        exact .inr ⟨j,A,A',rfl,S,.inl ⟨C,es.symm⟩⟩
       ·rw [C] at es
        simp only [Option.some.injEq] at es
        exact .inr ⟨j,A,A',rfl,S,.inr ⟨C,es.symm⟩⟩)
    have b3:∀ j,¬ (match inv j with | some j=>F4 j p | none=>F2 j p):=fun j z=>by
     cases hj:inv j with
     | none=>rw [hj] at z;exact a8 j z
     | some l =>
      rw [hj] at z
      obtain ⟨A',S⟩:=a4 j l hj
      obtain ⟨v,_,q⟩:=I4.sl l _ S
      rcases q.2.1 p z with ⟨W,_,q⟩ | q
      ·exact a8 W q
      ·change H3 p=_ at q;rw [a6] at q;cases q
    refine ⟨⟨G4,_,e4,E,Z,L.aside (fun _ z=>nomatch z) b4 b3 hb,g2.trans (o.gg.trans I4.g0),aaf,r4,b4,b3,j4,I4.ln,by simp [E,b8],fun j s es=>?_,fun c f=>?_,fun c j f=>?_⟩,b7⟩
    ·obtain ⟨v,hv,q⟩:=I4.sl j s es
     refine ⟨v,hv,?_⟩
     have a0:(∀ A,s ≠ .io A)->∀ c,inv c ≠ some j:=fun hn c f=>by
      obtain ⟨A,N⟩:=a4 c j f
      rw [es] at N
      exact hn A (by simpa using N)
     cases s with
     | st d=>exact .inl ⟨d,rfl,q.1,a0 (by intro A z;cases z)⟩
     | scr ns =>
      obtain ⟨⟨a,ea,sq⟩,_⟩:=q
      exact .inr (.inl ⟨ns,a,rfl,ea,sq,a0 (by intro A z;cases z)⟩)
     | own A =>
      have:=((a7 _ _ _ j4).got es).2
      simp [ag7] at this
     | io A =>
      obtain ⟨A0,h0⟩:=((a7 _ _ _ j4).got es).1 rfl
      obtain ⟨c,t,X,ht,hp⟩:=aki h0
      have hm:M c=true:=by
       cases t with
       | own A=>simp [M,ht]
       | io A=>simp [M,ht]
       | st d=>cases hp
       | scr ns=>cases hp
      have f:=a3 c j X hm
      obtain ⟨B0,A1,Y,C⟩:=mv c j f
      have hl:c < env2.length:=by
       rcases C with ⟨_,C⟩ | ⟨_,C⟩ <;> exact (aA1.mp C).1
      refine .inr (.inr ⟨c,A,f,rfl,?_,?_⟩)
      ·have hS : σI[j]?=some (some v):=q.2.2
       obtain ⟨v',c1,q'⟩:=sl j _ Y
       rcases q' with ⟨d,q',_⟩ | ⟨ns,a,q',_⟩ | ⟨W,c0,q1,q2,q3,_⟩
       ·cases q'
       ·cases q'
       ·rw [inj c W j f q1,q3,← c1,hS]
      ·rw [P c hl,f]
       simp only [es]
       rcases C with ⟨_,C⟩ | ⟨_,C⟩
       ·rw [C];exact .inl rfl
       ·rw [C];exact .inr rfl
    ·by_cases hl:c < env2.length
     ·rw [P c hl,f]
      simp only
      rw [← un c f]
      rw [aA0 hl];rfl
     ·rw [aF0.mpr (by simp [E];omega),← un c f,aF0.mpr (by omega)]
    ·obtain ⟨A',S⟩:=a4 c j f
     obtain ⟨A0,A,Y,C⟩:=mv c j f
     have hl:c < env2.length:=by
      rcases C with ⟨_,C⟩ | ⟨_,C⟩ <;> exact (aA1.mp C).1
     refine ⟨A0,A',S,?_⟩
     rw [P c hl,f]
     simp only [S]
     rcases C with ⟨h3,C⟩ | ⟨h3,C⟩
     ·rw [C];exact .inl ⟨h3,rfl⟩
     ·rw [C];exact .inr ⟨h3,rfl⟩
   have hd:ds[i]?=some ds[i]:=aA0 hlt
   refine js i _ yd e hd jv ⟨B.K,G3,H3,ab6 H3 F2 inv,σI,fun j a=>∃ i,inv i=some j/\F2 i a⟩ rfl σI G3 H3 _ x _ _ E3 (aen o.ok.1) fun R G4 H4 F4 e4 I4 g4 q4=>?_
   refine q4 R G4 H4 F4 _ I4 fun b G5 H5 F5 e5 I5 g5 q5=>?_
   cases b with
   | false =>
    rw [aE9 aA9] at q5 ⊢
    obtain ⟨w,ac⟩:=fin R G5 H5 F5 e5 yd ys (.lst ys) I5 q5 (ry.same (o.gg.trans (g4.trans g5)))
    have:upd H5 p (.lst ys)=H5:=by
     funext b
     unfold upd
     split
     ·rename_i hb';rw [hb'];exact ac.symm
     ·rfl
    rw [this] at w
    exact w
   | true =>
    rw [aE8 rfl] at q5 ⊢
    refine q5 R G5 H5 F5 _ I5 fun y G6 H6 F6 d6 e6 I6 g6 r6 q6=>?_
    obtain ⟨w,ac⟩:=fin R G6 H6 F6 e6 (yd ++ [d6]) (ys ++ [y]) (.lst ys) I6 q6.2 ((ry.same (o.gg.trans (g4.trans (g5.trans g6)))).append (.cons r6 .nil))
    exact ⟨ac,by rw [ry.length];exact big (by have:=q6.1;omega),w⟩
  ·have ei:i=ds.length:=by omega
   subst ei
   refine .inl ⟨it.stop _ G2 H2 g2 I2.gh rfl,?_⟩
   have q:=jd yd e jv
   have eb:aiq src U e=env2:=by
    apply aF5
    intro c
    unfold aiq
    rw [afu,Nat.zero_add]
    have O:M c=false->env2[c]?=U[c]?:=fun hm=>un c (by simp [inv,hm])
    cases e2:U[c]? with
    | none =>
     rw [O (by simp [M,e2]),e2];rfl
    | some o =>
     cases o with
     | none=>rw [O (by simp [M,e2]),e2];rfl
     | some t =>
      have a5:∀ A,(t=.own A\/t=.io A)->M c=true:=fun A h=>by rcases h with rfl | rfl <;> simp [M,e2]
      cases t with
      | st d=>rw [O (by simp [M,e2]),e2];rfl
      | scr ns=>rw [O (by simp [M,e2]),e2];rfl
      | own A =>
       have hm:=a5 A (.inl rfl)
       simp only [aH5,ag6]
       cases e3:idxE c src 0 with
       | none =>
        have:inv c=none:=by simp [inv,e3]
        rw [un c this,e2]
       | some j =>
        have f:inv c=some j:=by simp [inv,hm,e3]
        obtain ⟨A0,A1,Y,C⟩:=mv c j f
        simp only [Y]
        rcases C with ⟨h3,C⟩ | ⟨h3,C⟩
        ·rw [C]
        ·rw [e2] at h3;cases h3
      | io A =>
       have hm:=a5 A (.inr rfl)
       simp only [aH5,ag6]
       cases e3:idxE c src 0 with
       | none =>
        have:inv c=none:=by simp [inv,e3]
        rw [un c this,e2]
       | some j =>
        have f:inv c=some j:=by simp [inv,hm,e3]
        obtain ⟨A0,A1,Y,C⟩:=mv c j f
        simp only [Y]
        rcases C with ⟨h3,C⟩ | ⟨h3,C⟩
        ·rw [e2] at h3;cases h3
        ·rw [C]
   rw [eb] at q
   refine k (.ref p) G2 H2 F2 (· = p) (.own (OL yd)) env2 I2 (g1.trans g2) ⟨⟨p,ys,rfl,a1,ry,fun b=>Iff.rfl⟩,fun a z=>by rw [z];exact hb,fun a z=>by rw [z];exact ga,fun a z=>by rw [z];exact ⟨_,a1⟩,fun j a z=>by rw [z];exact fa j⟩ q
end
def noIo (e:En):Bool:=e.all fun s => !isIo s
theorem aut {e:En} {j:Nat} {x:Option Sl} (h:noIo e=true) (a:e[j]?=some x):isIo x=false:=by
 have:=aE7.mp h x (aA2 a)
 simpa using this
theorem ag8 {src:List (Option Nat)} {b e:En} (h:noIo (aau src b)=true):aiq src b e=b:=by
 apply aF5
 intro i
 unfold aiq
 rw [afu,Nat.zero_add]
 cases e2:b[i]? with
 | none=>rfl
 | some o =>
  have a:∀ A,(o=some (.own A)\/o=some (.io A))->idxE i src 0=none:=fun A c=>by
   cases e3:idxE i src 0 with
   | none=>rfl
   | some j =>
    have f:=(ae0 e3).2
    have:(aau src b)[j]?=some (some (.io A)):=by
     unfold aau
     rw [aA5,show src[j]?=some (some i) by simpa using f]
     rcases c with rfl | rfl <;> simp [e2,aip]
    have:=aut h this
    simp [isIo] at this
  cases o with
  | none=>rfl
  | some t =>
   cases t with
   | st d=>rfl
   | scr ns=>rfl
   | own A=>simp only [aH5,ag6,a A (.inl rfl)]
   | io A=>simp only [aH5,ag6,a A (.inr rfl)]
def stO:Option PyData->Option Sl:=Option.map Sl.st
theorem isIo_stO {o:Option PyData}:isIo (stO o)=false:=by cases o <;> rfl
theorem adw {o:Option PyData}:ag7 (stO o)=false:=by cases o <;> rfl
theorem adr {src:List (Option Nat)} {a:En}:∀ x∈aau src a,ag7 x=false:=by
 intro x b
 unfold aau at b
 obtain ⟨o,_,rfl⟩:=aB6.mp b
 cases o with
 | none=>rfl
 | some j =>
  dsimp only
  cases (a[j]?).getD none with
  | none=>rfl
  | some t=>cases t <;> rfl
theorem adx:∀ {e:En},(∀ x∈e,ag7 x=false)->ioLe e e
 | [],_=>True.intro
 | x :: r,h=>⟨⟨rfl,h x aB7⟩,adx fun y a=>h y (aB4 _ a)⟩
section
variable {B:Bs} {env:En} {g:TG} {tif:TT} {te:TE} {K:Frag} {src:List (Option Nat)} {ds:List PyData} {e1:En} {R:List PyData->En->Prop}
theorem auu (f:PyData->PyData) (p:PyData->Bool) (m:noIo (aau src e1)=true) (C:ds.length<=999999)
  (h:∀ d∈ds,∀ a:Bs,a.K=K->EvT a tif (some (.st d) :: aau src e1) fun b l=>b=p d/\l=some (.st d) :: aau src e1/\(b=true->Ev a te (some (.st d) :: aau src e1) fun y g=>y=f d/\g=some (.st d) :: aau src e1))
  (x:R ((ds.filter p).map f) e1):LcV K (none :: src) (abl 0) tif te ds e1 R:=by
 have c:noIo (aau (none :: src) e1)=true:=by
  show ((none :: aau src e1).all fun s => !isIo s)=true
  rw [List.all_cons]
  exact (aG4 _ _).mpr ⟨rfl,m⟩
 refine ⟨fun i ys e=>ys=((ds.take i).filter p).map f/\∃ o,e=stO o :: aau src e1,⟨by simp,none,rfl⟩,?_,?_,?_⟩
 ·rintro i ys e ⟨_,o,rfl⟩
  exact ⟨⟨isIo_stO.symm,adw⟩,adx adr⟩
 ·rintro i d ys e hd ⟨rfl,o,rfl⟩ a z
  have hi:i < ds.length:=(aA1.mp hd).1
  have q:ds.take (i+1)=ds.take i ++ [d]:=by rw [aG7,hd];rfl
  refine abf ?_
  show EvT a tif (some (.st d) :: aau src e1) _
  intro σ G H F Q I k
  refine h d (aA2 hd) a z σ G H F Q I fun b G' H' F' l n g' ⟨hb,w,r⟩=>k b G' H' F' l n g' ?_
  subst w
  by_cases hp:b=true
  ·rw [aE8 hp]
   intro σ G H F Q I k
   refine r hp σ G H F Q I fun v G' H' F' d' g n g' u ⟨A,j⟩=>k v G' H' F' d' g n g' u ?_
   subst A j
   refine ⟨?_,?_,some d,rfl⟩
   ·have:=aE6 p (ds.take i)
    simp only [aA3]
    have B:(ds.take i).length<=i:=by simp;omega
    omega
   ·rw [q,List.filter_append,aD9]
    have:p d=true:=by rw [← hb];exact hp
    simp [this]
  ·rw [aE9 hp]
   refine ⟨?_,some d,rfl⟩
   rw [q,List.filter_append,aD9]
   have:p d=false:=by rw [← hb];simpa using hp
   simp [this]
 ·rintro ys e ⟨rfl,o,rfl⟩
  rw [ag8 c,aG1]
  exact x
theorem aqe {α:Type} (xs:List α):xs.filter (fun _=>true)=xs:=by simp
theorem ao3 (f:PyData->PyData) (b:noIo (aau src e1)=true) (j:ds.length<=999999)
  (h:∀ d∈ds,∀ a:Bs,a.K=K->Ev a te (some (.st d) :: aau src e1) fun y c=>y=f d/\c=some (.st d) :: aau src e1)
  (g:R (ds.map f) e1):LcV K (none :: src) (abl 0) tYes te ds e1 R :=
 auu f (fun _=>true) b j (fun d hd a i=>ajr ⟨rfl,rfl,fun _=>h d hd a i⟩) (by rw [aqe];exact g)
theorem auv {r:Frag} {α:Type} {xs:List α} {fa fb : α->PyData} (f : α->PyData) (p : α->Bool) (m:noIo (aau src e1)=true) (E:xs.length<=999999)
  (h:∀ x∈xs,∀ a:Bs,a.K=K->EvT a tif (some (.st (fa x)) :: some (.st (fb x)) :: aau src e1) fun b l=>b=p x/\l=some (.st (fa x)) :: some (.st (fb x)) :: aau src e1/\(b=true->Ev a te (some (.st (fa x)) :: some (.st (fb x)) :: aau src e1) fun y g=>y=f x/\g=some (.st (fa x)) :: some (.st (fb x)) :: aau src e1))
  (A:R ((xs.filter p).map f) e1):LcV K (none :: none :: src) (gTup r 2 (agw (abl 0) (agw (abl 1) gNil))) tif te (xs.map fun x => .tuple [fa x,fb x]) e1 R:=by
 have c:noIo (aau (none :: none :: src) e1)=true:=by
  show ((none :: none :: aau src e1).all fun s => !isIo s)=true
  rw [List.all_cons,List.all_cons]
  exact (aG4 _ _).mpr ⟨rfl,(aG4 _ _).mpr ⟨rfl,m⟩⟩
 refine ⟨fun i ys e=>ys=((xs.take i).filter p).map f/\∃ o o',e=stO o :: stO o' :: aau src e1,⟨by simp,none,none,rfl⟩,?_,?_,?_⟩
 ·rintro i ys e ⟨_,o,o',rfl⟩
  exact ⟨⟨isIo_stO.symm,adw⟩,⟨isIo_stO.symm,adw⟩,adx adr⟩
 ·rintro i d ys e hd ⟨rfl,o,o',rfl⟩ a B
  rw [aA5] at hd
  cases hx:xs[i]? with
  | none=>rw [hx] at hd;cases hd
  | some x =>
   rw [hx] at hd
   cases hd
   have hi:i < xs.length:=(aA1.mp hx).1
   have q:xs.take (i+1)=xs.take i ++ [x]:=by rw [aG7,hx];rfl
   refine aoz rfl (agq (abf (agq (abf (amr ?_)))))
   show EvT a tif (some (.st (fa x)) :: some (.st (fb x)) :: aau src e1) _
   intro σ G H F Q I k
   refine h x (aA2 hx) a B σ G H F Q I fun b G' H' F' l n g' ⟨hb,z,u⟩=>k b G' H' F' l n g' ?_
   subst z
   by_cases hp:b=true
   ·rw [aE8 hp]
    intro σ G H F Q I k
    refine u hp σ G H F Q I fun v G' H' F' d' g n g' w ⟨C,j⟩=>k v G' H' F' d' g n g' w ?_
    subst C j
    refine ⟨?_,?_,some _,some _,rfl⟩
    ·have:=aE6 p (xs.take i)
     simp only [aA3]
     have D:(xs.take i).length<=i:=by simp;omega
     omega
    ·rw [q,List.filter_append,aD9]
     have:p x=true:=by rw [← hb];exact hp
     simp [this]
   ·rw [aE9 hp]
    refine ⟨?_,some _,some _,rfl⟩
    rw [q,List.filter_append,aD9]
    have:p x=false:=by rw [← hb];simpa using hp
    simp [this]
 ·rintro ys e ⟨rfl,o,o',rfl⟩
  rw [ag8 c]
  simpa using A
end
section
variable {R:Sl->Prop}
theorem axr {g:Int->Int->Int} {i j:Int} (h:R (.st (.int (g i j)))):Op2 (rI0 fun i j => .int (g i j)) (.int i) (.int j) R:=fun G H d c Q gh b a k=>by
 cases b;cases a
 exact ⟨i,j,rfl,rfl,k _ _ _ _ _ (Out.refl gh (.int _)) h⟩
theorem axs {g:Int->Int->Bool} {i j:Int} (h:R (.st (.bool (g i j)))):Op2 (rI0 fun i j => .bl (g i j)) (.int i) (.int j) R:=fun G H d c Q gh b a k=>by
 cases b;cases a
 exact ⟨i,j,rfl,rfl,k _ _ _ _ _ (Out.refl gh (.bl _)) h⟩
theorem az6 {C:Int->Int->Prop} {g:Int->Int->Int} {i j:Int} (a:C i j) (h:R (.st (.int (g i j)))):Op2 (rI C fun i j => .int (g i j)) (.int i) (.int j) R:=fun G H f d Q gh c b k=>by
 cases c;cases b
 exact ⟨i,j,rfl,rfl,a,k _ _ _ _ _ (Out.refl gh (.int _)) h⟩
theorem az7 {g:Int->Int} {i:Int} (h:R (.st (.int (g i)))):Op1 (rU fun i => .int (g i)) (.int i) R:=fun G H b Q gh a k=>by
 cases a
 exact ⟨i,rfl,k _ _ _ _ _ (Out.refl gh (.int _)) h⟩
theorem axt {i j:Int} (h:R (.st (.bool (decide (i=j))))):Op2 rEq (.int i) (.int j) R:=fun G H d c Q gh b a k=>by
 cases b;cases a
 exact ar0 (k _ _ _ _ _ (Out.refl gh (.bl _)) h)
theorem axu {i j:Int} (h:R (.st (.bool (!decide (i=j))))):Op2 rNe (.int i) (.int j) R:=fun G H d c Q gh b a k=>by
 cases b;cases a
 exact azm (k _ _ _ _ _ (Out.refl gh (.bl _)) h)
theorem ao4 {x y:PyData} (b:aas x=true) (a:aas y=true) (hd:x.depth<=60) (h:R (.st (.bool (PyData.eqv x y)))):Op2 rEqD x y R:=fun G H g f Q gh d c k =>
 ⟨x,y,(d.rep b).same gh,(c.rep a).same gh,b,a,hd,k _ _ _ _ _ (Out.refl gh (.bl _)) h⟩
theorem aea {x y:PyData} (b:aas x=true) (a:aas y=true) (hd:x.depth<=60) (h:R (.st (.bool (!PyData.eqv x y)))):Op2 rNeD x y R:=fun G H g f Q gh d c k =>
 ⟨x,y,(d.rep b).same gh,(c.rep a).same gh,b,a,hd,k _ _ _ _ _ (Out.refl gh (.bl _)) h⟩
theorem ao5 {a:Bool} {x:PyData} {es:List PyData} (c:aas x=true) (b:plainDs es=true) (hd:x.depth<=60) (h:R (.st (.bool (if a then !es.any (fun z=>PyData.eqv z x) else es.any (fun z=>PyData.eqv z x))))):Op2 (rInD a) x (.list es) R:=fun G H i g Q gh f d k =>
 ⟨x,es,(f.rep c).same gh,.inl ((d.rep (by simpa [aas] using b)).same gh),c,b,hd,k _ _ _ _ _ (Out.refl gh (.bl _)) h⟩
theorem Rps.at {G:Hp} {vs:List V} {ds:List PyData} {i:Int} {d:PyData} (r:Rps G vs ds) (h:atI ds i=some d):∃ v,atI vs i=some v/\Rp G v d:=by
 unfold atI at h ⊢
 rw [r.length]
 cases e:ixN ds.length i with
 | none=>rw [e] at h;cases h
 | some j =>
  rw [e] at h
  exact r.get h
theorem axv {K:Frag} {ds:List PyData} {i:Int} {d:PyData} (hd:atI ds i=some d) (h:R (.st d)):Op2 (acg K) (.list ds) (.int i) R:=fun G H j g Q gh f c k=>by
 cases c
 cases f with
 | lst ha rs =>
  obtain ⟨v,b,a⟩:=rs.at hd
  exact afq (gh _ _ ha) b (k _ _ _ _ _ (Out.refl gh a) h)
theorem axw {K:Frag} {ds:List PyData} {i:Int} {d:PyData} (hd:atI ds i=some d) (h:R (.st d)):Op2 (acg K) (.tuple ds) (.int i) R:=fun G H j g Q gh f c k=>by
 cases c
 cases f with
 | tup ha rs =>
  obtain ⟨v,b,a⟩:=rs.at hd
  exact afr (gh _ _ ha) b (k _ _ _ _ _ (Out.refl gh a) h)
def isNone:PyData->Bool
 | .none=>true
 | _=>false
theorem ao6 {G:Hp} {v:V} {x:PyData} (r:Rp G v x):decide (v=.non)=isNone x:=by cases r <;> rfl
theorem axx {x:PyData} (h:R (.st (.bool (isNone x)))):Op2 rIsN x .none R:=fun G H d c Q gh b a k=>by
 cases a
 refine ⟨rfl,?_⟩
 rw [ao6 b]
 exact k _ _ _ _ _ (Out.refl gh (.bl _)) h
theorem auw {x:PyData} (h:R (.st (.bool (!isNone x)))):Op2 awa x .none R:=fun G H d c Q gh b a k=>by
 cases a
 refine ⟨rfl,?_⟩
 rw [ao6 b]
 exact k _ _ _ _ _ (Out.refl gh (.bl _)) h
theorem axy {xs ys:List PyData} (b:xs.length+ys.length<=1000000) (h:R (.own (OL (xs ++ ys)))):Op2 rCat (.list xs) (.list ys) R:=fun G H g f Q gh d c k=>by
 cases d with
 | lst ha ra =>
  cases c with
  | lst hb rb =>
   refine azq (gh _ _ ha) (gh _ _ hb) ?_ fun p a=>k _ _ _ _ _ (Out.newL gh a (ra.append rb)) h
   rw [ra.length,rb.length];exact aF8 (big b)
theorem axz {xs:List PyData} {n:Int} (c : -(2 ^ 63)<=n) (d:n < 2 ^ 63) (f:xs.length * n.toNat<=1000000) (h:R (.own (OL (List.replicate n.toNat xs).flatten))):Op2 rRep (.list xs) (.int n) R:=fun G H i j Q gh b g k=>by
 cases g
 cases b with
 | lst ha ra =>
  refine ⟨_,n,_,rfl,rfl,gh _ _ ha,c,d,?_,fun p a=>k _ _ _ _ _ (Out.newL gh a (ra.rep _)) h⟩
  rw [ra.length];exact aF8 (big f)
theorem aux {K:Frag} {xs:List PyData} (h:R (.st (.int xs.length))):OpA (rLen K) [.list xs] R:=fun G H vs Q gh rs k=>by
 cases rs with
 | cons r t =>
  cases t
  cases r with
  | lst ha ra =>
   refine aok (gh _ _ ha) ?_
   rw [ra.length]
   exact k _ _ _ _ _ (Out.refl gh (.int _)) h
theorem auy {K:Frag} {xs:List PyData} (h:R (.st (.int xs.length))):OpA (rLen K) [.tuple xs] R:=fun G H vs Q gh rs k=>by
 cases rs with
 | cons r t =>
  cases t
  cases r with
  | tup ha ra =>
   refine aw7 (gh _ _ ha) ?_
   rw [ra.length]
   exact k _ _ _ _ _ (Out.refl gh (.int _)) h
theorem auz {i j:Int} (h:R (.st (.int (if j > i then j else i)))):OpA ala [.int i,.int j] R:=fun G H vs Q gh rs k=>by
 obtain rfl:vs=[V.int i,V.int j]:=Rps.ints_inv (ns:=[i,j]) rs
 exact aol (k _ _ _ _ _ (Out.refl gh (.int _)) h)
theorem au0 {i j:Int} (h:R (.st (.int (if j < i then j else i)))):OpA alb [.int i,.int j] R:=fun G H vs Q gh rs k=>by
 obtain rfl:vs=[V.int i,V.int j]:=Rps.ints_inv (ns:=[i,j]) rs
 exact aom (k _ _ _ _ _ (Out.refl gh (.int _)) h)
theorem au1 {b:Bool} (h:R (.st (.int (if b then 1 else 0)))):OpA alc [.bool b] R:=fun G H vs Q gh rs k=>by
 cases rs with
 | cons r t =>
  cases t;cases r
  exact aon (k _ _ _ _ _ (Out.refl gh (.int _)) h)
theorem ahw {K:Frag} {ns:List Int} (a:ns ≠ []) (h:∀ m,ad3 ns m->R (.st (.int m))):OpA (afp K) [.list (ns.map .int)] R:=fun G H vs Q gh rs k=>by
 cases rs with
 | cons r t =>
  cases t
  cases r with
  | lst ha ra =>
   have:=Rps.ints_inv ra
   subst this
   exact ⟨_,ns,rfl,.inl (SqL.of (gh _ _ ha)),a,fun m hm=>k _ _ _ _ _ (Out.refl gh (.int _)) (h m hm)⟩
theorem au2 {K:Frag} {ns:List Int} {ds:List PyData} (e:ds=ns.map .int) (a:ns ≠ []) (h:∀ m,ad3 ns m->R (.st (.int m))):OpA (afp K) [.tuple ds] R:=fun G H vs Q gh rs k=>by
 subst e
 cases rs with
 | cons r t =>
  cases t
  cases r with
  | tup ha ra =>
   have:=Rps.ints_inv ra
   subst this
   exact ⟨_,ns,rfl,.inr (SqT.of (gh _ _ ha)),a,fun m hm=>k _ _ _ _ _ (Out.refl gh (.int _)) (h m hm)⟩
theorem au3 {K:Frag} {ns:List Int} {ds:List PyData} (e:ds=ns.map .int) (a:ns ≠ []) (h:∀ m,aqa ns m->R (.st (.int m))):OpA (ale K) [.tuple ds] R:=fun G H vs Q gh rs k=>by
 subst e
 cases rs with
 | cons r t =>
  cases t
  cases r with
  | tup ha ra =>
   have:=Rps.ints_inv ra
   subst this
   exact ⟨_,ns,rfl,.inr (SqT.of (gh _ _ ha)),a,fun m hm=>k _ _ _ _ _ (Out.refl gh (.int _)) (h m hm)⟩
theorem ao7 {K:Frag} {ns:List Int} {ds:List PyData} (e:ds=ns.map .int) (h:R (.st (.int ns.sum))):OpA (aqb K) [.list ds] R:=fun G H vs Q gh rs k=>by
 subst e
 cases rs with
 | cons r t =>
  cases t
  cases r with
  | lst ha ra =>
   have:=Rps.ints_inv ra
   subst this
   exact ⟨_,ns,rfl,SqL.of (gh _ _ ha),k _ _ _ _ _ (Out.refl gh (.int _)) h⟩
end
section
variable {B:Bs} {env:En} {QO:Sl->En->Prop} {Q':PyData->En->Prop} {te tl th:TE} {K:Frag}
def cutD (xs:List PyData) (lo hi:Option Int):List PyData:=(xs.drop (HT.sIx xs.length 0 lo)).take (HT.sIx xs.length xs.length hi - HT.sIx xs.length 0 lo)
def EvOp (B:Bs) (t:TO) (env:En) (Q':Option Int->En->Prop):Prop:=∀ (σ:St) (G H:Hp) (F:Nat->Addr->Prop) (Q:Option Int->Hp->Prop),VI B G H σ env F->(∀ o G' H' F' env',VI B G' H' σ env' F'->Same G G'->Q' o env'->Q o H')->t σ H Q
theorem au4 {a:Option Int->En->Prop} (h:Ev B te env fun d e=>∃ i,d=.int i/\a (some i) e):EvOp B (av4 te) env a:=fun σ G H F Q I k =>
 h σ G H F _ I fun v g o l d b f j c m=>by
  obtain ⟨i,n,q⟩:=m
  subst n;cases c
  exact ⟨i,rfl,k _ g o l b f j q⟩
theorem a1r {i:Int} {R:Int->Prop} (h:R i):∃ j,PyData.int i=.int j/\R j:=⟨i,rfl,h⟩
theorem akj {tl l:TO} (h:Ev B te env fun d j=>∃ ds,d=.list ds/\EvOp B tl j fun lo e2=>EvOp B l e2 fun hi g=>QO (.own (OL (cutD ds lo hi))) g):EvO B (tSl (rSlL K) te tl l) env QO:=fun σ G H F Q I k =>
 h σ G H F _ I fun v s C w d j r u n y=>by
  obtain ⟨ds,A,D⟩:=y
  subst A
  cases n with
  | @lst a vs _ ha rs =>
   refine D σ s C w _ r fun lo E H2 F2 e2 J f x=>x σ E H2 F2 _ J fun hi L H3 z g b c m=>?_
   have i:=rs.same (f.trans c)
   refine ⟨a,vs,rfl,SqL.of (b.gh _ _ (c _ _ (f _ _ ha))),fun p q=>?_⟩
   have e:cutV vs lo hi=(vs.drop (HT.sIx ds.length 0 lo)).take (HT.sIx ds.length ds.length hi - HT.sIx ds.length 0 lo):=by unfold cutV;rw [rs.length]
   have o:=Out.newL (xs:=cutV vs lo hi) (ds:=cutD ds lo hi) b.gh q (by rw [e];exact (i.drop _).take _)
   exact k _ _ _ z _ _ g (b.out o).1 (u.trans (f.trans (c.trans o.gg))) (b.out o).2 m
theorem au5 {tl c:TO} (h:Ev B te env fun d a=>∃ ds,d=.list ds/\EvOp B tl a fun lo e2=>EvOp B c e2 fun hi j=>Q' (.list (cutD ds lo hi)) j):Ev B (tSl (rSlL K) te tl c) env Q':=abo (akj (by
 intro σ G H F Q I k
 refine h σ G H F Q I fun v G' H' F' d a g i f ⟨ds,l,q⟩=>k v G' H' F' d a g i f ⟨ds,l,?_⟩
 intro σ G H F Q I k
 refine q σ G H F Q I fun lo G' H' F' e b g' q=>k lo G' H' F' e b g' ?_
 intro σ G H F Q I k
 exact q σ G H F Q I fun hi G' H' F' e b g' q=>k hi G' H' F' e b g' (ac5 q)))
end
def ag9:PyData->Bool
 | .none | .bool _ | .int _ | .str _=>true
 | _=>false
theorem ao8 {G G':Hp} {v:V} {d:PyData} (r:Rp G v d) (h:ag9 d=true):Rp G' v d:=by
 cases r with
 | non=>exact .non
 | bl b=>exact .bl b
 | int i=>exact .int i
 | str x=>exact .str x
 | _=>simp [ag9] at h
def Has (env:En) (i:Nat) (A:Own):Prop:=env[i]?=some (some (.own A))\/env[i]?=some (some (.io A))
section
variable {B:Bs} {env:En} {QO:Sl->En->Prop} {Q':PyData->En->Prop} {QT:Bool->En->Prop} {QE:En->Prop} {te ta tb tk:TE} {K:Frag} {i:Nat}
theorem VI.has {G H:Hp} {σ:St} {F:Nat->Addr->Prop} {A:Own} (I:VI B G H σ env F) (h:Has env i A):∃ v,σ[i]?=some (some v)/\A.P G H v (F i):=by
 rcases h with h | h
 ·obtain ⟨v,a,q⟩:=I.sl i _ h;exact ⟨v,a,q.1⟩
 ·obtain ⟨v,a,q⟩:=I.sl i _ h;exact ⟨v,a,q.1⟩
theorem VI.moment {G c d H H3:Hp} {σ:St} {F:Nat->Addr->Prop} {v:V} {s:Sl} {Fv:Addr->Prop} (I:VI B G H σ env F) (i:Same G c) (o:Out c H v d H3 s Fv):∃ g,Same G g/\VI B g H3 σ env F:=by
 refine ⟨fun a=>if H a=none then d a else G a,fun a u e=>?_,I.grow (fun a u e=>?_) (fun a u e=>?_) o.hh (fun a u e=>?_) fun a b e=>?_⟩
 ·show (if H a=none then d a else G a)=some u;rw [aE9 (by rw [I.gh a u e];simp)];exact e
 ·rw [aE9 (by rw [I.gh a u e];simp)];exact e
 ·by_cases h:H a=none
  ·rw [aE8 h] at e;exact o.gh a u e
  ·rw [aE9 h] at e;exact o.hh _ _ (I.gh a u e)
 ·by_cases h:H a=none
  ·exact .inr h
  ·rw [aE9 h] at e;exact .inl e
 ·have j:FT c H:=fun a b e=>i _ _ (I.ft a b e)
  by_cases h:H a=none
  ·rw [aE8 h];exact o.ft j a b e
  ·rw [aE9 h]
   obtain ⟨u,f⟩:=aqd h
   have:=o.hh _ _ f
   rw [e] at this
   exact I.ft a b (by rw [f,← this])
theorem az8 {r:R2} {j:Own} (p:Has env i j) (h:Ev B tb env fun y e2=>∃ A dx,Has e2 i A/\Frz A dx/\Op2 r dx y fun s=>∃ d,s=.st d/\ag9 d=true/\Q' d e2):Ev B (tOp r (tVar i) tb) env Q':=fun σ G H F Q I k=>by
 obtain ⟨v,c,_⟩:=I.has p
 refine ⟨v,c,h σ G H F _ I fun u C H2 F2 y e2 a z m ⟨A,dx,n,x,q⟩=>?_⟩
 obtain ⟨J,b,ap⟩:=a.has n
 rw [c] at b;cases b
 refine q (jn C H2 (F2 i)) H2 v u Q (alg a.gh) (x _ _ _ _ ap (a.fg i) a.gh) (m.same (abk (a.fg i))) fun w K H3 s Fv o ⟨d,es,g,f⟩=>?_
 subst es
 obtain ⟨D,E,l⟩:=a.moment (abk (a.fg i)) o
 exact k w D H3 F2 d e2 l (z.trans E) (ao8 o.ok.1 g) f
theorem x_sc {d:PyData} {R:PyData->Prop} (a:ag9 d=true) (h:R d):∃ d',Sl.st d=.st d'/\ag9 d'=true/\R d':=⟨d,rfl,a,h⟩
theorem az9 {ds0:List PyData} (o:Has env i (OL ds0)) (h:Ev B tb env fun y e2=>∃ ds k d,Has e2 i (OL ds)/\y=.int k/\atI ds k=some d/\Q' d e2):Ev B (tOp (acg K) (tVar i) tb) env Q':=fun σ G H F Q I k=>by
 obtain ⟨v,g,_⟩:=I.has o
 refine ⟨v,g,h σ G H F _ I fun u z H2 F2 y e2 l r m ⟨ds,j,d,n,x,c,q⟩=>?_⟩
 subst x
 cases m
 obtain ⟨A,b,a,vs,p,ha,rs,_⟩:=l.has n
 rw [g] at b;cases b
 subst p
 obtain ⟨w,s,f⟩:=rs.at c
 exact afq ha s (k w z H2 F2 d e2 l r f q)
theorem VI.upd1 {G H:Hp} {σ:St} {F:Nat->Addr->Prop} {s:Sl} {A A':Own} {a:Addr} {o:HO} (I:VI B G H σ env F) (e:env[i]?=some (some s)) (d:s=.own A\/s=.io A) (g : σ[i]?=some (some (.ref a))) (hf:∀ b,F i b ↔ b=a) (f:A'.P G (upd H a o) (.ref a) (· = a)) (h:∀ xs,o ≠ .tup xs:=by intro _ z;cases z) :
  VI B G (upd H a o) σ (env.set i (some (reS s A'))) (putF F i (· = a)):=by
 refine I.change (A:=A') i e g (fun b u hb c=>by rw [aae (fun z=>hb ((hf b).mpr z))];exact c) (fun b u c=>?_) (fun b z=>⟨.inl ((hf b).mpr z),by rw [z];exact ⟨_,aaf⟩⟩) f (fun b j e=>?_) ?_
 ·by_cases z:b=a
  ·rw [z];exact ⟨_,aaf⟩
  ·rw [aae z];exact ⟨u,c⟩
 ·by_cases z:b=a
  ·subst z;rw [aaf] at e;exact absurd (aC5 e) (h _)
  ·rw [aae z] at e;exact I.ft b j e
 ·rcases d with rfl | rfl
  ·exact .inl ⟨rfl,A,rfl⟩
  ·exact .inr ⟨rfl,A,rfl⟩
theorem akk {ds0:List PyData} (r:Has env i (OL ds0)) (h:Ev B te env fun y e2=>∃ s ds,e2[i]?=some (some s)/\(s=.own (OL ds)\/s=.io (OL ds))/\ds.length<=999999/\Q' .none (e2.set i (some (reS s (OL (ds ++ [y])))))):Ev B (tBM K "list" ad7 (tVar i) (aa3 te tNil)) env Q':=fun σ G H F Q I k=>by
 obtain ⟨v,g,a,vs,w,ha,rs,_⟩:=I.has r
 subst w
 refine ⟨_,g,.inl ⟨rfl,_,SqL.of ha⟩,h σ G H F _ I fun u z H2 F2 y e2 m x o ⟨s,ds,es,l,D,q⟩=>?_⟩
 have p:Has e2 i (OL ds):=by rcases l with rfl | rfl;exact .inl es;exact .inr es
 obtain ⟨C,d,A,n,f,j,c,hf⟩:=m.has p
 rw [g] at d;cases d;cases f
 refine aey j (by rw [c.length];exact big (by omega)) ?_
 exact k _ z _ _ _ _ (m.upd1 (A':=OL (ds ++ [y])) es l g hf ⟨a,_,rfl,aaf,c.append (.cons o .nil),fun b=>Iff.rfl⟩) x .non q
theorem aqf {ds0:List PyData} (b:Has env i (OL ds0)) (h:Ev B te env fun y e2=>∃ ds,e2[i]?=some (some (.own (OL ds)))/\ds.length<=999999/\Q' .none (e2.set i (some (.own (OL (ds ++ [y])))))):Ev B (tBM K "list" ad7 (tVar i) (aa3 te tNil)) env Q' :=
 akk b fun σ G H F Q I k=>h σ G H F Q I fun v G' H' F' d e f g r ⟨ds,a,c,q⟩=>k v G' H' F' d e f g r ⟨_,ds,a,.inl rfl,c,q⟩
theorem aqg {ds0:List PyData} (o:Has env i (OL ds0)) (h:Ev B te env fun y e2=>∃ ds ys,y=.list ys/\e2[i]?=some (some (.own (OL ds)))/\ds.length+ys.length<=1000000/\Q' .none (e2.set i (some (.own (OL (ds ++ ys)))))):Ev B (tBM K "list" aja (tVar i) (aa3 te tNil)) env Q':=fun σ G H F Q I k=>by
 obtain ⟨v,g,a,vs,p,ha,rs,_⟩:=I.has o
 subst p
 refine ⟨_,g,.inl ⟨rfl,_,SqL.of ha⟩,h σ G H F _ I fun u w H2 F2 y e2 l r n ⟨ds,ys,s,es,x,q⟩=>?_⟩
 subst s
 cases n with
 | lst hb rb =>
  obtain ⟨A,d,z,m,f,j,c,hf⟩:=l.has (.inl es)
  rw [g] at d;cases d;cases f
  refine ar1 j (l.gh _ _ hb) (by rw [c.length,rb.length];exact aF8 (big x)) ?_
  exact k _ w _ _ _ _ (l.upd1 (A':=OL (ds ++ ys)) es (.inl rfl) g hf ⟨a,_,rfl,aaf,c.append rb,fun b=>Iff.rfl⟩) r .non q
theorem au6 {d:PyData} {ds0:List PyData} (C:Has env i (OL ds0)) (h:Ev B tk env fun y e2=>∃ s ds k j,y=.int k/\e2[i]?=some (some s)/\(s=.own (OL ds)\/s=.io (OL ds))/\ixN ds.length k=some j/\QE (e2.set i (some (reS s (OL (ds.set j d)))))):EvG B (gSub (tVar i) tk ap5) (.st d) env QE:=fun σ G H F v Fv Q I x k=>by
 obtain ⟨J,_⟩:=x.ok
 obtain ⟨O,l,a,vs,D,ha,rs,_⟩:=I.has C
 subst D
 refine ⟨_,l,h σ G H F _ I fun u L H2 F2 y e2 r p z ⟨s,ds,n,j,E,es,o,K,q⟩=>?_⟩
 subst E
 cases z
 have A:Has e2 i (OL ds):=by rcases o with rfl | rfl;exact .inl es;exact .inr es
 obtain ⟨N,f,M,w,g,m,c,hf⟩:=r.has A
 rw [l] at f;cases f;cases g
 refine aoj m (by rw [c.length];exact K) ?_
 exact k _ L _ _ _ (r.upd1 (A':=OL (ds.set j d)) es o l hf ⟨a,_,rfl,aaf,c.set (J.same p) j,fun b=>Iff.rfl⟩) p q
theorem ao9 {t:TS} {D':VEnds} {A:Own} {d:PyData} (i:Nat) (e:env[i]?=some (some (.own A))) (f:Frz A d) (h:EvS B t D' (env.set i (some (.st d)))):EvS B t D' env:=fun σ G H F D I r=>by
 obtain ⟨v,a,b,g,J⟩:=I.frz e f
 exact h σ _ H _ D J (r.later g)
end
def tyD:PyData->String
 | .none => "NoneType" | .bool _ => "bool" | .int _ => "int" | .str _ => "str" | .list _ => "list" | .tuple _ => "tuple" | .dict _ => "dict"
def ada (T:String):Prop:=T = "int"\/T = "bool"\/T = "tuple"\/T = "list"\/T = "str"\/T = "dict"
def isiD (T:String) (d:PyData):Bool:=tyD d == T || (T == "int" && tyD d == "bool")
theorem awd {K:Frag} {H:Hp} {v:V} {d:PyData} (r:Rp H v d):TyOf K H v (.type (tyD d)):=by
 cases r with
 | non=>exact .non
 | bl b=>exact .bl b
 | int i=>exact .int i
 | str x=>exact .str x
 | lst h _=>exact .lst h
 | tup h _=>exact .tup h
 | dk h _ _=>exact .dK h
 | dt h _ _=>exact .dT h
theorem aqh {K:Frag} {T:String} (h:ada T) (d:PyData):kitOne K (.type (tyD d)) (.type T)=some (isiD T d):=by
 rcases h with rfl | rfl | rfl | rfl | rfl | rfl
 ·cases d with
  | none=>exact ahr
  | bool _=>exact amb
  | int _=>exact an0
  | str _=>exact an2
  | list _=>exact amj
  | tuple _=>exact ak2
  | dict _=>exact aml
 ·cases d with
  | none=>exact ahd
  | bool _=>exact aku
  | int _=>exact amd
  | str _=>exact amg
  | list _=>exact akz
  | tuple _=>exact ajn
  | dict _=>exact ak4
 ·cases d with
  | none=>exact agn
  | bool _=>exact ajl
  | int _=>exact akx
  | str _=>exact aky
  | list _=>exact ajm
  | tuple _=>exact ail
  | dict _=>exact ajq
 ·cases d with
  | none=>exact ahe
  | bool _=>exact akv
  | int _=>exact ame
  | str _=>exact amh
  | list _=>exact ak0
  | tuple _=>exact ajo
  | dict _=>exact ak5
 ·cases d with
  | none=>exact ahs
  | bool _=>exact amc
  | int _=>exact an1
  | str _=>exact an3
  | list _=>exact amk
  | tuple _=>exact ak3
  | dict _=>exact amm
 ·cases d with
  | none=>exact ahf
  | bool _=>exact akw
  | int _=>exact amf
  | str _=>exact ami
  | list _=>exact ak1
  | tuple _=>exact ajp
  | dict _=>exact ak6
section
variable {B:Bs} {env:En} {QO:Sl->En->Prop} {Q':PyData->En->Prop} {QT:Bool->En->Prop} {QE:En->Prop} {te ta tb tk:TE} {K:Frag} {i:Nat}
theorem a0a {T:String} (g:ada T) (h:Ev B te env fun d e=>Q' (.bool (isiD T d)) e):Ev B (tCB (rIsi K) (aa3 te (aa3 (tC (.ty T)) tNil))) env Q':=fun σ G H F Q I k =>
 h σ G H F _ I fun v f l j d b a i c m=>⟨v,T,_,_,rfl,awd (c.same a.gh),aqh g d,k _ f l j _ b a i (.bl _) m⟩
theorem ax0 {T:String} {A:Own} {d:PyData} (c:Has env i A) (b:Frz A d) (f:ada T) (q:Q' (.bool (isiD T d)) env):Ev B (tCB (rIsi K) (aa3 (tVar i) (aa3 (tC (.ty T)) tNil))) env Q':=fun σ G H F Q I k=>by
 obtain ⟨v,a,ap⟩:=I.has c
 refine ⟨v,a,v,T,_,_,rfl,awd ((b _ _ _ _ ap (I.fg i) I.gh).same (alg I.gh)),aqh f d,k _ G H F _ env I (Same.refl _) (.bl _) q⟩
theorem a0b:ada "int":=.inl rfl
theorem ax1:ada "bool":=.inr (.inl rfl)
theorem au7:ada "tuple":=.inr (.inr (.inl rfl))
theorem ax2:ada "list":=.inr (.inr (.inr (.inl rfl)))
theorem au8 {A:Own} {D':VEnds} (e:env[i]?=some (some (.own A))) (q:D'.rt (.own A) (env.set i none)):EvS B (tRet (tVar i)) D' env:=ao0 (aul e q)
theorem a1s {n m:Nat} {P:Prop} (h:n<=m) (q:P):n<=m/\P:=⟨h,q⟩
theorem a0c {ds:List PyData} {e2:En} {R:List PyData->Prop} (e:e2[i]?=some (some (.own (OL ds)))) (a:ds.length<=999999) (q:R ds):∃ ds,e2[i]?=some (some (.own (OL ds)))/\ds.length<=999999/\R ds:=⟨ds,e,a,q⟩
theorem a1t {ds:List PyData} {d:PyData} {k:Int} {e2:En} {R:PyData->Prop} (b:Has e2 i (OL ds)) (h:atI ds k=some d) (q:R d):∃ ds a d,Has e2 i (OL ds)/\PyData.int k=.int a/\atI ds a=some d/\R d:=⟨ds,k,d,b,rfl,h,q⟩
theorem aqi {ds:List PyData} {k:Int} {j:Nat} {e2:En} {R:Sl->List PyData->Nat->Prop} (e:e2[i]?=some (some (.own (OL ds)))) (b:ixN ds.length k=some j) (q:R (.own (OL ds)) ds j):∃ s ds a j,PyData.int k=.int a/\e2[i]?=some (some s)/\(s=.own (OL ds)\/s=.io (OL ds))/\ixN ds.length a=some j/\R s ds j:=⟨_,ds,k,j,rfl,e,.inl rfl,b,q⟩
theorem a1u {A:Own} {dx:PyData} {e2:En} {P:PyData->Prop} (b:Has e2 i A) (a:Frz A dx) (q:P dx):∃ A dx,Has e2 i A/\Frz A dx/\P dx:=⟨A,dx,b,a,q⟩
theorem x_rt {A:Own} {e2:En} {R:Own->Prop} (e:e2[0]?=some (some (.io A))) (q:R A):∃ A',e2[0]?=some (some (.io A'))/\R A':=⟨A,e,q⟩
theorem x_st {b:Bool} {R:Bool->Prop} (h:R b):∃ c,Sl.st (.bool b)=.st (.bool c)/\R c:=⟨b,rfl,h⟩
theorem a0d {b:Bool} {R:Bool->Prop} (h:R b):∃ k,TruD (.bool b) k/\R k:=⟨b,rfl,h⟩
theorem au9 {ds:List PyData} {R:Bool->Prop} (h:R (!ds.isEmpty)):∃ k,TruD (.list ds) k/\R k:=⟨_,rfl,h⟩
theorem lenP {f:VP} {n:Nat} {vs:List V} {H:Hp} {Q:VK} {E:XK} (h:spP K f vs H Q E) (hf:∀ ss Q',f ss Q'->ss.length=n):vs.length=n:=by
 obtain ⟨G,ss,Q',_,_,a,q,_⟩:=h
 rw [a.length];exact hf ss Q' q
theorem lenI {f:VIo} {n:Nat} {vs:List V} {H:Hp} {Q:VK} {E:XK} (h:spI K f vs H Q E) (hf:∀ A ss Q',f A ss Q'->ss.length+1=n):vs.length=n:=by
 obtain ⟨v0,b,G,R,A,ss,F0,Q',rfl,_,_,_,_,_,_,a,q,_⟩:=h
 rw [aE0,a.length];exact hf A ss Q' q
theorem air {f:VIo} {t:TA} {E:XK} {A:Own} (c:env[i]?=some (some (.io A))) (h:EvA B t env fun ds a=>a[i]?=some (some (.io A))/\f A (ds.map Sl.st) fun A' s=>QO s (a.set i (some (.io A')))):EvO B (abw (spI K f) [] E (aa3 (tVar i) t)) env QO :=
 agr ⟨_,c⟩ fun σ G H F Q I k=>h σ G H F Q I fun vs G' H' F' ds a d g r ⟨b,q⟩=>k vs G' H' F' ds a d g r ⟨_,A,b,.inr rfl,q⟩
theorem aqj {f:VIo} {t:TA} {E:XK} {A:Own} (c:env[i]?=some (some (.own A))) (h:EvA B t env fun ds a=>a[i]?=some (some (.own A))/\f A (ds.map Sl.st) fun A' s=>QO s (a.set i (some (.own A')))):EvO B (abw (spI K f) [] E (aa3 (tVar i) t)) env QO :=
 agr ⟨_,c⟩ fun σ G H F Q I k=>h σ G H F Q I fun vs G' H' F' ds a d g r ⟨b,q⟩=>k vs G' H' F' ds a d g r ⟨_,A,b,.inl rfl,q⟩
theorem akl {f:VIo} {t:TA} {E:XK} {A:Own} (b:env[i]?=some (some (.io A))) (h:EvA B t env fun ds a=>a[i]?=some (some (.io A))/\f A (ds.map Sl.st) fun A' s=>FQ s fun d=>Q' d (a.set i (some (.io A')))):Ev B (abw (spI K f) [] E (aa3 (tVar i) t)) env Q':=abo (air b h)
theorem a1v {P Q:Prop} (h:P) (q:Q):P/\Q:=⟨h,q⟩
theorem a1w {src:List (Option Nat)} {j:TI} {g:TG} {f:TT} (nd:(src.filterMap id).Nodup) (h:EvI B j env fun ds i=>LcV B.K src g f te ds i fun ys e2=>Q' (.list ys) e2):Ev B (tLC src j g f te) env Q':=abo (ase nd fun σ G H F R I k=>h σ G H F R I fun J G' H' F' ds i m g' it ⟨l,a,b,c,d⟩=>k J G' H' F' ds i m g' it ⟨l,a,b,c,fun ys e q=>ac5 (d ys e q)⟩)
end
end VL
namespace VL
open PySem L2
section
variable {B:Bs} {QE:En->Prop} {Q':PyData->En->Prop} {s:Sl} {r:En} {A:Own} {d:PyData} {x0 x1 x2 x3 x4 x5 x6 x7 x8 x9 x10 x11 x12 x13 x14 x15 x16 x17 x18 x19 x20 x21 x22 x23 x24 x25:Option Sl}
theorem a0e (h:QE (x0 :: some s :: r)):EvG B (abl 1) s (x0 :: x1 :: r) QE:=abf h
theorem a0f (h:QE (x0 :: x1 :: some s :: r)):EvG B (abl 2) s (x0 :: x1 :: x2 :: r) QE:=abf h
theorem a0g (h:QE (x0 :: x1 :: x2 :: some s :: r)):EvG B (abl 3) s (x0 :: x1 :: x2 :: x3 :: r) QE:=abf h
theorem a0h (h:QE (x0 :: x1 :: x2 :: x3 :: some s :: r)):EvG B (abl 4) s (x0 :: x1 :: x2 :: x3 :: x4 :: r) QE:=abf h
theorem a0i (h:QE (x0 :: x1 :: x2 :: x3 :: x4 :: some s :: r)):EvG B (abl 5) s (x0 :: x1 :: x2 :: x3 :: x4 :: x5 :: r) QE:=abf h
theorem a0j (h:QE (x0 :: x1 :: x2 :: x3 :: x4 :: x5 :: some s :: r)):EvG B (abl 6) s (x0 :: x1 :: x2 :: x3 :: x4 :: x5 :: x6 :: r) QE:=abf h
theorem a0k (h:QE (x0 :: x1 :: x2 :: x3 :: x4 :: x5 :: x6 :: some s :: r)):EvG B (abl 7) s (x0 :: x1 :: x2 :: x3 :: x4 :: x5 :: x6 :: x7 :: r) QE:=abf h
theorem a0l (h:QE (x0 :: x1 :: x2 :: x3 :: x4 :: x5 :: x6 :: x7 :: some s :: r)):EvG B (abl 8) s (x0 :: x1 :: x2 :: x3 :: x4 :: x5 :: x6 :: x7 :: x8 :: r) QE:=abf h
theorem a0m (h:QE (x0 :: x1 :: x2 :: x3 :: x4 :: x5 :: x6 :: x7 :: x8 :: some s :: r)):EvG B (abl 9) s (x0 :: x1 :: x2 :: x3 :: x4 :: x5 :: x6 :: x7 :: x8 :: x9 :: r) QE:=abf h
end
end VL
namespace Gr
structure Ring (T:Int->Int->Prop) (a:Int) (k:Nat) (far:Int->Option Nat) (edge:List Int):Prop where
 lab:∀ v d,far v=some d ↔ (Dist T a v d/\d<=k)
 edg:∀ v,v∈edge ↔ Dist T a v k
structure Mid (T:Int->Int->Prop) (k:Nat) (far0:Int->Option Nat) (edge:List Int) (done:Int->Prop) (far:Int->Option Nat) (beyond:List Int):Prop where
 old:∀ v d,far0 v=some d->far v=some d
 new:∀ v,v∈beyond ↔ (far0 v=none/\far v ≠ none)
 val:∀ v d,far0 v=none->far v=some d->d=k+1/\∃ u,u∈edge/\T u v
 dn:∀ u w,done u->T u w->far w ≠ none
def label (far:Int->Option Nat) (w:Int) (d:Nat):Int->Option Nat:=fun v=>if v=w then some d else far v
theorem label_same {far:Int->Option Nat} {w:Int} {d:Nat}:label far w d w=some d:=aE8 rfl
theorem label_ne {far:Int->Option Nat} {w v:Int} {d:Nat} (h:v ≠ w):label far w d v=far v:=aE9 h
variable {T:Int->Int->Prop} {a:Int} {k:Nat} {far0 far:Int->Option Nat} {edge beyond:List Int} {done:Int->Prop}
theorem Ring.start:Ring T a 0 (label (fun _=>none) a 0) [a]:=by
 refine ⟨fun v d=>?_,fun v=>?_⟩
 ·by_cases h:v=a
  ·subst h
   rw [label_same]
   constructor
   ·intro e;cases e;exact ⟨Dist.self T v,aA6 _⟩
   ·rintro ⟨h,_⟩;rw [h.uniq (Dist.self T v)]
  ·rw [label_ne h]
   constructor
   ·intro e;cases e
   ·rintro ⟨b,c⟩
    have:d=0:=by omega
    subst this
    cases b.1
    exact absurd rfl h
 ·simp only [aC1]
  constructor
  ·rintro rfl;exact Dist.self T v
  ·intro h;cases h.1;rfl
theorem Mid.start:Mid T k far0 edge (fun _=>False) far0 [] :=
 ⟨fun v d h=>h,fun v=>⟨fun h=>by simp at h,fun h=>absurd h.1 h.2⟩,fun v d h g=>(by rw [h] at g;cases g),fun u w h=>h.elim⟩
theorem Mid.add (m:Mid T k far0 edge done far beyond) {u w:Int} (f:u∈edge) (t:T u w) (b:far w=none):Mid T k far0 edge done (label far w (k+1)) (beyond ++ [w]):=by
 have a:far0 w=none:=by
  cases e:far0 w with
  | none=>rfl
  | some d=>rw [m.old w d e] at b;cases b
 refine ⟨fun v d h=>?_,fun v=>?_,fun v d h g=>?_,fun x y c i=>?_⟩
 ·rw [label_ne (by rintro rfl;rw [a] at h;cases h)];exact m.old v d h
 ·by_cases hv:v=w
  ·subst hv
   simp [label_same,a]
  ·rw [label_ne hv]
   simp only [aA7,aC1,hv,or_false]
   exact m.new v
 ·by_cases hv:v=w
  ·subst hv
   rw [label_same] at g
   cases g
   exact ⟨rfl,u,f,t⟩
  ·rw [label_ne hv] at g
   exact m.val v d h g
 ·by_cases hv:y=w
  ·subst hv;rw [label_same];simp
  ·rw [label_ne hv];exact m.dn x y c i
theorem Mid.did (m:Mid T k far0 edge done far beyond) {u:Int} (h:∀ w,T u w->far w ≠ none):Mid T k far0 edge (fun x=>done x\/x=u) far beyond :=
 ⟨m.old,m.new,m.val,fun x w a t=>by rcases a with a | rfl;exact m.dn x w a t;exact h w t⟩
theorem Mid.imp {a:Int->Prop} (m:Mid T k far0 edge done far beyond) (h:∀ u,a u->done u):Mid T k far0 edge a far beyond :=
 ⟨m.old,m.new,m.val,fun x w b t=>m.dn x w (h x b) t⟩
theorem Ring.next (r:Ring T a k far0 edge) (m:Mid T k far0 edge done far beyond) (hd:∀ u∈edge,done u):Ring T a (k+1) far beyond:=by
 have g:∀ v,far0 v=none->far v ≠ none->Dist T a v (k+1):=fun v f b=>by
  cases e:far v with
  | none=>exact absurd e b
  | some d =>
   obtain ⟨rfl,u,j,t⟩:=m.val v d f e
   obtain ⟨l,p,h⟩:=((r.edg u).mp j).next t
   by_cases i:l<=k
   ·rw [(r.lab v l).mpr ⟨h,i⟩] at f;cases f
   ·have:l=k+1:=by omega
    rw [← this];exact h
 have c:∀ v,Dist T a v (k+1)->far0 v=none/\far v ≠ none:=fun v h=>by
  refine ⟨?_,?_⟩
  ·cases e:far0 v with
   | none=>rfl
   | some d =>
    obtain ⟨b,o⟩:=(r.lab v d).mp e
    have:=b.uniq h
    omega
  ·obtain ⟨u,t,j⟩:=h.pred
   exact m.dn u v (hd u ((r.edg u).mpr j)) t
 refine ⟨fun v d=>?_,fun v=>⟨fun h=>?_,fun h=>(m.new v).mpr (c v h)⟩⟩
 ·constructor
  ·intro e
   cases e0:far0 v with
   | some d0 =>
    rw [m.old v d0 e0] at e
    cases e
    obtain ⟨b,o⟩:=(r.lab v d).mp e0
    exact ⟨b,by omega⟩
   | none =>
    have i:=(m.val v d e0 e).1
    subst i
    exact ⟨g v e0 (by rw [e];simp),aA6 _⟩
  ·rintro ⟨h,i⟩
   by_cases hd':d<=k
   ·exact m.old v d ((r.lab v d).mpr ⟨h,hd'⟩)
   ·have n:d=k+1:=by omega
    subst n
    obtain ⟨f,b⟩:=c v h
    cases e:far v with
    | none=>exact absurd e b
    | some d=>rw [(m.val v d f e).1]
 ·obtain ⟨f,b⟩:=(m.new v).mp h
  exact g v f b
theorem Dist.down {v:Int}:∀ {d:Nat},Dist T a v d->∀ j,j<=d->∃ u,Dist T a u j
 | 0,h,j,hj=>⟨v,by rw [show j=0 by omega];exact h⟩
 | d+1,h,j,hj=>by
  by_cases e:j=d+1
  ·rw [e];exact ⟨v,h⟩
  ·obtain ⟨u,_,b⟩:=h.pred
   exact Dist.down b j (by omega)
def farO (T:Int->Int->Prop) (a v:Int):Option Nat:=open Classical in if h:∃ d,Dist T a v d then some (Classical.choose h) else none
theorem farO_some {v:Int} {d:Nat}:farO T a v=some d ↔ Dist T a v d:=by
 unfold farO
 constructor
 ·intro h
  split at h
  ·rename_i b
   cases h
   exact Classical.choose_spec b
  ·cases h
 ·intro h
  have b:∃ d,Dist T a v d:=⟨d,h⟩
  rw [dif_pos b,(Classical.choose_spec b).uniq h]
theorem farO_none {v:Int}:farO T a v=none ↔ ∀ d,¬ Dist T a v d:=by
 constructor
 ·intro h d hd
  rw [farO_some.mpr hd] at h;cases h
 ·intro h
  cases e:farO T a v with
  | none=>rfl
  | some d=>exact absurd (farO_some.mp e) (h d)
theorem apa {v:Int} {o:Option Nat} (h:∀ d,o=some d ↔ Dist T a v d):o=farO T a v:=by
 cases o with
 | some d=>exact (farO_some.mpr ((h d).mp rfl)).symm
 | none=>exact (farO_none.mpr fun d hd=>by cases (h d).mpr hd).symm
theorem Ring.fin (r:Ring T a k far0 []) (v:Int):far0 v=farO T a v:=by
 refine apa fun d=>?_
 rw [r.lab]
 refine ⟨fun h=>h.1,fun h=>⟨h,?_⟩⟩
 apply aD3
 intro c
 obtain ⟨u,b⟩:=h.down k (by omega)
 have:=(r.edg u).mpr b
 simp at this
theorem Walk.app {u v w:Int} {i j:Nat} (h:Walk T u i v) (g:Walk T v j w):Walk T u (i+j) w:=by
 induction g with
 | refl=>exact h
 | step _ t ih=>exact .step ih t
theorem Walk.rev (a:∀ u v,T u v->T v u) {u v:Int} {i:Nat} (h:Walk T u i v):Walk T v i u:=by
 induction h with
 | refl=>exact .refl
 | @step j x y _ t ih =>
  have:=(Walk.step (T:=T) (u:=y) .refl (a _ _ t)).app ih
  rw [Nat.add_comm] at this
  exact this
theorem Dist.rev (a:∀ u v,T u v->T v u) {u v:Int} {d:Nat} (h:Dist T u v d):Dist T v u d:=⟨h.1.rev a,fun k w=>h.2 k (w.rev a)⟩
theorem farO_comm (a:∀ u v,T u v->T v u) (u v:Int):farO T u v=farO T v u:=apa fun d=>by
 rw [farO_some];exact ⟨fun h=>h.rev a,fun h=>h.rev a⟩
theorem farO_self:farO T a a=some 0:=farO_some.mpr (Dist.self T a)
theorem Dist.lt {n:Nat} (o:∀ u v,T u v->0<=v/\v < (n:Int)) (ha:0<=a/\a < (n:Int)) {v:Int} {d:Nat} (h:Dist T a v d):d < n:=by
 -- the places of a shortest way are unlike
 have i:∀ d v,Dist T a v d->∃ l:List Int,l.length=d+1/\l.Nodup/\∀ x∈l,(0<=x/\x < (n:Int))/\∃ j,j<=d/\Dist T a x j:=by
  intro d
  induction d with
  | zero =>
   intro v h
   have:v=a:=by cases h.1;rfl
   subst this
   exact ⟨[v],rfl,by simp,fun x b=>by simp at b;subst b;exact ⟨ha,0,aA6 _,h⟩⟩
  | succ d ih =>
   intro v h
   obtain ⟨u,t,p⟩:=h.pred
   obtain ⟨l,g,c,f⟩:=ih u p
   refine ⟨v :: l,by simp [g],aH7.mpr ⟨fun hm=>?_,c⟩,fun x b=>?_⟩
   ·obtain ⟨_,j,w,hd⟩:=f v hm
    have:=hd.uniq h
    omega
   ·rcases aA8.mp b with rfl | b
    ·exact ⟨o _ _ t,d+1,aA6 _,h⟩
    ·obtain ⟨q,j,w,hd⟩:=f x b
     exact ⟨q,j,by omega,hd⟩
 obtain ⟨l,g,c,f⟩:=i d v h
 have few:∀ (n:Nat) (l:List Int),l.Nodup->(∀ v∈l,0<=v/\v < (n:Int))->l.length<=n:=by
  intro n
  induction n with
  | zero =>
   intro l _ h
   cases l with
   | nil=>simp
   | cons v r=>have:=h v (by simp);omega
  | succ n ih =>
   intro l hn h
   have g:=ih (l.erase (n:Int)) (hn.erase _) fun v m=>by
    have hm:=List.mem_of_mem_erase m
    have hb:=h v hm
    have s:v ≠ (n:Int):=by
     rintro rfl
     exact absurd m (List.Nodup.not_mem_erase hn)
    omega
   have c:l.length<=(l.erase (n:Int)).length+1:=by
    rw [List.length_erase]
    split <;> omega
   omega
 have:=few n l c fun x b=>(f x b).1
 omega
end Gr
namespace VL
open PySem PySem.Spec L2
theorem nodup_ix {α:Type} {xs:List α} (h:xs.Nodup) {i j:Nat} (hi:i < xs.length) (a:j < xs.length) (e:xs[i]=xs[j]):i=j:=by
 have p:=aG0.mp h
 rcases Nat.lt_trichotomy i j with q | q | q
 ·exact absurd e (p i j hi a q)
 ·exact q
 ·exact absurd e.symm (p j i a hi q)
def OLL (dss:List (List PyData)):Own where
 P:=fun G H v F=>∃ (a:Addr) (as:List Addr),v=.ref a/\H a=some (.lst (as.map V.ref))/\as.Nodup/\a ∉ as/\as.length=dss.length/\(∀ (i:Nat) b ds,as[i]?=some b->dss[i]?=some ds->∃ vs,H b=some (.lst vs)/\Rps G vs ds)/\∀ b,F b ↔ b=a\/b∈as
 mono:=fun ⟨a,as,e,h,n1,n2,l,r,f⟩ g hh=>⟨a,as,e,hh a _ ((f a).mpr (.inl rfl)) h,n1,n2,l,fun i b ds hb hd=>by
  obtain ⟨vs,h1,h2⟩:=r i b ds hb hd
  exact ⟨vs,hh b _ ((f b).mpr (.inr (aA2 hb))) h1,h2.same g⟩,f⟩
 dom:=fun ⟨a,as,e,h,n1,n2,l,r,f⟩ b z=>by
  rcases (f b).mp z with rfl | z
  ·exact ⟨_,h⟩
  ·obtain ⟨i,hi,e⟩:=aG9.mp z
   have hb:as[i]?=some b:=by rw [aA0 hi,e]
   obtain ⟨vs,h1,_⟩:=r i b _ hb (aA0 (by rw [← l];exact hi))
   exact ⟨_,h1⟩
theorem amw {G:Hp}:∀ {vs:List V} {ds:List PyData},vs.length=ds.length->(∀ (i:Nat) v d,vs[i]?=some v->ds[i]?=some d->Rp G v d)->Rps G vs ds
 | [],[],_,_ => .nil
 | [],_ :: _,h,_=>by simp at h
 | _ :: _,[],h,_=>by simp at h
 | v :: vs,d :: ds,h,k => .cons (k 0 v d rfl rfl) (amw (by simpa using h) fun i v d b a=>k (i+1) v d (by simpa using b) (by simpa using a))
theorem ajt {c:List (List PyData)}:Frz (OLL c) (.list (c.map .list)):=fun G H v F ⟨a,as,e,h,q,p,l,r,f⟩ n g=>by
 subst e
 refine .lst (by rw [adg ((f a).mpr (.inl rfl))];exact h) (amw (by simp [l]) fun i u d j hd=>?_)
 rw [aA5] at j hd
 cases hb:as[i]? with
 | none=>rw [hb] at j;cases j
 | some b =>
  cases hds:c[i]? with
  | none=>rw [hds] at hd;cases hd
  | some ds =>
   rw [hb] at j;rw [hds] at hd
   cases j;cases hd
   obtain ⟨vs,m,o⟩:=r i b ds hb hds
   exact .lst (by rw [adg ((f b).mpr (.inr (aA2 hb)))];exact m) (o.same (abk n))
section
variable {B:Bs} {env:En} {QO:Sl->En->Prop} {Q':PyData->En->Prop} {D':VEnds} {K:Frag} {i:Nat}
theorem a0n {a:List (List PyData)} {R:PyData->Prop} (h:R (.list (a.map .list))):FQ (.own (OLL a)) R:=⟨_,ajt,h⟩
theorem ax3 {src:List (Option Nat)} {wi:TI} {j:Nat} (h:EvI B wi env fun ds P=>ds.length<=1000000/\QO (.own (OLL (List.replicate ds.length []))) P):EvO B (tLC src wi (abl j) tYes (tLst tNil)) env QO:=fun σ G H F Q I k=>by
 refine h σ G H F _ I fun J N L F1 ds P s g1 it ⟨a1,q⟩ c d=>?_
 let W:Nat->List V->Hp->Prop:=fun n ys H=>∃ (as:List Addr) (g:Hp),ys=as.map V.ref/\as.length=n/\as.Nodup/\c ∉ as/\(∀ b∈as,L b=none/\g b=none/\H b=some (.lst []))/\H c=some (.lst ys)/\g c=none/\Same N g/\Same g H/\Same L H/\(∀ a o,g a=some o->N a=some o\/L a=none)/\FT g H
 refine ⟨fun n m ys σI H=>m=ds.length - n/\n<=ds.length/\W n ys H,⟨ds.length,by simp,aF3 _,[],N,rfl,rfl,List.nodup_nil,by simp,fun b hb=>by simp at hb,aaf,s.no_g d,Same.refl _,s.gh.trans (abn d),abn d,fun a o e => .inl e,fun a R e=>?_⟩,?_⟩
 ·by_cases z:a=c
  ·subst z;rw [aaf] at e;cases e
  ·rw [aae z] at e;exact s.ft a R e
 rintro n m ys σI H2 ⟨rfl,hn,as,g,rfl,S,nd,na,all,f,U,A,r,l,E,v⟩
 refine ⟨f,?_⟩
 by_cases hlt:n < ds.length
 ·refine .inr ⟨it.go n g H2 A r hlt,fun K Y H'=>W (n+1) K H',fun K Y H' hw=>⟨ds.length - (n+1),by omega,rfl,hlt,hw⟩,fun x H3 y=>?_⟩
  obtain ⟨M,o⟩:=it.yld n g H2 x H3 _ A r v (aA0 hlt) y
  refine ajb (al5 (acj (arz (agj ⟨by decide,fun p C=>?_⟩))))
  have n2:H2 p=none:=abd o.hh C
  have n1:L p=none:=abd l n2
  have O:p ≠ c:=(aar (o.hh _ _ f) C).symm
  have D:p ∉ as:=fun z=>by
   have:=o.hh _ _ (all p z).2.2
   rw [this] at C;cases C
  refine ⟨by rw [aae O.symm];exact o.hh _ _ f,by rw [aA3,S];exact big (by omega),as ++ [p],M,by simp,by simp [S],?_,?_,fun b hb=>?_,aaf,?_,A.trans o.gg,fun a u e=>?_,fun a u e=>?_,fun a u e=>?_,fun a R e=>?_⟩
  ·rw [aE2]
   exact ⟨nd,by simp,fun x hx y hy=>by simp at hy;subst hy;intro e;subst e;exact D hx⟩
  ·intro z
   rcases aA7.mp z with z | z
   ·exact na z
   ·exact O (aC1.mp z).symm
  ·have gb:∀ b,g b=none->(∃ u,H2 b=some u)->M b=none:=fun b T z_=>by
    obtain ⟨u,X⟩:=z_
    cases e:M b with
    | none=>rfl
    | some w =>
     rcases o.gn b w e with e | e
     ·rw [T] at e;cases e
     ·rw [X] at e;cases e
   rcases aA7.mp hb with hb | hb
   ·obtain ⟨T,X,h3⟩:=all b hb
    refine ⟨T,gb b X ⟨_,h3⟩,?_⟩
    rw [aae (fun z:b=c=>na (by rw [← z];exact hb)),aae (fun z:b=p=>D (by rw [← z];exact hb))]
    exact o.hh _ _ h3
   ·have e:b=p:=by simpa using hb
    subst e
    exact ⟨n1,abd o.gh C,by rw [aae O,aaf]⟩
  ·cases e:M c with
   | none=>rfl
   | some w =>
    rcases o.gn c w e with e | e
    ·rw [U] at e;cases e
    ·rw [f] at e;cases e
  ·have ap:a ≠ p:=aar (o.gh a u e) C
   have Z:a ≠ c:=by
    rintro rfl
    rcases o.gn _ u e with e | e
    ·rw [U] at e;cases e
    ·rw [f] at e;cases e
   rw [aae Z,aae ap];exact o.gh a u e
  ·have ap:a ≠ p:=aar e n1
   have Z:a ≠ c:=aar e d
   rw [aae Z,aae ap];exact o.hh _ _ (l a u e)
  ·rcases o.gn a u e with e | e
   ·exact E a u e
   ·exact .inr (abd l e)
  ·by_cases z:a=c
   ·subst z;rw [aaf] at e;cases e
   ·rw [aae z] at e
    by_cases y:a=p
    ·subst y;rw [aaf] at e;cases e
    ·rw [aae y] at e;exact o.ft v a R e
 ·have e:n=ds.length:=by omega
  subst e
  refine .inl ⟨it.stop _ g H2 A r rfl,?_⟩
  have I2:=s.grow A r l E v
  refine k (.ref c) g H2 F1 (fun b=>b=c\/b∈as) (.own (OLL (List.replicate ds.length []))) P I2 (g1.trans A) ⟨⟨c,as,rfl,f,nd,na,by simp [S],fun i b a0 hb hd=>?_,fun b=>Iff.rfl⟩,fun b z=>?_,fun b z=>?_,fun b z=>?_,fun j b z y=>?_⟩ q
  ·rw [aH0] at hd
   split at hd
   ·cases hd;exact ⟨[],(all b (aA2 hb)).2.2,.nil⟩
   ·cases hd
  ·rcases z with rfl | z
   ·exact s.no_b d
   ·exact s.no_b (all b z).1
  ·rcases z with rfl | z
   ·exact U
   ·exact (all b z).2.1
  ·rcases z with rfl | z
   ·exact ⟨_,f⟩
   ·exact ⟨_,(all b z).2.2⟩
  ·rcases z with rfl | z
   ·exact s.no_f d j y
   ·exact s.no_f (all b z).1 j y
theorem ais {d:List (List PyData)} {l j n:Nat} {k:Int} {y:PyData} {ds:List PyData} (e:env[i]?=some (some (.own (OLL d)))) (P:env[l]?=some (some (.st (.int k)))) (ey:env[j]?=some (some (.st y)))
  (Z:ixN d.length k=some n) (hd:d[n]?=some ds) (hl:ds.length<=999999) (q:Q' .none (env.set i (some (.own (OLL (d.set n (ds ++ [y]))))))):Ev B (tBM K "list" ad7 (tOp (acg K) (tVar i) (tVar l)) (aa3 (tVar j) tNil)) env Q':=fun σ G H F Q I kk=>by
 obtain ⟨v,L,⟨a,as,rfl,h,O,N,ln,r,f⟩,_⟩:=I.sl i _ e
 obtain ⟨vk,x,R,_⟩:=I.sl l _ P
 obtain ⟨vy,C,W,_⟩:=I.sl j _ ey
 cases R
 have hn:n < d.length:=(aA1.mp hd).1
 have hb:as[n]?=some (as[n]'(by omega)):=aA0 _
 generalize as[n]'(by omega)=b at hb
 have s:b∈as:=aA2 hb
 obtain ⟨vs,E,M⟩:=r n b ds hb hd
 have D:atI (as.map V.ref) k=some (.ref b):=by
  unfold atI
  rw [aA3,ln,Z]
  simp [hb]
 refine ⟨_,L,_,x,afq h D ⟨.inl ⟨rfl,_,SqL.of E⟩,_,C,aey E (by rw [M.length];exact big (by omega)) ?_⟩⟩
 have w:a ≠ b:=fun z=>N (z ▸ s)
 have J:=I.change (A:=OLL (d.set n (ds ++ [y]))) (H2:=upd H b (.lst (vs ++ [vy]))) (F2:=F i) (os':=.own (OLL (d.set n (ds ++ [y])))) i e L (fun c o p u=>by rw [aae (fun z:c=b=>p ((f c).mpr (.inr (by rw [z];exact s))))];exact u)
  (fun c o u=>by
   by_cases z:c=b
   ·rw [z];exact ⟨_,aaf⟩
   ·rw [aae z];exact ⟨o,u⟩)
  (fun c z=>⟨.inl z,by
   by_cases y:c=b
   ·rw [y];exact ⟨_,aaf⟩
   ·rw [aae y];exact I.fo i c z⟩) ?_ (fun c ks e=>by
   by_cases z:c=b
   ·subst z;rw [aaf] at e;cases e
   ·rw [aae z] at e;exact I.ft c ks e) (.inl ⟨rfl,_,rfl⟩)
 ·exact kk _ G _ _ _ _ J (Same.refl _) .non q
 ·refine ⟨a,as,rfl,by rw [aae w];exact h,O,N,by simp [ln],fun m c es p g=>?_,f⟩
  by_cases hm:m=n
  ·subst hm
   rw [hb] at p;cases p
   rw [aD1,aE8 rfl,aE8 hn] at g
   cases g
   exact ⟨_,aaf,M.append (.cons W .nil)⟩
  ·rw [aD1,aE9 (fun z=>hm z.symm)] at g
   obtain ⟨us,h3,S⟩:=r m c es p g
   refine ⟨us,?_,S⟩
   rw [aae]
   ·exact h3
   ·rintro rfl
    have i1:=(aA1.mp hb)
    have Y:=(aA1.mp p)
    obtain ⟨U,X⟩:=i1
    obtain ⟨T,e2⟩:=Y
    exact hm (nodup_ix O T U (e2.trans X.symm))
end
@[reducible] def prD (p:Int × Int):PyData:=.tuple [.int p.1,.int p.2]
@[reducible] def webD (n:Int) (es:List (Int × Int)):PyData:=.tuple [.int n,.list (es.map prD)]
def Tied (es:List (Int × Int)) (u v:Int):Prop:=(u,v)∈es\/(v,u)∈es
theorem Tied.symm {es:List (Int × Int)} {u v:Int} (h:Tied es u v):Tied es v u:=h.elim .inr .inl
def InN (n:Int) (es:List (Int × Int)):Prop:=∀ p∈es,0<=p.1/\p.1 < n/\0<=p.2/\p.2 < n
theorem Tied.in {n:Int} {es:List (Int × Int)} {u v:Int} (hi:InN n es) (h:Tied es u v):(0<=u/\u < n)/\0<=v/\v < n:=by
 rcases h with h | h
 ·have:=hi _ h;exact ⟨⟨this.1,this.2.1⟩,this.2.2⟩
 ·have:=hi _ h;exact ⟨⟨this.2.2.1,this.2.2.2⟩,this.1,this.2.1⟩
theorem Tied.snoc {es:List (Int × Int)} {i:Nat} {a b:Int} (h:es[i]?=some (a,b)) (u v:Int):Tied (es.take (i+1)) u v ↔ (Tied (es.take i) u v\/(u=a/\v=b))\/(u=b/\v=a):=by
 have e:es.take (i+1)=es.take i ++ [(a,b)]:=by rw [aG7,h];rfl
 unfold Tied
 rw [e]
 simp only [aA7,aC1,Prod.mk.injEq]
 constructor
 ·rintro ((h | ⟨rfl,rfl⟩) | (h | ⟨rfl,rfl⟩))
  ·exact .inl (.inl (.inl h))
  ·exact .inl (.inr ⟨rfl,rfl⟩)
  ·exact .inl (.inl (.inr h))
  ·exact .inr ⟨rfl,rfl⟩
 ·rintro (((h | h) | ⟨rfl,rfl⟩) | ⟨rfl,rfl⟩)
  ·exact .inl (.inl h)
  ·exact .inr (.inl h)
  ·exact .inl (.inr ⟨rfl,rfl⟩)
  ·exact .inr (.inr ⟨rfl,rfl⟩)
def TiedL (n:Int) (T:Int->Int->Prop) (tl:List (List Int)):Prop:=(tl.length:Int)=n/\∀ (i:Nat) ws,tl[i]?=some ws->∀ w,w∈ws ↔ T i w
def oD:Option Nat->PyData
 | none => .none
 | some d => .int d
def lab (n:Nat) (far:Int->Option Nat):List PyData:=(List.range n).map fun (i:Nat)=>oD (far (i:Int))
theorem acx {n:Nat} {far:Int->Option Nat}:(lab n far).length=n:=by simp [lab]
theorem aeb {n:Nat} {far:Int->Option Nat} {i:Nat} (h:i < n):(lab n far)[i]?=some (oD (far i)):=by
 unfold lab
 rw [aA5,aA0 (by simpa using h)]
 simp
theorem amx {n:Nat} {far:Int->Option Nat} {v:Int} (a:0<=v) (h:v < n):atI (lab n far) v=some (oD (far v)):=by
 have:=ad6 (xs:=lab n far) (j:=v.toNat) (aeb (by omega))
 rwa [show ((v.toNat:Nat):Int)=v by omega] at this
theorem ait {n:Nat} {v:Int} (a:0<=v) (h:v < n):ixN n v=some v.toNat:=by
 unfold ixN;rw [aE8 a,aE8 h]
theorem apb {n:Nat} {far:Int->Option Nat} {v:Int} {d:Nat} (a:0<=v) (h:v < n):(lab n far).set v.toNat (.int d)=lab n (Gr.label far v d):=by
 apply aF5
 intro i
 rw [aD1]
 by_cases e:v.toNat=i
 ·rw [aE8 e,aE8 (by rw [acx];omega),aeb (by omega)]
  have:(i:Int)=v:=by omega
  rw [this,Gr.label_same];rfl
 ·rw [aE9 e]
  by_cases hi:i < n
  ·rw [aeb hi,aeb hi,Gr.label_ne (by omega)]
  ·rw [aF0.mpr (by rw [acx];omega),aF0.mpr (by rw [acx];omega)]
theorem asf {n:Nat} {f g:Int->Option Nat} (h:∀ v,0<=v->v < (n:Int)->f v=g v):lab n f=lab n g:=by
 unfold lab
 apply aE3
 intro i hi
 rw [h i (by omega) (by have:=aB8.mp hi;omega)]
theorem ax4 {o:Option Nat}:isNone (oD o)=o.isNone:=by cases o <;> rfl
theorem afg {α:Type} {f : α->PyData} {xs:List α} {i:Int} {x : α} (h:atI xs i=some x):atI (xs.map f) i=some (f x):=by
 unfold atI at h ⊢
 rw [aA3]
 cases e:ixN xs.length i with
 | none=>rw [e] at h;cases h
 | some j=>rw [e] at h;simp at h ⊢;exact ⟨_,h,rfl⟩
theorem aco {α:Type} {xs:List α} {i:Int} {x : α} (a:0<=i) (h:xs[i.toNat]?=some x):atI xs i=some x:=by
 have:=ad6 (xs:=xs) (j:=i.toNat) h
 rwa [show ((i.toNat:Nat):Int)=i by omega] at this
@[reducible] def tlD (tl:List (List Int)):List (List PyData):=tl.map fun ws=>ws.map .int
theorem TiedL.get {n:Int} {T:Int->Int->Prop} {tl:List (List Int)} (h:TiedL n T tl) {v:Int} (c:0<=v) (d:v < n):∃ a,tl[v.toNat]?=some a/\∀ w,w∈a ↔ T v w:=by
 have b:v.toNat < tl.length:=by have:=h.1;omega
 refine ⟨tl[v.toNat],aA0 b,fun w=>?_⟩
 rw [h.2 _ _ (aA0 b) w,show ((v.toNat:Nat):Int)=v by omega]
theorem aec {tl:List (List Int)} {i:Nat} {a:List Int} (h:tl[i]?=some a):(tlD tl)[i]?=some (a.map .int):=by
 rw [aA5,h];rfl
theorem TiedL.put {n:Int} {T:Int->Int->Prop} {tl:List (List Int)} (h:TiedL n T tl) {v q:Int} {c:List Int} (j:0<=v) (g:v < n) (d:tl[v.toNat]?=some c):TiedL n (fun a b=>T a b\/(a=v/\b=q)) (tl.set v.toNat (c ++ [q])):=by
 refine ⟨by rw [List.length_set];exact h.1,fun i us hi w=>?_⟩
 rw [aD1] at hi
 by_cases e:v.toNat=i
 ·rw [aE8 e] at hi
  have l:v.toNat < tl.length:=(aA1.mp d).1
  rw [aE8 (by omega)] at hi
  cases hi
  have f:(i:Int)=v:=by omega
  rw [aA7,aC1,h.2 i c (by rw [← e];exact d) w,f]
  simp
 ·rw [aE9 e] at hi
  rw [h.2 i us hi w]
  exact ⟨.inl,fun z=>z.elim id fun z=>by omega⟩
theorem aha {tl:List (List Int)} {i:Nat} {a:List Int}:(tlD tl).set i (a.map .int)=tlD (tl.set i a):=by
 unfold tlD;rw [List.map_set]
theorem TiedL.iff {n:Int} {T a:Int->Int->Prop} {tl:List (List Int)} (h:TiedL n T tl) (e:∀ u v,T u v ↔ a u v):TiedL n a tl:=⟨h.1,fun i b hi w=>(h.2 i b hi w).trans (e _ _)⟩
end VL
namespace VL
open PySem L2
def cnt (far:Int->Option Nat):Nat->Nat
 | 0=>0
 | n+1=>cnt far n+(if far (n:Int)=none then 1 else 0)
theorem af4 {far:Int->Option Nat} {w:Int} {d:Nat}:∀ {n:Nat},(w:Int) ≥ n->cnt (Gr.label far w d) n=cnt far n
 | 0,_=>rfl
 | n+1,h=>by
  unfold cnt
  rw [af4 (by omega),Gr.label_ne (by omega)]
theorem ady {far:Int->Option Nat} {w:Int} {d:Nat} (b:0<=w) (a:far w=none):∀ {n:Nat},w < (n:Int)->cnt (Gr.label far w d) n+1=cnt far n
 | 0,h=>by omega
 | n+1,h=>by
  unfold cnt
  by_cases e:w=n
  ·subst e
   rw [af4 (by omega),Gr.label_same,a];simp
  ·rw [Gr.label_ne (by omega)]
   have:=ady b a (n:=n) (d:=d) (by omega)
   omega
theorem ax5 (n:Nat):(List.replicate n [PyData.none]).flatten=lab n (fun _=>none):=by
 apply aF5
 intro i
 by_cases hi:i < n
 ·rw [aeb hi]
  have:(List.replicate n [PyData.none]).flatten=List.replicate n PyData.none:=by
   clear hi
   induction n with
   | zero=>rfl
   | succ n ih=>rw [aG6,List.flatten_cons,ih,aG6];rfl
  rw [this,aH0,aE8 hi];rfl
 ·rw [aF0.mpr (by rw [aoh];simp;omega),aF0.mpr (by rw [acx];omega)]
theorem an4 {α:Type} {f : α->PyData} {xs:List α}:(xs.map f).isEmpty=xs.isEmpty:=by cases xs <;> rfl
theorem ab1 {xs:List Int} {j:Nat} {u w:Int} (a:xs[j]?=some u) (hm:w∈xs.take (j+1)):w∈xs.take j\/w=u:=by
 rw [aG7,a] at hm
 rcases aA7.mp hm with q | q
 ·exact .inl q
 ·exact .inr (by simpa using q)
theorem asg {n:Nat} {far:Int->Option Nat}:plainDs (lab n far)=true:=by
 rw [ae6]
 intro d hd
 obtain ⟨i,_,rfl⟩:=aB6.mp hd
 cases far (i:Int) <;> rfl
theorem ax6 {n:Nat} {far:Int->Option Nat}:((lab n far).any fun z=>PyData.eqv z .none)=true ↔ ∃ v:Int,0<=v/\v < n/\far v=none:=by
 rw [List.any_eq_true]
 constructor
 ·rintro ⟨d,hd,e⟩
  obtain ⟨i,hi,rfl⟩:=aB6.mp hd
  refine ⟨i,by omega,by have:=aB8.mp hi;omega,?_⟩
  cases h:far (i:Int) with
  | none=>rfl
  | some d=>rw [h] at e;simp [oD,PyData.eqv] at e
 ·rintro ⟨v,a,b,h⟩
  refine ⟨oD (far v),?_,by rw [h];rfl⟩
  have:=aeb (far:=far) (show v.toNat < n by omega)
  rw [show ((v.toNat:Nat):Int)=v by omega] at this
  exact aA2 this
def Joined (n:Int) (es:List (Int × Int)):Prop:=∀ v,0<=v->v < n->∃ d,Gr.Dist (Tied es) 0 v d
end VL
namespace DI
open PySem PySem.W
def Raw (h:Heap) (d:Addr) (es:Array DictEntry) (ep:Nat):Prop:=∃ o,h.get? d=some o/\o.ExactDict/\o.data=.dict es ep
theorem Raw.keep {h h':Heap} {d:Addr} {es:Array DictEntry} {a:Nat} (r:Raw h d es a) (k:∀ o,h.get? d=some o->h'.get? d=some o):Raw h' d es a:=let ⟨o,e,x⟩:=r;⟨o,k o e,x⟩
theorem Raw.ty {s:Shared} {d:Addr} {es:Array DictEntry} {a:Nat} (r:Raw s.heap d es a):s.TypeIs (.ref d) "dict":=let ⟨o,e,x,_⟩:=r;⟨o,e,x.1⟩
section
variable {prog:Program} {w:World} {A:Around} {E:Value->Shared->Prop} {s:Shared} {d it:Addr} {es:Array DictEntry} {ep i:Nat}
theorem ava {Q:Value->Shared->Prop} (hd:(d == sysModules)=false) (r:Raw s.heap d es ep)
  (c:Q (.ref s.heap.objs.size) { s with heap:=s.heap.push { cls:=.type "dict_keyiterator",data:=.fields #[.ref d,.int 0 0,.int es.size 0,.int ep 0] } }):wpAny (model prog w) A (pyIter (.ref d)) Q E s:=by
 obtain ⟨o,b,f,a⟩:=id r
 refine wpAny_pyIter_slot r.ty PySem.F.slot_dict_iter (aJ2 PySem.F.slot_dict_iter r.ty PySem.F.entry_dict_iter ?body (PySem.F.args_dict_iter_1 _))
 case body =>
  unfold Builtin.«dict.__iter__»
  refine aI1 ?slot
  case slot =>
   unfold Builtin.Dict.dictSlotNone
   refine aI1 (wpAny_notOrdered_dict r.ty ?pl)
   case pl =>
    show wpAny _ _ (pure (Value.ref d)) _ _ s
    refine aI2 ?rest
    case rest =>
     show wpAny _ _ (Builtin.Dict.showsAll d >>= _) _ _ s
     unfold Builtin.Dict.showsAll
     rw [aE9 (by rw [hd];exact aA9)]
     refine aI1 (aI2 (aI1 (wpAny_dictEntries b a (aI1 (wpAny_dictEpoch b a (aI1 (aI9 (aI2 ⟨_,rfl,"dict_keyiterator",_,⟨_,aI5 _ rfl,rfl⟩,PySem.F.slot_dict_keyiterator_next.lookup,?fin⟩))))))))
     case fin=>simpa [rawInt] using c
theorem avb {Q:Option Value->Shared->Prop} (a:s.heap.IsKeyIter it d i es.size ep) (r:Raw s.heap d es ep) (hi:i < es.size)
  (v:∀ h',h'.IsKeyIter it d (i+1) es.size ep->Heap.SameBut it s.heap h'->Q (some es[i].key) { s with heap:=h' }):wpAny (model prog w) A (pyNext (.ref it)) Q E s:=by
 obtain ⟨o,q,u,hd⟩:=id a
 obtain ⟨od,n,x,p⟩:=r
 unfold pyNext
 refine aI1 (wpAny_attempt (wpAny_callSpecial?_slot (name:=Str.ofString "__next__") a.typeIs PySem.F.slot_dict_keyiterator_next (aJ2 PySem.F.slot_dict_keyiterator_next a.typeIs PySem.F.entry_dict_keyiterator_next ?b (PySem.F.args_dict_keyiterator_next_1 _))))
 case b =>
  refine aI1 (aI2 (aI1 (aI1 ?c)))
  case c =>
   first | refine aI1 (wpAny_typeNameOfWhole_keyiter a.typeIs (aI2 (aI1 (wpAny_fieldsOf q hd ?e)))) | refine aI1 (wpAny_typeNameOf_keyiter a.typeIs (aI2 (aI1 (wpAny_fieldsOf q hd ?e))))
   case e =>
    simp only [show Builtin.Dict_items.ownsTuple "dict_keyiterator" = false by decide,Bool.false_eq_true,if_false]
    show wpAny _ _ (if (Value.ref d == Value.none)=true then _ else _) _ _ s;rw [aE9 (show ¬ ((Value.ref d == Value.none)=true) from aA9)]
    refine aI1 (aI2 (aI1 (wpAny_dictEntries n p ?f)))
    case f =>
     rw [aE9 (by simp)];refine aI1 (aI2 (aI1 (wpAny_dictEpoch n p ?g)))
     case g =>
      rw [aE9 (by simp)];refine aI2 ?h
      case h =>
       simp only [show ¬ ((i:Int) < 0) by omega,if_false,Int.toNat_natCast,aA4 hi];refine aI1 ?j
       case j =>
        first | refine aI1 (wpAny_typeNameOfWhole_keyiter a.typeIs (aI2 (aI1 (wpAny_isOneOf_keyiter a.typeIs ?k)))) | refine aI1 (wpAny_typeNameOf_keyiter a.typeIs (aI2 (aI1 (wpAny_isOneOf_keyiter a.typeIs ?k))))
        case k =>
         show wpAny _ _ (setField (.ref it) 1 (rawInt ((i:Int)+1)) >>= _) _ _ s;refine aI1 (wpAny_setField q hd (by simp) ?l)
         case l =>
          have nx:(s.heap.update it (Obj.mapFields (·.setIfInBounds 1 (rawInt ((i:Int)+1))))).IsKeyIter it d (i+1) es.size ep:=⟨_,Heap.get?_update_self _ q (Obj.isFreed_of_fields (Obj.data_mapFields hd _)),(Obj.cls_mapFields ..).trans u,by rw [Obj.data_mapFields hd];simp [rawInt]⟩
          refine aI1 (aI6 (aI1 (wpAny_isOneOf_keyiter (s:={ s with heap:=s.heap.update it (Obj.mapFields (·.setIfInBounds 1 (rawInt ((i:Int)+1)))) }) nx.typeIs ?m)))
          case m=>show wpAny _ _ (pure es[i].key) _ _ _;exact aI2 (aI2 ⟨_,rfl,aI2 (v _ nx (Heap.SameBut.update ..))⟩)
theorem ax7 {Q:Option Value->Shared->Prop} (hh:A.handled=none) (i:s.heap.IsKeyIter it d es.size es.size ep) (r:Raw s.heap d es ep) (v:∀ h',Heap.ExtBut it s.heap h'->Q none { s with heap:=h' }):wpAny (model prog w) A (pyNext (.ref it)) Q E s:=by
 obtain ⟨o,u,y,hd⟩:=id i
 obtain ⟨od,n,x,p⟩:=r
 unfold pyNext
 refine aI1 (wpAny_attempt (wpAny_callSpecial?_slot (name:=Str.ofString "__next__") i.typeIs PySem.F.slot_dict_keyiterator_next (aJ2 PySem.F.slot_dict_keyiterator_next i.typeIs PySem.F.entry_dict_keyiterator_next ?b (PySem.F.args_dict_keyiterator_next_1 _))))
 case b =>
  refine aI1 (aI2 (aI1 (aI1 ?c)))
  case c =>
   first | refine aI1 (wpAny_typeNameOfWhole_keyiter i.typeIs (aI2 (aI1 (wpAny_fieldsOf u hd ?e)))) | refine aI1 (wpAny_typeNameOf_keyiter i.typeIs (aI2 (aI1 (wpAny_fieldsOf u hd ?e))))
   case e =>
    simp only [show Builtin.Dict_items.ownsTuple "dict_keyiterator" = false by decide,Bool.false_eq_true,if_false]
    show wpAny _ _ (if (Value.ref d == Value.none)=true then _ else _) _ _ s;rw [aE9 (show ¬ ((Value.ref d == Value.none)=true) from aA9)]
    refine aI1 (aI2 (aI1 (wpAny_dictEntries n p ?f)))
    case f =>
     rw [aE9 (by simp)];refine aI1 (aI2 (aI1 (wpAny_dictEpoch n p ?g)))
     case g =>
      rw [aE9 (by simp)];refine aI2 ?h
      case h =>
       simp only [show ¬ ((es.size:Int) < 0) by omega,if_false,Int.toNat_natCast,Array.getElem?_eq_none (aA6 es.size)];refine aI1 ?j
       case j =>
        first | refine aI1 (wpAny_typeNameOfWhole_keyiter i.typeIs (aI2 ?k)) | refine aI1 (wpAny_typeNameOf_keyiter i.typeIs (aI2 ?k))
        case k =>
         show wpAny _ _ (setField (.ref it) 0 .none >>= _) _ _ s;refine aI1 (wpAny_setField u hd (by simp) ?l)
         case l =>
          show wpAny _ _ (newExc (.type "StopIteration") [] >>= _) _ _ _;refine aI1 ?m
          case m =>
           simp only [newExc,newTuple];refine aI1 (aI9 ?zz2 (by size_fits))
           case zz2 =>
            refine aI1 (m:=firstArgMember _ _) (wpAny_of_eq (a:=Value.none) (by first | rfl | (simp only [firstArgMember];rfl)) (aI9 ?zz1 (by size_fits)))
            case zz1 =>
             simp only [raiseNew];refine aI1 (wpAny_handled ?q)
             case q =>
              rw [show A.in1.handled=none from hh];refine aI1 (aI2 (wpAny_throw ?u1))
              case u1=>refine aI1 (wpAny_isInstance (T:="StopIteration") (b:=true) ⟨_,aI5 _ rfl,rfl⟩ isSubtype_stop ?u2);exact aI2 (v _ (((Heap.SameBut.update ..).extBut.push _).push _))
end
theorem walks {prog:Program} {w:World} {A:Around} (hh:A.handled=none) (I d:Addr) (c:d ≠ I) (es:Array DictEntry) (f:Nat) :
  Walks prog w A I [I,d] [I] es.size (fun i v=>(es[i]?).map (·.key)=some v) (fun i h=>h.IsKeyIter I d i es.size f/\Raw h d es f) where
 sub:=fun b hb=>by simp at hb;simp [hb]
 frame:=fun _ _ _ st g=>⟨st.1.at fun o e=>g I (by simp) o e,st.2.keep fun o e=>g d (by simp) o e⟩
 item:=fun i s Q E hi st a=>avb st.1 st.2 hi fun h' nx sb=>a _ h' s.toks (by rw [aA4 hi];rfl) ⟨nx,st.2.keep fun o e=>sb.extBut d o c e⟩ fun b o hb e=>sb.extBut b o (fun z=>hb (by simp [z])) e
 done:=fun s Q E st a=>ax7 hh st.1 st.2 fun h' j=>a h' s.toks fun b o hb e=>j b o (fun z=>hb (by simp [z])) e
 self:=fun _ _ _ _ st a=>wpAny_pyIter_keyiter st.1 a
end DI
namespace DI
open PySem PySem.W PyProof.Rows
section
variable {prog:Program} {w:World} {A:Around} {E:Value->Shared->Prop} {s:Shared}
theorem src (d:Addr) (es:Array DictEntry) (a:Nat) (hd:(d == sysModules)=false):KdlSrc prog w "dict" d d es.size (fun i v=>(es[i]?).map (·.key)=some v) (fun h=>Raw h d es a) where
 type:=fun s r=>r.ty
 there:=fun h r=>let ⟨o,e,_⟩:=r;⟨aI4 e,aI4 e⟩
 keep:=fun h h' r k=>r.keep fun o e=>k d (.inl rfl) o e
 notList:=by decide
 notTuple:=by decide
 hint:=fun A E s Q r q=>kdl_hint_dict r.ty q
 iter:=fun A s hh r=>⟨{ cls:=.type "dict_keyiterator",data:=.fields #[.ref d,.int 0 0,.int es.size 0,.int a 0] },fun i h=>h.IsKeyIter s.heap.objs.size d i es.size a/\Raw h d es a,fun E Q q=>ava hd r q,
  walks hh s.heap.objs.size d (by obtain ⟨o,e,_⟩:=r;exact aB5 (aI4 e)) es a,⟨_,aI5 _ rfl,rfl,rfl⟩,r.keep fun o e=>aI3 _ e⟩
theorem collect_src {T:String} {r d:Addr} {n:Nat} {P:Nat->Value->Prop} {j:Heap->Prop} {Q:List Value->Shared->Prop} (K:KdlSrc prog w T r d n P j) (hh:A.handled=none) (hok:j s.heap) (hn:n<=sizeLine)
  (m:∀ h' i (f:Array Value),(∀ b o,s.heap.get? b=some o->h'.get? b=some o)->s.heap.objs.size<=h'.objs.size->ItemsOf P f n->Q f.toList { s with heap:=h',toks:=i }):wpAny (model prog w) A (collect (.ref r)) Q E s:=by
 unfold collect
 refine aI1 (wpAny_runValue (codeAny_builtin PySem.F.entry_proto_collect ?a1))
 case a1 =>
  rw [aJ0 PySem.F.plain_proto_collect _];show wpAny _ A.in1 (newList [] >>= fun l=>again (.builtin "list.__iadd__" ⟨[l,.ref r],[]⟩)) _ _ s
  refine aI1 (aI9 (aI2 ⟨plainId_quiet PySem.F.plain_list_iadd _,codeAny_builtin PySem.F.entry_list_iadd ?a2⟩))
  case a2 =>
   rw [aJ0 PySem.F.plain_list_iadd _];show wpAny _ A.in1 (Builtin.List.listExtendWith (.ref s.heap.objs.size) (.ref r) (.ref s.heap.objs.size)) _ _ _
   have q:(s.heap.push { cls:=.type "list",data:=.seq ([]:List Value).toArray }).get? s.heap.objs.size=some { cls:=.type "list",data:=.seq #[] 0 }:=aI5 _ rfl
   obtain ⟨p,x⟩:=K.there _ hok
   refine kdl_extend (R:=wants (fun v u=>wpAny (model prog w) A (match v with | .ref a=>(do match (← load a).data with | .seq xs _=>pure xs.toList | _=>unsupported "internal:collect") | _=>unsupported "internal:collect") Q E u) E) (s:={ s with heap:=s.heap.push { cls:=.type "list",data:=.seq ([]:List Value).toArray } }) K hh (K.keep _ _ hok fun b _ o e=>aI3 _ e) s.heap.objs.size (Nat.ne_of_gt p) (Nat.ne_of_gt x) _ 0 q (fun h' i f c k h g=>?a3) hn
   case a3 =>
    show wpAny (model prog w) A _ Q E _
    refine aI1 (wpAny_load h ?a4)
    case a4=>exact aI2 (m h' i f (fun b o e=>k b o (aB5 (aI4 e)) (aI3 _ e)) (aF8 (aI4 h)) g)
end
end DI
namespace TS
open PySem PySem.W PyProof.Rows
section
variable {prog:Program} {w:World} {A:Around} {E:Value->Shared->Prop} {s:Shared}
theorem sorted_gen {l:Addr} {Ok:List Value->Prop} {Q:Value->Shared->Prop}
  (i:∀ (D:List Value->Shared->Prop),(∀ vs h d,(∀ b o,s.heap.get? b=some o->h.get? b=some o)->s.heap.objs.size<=h.objs.size->Ok vs->D vs { s with heap:=h,toks:=d })->wpAny (model prog w) A.in1 (collect (.ref l)) D E s)
  (c:∀ vs,Ok vs->vs.length<=sizeLine)
  (u:∀ vs,Ok vs->2<=vs.length->∀ h' d,(∀ b o,s.heap.get? b=some o->h'.get? b=some o)->∃ κ S R,(∀ (Q:SortKind->Shared->Prop),Q κ { s with heap:=h',toks:=d }->wpAny (model prog w) A.in1.in1 (keyKind' vs.toArray) Q E { s with heap:=h',toks:=d }) /\
   Cmp (model prog w) A.in1.in1 E { s with heap:=h',toks:=d } κ S R/\(∀ v∈vs,S (v,v))/\∀ out:List Value,out.Perm vs->out.Pairwise (fun x y=>R (y,y) (x,x)=false) ->
    ∀ a h' d e,(∀ b o,s.heap.get? b=some o->h'.get? b=some o)->s.heap.objs.size<=a->h'.get? a=some (seqObj "list" out.toArray e)->Q (.ref a) { s with heap:=h',toks:=d })
  (h:∀ vs,Ok vs->vs.length < 2->∀ a h' d e,(∀ b o,s.heap.get? b=some o->h'.get? b=some o)->s.heap.objs.size<=a->h'.get? a=some (seqObj "list" vs.toArray e)->Q (.ref a) { s with heap:=h',toks:=d }) :
  wpAny (model prog w) A (call (.builtin "sorted") [.ref l]) Q E s:=by
 refine Calls.call_function_entry kind_sorted plain_sorted entry_sorted (args_sorted1 _) ?_
 unfold Builtin.«sorted»
 refine aI1 (m:=checkCount "sorted" 1 1 _) (aI2 (aI1 (i _ fun vs g d kp hsz r=>?_)))
 have c:=c vs r
 refine aI1 (wpAny_newList ?_ c)
 have f:(g.push (seqObj "list" vs.toArray 0)).get? g.objs.size=some (seqObj "list" vs.toArray 0):=aI5 _ rfl
 have keep:∀ b o,s.heap.get? b=some o->(g.push (seqObj "list" vs.toArray 0)).get? b=some o:=fun b o q=>aI3 _ (kp b o q)
 refine aI1 (aI6 (aJ2 slot_list_sort ⟨_,f,rfl⟩ entry_list_sort ?body (args_list_sort _)))
 case body =>
  have fin:∀ out:List Value,∃ e,(sortedHeap (g.push (seqObj "list" vs.toArray 0)) g.objs.size vs out.toArray).get? g.objs.size=some (seqObj "list" out.toArray e):=fun out=>sortedHeap_at (n:=0) f
  have old:∀ (out:List Value) b o,s.heap.get? b=some o->(sortedHeap (g.push (seqObj "list" vs.toArray 0)) g.objs.size vs out.toArray).get? b=some o:=fun out b o e=>by
   have lt:=aI4 (kp b o e)
   rw [sortedHeap_old (aB5 lt) (by rw [size_push'];exact aF1 lt)];exact keep b o e
  refine af3 (s:={ s with heap:=g.push (seqObj "list" vs.toArray 0),toks:=d }) f c (fun B h' H=>?_) fun p=>?_
  ·obtain ⟨κ,S,R,F,C,I,j⟩:=u vs r B h' d fun b o e=>H b o (aB5 (aI4 (kp b o e))) (keep b o e)
   refine ⟨κ,S,R,F,C,I,fun out J G=>⟨_,rfl,aI2 ⟨_,rfl,?_⟩⟩⟩
   obtain ⟨e,z⟩:=fin out
   exact j out J G _ _ _ e (old out) hsz z
  ·obtain ⟨e,z⟩:=fin vs
   exact ⟨_,rfl,aI2 ⟨_,rfl,h vs r p _ _ _ e (old vs) hsz z⟩⟩
end
end TS
namespace L2
open PySem PySem.Spec PyProof.Rows
section
variable {X:Cx} {pins:List (Addr × Obj)} {σ:St} {H:Hp} {s:Shared} {h':Heap}
end
section
variable {X:Cx} {elts:List Expr} {k:Nat} {tpos:Pos}
end
section
variable {X:Cx} {elts:List Expr} {k:Nat} {tpos:Pos}
end
theorem aju:∀ {xs:List V} {us:List Value},xs.length=us.length->(∀ (i:Nat) v u,xs[i]?=some v->us[i]?=some u->RelV v u)->Vals xs us
 | [],[],_,_ => .nil
 | [],_ :: _,h,_=>by simp at h
 | _ :: _,[],h,_=>by simp at h
 | x :: xs,u :: us,h,k => .cons (k 0 x u rfl rfl) (aju (by simpa using h) fun i v w b a=>k (i+1) v w (by simpa using b) (by simpa using a))
theorem an5 (prog:Program) (w:World) (A:Around) {bs:List Bool} {us:List Value} (r:Vals (bs.map V.bl) us):TruthOf prog w A (fun i v=>us.toArray[i]?=some v) (fun i=>bs.getD i false):=by
 intro i v s Q E c h
 have a:us[i]?=some v:=by simpa using c
 have hi:i < us.length:=(aA1.mp a).1
 have hb:i < bs.length:=by have:=r.length;simp at this;omega
 obtain ⟨u,b,d⟩:=r.get (i:=i) (x:=.bl bs[i]) (by simp [hb])
 rw [a] at b;cases b
 cases (show v=Value.bool bs[i] from d)
 have e:bs.getD i false=bs[i]:=by simp [List.getD,hb]
 have h':Q (bs.getD i false) s:=h
 rw [e] at h'
 exact aJ3 h'
section
variable {X:Cx}
theorem ash (bs:List Bool):((List.range bs.length).all fun i=>bs.getD i false)=bs.all id:=by
 rw [aH1,aE7,aE7]
 constructor
 ·intro h b hb
  obtain ⟨i,hi,e⟩:=aG9.mp hb
  have:=h i (aB8.mpr hi)
  simp [List.getD,hi,e] at this
  exact this
 ·intro h i hi
  have a:=aB8.mp hi
  have:=h bs[i] (List.getElem_mem a)
  simp [List.getD,a];exact this
def rAll (K:Frag):List V->Hp->VK->Prop:=fun xs H Q=>∃ (a:Addr) (bs:List Bool),xs=[.ref a]/\SqL K H a (bs.map V.bl)/\Q (.bl (bs.all id)) H
theorem akm (f:X.calm=true):abb X (.builtin "all") (rAll X.K):=by
 intro pins s σ H xs us Q I r h
 obtain ⟨a,bs,rfl,ha,q⟩:=h
 obtain ⟨u,rfl,g⟩:=acm r
 cases g
 obtain ⟨its,d,c,_⟩:=I.list ha
 have i:a < s.heap.objs.size:=by obtain ⟨o,n,e,_⟩:=c;exact aI4 e
 have hz:its.toArray.size=bs.length:=by have:=d.length;simp at this;simp [this]
 refine call_all_walk (aJ4 c.isList ⟨_,[s.heap.objs.size,a],_,_,_,_,_,rfl,Walks.list (A:=X.A.in1) (I.ok.hd f) _ a (aB5 i) its.toArray,⟨⟨_,aI5 _ rfl,rfl,rfl⟩,c.isList.push _⟩,an5 _ _ _ d,fun j l kp=>?_⟩)
 rw [hz,ash]
 refine ⟨.bl _,H,I.kept fun b o e=>kp b o (fun z=>?_) (aI3 _ e),rfl,q⟩
 exact absurd (aI4 e) (by rw [aC1.mp z];exact aF7 _)
def amy (K:Frag):List V->Hp->VK->Prop:=fun xs H Q=>∃ p ys,xs=[.ref p]/\(SqL K H p ys\/SqT K H p ys)/\∀ l,H l=none->Q (.ref l) (upd H l (.lst ys))
theorem afv:abb X (.type "list") (amy X.K):=alt
def aiu (ta:TA):TE:=fun σ H Q=>ta σ H fun vs H1=>∃ j:Int,vs=[.int j]/\0<=j/\j<=1000000/\∀ l,H1 l=none->Q (.ref l) (upd H1 l (.lst ((List.range j.toNat).map fun (i:Nat)=>V.int (i:Int))))
theorem amz {a:Expr} {z:TA} {N p2 p d:Pos} (D:Gl X "list") (hm:X.mg "list" = none) (x:Gl X "range") (y:X.mg "range" = none) (E:X.calm=true) (ha:PA X [a] z) (A:starEach [a] X.env=[(false,eval a X.env)]:=by rfl)
  (l:starEach [.Call (.Name "range" p2) [a] [] d] X.env=[(false,eval (.Call (.Name "range" p2) [a] [] d) X.env)]:=by rfl):PE X (.Call (.Name "list" N) [.Call (.Name "range" p2) [a] [] d] [] p) (aiu z):=by
 intro pins s σ H Q I h
 refine Call_ (aed I D hm ad8 (PyProof.Rows.callWith_type1 ?_ l rfl))
 rw [l]
 refine Calls.spliced_cons (Call_ (aed I x y boot_range (PyProof.Rows.callWith_type1 (thn (ha d pins s σ H _ I h) fun us s1 ⟨vs,T,w,B,j,M,R,S,q⟩=>?_) A rfl)))
 subst M
 obtain ⟨u,rfl,t,rfl⟩:=acm B
 refine call_range_1 (Calls.spliced_nil ?_)
 have K:IsRange (s1.heap.push { cls:=.type "range",data:=.fields #[.int 0 s1.toks,.int j t,.int 1 (s1.toks+1)] }) s1.heap.objs.size 0 j 1 s1.toks t (s1.toks+1):=aI5 _ rfl
 have hn:Builtin.Range.rangeSize 0 j 1=((j.toNat:Nat):Int):=by rw [rangeSize_one];split <;> omega
 refine call_list_range (s:={ s1 with heap:=s1.heap.push { cls:=.type "range",data:=.fields #[.int 0 s1.toks,.int j t,.int 1 (s1.toks+1)] },toks:=s1.toks+1+1 }) (w.ok.hd E) K (small_one (by omega) (by omega) (by omega) (by omega)) hn (by omega) fun F G g c kp L items=>?_
 have P:∀ b o,s1.heap.get? b=some o->F.get? b=some o:=fun b o e=>kp b o (aI3 _ e)
 have f:s1.heap.objs.size<=(s1.heap.push { cls:=.type "range",data:=.fields #[.int 0 s1.toks,.int j t,.int 1 (s1.toks+1)] }).objs.size:=by rw [aJ1];exact Nat.le_succ _
 refine ⟨.ref _,_,w.laid (t':=G) (o:=.lst ((List.range j.toNat).map fun (i:Nat)=>V.int (i:Int))) P f ?_,rfl,q _ (w.hok.fresh f)⟩
 refine ⟨by rw [aA3,List.length_range];exact aF8 (VL.big (by omega)),g.toList,c,?_,by simpa using L⟩
 obtain ⟨C,r⟩:=items
 refine aju (by simp [C]) fun i v u n J=>?_
 have m:g[i]?=some u:=by simpa using J
 obtain ⟨t',O⟩:=r i u m
 rw [aA5] at n
 have hi:i < j.toNat:=by
  have:=(Array.getElem?_eq_some_iff.mp m).1
  omega
 rw [aA0 (by simpa using hi)] at n
 simp at n
 subst n
 exact ⟨t',by rw [O];simp⟩
end
section
variable {X:Cx} {pins:List (Addr × Obj)} {σ:St} {H:Hp} {s:Shared}
end
theorem KT.get {H:Hp}:∀ {kvs:List (List Key × V)} {xs:List (List Key × Addr × Value)} {i:Nat} {p:List Key × V},KT H kvs xs->kvs[i]?=some p->∃ q,xs[i]?=some q/\p.1=q.1/\H q.2.1=some (.tup (p.1.map kV))
 | _,_,_,_,.nil,e=>by simp at e
 | _,_,0,_,.cons r _,e=>by simp at e;subst e;exact ⟨_,rfl,r.1,r.2.1⟩
 | _,_,i+1,p,.cons _ t,e=>by
  obtain ⟨q,b,a⟩:=KT.get (i:=i) (p:=p) t (by simpa using e)
  exact ⟨q,by simpa using b,a⟩
section
variable {X:Cx} {tg:Expr}
def ahb:List V->Hp->VK->Prop:=fun xs H Q=>∃ (a:Addr) (kvs:List (List Key × V)) (kss:List (List Int)),xs=[.ref a]/\H a=some (.dT kvs)/\kvs.map (·.1)=kss.map (fun ns=>ns.map Sum.inl)/\(∀ ns∈kss,ns ≠ []) /\
 ∀ (vs:List V) (p:Addr),(∀ v∈vs,TupI H v)->(vs.map (kH H)).Perm kss->vs.Pairwise (fun x y=>HT.lexLt (kH H y) (kH H x)=false)->H p=none->Q (.ref p) (upd H p (.lst vs))
theorem apc {H:Hp}:∀ {kvs:List (List Key × V)} {xs:List (List Key × Addr × Value)} {a:List (List Int)},KT H kvs xs->kvs.map (·.1)=a.map (fun ns=>ns.map Sum.inl)->(∀ ns∈a,ns ≠ []) ->
  (∀ v∈xs.map (fun q=>V.ref q.2.1),TupI H v)/\(xs.map (fun q=>V.ref q.2.1)).map (kH H)=a
 | _,_,[],.nil,_,_=>⟨fun v b=>by simp at b,rfl⟩
 | _,_,_ :: _,.nil,h,_=>by simp at h
 | _,_,[],.cons _ _,h,_=>by simp at h
 | p :: kvs,q :: xs,ns :: a,.cons r t,h,hn=>by
  simp only [aD0,List.cons.injEq] at h
  obtain ⟨f,d⟩:=apc t h.2 fun c hm=>hn c (aB4 _ hm)
  have e:H q.2.1=some (.tup (ns.map V.int)):=by
   rw [r.2.1,h.1,aD8];rfl
  refine ⟨fun v b=>?_,?_⟩
  ·rcases aA8.mp b with rfl | b
   ·exact ⟨_,ns,rfl,e,hn ns aB7⟩
   ·exact f v b
  ·rw [aD0,aD0,alf e,d]
theorem ahl (hc:X.calm=true):abb X (.builtin "sorted") ahb:=by
 intro pins s σ H xs us Q I r h
 obtain ⟨a,kvs,a1,rfl,hH,Z,D,q⟩:=h
 obtain ⟨u,rfl,P⟩:=acm r
 cases P
 obtain ⟨z,y,ys,A,o,es,ep,h1,m,h3,L,h5⟩:=(show ObjOk X.prog X.w H s.heap a (.dT kvs) from I.hok a _ hH)
 obtain ⟨J,S⟩:=apc A Z D
 have hz:es.size=ys.length:=by
  have U:es.toList.length=ys.length:=by rw [L];simp
  simpa using U
 have g:ys.length<=sizeLine:=by have:=Paired.length A;omega
 let c:List Value:=ys.map fun q => .ref q.2.1
 have O:Vals (ys.map fun q=>V.ref q.2.1) c:=aju (by simp [c]) fun i v u d n=>by
  rw [aA5] at d n
  cases e:ys[i]? with
  | none=>rw [e] at d;cases d
  | some q=>rw [e] at d n;cases d;cases n;rfl
 obtain ⟨b1,N⟩:=agp O J
 have fin:∀ out:List Value,out.Perm c->(out.map adf).Pairwise (fun x y=>HT.lexLt (kH H y) (kH H x)=false)->∀ p m j e,(∀ b o,s.heap.get? b=some o->m.get? b=some o)->s.heap.objs.size<=p->m.get? p=some (seqObj "list" out.toArray e)->EP X pins σ Q (.ref p) { s with heap:=m,toks:=j }:=by
  intro out f E p m j e kp hsz he
  have d:Vals (out.map adf) out:=ago fun u n=>b1 u (f.mem_iff.mp n)
  refine ⟨.ref p,_,I.laid (t':=j) (o:=.lst (out.map adf)) kp hsz ?_,rfl,q _ _ (fun v G=>?_) ?_ E (I.hok.fresh hsz)⟩
  ·refine ⟨by rw [aA3,f.length_eq];simp [c];exact g,out,e,d,by rw [he]⟩
  ·have:=(f.map adf).mem_iff.mp G
   rw [N] at this;exact J v this
  ·have:=(f.map adf).map (kH H)
   rw [N,S] at this;exact this
 refine TS.sorted_gen (Ok:=fun vs=>vs=c) (fun Qc F=>DI.collect_src (DI.src a es ep y) (I.ok.hd hc) ⟨o,h1,m,h3⟩ (by omega) fun h' j l kp hsz items=>F _ h' j kp hsz ?_) (fun vs e=>by subst e;simp [c];exact g) (fun vs e a0 h' j kp=>?_) fun vs e C=>?_
 ·obtain ⟨i1,Y⟩:=items
  apply aF5
  intro i
  simp only [c,aA5]
  by_cases hi:i < ys.length
  ·have ha:l[i]?=some l[i]:=aA4 (by omega)
   have:(es[i]?).map (·.key)=some l[i]:=Y i _ ha
   have M:es[i]?=some es[i]:=aA4 (by omega)
   rw [M] at this
   have K:es.toList[i]?=some es[i]:=by rw [aD4];exact M
   rw [L,aA5,aA0 hi] at K
   rw [aA0 hi]
   simp at this K
   rw [aD4,ha,← this,← K];rfl
  ·rw [aF0.mpr (by simp;omega),aF0.mpr (by omega)];rfl
 ·subst e
  obtain ⟨⟨fs,R,k2,k3⟩,k4⟩:=aht I kp O J
  have B:(Value.type "int" != Value.type "tuple")=true:=by rfl
  refine ⟨tuples' true,TS.tS h' (fun a=>kH H (.ref a)),TS.tR (fun a=>kH H (.ref a)),fun Q' F=>?_,TS.cmp_tups (s:={ s with heap:=h',toks:=j }) (fun a=>kH H (.ref a)),fun v d=>?_,fun out f E=>fin out f ?_⟩
  ·refine PySem.W.kat_kind (T:=.type "int") (s:={ s with heap:=h',toks:=j }) R (by omega) (fun v d=>?_) (by rfl) ?_
   ·obtain ⟨i,t,rfl⟩:=k3 v d
    exact .now
   ·rw [B];exact F
  ·obtain ⟨a,e,ht⟩:=k4 v d
   exact ⟨rfl,a,e,ht⟩
  ·rw [aF4]
   refine aH3 ?_ E
   intro x y hx hy hr
   obtain ⟨ax,rfl⟩:=b1 x (f.mem_iff.mp hx)
   obtain ⟨ay,rfl⟩:=b1 y (f.mem_iff.mp hy)
   exact hr
 ·subst e
  exact fin c (List.Perm.refl _) (amo (by rw [aA3];exact C))
end
end L2
namespace VL
open PySem PySem.Spec L2
section
variable {B:Bs} {env:En} {QI:List PyData->En->Prop} {QO:Sl->En->Prop} {Q':PyData->En->Prop} {K:Frag} {i:Nat} {ta:TA}
theorem RpT.len {G:Hp}:∀ {kvs:List (List Key × V)} {es:List (List Key × PyData)},RpT G kvs es->kvs.length=es.length/\kvs.map (·.1)=es.map (·.1)
 | _,_,.nil=>⟨rfl,rfl⟩
 | _,_,.cons _ t=>by
  obtain ⟨b,a⟩:=RpT.len t
  exact ⟨by simp [b],by simp [a]⟩
@[reducible] def tkD (ks:List Key):PyData:=.tuple (ks.map kD)
@[reducible] def tiD (ns:List Int):PyData:=.tuple (ns.map .int)
def lexS (pss:List (List Int)):Prop:=pss.Pairwise fun x y=>HT.lexLt y x=false
theorem ahx {G H:Hp} (ft:FT G H):∀ {vs:List V},(∀ v∈vs,TupI H v)->Rps G vs ((vs.map (kH H)).map tiD)
 | [],_ => .nil
 | v :: vs,h=>by
  obtain ⟨t,ns,rfl,e,_⟩:=h v aB7
  rw [aD0,aD0,alf e]
  have:(ns.map V.int)=(ns.map (fun i=>(Sum.inl i:Key))).map kV:=by rw [aD8];rfl
  refine .cons (.tup ?_ (Rps.ints ns)) (ahx ft fun u a=>h u (aB4 _ a))
  rw [this];exact ft t _ (by rw [← this];exact e)
theorem ahm {G H:Hp} (gh:Same G H):∀ {vs:List V} {pss:List (List Int)},Rps G vs (pss.map tiD)->(∀ ns∈pss,ns ≠ [])->(∀ v∈vs,TupI H v)/\vs.map (kH H)=pss
 | _,[],.nil,_=>⟨fun v d=>by simp at d,rfl⟩
 | v :: vs,ns :: pss,.cons r t,hn=>by
  obtain ⟨f,c⟩:=ahm gh t fun b hm=>hn b (aB4 _ hm)
  cases r with
  | tup h rs =>
   have:=Rps.ints_inv rs
   subst this
   have e:=gh _ _ h
   refine ⟨fun u a=>?_,by rw [aD0,alf e,c]⟩
   rcases aA8.mp a with rfl | a
   ·exact ⟨_,ns,rfl,e,hn ns aB7⟩
   ·exact f u a
theorem asi {pss:List (List Int)} (hn:∀ ns∈pss,ns ≠ []) (h:EvA B ta env fun ds e=>ds=[.list (pss.map tiD)]/\∀ b:List (List Int),b.Perm pss->lexS b->QO (.own (OL (b.map tiD))) e):EvO B (tCB (ain K) ta) env QO:=fun σ G H F Q I k =>
 h σ G H F _ I fun vs A g n ds i c m l u=>by
  obtain ⟨x,y⟩:=u
  subst x
  cases l with
  | cons r t =>
   cases t
   cases r with
   | @lst a us _ ha rs =>
    obtain ⟨f,z⟩:=ahm c.gh rs hn
    refine ⟨a,us,rfl,SqL.of (c.gh _ _ ha),f,fun w p d j hf=>?_⟩
    have s:∀ v∈w,TupI g v:=fun v q=>f v (d.mem_iff.mp q)
    have o:=Out.newL c.gh hf (ahx c.ft s)
    refine k _ _ _ n _ _ i (c.out o).1 (m.trans o.gg) (c.out o).2 (y _ ?_ ?_)
    ·have:=d.map (kH g);rw [z] at this;exact this
    ·unfold lexS;rw [aF4];exact j
theorem aqk {es:List (List Key × PyData)} {b:List (List Int)} (j:Has env i (OT es)) (g:es.map (·.1)=b.map (fun ns=>ns.map Sum.inl)) (hn:∀ ns∈b,ns ≠ []) (q:∀ c:List (List Int),c.Perm b->lexS c->QO (.own (OL (c.map tiD))) env):EvO B (tCB ahb (aa3 (tVar i) tNil)) env QO:=fun σ G H F Q I k=>by
 obtain ⟨v,l,a,kvs,rfl,ha,rt,hf⟩:=I.has j
 obtain ⟨s,n⟩:=RpT.len rt
 refine ⟨_,l,a,kvs,b,rfl,ha,by rw [n,g],hn,fun r p m h f d=>?_⟩
 have o:=Out.newL I.gh d (ahx I.ft m)
 refine k _ _ _ F _ _ env (I.out o).1 o.gg (I.out o).2 (q _ h ?_)
 unfold lexS;rw [aF4];exact f
end
section
variable {B:Bs} {env:En} {QO:Sl->En->Prop} {Q':PyData->En->Prop} {K:Frag} {i:Nat} {ta:TA} {R:Sl->Prop}
theorem Rps.bools_inv {G:Hp}:∀ {bs:List Bool} {vs:List V},Rps G vs (bs.map PyData.bool)->vs=bs.map V.bl
 | [],_,.nil=>rfl
 | b :: bs,_,.cons r t=>by
  cases r
  rw [Rps.bools_inv t];rfl
theorem apd {bs:List Bool} (h:R (.st (.bool (bs.all id)))):OpA (rAll K) [.list (bs.map .bool)] R:=fun G H vs Q gh rs k=>by
 cases rs with
 | cons r t =>
  cases t
  cases r with
  | lst ha ra =>
   have:=Rps.bools_inv ra
   subst this
   exact ⟨_,bs,rfl,SqL.of (gh _ _ ha),k _ _ _ _ _ (Out.refl gh (.bl _)) h⟩
theorem avc {ds:List PyData} (h:R (.own (OL ds))):OpA (amy K) [.list ds] R:=fun G H vs Q gh rs k=>by
 cases rs with
 | cons r t =>
  cases t
  cases r with
  | lst ha ra=>exact ⟨_,_,rfl,.inl (SqL.of (gh _ _ ha)),fun p a=>k _ _ _ _ _ (Out.newL gh a ra) h⟩
theorem asj {G:Hp} (n:Nat):Rps G ((List.range n).map fun (i:Nat)=>V.int (i:Int)) (rngD 0 n):=by
 unfold rngD
 refine amw (by simp) fun i v d a hd=>?_
 rw [aA5] at a hd
 cases e:(List.range n)[i]? with
 | none=>rw [e] at a;cases a
 | some m=>rw [e] at a hd;cases a;cases hd;show Rp G (.int (m:Int)) (.int (0+(m:Int)));rw [aH8];exact .int _
theorem akn (h:EvA B ta env fun ds e=>∃ j:Int,ds=[.int j]/\0<=j/\j<=1000000/\QO (.own (OL (rngD 0 j.toNat))) e):EvO B (aiu ta) env QO:=fun σ G H F Q I k =>
 h σ G H F _ I fun vs r s g ds b a f c l=>by
  obtain ⟨j,n,i,m,q⟩:=l
  subst n
  obtain rfl:vs=[V.int j]:=Rps.ints_inv (ns:=[j]) c
  refine ⟨j,rfl,i,m,fun p d=>?_⟩
  have o:=Out.newL a.gh d (asj j.toNat)
  exact k _ _ _ g _ _ b (a.out o).1 (f.trans o.gg) (a.out o).2 q
theorem avd (h:EvA B ta env fun ds e=>∃ j:Int,ds=[.int j]/\0<=j/\j<=1000000/\Q' (.list (rngD 0 j.toNat)) e):Ev B (aiu ta) env Q':=abo (akn fun σ G H F Q I k=>h σ G H F Q I fun vs G' H' F' ds d f g r ⟨j,a,b,c,q⟩=>k vs G' H' F' ds d f g r ⟨j,a,b,c,ac5 q⟩)
end
section
variable {κ:Type} [DecidableEq κ] {α:Type}
def valD (es:List (κ × α)) (k : κ):Option α:=(es.find? fun e=>decide (e.1=k)).map (·.2)
def putD (es:List (κ × α)) (k : κ) (d : α):List (κ × α):=if (es.any fun e=>decide (e.1=k))=true then es.map (fun e=>if e.1=k then (e.1,d) else e) else es ++ [(k,d)]
end
theorem RpK.val {G:Hp} {k:Key}:∀ {kvs:List (Key × V)} {es:List (Key × PyData)},RpK G kvs es->(valD es k=none->valV kvs k=none)/\∀ d,valD es k=some d->∃ v,valV kvs k=some v/\Rp G v d
 | _,_,.nil=>⟨fun _=>rfl,fun d h=>by cases h⟩
 | _,_,.cons (k:=k') r t=>by
  obtain ⟨c,b⟩:=RpK.val (k:=k) t
  by_cases e:k'=k
  ·refine ⟨fun h=>by simp [valD,e] at h,fun d h=>?_⟩
   simp [valD,e] at h
   subst h
   exact ⟨_,by simp [valV,e],r⟩
  ·refine ⟨fun h=>?_,fun d h=>?_⟩
   ·simp [valV,e];simp [valD,e] at h
    have:=c (by simp [valD];exact h)
    simpa [valV] using this
   ·obtain ⟨v,f,a⟩:=b d (by simpa [valD,e] using h)
    exact ⟨v,by simpa [valV,e] using f,a⟩
theorem RpK.any {G:Hp} {k:Key}:∀ {kvs:List (Key × V)} {es:List (Key × PyData)},RpK G kvs es->(kvs.any fun e=>decide (e.1=k))=es.any fun e=>decide (e.1=k)
 | _,_,.nil=>rfl
 | _,_,.cons r t=>by simp [RpK.any t]
theorem RpK.map {G:Hp} {k:Key} {v:V} {d:PyData} (h:Rp G v d):∀ {kvs:List (Key × V)} {es:List (Key × PyData)},RpK G kvs es->RpK G (kvs.map fun e=>if e.1=k then (e.1,v) else e) (es.map fun e=>if e.1=k then (e.1,d) else e)
 | _,_,.nil => .nil
 | _,_,.cons (k:=k') r t=>by
  by_cases e:k'=k
  ·simp only [aD0,e,if_true];exact .cons h (RpK.map h t)
  ·simp only [aD0,e,if_false];exact .cons r (RpK.map h t)
theorem RpK.append {G:Hp}:∀ {a b:List (Key × V)} {c d:List (Key × PyData)},RpK G a c->RpK G b d->RpK G (a ++ b) (c ++ d)
 | _,_,_,_,.nil,s=>s
 | _,_,_,_,.cons r t,s => .cons r (RpK.append t s)
theorem RpK.put {G:Hp} {k:Key} {v:V} {d:PyData} (h:Rp G v d) {kvs:List (Key × V)} {es:List (Key × PyData)} (r:RpK G kvs es):RpK G (putK kvs k v) (putD es k d):=by
 unfold putK putD
 rw [r.any]
 split
 ·exact r.map h
 ·exact r.append (.cons h .nil)
theorem RpT.any {G:Hp} {k:List Key}:∀ {kvs:List (List Key × V)} {es:List (List Key × PyData)},RpT G kvs es->(kvs.any fun e=>decide (e.1=k))=es.any fun e=>decide (e.1=k)
 | _,_,.nil=>rfl
 | _,_,.cons r t=>by simp [RpT.any t]
theorem RpT.map {G:Hp} {k:List Key} {v:V} {d:PyData} (h:Rp G v d):∀ {kvs:List (List Key × V)} {es:List (List Key × PyData)},RpT G kvs es->RpT G (kvs.map fun e=>if e.1=k then (e.1,v) else e) (es.map fun e=>if e.1=k then (e.1,d) else e)
 | _,_,.nil => .nil
 | _,_,.cons (k:=k') r t=>by
  by_cases e:k'=k
  ·simp only [aD0,e,if_true];exact .cons h (RpT.map h t)
  ·simp only [aD0,e,if_false];exact .cons r (RpT.map h t)
theorem RpT.append {G:Hp}:∀ {a b:List (List Key × V)} {c d:List (List Key × PyData)},RpT G a c->RpT G b d->RpT G (a ++ b) (c ++ d)
 | _,_,_,_,.nil,s=>s
 | _,_,_,_,.cons r t,s => .cons r (RpT.append t s)
theorem RpT.put {G:Hp} {k:List Key} {v:V} {d:PyData} (h:Rp G v d) {kvs:List (List Key × V)} {es:List (List Key × PyData)} (r:RpT G kvs es):RpT G (putK kvs k v) (putD es k d):=by
 unfold putK putD
 rw [r.any]
 split
 ·exact r.map h
 ·exact r.append (.cons h .nil)
theorem RpK.length {G:Hp}:∀ {kvs:List (Key × V)} {es:List (Key × PyData)},RpK G kvs es->kvs.length=es.length
 | _,_,.nil=>rfl
 | _,_,.cons _ t=>by simp [RpK.length t]
theorem aiv {G:Hp} {v:V} {k:Key} (r:Rp G v (kD k)):v=kV k:=by
 cases k with
 | inl i=>cases r;rfl
 | inr x=>cases r;rfl
theorem am0 {G:Hp}:∀ {a:List Key} {vs:List V},Rps G vs (a.map kD)->vs=a.map kV
 | [],_,.nil=>rfl
 | k :: a,_,.cons r t=>by rw [aiv r,am0 t];rfl
section
variable {B:Bs} {env:En} {QO:Sl->En->Prop} {Q':PyData->En->Prop} {D':VEnds} {i:Nat} {te ty tv td:TE}
theorem asl (q:QO (.own (OT [])) env):EvO B alz env QO:=fun σ G H F Q I k p a=>by
 have o:=Out.newDT (ds:=[]) I.gh a .nil
 exact k _ _ _ F _ _ env (I.out o).1 o.gg (I.out o).2 q
theorem asm {es0:List (List Key × PyData)} (h:Ev B tv env fun d l=>Has l i (OT es0)/\Ev B ty l fun y e2=>∃ es j,e2[i]?=some (some (.own (OT es)))/\y=tkD j/\es.length<=999999/\D'.nx (e2.set i (some (.own (OT (putD es j d)))))):EvS B (aid (tVar i) ty tv) D' env:=fun σ G H F D I r =>
 h σ G H F _ I fun v z M E d l s A w L=>by
  obtain ⟨C,N⟩:=L
  obtain ⟨v0,n,a,kvs,rfl,ha,rt,_⟩:=s.has C
  refine ⟨_,n,N σ z M E _ s fun Q O H2 F2 y e2 p u x ⟨es,j,g,K,S,J⟩=>?_⟩
  subst K
  obtain ⟨R,f,⟨P,q,m,o,c,hf⟩,hb⟩:=p.sl i _ g
  rw [n] at f;cases f;cases m
  cases x with
  | tup hk rs =>
   have:=am0 rs
   subst this
   refine ⟨a,_,rfl,DPut.t o (p.gh _ _ hk) (by rw [(RpT.len c).1];exact big (by omega)),?_⟩
   exact r.nx σ O _ _ _ (p.upd1 (A':=OT (putD es j d)) g (.inl rfl) n hf ⟨a,_,rfl,aaf,c.put (w.same u),fun b=>Iff.rfl⟩) (A.trans u) J
theorem asn {es0:List (Key × PyData)} (h:Ev B tv env fun d j=>Has j i (OD es0)/\Ev B ty j fun y e2=>∃ es k,e2[i]?=some (some (.own (OD es)))/\y=kD k/\es.length<=999999/\D'.nx (e2.set i (some (.own (OD (putD es k d)))))):EvS B (aid (tVar i) ty tv) D' env:=fun σ G H F D I r =>
 h σ G H F _ I fun v x L C d j p z u K=>by
  obtain ⟨A,M⟩:=K
  obtain ⟨v0,m,a,kvs,rfl,ha,rt,_⟩:=p.has A
  refine ⟨_,m,M σ x L C _ p fun Q O H2 F2 y e2 s q w ⟨es,N,g,J,S,E⟩=>?_⟩
  subst J
  obtain ⟨R,f,⟨P,o,l,n,c,hf⟩,hb⟩:=s.sl i _ g
  rw [m] at f;cases f;cases l
  have:=aiv w
  subst this
  refine ⟨a,_,rfl,DPut.k n (by rw [c.length];exact big (by omega)),?_⟩
  exact r.nx σ O _ _ _ (s.upd1 (A':=OD (putD es N d)) g (.inl rfl) m hf ⟨a,_,rfl,aaf,c.put (u.same q),fun b=>Iff.rfl⟩) (z.trans q) E
theorem aql {es0:List (Key × PyData)} (h:Ev B ty env fun y e2=>∃ es k,Has e2 i (OD es)/\y=kD k/\Q' (.bool (!(valD es k).isSome)) e2):Ev B (ag2 ty (tVar i)) env Q':=fun σ G H F Q I k =>
 h σ G H F _ I fun u s H2 F2 y e2 c n g p=>by
  obtain ⟨es,b,j,o,q⟩:=p
  subst o
  obtain ⟨v,m,a,kvs,rfl,ha,rt,_⟩:=c.has j
  have:=aiv g
  subst this
  refine ⟨_,m,a,_,rfl,DGet.k ha,?_⟩
  have e:(valV kvs b).isSome=(valD es b).isSome:=by
   obtain ⟨r,f⟩:=rt.val (k:=b)
   cases hd:valD es b with
   | none=>rw [r hd];rfl
   | some d=>obtain ⟨v,l,_⟩:=f d hd;rw [l];rfl
  rw [e]
  exact k _ s H2 F2 _ e2 c n (.bl _) q
end
section
variable {B:Bs} {env:En} {QO:Sl->En->Prop} {Q':PyData->En->Prop} {QE:En->Prop} {D':VEnds} {K:Frag} {i:Nat} {ta:TA}
theorem ax8 {j:Int} {R:Int->Prop} (a:0<=j) (b:j<=1000000) (h:R j):∃ i:Int,[PyData.int j]=[.int i]/\0<=i/\i<=1000000/\R i:=⟨j,rfl,a,b,h⟩
theorem x_dT {es:List (List Key × PyData)} {a b:Int} {e2:En} {R:List (List Key × PyData)->List Key->Prop} (e:e2[i]?=some (some (.own (OT es)))) (d:es.length<=999999) (q:R es [.inl a,.inl b]):∃ es c,e2[i]?=some (some (.own (OT es)))/\PyData.tuple [.int a,.int b]=tkD c/\es.length<=999999/\R es c:=⟨es,_,e,rfl,d,q⟩
theorem x_dK {es:List (Key × PyData)} {a:Int} {e2:En} {R:List (Key × PyData)->Key->Prop} (e:e2[i]?=some (some (.own (OD es)))) (b:es.length<=999999) (q:R es (.inl a)):∃ es k,e2[i]?=some (some (.own (OD es)))/\PyData.int a=kD k/\es.length<=999999/\R es k:=⟨es,_,e,rfl,b,q⟩
theorem x_dN {es:List (Key × PyData)} {a:Int} {e2:En} {R:List (Key × PyData)->Key->Prop} (e:Has e2 i (OD es)) (q:R es (.inl a)):∃ es k,Has e2 i (OD es)/\PyData.int a=kD k/\R es k:=⟨es,_,e,rfl,q⟩
end
def ltP (p q:Int × Int):Prop:=p.1 < q.1\/(p.1=q.1/\p.2 < q.2)
@[reducible] def p2 (p:Int × Int):List Int:=[p.1,p.2]
theorem lex2 (p q:Int × Int):HT.lexLt (p2 p) (p2 q)=true ↔ ltP p q:=by
 obtain ⟨a,b⟩:=p
 obtain ⟨c,d⟩:=q
 simp [p2,HT.lexLt,ltP]
 split <;> omega
theorem aiw {a:List (List Int)} {ps:List (Int × Int)} (h:a.Perm (ps.map p2)):∃ qs:List (Int × Int),a=qs.map p2/\qs.Perm ps:=by
 refine ⟨a.map fun l=>(l.getD 0 0,l.getD 1 0),?_,?_⟩
 ·rw [aD8]
  symm
  conv=>rhs;rw [← List.map_id a]
  apply aE3
  intro l b
  obtain ⟨p,_,rfl⟩:=aB6.mp (h.mem_iff.mp b)
  rfl
 ·have:=h.map fun l=>(l.getD 0 0,l.getD 1 0)
  rw [aD8] at this
  have e:((fun l:List Int=>(l.getD 0 0,l.getD 1 0)) ∘ p2)=id:=by funext p;rfl
  rw [e,List.map_id] at this
  exact this
def Rise (es:List (Int × Int)):Prop:=es.Pairwise ltP
theorem ahc (p:Int × Int):¬ ltP p p:=by unfold ltP;omega
theorem ax9 (p q:Int × Int):ltP p q\/p=q\/ltP q p:=by
 obtain ⟨a,b⟩:=p
 obtain ⟨c,d⟩:=q
 unfold ltP
 simp only [Prod.mk.injEq]
 omega
theorem aso {p q r:Int × Int} (h:ltP p q) (g:ltP q r):ltP p r:=by unfold ltP at *;omega
theorem ajv {qs ps:List (Int × Int)} (c:qs.Perm ps) (hn:ps.Nodup) (b:lexS (qs.map p2)):Rise qs:=by
 have a:qs.Nodup:=c.nodup_iff.mpr hn
 unfold lexS at b
 rw [aF4] at b
 unfold Rise
 refine (List.Pairwise.and b a).imp fun {p q} h=>?_
 have d:¬ ltP q p:=fun z=>by rw [(lex2 q p).mpr z] at h;exact absurd h.1 (by simp)
 rcases ax9 p q with z | z | z
 ·exact z
 ·exact absurd z h.2
 ·exact absurd z d
theorem Rise.nodup {es:List (Int × Int)} (h:Rise es):es.Nodup:=h.imp fun {p q} z (e:p=q)=>ahc q (by rw [e] at z;exact z)
theorem Rise.eq:∀ {as bs:List (Int × Int)},Rise as->Rise bs->(∀ p,p∈as ↔ p∈bs)->as=bs
 | [],[],_,_,_=>rfl
 | [],b :: _,_,_,h=>by have:=(h b).mpr aB7;simp at this
 | a :: _,[],_,_,h=>by have:=(h a).mp aB7;simp at this
 | a :: as,b :: bs,ha,hb,h=>by
  obtain ⟨c,f⟩:=List.pairwise_cons.mp ha
  obtain ⟨d,i⟩:=List.pairwise_cons.mp hb
  have e:a=b:=by
   rcases aA8.mp ((h a).mp aB7) with e | e
   ·exact e
   ·rcases aA8.mp ((h b).mpr aB7) with e2 | e2
    ·exact e2.symm
    ·exact absurd (aso (c b e2) (d a e)) (ahc a)
  subst e
  have:=Rise.eq f i fun p=>by
   have g:=h p
   simp only [aA8] at g
   constructor
   ·intro m
    rcases g.mp (.inr m) with e | e
    ·subst e;exact absurd (c p m) (ahc p)
    ·exact e
   ·intro m
    rcases g.mpr (.inr m) with e | e
    ·subst e;exact absurd (d p m) (ahc p)
    ·exact e
  rw [this]
structure WebOk (n:Int) (es:List (Int × Int)):Prop where
 lo:1<=n
 hi:n<=60
 inn:∀ p∈es,0<=p.1/\p.1 < p.2/\p.2 < n
 rise:Rise es
theorem ako {n:Nat} {es:List (Int × Int)} (hn:es.Nodup) (hi:∀ p∈es,0<=p.1/\p.1 < (n:Int)/\0<=p.2/\p.2 < (n:Int)):es.length<=n * n:=by
 have g:(es.map fun (p:Int × Int)=>p.1 * (n:Int)+p.2).Nodup:=by
  unfold List.Nodup
  rw [aF4]
  refine aH3 ?_ hn
  intro p q c h d e
  have a:=hi p c
  have b:=hi q h
  apply d
  have f:p.1=q.1:=by
   rcases Int.lt_trichotomy p.1 q.1 with z | z | z
   ·have:(p.1+1) * n<=q.1 * n:=Int.mul_le_mul_of_nonneg_right (by omega) (by omega)
    rw [Int.add_mul] at this;omega
   ·exact z
   ·have:(q.1+1) * n<=p.1 * n:=Int.mul_le_mul_of_nonneg_right (by omega) (by omega)
    rw [Int.add_mul] at this;omega
  rw [f] at e
  exact Prod.ext f (by omega)
 have:=L2.few_places (n * n) _ g fun v i=>by
  obtain ⟨p,c,rfl⟩:=aB6.mp i
  have a:=hi p c
  have l:0<=p.1 * (n:Int):=Int.mul_nonneg a.1 (by omega)
  have j:(p.1+1) * (n:Int)<=n * n:=Int.mul_le_mul_of_nonneg_right (by omega) (by omega)
  rw [Int.add_mul] at j
  push_cast
  omega
 simpa using this
theorem WebOk.len {n:Int} {es:List (Int × Int)} (h:WebOk n es):es.length<=3600:=by
 have:=ako (n:=n.toNat) h.rise.nodup fun p b=>by have:=h.inn p b;have:=h.lo;omega
 have a:n.toNat<=60:=by have:=h.hi;omega
 exact aC9 this (Nat.mul_le_mul a a)
def kE (ps:List (Int × Int)):List (List Key × PyData):=ps.map fun p=>([Sum.inl p.1,Sum.inl p.2],.bool true)
def addP (ps:List (Int × Int)) (p:Int × Int):List (Int × Int):=if p∈ps then ps else ps ++ [p]
theorem ae1 {ps:List (Int × Int)}:(kE ps).length=ps.length:=by simp [kE]
theorem am1 (ps:List (Int × Int)) (a b:Int):putD (kE ps) [Sum.inl a,Sum.inl b] (.bool true)=kE (addP ps (a,b)):=by
 have c:((kE ps).any fun e=>decide (e.1=[Sum.inl a,Sum.inl b]))=decide ((a,b)∈ps):=by
  rw [aH1,List.any_eq_true,decide_eq_true_iff]
  constructor
  ·rintro ⟨e,f,h⟩
   obtain ⟨p,d,rfl⟩:=aB6.mp f
   simp at h
   obtain ⟨g,p2⟩:=p
   simp at h
   rw [← h.1,← h.2];exact d
  ·intro h
   exact ⟨_,aB6.mpr ⟨(a,b),h,rfl⟩,by simp⟩
 unfold putD
 rw [c]
 unfold addP
 by_cases h:(a,b)∈ps
 ·rw [aE8 (by simpa using h),aE8 h]
  unfold kE
  rw [aD8]
  apply aE3
  intro p _
  simp only [Function.comp]
  split <;> rfl
 ·rw [aE9 (by simpa using h),aE9 h]
  simp [kE]
theorem addP_mem {ps:List (Int × Int)} {p q:Int × Int}:q∈addP ps p ↔ q∈ps\/q=p:=by
 unfold addP
 split
 ·rename_i h
  exact ⟨.inl,fun z=>z.elim id fun e=>e ▸ h⟩
 ·simp
theorem aqm {ps:List (Int × Int)} {p:Int × Int} (h:ps.Nodup):(addP ps p).Nodup:=by
 unfold addP
 split
 ·exact h
 ·rename_i hn
  rw [aE2]
  exact ⟨h,by simp,fun x b y a=>by simp at a;subst a;rintro rfl;exact hn b⟩
theorem ahy {ps:List (Int × Int)} {p:Int × Int}:(addP ps p).length<=ps.length+1:=by
 unfold addP;split <;> simp
theorem aya (ps:List (Int × Int)):(kE ps).map (·.1)=(ps.map p2).map (fun ns=>ns.map Sum.inl):=by
 unfold kE;rw [aD8,aD8];rfl
theorem a0o:([]:List (List Key × PyData))=kE []:=rfl
theorem am2 (ps:List (Int × Int)):(ps.map p2).map tiD=ps.map prD:=by rw [aD8];rfl
theorem awe {ps:List (Int × Int)}:∀ ns∈ps.map p2,ns ≠ []:=fun ns h=>by
 obtain ⟨p,_,rfl⟩:=aB6.mp h
 simp
section
variable {B:Bs} {env:En} {QO:Sl->En->Prop} {K:Frag} {i:Nat} {ta:TA}
theorem ae2 {ps:List (Int × Int)} (h:EvA B ta env fun ds e=>ds=[.list (ps.map prD)]/\∀ qs:List (Int × Int),qs.Perm ps->lexS (qs.map p2)->QO (.own (OL (qs.map prD))) e):EvO B (tCB (ain K) ta) env QO :=
 asi (pss:=ps.map p2) awe fun σ G H F Q I k=>h σ G H F Q I fun vs G' H' F' ds e f g r ⟨c,q⟩=>k vs G' H' F' ds e f g r ⟨by rw [am2];exact c,fun i b a=>by
  obtain ⟨qs,rfl,d⟩:=aiw b
  rw [am2];exact q qs d a⟩
theorem aix {ps:List (Int × Int)} (d:Has env i (OT (kE ps))) (q:∀ qs:List (Int × Int),qs.Perm ps->lexS (qs.map p2)->QO (.own (OL (qs.map prD))) env):EvO B (tCB ahb (aa3 (tVar i) tNil)) env QO :=
 aqk d (aya ps) awe fun f c b=>by
  obtain ⟨qs,rfl,a⟩:=aiw c
  rw [am2];exact q qs a b
end
def OW (d:PyData) (ds:List PyData):Own where
 P:=fun G H v F=>∃ t l u vs,v=.ref t/\H t=some (.tup [u,.ref l])/\Rp G u d/\H l=some (.lst vs)/\Rps G vs ds/\∀ b,F b ↔ b=t\/b=l
 mono:=fun ⟨t,l,u,vs,e,h1,r1,h2,r2,f⟩ g hh=>⟨t,l,u,vs,e,hh t _ ((f t).mpr (.inl rfl)) h1,r1.same g,hh l _ ((f l).mpr (.inr rfl)) h2,r2.same g,f⟩
 dom:=fun ⟨t,l,u,vs,e,h1,r1,h2,r2,f⟩ b z=>by
  rcases (f b).mp z with rfl | rfl
  ·exact ⟨_,h1⟩
  ·exact ⟨_,h2⟩
theorem asp {d:PyData} {ds:List PyData}:Frz (OW d ds) (.tuple [d,.list ds]):=fun G H v F ⟨t,l,u,vs,e,h,b,a,c,f⟩ n g=>by
 subst e
 exact .tup (by rw [adg ((f t).mpr (.inl rfl))];exact h) (.cons (b.same (abk n)) (.cons (.lst (by rw [adg ((f l).mpr (.inr rfl))];exact a) (c.same (abk n))) .nil))
theorem aiy {d:PyData} {ds:List PyData} {R:PyData->Prop} (h:R (.tuple [d,.list ds])):FQ (.own (OW d ds)) R:=⟨_,asp,h⟩
section
variable {B:Bs} {env:En} {QO:Sl->En->Prop} {Q':PyData->En->Prop} {K:Frag} {i j:Nat} {ta te:TE}
theorem am3 {u:V} {l:Addr} {a:List Key}:HO.tup [u,.ref l] ≠ .tup (a.map kV):=by
 intro z
 injection z with z
 match a,z with
 | [],z=>cases z
 | [_],z=>cases z
 | [_,k],z =>
  simp at z
  cases k <;> simp [kV] at z
 | _ :: _ :: _ :: _,z=>simp at z
theorem ave {ds0:List PyData} (M:env[j]?=some (some (.own (OL ds0)))) (h:Ev B ta env fun d g=>∃ ds,g[j]?=some (some (.own (OL ds)))/\QO (.own (OW d ds)) (g.set j none)):EvO B (tTup (aa3 ta (aa3 (tVar j) tNil))) env QO:=fun σ G H F Q I k =>
 h σ G H F _ I fun v s K i d g c x u C=>by
  obtain ⟨ds,A,q⟩:=C
  obtain ⟨w,y,⟨l,vs,rfl,r,rs,hf⟩,hb⟩:=c.sl j _ A
  refine ⟨_,y,⟨by show (2:Nat)<=sizeLine;decide,fun p f=>?_⟩⟩
  have n:i j l:=(hf l).mpr rfl
  have pl:p ≠ l:=(aar r f).symm
  have D:=c.drop j
  have E:∀ m a,(a=p\/a=l)->¬ putF i j (fun _=>False) m a:=fun m a ha z=>by
   by_cases hm:m=j
   ·subst hm;exact putF_same.mp z
   ·rw [aa9 hm] at z
    rcases ha with rfl | rfl
    ·exact c.no_f f m z
    ·exact hm (c.fd m j a z n)
  have J:VI B s (upd K p (.tup [v,.ref l])) σ (g.set j none) (putF i j fun _=>False):=D.grow (Same.refl _) (c.gh.trans (abn f)) (abn f) (fun a o e => .inl e) fun a L e=>by
   by_cases z:a=p
   ·subst z;rw [aaf] at e;exact absurd (aC5 e) am3
   ·rw [aae z] at e;exact c.ft a L e
  refine k _ s _ _ (fun a=>a=p\/a=l) (.own (OW d ds)) _ J x ⟨⟨p,l,v,vs,rfl,aaf,u,by rw [aae pl.symm];exact r,rs,fun b=>Iff.rfl⟩,fun a z=>?_,fun a z=>?_,fun a z=>?_,fun m a z=>E m a z⟩ q
  ·rcases z with rfl | rfl
   ·exact c.no_b f
   ·exact hb a n
  ·rcases z with rfl | rfl
   ·exact c.no_g f
   ·exact c.fg j a n
  ·rcases z with rfl | rfl
   ·exact ⟨_,aaf⟩
   ·exact ⟨_,by rw [aae pl.symm];exact r⟩
theorem x_ow {ds:List PyData} {a:En} {R:List PyData->Prop} (e:a[j]?=some (some (.own (OL ds)))) (q:R ds):∃ ds,a[j]?=some (some (.own (OL ds)))/\R ds:=⟨ds,e,q⟩
theorem ayb {T:String} {d:PyData} {ds:List PyData} (a:Has env i (OW d ds)) (b:ada T) (q:Q' (.bool (isiD T (.list ds))) env):Ev B (tCB (rIsi K) (aa3 (tOp (acg K) (tVar i) (tC (.int 1))) (aa3 (tC (.ty T)) tNil))) env Q':=fun σ G H F Q I k=>by
 obtain ⟨v,h,t,l,u,vs,rfl,c,j,g,m,f⟩:=I.has a
 exact ⟨_,h,afr c at1 ⟨_,T,_,_,rfl,.lst g,aqh b (.list ds),k _ G H F _ env I (Same.refl _) (.bl _) q⟩⟩
end
section
variable {B:Bs} {env:En} {Q':PyData->En->Prop} {D':VEnds} {i:Nat} {ty tv:TE}
theorem aqn {a:List (List Key × PyData)} (f:env[i]?=some (some (.own (OT a)))) (h:Ev B tv env fun d b=>Has b i (OT a)/\Ev B ty b fun y e2=>∃ es c,e2[i]?=some (some (.own (OT es)))/\y=tkD c/\es.length<=999999/\D'.nx (e2.set i (some (.own (OT (putD es c d)))))):EvS B (aid (tVar i) ty tv) D' env:=asm h
theorem aqo {a:List (Key × PyData)} (c:env[i]?=some (some (.own (OD a)))) (h:Ev B tv env fun d b=>Has b i (OD a)/\Ev B ty b fun y e2=>∃ es k,e2[i]?=some (some (.own (OD es)))/\y=kD k/\es.length<=999999/\D'.nx (e2.set i (some (.own (OD (putD es k d)))))):EvS B (aid (tVar i) ty tv) D' env:=asn h
theorem an6 {a:List (Key × PyData)} (b:Has env i (OD a)) (h:Ev B ty env fun y e2=>∃ es k,Has e2 i (OD es)/\y=kD k/\Q' (.bool (!(valD es k).isSome)) e2):Ev B (ag2 ty (tVar i)) env Q':=aql (es0:=[]) h
end
section
variable {R:Sl->Prop} {K:Frag}
theorem ayc {p q:Int × Int} (h:R (.st (.bool (HT.lexLt (p2 p) (p2 q))))):Op2 (rLtT K) (prD p) (prD q) R:=fun G H f d Q gh c b k=>by
 cases c with
 | tup ha ra =>
  cases b with
  | tup hb rb =>
   have a:=Rps.ints_inv (ns:=p2 p) ra
   have e2:=Rps.ints_inv (ns:=p2 q) rb
   subst a e2
   exact ⟨_,_,p2 p,p2 q,rfl,rfl,SqT.of (gh _ _ ha),SqT.of (gh _ _ hb),k _ _ _ _ _ (Out.refl gh (.bl _)) h⟩
end
theorem asq (p:Int × Int):aas (prD p)=true:=rfl
theorem aiz (ps:List (Int × Int)):plainDs (ps.map prD)=true:=by
 rw [ae6]
 intro d hd
 obtain ⟨p,_,rfl⟩:=aB6.mp hd
 rfl
theorem ape (p q:Int × Int):PyData.eqv (prD p) (prD q)=decide (p=q):=by
 rw [aH1,agm _ _ rfl rfl,decide_eq_true_iff]
 constructor
 ·intro h
  simp [prD] at h
  exact Prod.ext h.1 h.2
 ·rintro rfl;rfl
theorem ayd (ps:List (Int × Int)) (q:Int × Int):((ps.map prD).any fun z=>PyData.eqv z (prD q))=decide (q∈ps):=by
 rw [aH1,List.any_eq_true,decide_eq_true_iff]
 constructor
 ·rintro ⟨d,hd,e⟩
  obtain ⟨p,a,rfl⟩:=aB6.mp hd
  rw [ape] at e
  rw [← of_decide_eq_true e];exact a
 ·intro h
  exact ⟨prD q,aB6.mpr ⟨q,h,rfl⟩,by rw [ape];exact aD6 rfl⟩
theorem ae7 {ds:List PyData} {m:Nat} (h:∀ d∈ds,d.depth<=m):PyData.depthAll ds<=m:=by
 induction ds with
 | nil=>simp [PyData.depthAll]
 | cons d ds ih =>
  simp only [PyData.depthAll]
  exact Nat.max_le.mpr ⟨h d aB7,ih fun e a=>h e (aB4 _ a)⟩
theorem akp (p:Int × Int):(prD p).depth<=1:=by simp [prD,PyData.depth,PyData.depthAll]
theorem aeo {d:PyData} (h:aas d=true):PyData.eqv d d=true:=(agm d d h h).mpr rfl
end VL
namespace VL
theorem am4 {α:Type} (R : α->α->Prop) (tr:∀ {a b c},R a b->R b c->R a c) {xs:List α}:xs.Pairwise R ↔ ∀ i (h:i+1 < xs.length),R (xs[i]'(by omega)) xs[i+1]:=by
 constructor
 ·intro h i hi
  exact aG0.mp h i (i+1) (by omega) hi (by omega)
 ·intro h
  rw [aG0]
  intro i j hi d f
  induction j with
  | zero=>omega
  | succ j ih =>
   by_cases e:i=j
   ·subst e;exact h i d
   ·exact tr (ih (by omega) (by omega)) (h j d)
end VL
namespace VL
open PySem PySem.Spec L2
section
variable {B:Bs} {env:En} {Q':PyData->En->Prop} {K:Frag} {E:XK} {i:Nat}
theorem avf {f:VP} {t:TA} {r:Own} (C:Has env i r) (h:EvA B t env fun ds g=>∃ A d,Has g i A/\Frz A d/\f (.st d :: ds.map Sl.st) fun s=>∃ d',s=.st d'/\ag9 d'=true/\Q' d' g):Ev B (abw (spP K f) [] E (aa3 (tVar i) t)) env Q':=fun σ G H F Q I k=>by
 unfold abw
 simp only [aE4]
 obtain ⟨v,l,_⟩:=I.has C
 refine ⟨v,l,h σ G H F _ I fun vs x m j ds g b z p ⟨A,d,y,D,J⟩=>?_⟩
 obtain ⟨O,c,ap⟩:=b.has y
 rw [l] at c;cases c
 have js:=abk (H:=m) (b.fg i)
 refine ⟨jn x m (j i),_,_,alg b.gh,fun a L e=>js _ _ (b.ft a L e),.cons (s:=.st d) (D _ _ _ _ ap (b.fg i) b.gh) (ArgsOk.of (p.same js)),J,fun s q u G' H' Fv o=>?_⟩
 obtain ⟨d',rfl,n,q⟩:=q
 obtain ⟨M,N,w⟩:=b.moment js o
 exact k u M H' j d' g w (z.trans N) (ao8 o.ok.1 n) q
end
end VL
namespace VL
open PySem L2
theorem a1x {B:Bs} {t:TS} {D':VEnds} {e:En} (h:EvS B t D' e):EvS B t D' e:=h
theorem a1y {B:Bs} {g:TG} {s:Sl} {e:En} {Q:En->Prop} (h:EvG B g s e Q):EvG B g s e Q:=h
theorem a0p {B:Bs} {g:TGs} {s:List PyData} {e:En} {Q:En->Prop} (h:EvGs B g s e Q):EvGs B g s e Q:=h
theorem g_Ev {B:Bs} {t:TE} {e:En} {Q:PyData->En->Prop} (h:Ev B t e Q):Ev B t e Q:=h
theorem a1z {B:Bs} {t:TE} {e:En} {Q:Sl->En->Prop} (h:EvO B t e Q):EvO B t e Q:=h
theorem a10 {B:Bs} {t:TT} {e:En} {Q:Bool->En->Prop} (h:EvT B t e Q):EvT B t e Q:=h
theorem a11 {B:Bs} {t:TA} {e:En} {Q:List PyData->En->Prop} (h:EvA B t e Q):EvA B t e Q:=h
theorem a12 {B:Bs} {t:TI} {e:En} {Q:List PyData->En->Prop} (h:EvI B t e Q):EvI B t e Q:=h
theorem a0q {B:Bs} {t:TO} {e:En} {Q:Option Int->En->Prop} (h:EvOp B t e Q):EvOp B t e Q:=h
theorem a13 {r:R2} {x y:PyData} {R:Sl->Prop} (h:Op2 r x y R):Op2 r x y R:=h
theorem a14 {r:V->Hp->VK->Prop} {x:PyData} {R:Sl->Prop} (h:Op1 r x R):Op1 r x R:=h
theorem a15 {r:List V->Hp->VK->Prop} {x:List PyData} {R:Sl->Prop} (h:OpA r x R):OpA r x R:=h
theorem g_FQ {s:Sl} {R:PyData->Prop} (h:FQ s R):FQ s R:=h
theorem aye {ds:List PyData} {R:List PyData->Prop} (h:ali ds R):ali ds R:=h
theorem ayf {ds:List PyData} {R:List PyData->Prop} (h:alj ds R):alj ds R:=h
structure PsOk (n:Int) (ps:List (Int × Int)):Prop where
 nd:ps.Nodup
 inn:∀ p∈ps,0<=p.1/\p.1 < p.2/\p.2 < n
theorem PsOk.nil (n:Int):PsOk n []:=⟨List.nodup_nil,fun p a=>by simp at a⟩
theorem PsOk.add {n a b:Int} {ps:List (Int × Int)} (h:PsOk n ps) (c:0<=a) (g:a < b) (d:b < n):PsOk n (addP ps (a,b)) :=
 ⟨aqm h.nd,fun p f=>by
  rcases addP_mem.mp f with q | q
  ·exact h.inn p q
  ·subst q;exact ⟨c,g,d⟩⟩
theorem PsOk.len {n:Int} {ps:List (Int × Int)} (h:PsOk n ps) (hn:n<=100):ps.length<=10000:=by
 by_cases h0:0<=n
 ·have:=ako (n:=n.toNat) h.nd fun p b=>by have:=h.inn p b;omega
  have a:n.toNat<=100:=by omega
  exact aC9 this (Nat.mul_le_mul a a)
 ·cases ps with
  | nil=>simp
  | cons p r=>have:=h.inn p aB7;omega
def Tr (n:Int) (ps:List (Int × Int)):Prop:=∀ k,1<=k->k < n->∃ h,0<=h/\h < k/\(h,k)∈ps
theorem Tr.add {n:Int} {ps:List (Int × Int)} {p:Int × Int} (h:Tr n ps):Tr n (addP ps p):=fun k d f=>by
 obtain ⟨x,a,b,c⟩:=h k d f
 exact ⟨x,a,b,addP_mem.mpr (.inl c)⟩
def Conn (n:Int) (T:Int->Int->Prop):Prop:=∀ u v,0<=u->u < n->0<=v->v < n->∃ k,Gr.Walk T u k v
theorem Joined.conn {n:Int} {es:List (Int × Int)} (h:Joined n es):Conn n (Tied es):=fun u v b c v0 a=>by
 obtain ⟨d,hd⟩:=h u b c
 obtain ⟨e,f⟩:=h v v0 a
 exact ⟨d+e,(hd.1.rev fun _ _ t=>t.symm).app f.1⟩
theorem Conn.mono {n:Int} {T a:Int->Int->Prop} (h:Conn n T) (g:∀ u v,T u v->a u v):Conn n a:=fun u v c f v0 b=>by
 obtain ⟨k,w⟩:=h u v c f v0 b
 exact ⟨k,w.rec .refl fun _ t d => .step d (g _ _ t)⟩
def Order (n:Int) (row:List Int):Prop:=row.Perm ((List.range n.toNat).map fun (i:Nat)=>(i:Int))
theorem Order.len {n:Int} {row:List Int} (h:Order n row):row.length=n.toNat:=by have:=h.length_eq;simpa using this
theorem Order.nodup {n:Int} {row:List Int} (h:Order n row):row.Nodup:=by
 refine h.nodup_iff.mpr ?_
 unfold List.Nodup
 rw [aF4]
 exact List.nodup_range.imp fun {a b} c e=>c (by omega)
theorem Order.mem {n:Int} {row:List Int} (h:Order n row) {v:Int}:v∈row ↔ 0<=v/\v < n:=by
 rw [h.mem_iff,aB6]
 constructor
 ·rintro ⟨i,hi,rfl⟩
  have:=aB8.mp hi
  omega
 ·rintro ⟨a,b⟩
  exact ⟨v.toNat,aB8.mpr (by omega),by omega⟩
theorem Order.get {n:Int} {row:List Int} (h:Order n row) {a:Int} (b:0<=a) (d:a < n):∃ x,row[a.toNat]?=some x/\atI row a=some x/\0<=x/\x < n:=by
 have c:a.toNat < row.length:=by rw [h.len];omega
 have e:row[a.toNat]?=some row[a.toNat]:=aA0 c
 have:=h.mem.mp (aA2 e)
 exact ⟨_,e,aco b e,this.1,this.2⟩
theorem Order.inj {n:Int} {row:List Int} (h:Order n row) {a b x:Int} (a0:0<=a) (b0:0<=b) (ha:row[a.toNat]?=some x) (hb:row[b.toNat]?=some x):a=b:=by
 obtain ⟨d,c⟩:=aA1.mp ha
 obtain ⟨f,e2⟩:=aA1.mp hb
 have:=nodup_ix h.nodup d f (c.trans e2.symm)
 omega
theorem Order.id (n:Int):Order n ((List.range n.toNat).map fun (i:Nat)=>(i:Int)):=List.Perm.refl _
def abc (row:List Int) (a:Int):Int:=row.getD a.toNat 0
def reP (row:List Int) (p:Int × Int):Int × Int:=if abc row p.1 < abc row p.2 then (abc row p.1,abc row p.2) else (abc row p.2,abc row p.1)
theorem Order.at {n:Int} {row:List Int} (h:Order n row) {a:Int} (b:0<=a) (f:a < n):row[a.toNat]?=some (abc row a)/\0<=abc row a/\abc row a < n:=by
 obtain ⟨x,e,_,d,c⟩:=h.get b f
 have:abc row a=x:=by unfold abc;rw [aD2,e];rfl
 rw [this];exact ⟨e,d,c⟩
theorem Order.ne {n:Int} {row:List Int} (h:Order n row) {a b:Int} (a0:0<=a) (a1:a < n) (b0:0<=b) (b1:b < n) (c:a ≠ b):abc row a ≠ abc row b:=fun e=>by
 have d:=(h.at a0 a1).1
 have f:=(h.at b0 b1).1
 rw [e] at d
 exact c (h.inj a0 b0 d f)
theorem PsOk.re {n:Int} {ps:List (Int × Int)} {row:List Int} (h:PsOk n ps) (o:Order n row):PsOk n (ps.map (reP row)):=by
 have inn:∀ p∈ps,0<=(reP row p).1/\(reP row p).1 < (reP row p).2/\(reP row p).2 < n:=fun p c=>by
  obtain ⟨p0,u,p2⟩:=h.inn p c
  have a:=o.at p0 (by omega)
  have b:=o.at (a:=p.2) (by omega) p2
  have ne:=o.ne p0 (by omega) (by omega) p2 (by omega)
  unfold reP
  split <;> dsimp only <;> omega
 refine ⟨?_,fun q d=>by obtain ⟨p,c,rfl⟩:=aB6.mp d;exact inn p c⟩
 unfold List.Nodup
 rw [aF4]
 refine aH3 ?_ h.nd
 intro p q c d f e
 apply f
 obtain ⟨p0,u,p2⟩:=h.inn p c
 obtain ⟨m,v,r⟩:=h.inn q d
 have inj:∀ a b,0<=a->a < n->0<=b->b < n->abc row a=abc row b->a=b:=fun a b a0 a1 b0 b1 e=>by
  apply aD3
  intro g
  exact o.ne a0 a1 b0 b1 g e
 have i:=inj p.1 q.1 p0 (by omega) m (by omega)
 have s:=inj p.2 q.2 (by omega) p2 (by omega) r
 have l:=inj p.1 q.2 p0 (by omega) (by omega) r
 have j:=inj p.2 q.1 (by omega) p2 m (by omega)
 unfold reP at e
 split at e <;> split at e <;> simp only [Prod.mk.injEq] at e
 ·exact Prod.ext (i e.1) (s e.2)
 ·have:=l e.1;have:=j e.2;omega
 ·have:=j e.1;have:=l e.2;omega
 ·exact Prod.ext (i e.2) (s e.1)
theorem Tied.perm {qs ps:List (Int × Int)} (h:qs.Perm ps) {u v:Int}:Tied qs u v ↔ Tied ps u v:=by unfold Tied;rw [h.mem_iff,h.mem_iff]
theorem WebOk.ps {n:Int} {es:List (Int × Int)} (h:WebOk n es):PsOk n es:=⟨h.rise.nodup,h.inn⟩
theorem ai0 {α:Type}:∀ {l:List α} {k:Nat} {x : α},l[k]?=some x->(x :: l.eraseIdx k).Perm l
 | [],_,_,h=>by simp at h
 | a :: l,0,x,h=>by simp at h;subst h;exact List.Perm.refl _
 | a :: l,k+1,x,h=>by
  have b:=ai0 (l:=l) (k:=k) (x:=x) (by simpa using h)
  exact (List.Perm.swap a x _).trans (b.cons a)
theorem aqp {n:Int} {row left:List Int} {k:Nat} {x:Int} (h:Order n (row ++ left)) (a:left[k]?=some x):Order n ((row ++ [x]) ++ left.eraseIdx k):=by
 refine List.Perm.trans ?_ h
 rw [aB3]
 refine List.Perm.append_left row ?_
 exact ai0 a
section
variable {B:Bs} {env:En} {g:TG} {tif:TT} {te:TE} {K:Frag} {src:List (Option Nat)} {ds:List PyData} {e1:En} {R:List PyData->En->Prop}
end
theorem ayg (n:Nat):rngD 0 n=((List.range n).map fun (i:Nat)=>(i:Int)).map PyData.int:=by simp [rngD]
theorem avg {B:Bs} {t:TS} {D':VEnds} {env:En} (J:En->Prop) (h:EvS B t { D' with nx:=J } env) (k:∀ e,J e->D'.nx e):EvS B t D' env:=fun σ G H F D I r=>h σ G H F D I ⟨fun σ G' H F env a g q=>r.nx _ _ _ _ _ a g (k _ q),r.rt,r.bk,r.ct⟩
theorem adn {B:Bs} {g:TG} {A:Own} {d:PyData} {env:En} {b:En->Prop} (f:Frz A d) (h:EvG B g (.st d) env b):EvG B g (.own A) env b:=fun σ G H F v Fv Q I x k =>
 h σ _ H F v _ Q (I.freeze x.fb x.fd x.fg) (aen (f G H v Fv x.ok x.fg I.gh)) fun a G' H' F' c i g' q=>k a G' H' F' c i ((abk x.fg).trans g') q
theorem cutR {R X:Prop} (h:R->X) (r:R):X:=h r
end VL
namespace VL
open PySem PySem.Spec L2
def Sls (K:Frag) (G:Hp) (σ:St) (e:En):Prop:=∀ (j:Nat) (s:Sl),e[j]?=some (some s)->∃ v,σ[j]?=some (some v)/\((∃ d,s=.st d/\Rp G v d)\/∃ (ns:List Int) (a:Addr),s=.scr ns/\v=.ref a/\SqL K G a (ns.map V.int))
theorem Sls.same {K:Frag} {G G':Hp} {σ:St} {e:En} (h:Sls K G σ e) (g:Same G G'):Sls K G' σ e:=fun j s es=>by
 obtain ⟨v,c,q⟩:=h j s es
 refine ⟨v,c,?_⟩
 rcases q with ⟨d,b,r⟩ | ⟨ns,a,b,e2,r⟩
 ·exact .inl ⟨d,b,r.same g⟩
 ·exact .inr ⟨ns,a,b,e2,g.seq r⟩
section
variable {B:Bs} {env:En}
end
section
variable {B:Bs} {env:En} {Q':PyData->En->Prop} {QO:Sl->En->Prop} {c:TT} {ta tb:TE}
theorem ayh (h:EvT B c env fun b e=>if b=true then EvO B ta e QO else EvO B tb e QO):EvO B (tIf c ta tb) env QO:=fun σ G H F Q I k =>
 h σ G H F _ I fun b i m l n f j q=>by
  cases b with
  | true=>rw [aE8 rfl] at q ⊢;exact q σ i m l Q f fun v G' H' F' Fv d e a g r z=>k v G' H' F' Fv d e a (j.trans g) r z
  | false=>rw [aE9 aA9] at q ⊢;exact q σ i m l Q f fun v G' H' F' Fv d e a g r z=>k v G' H' F' Fv d e a (j.trans g) r z
end
end VL
namespace VL
open PySem PySem.Spec L2 PyProof.Rows
end VL
namespace VL
open PySem PySem.Spec L2
section
variable {B:Bs} {env:En} {QO:Sl->En->Prop} {i:Nat}
theorem asr {k c:Int} (e:env[i]?=some (some (.st (.int k)))) (q:QO (.own (OD [(.inl k,.int c)])) env):EvO B (av8 [(tVar i,tC (.int c))]) env QO:=fun σ G H F Q I g p a=>by
 obtain ⟨v,f,r⟩:=I.sl i _ e
 obtain ⟨r,_⟩:=r
 cases r
 refine ⟨_,f,aaf,[(.inl k,.int c)],rfl,by simp,?_⟩
 have o:=Out.newD (ds:=[(.inl k,.int c)]) (xs:=[(.inl k,.int c)]) I.gh a (.cons (.int c) .nil)
 have d:upd (upd H p (.dK [])) p (.dK (afc [] [(Sum.inl k,V.int c)]))=upd H p (.dK [(.inl k,.int c)]):=by
  funext b
  unfold upd
  split <;> rfl
 rw [d]
 exact g _ _ _ F _ _ env (I.out o).1 o.gg (I.out o).2 q
end
section
variable {X:Cx}
end
section
variable {R:Sl->Prop}
end
end VL
namespace L2
open PySem PySem.Spec PyProof.Rows
def isV (k:Int):Value->Bool
 | .int a _=>decide (a=k)
 | _=>false
theorem am5 {ns:List Int} {us:List Value} (r:Vals (ns.map V.int) us) (k:Int):∀ i (h:i < us.length) (h':i < ns.length),isV k us[i]=decide (ns[i]=k):=by
 induction ns generalizing us with
 | nil=>intro i h h';simp at h'
 | cons n ns ih =>
  rw [aD0] at r
  cases r with
  | cons r1 r2 =>
   obtain ⟨t,e⟩:=r1
   subst e
   intro i h h'
   cases i with
   | zero=>rfl
   | succ i=>exact ih r2 i (by simpa using h) (by simpa using h')
theorem aqq {ns:List Int} {us:List Value} (r:Vals (ns.map V.int) us) (k:Int) (t:Tok):∀ y∈us,MeetsSeq.EqGives y (.int k t) (isV k y):=by
 induction ns generalizing us with
 | nil=>rw [List.map_nil] at r;cases r;intro y a;simp at a
 | cons n ns ih =>
  rw [aD0] at r
  cases r with
  | cons r1 r2 =>
   obtain ⟨u,e⟩:=r1
   subst e
   intro y a
   rcases aA8.mp a with rfl | a
   ·exact MeetsSeq.EqGives.int n k u t
   ·exact ih r2 y a
section
variable {X:Cx}
def ass:V->List V->Hp->VK->Prop:=fun x vs H Q=>∃ (l:Addr) (ns:List Int) (k:Int) (j:Nat),x=.ref l/\vs=[.int k]/\H l=some (.lst (ns.map V.int))/\ns[j]?=some k/\(∀ m,m < j->ns[m]? ≠ some k)/\Q (.int j) H
theorem am6:MtM X "list.index" ass:=by
 intro pins s σ H x vs v us Q I g o h
 obtain ⟨l,ns,k,j,rfl,rfl,w,p,f,q⟩:=h
 cases g
 obtain ⟨u,rfl,i⟩:=o.one
 obtain ⟨t,rfl⟩:=i
 obtain ⟨z,its,n,r,A,e⟩:=I.lstM w
 rw [aA3] at A z
 obtain ⟨b,d⟩:=aA1.mp p
 have hz:sizeLine < 2 ^ 62:=by decide
 refine call_meets F.slot_list_index ⟨_,e,rfl⟩ F.entry_list_index (F.args_list_index_2 _ _)
  (MeetsSeq.list_index l its.toArray n (.int k t) (isV k) (fun y B=>aqq r k t y (by simpa using B)) j (by rw [aB1];omega) (by omega) ?_ (fun m hm c=>?_)) ⟨e,?_⟩
 ·rw [List.getElem_toArray,am5 r k j (by omega) b,aD6 d]
 ·have a:m < ns.length:=by omega
  rw [List.getElem_toArray,am5 r k m (by omega) a]
  exact aD5 fun e=>f m c (by rw [aA0 a,e])
 ·exact ⟨.int j,H,I.tok _,⟨_,rfl⟩,q⟩
variable {e est:Expr} {te:TE} {ts:TO} {pos p2:Pos}
end
end L2
namespace VL
open PySem PySem.Spec L2
section
variable {B:Bs} {env:En} {QO:Sl->En->Prop} {Q':PyData->En->Prop} {te tl:TE} {ts:TO} {K:Frag} {i:Nat}
theorem Rps.rev {G:Hp}:∀ {vs:List V} {ds:List PyData},Rps G vs ds->Rps G vs.reverse ds.reverse
 | _,_,.nil => .nil
 | _,_,.cons r t=>by
  rw [List.reverse_cons,List.reverse_cons]
  exact (Rps.rev t).append (.cons r .nil)
theorem avh (h:Ev B tl env fun x b=>∃ ns:List Int,x=.list (ns.map .int)/\Ev B te b fun y e2=>∃ (k:Int) (j:Nat),y=.int k/\ns[j]?=some k/\(∀ m,m < j->ns[m]? ≠ some k)/\Q' (.int j) e2):Ev B (tBM K "list" ass tl (aa3 te tNil)) env Q':=fun σ G H F Q I k =>
 h σ G H F _ I fun v o E s d b f r l A=>by
  obtain ⟨ns,D,J⟩:=A
  subst D
  cases l with
  | @lst a vs _ ha rs =>
   have C:vs=ns.map V.int:=rs.ints_inv
   subst C
   refine ⟨.inl ⟨rfl,_,SqL.of (f.gh _ _ ha)⟩,J σ o E s _ f fun u L H2 F2 y e2 i g n ⟨c,j,z,p,w,q⟩=>?_⟩
   subst z
   cases n
   exact ⟨a,ns,c,j,rfl,rfl,i.gh _ _ (g _ _ ha),p,w,k _ L H2 F2 _ e2 i (r.trans g) (.int _) q⟩
end
theorem awf {α:Type} [DecidableEq α]:∀ {as bs:List α},as.Nodup->(∀ a∈as,a∈bs)->as.length<=bs.length
 | [],_,_,_=>aF3 _
 | a :: as,bs,hn,hs=>by
  have ha:a∈bs:=hs a (aB7 ..)
  have b:=aH7.mp hn
  have h:=awf (bs:=bs.erase a) b.2 fun x c=>(List.mem_erase_of_ne (show x ≠ a from fun e=>b.1 (by rw [← e];exact c))).mpr (hs x (aB4 _ c))
  rw [List.length_erase_of_mem ha] at h
  have:0 < bs.length:=List.length_pos_of_mem ha
  simp only [aE0]
  omega
structure But (n:Int) (es rem:List (Int × Int)):Prop where
 rise:Rise es
 inn:∀ p∈es,0<=p.1/\p.1 < p.2/\p.2 < n
 all:∀ p:Int × Int,0<=p.1->p.1 < p.2->p.2 < n->p∈es\/p∈rem
theorem But.len {n:Int} {es rem:List (Int × Int)} (h:But n es rem) (hn:8<=n) (b:rem.length<=5):2<=es.length:=by
 have:=awf (as:=[((0:Int),(1:Int)),(0,2),(0,3),(0,4),(0,5),(0,6),(0,7)]) (bs:=es ++ rem) (by decide) (fun p a=>by
  have:0<=p.1/\p.1 < p.2/\p.2 < 8:=by
   simp only [aA8,List.not_mem_nil,or_false] at a
   rcases a with rfl | rfl | rfl | rfl | rfl | rfl | rfl <;> decide
  exact aA7.mpr (h.all p this.1 this.2.1 (by omega)))
 simp at this
 omega
end VL
namespace PopT
open PySem PyProof.Rows
section
variable {prog:Program} {w:World} {K:Type} [DecidableEq K] {knd:HeapKind prog w K} {A:Around} {E:Value->Shared->Prop} {s:Shared}
theorem am7 {d a:Addr} {xs:List (K × Addr × Value)} {k:K} {j:Nat} {p:Addr × Value} {Q:Option DictEntry->Shared->Prop} (y:knd.room A) (b:knd.is s.heap k a) (hm:s.heap.DictOfH knd d xs) (m:xs[j]?=some (k,p))
  (C:∀ e h',e.val=p.2->h'.DictOfH knd d (xs.eraseIdx j)->Heap.SameBut d s.heap h'->Q (some e) { s with heap:=h',toks:=s.toks+knd.draws k })
  (hsz:xs.length<=sizeLine):wpAny (model prog w) A (Builtin.Dict.takeOut d (.ref a)) Q E s:=by
 obtain ⟨o,es,z,g,B,hd,h,c,hn⟩:=hm
 unfold Builtin.Dict.takeOut
 try with_reducible refine aI6 ?_
 refine aI1 (knd.pyHash y b ?_)
 refine aI1 (wpAny_dictFind_heap (s:={ s with toks:=s.toks+knd.draws k }) y b g hd h c hn (fun u=>absurd m (u j p)) ?_)
 intro i q hi
 have n:i=j:=by
  have v:(xs.map (·.1))[i]?=some k:=by rw [aA5,hi];rfl
  have e2:(xs.map (·.1))[j]?=some k:=by rw [aA5,m];rfl
  have F:=(aA1.mp v).1
  have I:=(aA1.mp e2).1
  exact (List.getElem?_inj F hn).mp (v.trans e2.symm)
 subst n
 have r:es.size<=sizeLine:=by have e:=size_of_entries h;omega
 refine aI1 (wpAny_dictEntries (s:={ s with toks:=s.toks+knd.draws k }) g hd ?_)
 rw [entry_at h i,m]
 refine aI1 (wpAny_updateDictKeys (hz:=r) (s:={ s with toks:=s.toks+knd.draws k }) g hd (aI2 (C _ _ rfl ⟨_,_,z+1,Heap.get?_update_self _ g (Obj.isFreed_of_dict (Obj.data_mapDictKeys hd _)),
  B.mapDictKeys _,Obj.data_mapDictKeys hd _,?_,?_,?_⟩ (Heap.SameBut.update ..))))
 ·have G:∀ {α β:Type} (f : α->β) (l:List α) (k:Nat),(l.map f).eraseIdx k=(l.eraseIdx k).map f:=by
   intro α β f l
   induction l with
   | nil=>intro k;rfl
   | cons a l ih =>
    intro k
    cases k with
    | zero=>rfl
    | succ k=>simp [ih k]
  rw [← G,← h]
  obtain ⟨l⟩:=es
  have H:i < l.length:=by
   have:=(aA1.mp m).1
   have e:=size_of_entries h
   simp at e;omega
  simp [Array.eraseIdxIfInBounds,H]
 ·intro x D
  exact knd.keeps (c x ((List.eraseIdx_sublist xs i).mem D)) g hd (Heap.SameBut.update ..)
 ·exact hn.sublist ((List.eraseIdx_sublist xs i).map _)
theorem meetsH_dict_pop {d a:Addr} (kp:keyPart (.ref a)=none) :
  MeetsIn prog w (Builtin.«dict.pop» ⟨[.ref d,.ref a],[]⟩) (fun A R s=>knd.room A.in1/\∃ k xs j p,knd.is s.heap k a/\s.heap.DictOfH knd d xs/\xs.length<=sizeLine/\xs[j]?=some (k,p) /\
   ∀ h',h'.DictOfH knd d (xs.eraseIdx j)->Heap.SameBut d s.heap h'->R (.ok (.ret p.2)) { s with heap:=h',toks:=s.toks+knd.draws k }) :=
 .of_wp fun A R s u=>by
  obtain ⟨r,k,xs,j,p,b,hm,hsz,m,h⟩:=u
  have c:=hm
  obtain ⟨o,es,y,v,z,hd,x,n,hn⟩:=c
  have f:es.isEmpty=false:=by
   have e:=size_of_entries x
   have:=(aA1.mp m).1
   cases q:es.isEmpty with
   | false=>rfl
   | true=>have:=Array.isEmpty_iff.mp q;rw [this] at e;simp at e;omega
  unfold Builtin.«dict.pop»
  refine aI1 ?_
  unfold Builtin.Dict.keyAndDefault
  refine aI1 (wpAny_notOrdered_dict hm.typeIs ?_)
  show wpAny _ _ (pure (d,Value.ref a,none)) _ _ s
  refine aI2 ?_
  simp only [kp,Option.isSome_none,Bool.false_eq_true,if_false]
  refine aI1 (wpAny_dictEntries v hd ?_)
  refine aI1 (aI2 ?_)
  simp only [f,Bool.false_eq_true,if_false]
  refine aI1 (am7 r b hm m (fun e h' l g i=>?_) hsz)
  simp only [Option.isNone_some,Bool.false_eq_true,if_false]
  exact aI1 (wpAny_letGo (aI2 ⟨e.val,rfl,by rw [l];exact h h' g i⟩))
end
end PopT
namespace L2
open PySem PySem.Spec PySem.W PyProof.Rows
theorem KT.at {H:Hp} {kvs:List (List Key × V)} {xs:List (List Key × Addr × Value)} (r:KT H kvs xs):∀ {j:Nat} {k:List Key} {v:V},kvs[j]?=some (k,v)->∃ p:Addr × Value,xs[j]?=some (k,p)/\RelV v p.2:=by
 induction r with
 | nil=>intro j k v e;simp at e
 | @cons p q ps qs hq t ih =>
  intro j k v e
  cases j with
  | zero =>
   have e:p=(k,v):=by simpa using e
   subst e
   exact ⟨q.2,by rw [List.getElem?_cons_zero,show k=q.1 from hq.1],hq.2.2⟩
  | succ j=>exact ih (by simpa using e)
theorem KT.erase {H:Hp} {kvs:List (List Key × V)} {xs:List (List Key × Addr × Value)} (r:KT H kvs xs):∀ (j:Nat),KT H (kvs.eraseIdx j) (xs.eraseIdx j):=by
 induction r with
 | nil=>intro j;exact .nil
 | @cons p q ps qs hq t ih =>
  intro j
  cases j with
  | zero=>exact t
  | succ j=>exact .cons hq (ih j)
section
variable {X:Cx} {pins:List (Addr × Obj)} {σ:St} {H:Hp} {s:Shared} {a b:Addr} {A:Around} {E:Value->Shared->Prop}
theorem a0r {kvs:List (List Key × V)} {k:List Key} {j:Nat} {v:V} {Q:Value->Shared->Prop} (x:A.units+1 < cLine) (I:Inv X pins σ H s) (e:H a=some (.dT kvs)) (G:H b=some (.tup (k.map kV))) (l:kvs[j]?=some (k,v))
  (h:∀ m n,Inv X pins σ (upd H a (.dT (kvs.eraseIdx j))) n->RelV v m->Q m n):wpAny (model X.prog X.w) A (call (.builtin "dict.pop") [.ref a,.ref b]) Q E s:=by
 obtain ⟨z,hd,xs,d,dd⟩:=aic I.hok e
 have hz:xs.length<=sizeLine:=by rw [← Paired.length d];exact z
 obtain ⟨p,u,C⟩:=KT.at d l
 refine call_meetsIn PySem.F.slot_dict_pop dd.typeIs PySem.F.entry_dict_pop (PySem.F.args_dict_pop_2 _ _) (PopT.meetsH_dict_pop (knd:=tupleKind (aa7 X.prog X.w)) rfl)
  ⟨tupleKind_room_in1 x,k,xs,j,p,afa I.hok G,dd,hz,u,fun h' f r=>h p.2 _ ?_ C⟩
 obtain ⟨q,es,o,i,B,y,J,_,D⟩:=f
 refine ag1 I (by rw [e];exact True.intro) r ⟨q,i⟩ ⟨aC9 (List.length_eraseIdx_le kvs j) z,hd,_,(KT.erase d j).keeps fun c ys g=>?_,q,es,o,i,B,y,J,D⟩
 rw [aae (afj g e (fun z=>nomatch z))]
 exact g
end
def ast (td ty:TE):TE:=fun σ H Q=>td σ H fun x H1=>∃ a,x=.ref a/\IsD H1 a/\ty σ H1 fun y H2=>∃ kvs k j v b,H2 a=some (.dT kvs)/\y=.ref b/\H2 b=some (.tup (k.map kV))/\kvs[j]?=some (k,v)/\Q v (upd H2 a (.dT (kvs.eraseIdx j)))
section
variable {X:Cx} {o e f:Expr} {apos cpos:Pos} {td ty tx:TE}
theorem avi (q:X.A.units+1 < cLine) (z:PE X o td) (C:PE X e ty) (m:M1 X o "pop" apos e cpos):PE X (.Call (.Attribute o "pop" apos) [e] [] cpos) (ast td ty):=by
 intro pins s σ H Q I h
 refine wpAny_Call_method m.base m.few m.line PySem.F.plainAttrs_dict PySem.F.slot_dict_pop PySem.F.type_dict_pop (thn (z pins s σ H _ I h) fun u s1 ⟨x,E,f,i,a,ex,d,G⟩=>?_)
 subst ex
 obtain rfl:u=Value.ref a:=i
 obtain ⟨w,J,_⟩:=ars f d
 refine ⟨w,J,?_⟩
 rw [m.trees]
 refine Calls.callWith_builtin rfl (Calls.evalArgs_plain (Calls.spliced_cons (thn (C pins s1 σ E _ f G) fun g s2 ⟨y,H2,L,K,kvs,k,j,v,b,n,r,D,l,p⟩=>Calls.spliced_nil ?_)))
 subst r
 obtain rfl:g=Value.ref b:=K
 exact a0r q L n D l fun N M B c=>⟨v,_,B,c,p⟩
end
end L2
namespace DNe
open PySem PyProof.Rows
theorem dict_ne_some (l b:Addr) (es:Array DictEntry) (n i:Nat) (dd a:Option Addr) (sl c:Array (Option Value)) (f:(l == sysModules)=false) (j:(b == sysModules)=false) (m:(es.size != 0)=true) :
  Meets (Builtin.«dict.__ne__» ⟨[.ref l,.ref b],[]⟩)
   (fun _ R s=>s.heap.get? l=some { cls:=.type "dict",dict:=dd,data:=.dict es n,slots:=sl }/\s.heap.get? b=some { cls:=.type "dict",dict:=a,data:=.dict #[] i,slots:=c } /\
    R (.ok (.ret (.bool true))) s) :=
 .of_wp fun prog w A R s h=>by
  obtain ⟨o,g,d,p,os⟩:=s;obtain ⟨r,hb,h⟩:=h
  have q:=PySem.F.sub_dict_dict
  wp_walk
  exact ⟨_,rfl,h⟩
theorem asu {prog:Program} {w:World} {A:Around} {E:Value->Shared->Prop} {s:Shared} {Q:Bool->Shared->Prop} {id:String} {l b:Addr} {o f:Obj} {n i:Nat} (a:(l == sysModules)=false) (d:(b == sysModules)=false)
  (g:s.heap.get? l=some o) (hd:o.data=.dict #[] n) (hb:s.heap.get? b=some f) (c:f.data=.dict #[] i) (h:Q true s):wpAny (model prog w) A (Builtin.Dict.samePairs id l b) Q E s:=by
 unfold Builtin.Dict.samePairs Builtin.Dict.showsAll
 rw [a,d]
 simp only [Bool.false_eq_true,if_false]
 refine aI1 (aI2 (aI1 (aI2 ?_)))
 refine aI1 (wpAny_dictEntries g hd (aI1 (wpAny_dictEntries hb c ?_)))
 simp only [bne_self_eq_false,Bool.false_eq_true,if_false]
 refine aI1 (wpAny_dictEpoch g hd ?_)
 rw [Std.Legacy.Range.forIn_eq_forIn_range']
 simp only [Std.Legacy.Range.size]
 exact aI1 (aI2 (aI2 h))
theorem dict_ne_none (l b:Addr) (n j:Nat) (dd c:Option Addr) (sl f:Array (Option Value)) (a:(l == sysModules)=false) (i:(b == sysModules)=false) :
  Meets (Builtin.«dict.__ne__» ⟨[.ref l,.ref b],[]⟩)
   (fun _ R s=>s.heap.get? l=some { cls:=.type "dict",dict:=dd,data:=.dict #[] n,slots:=sl }/\s.heap.get? b=some { cls:=.type "dict",dict:=c,data:=.dict #[] j,slots:=f } /\
    R (.ok (.ret (.bool false))) s) :=
 .of_wp fun prog w A R s h=>by
  obtain ⟨o,g,d,p,os⟩:=s;obtain ⟨m,hb,h⟩:=h
  have q:=PySem.F.sub_dict_dict
  wp_walk using asu a i m rfl hb rfl
  exact ⟨_,rfl,h⟩
end DNe
namespace L2
open PySem PySem.Spec PySem.W PyProof.Rows
def rNeE:R2:=fun x y H Q=>∃ a b kvs,x=.ref a/\y=.ref b/\H a=some (.dT kvs)/\H b=some (.dT [])/\Q (.bl (!kvs.isEmpty)) H
theorem a0s {X:Cx} (S:X.A.units+64 < cLine):OpR X (compareOp .NotEq) rNeE:=by
 intro pins s σ H x y v u Q I J R h
 obtain ⟨a,b,kvs,rfl,rfl,L,P,q⟩:=h
 obtain rfl:v=Value.ref a:=J
 obtain rfl:u=Value.ref b:=R
 obtain ⟨_,j,xs,p,⟨cls,dd,data,sl⟩,es,C,n,M,E,z,_,_⟩:=aic I.hok L
 obtain ⟨_,m,ys,g,⟨f,d,r,i⟩,fs,c,o,N,D,G,_,_⟩:=aic I.hok P
 cases g
 have hf:fs = #[]:=by
  obtain ⟨l⟩:=fs
  simp at G
  rw [G]
 subst hf
 have O:cls=.type "dict":=M.1
 have K:f=.type "dict":=N.1
 simp only at E D
 subst O K E D
 have hn:Value.bool true ≠ Value.notImplemented:=fun x=>nomatch x
 have w:Value.bool false ≠ Value.notImplemented:=fun x=>nomatch x
 cases p with
 | nil =>
  have B:es = #[]:=by
   obtain ⟨l⟩:=es
   simp at z
   rw [z]
  subst B
  exact richCompare_meets_room (op:=.NotEq) ⟨_,n,rfl⟩ ⟨_,o,rfl⟩ PySem.F.slot_dict_ne PySem.F.entry_dict_ne (PySem.F.args_dict_ne_2 _ _) (DNe.dict_ne_none a b C c dd d sl i j m)
   ⟨n,o,show Value.bool false ≠ Value.notImplemented/\_ from ⟨w,⟨.bl false,H,I,rfl,q⟩⟩⟩ (by omega)
 | cons hq t =>
  have B:(es.size != 0)=true:=by
   have:=congrArg List.length z
   simp at this
   simp [this]
  exact richCompare_meets_room (op:=.NotEq) ⟨_,n,rfl⟩ ⟨_,o,rfl⟩ PySem.F.slot_dict_ne PySem.F.entry_dict_ne (PySem.F.args_dict_ne_2 _ _) (DNe.dict_ne_some a b es C c dd d sl i j m B)
   ⟨n,o,show Value.bool true ≠ Value.notImplemented/\_ from ⟨hn,⟨.bl true,H,I,rfl,q⟩⟩⟩ (by omega)
end L2
namespace DNe
open PySem PyProof.Rows
theorem am8 (l:Addr) (es:Array DictEntry) (n:Nat) (dd:Option Addr) (sl:Array (Option Value)) (a:(l == sysModules)=false) :
  Meets (Builtin.«dict.__len__» ⟨[.ref l],[]⟩)
   (fun _ R s=>s.heap.get? l=some { cls:=.type "dict",dict:=dd,data:=.dict es n,slots:=sl }/\R (.ok (.ret (.int (es.size:Int) s.toks))) { s with toks:=s.toks+1 }) :=
 .of_wp fun prog w A R s h=>by
  obtain ⟨b,g,d,c,os⟩:=s;obtain ⟨f,h⟩:=h
  wp_walk
  exact ⟨_,rfl,h⟩
section
variable {prog:Program} {w:World} {A:Around} {E:Value->Shared->Prop} {s:Shared}
theorem call_len_raw {d:Addr} {es:Array DictEntry} {n:Nat} {dd:Option Addr} {sl:Array (Option Value)} {Q:Value->Shared->Prop} (hd:(d == sysModules)=false) (b:s.heap.get? d=some { cls:=.type "dict",dict:=dd,data:=.dict es n,slots:=sl }) (a:(es.size:Int) < 2 ^ 63)
  (h:Q (.int (es.size:Int) (s.toks+1)) { s with toks:=s.toks+1+1 }):wpAny (model prog w) A (call (.builtin "len") [.ref d]) Q E s:=by
 have c:s.TypeIs (.ref d) "dict":=⟨_,b,rfl⟩
 refine Calls.call_function_entry kind_len plain_len entry_len (args_len1 _) ?_
 unfold Builtin.«len»
 refine aI1 (m:=oneArg "len" _) (aI2 ?_)
 refine aI1 (m:=callSpecial? (.ref d) (Str.ofString "__len__")) (wpAny_callSpecial?_slot (name:=Str.ofString "__len__") c PySem.F.slot_dict_len
  (call_meets PySem.F.slot_dict_len c PySem.F.entry_dict_len (PySem.F.args_dict_len_1 _) (am8 d es n dd sl hd) ⟨b,?_⟩))
 show wpAny _ _ _ _ _ { s with toks:=s.toks+1 }
 refine aI1 (aI6 (aI2 ?_))
 refine aI1 (wpAny_letGo ?_)
 show wpAny _ _ (if (es.size:Int) < 0 then _ else _) _ _ _
 rw [aE9 (by omega)]
 show wpAny _ _ (if (es.size:Int) ≥ 2 ^ 63 then _ else _) _ _ _
 rw [aE9 (by omega)]
 exact aI1 (wpAny_mkInt (aI2 ⟨_,rfl,h⟩))
end
end DNe
namespace L2
open PySem PySem.Spec PySem.W PyProof.Rows
def awg:List V->Hp->VK->Prop:=fun xs H Q=>∃ a kvs,xs=[V.ref a]/\H a=some (.dT kvs)/\Q (.int kvs.length) H
theorem asv {X:Cx}:abb X (.builtin "len") awg:=by
 intro pins s σ H xs us Q I r h
 obtain ⟨a,kvs,rfl,ha,q⟩:=h
 obtain ⟨u,rfl,j⟩:=acm r
 cases j
 obtain ⟨z,hd,ys,b,⟨cls,dd,data,sl⟩,es,m,f,g,c,l,_,_⟩:=aic I.hok ha
 have i:cls=.type "dict":=g.1
 simp only at c
 subst i c
 have d:es.size=kvs.length:=by
  have:=congrArg List.length l
  simp at this
  rw [this];exact (Paired.length b).symm
 refine DNe.call_len_raw hd f (by rw [sizeLine_eq] at z;omega) ?_
 rw [d]
 exact ⟨.int kvs.length,H,(I.tok _).tok _,⟨_,rfl⟩,q⟩
end L2
namespace VL
open PySem PySem.Spec L2
section
variable {B:Bs} {env:En} {Q':PyData->En->Prop} {QO:Sl->En->Prop} {i:Nat} {ty:TE}
theorem RpT.at {G:Hp}:∀ {kvs:List (List Key × V)} {es:List (List Key × PyData)},RpT G kvs es->∀ {j:Nat} {a:List Key} {d:PyData},es[j]?=some (a,d)->∃ v,kvs[j]?=some (a,v)/\Rp G v d
 | _,_,.nil,j,a,d,e=>by simp at e
 | _,_,.cons (k:=k) (v:=v) (d:=d0) h t,0,a,d,e=>by
  have e:(k,d0)=(a,d):=by simpa using e
  cases e
  exact ⟨v,rfl,h⟩
 | _,_,.cons h t,j+1,a,d,e=>by
  obtain ⟨v,b,r⟩:=RpT.at t (j:=j) (by simpa using e)
  exact ⟨v,by simpa using b,r⟩
theorem RpT.erase {G:Hp}:∀ {kvs:List (List Key × V)} {es:List (List Key × PyData)},RpT G kvs es->∀ (j:Nat),RpT G (kvs.eraseIdx j) (es.eraseIdx j)
 | _,_,.nil,_ => .nil
 | _,_,.cons _ t,0=>t
 | _,_,.cons h t,j+1 => .cons h (RpT.erase t j)
theorem avj {es0:List (List Key × PyData)} (x:Has env i (OT es0)) (h:Ev B ty env fun y e2=>∃ es m j d,e2[i]?=some (some (.own (OT es)))/\y=tkD m/\es[j]?=some (m,d)/\Q' d (e2.set i (some (.own (OT (es.eraseIdx j)))))):Ev B (ast (tVar i) ty) env Q':=fun σ G H F Q I k=>by
 obtain ⟨v,o,a,kvs,z,ha,rt,_⟩:=I.has x
 subst z
 refine ⟨_,o,a,rfl,.inr ⟨kvs,.inl ha⟩,h σ G H F _ I fun u K H2 F2 y e2 r A w ⟨es,m,j,d,l,C,E,q⟩=>?_⟩
 subst C
 obtain ⟨M,g,⟨L,f,n,p,c,hf⟩,hb⟩:=r.sl i _ l
 rw [o] at g;cases g;cases n
 cases w with
 | @tup b vs ds hk rs =>
  have:=am0 rs
  subst this
  obtain ⟨s,J,D⟩:=RpT.at c E
  refine ⟨f,m,j,s,b,p,rfl,r.gh _ _ hk,J,?_⟩
  exact k _ K _ _ _ _ (r.upd1 (A':=OT (es.eraseIdx j)) l (.inl rfl) o hf ⟨a,_,rfl,aaf,RpT.erase c j,fun b=>Iff.rfl⟩) A D q
theorem a0t {es:List (List Key × PyData)} (c:Has env i (OT es)) (q:Q' (.bool (!es.isEmpty)) env):Ev B (tOp rNeE (tVar i) alz) env Q':=fun σ G H F Q I k=>by
 obtain ⟨v,f,a,kvs,d,ha,rt,_⟩:=I.has c
 subst d
 refine ⟨_,f,fun p b=>⟨a,p,kvs,rfl,rfl,by rw [aae (aar ha b)];exact ha,aaf,?_⟩⟩
 have o:=Out.newDT (xs:=[]) (ds:=[]) I.gh b .nil
 have e:kvs.isEmpty=es.isEmpty:=by cases rt <;> rfl
 rw [e]
 exact k _ G _ F _ env (I.out o).1 (Same.refl _) (.bl _) q
theorem ayi {es:List (List Key × PyData)} (d:Has env i (OT es)) (q:Q' (.int es.length) env):Ev B (tCB awg (aa3 (tVar i) tNil)) env Q':=fun σ G H F Q I k=>by
 obtain ⟨v,c,a,kvs,b,ha,rt,_⟩:=I.has d
 subst b
 refine ⟨_,c,a,kvs,rfl,ha,?_⟩
 rw [(RpT.len rt).1]
 exact k _ G H F _ env I (Same.refl _) (.int _) q
@[reducible] def aba (es:List (Key × PyData)):PyData:=.dict (es.map fun p=>(kD p.1,p.2))
theorem ayj {a b:Key} (h:kD a=kD b):a=b:=by
 cases a <;> cases b <;> simp [kD] at h <;> rw [h]
theorem asw:∀ {es fs:List (Key × PyData)},es.map (fun p=>(kD p.1,p.2))=fs.map (fun p=>(kD p.1,p.2))->es=fs
 | [],[],_=>rfl
 | [],_ :: _,h=>by simp at h
 | _ :: _,[],h=>by simp at h
 | (a,x) :: es,(b,y) :: fs,h=>by
  simp only [aD0,List.cons.injEq,Prod.mk.injEq] at h
  rw [ayj h.1.1,h.1.2,asw h.2]
theorem ajw {G:Hp} {v:V} {es:List (Key × PyData)} (r:Rp G v (aba es)) (b:es ≠ []):∃ a kvs,v=.ref a/\G a=some (.dK kvs)/\RpK G kvs es:=by
 cases r with
 | dk h rk e=>exact ⟨_,_,rfl,h,by rw [asw e];exact rk⟩
 | @dt a kvs es' ds h rt e =>
  cases es with
  | nil=>exact absurd rfl b
  | cons p es =>
   cases es' with
   | nil=>simp at e
   | cons q es' =>
    simp only [aD0,List.cons.injEq,Prod.mk.injEq] at e
    have:=e.1.1
    obtain ⟨k,x⟩:=p
    cases k <;> simp [kD] at this
theorem ahz {i:TE} (h:Ev B i env fun x f=>Ev B ty f fun y e2=>∃ es k d,x=aba es/\es ≠ []/\y=kD k/\valD es k=some d/\Q' d e2):Ev B (ak8 i ty) env Q':=fun σ G H F Q I J =>
 h σ G H F _ I fun v o K s x f m r l p=>p σ o K s _ m fun u L H2 F2 y e2 j g n D=>by
  obtain ⟨es,k,d,ex,b,C,z,q⟩:=D
  subst ex C
  obtain ⟨a,kvs,rfl,ha,E⟩:=ajw (l.same g) b
  obtain ⟨w,A,c⟩:=(RpK.val E).2 d z
  have:=aiv n
  subst this
  exact ⟨a,w,rfl,.inl ⟨kvs,k,.inl (j.gh _ _ ha),rfl,A.symm⟩,J _ L H2 F2 _ e2 j (r.trans g) c q⟩
theorem asx {p:TE} (h:Ev B p env fun x j=>∃ es:List (Key × PyData),x=aba es/\es ≠ []/\Ev B ty j fun y e2=>∃ k,y=kD k/\Q' ((valD es k).getD .none) e2):Ev B (al2 p ty) env Q':=fun σ G H F Q I o =>
 h σ G H F _ I fun v A L D x j l m s K=>by
  obtain ⟨es,ex,f,C⟩:=K
  subst ex
  obtain ⟨a,kvs,rfl,ha,n⟩:=ajw s f
  refine ⟨a,rfl,.inl ⟨kvs,.inl (l.gh _ _ ha)⟩,C σ A L D _ l fun u r H2 F2 y e2 i c z ⟨k,J,q⟩=>?_⟩
  subst J
  have:=aiv z
  subst this
  have b:=i.gh _ _ (c _ _ ha)
  cases hv:valD es k with
  | none =>
   rw [hv] at q
   exact ⟨none,.inl ⟨kvs,k,.inl b,rfl,((RpK.val n).1 hv).symm⟩,o _ r H2 F2 _ e2 i (m.trans c) .non q⟩
  | some d =>
   rw [hv] at q
   obtain ⟨w,E,g⟩:=(RpK.val n).2 d hv
   exact ⟨some w,.inl ⟨kvs,k,.inl b,rfl,E.symm⟩,o _ r H2 F2 _ e2 i (m.trans c) (g.same c) q⟩
end
section
variable {B:Bs} {env:En} {QO:Sl->En->Prop} {Q':PyData->En->Prop} {K:Frag} {i:Nat}
end
theorem asz {α:Type} {K:Frag} {src:List (Option Nat)} {a:En} {te:TE} {c:TT} {R:List PyData->En->Prop} {xs:List α} {f : α->PyData} (g : α->PyData) (p : α->Bool) (r:noIo (aau src a)=true) (L:xs.length<=999999)
  (h:∀ x∈xs,∀ j:Bs,j.K=K->EvT j c (some (.st (f x)) :: aau src a) fun b q=>b=p x/\q=some (.st (f x)) :: aau src a/\(b=true->Ev j te (some (.st (f x)) :: aau src a) fun y m=>y=g x/\m=some (.st (f x)) :: aau src a))
  (C:R ((xs.filter p).map g) a):LcV K (none :: src) (abl 0) c te (xs.map f) a R:=by
 have l:noIo (aau (none :: src) a)=true:=by
  show ((none :: aau src a).all fun s => !isIo s)=true
  rw [List.all_cons]
  exact (aG4 _ _).mpr ⟨rfl,r⟩
 refine ⟨fun i ys e=>ys=((xs.take i).filter p).map g/\∃ o,e=stO o :: aau src a,⟨by simp,none,rfl⟩,?_,?_,?_⟩
 ·rintro i ys e ⟨_,o,rfl⟩
  exact ⟨⟨isIo_stO.symm,adw⟩,adx adr⟩
 ·rintro i d ys e hd ⟨rfl,o,rfl⟩ j D
  rw [aA5] at hd
  cases hx:xs[i]? with
  | none=>rw [hx] at hd;cases hd
  | some x =>
  rw [hx] at hd
  cases hd
  have hi:i < xs.length:=(aA1.mp hx).1
  have w:xs.take (i+1)=xs.take i ++ [x]:=by rw [aG7,hx];rfl
  refine abf ?_
  show EvT j c (some (.st (f x)) :: aau src a) _
  intro σ G H F Q I k
  refine h x (aA2 hx) j D σ G H F Q I fun b G' H' F' q u g' ⟨hb,B,z⟩=>k b G' H' F' q u g' ?_
  subst B
  by_cases hp:b=true
  ·rw [aE8 hp]
   intro σ G H F Q I k
   refine z hp σ G H F Q I fun v G' H' F' d' m u g' A ⟨E,n⟩=>k v G' H' F' d' m u g' A ?_
   subst E n
   refine ⟨?_,?_,some _,rfl⟩
   ·have:=aE6 p (xs.take i)
    simp only [aA3]
    have J:(xs.take i).length<=i:=by simp;omega
    omega
   ·rw [w,List.filter_append,aD9]
    have:p x=true:=by rw [← hb];exact hp
    simp [this]
  ·rw [aE9 hp]
   refine ⟨?_,some _,rfl⟩
   rw [w,List.filter_append,aD9]
   have:p x=false:=by rw [← hb];simpa using hp
   simp [this]
 ·rintro ys e ⟨rfl,o,rfl⟩
  rw [ag8 l,aA3,aG1]
  exact C
section
variable {B:Bs} {env:En} {QO:Sl->En->Prop} {Q':PyData->En->Prop} {K:Frag} {i:Nat}
theorem am9 {n j:TE} (h:Ev B n env fun d i=>EvO B j i fun s e2=>∃ ds,s=.own (OL ds)/\QO (.own (OW d ds)) e2):EvO B (tTup (aa3 n (aa3 j tNil))) env QO:=fun σ G H F Q I k =>
 h σ G H F _ I fun v C M E d i A D y K=>K σ C M E _ A fun w u H2 F2 Fv s e2 f r x L=>by
  obtain ⟨ds,es,q⟩:=L
  subst es
  obtain ⟨l,vs,rfl,g,rs,hf⟩:=x.ok
  refine ⟨show (2:Nat)<=sizeLine by rw [sizeLine_eq];decide,fun p c=>?_⟩
  have pl:p ≠ l:=(aar g c).symm
  have J:VI B u (upd H2 p (.tup [v,.ref l])) σ e2 F2:=f.grow (Same.refl _) (f.gh.trans (abn c)) (abn c) (fun a o e => .inl e) fun a N e=>by
   by_cases z:a=p
   ·subst z;rw [aaf] at e;exact absurd (aC5 e) am3
   ·rw [aae z] at e;exact f.ft a N e
  refine k _ u _ _ (fun a=>a=p\/a=l) (.own (OW d ds)) _ J (D.trans r) ⟨⟨p,l,v,vs,rfl,aaf,y.same r,by rw [aae pl.symm];exact g,rs,fun b=>Iff.rfl⟩,fun a z=>?_,fun a z=>?_,fun a z=>?_,fun m a z=>?_⟩ q
  ·rcases z with rfl | rfl
   ·exact f.no_b c
   ·exact x.fb a ((hf a).mpr rfl)
  ·rcases z with rfl | rfl
   ·exact f.no_g c
   ·exact x.fg a ((hf a).mpr rfl)
  ·rcases z with rfl | rfl
   ·exact ⟨_,aaf⟩
   ·exact ⟨_,by rw [aae pl.symm];exact g⟩
  ·rcases z with rfl | rfl
   ·exact f.no_f c m
   ·exact x.fd m a ((hf a).mpr rfl)
end
section
variable {B:Bs} {env:En} {QO:Sl->En->Prop} {Q':PyData->En->Prop} {K:Frag} {E:XK} {i:Nat}
theorem VI.changeW {G H:Hp} {σ:St} {F:Nat->Addr->Prop} {t l:Addr} {u:V} {vs:List V} {d:PyData} {ds a:List PyData} (I:VI B G H σ env F) (n:env[i]?=some (some (.own (OW d ds)))) (q : σ[i]?=some (some (.ref t))) (j:H t=some (.tup [u,.ref l])) (m:Rp G u d) (o:H l=some (.lst vs)) (f:∀ b,F i b ↔ b=t\/b=l) {g:List V} (r:Rps G g a) :
  VI B G (upd H l (.lst g)) σ (env.set i (some (.own (OW d a)))) (putF F i (F i)):=by
 have tl:t ≠ l:=afj j o (by intro z;cases z)
 refine I.change (A:=OW d a) (H2:=upd H l (.lst g)) (F2:=F i) (os':=.own (OW d a)) i n q (fun c w p h=>by rw [aae (fun z:c=l=>p ((f c).mpr (.inr z)))];exact h)
  (fun c w h=>by
   by_cases z:c=l
   ·rw [z];exact ⟨_,aaf⟩
   ·rw [aae z];exact ⟨w,h⟩)
  (fun c z=>⟨.inl z,by
   by_cases y:c=l
   ·rw [y];exact ⟨_,aaf⟩
   ·rw [aae y];exact I.fo i c z⟩) ?_ (fun c s e=>by
   by_cases z:c=l
   ·subst z;rw [aaf] at e;cases e
   ·rw [aae z] at e;exact I.ft c s e) (.inl ⟨rfl,_,rfl⟩)
 exact ⟨t,l,u,_,rfl,by rw [aae tl];exact j,m,aaf,r,f⟩
theorem as0 {d:PyData} {ds:List PyData} (c:env[i]?=some (some (.own (OW d ds)))) (q:Q' .none (env.set i (some (.own (OW d []))))):Ev B (tBM0 K "list" alw (tOp (acg K) (tVar i) (tC (.int 1)))) env Q':=fun σ G H F Q I k=>by
 obtain ⟨v,g,⟨t,l,u,vs,rfl,b,h,a,j,f⟩,hb⟩:=I.sl i _ c
 refine ⟨_,g,afr b at1 ⟨.inl ⟨rfl,_,SqL.of a⟩,l,vs,rfl,rfl,a,?_⟩⟩
 exact k _ _ _ _ _ _ (I.changeW c g b h a f .nil) (Same.refl _) .non q
end
inductive RpF (G:Hp):List (Str × V)->List (Str × PyData)->Prop
 | nil:RpF G [] []
 | cons {x:Str} {u:V} {d:PyData} {us:List (Str × V)} {fs:List (Str × PyData)}:Rp G u d->RpF G us fs->RpF G ((x,u) :: us) ((x,d) :: fs)
def putP (x:Str) (d:PyData):List (Str × PyData)->List (Str × PyData)
 | []=>[(x,d)]
 | (y,e) :: fs=>if y=x then (y,d) :: fs else (y,e) :: putP x d fs
theorem RpF.same {G G':Hp} {us:List (Str × V)} {fs:List (Str × PyData)} (h:RpF G us fs) (g:Same G G'):RpF G' us fs:=by
 induction h with
 | nil=>exact .nil
 | cons r _ ih=>exact .cons (r.same g) ih
theorem RpF.get {G:Hp} {x:Str} {d:PyData} {us:List (Str × V)} {fs:List (Str × PyData)} (h:RpF G us fs) (e:fs.lookup x=some d):∃ u,us.lookup x=some u/\Rp G u d:=by
 induction h with
 | nil=>cases e
 | @cons y u d' us fs r _ ih =>
  rw [aG2] at e ⊢
  cases hx:x == y with
  | true=>rw [hx] at e;cases e;exact ⟨u,rfl,r⟩
  | false=>rw [hx] at e;exact ih e
theorem RpF.no {G:Hp} {x:Str} {us:List (Str × V)} {fs:List (Str × PyData)} (h:RpF G us fs) (e:fs.lookup x=none):us.lookup x=none:=by
 induction h with
 | nil=>rfl
 | @cons y u d' us fs r _ ih =>
  rw [aG2] at e ⊢
  cases hx:x == y with
  | true=>rw [hx] at e;cases e
  | false=>rw [hx] at e;exact ih e
theorem RpF.length {G:Hp} {us:List (Str × V)} {fs:List (Str × PyData)} (h:RpF G us fs):us.length=fs.length:=by
 induction h with
 | nil=>rfl
 | cons _ _ ih=>simp [ih]
theorem RpF.put {G:Hp} {x:Str} {u:V} {d:PyData} {us:List (Str × V)} {fs:List (Str × PyData)} (h:RpF G us fs) (r:Rp G u d):RpF G (L2.putF x u us) (putP x d fs):=by
 induction h with
 | nil=>exact .cons r .nil
 | @cons y u' d' us fs r' hh ih =>
  unfold L2.putF putP
  by_cases e:y=x
  ·rw [aE8 e,aE8 e];first | exact .cons r hh | (rw [e];exact .cons r hh)
  ·rw [aE9 e,aE9 e];exact .cons r' ih
def OI (C:Addr) (fs:List (Str × PyData)):Own where
 P:=fun G H v F=>∃ a dx us,v=.ref a/\H a=some (.ins C dx us)/\H dx=some (.own a)/\RpF G us fs/\∀ b,F b ↔ b=a\/b=dx
 mono:=fun ⟨a,dx,us,e,h1,h2,r,f⟩ g hh=>⟨a,dx,us,e,hh a _ ((f a).mpr (.inl rfl)) h1,hh dx _ ((f dx).mpr (.inr rfl)) h2,r.same g,f⟩
 dom:=fun ⟨a,dx,us,e,h1,h2,r,f⟩ b z=>by
  rcases (f b).mp z with rfl | rfl
  ·exact ⟨_,h1⟩
  ·exact ⟨_,h2⟩
section
variable {B:Bs} {env:En} {QO:Sl->En->Prop} {Q':PyData->En->Prop} {D':VEnds} {K:Frag} {C:Addr} {i:Nat} {fs:List (Str × PyData)} {x:Str} {tv:TE}
theorem aep {d:PyData} (b:Has env i (OI C fs)) (c:Cls K C) (n:NoAttr K C x) (hd:fs.lookup x=some d) (q:Q' d env):Ev B (tFld K (tVar i) x) env Q':=fun σ G H F Q I k=>by
 obtain ⟨v,h,a,dx,us,rfl,g,m,r,f⟩:=I.has b
 obtain ⟨u,j,l⟩:=r.get hd
 exact ⟨_,h,a,C,dx,us,u,rfl,g,c,n,j,k u G H F d env I (Same.refl _) l q⟩
theorem ayk (c:Cls K C) (n:NoAttr K C x) (h:EvO B tv env fun s g=>FQ s fun d=>∃ s0,g[i]?=some (some s0)/\(s0=.own (OI C fs)\/s0=.io (OI C fs))/\fs.length < 1000/\D'.nx (g.set i (some (reS s0 (OI C (putP x d fs)))))):EvS B (sFld K (tVar i) tv x) D' env:=fun σ G H F D I r =>
 abo (te:=tv) (Q':=fun d g=>∃ s0,g[i]?=some (some s0)/\(s0=.own (OI C fs)\/s0=.io (OI C fs))/\fs.length < 1000/\D'.nx (g.set i (some (reS s0 (OI C (putP x d fs)))))) h σ G H F _ I fun y O N E d g l Q W R=>by
  obtain ⟨s0,o,p,S,q⟩:=R
  obtain ⟨v,M,j⟩:=l.sl i _ o
  have ap:(OI C fs).P O N v (E i):=by
   rcases p with rfl | rfl
   ·exact j.1
   ·exact j.1
  obtain ⟨a,dx,us,rfl,u,L,rf,f⟩:=ap
  refine ⟨_,M,a,C,dx,us,rfl,u,c,n,by rw [rf.length];exact S,?_⟩
  have T:a ≠ dx:=afj u L (by intro z;cases z)
  have J:=l.change (A:=OI C (putP x d fs)) (H2:=upd N a (.ins C dx (L2.putF x y us))) (F2:=E i) (os':=reS s0 (OI C (putP x d fs))) i o M (fun b w hb m=>by rw [aae (fun z:b=a=>hb ((f b).mpr (.inl z)))];exact m)
   (fun b w m=>by
    by_cases z:b=a
    ·rw [z];exact ⟨_,aaf⟩
    ·rw [aae z];exact ⟨w,m⟩)
   (fun b z=>⟨.inl z,by
    by_cases y:b=a
    ·rw [y];exact ⟨_,aaf⟩
    ·rw [aae y];exact l.fo i b z⟩) ⟨a,dx,_,rfl,aaf,by rw [aae T.symm];exact L,rf.put W,f⟩ (fun b U e=>by
    by_cases z:b=a
    ·subst z;rw [aaf] at e;cases e
    ·rw [aae z] at e;exact l.ft b U e) (by
    rcases p with rfl | rfl
    ·exact .inl ⟨rfl,_,rfl⟩
    ·exact .inr ⟨rfl,_,rfl⟩)
  exact r.nx _ _ _ _ _ J Q q
theorem ach {f:VIo} {t:TA} {E:XK} {m:Str} (d:Has env i (OI C fs)) (hm:fs.lookup m=none) (h:EvA B t env fun ds c=>∃ s0 A,c[i]?=some (some s0)/\(s0=.own A\/s0=.io A)/\f A (ds.map Sl.st) fun A' s=>QO s (c.set i (some (reS s0 A')))):EvO B (afk C m (spI K f) [] E (tVar i) t) env QO:=fun σ G H F Q I k=>by
 obtain ⟨v,g,a,dx,us,rfl,j,n,r,p⟩:=I.has d
 have l:∃ s,env[i]?=some (some s):=by rcases d with e | e <;> exact ⟨_,e⟩
 have:=agr (K:=K) (E:=E) l h σ G H F Q I k
 unfold abw at this
 simp only [aE4] at this
 obtain ⟨o,b,q⟩:=this
 rw [g] at b
 cases b
 unfold afk
 simp only [aE4]
 exact ⟨_,g,a,dx,us,rfl,j,r.no hm,q⟩
theorem apf {f:VIo} {t:TA} {E:XK} {m:Str} (b:Has env i (OI C fs)) (hm:fs.lookup m=none) (h:EvA B t env fun ds a=>∃ s0 A,a[i]?=some (some s0)/\(s0=.own A\/s0=.io A)/\f A (ds.map Sl.st) fun A' s=>FQ s fun d=>Q' d (a.set i (some (reS s0 A')))):Ev B (afk C m (spI K f) [] E (tVar i) t) env Q':=abo (ach b hm h)
theorem avk {f:VIo} {t:TA} {E:XK} (O:B.K=K) (h:EvA B t env fun ds g=>f (OI C []) (ds.map Sl.st) fun A' s=>s=.st .none/\QO (.own A') g):EvO B (ap3 C (spI K f) [] E t) env QO:=fun σ G H F Q I k =>
 h σ G H F _ I fun vs p d D ds g i A u M=>by
  intro x dx nx c m
  simp only [aE4]
  have l:Same d (upd (upd d dx (.own x)) x (.ins C dx [])):=fun a o e=>by rw [aae (aar e nx),aae (aar e c)];exact e
  have n:FT p (upd (upd d dx (.own x)) x (.ins C dx [])):=fun a N e=>by
   by_cases z:a=x
   ·subst z;rw [aaf] at e;cases e
   ·rw [aae z] at e
    by_cases z2:a=dx
    ·subst z2;rw [aaf] at e;cases e
    ·rw [aae z2] at e;exact i.ft a N e
  refine ⟨.ref x,vs,p,d,OI C [],_,fun b=>b=x\/b=dx,_,rfl,i.gh.trans l,n,l,⟨x,dx,[],rfl,aaf,by rw [aae m,aaf],.nil,fun b=>Iff.rfl⟩,fun a z=>?_,fun a z=>?_,ArgsOk.of u,M,fun A' s ⟨es,q⟩ v G' H' F' Fv o=>?_⟩
  ·rcases z with rfl | rfl
   ·exact i.no_g nx
   ·exact i.no_g c
  ·rcases z with rfl | rfl
   ·exact nx
   ·exact c
  ·subst es
   have L:v=.non:=by
    obtain ⟨r,_⟩:=o.ok
    cases r
    rfl
   have hh:Same d H':=o.rs
   have J:=i.grow o.gg o.gh hh (fun a w e=>by
    rcases o.gn a w e with z | z
    ·exact .inl z
    ·refine .inr ?_
     cases g:d a with
     | none=>rfl
     | some w1=>rw [l a w1 g] at z;cases z) o.ft
   have hn:∀ a,F' a->d a=none:=fun a z=>by
    rcases o.fi a z with y | y
    ·rcases y with rfl | rfl
     ·exact nx
     ·exact c
    ·cases g:d a with
     | none=>rfl
     | some w1=>rw [l a w1 g] at y;cases y
   exact ⟨L,k (.ref x) G' H' D F' (.own A') g J (A.trans o.gg) ⟨o.ap,fun a z=>i.no_b (hn a z),fun a z=>o.fg a z,fun a z=>A'.dom o.ap a z,fun j a z=>i.no_f (hn a z) j⟩ q⟩
end
theorem afw {x:Str} {d:PyData}:List.lookup x [(x,d)]=some d:=by rw [aG2,beq_self_eq_true]
theorem ads {x m:Str} {d:PyData} (h:(m == x)=false):List.lookup m [(x,d)]=none:=by rw [aG2,h];rfl
theorem put1 {x:Str} {d e:PyData}:putP x e [(x,d)]=[(x,e)]:=by unfold putP;rw [aE8 rfl]
end VL
namespace L2
open PySem PySem.Spec
structure ObAt (K:Frag) (mg:Str->Option Value) (x:Str) (C:Addr):Prop where
 mgx:mg x=some (.ref C)
 cl:Cls K C
 mks:PySem.W.makesIn K C=true
 kp:keepIn K (.ref C)=true
structure MeAt (K:Frag) (C:Addr) (m qn:Str) (st:Stmt) (ps:List Str) (f:Addr) (fd:FuncData):Prop where
 fn:Fun K m qn st f fd
 me:Meth K C m f
 bd:Binds K fd ps []
structure MeOk (P:Program) (w:World) (K:Frag) (mg:Str->Option Value) (base:Heap) (C:Addr) (m:Str) (k:Nat) (ps:List Str) (sp:Sp) (f:Addr) (fd:FuncData):Prop where
 me:Meth K C m f
 ok:FnOk P w K mg base CX0 k f fd ps sp
 bd:Binds K fd ps []
def CanM (P:Program) (w:World) (K:Frag) (mg:Str->Option Value) (base:Heap) (C:Addr) (m:Str) (k:Nat) (ps:List Str) (sp:Sp):Prop:=∃ f fd,MeOk P w K mg base C m k ps sp f fd
theorem MeAt.can {P:Program} {w:World} {K:Frag} {mg:Str->Option Value} {base:Heap} {C:Addr} {m qn:Str} {st:Stmt} {k:Nat} {ps:List Str} {sp:Sp} {f:Addr} {fd:FuncData} (D:MeAt K C m qn st ps f fd) (ok:FnOk P w K mg base CX0 k f fd ps sp):CanM P w K mg base C m k ps sp:=⟨f,fd,D.me,ok,D.bd⟩
section
variable {X:Cx} {k j:Nat} {ps:List Str} {sp:Sp} {x m:Str} {p pos apos:Pos} {o e:Expr} {es:List Expr} {t:TA} {ta:TE} {C:Addr}
theorem aeq {pl:Sem Bool} (F:CanM X.prog X.w X.K X.mg X.base C m k ps sp) (c:Cls X.K C) (d:Room j X.A) (i:PE X o ta) (ha:PA X (e :: es) t) (h:k<=j:=by decide)
  (b:starEach (e :: es) X.env=(false,eval e X.env) :: starEach es X.env:=by rfl) (a:(backTo pos (starEach es X.env)).any (·.1)=false:=by rfl)
  (g:eval (.Call (.Attribute o m apos) (e :: es) [] pos) X.env=(do
   let ov ← eval o X.env
   standAt apos.atName
   let (f,first) ← holding [ov] (getMethod ov m pl)
   callWith pos f first (backTo pos (starEach (e :: es) X.env)) (backToKw pos (keywordEach [] X.env))):=by rfl) :
  PE X (.Call (.Attribute o m apos) (e :: es) [] pos) (afk C m sp [] E0 ta t):=by
 obtain ⟨f,fd,M⟩:=F
 exact awt i c M.me M.ok (d.mono h) M.bd .nil ak9 ha b a g
theorem adz {pl:Sem Bool} (F:CanM X.prog X.w X.K X.mg X.base C m k ps sp) (c:Cls X.K C) (a:Room j X.A) (g:PE X o ta) (d:k<=j:=by decide)
  (b:eval (.Call (.Attribute o m apos) [] [] pos) X.env=(do
   let ov ← eval o X.env
   standAt apos.atName
   let (f,first) ← holding [ov] (getMethod ov m pl)
   callWith pos f first (backTo pos (starEach [] X.env)) (backToKw pos (keywordEach [] X.env))):=by rfl) :
  PE X (.Call (.Attribute o m apos) [] [] pos) (afk C m sp [] E0 ta tNil):=by
 obtain ⟨f,fd,M⟩:=F
 exact ats g c M.me M.ok (a.mono d) M.bd .nil ak9 b
theorem avl (F:CanM X.prog X.w X.K X.mg X.base C "__init__" k ps sp) (O:ObAt X.K X.mg x C) (c:Room j X.A) (ha:PA X (e :: es) t) (g:k+1<=j:=by decide) (d:Gl X x:=by rfl) (a:(x == ("__debug__" : Str))=false:=by decide)
  (h:starEach (e :: es) X.env=(false,eval e X.env) :: starEach es X.env:=by rfl) (b:(backTo pos (starEach es X.env)).any (·.1)=false:=by rfl) :
  PE X (.Call (.Name x p) (e :: es) [] pos) (ap3 C sp [] E0 t):=by
 obtain ⟨f,fd,M⟩:=F
 exact awu ⟨O.mks,M.me.at_,M.me.fn,O.kp⟩ M.ok (c.mono g) d O.mgx M.bd .nil ak9 ha a h b
end
end L2
namespace L2
open PySem PySem.W PyProof.Rows
def awh:List V->Hp->VK->Prop:=fun xs H Q=>∃ a kvs,xs=[V.ref a]/\H a=some (.dK kvs)/\Q (.int (kvs.length:Int)) H
section
variable {X:Cx}
theorem aqr:abb X (.builtin "len") awh:=arw
end
end L2
namespace VL
open PySem PySem.Spec L2
section
variable {B:Bs} {env:En} {Q':PyData->En->Prop} {R:Sl->Prop} {td:TE}
theorem avm {es:List (Key × PyData)} (b:es ≠ []) (h:R (.st (.int (es.length:Int)))):OpA awh [aba es] R:=fun G H vs Q gh rs k=>by
 cases rs with
 | cons r t =>
  cases t
  obtain ⟨a,kvs,rfl,ha,c⟩:=ajw r b
  refine ⟨a,kvs,rfl,gh _ _ ha,?_⟩
  rw [RpK.length c]
  exact k _ _ _ _ _ (Out.refl gh (.int _)) h
end
def OGW (C:Addr) (x:Str) (d:PyData) (ds:List PyData):Own where
 P:=fun G H v F=>∃ a dx t l u vs,v=.ref a/\H a=some (.ins C dx [(x,.ref t)])/\H dx=some (.own a)/\H t=some (.tup [u,.ref l])/\Rp G u d/\H l=some (.lst vs)/\Rps G vs ds/\∀ b,F b ↔ (b=a\/b=dx)\/(b=t\/b=l)
 mono:=fun ⟨a,dx,t,l,u,vs,e,h1,h2,h3,r3,h4,r4,f⟩ g hh=>⟨a,dx,t,l,u,vs,e,hh a _ ((f a).mpr (.inl (.inl rfl))) h1,hh dx _ ((f dx).mpr (.inl (.inr rfl))) h2,hh t _ ((f t).mpr (.inr (.inl rfl))) h3,r3.same g,hh l _ ((f l).mpr (.inr (.inr rfl))) h4,r4.same g,f⟩
 dom:=fun ⟨a,dx,t,l,u,vs,e,h1,h2,h3,r3,h4,r4,f⟩ b z=>by
  rcases (f b).mp z with (rfl | rfl) | (rfl | rfl)
  ·exact ⟨_,h1⟩
  ·exact ⟨_,h2⟩
  ·exact ⟨_,h3⟩
  ·exact ⟨_,h4⟩
def OAny:Own where
 P:=fun G H v F=>∀ b,F b->∃ o,H b=some o
 mono:=fun h g hh b z=>by
  obtain ⟨o,e⟩:=h b z
  exact ⟨o,hh b o z e⟩
 dom:=fun h b z=>h b z
theorem ana {σ:St} {i:Nat} {v:V} (a : σ[i]?=some (some v)) : σ.set i (some v) = σ:=by
 apply aF5
 intro j
 rw [aD1]
 by_cases h:i=j
 ·subst h
  rw [aE8 rfl,a,aE8 (aA1.mp a).1]
 ·rw [aE9 h]
section
variable {B:Bs} {env:En} {QO:Sl->En->Prop} {Q':PyData->En->Prop} {D':VEnds} {K:Frag} {C:Addr} {i:Nat} {x:Str} {tv:TE}
theorem avn (c:Cls K C) (n:NoAttr K C x) (h:EvO B tv env fun s Q=>∃ d ds s0,s=.own (OW d ds)/\Q[i]?=some (some s0)/\(s0=.own (OI C [])\/s0=.io (OI C []))/\D'.nx (Q.set i (some (reS s0 (OGW C x d ds))))):EvS B (sFld K (tVar i) tv x) D' env:=fun σ G H F D I r =>
 h σ G H F _ I fun y X E M Fv s Q m g1 o z_=>by
  obtain ⟨d,ds,s0,es,W,S,q⟩:=z_
  subst es
  obtain ⟨v,N,g⟩:=m.sl i _ W
  have ap:(OI C []).P X E v (M i):=by
   rcases S with rfl | rfl
   ·exact g.1
   ·exact g.1
  obtain ⟨a,dx,us,rfl,L,h2,rf,f⟩:=ap
  cases rf
  obtain ⟨t,l,u,vs,rfl,h3,r3,Y,r4,f'⟩:=o.ok
  refine ⟨_,N,a,C,dx,[],rfl,L,c,n,by decide,?_⟩
  have ad:a ≠ dx:=afj L h2 (by intro z;cases z)
  have T:a ≠ t:=afj L h3 (by intro z;cases z)
  have al:a ≠ l:=afj L Y (by intro z;cases z)
  have p:∀ b w,E b=some w->∃ w',upd E a (.ins C dx [(x,.ref t)]) b=some w':=fun b w U=>by
   by_cases z:b=a
   ·rw [z];exact ⟨_,aaf⟩
   ·rw [aae z];exact ⟨w,U⟩
  have J:=m.change (A:=OAny) (H2:=upd E a (.ins C dx [(x,.ref t)])) (F2:=M i) (os':=reS s0 OAny) i W N (fun b w hb U=>by rw [aae (fun z:b=a=>hb ((f b).mpr (.inl z)))];exact U) p
   (fun b z=>⟨.inl z,by obtain ⟨w,e⟩:=m.fo i b z;exact p b w e⟩) (fun b z=>by obtain ⟨w,e⟩:=m.fo i b z;exact p b w e) (fun b ks e=>by
    by_cases z:b=a
    ·subst z;rw [aaf] at e;cases e
    ·rw [aae z] at e;exact m.ft b ks e) (by
    rcases S with rfl | rfl
    ·exact .inl ⟨rfl,_,rfl⟩
    ·exact .inr ⟨rfl,_,rfl⟩)
  have Z:=J.slot (Fv:=fun b=>M i b\/Fv b) i (some (.ref a)) (some (reS s0 (OGW C x d ds))) (fun b z=>z.elim (m.fg i b) (o.fg b)) (fun b z=>z.elim (m.fr i b) fun z=>by
    cases e:B.R b with
    | none=>rfl
    | some w=>have:=m.rb b w e;rw [o.fb b z] at this;cases this) (fun b z=>z.elim (fun z=>by obtain ⟨w,e⟩:=m.fo i b z;exact p b w e) fun z=>by obtain ⟨w,e⟩:=o.fo b z;exact p b w e) (fun j b hj z O=>by
    rw [aa9 hj] at O
    rcases z with z | z
    ·exact hj (m.fd j i b O z)
    ·exact o.fd j b z O) (fun t' et=>by
    cases et
    have hp:(OGW C x d ds).P X (upd E a (.ins C dx [(x,.ref t)])) (.ref a) (fun b=>M i b\/Fv b):=⟨a,dx,t,l,u,vs,rfl,aaf,by rw [aae ad.symm];exact h2,by rw [aae T.symm];exact h3,r3,by rw [aae al.symm];exact Y,r4,fun b=>or_congr (f b) (f' b)⟩
    refine ⟨_,rfl,?_⟩
    rcases S with rfl | rfl
    ·exact ⟨hp,fun b z=>z.elim (g.2 b) (o.fb b)⟩
    ·exact ⟨hp,fun b z=>z.elim (g.2.1 b) fun z => .inr (o.fb b z),g.2.2⟩)
  rw [ana N,List.set_set] at Z
  exact r.nx _ _ _ _ _ Z g1 q
theorem avo {t:TS} {d:PyData} {ds:List PyData} (i:Nat) (e:env[i]?=some (some (.own (OGW C x d ds)))) (h:EvS B t D' (env.set i (some (.own (OI C [(x,.tuple [d,.list ds])]))))):EvS B t D' env:=fun σ G H F D I r=>by
 obtain ⟨v,q,⟨a,dx,c,l,u,vs,rfl,o,p,n,s,m,w,f⟩,hb⟩:=I.sl i _ e
 have ft:F i c:=(f c).mpr (.inr (.inl rfl))
 have L:F i l:=(f l).mpr (.inr (.inr rfl))
 have fi:∀ b,b=c\/b=l->F i b:=fun b z=>(f b).mpr (.inr z)
 have fo:∀ b,b=a\/b=dx->F i b:=fun b z=>(f b).mpr (.inl z)
 have js:Same G (jn G H fun b=>b=c\/b=l):=abk fun b z=>I.fg i b (fi b z)
 have A:=(I.drop i).freeze (Fv:=fun b=>b=c\/b=l) (fun b z=>hb b (fi b z)) (fun j b z y=>by
  by_cases g:j=i
  ·subst g;exact putF_same.mp y
  ·rw [aa9 g] at y;exact g (I.fd j i b y (fi b z))) (fun b z=>I.fg i b (fi b z))
 have E:∀ b,b=a\/b=dx->¬ (b=c\/b=l):=fun b z y=>by
  rcases z with rfl | rfl <;> rcases y with rfl | rfl
  ·rw [o] at n;cases n
  ·rw [o] at m;cases m
  ·rw [p] at n;cases n
  ·rw [p] at m;cases m
 have J:=A.slot (Fv:=fun b=>b=a\/b=dx) i (some (.ref a)) (some (.own (OI C [(x,.tuple [d,.list ds])]))) (fun b z=>by rw [aio (E b z)];exact I.fg i b (fo b z)) (fun b z=>I.fr i b (fo b z)) (fun b z=>I.fo i b (fo b z)) (fun j b g z y=>by
  rw [aa9 g] at y;exact g (I.fd j i b y (fo b z))) (fun t K=>by
  cases K
  refine ⟨_,rfl,⟨a,dx,_,rfl,o,p,.cons (.tup (by rw [adg (.inl rfl)];exact n) (.cons (s.same js) (.cons (.lst (by rw [adg (.inr rfl)];exact m) (w.same js)) .nil))) .nil,fun b=>Iff.rfl⟩,fun b z=>hb b (fo b z)⟩)
 rw [ana q,List.set_set] at J
 exact h σ _ H _ D J (r.later js)
end
end VL
namespace DictL
open PySem PyProof.Rows
theorem ai1:entryFor table "dict.update.loop" = some Builtin.«dict.update.loop»:=entryFor_of_tree (by kernel_rfl)
theorem ad5:plainId "dict.update.loop" = true:=by decide +kernel
section
variable {prog:Program} {w:World} {A:Around} {R:Result->Shared->Prop} {I:Addr} {fp wr:List Addr} {n:Nat} {P:Nat->Value->Prop} {St:Nat->Heap->Prop} {K:Type} [DecidableEq K] {knd:KeyKind prog w K}
theorem ayl {M:Model} {E:Value->Shared->Prop} {s:Shared} {t:Addr} {k v:Value} {Q:List Value->Shared->Prop} {c:Value->Sem (List Value)} (b:s.heap.IsTuple t #[k,v]) (h:Q [k,v] s):wpAny M A ((Builtin.Dict.pairItems (.ref t)).tryCatch c) Q E s:=by
 obtain ⟨⟨cls,dd,data,sl⟩,j,a,m,hd⟩:=b
 simp only at a hd
 subst a hd
 refine wpAny_tryCatch ?_
 unfold Builtin.Dict.pairItems
 obtain ⟨f,g,d,i,os⟩:=s
 wp_walk
 exact h
theorem as4 (W:Walks prog w A.in1 I fp wr n P St) (S:Addr) (l:S ∉ fp) (p:Nat->K) (N val:Nat->Value) (tup:Nat->Addr) (g:Nat->List (K × Value)) (Y:∀ i,g (i+1)=stored (g i) (p i) (val i)) (hz:∀ i,i<=n->(g i).length<=sizeLine)
  (hP:∀ i v,P i v->v=.ref (tup i)) (d:∀ i,i < n->tup i ≠ S/\tup i ∉ wr) (u:∀ i,i < n->knd.is (p i) (N i)=true) :
  ∀ (k i:Nat) (s:Shared),n - i=k->i<=n->St i s.heap->(∀ j,i<=j->j < n->s.heap.IsTuple (tup j) #[N j,val j])->s.heap.DictOf knd S (g i) ->
   (∀ h' y,h'.DictOf knd S (g n)->(∀ b o,b ≠ S->b ∉ wr->s.heap.get? b=some o->h'.get? b=some o)->R (.ok (.ret .none)) { s with heap:=h',toks:=y }) ->
   codeAny (model prog w) A (.builtin "dict.update.loop" ⟨[.ref S,.ref I,rawInt i,.none],[]⟩) R s:=by
 have q:S ∉ wr:=fun h=>l (W.sub _ h)
 intro k
 induction k with
 | zero =>
  intro i s H hi c F T U
  have X:i=n:=by omega
  subst X
  refine codeAny_builtin ai1 ?_
  rw [aJ0 ad5 _]
  show wpAny _ A.in1 (pyNext (.ref I) >>= _) _ _ s
  refine aI1 (W.done s _ _ c fun h' y hm=>?_)
  dsimp only
  unfold Builtin.Dict.addKeywords
  refine aI1 (aI1 (aI2 (aI2 ?_)))
  refine aI2 ?_
  exact U h' y (by obtain ⟨o,es,D,f,r⟩:=T;exact ⟨o,es,D,hm S o q f,r⟩) fun b o _ hb e=>hm b o hb e
 | succ k ih =>
  intro i s H hi c F T U
  have a:i < n:=by omega
  refine codeAny_builtin ai1 ?_
  rw [aJ0 ad5 _]
  show wpAny _ A.in1 (pyNext (.ref I) >>= _) _ _ s
  refine aI1 (W.item i s _ _ a c fun v h' y M m hm=>?_)
  have ev:=hP i v M
  subst ev
  dsimp only
  have C:h'.IsTuple (tup i) #[N i,val i]:=by
   obtain ⟨o,f,r⟩:=F i (aA6 _) a
   exact ⟨o,hm _ o (d i a).2 f,r⟩
  have G:h'.DictOf knd S (g i):=by obtain ⟨o,es,D,f,r⟩:=T;exact ⟨o,es,D,hm S o q f,r⟩
  refine aI1 (aI6 ?_)
  refine aI1 (ayl C ?_)
  dsimp only
  refine aI6 (wpAny_dictSet_pairs (u i a) G (fun Z E x=>?_) (hz i hi))
  have keep:∀ b o,b ≠ S->b ∉ wr->s.heap.get? b=some o->Z.get? b=some o:=fun b o b1 B e=>by rw [x.2 b b1];exact hm b o B e
  refine aI2 ⟨plainId_quiet ad5 _,ih (i+1) _ (by omega) a ?_ ?_ (by rw [Y];exact E) ?_⟩
  ·exact W.frame _ _ _ m fun b hb o e=>by rw [x.2 b (fun z:b=S=>l (by rw [← z];exact hb))];exact e
  ·intro j j1 O
   obtain ⟨o,f,r⟩:=F j (by omega) O
   exact ⟨o,keep _ o (d j O).1 (d j O).2 f,r⟩
  ·intro h3 Q L J
   exact U h3 Q L fun b o b1 B e=>J b o b1 B (keep b o b1 B e)
end
section
variable {prog:Program} {w:World} {A:Around} {E:Value->Shared->Prop} {s:Shared}
theorem a0u:typeLookup (.type "list") (Str.ofString "keys")=pure none:=by rw [typeLookup_type,builtinLookup_eq_fast];kernel_rfl
theorem aym {a:Addr} {xs:Array Value} {k:Nat} {Q:Option Value->Shared->Prop} (l:s.heap.get? a=some { cls:=.type "list",data:=.seq xs k }) (n:A.handled=none)
  (h:∀ h' j,(∀ b o,s.heap.get? b=some o->h'.get? b=some o)->Q none { s with heap:=h',toks:=j }):wpAny (model prog w) A (getAttr? (.ref a) (Str.ofString "keys")) Q E s:=by
 obtain ⟨m,g,d,j,os⟩:=s
 have i:∀ c,(⟨m,g,d,c,os⟩:Shared).TypeIs (.ref a) "list":=fun _=>⟨_,l,rfl⟩
 have p:=sub_AttributeError
 have v:=PySem.F.slot_list_getattribute.lookup
 have q:=PySem.F.slot_list_getattribute.bind (.ref a)
 have x:=am_list_getattr_none
 unfold getAttr? getAttrBy? getAttrBy
 repeat (any_goals (first | assumption | exact i _ | ((with_reducible show wpAny _ _ (call (Value.builtin "list.__getattribute__") _ _) _ _ _);refine call_meets PySem.F.slot_list_getattribute (i _) am_entry_list_getattribute (PySem.F.args_list_getattribute_2 _ _) (meets_getattribute_miss_list a xs k #[] (Str.ofString "keys") _ a0u (by decide +kernel) (by size_fits)) ⟨l,n,fun h' c e f=>?_⟩) | wp_step))
 obtain ⟨t',u,r⟩:=f.there
 show wpAny _ _ (getattributeRaised _ _ _ _ _ _ _) _ _ _
 unfold getattributeRaised
 repeat (any_goals (first | assumption | wp_step))
 exact h _ _ f.keeps
end
section
variable {prog:Program} {w:World} {A:Around} {E:Value->Shared->Prop} {s:Shared} {K:Type} [DecidableEq K] {knd:KeyKind prog w K}
theorem call_dict_list {l:Addr} {items:Array Value} {nl:Nat} {Q:Value->Shared->Prop} (f:Nat->K) (J val:Nat->Value) (tup:Nat->Addr) (p:Nat->List (K × Value)) (R:p 0=[]) (P:∀ i,p (i+1)=stored (p i) (f i) (val i)) (hz:∀ i,i<=items.size->(p i).length<=sizeLine)
  (hh:A.handled=none) (C:s.heap.get? l=some { cls:=.type "list",data:=.seq items nl }) (S:∀ i v,items[i]?=some v->v=Value.ref (tup i)) (N:∀ j,j < items.size->s.heap.IsTuple (tup j) #[J j,val j]) (z:∀ i,i < items.size->knd.is (f i) (J i)=true)
  (h:∀ (h':Heap) (H:Nat),h'.DictOf knd s.heap.objs.size (p items.size)->(∀ b o,s.heap.get? b=some o->h'.get? b=some o)->Q (.ref s.heap.objs.size) { s with heap:=h',toks:=H }) :
  wpAny (model prog w) A (call (.type "dict") [.ref l]) Q E s:=by
 refine callType_codes (Q₁:=fun obj c=>obj=.ref s.heap.objs.size/\c={ s with heap:=s.heap.push { cls:=.type "dict",data:=.dict #[] } }) F.kt_called_dict (F.kt_typeCall_dict_1 _) F.entry_dict_init (kt_code_dict_new (.ref l) ⟨rfl,rfl⟩) fun obj c u=>?_
 obtain ⟨rfl,rfl⟩:=u
 have O:(s.heap.push { cls:=.type "dict",data:=.dict #[] }).get? s.heap.objs.size=some { cls:=.type "dict",data:=.dict #[] }:=aI5 _ rfl
 refine ⟨⟨_,O,rfl⟩,F.args_dict_init_2 _ _,?_⟩
 have a:(s.heap.push { cls:=.type "dict",data:=.dict #[] }).get? l=some { cls:=.type "list",data:=.seq items nl }:=aI3 _ C
 have T:(Value.type "list" == Value.type "dict")=false:=by decide
 unfold Builtin.«dict.__init__» Builtin.Dict.updateCommon Builtin.Dict.updateFrom
 obtain ⟨m,g,d,H,os⟩:=s
 dsimp only at *
 generalize hPI:pyIter=PI
 generalize hGA:getAttr?=GA
 wp_walk
 subst hGA hPI
 refine aym (s:={ heap:=m.push { cls:=.type "dict",data:=.dict #[] },gens:=g,drawn:=d,toks:=H,os:=os }) a hh fun n L D=>?_
 rw [aE8 (show (none:Option Value).isNone=true from rfl)]
 refine aI1 (wpAny_rule ?_)
 have x:n.IsList l items:=⟨_,D _ _ a,rfl,nl,rfl⟩
 have B:l < m.objs.size:=aI4 C
 have y:=D _ _ O
 have hsz:m.objs.size < n.objs.size:=aI4 y
 refine aI1 (aJ4 (s:={ heap:=n,gens:=g,drawn:=d,toks:=L,os:=os }) x ?_)
 refine aI2 ⟨plainId_quiet ad5 _,?_⟩
 have q:l ≠ n.objs.size:=aB5 (Nat.lt_trans B hsz)
 have I:m.objs.size ∉ [n.objs.size,l]:=by
  simp only [aA8,List.not_mem_nil,or_false,not_or]
  exact ⟨aB5 hsz,Nat.ne_of_gt B⟩
 have tl:∀ j,j < items.size->tup j < m.objs.size:=fun j M=>let ⟨_,e,_⟩:=N j M;aI4 e
 refine as4 (A:=A.in1) (knd:=knd) (Walks.list (A:=A.in1.in1) hh n.objs.size l q items) m.objs.size I f J val tup p P hz S (fun i hi=>⟨aB5 (tl i hi),by simp only [aC1];exact aB5 (Nat.lt_trans (tl i hi) hsz)⟩) z (items.size - 0) 0 _ (by omega) (aF3 _)
  ⟨⟨_,aI5 _ rfl,rfl,rfl⟩,x.push _⟩ (fun j _ M=>?_) ?_ fun h' G U kp=>?_
 ·obtain ⟨o,e,r⟩:=N j M
  exact ⟨o,aI3 _ (D _ _ (aI3 _ e)),r⟩
 ·rw [R]
  exact ⟨_,#[],0,aI3 _ y,⟨rfl,rfl,rfl⟩,rfl,fun e W=>by simp at W,.nil,List.nodup_nil⟩
 ·refine ⟨rfl,h h' G U fun b o e=>kp b o (aB5 (aI4 e)) (by simp only [aC1];exact aB5 (Nat.lt_trans (aI4 e) hsz)) (aI3 _ (D _ _ (aI3 _ e)))⟩
end
end DictL
namespace L2
open PySem PySem.W PyProof.Rows
def dkOf:List (Int × V)->List (Key × V):=fun kvs=>kvs.map fun p=>(.inl p.1,p.2)
def as6:List V->Hp->VK->Prop:=fun xs H Q=>∃ (a:Addr) (ts:List Addr) (kvs:List (Int × V)),xs=[.ref a]/\H a=some (.lst (ts.map V.ref))/\ts.length=kvs.length/\kvs.length < 4000/\(kvs.map (·.1)).Nodup /\
 (∀ (i:Nat) t kv,ts[i]?=some t->kvs[i]?=some kv->H t=some (.tup [.int kv.1,kv.2]))/\∀ p,H p=none->Q (.ref p) (upd H p (.dK (dkOf kvs)))
section
variable {K:Type} [DecidableEq K]
def kfOf (key:Nat->K) (val:Nat->Value):Nat->List (K × Value)
 | 0=>[]
 | i+1=>stored (kfOf key val i) (key i) (val i)
theorem anb (a:Nat->K) (val:Nat->Value):∀ i,(kfOf a val i).length<=i
 | 0=>aA6 _
 | i+1=>aC9 (stored_length_le _ _ _) (Nat.succ_le_succ (anb a val i))
theorem anc {kvs:List (K × Value)} {k:K} (h:∀ p∈kvs,p.1 ≠ k):valueAt kvs k=none:=by
 unfold valueAt
 rw [Option.map_eq_none_iff,List.find?_eq_none]
 intro p a e
 exact h p a (by simpa using e)
theorem apg (a:Nat->K) (val:Nat->Value):∀ n,(∀ i j,i < n->j < n->i ≠ j->a i ≠ a j)->kfOf a val n=(List.range n).map fun i=>(a i,val i)
 | 0,_=>rfl
 | n+1,h=>by
  have b:=apg a val n fun i j hi d=>h i j (by omega) (by omega)
  show stored (kfOf a val n) (a n) (val n)=_
  rw [b,stored_absent,List.range_succ,aD9]
  ·rfl
  ·refine anc fun p c=>?_
   obtain ⟨i,hi,rfl⟩:=aB6.mp c
   have:=aB8.mp hi
   exact h i n (by omega) (by omega) (by omega)
end
theorem as7 {k:Nat->Key} {g:Nat->V} {g':Nat->Value}:∀ {l:List Nat},(∀ i∈l,RelV (g i) (g' i))->KV (l.map fun i=>(k i,g i)) (l.map fun i=>(k i,g' i))
 | [],_ => .nil
 | i :: l,h => .cons ⟨rfl,h i aB7⟩ (as7 fun j a=>h j (aB4 _ a))
section
variable {X:Cx}
theorem aqs (K:X.calm=true):abb X (.type "dict") as6:=by
 intro pins s σ H xs us Q I r h
 obtain ⟨a,b,kvs,rfl,ha,R,P,hn,L,q⟩:=h
 obtain ⟨u,rfl,z⟩:=acm r
 cases z
 obtain ⟨hz,its,nl,E,e⟩:=(show ObjOk X.prog X.w H s.heap a (.lst (b.map V.ref)) from I.hok a _ ha)
 have c:its.length=b.length:=by have:=E.length;rw [aA3] at this;omega
 have A:∀ i:Nat,∃ p:Value × Value,i < b.length->s.heap.IsTuple (b.getD i 0) #[p.1,p.2]/\(∃ t,p.1=.int ((kvs.getD i (0,.non)).1) t)/\RelV (kvs.getD i (0,.non)).2 p.2:=fun i=>by
  by_cases hi:i < b.length
  ·have n:b[i]?=some (b.getD i 0):=by rw [aD2,aA0 hi];rfl
   have e2:kvs[i]?=some (kvs.getD i (0,.non)):=by rw [aD2,aA0 (by omega)];rfl
   obtain ⟨_,J,l,p2⟩:=(show ObjOk X.prog X.w H s.heap _ (.tup _) from I.hok _ _ (L i _ _ n e2))
   cases l with
   | cons r1 l =>
    cases l with
    | cons l r3 =>
     cases r3
     exact ⟨(_,_),fun _=>⟨p2,r1,l⟩⟩
  ·exact ⟨(.none,.none),fun h=>absurd h hi⟩
 obtain ⟨f,hf⟩:=Classical.skolem.mp A
 have B:∀ i j,i < b.length->j < b.length->i ≠ j->(Sum.inl (kvs.getD i (0,.non)).1:Key) ≠ Sum.inl (kvs.getD j (0,.non)).1:=fun i j hi G y e=>by
  have e:=Sum.inl.inj e
  have g:=aG0.mp hn
  rw [aD2,aD2,aA0 (show i < kvs.length by omega),aA0 (show j < kvs.length by omega)] at e
  rcases Nat.lt_or_gt_of_ne y with d | d
  ·exact g i j (by rw [aA3];omega) (by rw [aA3];omega) d (by simpa using e)
  ·exact g j i (by rw [aA3];omega) (by rw [aA3];omega) d (by simpa using e.symm)
 refine DictL.call_dict_list (knd:=aa7 X.prog X.w) (items:=its.toArray) (nl:=nl) (fun i => .inl (kvs.getD i (0,.non)).1) (fun i=>(f i).1) (fun i=>(f i).2) (fun i=>b.getD i 0) (kfOf (fun i => .inl (kvs.getD i (0,.non)).1) fun i=>(f i).2) rfl (fun i=>rfl) (fun i hi=>aC9 (anb _ _ i) (aC9 hi (by rw [sizeLine_eq];simp;omega)))
  (I.ok.hd K) e (fun i v m=>?_) (fun j G=>(hf j (by simpa [c] using G)).1) (fun i hi=>?_) fun h' M F kp=>?_
 ·have m:its[i]?=some v:=by simpa using m
  have hi:=(aA1.mp m).1
  have n:(b.map V.ref)[i]?=some (.ref (b.getD i 0)):=by rw [aA5,aD2,aA0 (by omega)];rfl
  obtain ⟨u,D,z⟩:=E.get n
  rw [m] at D
  cases D
  exact z
 ·obtain ⟨_,⟨t,N⟩,_⟩:=hf i (by simpa [c] using hi)
  rw [N]
  exact ahh _ _ _ _
 ·have x:h'.DictOf (aa7 X.prog X.w) s.heap.objs.size ((List.range b.length).map fun i=>(Sum.inl (kvs.getD i (0,.non)).1,(f i).2)):=by
   rw [show its.toArray.size=b.length by simp [c],apg _ _ _ B] at F
   exact F
  have C:KV (dkOf kvs) ((List.range b.length).map fun i=>((Sum.inl (kvs.getD i (0,.non)).1:Key),(f i).2)):=by
   have O:dkOf kvs=(List.range b.length).map fun i=>((Sum.inl (kvs.getD i (0,.non)).1:Key),(kvs.getD i (0,.non)).2):=by
    refine aF5 fun i=>?_
    unfold dkOf
    rw [aA5,aA5]
    by_cases hi:i < b.length
    ·rw [aD7 hi,aA0 (show i < kvs.length by omega),aH5,aH5,aD2,aA0 (show i < kvs.length by omega)]
     rfl
    ·rw [List.getElem?_eq_none (show kvs.length<=i by omega),List.getElem?_eq_none (show (List.range b.length).length<=i by rw [List.length_range];omega)]
     rfl
   rw [O]
   exact as7 fun i hi=>(hf i (aB8.mp hi)).2.2
  refine ⟨.ref s.heap.objs.size,_,I.laid (t':=M) (o:=.dK (dkOf kvs)) kp (aA6 _) ?_,rfl,q _ (I.hok.fresh (aA6 _))⟩
  refine ⟨by unfold dkOf;rw [aA3,sizeLine_eq];omega,beq_eq_false_iff_ne.mpr (Ne.symm (aB5 I.big)),_,C,x⟩
end
end L2
namespace VL
open PySem PySem.Spec L2
def kvI {α:Type}:Nat->List α->List (Int × α)
 | _,[]=>[]
 | k,x :: xs=>((k:Int),x) :: kvI (k+1) xs
theorem aph {α:Type}:∀ (k:Nat) (xs:List α),(kvI k xs).length=xs.length
 | _,[]=>rfl
 | k,_ :: xs=>by rw [kvI,aE0,aE0,aph]
theorem api {α:Type}:∀ (k:Nat) (xs:List α) (i:Nat),(kvI k xs)[i]?=xs[i]?.map fun x=>(((k+i:Nat):Int),x)
 | _,[],i=>by simp [kvI]
 | k,x :: xs,0=>by simp [kvI]
 | k,x :: xs,i+1=>by
  rw [kvI,aH4,aH4,api (k+1) xs i,show k+1+i=k+(i+1) by omega]
theorem akq {α:Type}:∀ (k:Nat) (xs:List α),((kvI k xs).map (·.1)).Nodup/\∀ p∈kvI k xs,(k:Int)<=p.1
 | _,[]=>⟨List.nodup_nil,fun p a=>by simp [kvI] at a⟩
 | k,x :: xs=>by
  obtain ⟨c,b⟩:=akq (k+1) xs
  refine ⟨?_,fun p a=>?_⟩
  ·rw [kvI,aD0,aH7]
   refine ⟨fun hm=>?_,c⟩
   obtain ⟨p,a,e⟩:=aB6.mp hm
   have:=b p a
   simp only at e
   omega
  ·rw [kvI] at a
   rcases aA8.mp a with rfl | a
   ·exact Int.le_refl _
   ·have:=b p a;omega
theorem apj:∀ (k:Nat) (xs:List V) (i:Nat),valV (dkOf (kvI k xs)) (.inl ((k+i:Nat):Int))=xs[i]?
 | _,[],i=>rfl
 | k,x :: xs,0=>by
  rw [kvI]
  exact afl (p:=(Sum.inl (k:Int),x)) rfl
 | k,x :: xs,i+1=>by
  have e:¬ ((Sum.inl (k:Int):Key)=Sum.inl ((k+(i+1):Nat):Int)):=fun e=>by have:=Sum.inl.inj e;omega
  rw [kvI]
  show valV ((Sum.inl (k:Int),x) :: dkOf (kvI (k+1) xs)) _=_
  rw [afm (p:=(Sum.inl (k:Int),x)) e,aH4,← apj (k+1) xs i,show k+1+i=k+(i+1) by omega]
@[reducible] def kvD (ds:List PyData):List (Key × PyData):=(kvI 0 ds).map fun p=>(.inl p.1,p.2)
theorem ane:∀ (k:Nat) (xs:List PyData) (i:Nat),valD ((kvI k xs).map fun p=>((.inl p.1:Key),p.2)) (.inl ((k+i:Nat):Int))=xs[i]?
 | _,[],i=>rfl
 | k,x :: xs,0=>by simp [kvI,valD]
 | k,x :: xs,i+1=>by
  have e:¬ ((k:Int)=((k+(i+1):Nat):Int)):=fun e=>by omega
  rw [kvI,aH4,← ane (k+1) xs i,show k+1+i=k+(i+1) by omega]
  simp only [valD,aD0,List.find?_cons]
  rw [aD5 (fun z:(Sum.inl (k:Int):Key)=Sum.inl ((k+(i+1):Nat):Int)=>e (Sum.inl.inj z))]
theorem ayn {xs:List PyData} {i:Int} {d:PyData} (a:0<=i) (h:xs[i.toNat]?=some d):valD (kvD xs) (.inl i)=some d:=by
 have:=ane 0 xs i.toNat
 rw [show ((0+i.toNat:Nat):Int)=i by omega] at this
 exact this.trans h
theorem a0v {xs:List PyData} (h:xs ≠ []):kvD xs ≠ []:=by
 cases xs with
 | nil=>exact absurd rfl h
 | cons x xs=>exact List.cons_ne_nil _ _
def ODL (dss:List (List PyData)):Own where
 P:=fun G H v F=>∃ (a:Addr) (as:List Addr),v=.ref a/\H a=some (.dK (dkOf (kvI 0 (as.map V.ref))))/\as.Nodup/\a ∉ as/\as.length=dss.length/\(∀ (i:Nat) b ds,as[i]?=some b->dss[i]?=some ds->∃ vs,H b=some (.lst vs)/\Rps G vs ds)/\∀ b,F b ↔ b=a\/b∈as
 mono:=fun ⟨a,as,e,h,n1,n2,l,r,f⟩ g hh=>⟨a,as,e,hh a _ ((f a).mpr (.inl rfl)) h,n1,n2,l,fun i b ds hb hd=>by
  obtain ⟨vs,h1,h2⟩:=r i b ds hb hd
  exact ⟨vs,hh b _ ((f b).mpr (.inr (aA2 hb))) h1,h2.same g⟩,f⟩
 dom:=fun ⟨a,as,e,h,n1,n2,l,r,f⟩ b z=>by
  rcases (f b).mp z with rfl | z
  ·exact ⟨_,h⟩
  ·obtain ⟨i,hi,e⟩:=aG9.mp z
   have hb:as[i]?=some b:=by rw [aA0 hi,e]
   obtain ⟨vs,h1,_⟩:=r i b _ hb (aA0 (by rw [← l];exact hi))
   exact ⟨_,h1⟩
theorem as8 {G:Hp}:∀ (k:Nat) {vs:List V} {ds:List PyData},vs.length=ds.length->(∀ (i:Nat) v d,vs[i]?=some v->ds[i]?=some d->Rp G v d)->RpK G (dkOf (kvI k vs)) ((kvI k ds).map fun p=>(.inl p.1,p.2))
 | _,[],[],_,_ => .nil
 | _,[],_ :: _,h,_=>by simp at h
 | _,_ :: _,[],h,_=>by simp at h
 | k,v :: vs,d :: ds,h,q => .cons (q 0 v d rfl rfl) (as8 (k+1) (by simpa using h) fun i v d b a=>q (i+1) v d (by simpa using b) (by simpa using a))
theorem ayo {c:List (List PyData)}:Frz (ODL c) (aba (kvD (c.map .list))):=fun G H v F ⟨a,as,e,h,q,p,l,r,f⟩ n g=>by
 subst e
 refine .dk (by rw [adg ((f a).mpr (.inl rfl))];exact h) (as8 0 (by simp [l]) fun i u d j hd=>?_) rfl
 rw [aA5] at j hd
 cases hb:as[i]? with
 | none=>rw [hb] at j;cases j
 | some b =>
  cases hds:c[i]? with
  | none=>rw [hds] at hd;cases hd
  | some ds =>
   rw [hb] at j;rw [hds] at hd
   cases j;cases hd
   obtain ⟨vs,m,o⟩:=r i b ds hb hds
   exact .lst (by rw [adg ((f b).mpr (.inr (aA2 hb)))];exact m) (o.same (abk n))
section
variable {B:Bs} {env:En} {QO:Sl->En->Prop} {Q':PyData->En->Prop} {D':VEnds} {K:Frag} {i:Nat}
theorem as9 {src:List (Option Nat)} {wi:TI} (h:EvI B wi env fun ds e1=>∃ n:Nat,ds=rngD 0 n/\n<=3000/\QO (.own (ODL (List.replicate n []))) e1) :
  EvO B (tCB as6 (aa3 (tLC (none :: src) wi (abl 0) tYes (tTup (aa3 (tVar 0) (aa3 (tLst tNil) tNil)))) tNil)) env QO:=fun σ G H F Q I k=>by
 refine h σ G H F _ I fun J G1 T F1 ds e1 U g1 it ⟨N,ed,a9,q⟩ d r=>?_
 subst ed
 have hL:(rngD 0 N).length=N:=acl
 let W:Nat->List V->St->Hp->Prop:=fun n ys σI H=>∃ (K as:List Addr) (s:Hp),ys=K.map V.ref/\K.length=n/\as.length=n/\as.Nodup/\d ∉ as/\0 < σI.length /\
  (∀ (i:Nat) t b,K[i]?=some t->as[i]?=some b->H t=some (.tup [.int (i:Int),.ref b]))/\(∀ t∈K,T t=none/\t ≠ d/\t ∉ as) /\
  (∀ b∈as,T b=none/\s b=none/\H b=some (.lst []))/\H d=some (.lst ys)/\s d=none/\Same G1 s/\Same s H/\Same T H/\(∀ a o,s a=some o->G1 a=some o\/T a=none)/\FT s H
 refine ⟨fun n m ys σI H=>m=N - n/\n<=N/\W n ys σI H,⟨N,by simp,aF3 _,[],[],G1,rfl,rfl,rfl,List.nodup_nil,by simp,by simp [pick],fun i t b h=>by simp at h,fun t C=>by simp at C,fun b hb=>by simp at hb,aaf,U.no_g r,Same.refl _,U.gh.trans (abn r),abn r,fun a o e => .inl e,fun a ks e=>?_⟩,?_⟩
 ·by_cases z:a=d
  ·subst z;rw [aaf] at e;cases e
  ·rw [aae z] at e;exact U.ft a ks e
 rintro n m ys σI H2 ⟨rfl,hn,K,as,s,rfl,hl,L,nd,na,a0,D,Y,all,l,ga,X,M,A,Z,O⟩
 refine ⟨l,?_⟩
 by_cases hlt:n < N
 ·refine .inr ⟨it.go n s H2 X M (by omega),fun a1 a2 H'=>W (n+1) a1 a2 H',fun a1 a2 H' hw=>⟨N - (n+1),by omega,rfl,hlt,hw⟩,fun x H3 y=>?_⟩
  obtain ⟨G3,o⟩:=it.yld n s H2 x H3 (.int (0+(n:Int))) X M O (by unfold rngD;rw [aA5,aD7 hlt];rfl) y
  have rx:=o.ok.1
  cases rx
  refine ajb (al5 (acj (azl (ajc (ary (v:=.int (0+(n:Int))) (by rw [aD1,aE8 rfl,aE8 a0]) (ajc (arz (agj ⟨by decide,fun p g=>agj ⟨show (2:Nat)<=sizeLine by rw [sizeLine_eq];decide,fun t C=>?_⟩⟩))))))))
  have n2:H2 p=none:=abd o.hh g
  have n1:T p=none:=abd A n2
  have tp:t ≠ p:=fun e=>by rw [e,aaf] at C;cases C
  rw [aae tp] at C
  have t2:H2 t=none:=abd o.hh C
  have t1:T t=none:=abd A t2
  have pa:p ≠ d:=(aar (o.hh _ _ l) g).symm
  have ta:t ≠ d:=(aar (o.hh _ _ l) C).symm
  have a3:p ∉ as:=fun z=>by
   have:=o.hh _ _ (all p z).2.2
   rw [this] at g;cases g
  have a7:t ∉ as:=fun z=>by
   have:=o.hh _ _ (all t z).2.2
   rw [this] at C;cases C
  have old:∀ a u,H2 a=some u->a ≠ d->upd (upd (upd H3 p (.lst [])) t (.tup [.int (0+(n:Int)),.ref p])) d (.lst (K.map V.ref ++ [.ref t])) a=some u:=fun a u e aa=>by
   have e3:=o.hh _ _ e
   rw [aae aa,aae (aar e3 C),aae (aar e3 g)]
   exact e3
  have a4:∀ c∈K,∃ u,H2 c=some u:=fun c f=>by
   obtain ⟨i,hi,e⟩:=aG9.mp f
   have P:K[i]?=some c:=by rw [aA0 hi,e]
   exact ⟨_,D i c _ P (aA0 (by omega))⟩
  refine ⟨by rw [aae ta.symm,aae pa.symm];exact o.hh _ _ l,by rw [aA3,hl];exact big (by omega),K ++ [t],as ++ [p],G3,by simp,by simp [hl],by simp [L],?_,?_,by rw [List.length_set];exact a0,fun i c b f hb=>?_,fun c f=>?_,fun b hb=>?_,aaf,?_,X.trans o.gg,fun a u e=>?_,fun a u e=>?_,fun a u e=>?_,fun a ks e=>?_⟩
  ·rw [aE2]
   exact ⟨nd,by simp,fun x hx y hy=>by simp at hy;subst hy;intro e;subst e;exact a3 hx⟩
  ·intro z
   rcases aA7.mp z with z | z
   ·exact na z
   ·exact pa (aC1.mp z).symm
  ·by_cases hi:i < n
   ·rw [aC2 (by omega)] at f hb
    have R:=D i c b f hb
    exact old c _ R (Y c (aA2 f)).2.1
   ·have a5:i=n:=by
     have:=(aA1.mp f).1
     simp at this
     omega
    subst a5
    rw [aC7 (by omega),hl,Nat.sub_self] at f
    rw [aC7 (by omega),L,Nat.sub_self] at hb
    cases f
    cases hb
    rw [aae ta,aaf,aH8]
  ·rcases aA7.mp f with f | f
   ·obtain ⟨P,R,h3⟩:=Y c f
    refine ⟨P,R,fun z=>?_⟩
    rcases aA7.mp z with z | z
    ·exact h3 z
    ·have e:=aC1.mp z
     subst e
     obtain ⟨u,e⟩:=a4 c f
     rw [e] at n2;cases n2
   ·have e:=aC1.mp f
    subst e
    refine ⟨t1,ta,fun z=>?_⟩
    rcases aA7.mp z with z | z
    ·exact a7 z
    ·exact tp (aC1.mp z)
  ·have gb:∀ b,s b=none->(∃ u,H2 b=some u)->G3 b=none:=fun b P z_=>by
    obtain ⟨u,R⟩:=z_
    cases e:G3 b with
    | none=>rfl
    | some w =>
     rcases o.gn b w e with e | e
     ·rw [P] at e;cases e
     ·rw [R] at e;cases e
   rcases aA7.mp hb with hb | hb
   ·obtain ⟨P,R,h3⟩:=all b hb
    exact ⟨P,gb b R ⟨_,h3⟩,old b _ h3 (fun z:b=d=>na (by rw [← z];exact hb))⟩
   ·have e:b=p:=by simpa using hb
    subst e
    exact ⟨n1,abd o.gh g,by rw [aae pa,aae tp.symm,aaf]⟩
  ·cases e:G3 d with
   | none=>rfl
   | some w =>
    rcases o.gn d w e with e | e
    ·rw [ga] at e;cases e
    ·rw [l] at e;cases e
  ·have ap:a ≠ p:=aar (o.gh a u e) g
   have a6:a ≠ t:=aar (o.gh a u e) C
   have aa:a ≠ d:=by
    rintro rfl
    rcases o.gn _ u e with e | e
    ·rw [ga] at e;cases e
    ·rw [l] at e;cases e
   rw [aae aa,aae a6,aae ap];exact o.gh a u e
  ·exact old a u (A a u e) (aar e r)
  ·rcases o.gn a u e with e | e
   ·exact Z a u e
   ·exact .inr (abd A e)
  ·by_cases z:a=d
   ·subst z;rw [aaf] at e;cases e
   ·rw [aae z] at e
    by_cases y:a=t
    ·subst y
     rw [aaf] at e
     exfalso
     have e:=HO.tup.inj (aC5 e)
     match ks,e with
     | [],e=>simp at e
     | [_],e=>simp at e
     | [_,.inl _],e=>simp [kV] at e
     | [_,.inr _],e=>simp [kV] at e
     | _ :: _ :: _ :: _,e=>simp at e
    ·rw [aae y] at e
     by_cases y:a=p
     ·subst y;rw [aaf] at e;cases e
     ·rw [aae y] at e;exact o.ft O a ks e
 ·have e:n=N:=by omega
  subst e
  refine .inl ⟨it.stop _ s H2 X M hL.symm,?_⟩
  have S:=U.grow X M A Z O
  have ke:(kvI 0 (as.map V.ref)).length=n:=by rw [aph,aA3];exact L
  refine agj ⟨d,K,kvI 0 (as.map V.ref),rfl,l,by omega,by omega,(akq 0 _).1,fun i c kv f E=>?_,fun p g=>?_⟩
  ·rw [api,aA5] at E
   cases hb:as[i]? with
   | none=>rw [hb] at E;cases E
   | some b =>
    rw [hb] at E
    cases E
    rw [Nat.zero_add]
    exact D i c b f hb
  ·have J:=S.aside (p:=p) (o:=.dK (dkOf (kvI 0 (as.map V.ref)))) (fun _ z=>nomatch z) (S.no_g g) (fun j z=>S.no_f g j z) (S.no_b g)
   have pn:p ∉ as:=fun z=>by have:=(all p z).2.2;rw [this] at g;cases g
   refine k (.ref p) s _ F1 (fun b=>b=p\/b∈as) (.own (ODL (List.replicate n []))) e1 J (g1.trans X) ⟨⟨p,as,rfl,aaf,nd,pn,by simp [L],fun i b a8 hb hd=>?_,fun b=>Iff.rfl⟩,fun b z=>?_,fun b z=>?_,fun b z=>?_,fun j b z y=>?_⟩ q
   ·rw [aH0] at hd
    split at hd
    ·cases hd
     have hm:=aA2 hb
     exact ⟨[],by rw [aae (fun z:b=p=>pn (z ▸ hm))];exact (all b hm).2.2,.nil⟩
    ·cases hd
   ·rcases z with rfl | z
    ·exact S.no_b g
    ·exact U.no_b (all b z).1
   ·rcases z with rfl | z
    ·exact S.no_g g
    ·exact (all b z).2.1
   ·rcases z with rfl | z
    ·exact ⟨_,aaf⟩
    ·exact ⟨_,by rw [aae (fun e:b=p=>pn (e ▸ z))];exact (all b z).2.2⟩
   ·rcases z with rfl | z
    ·exact S.no_f g j y
    ·exact U.no_f (all b z).1 j y
theorem ai2 {d:List (List PyData)} {l j n:Nat} {k:Int} {y:PyData} {ds:List PyData} (e:env[i]?=some (some (.own (ODL d)))) (P:env[l]?=some (some (.st (.int k)))) (ey:env[j]?=some (some (.st y)))
  (Z:(n:Int)=k) (hd:d[n]?=some ds) (hl:ds.length<=999999) (q:Q' .none (env.set i (some (.own (ODL (d.set n (ds ++ [y]))))))):Ev B (tBM K "list" ad7 (ak8 (tVar i) (tVar l)) (aa3 (tVar j) tNil)) env Q':=fun σ G H F Q I kk=>by
 obtain ⟨v,L,⟨a,as,rfl,h,O,N,ln,r,f⟩,_⟩:=I.sl i _ e
 obtain ⟨vk,x,R,_⟩:=I.sl l _ P
 obtain ⟨vy,C,W,_⟩:=I.sl j _ ey
 cases R
 have hn:n < d.length:=(aA1.mp hd).1
 have hb:as[n]?=some (as[n]'(by omega)):=aA0 _
 generalize as[n]'(by omega)=b at hb
 have s:b∈as:=aA2 hb
 obtain ⟨vs,E,M⟩:=r n b ds hb hd
 have D:valV (dkOf (kvI 0 (as.map V.ref))) (.inl k)=some (.ref b):=by
  have:=apj 0 (as.map V.ref) n
  rw [Nat.zero_add,Z,aA5,hb] at this
  exact this
 refine ⟨_,L,_,x,a,.ref b,rfl,.inl ⟨_,.inl k,.inl h,rfl,D.symm⟩,.inl ⟨rfl,_,SqL.of E⟩,_,C,aey E (by rw [M.length];exact big (by omega)) ?_⟩
 have w:a ≠ b:=fun z=>N (z ▸ s)
 have J:=I.change (A:=ODL (d.set n (ds ++ [y]))) (H2:=upd H b (.lst (vs ++ [vy]))) (F2:=F i) (os':=.own (ODL (d.set n (ds ++ [y])))) i e L (fun c o p u=>by rw [aae (fun z:c=b=>p ((f c).mpr (.inr (by rw [z];exact s))))];exact u)
  (fun c o u=>by
   by_cases z:c=b
   ·rw [z];exact ⟨_,aaf⟩
   ·rw [aae z];exact ⟨o,u⟩)
  (fun c z=>⟨.inl z,by
   by_cases y:c=b
   ·rw [y];exact ⟨_,aaf⟩
   ·rw [aae y];exact I.fo i c z⟩) ?_ (fun c ks e=>by
   by_cases z:c=b
   ·subst z;rw [aaf] at e;cases e
   ·rw [aae z] at e;exact I.ft c ks e) (.inl ⟨rfl,_,rfl⟩)
 ·exact kk _ G _ _ _ _ J (Same.refl _) .non q
 ·refine ⟨a,as,rfl,by rw [aae w];exact h,O,N,by simp [ln],fun m c es p g=>?_,f⟩
  by_cases hm:m=n
  ·subst hm
   rw [hb] at p;cases p
   rw [aD1,aE8 rfl,aE8 hn] at g
   cases g
   exact ⟨_,aaf,M.append (.cons W .nil)⟩
  ·rw [aD1,aE9 (fun z=>hm z.symm)] at g
   obtain ⟨us,h3,S⟩:=r m c es p g
   refine ⟨us,?_,S⟩
   rw [aae]
   ·exact h3
   ·rintro rfl
    have i1:=(aA1.mp hb)
    have Y:=(aA1.mp p)
    obtain ⟨U,X⟩:=i1
    obtain ⟨T,e2⟩:=Y
    exact hm (nodup_ix O T U (e2.trans X.symm))
end
end VL
namespace L2
open PySem PySem.W PyProof.Rows
section
variable {X:Cx}
end
end L2
namespace VL
open PySem PySem.Spec L2
section
variable {B:Bs} {env:En} {QO:Sl->En->Prop} {K:Frag} {i:Nat}
end
section
variable {B:Bs} {env:En} {QO:Sl->En->Prop} {Q':PyData->En->Prop} {K:Frag} {i j:Nat} {ta te:TE}
end
abbrev VJ:=List Sl->(En->Sl->Prop)->Prop
def ioO:Option Sl->Option Sl
 | some (.io A)=>some (.io A)
 | _=>none
def cutE:Nat->En->En
 | 0,_=>[]
 | n+1,[]=>none :: cutE n []
 | n+1,x :: xs=>ioO x :: cutE n xs
theorem ae8:∀ (n:Nat) (e:En),(cutE n e).length=n
 | 0,_=>rfl
 | n+1,[]=>by unfold cutE;rw [aE0,ae8 n []]
 | n+1,_ :: xs=>by unfold cutE;rw [aE0,ae8 n xs]
theorem ah0:∀ {n:Nat} {e:En} {i:Nat} {s:Sl},(cutE n e)[i]?=some (some s)->∃ A,s=.io A/\e[i]?=some (some (.io A))
 | 0,_,_,_,h=>by simp [cutE] at h
 | n+1,[],0,_,h=>by simp [cutE] at h
 | n+1,[],i+1,_,h=>by
  unfold cutE at h
  rw [aH4] at h
  obtain ⟨A,_,a⟩:=ah0 h
  simp at a
 | n+1,x :: xs,0,s,h=>by
  unfold cutE at h
  rw [List.getElem?_cons_zero] at h
  have h:=aC5 h
  match x,h with
  | some (.io A),h=>cases h;exact ⟨A,rfl,rfl⟩
  | some (.st _),h=>cases h
  | some (.own _),h=>cases h
  | some (.scr _),h=>cases h
  | none,h=>cases h
 | n+1,x :: xs,i+1,s,h=>by
  unfold cutE at h
  rw [aH4] at h
  rw [aH4]
  exact ah0 h
def spJ (K:Frag) (f:VJ):Sp:=fun vs H Q _=>∃ (B:Bs) (ss:List Sl) (Q':En->Sl->Prop),B.K=K/\B.S=vs.map some/\VI B B.G H (vs.map some) (ss.map some) B.F/\f ss Q' /\
 ∀ e s,Q' e s->∀ v G' H' F' Fv,VI B G' H' (vs.map some) e F'->RsX B G' H' v Fv s F'->Q v H'
theorem a0w {c:Prop} [Decidable c] {s:Sl} (e:(if c then some (none:Option Sl) else none)=some (some s)):False:=by
 split at e <;> cases e
theorem VI.pad {B:Bs} {G H:Hp} {σ:St} {env:En} {F:Nat->Addr->Prop} (I:VI B G H σ env F) (n:Nat):VI B G H (σ ++ List.replicate n none) (env ++ List.replicate n none) F :=
 ⟨I.gh,I.g0,I.gn,I.rs,I.rb,I.bh,I.fg,I.fr,I.fd,I.fo,fun i s e=>by
  by_cases h:i < env.length
  ·rw [aC2 h] at e
   obtain ⟨v,b,a⟩:=I.sl i s e
   exact ⟨v,by rw [aC2 (by rw [I.ln];exact h)];exact b,a⟩
  ·rw [aC7 (by omega),aH0] at e
   exact (a0w e).elim,by rw [aB0,aB0,I.ln];simp,I.ft⟩
theorem VI.cut {B:Bs} {G H:Hp} {σ:St} {env:En} {F:Nat->Addr->Prop} (I:VI B G H σ env F):VI B G H B.S (cutE B.S.length env) (fun i a=>(∃ A,(cutE B.S.length env)[i]?=some (some (.io A)))/\F i a) :=
 ⟨I.gh,I.g0,I.gn,I.rs,I.rb,I.bh,fun i a z=>I.fg i a z.2,fun i a z=>I.fr i a z.2,fun i j a y z=>I.fd i j a y.2 z.2,fun i a z=>I.fo i a z.2,fun i s e=>by
  obtain ⟨A,rfl,h⟩:=ah0 e
  obtain ⟨v,f,c,d,b⟩:=I.sl i _ h
  have:(fun a=>(∃ A,(cutE B.S.length env)[i]?=some (some (.io A)))/\F i a)=F i:=by
   funext a
   exact propext ⟨fun z=>z.2,fun z=>⟨⟨A,e⟩,z⟩⟩
  exact ⟨v,b,by rw [this];exact c,fun a z=>d a z.2,b⟩,(ae8 _ _).symm,I.ft⟩
theorem RsX.cut {B:Bs} {G H:Hp} {v:V} {Fv:Addr->Prop} {s:Sl} {F F2:Nat->Addr->Prop} (r:RsX B G H v Fv s F) (h:∀ i a,F2 i a->F i a):RsX B G H v Fv s F2:=⟨r.ok,r.fb,r.fg,r.fo,fun j a z y=>r.fd j a z (h j a y)⟩
theorem awi {K:Frag} {f:VJ} {l:TS} {N:List Str} {vs:List V} {H:Hp} {Q:VK} {E:XK} (h:spJ K f vs H Q E)
  (hb:∀ ss Q',f ss Q'->∀ B,B.K=K->EvS B l { nx:=fun e=>Q' (cutE ss.length e) (.st .none),rt:=fun s e=>Q' (cutE ss.length e) s } (ss.map some ++ List.replicate (N.length - ss.length) none)):l { nx:=fun _ H'=>Q .non H',rt:=Q } (L2.start N vs) H:=by
 obtain ⟨B,ss,Q',m,d,I,hf,n⟩:=h
 have j:vs.length=ss.length:=by have:=I.ln;simpa using this
 have c:B.S.length=ss.length:=by rw [d,aA3,j]
 have fin:∀ {σ G' H' F env v Fv s},VI B G' H' σ env F->RsX B G' H' v Fv s F->Q' (cutE ss.length env) s->Q v H':=fun {σ G' H' F env v Fv s} b r q=>by
  have J:=b.cut
  have X:=r.cut (F2:=fun i a=>(∃ A,(cutE B.S.length env)[i]?=some (some (.io A)))/\F i a) fun i a z=>z.2
  rw [c] at J X
  rw [d] at J
  exact n _ s q v G' H' _ Fv J X
 refine hb ss Q' hf B m (L2.start N vs) B.G H B.F _ ?_ ⟨fun σ G' H' F env b g q=>fin b (aen .non) q,fun σ G' H' F env v Fv s b g r q=>fin b r q,fun _ _ _ _ _ _ _ q=>q,fun _ _ _ _ _ _ _ q=>q⟩
 unfold L2.start
 rw [j]
 exact I.pad _
theorem lenJ {K:Frag} {f:VJ} {n:Nat} {vs:List V} {H:Hp} {Q:VK} {E:XK} (h:spJ K f vs H Q E) (hf:∀ ss Q',f ss Q'->ss.length=n):vs.length=n:=by
 obtain ⟨B,ss,Q',_,_,I,q,_⟩:=h
 have:=I.ln
 rw [aA3,aA3] at this
 rw [this];exact hf ss Q' q
inductive AJ where
 | pl (d:PyData)
 | rf (i:Nat)
def ab7:List AJ->List Nat
 | []=>[]
 | .pl _ :: js=>ab7 js
 | .rf i :: js=>i :: ab7 js
def ArgJ (σ:St) (G:Hp):V->AJ->Prop
 | v,.pl d=>Rp G v d
 | v,.rf i => σ[i]?=some (some v)
inductive ArgsJ (σ:St) (G:Hp):List V->List AJ->Prop
 | nil:ArgsJ σ G [] []
 | cons {v:V} {j:AJ} {vs:List V} {js:List AJ}:ArgJ σ G v j->ArgsJ σ G vs js->ArgsJ σ G (v :: vs) (j :: js)
def EvJ (B:Bs) (ta:TA) (env:En) (Q':List AJ->En->Prop):Prop:=∀ (σ:St) (G H:Hp) (F:Nat->Addr->Prop) (Q:List V->Hp->Prop),VI B G H σ env F ->
 (∀ vs G' H' F' js env',VI B G' H' σ env' F'->Same G G'->ArgsJ σ G' vs js->Q' js env'->Q vs H')->ta σ H Q
inductive SlJ (e:En):List AJ->List Sl->Prop
 | nil:SlJ e [] []
 | pl {d:PyData} {js:List AJ} {ss:List Sl}:SlJ e js ss->SlJ e (.pl d :: js) (.st d :: ss)
 | rf {i:Nat} {A:Own} {js:List AJ} {ss:List Sl}:Has e i A->SlJ e js ss->SlJ e (.rf i :: js) (.io A :: ss)
inductive PutJ:En->List AJ->En->En->Prop
 | nil {e:En}:PutJ e [] [] e
 | pl {e r e2:En} {d:PyData} {x:Option Sl} {js:List AJ}:PutJ e js r e2->PutJ e (.pl d :: js) (x :: r) e2
 | rf {e r e2:En} {i:Nat} {s0:Sl} {A A':Own} {js:List AJ}:e[i]?=some (some s0)->(s0=.own A\/s0=.io A)->PutJ (e.set i (some (reS s0 A'))) js r e2->PutJ e (.rf i :: js) (some (.io A') :: r) e2
theorem ado:∀ {js:List AJ} {j i:Nat},js[j]?=some (.rf i)->i∈ab7 js
 | [],_,_,h=>by simp at h
 | .pl _ :: js,0,_,h=>by simp at h
 | .rf k :: js,0,_,h=>by simp at h;simp [ab7,h]
 | .pl _ :: js,j+1,_,h=>by rw [aH4] at h;exact ado (js:=js) h
 | .rf k :: js,j+1,_,h=>by rw [aH4] at h;exact aB4 _ (ado h)
theorem ah1:∀ {js:List AJ} {i:Nat},i∈ab7 js->∃ j:Nat,js[j]?=some (AJ.rf i)
 | [],_,h=>by simp [ab7] at h
 | .pl _ :: js,i,h=>by
  obtain ⟨j,a⟩:=ah1 (js:=js) h
  exact ⟨j+1,by rw [aH4];exact a⟩
 | .rf k :: js,i,h=>by
  rcases aA8.mp h with rfl | h
  ·exact ⟨0,rfl⟩
  ·obtain ⟨j,a⟩:=ah1 (js:=js) h
   exact ⟨j+1,by rw [aH4];exact a⟩
theorem ags:∀ {js:List AJ} {j a i:Nat},(ab7 js).Nodup->js[j]?=some (.rf i)->js[a]?=some (.rf i)->j=a
 | [],_,_,_,_,h,_=>by simp at h
 | x :: js,0,0,_,_,_,_=>rfl
 | .pl _ :: js,0,_+1,_,_,h,_=>by simp at h
 | .pl _ :: js,_+1,0,_,_,_,h=>by simp at h
 | .rf k :: js,0,a+1,i,n,h,h'=>by
  simp at h;subst h
  rw [aH4] at h'
  exact absurd (ado h') (aH7.mp n).1
 | .rf k :: js,j+1,0,i,n,h,h'=>by
  simp at h';subst h'
  rw [aH4] at h
  exact absurd (ado h) (aH7.mp n).1
 | .pl _ :: js,j+1,a+1,i,n,h,h'=>by
  rw [aH4] at h h'
  rw [ags (js:=js) n h h']
 | .rf k :: js,j+1,a+1,i,n,h,h'=>by
  rw [aH4] at h h'
  rw [ags (js:=js) (aH7.mp n).2 h h']
theorem PutJ.io {e r e2:En} {js:List AJ} (h:PutJ e js r e2):∀ {i j:Nat},js[j]?=some (.rf i)->∃ A',r[j]?=some (some (.io A')):=by
 induction h with
 | nil=>intro i j h;simp at h
 | pl _ ih =>
  intro i j h
  cases j with
  | zero=>simp at h
  | succ j=>rw [aH4] at h ⊢;exact ih h
 | rf _ _ _ ih =>
  intro i j h
  cases j with
  | zero=>exact ⟨_,rfl⟩
  | succ j=>rw [aH4] at h ⊢;exact ih h
theorem PutJ.length {e r e2:En} {js:List AJ} (h:PutJ e js r e2):e2.length=e.length:=by
 induction h with
 | nil=>rfl
 | pl _ ih=>exact ih
 | rf _ _ _ ih=>rw [ih,List.length_set]
theorem PutJ.at {e r e2:En} {js:List AJ} (h:PutJ e js r e2):(ab7 js).Nodup->∀ {i:Nat} {s:Sl},e2[i]?=some (some s)->(i ∉ ab7 js/\e[i]?=some (some s))\/∃ (j:Nat) (A A':Own),js[j]?=some (AJ.rf i)/\r[j]?=some (some (.io A'))/\((e[i]?=some (some (.own A))/\s=.own A')\/(e[i]?=some (some (.io A))/\s=.io A')):=by
 induction h with
 | nil=>intro _ i s h;exact .inl ⟨by simp [ab7],h⟩
 | pl _ ih =>
  intro n i s h
  rcases ih n h with z | ⟨j,A,A',c,f,d⟩
  ·exact .inl z
  ·exact .inr ⟨j+1,A,A',by rw [aH4];exact c,by rw [aH4];exact f,d⟩
 | @rf e r e2 k s0 A A' js h0 hs _ ih =>
  intro n i s h
  have l:=aH7.mp n
  rcases ih l.2 h with ⟨m,b⟩ | ⟨j,o,g,c,f,d⟩
  ·rw [aD1] at b
   by_cases a:k=i
   ·subst a
    rw [aE8 rfl,aE8 (aA1.mp h0).1] at b
    cases b
    refine .inr ⟨0,A,A',rfl,rfl,?_⟩
    rcases hs with rfl | rfl
    ·exact .inl ⟨h0,rfl⟩
    ·exact .inr ⟨h0,rfl⟩
   ·rw [aE9 a] at b
    exact .inl ⟨fun z=>by
     rcases aA8.mp z with y | y
     ·exact a y.symm
     ·exact m y,b⟩
  ·have a:k ≠ i:=fun z=>l.1 (z ▸ ado c)
   rw [aD1,aE9 a] at d
   exact .inr ⟨j+1,o,g,by rw [aH4];exact c,by rw [aH4];exact f,d⟩
theorem SlJ.length {e:En} {js:List AJ} {ss:List Sl} (h:SlJ e js ss):ss.length=js.length:=by
 induction h with
 | nil=>rfl
 | pl _ ih=>simp [ih]
 | rf _ _ ih=>simp [ih]
theorem ArgsJ.length {σ:St} {G:Hp} {vs:List V} {js:List AJ} (h:ArgsJ σ G vs js):vs.length=js.length:=by
 induction h with
 | nil=>rfl
 | cons _ _ ih=>simp [ih]
theorem ArgsJ.get {σ:St} {G:Hp} {vs:List V} {js:List AJ} (h:ArgsJ σ G vs js):∀ {j:Nat} {x:AJ},js[j]?=some x->∃ v,vs[j]?=some v/\ArgJ σ G v x:=by
 induction h with
 | nil=>intro j x h;simp at h
 | cons q _ ih =>
  intro j x h
  cases j with
  | zero=>simp at h;subst h;exact ⟨_,rfl,q⟩
  | succ j=>rw [aH4] at h ⊢;exact ih h
theorem SlJ.get {e:En} {js:List AJ} {ss:List Sl} (h:SlJ e js ss):∀ {j:Nat} {s:Sl},ss[j]?=some s->(∃ d,js[j]?=some (AJ.pl d)/\s=.st d)\/∃ i A,js[j]?=some (AJ.rf i)/\s=.io A/\Has e i A:=by
 induction h with
 | nil=>intro j s h;simp at h
 | pl _ ih =>
  intro j s h
  cases j with
  | zero=>simp at h;exact .inl ⟨_,rfl,h.symm⟩
  | succ j=>rw [aH4] at h ⊢;exact ih h
 | rf q _ ih =>
  intro j s h
  cases j with
  | zero=>simp at h;exact .inr ⟨_,_,rfl,h.symm,q⟩
  | succ j=>rw [aH4] at h ⊢;exact ih h
section
variable {B:Bs} {env:En} {QO:Sl->En->Prop} {Q':PyData->En->Prop} {QJ:List AJ->En->Prop} {K:Frag} {E:XK} {t:TA} {te:TE} {i:Nat}
theorem ajx (q:QJ [] env):EvJ B tNil env QJ:=fun σ G H F Q I k=>k [] G H F [] env I (Same.refl _) .nil q
theorem ArgsJ.same {σ:St} {G G':Hp} {vs:List V} {js:List AJ} (h:ArgsJ σ G vs js) (g:Same G G'):ArgsJ σ G' vs js:=by
 induction h with
 | nil=>exact .nil
 | @cons v j vs js q _ ih =>
  refine .cons ?_ ih
  cases j with
  | pl d=>exact (show Rp G v d from q).same g
  | rf i=>exact q
theorem ah2 (h:Ev B te env fun x a=>EvJ B t a fun xs e2=>QJ (.pl x :: xs) e2):EvJ B (aa3 te t) env QJ:=fun σ G H F Q I k =>
 h σ G H F _ I fun r g n l x a d i c o=>o σ g n l _ d fun vs p H2 F2 js e2 q b f m=>k _ p H2 F2 _ e2 q (i.trans b) (.cons (j:=.pl x) (c.same b) f) m
theorem ajy {s:Sl} (c:env[i]?=some (some s)) (h:EvJ B t env fun xs e2=>QJ (.rf i :: xs) e2):EvJ B (aa3 (tVar i) t) env QJ:=fun σ G H F Q I k=>by
 obtain ⟨v,a,_⟩:=I.sl i _ c
 exact ⟨v,a,h σ G H F _ I fun vs g H2 F2 js e2 l f b d=>k _ g H2 F2 _ e2 l f (.cons (j:=.rf i) a b) d⟩
theorem a0x {js:List AJ} (nd:(ab7 js).Nodup):∃ inv:Nat->Option Nat,(∀ i j,inv i=some j ↔ js[j]?=some (AJ.rf i))/\∀ i,inv i=none ↔ i ∉ ab7 js:=by
 have a:∀ i,∃ o:Option Nat,(∀ j,o=some j ↔ js[j]?=some (AJ.rf i))/\(o=none ↔ i ∉ ab7 js):=fun i=>by
  by_cases hh:i∈ab7 js
  ·obtain ⟨j,b⟩:=ah1 hh
   exact ⟨some j,fun k=>⟨fun z=>by cases z;exact b,fun z=>congrArg some (ags nd b z)⟩,⟨fun z=>(nomatch z),fun z=>absurd hh z⟩⟩
  ·exact ⟨none,fun k=>⟨fun z=>(nomatch z),fun z=>absurd (ado z) hh⟩,⟨fun _=>hh,fun _=>rfl⟩⟩
 exact ⟨fun i=>Classical.choose (a i),fun i j=>(Classical.choose_spec (a i)).1 j,fun i=>(Classical.choose_spec (a i)).2⟩
theorem ata {f:VJ} (U:B.K=K) (h:EvJ B t env fun js m=>∃ ss,SlJ m js ss/\(ab7 js).Nodup/\f ss fun e s=>∃ e2,PutJ m js e e2/\QO s e2):EvO B (abw (spJ K f) [] E t) env QO:=fun σ G H F Q I k=>by
 subst U
 unfold abw
 simp only [aE4]
 refine h σ G H F _ I fun vs P D r js m p R a1 ⟨ss,N,nd,hf⟩=>?_
 obtain ⟨inv,c,O⟩:=a0x nd
 have inj:∀ i g j,inv i=some j->inv g=some j->i=g:=fun i g j x y=>by
  have x:=(c i j).mp x
  have y:=(c g j).mp y
  rw [x] at y
  cases y
  rfl
 have J:=p.enter (inv:=inv) (σI:=vs.map some) (envI:=ss.map some) inj (by rw [aA3,aA3,a1.length,N.length]) (fun j s e=>by
  rw [aA5] at e
  obtain ⟨Y,W,e2⟩:=Option.map_eq_some_iff.mp e
  cases e2
  rcases N.get W with ⟨d,b,rfl⟩ | ⟨i,A,b,rfl,w⟩
  ·obtain ⟨v,l,q⟩:=a1.get b
   refine ⟨v,by rw [aA5,l];rfl,.inl ⟨d,rfl,q,fun i z=>?_⟩⟩
   rw [(c i j).mp z] at b
   cases b
  ·obtain ⟨v,l,q⟩:=a1.get b
   exact ⟨v,by rw [aA5,l];rfl,.inr (.inr ⟨i,A,(c i j).mpr b,rfl,q,w⟩)⟩)
 refine ⟨⟨B.K,P,D,ab6 D r inv,vs.map some,fun j a=>∃ i,inv i=some j/\r i a⟩,ss,_,rfl,rfl,J,hf,fun e s ⟨e2,o,q⟩ v G' H' F' Fv M X=>?_⟩
 have L:=p.leave (inv:=inv) (env2:=e2) inj rfl rfl (fun a u e n=>by show ab6 D r inv a=_;rw [aft n];exact e) (fun i j hi a z=>by
   obtain ⟨g,C,z⟩:=z
   rw [inj i g j hi C]
   exact z) (fun i j hi=>by
   obtain ⟨v,l,q⟩:=a1.get ((c i j).mp hi)
   show (vs.map some)[j]? = σ[i]?
   rw [aA5,l,q]
   rfl) M (fun i j hi=>o.io ((c i j).mp hi)) o.length (fun i Y e=>by
   rcases o.at nd e with ⟨T,Z⟩ | ⟨j,A,A',b,w,S⟩
   ·exact .inl ⟨(O i).mpr T,Z⟩
   ·exact .inr ⟨j,A,A',(c i j).mpr b,w,S⟩)
 exact k v G' H' _ Fv s _ L (R.trans M.g0) (X.leave (inv:=inv) p rfl) q
theorem ah3 {f:VJ} (m:B.K=K) (h:EvJ B t env fun js c=>∃ ss,SlJ c js ss/\(ab7 js).Nodup/\f ss fun e s=>∃ e2,PutJ c js e e2/\FQ s fun d=>Q' d e2):Ev B (abw (spJ K f) [] E t) env Q':=abo (ata m (by
 intro σ G H F Q I k
 exact h σ G H F Q I fun vs G' H' F' js b n g a ⟨ss,i,j,l⟩=>k vs G' H' F' js b n g a ⟨ss,i,j,l⟩))
end
section
variable {B:Bs} {env:En} {QO:Sl->En->Prop} {Q':PyData->En->Prop} {K:Frag} {E:XK} {i:Nat}
theorem atb {te:TE} (h:EvO B te env fun s b=>∃ d ds,s=.own (OW d ds)/\Q' .none b):Ev B (tBM0 K "list" alw (tOp (acg K) te (tC (.int 1)))) env Q':=fun σ G H F Q I k =>
 h σ G H F _ I fun v r x w Fv s b g m X n=>by
  obtain ⟨d,ds,es,q⟩:=n
  subst es
  obtain ⟨t,l,u,vs,rfl,i,o,c,p,f⟩:=X.ok
  have a:=(f l).mpr (.inr rfl)
  refine afr i at1 ⟨.inl ⟨rfl,_,SqL.of c⟩,l,vs,rfl,rfl,c,?_⟩
  exact k _ _ _ _ _ _ (g.aside (fun xs z=>by cases z) (X.fg l a) (fun j=>X.fd j l a) (X.fb l a)) m .non q
end
end VL
namespace G
open PySem L2 VL
def top (i:Nat):Stmt:=PySem.Challenge.pw_fewties_k43_what_a_grower_tells.main.body.getD i (.Pass ⟨0,0,0,0⟩)
abbrev s_is_whole:Stmt:=top 8
abbrev s_is_between:Stmt:=top 9
abbrev s_need_number:Stmt:=top 10
abbrev s_is_place:Stmt:=top 11
abbrev s_is_tie:Stmt:=top 12
abbrev s_are_ties:Stmt:=top 13
abbrev s_is_rising:Stmt:=top 14
abbrev s_tied_places:Stmt:=top 15
abbrev s_far_from:Stmt:=top 16
abbrev s_need_place:Stmt:=top 17
abbrev s_all_far:Stmt:=top 18
abbrev s_how_far:Stmt:=top 19
abbrev s_is_joined:Stmt:=top 20
abbrev s_need_joined:Stmt:=top 22
abbrev s_far_rows:Stmt:=top 23
abbrev s_most_far:Stmt:=top 24
abbrev s_farthest_two:Stmt:=top 25
abbrev s_with_ties:Stmt:=top 27
abbrev s_far_or_none:Stmt:=top 29
abbrev s_law_deck:Stmt:=top 32
abbrev s_law_draw:Stmt:=top 33
abbrev s_law_tied:Stmt:=top 34
abbrev s_law_fars:Stmt:=top 35
abbrev s_law_order:Stmt:=top 36
abbrev s_law_crowds:Stmt:=top 37
abbrev s_law_web:Stmt:=top 38
abbrev s_law_deed:Stmt:=top 39
abbrev s_law_behind:Stmt:=top 40
abbrev s_law_done:Stmt:=top 41
abbrev s_law_due:Stmt:=top 42
abbrev s_law_web_right:Stmt:=top 43
abbrev s_law_looks:Stmt:=top 44
abbrev s_law:Stmt:=top 45
abbrev s_Grower____init__:Stmt:=adl (top 30) 0
abbrev s_Grower__put_place:Stmt:=adl (top 30) 1
abbrev s_Grower__put_tie:Stmt:=adl (top 30) 2
abbrev s_Grower__become:Stmt:=adl (top 30) 3
abbrev s_Grower__web:Stmt:=adl (top 30) 4
abbrev s_Grower__farthest:Stmt:=adl (top 30) 5
abbrev s_Grower__far:Stmt:=adl (top 30) 6
structure Txt (K:Frag) (mg:Str->Option Value):Prop where
 b_ValueError:mg "ValueError" = none
 b_all:mg "all" = none
 b_max:mg "max" = none
 b_sorted:mg "sorted" = none
 b_range:mg "range" = none
 b_dict:mg "dict" = none
 b_list:mg "list" = none
 b_isinstance:mg "isinstance" = none
 b_int:mg "int" = none
 b_len:mg "len" = none
 b_sum:mg "sum" = none
 b_min:mg "min" = none
 b_bool:mg "bool" = none
 b_tuple:mg "tuple" = none
 v_MOST_PLACES:∃ t,mg "MOST_PLACES" = some (.int 60 t)
 d_is_whole:∃ f fd,DefAt K mg "is_whole" s_is_whole ["thing"] f fd
 d_is_between:∃ f fd,DefAt K mg "is_between" s_is_between ["least","most","thing"] f fd
 d_need_number:∃ f fd,DefAt K mg "need_number" s_need_number ["least","most","thing"] f fd
 d_is_place:∃ f fd,DefAt K mg "is_place" s_is_place ["n","thing"] f fd
 d_is_tie:∃ f fd,DefAt K mg "is_tie" s_is_tie ["n","thing"] f fd
 d_are_ties:∃ f fd,DefAt K mg "are_ties" s_are_ties ["n","thing"] f fd
 d_is_rising:∃ f fd,DefAt K mg "is_rising" s_is_rising ["things"] f fd
 d_tied_places:∃ f fd,DefAt K mg "tied_places" s_tied_places ["web"] f fd
 d_far_from:∃ f fd,DefAt K mg "far_from" s_far_from ["tied","start"] f fd
 d_need_place:∃ f fd,DefAt K mg "need_place" s_need_place ["web","thing"] f fd
 d_all_far:∃ f fd,DefAt K mg "all_far" s_all_far ["web","a"] f fd
 d_how_far:∃ f fd,DefAt K mg "how_far" s_how_far ["web","a","b"] f fd
 d_is_joined:∃ f fd,DefAt K mg "is_joined" s_is_joined ["web"] f fd
 d_need_joined:∃ f fd,DefAt K mg "need_joined" s_need_joined ["web"] f fd
 d_far_rows:∃ f fd,DefAt K mg "far_rows" s_far_rows ["web"] f fd
 d_most_far:∃ f fd,DefAt K mg "most_far" s_most_far ["rows"] f fd
 d_farthest_two:∃ f fd,DefAt K mg "farthest_two" s_farthest_two ["web"] f fd
 d_with_ties:∃ f fd,DefAt K mg "with_ties" s_with_ties ["web","ties"] f fd
 d_far_or_none:∃ f fd,DefAt K mg "far_or_none" s_far_or_none ["web"] f fd
 d_law_deck:∃ f fd,DefAt K mg "_law_deck" s_law_deck ["script"] f fd
 d_law_draw:∃ f fd,DefAt K mg "_law_draw" s_law_draw ["deck","many"] f fd
 d_law_tied:∃ f fd,DefAt K mg "_law_tied" s_law_tied ["web"] f fd
 d_law_fars:∃ f fd,DefAt K mg "_law_fars" s_law_fars ["web"] f fd
 d_law_order:∃ f fd,DefAt K mg "_law_order" s_law_order ["deck","n"] f fd
 d_law_crowds:∃ f fd,DefAt K mg "_law_crowds" s_law_crowds ["deck"] f fd
 d_law_web:∃ f fd,DefAt K mg "_law_web" s_law_web ["deck","most"] f fd
 d_law_deed:∃ f fd,DefAt K mg "_law_deed" s_law_deed ["deck","web"] f fd
 d_law_behind:∃ f fd,DefAt K mg "_law_behind" s_law_behind ["web","deed"] f fd
 d_law_done:∃ f fd,DefAt K mg "_law_done" s_law_done ["grower","deed"] f fd
 d_law_due:∃ f fd,DefAt K mg "_law_due" s_law_due ["web","fars"] f fd
 d_law_web_right:∃ f fd,DefAt K mg "_law_web_right" s_law_web_right ["grower","web","held"] f fd
 d_law_looks:∃ f fd,DefAt K mg "_law_looks" s_law_looks ["deck","grower","web","held"] f fd
 d_law:∃ f fd,DefAt K mg "law" s_law ["script"] f fd
 o_Grower:∃ C,ObAt K mg "Grower" C
 n_Grower_held:∀ C,mg "Grower" = some (.ref C)->NoAttr K C "held"
 m_Grower____init__:∀ C,mg "Grower" = some (.ref C)->∃ f fd,MeAt K C "__init__" "Grower.__init__" s_Grower____init__ ["self","web"] f fd
 m_Grower__put_place:∀ C,mg "Grower" = some (.ref C)->∃ f fd,MeAt K C "put_place" "Grower.put_place" s_Grower__put_place ["self","a"] f fd
 m_Grower__put_tie:∀ C,mg "Grower" = some (.ref C)->∃ f fd,MeAt K C "put_tie" "Grower.put_tie" s_Grower__put_tie ["self","a","b"] f fd
 m_Grower__become:∀ C,mg "Grower" = some (.ref C)->∃ f fd,MeAt K C "become" "Grower.become" s_Grower__become ["self","grown"] f fd
 m_Grower__web:∀ C,mg "Grower" = some (.ref C)->∃ f fd,MeAt K C "web" "Grower.web" s_Grower__web ["self"] f fd
 m_Grower__farthest:∀ C,mg "Grower" = some (.ref C)->∃ f fd,MeAt K C "farthest" "Grower.farthest" s_Grower__farthest ["self"] f fd
 m_Grower__far:∀ C,mg "Grower" = some (.ref C)->∃ f fd,MeAt K C "far" "Grower.far" s_Grower__far ["self","a","b"] f fd
local macro_rules | `(tactic| row_cond sc) => `(tactic| exact ⟨rfl,rfl,rfl,by decide +kernel,rfl,by decide +kernel,by decide +kernel⟩)
local macro_rules | `(tactic| row_cond gn) => `(tactic| first | (with_reducible first | refine evg_n0 ?_ | refine a0e ?_ | refine a0f ?_ | refine a0g ?_ | refine a0h ?_ | refine a0i ?_ | refine a0j ?_ | refine a0k ?_ | refine a0l ?_ | refine a0m ?_ | refine evg_n10 ?_ | refine evg_n11 ?_ | refine evg_n12 ?_ | refine evg_n13 ?_ | refine evg_n14 ?_ | refine evg_n15 ?_ | refine evg_n16 ?_ | refine evg_n17 ?_ | refine evg_n18 ?_ | refine evg_n19 ?_ | refine evg_n20 ?_ | refine evg_n21 ?_ | refine evg_n22 ?_ | refine evg_n23 ?_ | refine evg_n24 ?_ | refine evg_n25 ?_) | ((with_reducible refine abf ?_); dsimp only [List.set_cons_zero, List.set_cons_succ]))
local macro_rules | `(tactic| row_cond dc) => `(tactic| first | assumption | omega | (with_reducible rfl))
local macro_rules | `(tactic| row_cond ar) => `(tactic| first | assumption | (refine ⟨?_, ?_, ?_⟩ <;> decide) | (constructor <;> first | assumption | omega) | (show (0 : Int) < _; first | assumption | omega) | (left; constructor <;> first | assumption | omega) | (right; constructor <;> first | assumption | omega))
local macro_rules | `(tactic| row_cond hs) => `(tactic| first | exact Or.inl rfl | exact Or.inr rfl)
local macro_rules | `(tactic| row_cond fz) => `(tactic| first | exact ac0 | exact azv | exact frz_OT | exact asp | exact ajt | assumption)
local macro_rules | `(tactic| row_cond le) => `(tactic| first | exact Nat.le_of_ble_eq_true rfl | assumption | omega | (simp only [List.length_append, List.length_map, List.length_cons, List.length_nil, List.length_set, List.length_replicate]; omega))
local macro_rules | `(tactic| row_cond ia) => `(tactic| first | assumption | exact at0 | exact at1 | exact at2 | exact rfl)
local macro_rules | `(tactic| row_cond ty) => `(tactic| first | exact a0b | exact ax1 | exact au7 | exact ax2 | exact ty_str | exact ty_dict)
local macro_rules | `(tactic| row_cond sEvS) => `(tactic| first | (with_reducible refine amt (fun c_ hc_ => ?_)) | (with_reducible first | refine axp ?_ | refine asb ?_ | refine ams ?_) | ((with_reducible refine' au8 ?h0 ?_); (case h0 => exact rfl)) | (with_reducible first | refine ao0 ?_ | refine axq ?_ | refine aun ?_) | ((with_reducible refine' aqn ?h0 ?_); (case h0 => exact rfl)) | ((with_reducible refine' aqo ?h0 ?_); (case h0 => exact rfl)) | ((with_reducible refine' ajs ?h0 ?_); (case h0 => assumption)))
local macro_rules | `(tactic| row_cond sEvG) => `(tactic| first | row_cond gn | ((with_reducible refine' aoz ?h0 ?_); (case h0 => exact rfl)) | ((with_reducible refine' au6 ?h0 ?_); (case h0 => row_cond hs)) | (with_reducible refine evg_st ?_))
local macro_rules | `(tactic| row_cond sEvGs) => `(tactic| first | (with_reducible first | refine agq ?_ | refine amr ?_))
local macro_rules | `(tactic| row_cond sEv) => `(tactic| first | ((with_reducible refine' azw ?h0 ?_); (case h0 => exact rfl)) | (with_reducible refine azx ?_) | ((with_reducible refine' az9 ?h0 ?_); (case h0 => row_cond hs)) | ((with_reducible refine' az8 ?h0 ?_); (case h0 => row_cond hs)) | (with_reducible refine awb ?_) | ((with_reducible refine' ax0 ?h0 ?h1 ?h2 ?_); (case h0 => row_cond hs); (case h1 => row_cond fz); (case h2 => row_cond ty)) | ((with_reducible refine' ayb ?h0 ?h1 ?_); (case h0 => row_cond hs); (case h1 => row_cond ty)) | ((with_reducible refine' a0a ?h0 ?_); (case h0 => row_cond ty)) | ((with_reducible refine' akl ?h0 ?_); (case h0 => exact rfl)) | (with_reducible refine aur ?_) | ((with_reducible refine' axk ?h0 ?h1 ?_); (case h0 => exact rfl); (case h1 => row_cond fz); dsimp only [List.set_cons_zero, List.set_cons_succ]) | (with_reducible first | refine az0 ?_ | refine az1 ?_ | refine a1n ?_ | refine azy ?_ | refine a1o ?_ | refine axn ?_ | refine axo ?_ | refine aum ?_ | refine abo (te:=tCB (ain _) _) ?_ | refine abo (te:=tCB ahb _) ?_ | refine a1p ?_) | ((with_reducible refine' aqf ?h0 ?_); (case h0 => row_cond hs)) | ((with_reducible refine' aqg ?h0 ?_); (case h0 => row_cond hs)) | ((with_reducible refine' an6 ?h0 ?_); (case h0 => row_cond hs)) | (with_reducible refine avd ?_) | ((with_reducible refine' a1w ?h0 ?_); (case h0 => decide)) | (with_reducible first | refine au5 ?_ | refine avh ?_))
local macro_rules | `(tactic| row_cond sEvO) => `(tactic| first | (with_reducible first | refine amp (r:=rCat) ?_ | refine amp (r:=rRep) ?_ | refine aa5 (te:=tOp _ _ _) ?_ | refine aa5 (te:=tVar _) ?_ | refine aa5 (te:=tC _) ?_ | refine aow ?_) | ((with_reducible refine' ave ?h0 ?_); (case h0 => exact rfl)) | (with_reducible refine aov ?_) | ((with_reducible refine' air ?h0 ?_); (case h0 => exact rfl)) | ((with_reducible refine' aqj ?h0 ?_); (case h0 => exact rfl)) | ((with_reducible refine' asd ?h0 ?h1 ?_); (case h0 => exact rfl); (case h1 => assumption)) | (with_reducible first | refine akg ?_ | refine ax3 ?_) | ((with_reducible refine' ase ?h0 ?_); (case h0 => decide)) | (with_reducible first | refine ayh ?_) | (with_reducible first | refine akj ?_ | refine asl ?_ | refine akn ?_ | refine asa (r:=amy _) ?_ | refine aa5 (te:=tUn _ _) ?_ | refine aa5 (te:=tIf _ _ _) ?_ | refine aa5 (te:=apn _ _) ?_ | refine aa5 (te:=apo _) ?_ | refine aa5 (te:=alo _ _ _ _ _) ?_ | refine aa5 (te:=ak8 _ _) ?_ | refine aa5 (te:=ag2 _ _) ?_ | refine aa5 (te:=al2 _ _) ?_ | refine aa5 (te:=tCB (rLen _) _) ?_ | refine aa5 (te:=tCB (rIsi _) _) ?_ | refine aa5 (te:=tCB ala _) ?_ | refine aa5 (te:=tCB alb _) ?_ | refine aa5 (te:=tCB alc _) ?_ | refine aa5 (te:=tCB (afp _) _) ?_ | refine aa5 (te:=tCB (ale _) _) ?_ | refine aa5 (te:=tCB (aqb _) _) ?_ | refine aa5 (te:=tCB (rAll _) _) ?_ | refine aa5 (te:=tBM _ _ _ _ _) ?_))
local macro_rules | `(tactic| row_cond sEvT) => `(tactic| first | (with_reducible first | refine ahu ?_ | refine a1q ?_ | refine axl ?_ | refine az2 ?_ | refine aox ?_ | refine ajr ?_) | (with_reducible refine axm ?_))
local macro_rules | `(tactic| row_cond sEvA) => `(tactic| first | (with_reducible first | refine amq ?_ | refine aou ?_))
local macro_rules | `(tactic| row_cond sEvI) => `(tactic| first | (with_reducible first | refine aup ?_ | refine auq ?_ | refine evi_down ?_ | refine auo ?_) | (with_reducible refine evi_tup ?_))
local macro_rules | `(tactic| row_cond sEvOp) => `(tactic| first | (with_reducible first | refine au4 ?_))
local macro_rules | `(tactic| row_cond sOp2) => `(tactic| first | (with_reducible first | refine axr ?_ | refine axs ?_) | ((with_reducible refine' az6 ?h0 ?_); (case h0 => row_cond ar)) | (with_reducible first | refine axt ?_ | refine axu ?_) | ((with_reducible refine' axv ?h0 ?_); (case h0 => row_cond ia)) | ((with_reducible refine' axw ?h0 ?_); (case h0 => row_cond ia)) | (with_reducible first | refine axx ?_ | refine auw ?_) | ((with_reducible refine' axy ?h0 ?_); (case h0 => row_cond le)))
local macro_rules | `(tactic| row_cond sOp1) => `(tactic| first | (with_reducible refine az7 ?_))
local macro_rules | `(tactic| row_cond sOpA) => `(tactic| first | (with_reducible first | refine aux ?_ | refine auy ?_ | refine auz ?_ | refine au0 ?_ | refine au1 ?_ | refine avc ?_))
local macro_rules | `(tactic| row_cond sFQ) => `(tactic| first | (with_reducible first | refine alh ?_ | refine ac5 ?_ | refine aiy ?_))
local macro_rules | `(tactic| row_cond sRngA1) => `(tactic| first | ((with_reducible refine' az4 ?h0 ?h1 ?_); (case h0 => omega); (case h1 => omega)))
local macro_rules | `(tactic| row_cond sRngA2) => `(tactic| first | ((with_reducible refine' az5 ?h0 ?_); (case h0 => omega)))
local macro_rules | `(tactic| row_cond sRest) => `(tactic| first | (with_reducible first | refine x_bl ?_ | refine x_st ?_ | refine az3 ?_ | refine a1r ?_) | ((with_reducible refine' a1t ?h0 ?h1 ?_); (case h0 => row_cond hs); (case h1 => row_cond ia)) | ((with_reducible refine' a1u ?h0 ?h1 ?_); (case h0 => row_cond hs); (case h1 => row_cond fz)) | ((with_reducible refine' x_sc ?h0 ?_); (case h0 => exact rfl)) | ((with_reducible refine' a1s ?h0 ?_); (case h0 => row_cond le)) | (with_reducible first | refine acj ?_ | refine acz ?_ | refine ad9 ?_ | refine ajk ?_) | ((with_reducible refine' ajd ?h0 ?_); (case h0 => row_cond dc)) | ((with_reducible refine' aje ?h0 ?_); (case h0 => row_cond dc)) | ((with_reducible refine' auj ?h0 ?_); (case h0 => row_cond dc)) | ((with_reducible refine' auk ?h0 ?_); (case h0 => row_cond dc)) | ((with_reducible refine' a1v ?h0 ?_); (case h0 => first | exact rfl | row_cond hs)) | ((with_reducible refine' x_rt ?h0 ?_); (case h0 => exact rfl)) | ((with_reducible refine' a0c ?h0 ?h1 ?_); (case h0 => exact rfl); (case h1 => row_cond le); dsimp only [List.set_cons_zero, List.set_cons_succ]) | ((with_reducible refine' aqi ?h0 ?h1 ?_); (case h0 => exact rfl); (case h1 => first | exact ixN0 | exact ixN1 | exact ixN2 | assumption); dsimp only [List.set_cons_zero, List.set_cons_succ, reS]) | (with_reducible first | refine a0d ?_ | refine au9 ?_) | ((with_reducible refine' x_dT ?h0 ?h1 ?_); (case h0 => exact rfl); (case h1 => row_cond le); dsimp only [List.set_cons_zero, List.set_cons_succ]) | ((with_reducible refine' x_dK ?h0 ?h1 ?_); (case h0 => exact rfl); (case h1 => row_cond le); dsimp only [List.set_cons_zero, List.set_cons_succ]) | ((with_reducible refine' x_dN ?h0 ?_); (case h0 => row_cond hs)) | ((with_reducible refine' ax8 ?h0 ?h1 ?_); (case h0 => omega); (case h1 => omega)) | ((with_reducible refine' x_ow ?h0 ?_); (case h0 => exact rfl); dsimp only [List.set_cons_zero, List.set_cons_succ]))
local macro_rules | `(tactic| row_cond st) => `(tactic| first | ((with_reducible refine a1x ?_); row_cond sEvS) | ((with_reducible refine a1y ?_); row_cond sEvG) | ((with_reducible refine a0p ?_); row_cond sEvGs) | ((with_reducible refine g_Ev ?_); row_cond sEv) | ((with_reducible refine a1z ?_); row_cond sEvO) | ((with_reducible refine a10 ?_); row_cond sEvT) | ((with_reducible refine a11 ?_); row_cond sEvA) | ((with_reducible refine a12 ?_); row_cond sEvI) | ((with_reducible refine a0q ?_); row_cond sEvOp) | ((with_reducible refine a13 ?_); row_cond sOp2) | ((with_reducible refine a14 ?_); row_cond sOp1) | ((with_reducible refine a15 ?_); row_cond sOpA) | ((with_reducible refine g_FQ ?_); row_cond sFQ) | ((with_reducible refine aye ?_); row_cond sRngA1) | ((with_reducible refine ayf ?_); row_cond sRngA2) | row_cond sRest)
local macro_rules | `(tactic| row_cond go) => `(tactic| repeat row_cond st)
local macro_rules | `(tactic| row_cond hnx) => `(tactic| first | assumption | (apply Ne.symm; assumption) | exact aar (by assumption) (by assumption) | exact (aar (by assumption) (by assumption)).symm)
local macro_rules | `(tactic| row_cond hhp) => `(tactic| first | assumption | exact aaf | (rw [aae (by row_cond hnx)]; row_cond hhp) | ((refine' Same.at ?ss ?hh); (case ss => assumption); (case hh => row_cond hhp)))
local macro_rules | `(tactic| row_cond hix) => `(tactic| first | assumption | exact at0 | exact at1 | exact at2)
local macro_rules | `(tactic| row_cond hst) => `(tactic| first | (with_reducible first | refine azg ?_ | refine azh ?_ | refine ajb ?_ | refine a1h ?_ | refine go_c ?_ | refine a1k ?_ | refine go_U ?_ | refine ar0 ?_ | refine aw5 ?_ | refine a1i ?_ | refine azj ?_ | refine azk ?_ | refine azi ?_ | refine aw2 ?_ | refine aw3 ?_ | refine a1j ?_ | refine ajc ?_ | refine agj ?_ | refine aw6 ?_ | refine aol ?_ | refine aom ?_ | refine aon ?_ | refine aw4 ?_ | refine axh ?_ | refine azp ?_ | refine azr ?_ | refine a1l ?_ | refine at8 ?_ | refine al5 ?_ | refine acj ?_ | refine acz ?_) | ((with_reducible refine' ary ?hv ?_); (case hv => exact rfl)) | ((with_reducible refine' afq ?ha ?hv ?_); (case ha => row_cond hhp); (case hv => row_cond hix)) | ((with_reducible refine go_I ?hc ?_); (case hc => row_cond ar)) | ((with_reducible refine' aok ?ha ?_); (case ha => row_cond hhp)) | ((with_reducible refine' aoj ?ha ?hj ?_); (case ha => row_cond hhp); (case hj => first | exact ixN0 | exact ixN1 | exact ixN2)) | ((with_reducible refine' azt ?ha ?_); (case ha => row_cond hhp)) | ((with_reducible refine' aey ?ha ?hl ?_); (case ha => row_cond hhp); (case hl => exact aeu (by simp; omega))) | ((with_reducible refine' ajd ?hc ?_); (case hc => row_cond dc)) | ((with_reducible refine' aje ?hc ?_); (case hc => row_cond dc)) | dsimp only [List.set_cons_zero, List.set_cons_succ])
local macro_rules | `(tactic| row_cond hgo) => `(tactic| repeat row_cond hst)
def isInt:PyData->Bool
 | .int _=>true
 | _=>false
def btwD (a b:Int):PyData->Bool
 | .int i=>decide (a<=i/\i<=b)
 | _=>false
def ayp:VP:=fun ss Q=>∃ d,ss=[.st d]/\Q (.st (.bool (isInt d)))
def atc:VP:=fun ss Q=>∃ (a b:Int) (d:PyData),ss=[.st (.int a),.st (.int b),.st d]/\Q (.st (.bool (btwD a b d)))
def ayq:VP:=fun ss Q=>∃ (n:Int) (d:PyData),ss=[.st (.int n),.st d]/\Q (.st (.bool (btwD 0 (n - 1) d)))
section
variable {P:Program} {w:World} {K:Frag} {mg:Str->Option Value} {base:Heap}
theorem sc_is_whole:FnScope ["thing"] ["thing"] (aai s_is_whole):=by row_cond sc
theorem anf (T:Txt K mg):Can P w K mg base "is_whole" 1 ["thing"] (spP K (ayp)):=by
 obtain ⟨f,fd,D⟩:=T.d_is_whole
 obtain ⟨j,c⟩:=T.o_Grower
 have a:=c.mgx
 have l:=T.n_Grower_held _ a
 refine D.can (D.fn.ok sc_is_whole (fun vs H Q E h=>lenP h fun ss Q' q=>by obtain ⟨d,rfl,k⟩:=q;rfl) (fun cdv A outer s H vs Q E m h=>?_))
 have nd:=sc_is_whole.nd
 refine ⟨_,(aag (aaq (agb (aaj acu (by rfl) T.b_isinstance abp (aaa (pv 0) (aaa (ac7 (v:=.ty "int") rfl T.b_int al6 rfl) aab))) (ah7 (ay7 (aaj acu (by rfl) T.b_isinstance abp (aaa (pv 0) (aaa (ac7 (v:=.ty "bool") rfl T.b_bool aoq rfl) aab)))))))),?_⟩
 refine abm h fun ss Q' q B n=>?_
 refine exS1 ss q fun d g=>?_
 have k:=g
 clear g q
 show EvS B _ _ [some (.st d)]
 row_cond go
 cases d with
 | int i => refine acj ?_; row_cond go; exact k
 | bool b => refine acj ?_; row_cond go; exact k
 | _=>refine acz ?_;exact k
theorem sc_is_between:FnScope ["least","most","thing"] ["least","most","thing"] (aai s_is_between):=by row_cond sc
theorem afh (T:Txt K mg):Can P w K mg base "is_between" 2 ["least","most","thing"] (spP K (atc)):=by
 obtain ⟨f,fd,D⟩:=T.d_is_between
 obtain ⟨l,g⟩:=T.o_Grower
 have c:=g.mgx
 have n:=T.n_Grower_held _ c
 refine D.can (D.fn.ok sc_is_between (fun vs H Q E h=>lenP h fun ss Q' q=>by obtain ⟨a,b,d,rfl,k⟩:=q;rfl) (fun cdv A outer s H vs Q E o h=>?_))
 have nd:=sc_is_between.nd
 refine ⟨_,(aag (aaq (agb (aah (anf T) o (aaa (pv 2) aab)) (ah7 (ato av3 av3 (pv 0) (pv 2) (pv 1)))))),?_⟩
 refine abm h fun ss Q' q B p=>?_
 refine exS3 ss q fun a b d j=>?_
 have k:=j
 clear j q
 show EvS B _ _ [some (.st (.int a)),some (.st (.int b)),some (.st d)]
 row_cond go
 refine ⟨d,rfl,?_⟩
 row_cond go
 cases d with
 | int i =>
  refine acj ?_
  row_cond go
  refine adc (fun m=>?_) (fun m=>?_)
  ·row_cond go
   have e:decide (i<=b)=btwD a b (.int i):=by
    show _=decide (a<=i/\i<=b)
    rw [aH1];simp [m]
   rw [e];exact k
  ·have e:false=btwD a b (.int i):=by
    show _=decide (a<=i/\i<=b)
    exact (aD5 (fun z=>m z.1)).symm
   rw [e];exact k
 | _=>exact acz k
theorem sc_is_place:FnScope ["n","thing"] ["n","thing"] (aai s_is_place):=by row_cond sc
theorem aer (T:Txt K mg):Can P w K mg base "is_place" 3 ["n","thing"] (spP K (ayq)):=by
 obtain ⟨f,fd,D⟩:=T.d_is_place
 obtain ⟨g,b⟩:=T.o_Grower
 have a:=b.mgx
 have i:=T.n_Grower_held _ a
 refine D.can (D.fn.ok sc_is_place (fun vs H Q E h=>lenP h fun ss Q' q=>by obtain ⟨n,d,rfl,k⟩:=q;rfl) (fun cdv A outer s H vs Q E j h=>?_))
 have nd:=sc_is_place.nd
 refine ⟨_,(aag (aaq (aah (afh T) j (aaa aad (aaa (aat aeg (pv 0) aad) (aaa (pv 1) aab)))))),?_⟩
 refine abm h fun ss Q' q B l=>?_
 refine exS2 ss q fun n d c=>?_
 have k:=c
 clear c q
 show EvS B _ _ [some (.st (.int n)),some (.st d)]
 row_cond go
 exact ⟨_,_,_,rfl,k⟩
def a0y:VP:=fun ss Q=>∃ (n:Int) (es:List (Int × Int)),ss=[.st (webD n es)]/\0<=n/\n<=100/\InN n es/\es.length<=10000/\∀ tl,TiedL n (Tied es) tl->(∀ us∈tl,us.length<=20000)->Q (.own (OLL (tlD tl)))
theorem sc_tied_places:FnScope ["web","n","ties","tied","a","b"] ["web"] (aai s_tied_places):=by row_cond sc
theorem ae3 (T:Txt K mg):Can P w K mg base "tied_places" 1 ["web"] (spP K (a0y)):=by
 obtain ⟨f,fd,D⟩:=T.d_tied_places
 obtain ⟨y,o⟩:=T.o_Grower
 have m:=o.mgx
 have J:=T.n_Grower_held _ m
 refine D.can (D.fn.ok sc_tied_places (fun vs H Q E h=>lenP h fun ss Q' q=>by obtain ⟨n,es,rfl,S,R,z,G,k⟩:=q;rfl) (fun cdv A outer s H vs Q E W h=>?_))
 have nd:=sc_tied_places.nd
 refine ⟨_,(aac (ab9 (pv 0) (acq rfl (aa2 (aam (i:=1) nd rfl (Or.inl rfl)) (aa2 (aam (i:=2) nd rfl (Or.inl rfl)) ab8))))
  (aac (al4 (i:=3) nd rfl (Or.inl rfl) rfl (N:=["place"]) (src:=[none]) (by exact ab0 rfl rfl rfl rfl rfl rfl) (abg rfl T.b_range (aaa (pv 1) aab)) (fun _ _ _ _=>(aam (i:=0) (show List.Nodup (["place"]:List Str) by decide +kernel) rfl (Or.inl rfl) (hf:=Or.inr rfl))) (fun _ _ _ _=>ack) (fun _ _ _ _=>(aa1 aab)))
  (aac (abi aI7 rfl (aby (pv 2)) (acq rfl (aa2 (aam (i:=4) nd rfl (Or.inl rfl)) (aa2 (aam (i:=5) nd rfl (Or.inl rfl)) ab8)))
   (aac (aa8 (acn PySem.F.plainAttrs_list PySem.F.slot_list_append PySem.F.type_list_append abu (aan aao (pv 3) (pv 4) (fun _ _=>rfl)) (aaa (pv 5) aab)))
    (aag (aa8 (acn PySem.F.plainAttrs_list PySem.F.slot_list_append PySem.F.type_list_append abu (aan aao (pv 3) (pv 5) (fun _ _=>rfl)) (aaa (pv 4) aab))))))
  (aag (aaq (pv 3)))))),?_⟩
 refine abm h fun ss Q' q B X=>?_
 refine exS2 ss q fun n es c=>?_
 have S:=c.1
 have R:=c.2.1
 have z:=c.2.2.1
 have G:=c.2.2.2.1
 have k:=c.2.2.2.2
 clear c q
 show EvS B _ _ [some (.st (webD n es)),none,none,none,none,none]
 row_cond go
 rw [acl]
 refine ⟨by omega,?_⟩
 row_cond go
 refine acv (fun i e=>∃ L I tl,e=[some (.st (webD n es)),some (.st (.int n)),some (.st (.list (es.map prD))),some (.own (OLL (tlD tl))),L,I]/\TiedL n (Tied (es.take i)) tl/\∀ g∈tl,g.length<=2 * i)
  ⟨none,none,List.replicate n.toNat [],by simp [tlD],⟨by simp;omega,fun i g hi w=>?_⟩,fun g O=>?_⟩ ?_ ?_
 ·rw [aH0] at hi
  split at hi
  ·cases hi;simp [Tied]
  ·cases hi
 ·have:=List.eq_of_mem_replicate O
  subst this;simp
 ·rintro i ⟨a,b⟩ e M p
  refine exS3 e p fun L I tl c=>?_
  have r:=c.1
  have l:=c.2
  clear c p
  have hi:i < es.length:=(aA1.mp M).1
  obtain ⟨a0,a1,b0,b1⟩:=z _ (aA2 M)
  dsimp only at a0 a1 b0 b1
  row_cond go
  obtain ⟨g,d,_⟩:=r.get a0 a1
  have U:=l g (aA2 d)
  refine ais (n:=a.toNat) (ds:=g.map .int) rfl rfl rfl (by rw [aA3];exact ait a0 (by rw [r.1];exact a1)) (aec d) (by rw [aA3];omega) ?_
  dsimp only [List.set_cons_zero,List.set_cons_succ]
  have C:=r.put (q:=b) a0 a1 d
  rw [show g.map PyData.int ++ [.int b]=(g ++ [b]).map .int by simp,aha]
  have j:∀ us∈tl.set a.toNat (g ++ [b]),us.length<=2 * i+1:=fun us x=>by
   rcases List.mem_or_eq_of_mem_set x with h | h
   ·have:=l us h;omega
   ·subst h;simp;omega
  generalize tl.set a.toNat (g ++ [b])=tl2 at C j
  row_cond go
  obtain ⟨g,d,_⟩:=C.get b0 b1
  have U:=j g (aA2 d)
  refine ais (n:=b.toNat) (ds:=g.map .int) rfl rfl rfl (by rw [aA3];exact ait b0 (by rw [C.1];exact b1)) (aec d) (by rw [aA3];omega) ?_
  dsimp only [List.set_cons_zero,List.set_cons_succ]
  rw [show g.map PyData.int ++ [.int a]=(g ++ [a]).map .int by simp,aha]
  refine ⟨_,_,_,rfl,(C.put (q:=a) b0 b1 d).iff fun u v=>(Tied.snoc M u v).symm,fun us x=>?_⟩
  rcases List.mem_or_eq_of_mem_set x with h | h
  ·have:=j us h;omega
  ·subst h;simp;omega
 ·rintro e p
  refine exS3 e p fun L I tl c=>?_
  have r:=c.1
  have l:=c.2
  clear c p
  rw [aG1] at r
  row_cond go
  exact k tl r fun us x=>by have:=l us x;omega
end
@[reducible] def tlV (tl:List (List Int)):PyData:=.list ((tlD tl).map .list)
def a16:VP:=fun ss Q=>∃ (n a:Int) (T:Int->Int->Prop) (tl:List (List Int)),ss=[.st (tlV tl),.st (.int a)]/\n<=100/\TiedL n T tl/\(∀ u v,T u v->0<=v/\v < n)/\0<=a/\a < n/\Q (.own (OL (lab n.toNat (Gr.farO T a))))
section
variable {P:Program} {w:World} {K:Frag} {mg:Str->Option Value} {base:Heap}
theorem sc_far_from:FnScope ["tied","start","far","edge","beyond","place","other"] ["tied","start"] (aai s_far_from):=by row_cond sc
theorem agt (T:Txt K mg):Can P w K mg base "far_from" 1 ["tied","start"] (spP K (a16)):=by
 obtain ⟨f,fd,D⟩:=T.d_far_from
 obtain ⟨S,z⟩:=T.o_Grower
 have G:=z.mgx
 have a3:=T.n_Grower_held _ G
 refine D.can (D.fn.ok sc_far_from (fun vs H Q E h=>lenP h fun ss Q' q=>by obtain ⟨n,a,T,tl,rfl,n1,ht,hT,a0,a1,k⟩:=q;rfl) (fun cdv A outer s H vs Q E hr h=>?_))
 have nd:=sc_far_from.nd
 refine ⟨_,(aac (aal (i:=2) nd rfl (Or.inl rfl) (aat aze (aa1 (aaa ae9 aab)) (aaj abv (by rfl) T.b_len aca (aaa (pv 0) aab))))
  (aac (ab9 aad (agc (pv 2) (pv 1) aek))
  (aac (aal (i:=3) nd rfl (Or.inl rfl) (aa1 (aaa (pv 1) aab)))
  (aac (alm aI7 (ar8 (pv 3))
   (aac (aal (i:=4) nd rfl (Or.inl rfl) (aa1 aab))
    (aac (abi aI7 rfl (aby (pv 3)) (aam (i:=5) nd rfl (Or.inl rfl))
     (aag (abi aI7 rfl (aby (aan aao (pv 0) (pv 5) (fun _ _=>rfl))) (aam (i:=6) nd rfl (Or.inl rfl))
       (aag (aa6 (aaw axg (aan aao (pv 2) (pv 6) (fun _ _=>rfl)) ae9 (aax _))
         (aac (ab9 (aat abe (aan aao (pv 2) (pv 5) (fun _ _=>rfl)) aad) (agc (pv 2) (pv 6) aek))
          (aag (aa8 (acn PySem.F.plainAttrs_list PySem.F.slot_list_append PySem.F.type_list_append abu (pv 4) (aaa (pv 6) aab)))))
         aav)))))
    (aag (aal (i:=3) nd rfl (Or.inl rfl) (pv 4))))))
  (aag (aaq (pv 2))))))),?_⟩
 refine abm h fun ss Q' q B hK=>?_
 refine exS4 ss q fun n a T tl b=>?_
 have n1:=b.1
 have ht:=b.2.1
 have hT:=b.2.2.1
 have a0:=b.2.2.2.1
 have a1:=b.2.2.2.2.1
 have k:=b.2.2.2.2.2
 clear b q
 show EvS B _ _ [some (.st (tlV tl)),some (.st (.int a)),none,none,none,none,none]
 have hl:tl.length=n.toNat:=by have:=ht.1;omega
 row_cond go
 refine axz (by first | omega | (simp;done) | (simp;omega)) (by first | omega | (simp;done) | (simp;omega)) (by first | omega | (simp;done) | (simp;omega)) ?_
 simp only [aA3,hl]
 rw [show ((n.toNat:Nat):Int).toNat=n.toNat by omega,ax5]
 row_cond go
 refine aqi (j:=a.toNat) rfl (by rw [acx];exact ait a0 (by omega)) ?_
 dsimp only [List.set_cons_zero,List.set_cons_succ,reS]
 rw [show (PyData.int 0)=.int ((0:Nat):Int) from rfl,apb a0 (by omega)]
 row_cond go
 refine ao9 3 rfl ac0 ?_
 dsimp only [List.set_cons_zero,List.set_cons_succ]
 refine akf (fun m e=>∃ v4 N y far edge r,e=[some (.st (tlV tl)),some (.st (.int a)),some (.own (OL (lab n.toNat far))),some (.st (.list (edge.map .int))),v4,N,y]/\Gr.Ring T a r far edge/\(∀ v∈edge,0<=v/\v < n)/\m=2 * cnt far n.toNat+(if edge=[] then 0 else 1))
  ⟨_,none,none,none,_,[a],0,rfl,Gr.Ring.start,fun v R=>by simp at R;subst R;exact ⟨a0,a1⟩,rfl⟩ ?_
 rintro m e l
 refine exS6 e l fun v4 N y far edge r b=>?_
 have W:=b.1
 have hb:=b.2.1
 have Y:=b.2.2
 clear b l
 subst Y
 row_cond go
 rw [an4]
 cases hedge:edge with
 | nil =>
  subst hedge
  refine acz ?_
  row_cond go
  rw [asf (g:=Gr.farO T a) fun v _ _=>W.fin v]
  exact k
 | cons e0 er =>
  refine acj ?_
  rw [← hedge]
  have a2:edge ≠ []:=by rw [hedge];simp
  row_cond go
  refine acv (fun i e=>∃ N y c beyond,e=[some (.st (tlV tl)),some (.st (.int a)),some (.own (OL (lab n.toNat c))),some (.st (.list (edge.map .int))),some (.own (OL (beyond.map .int))),N,y]/\Gr.Mid T r far edge (fun u=>u∈edge.take i) c beyond/\cnt c n.toNat+beyond.length=cnt far n.toNat/\∀ v∈beyond,0<=v/\v < n)
   ⟨N,y,far,[],rfl,Gr.Mid.start.imp fun u L=>by simp at L,rfl,fun v R=>by simp at R⟩ ?_ ?_
  ·rintro i p e hp l
   refine exS4 e l fun N y c beyond b=>?_
   have I:=b.1
   have J:=b.2.1
   have o:=b.2.2
   clear b l
   have M:=aA2 hp
   obtain ⟨p0,p1⟩:=hb p M
   obtain ⟨ws,a5,hw⟩:=ht.get p0 p1
   have a9:atI ((tlD tl).map PyData.list) p=some (.list (ws.map .int)):=afg (f:=PyData.list) (aco p0 (aec a5))
   row_cond go
   have Z:far p=some r:=(W.lab p r).mpr ⟨(W.edg p).mp M,aA6 _⟩
   refine acv (fun j e=>∃ y c beyond,e=[some (.st (tlV tl)),some (.st (.int a)),some (.own (OL (lab n.toNat c))),some (.st (.list (edge.map .int))),some (.own (OL (beyond.map .int))),some (.st (.int p)),y]/\Gr.Mid T r far edge (fun u=>u∈edge.take i) c beyond/\cnt c n.toNat+beyond.length=cnt far n.toNat/\(∀ v∈beyond,0<=v/\v < n)/\∀ x∈ws.take j,c x ≠ none)
    ⟨y,c,beyond,rfl,I,J,o,fun x O=>by simp at O⟩ ?_ ?_
   ·rintro j u e L l
    refine exS3 e l fun y c beyond b=>?_
    have I:=b.1
    have J:=b.2.1
    have o:=b.2.2.1
    have C:=b.2.2.2
    clear b l
    have tu:T p u:=(hw u).mp (aA2 L)
    obtain ⟨U,u1⟩:=hT _ _ tu
    have a7:atI (lab n.toNat c) u=some (oD (c u)):=amx U (by omega)
    have a8:atI (lab n.toNat c) p=some (.int (r:Int)):=by
     rw [amx p0 (by omega),I.old p r Z];rfl
    row_cond go
    rw [ax4]
    cases hf:c u with
    | none =>
     refine acj ?_
     row_cond go
     refine aqi (j:=u.toNat) rfl (by rw [acx];exact ait U (by omega)) ?_
     dsimp only [List.set_cons_zero,List.set_cons_succ,reS]
     rw [show (PyData.int ((r:Int)+1))=.int ((r+1:Nat):Int) by simp,apb U (by omega)]
     have a6:=ady (d:=r+1) U hf (n:=n.toNat) (by omega)
     have a4:beyond.length<=cnt far n.toNat:=by omega
     have X:∀ m,cnt far m<=m:=fun m=>by
      induction m with
      | zero=>exact aA6 _
      | succ m ih=>unfold cnt;split <;> omega
     have:=X n.toNat
     row_cond go
     refine ⟨some (.st (.int u)),Gr.label c u (r+1),beyond ++ [u],by simp,I.add M tu hf,by simp;omega,fun v R=>?_,fun x O=>?_⟩
     ·rcases aA7.mp R with h | h
      ·exact o v h
      ·have:v=u:=by simpa using h
       subst this;exact ⟨U,u1⟩
     ·by_cases hx2:x=u
      ·subst hx2;rw [Gr.label_same];simp
      ·rw [Gr.label_ne hx2]
       rcases ab1 L O with h | h
       ·exact C x h
       ·exact absurd h hx2
    | some d =>
     refine acz ?_
     row_cond go
     refine ⟨_,c,beyond,rfl,I,J,o,fun x O=>?_⟩
     rcases ab1 L O with h | h
     ·exact C x h
     ·subst h;rw [hf];simp
   ·rintro e l
    refine exS3 e l fun y c beyond b=>?_
    have I:=b.1
    have J:=b.2.1
    have o:=b.2.2.1
    have C:=b.2.2.2
    clear b l
    rw [aG1] at C
    refine ⟨_,_,c,beyond,rfl,?_,J,o⟩
    refine (I.did (u:=p) fun x tx=>C x ((hw x).mpr tx)).imp fun x O=>?_
    exact ab1 hp O
  ·rintro e l
   refine exS4 e l fun N y c beyond b=>?_
   have I:=b.1
   have J:=b.2.1
   have o:=b.2.2
   clear b l
   row_cond go
   refine ⟨_,?_,_,_,_,c,beyond,r+1,rfl,W.next I fun u L=>by rw [aG1];exact L,o,rfl⟩
   rw [aE9 a2]
   cases beyond with
   | nil=>rw [aE8 rfl];simp at J;omega
   | cons b0 br=>rw [aE9 (by simp)];simp at J;omega
end
def an7:VP:=fun ss Q=>∃ (n a:Int) (es:List (Int × Int)),ss=[.st (webD n es),.st (.int a)]/\0<=a/\a < n/\Q (.st .none)
def avp:VP:=fun ss Q=>∃ (n a:Int) (es:List (Int × Int)),ss=[.st (webD n es),.st (.int a)]/\n<=100/\InN n es/\es.length<=10000/\0<=a/\a < n/\Q (.own (OL (lab n.toNat (Gr.farO (Tied es) a))))
def avq:VP:=fun ss Q=>∃ (n a b:Int) (es:List (Int × Int)),ss=[.st (webD n es),.st (.int a),.st (.int b)]/\n<=100/\InN n es/\es.length<=10000/\0<=a/\a < n/\0<=b/\b < n/\Q (.st (oD (Gr.farO (Tied es) a b)))
def avr:VP:=fun ss Q=>∃ (n:Int) (es:List (Int × Int)),ss=[.st (webD n es)]/\1<=n/\n<=100/\InN n es/\es.length<=10000/\∀ b:Bool,(b=true ↔ Joined n es)->Q (.st (.bool b))
section
variable {P:Program} {w:World} {K:Frag} {mg:Str->Option Value} {base:Heap}
theorem sc_need_place:FnScope ["web","thing"] ["web","thing"] (aai s_need_place):=by row_cond sc
theorem acy (T:Txt K mg):Can P w K mg base "need_place" 4 ["web","thing"] (spP K (an7)):=by
 obtain ⟨f,fd,D⟩:=T.d_need_place
 obtain ⟨g,c⟩:=T.o_Grower
 have b:=c.mgx
 have i:=T.n_Grower_held _ b
 refine D.can (D.fn.ok sc_need_place (fun vs H Q E h=>lenP h fun ss Q' q=>by obtain ⟨n,a,es,rfl,a0,a1,k⟩:=q;rfl) (fun cdv A outer s H vs Q E j h=>?_))
 have nd:=sc_need_place.nd
 refine ⟨_,(aag (aa6 (aci (ab2 (aah (aer T) j (aaa (aan aao (pv 0) aad (fun _ _=>rfl)) (aaa (pv 1) aab)))))
   (aag aef)
   aav)),?_⟩
 refine abm h fun ss Q' q B l=>?_
 refine exS3 ss q fun n a es d=>?_
 have a0:=d.1
 have a1:=d.2.1
 have k:=d.2.2
 clear d q
 show EvS B _ _ [some (.st (webD n es)),some (.st (.int a))]
 row_cond go
 refine ⟨_,_,rfl,?_⟩
 row_cond go
 have e:btwD 0 (n - 1) (.int a)=true:=aD6 ⟨a0,by omega⟩
 rw [e]
 row_cond go
 exact k
theorem sc_all_far:FnScope ["web","a"] ["web","a"] (aai s_all_far):=by row_cond sc
theorem ahn (T:Txt K mg):Can P w K mg base "all_far" 5 ["web","a"] (spP K (avp)):=by
 obtain ⟨f,fd,D⟩:=T.d_all_far
 obtain ⟨j,d⟩:=T.o_Grower
 have c:=d.mgx
 have o:=T.n_Grower_held _ c
 refine D.can (D.fn.ok sc_all_far (fun vs H Q E h=>lenP h fun ss Q' q=>by obtain ⟨n,a,es,rfl,l,g,i,a0,a1,k⟩:=q;rfl) (fun cdv A outer s H vs Q E m h=>?_))
 have nd:=sc_all_far.nd
 refine ⟨_,(aac (aa8 (aah (acy T) m (aaa (pv 0) (aaa (pv 1) aab))))
  (aag (aaq (aah (agt T) m (aaa (aah (ae3 T) m (aaa (pv 0) aab)) (aaa (pv 1) aab)))))),?_⟩
 refine abm h fun ss Q' q B r=>?_
 refine exS3 ss q fun n a es b=>?_
 have l:=b.1
 have g:=b.2.1
 have i:=b.2.2.1
 have a0:=b.2.2.2.1
 have a1:=b.2.2.2.2.1
 have k:=b.2.2.2.2.2
 clear b q
 show EvS B _ _ [some (.st (webD n es)),some (.st (.int a))]
 row_cond go
 refine ⟨n,a,es,rfl,a0,a1,?_⟩
 row_cond go
 refine ⟨n,es,rfl,by omega,l,g,i,fun tl p _=>?_⟩
 refine a0n ?_
 row_cond go
 exact ⟨n,a,Tied es,tl,rfl,l,p,fun u v h=>(h.in g).2,a0,a1,k⟩
theorem sc_how_far:FnScope ["web","a","b"] ["web","a","b"] (aai s_how_far):=by row_cond sc
theorem an8 (T:Txt K mg):Can P w K mg base "how_far" 6 ["web","a","b"] (spP K (avq)):=by
 obtain ⟨f,fd,D⟩:=T.d_how_far
 obtain ⟨j,g⟩:=T.o_Grower
 have d:=g.mgx
 have o:=T.n_Grower_held _ d
 refine D.can (D.fn.ok sc_how_far (fun vs H Q E h=>lenP h fun ss Q' q=>by obtain ⟨n,a,b,es,rfl,p,l,i,a0,a1,b0,b1,k⟩:=q;rfl) (fun cdv A outer s H vs Q E m h=>?_))
 have nd:=sc_how_far.nd
 refine ⟨_,(aac (aa8 (aah (acy T) m (aaa (pv 0) (aaa (pv 1) aab))))
  (aac (aa8 (aah (acy T) m (aaa (pv 0) (aaa (pv 2) aab))))
  (aag (aaq (aan aao (aah (ahn T) m (aaa (pv 0) (aaa (pv 1) aab))) (pv 2) (fun _ _=>rfl)))))),?_⟩
 refine abm h fun ss Q' q B u=>?_
 refine exS4 ss q fun n a b es c=>?_
 have p:=c.1
 have l:=c.2.1
 have i:=c.2.2.1
 have a0:=c.2.2.2.1
 have a1:=c.2.2.2.2.1
 have b0:=c.2.2.2.2.2.1
 have b1:=c.2.2.2.2.2.2.1
 have k:=c.2.2.2.2.2.2.2
 clear c q
 show EvS B _ _ [some (.st (webD n es)),some (.st (.int a)),some (.st (.int b))]
 row_cond go
 refine ⟨n,a,es,rfl,a0,a1,?_⟩
 row_cond go
 refine ⟨n,b,es,rfl,b0,b1,?_⟩
 row_cond go
 refine ⟨n,a,es,rfl,p,l,i,a0,a1,?_⟩
 have r:atI (lab n.toNat (Gr.farO (Tied es) a)) b=some (oD (Gr.farO (Tied es) a b)):=amx b0 (by omega)
 row_cond go
 exact k
theorem sc_is_joined:FnScope ["web"] ["web"] (aai s_is_joined):=by row_cond sc
theorem af5 (T:Txt K mg):Can P w K mg base "is_joined" 6 ["web"] (spP K (avr)):=by
 obtain ⟨f,fd,D⟩:=T.d_is_joined
 obtain ⟨i,c⟩:=T.o_Grower
 have b:=c.mgx
 have l:=T.n_Grower_held _ b
 refine D.can (D.fn.ok sc_is_joined (fun vs H Q E h=>lenP h fun ss Q' q=>by obtain ⟨n,es,rfl,p,m,j,g,k⟩:=q;rfl) (fun cdv A outer s H vs Q E o h=>?_))
 have nd:=sc_is_joined.nd
 refine ⟨_,(aag (aaq (adk (akd o.units) ae9 (aah (ahn T) o (aaa (pv 0) (aaa aad aab))) rfl))),?_⟩
 refine abm h fun ss Q' q B u=>?_
 refine exS2 ss q fun n es a=>?_
 have p:=a.1
 have m:=a.2.1
 have j:=a.2.2.1
 have g:=a.2.2.2.1
 have k:=a.2.2.2.2
 clear a q
 show EvS B _ _ [some (.st (webD n es))]
 row_cond go
 refine ⟨n,0,es,rfl,m,j,g,by omega,by omega,?_⟩
 row_cond go
 refine ao5 rfl asg (by simp [PyData.depth]) ?_
 row_cond go
 refine k _ ?_
 rw [aE8 rfl,Bool.not_eq_true',← Bool.not_eq_true,ax6]
 constructor
 ·intro h v v0 r
  cases e:Gr.farO (Tied es) 0 v with
  | some d=>exact ⟨d,Gr.farO_some.mp e⟩
  | none=>exact absurd ⟨v,v0,by omega,e⟩ h
 ·rintro h ⟨v,v0,r,e⟩
  obtain ⟨d,hd⟩:=h v v0 (by omega)
  exact Gr.farO_none.mp e d hd
end
def dsF (es:List (Int × Int)) (u v:Int):Int:=(((Gr.farO (Tied es) u v).getD 0:Nat):Int)
def rowD (n:Nat) (r:Int->Int):List PyData:=(List.range n).map fun (i:Nat) => .int (r (i:Int))
def matD (n:Nat) (m:Int->Int->Int):List PyData:=(List.range n).map fun (u:Nat) => .list (rowD n (m (u:Int)))
theorem a0z {n:Nat} {m:Int->Int->Int} {x:Int} (a:0<=x) (b:x < n):atI (matD n m) x=some (.list (rowD n (m x))):=by
 have:=ad6 (xs:=matD n m) (j:=x.toNat) (v:=.list (rowD n (m x))) (by
  unfold matD
  rw [aA5,aA0 (by simp;omega)]
  simp [Int.max_eq_left a])
 rwa [show ((x.toNat:Nat):Int)=x by omega] at this
theorem ah4 {n:Nat} {r:Int->Int}:rowD n r=((List.range n).map fun (i:Nat)=>r (i:Int)).map .int:=by simp [rowD]
theorem afx {n:Int} {es:List (Int × Int)} (f:Joined n es) {u v:Int} (b:0<=u) (g:u < n) (v0:0<=v) (a:v < n):∃ d,Gr.farO (Tied es) u v=some d:=by
 cases e:Gr.farO (Tied es) u v with
 | some d=>exact ⟨d,rfl⟩
 | none =>
  obtain ⟨k,c⟩:=f.conn u v b g v0 a
  obtain ⟨d,_,hd⟩:=Gr.Dist.of_walk c
  exact absurd hd (Gr.farO_none.mp e d)
theorem ayr {n:Int} {es:List (Int × Int)} (b:Joined n es) {u:Int} (a:0<=u) (c:u < n):lab n.toNat (Gr.farO (Tied es) u)=rowD n.toNat (dsF es u):=by
 unfold lab rowD
 refine aE3 fun i hi=>?_
 obtain ⟨d,e⟩:=afx b a c (show 0<=(i:Int) by omega) (by have:=aB8.mp hi;omega)
 simp only [dsF,e,oD,Option.getD_some]
theorem aes {α:Type} {K:Frag} {src:List (Option Nat)} {a:En} {te:TE} {R:List PyData->En->Prop} {xs:List α} {f : α->PyData} (g : α->PyData) (m:noIo (aau src a)=true) (z:xs.length<=999999)
  (h:∀ x∈xs,∀ c:Bs,c.K=K->Ev c te (some (.st (f x)) :: aau src a) fun y j=>y=g x/\j=some (.st (f x)) :: aau src a)
  (p:R (xs.map g) a):LcV K (none :: src) (abl 0) tYes te (xs.map f) a R:=by
 have b:noIo (aau (none :: src) a)=true:=by
  show ((none :: aau src a).all fun s => !isIo s)=true
  rw [List.all_cons]
  exact (aG4 _ _).mpr ⟨rfl,m⟩
 refine ⟨fun i ys e=>ys=(xs.take i).map g/\∃ o,e=stO o :: aau src a,⟨by simp,none,rfl⟩,?_,?_,?_⟩
 ·rintro i ys e ⟨_,o,rfl⟩
  exact ⟨⟨isIo_stO.symm,adw⟩,adx adr⟩
 ·rintro i d ys e hd ⟨rfl,o,rfl⟩ c q
  rw [aA5] at hd
  cases hx:xs[i]? with
  | none=>rw [hx] at hd;cases hd
  | some x =>
   rw [hx] at hd
   cases hd
   have hi:i < xs.length:=(aA1.mp hx).1
   have n:xs.take (i+1)=xs.take i ++ [x]:=by rw [aG7,hx];rfl
   refine abf (ajr ?_)
   rw [aE8 rfl]
   intro σ G H F Q I k
   refine h x (aA2 hx) c q σ G H F Q I fun v G' H' F' d' j w g' u ⟨r,l⟩=>k v G' H' F' d' j w g' u ?_
   subst r l
   refine ⟨by simp;omega,by rw [n];simp,some _,rfl⟩
 ·rintro ys e ⟨rfl,o,rfl⟩
  rw [ag8 b]
  simpa using p
theorem ang {ns:List Int} {x y:Int} (h:ad3 ns x) (g:ad3 ns y):x=y:=Int.le_antisymm (g.2 x h.1) (h.2 y g.1)
theorem ajz:∀ {ns:List Int},ns ≠ []->∃ x,ad3 ns x
 | [a],_=>⟨a,by simp [ad3]⟩
 | a :: b :: r,_=>by
  obtain ⟨x,d,hm⟩:=ajz (ns:=b :: r) (by simp)
  by_cases h:a<=x
  ·exact ⟨x,aB4 _ d,fun y c=>by
    rcases aA8.mp c with rfl | c
    ·exact h
    ·exact hm y c⟩
  ·exact ⟨a,aB7,fun y c=>by
    rcases aA8.mp c with rfl | c
    ·exact Int.le_refl _
    ·have:=hm y c;omega⟩
theorem apk {n:Nat} (b:1<=n) (m:Int->Int->Int):∃ a:Nat->Int,∀ u:Nat,ad3 ((List.range n).map fun (i:Nat)=>m (u:Int) (i:Int)) (a u) :=
 ⟨fun u=>Classical.choose (ajz (ns:=(List.range n).map fun (i:Nat)=>m (u:Int) (i:Int)) (by simp;omega)),fun u=>Classical.choose_spec (ajz (ns:=(List.range n).map fun (i:Nat)=>m (u:Int) (i:Int)) (by simp;omega))⟩
def anh:VP:=fun ss Q=>∃ (n:Int) (es:List (Int × Int)),ss=[.st (webD n es)]/\1<=n/\n<=100/\InN n es/\es.length<=10000/\Joined n es/\Q (.st .none)
def atd:VP:=fun ss Q=>∃ (n:Int) (es:List (Int × Int)),ss=[.st (webD n es)]/\1<=n/\n<=100/\InN n es/\es.length<=10000/\Joined n es/\Q (.own (OL (matD n.toNat (dsF es))))
def aqt (n:Nat) (m:Int->Int->Int) (x:Int):Prop:=(∃ u v:Int,0<=u/\u < n/\0<=v/\v < n/\m u v=x)/\∀ u v:Int,0<=u->u < n->0<=v->v < n->m u v<=x
def ate:VP:=fun ss Q=>∃ (n:Nat) (m:Int->Int->Int),ss=[.st (.list (matD n m))]/\1<=n/\n<=1000/\∀ x,aqt n m x->Q (.st (.int x))
structure FreeAll (n:Int) (es fs:List (Int × Int)):Prop where
 mem:∀ p:Int × Int,p∈fs ↔ (0<=p.1/\p.1 < p.2/\p.2 < n/\p ∉ es)
 rise:Rise fs
theorem FreeAll.eq {n:Int} {es fs a:List (Int × Int)} (h:FreeAll n es fs) (g:FreeAll n es a):fs=a:=h.rise.eq g.rise fun p=>by rw [h.mem,g.mem]
theorem FreeAll.len {n:Int} {es fs:List (Int × Int)} (h:FreeAll n es fs) (b:n<=100):fs.length<=10000:=PsOk.len ⟨h.rise.nodup,fun p a=>by have:=(h.mem p).mp a;omega⟩ b
section
variable {P:Program} {w:World} {K:Frag} {mg:Str->Option Value} {base:Heap}
theorem sc_need_joined:FnScope ["web"] ["web"] (aai s_need_joined):=by row_cond sc
theorem ai3 (T:Txt K mg):Can P w K mg base "need_joined" 7 ["web"] (spP K (anh)):=by
 obtain ⟨f,fd,D⟩:=T.d_need_joined
 obtain ⟨i,d⟩:=T.o_Grower
 have c:=d.mgx
 have l:=T.n_Grower_held _ c
 refine D.can (D.fn.ok sc_need_joined (fun vs H Q E h=>lenP h fun ss Q' q=>by obtain ⟨n,es,rfl,p,m,j,g,o,k⟩:=q;rfl) (fun cdv A outer s H vs Q E r h=>?_))
 have nd:=sc_need_joined.nd
 refine ⟨_,(aag (aa6 (aci (ab2 (aah (af5 T) r (aaa (pv 0) aab))))
   (aag aef)
   aav)),?_⟩
 refine abm h fun ss Q' q B u=>?_
 refine exS2 ss q fun n es a=>?_
 have p:=a.1
 have m:=a.2.1
 have j:=a.2.2.1
 have g:=a.2.2.2.1
 have o:=a.2.2.2.2.1
 have k:=a.2.2.2.2.2
 clear a q
 show EvS B _ _ [some (.st (webD n es))]
 row_cond go
 refine ⟨n,es,rfl,p,m,j,g,fun b hb=>?_⟩
 have:b=true:=hb.mpr o
 subst this
 row_cond go
 exact k
theorem sc_far_rows:FnScope ["web","tied"] ["web"] (aai s_far_rows):=by row_cond sc
theorem ani (T:Txt K mg):Can P w K mg base "far_rows" 8 ["web"] (spP K (atd)):=by
 obtain ⟨f,fd,D⟩:=T.d_far_rows
 obtain ⟨j,c⟩:=T.o_Grower
 have b:=c.mgx
 have x:=T.n_Grower_held _ b
 refine D.can (D.fn.ok sc_far_rows (fun vs H Q E h=>lenP h fun ss Q' q=>by obtain ⟨n,es,rfl,z,l,d,g,r,k⟩:=q;rfl) (fun cdv A outer s H vs Q E p h=>?_))
 have nd:=sc_far_rows.nd
 refine ⟨_,(aac (aa8 (aah (ai3 T) p (aaa (pv 0) aab)))
  (aac (aal (i:=1) nd rfl (Or.inr rfl) (aah (ae3 T) p (aaa (pv 0) aab)))
  (aag (aaq (adp rfl (N:=["place","tied"]) (src:=[none,some 1]) (by exact ab0 rfl rfl rfl rfl rfl rfl) (abg rfl T.b_range (aaa (aaj abv (by rfl) T.b_len aca (aaa (pv 1) aab)) aab)) (fun _ _ _ _=>(aam (i:=0) (show List.Nodup (["place","tied"]:List Str) by decide +kernel) rfl (Or.inl rfl) (hf:=Or.inr rfl))) (fun _ _ _ _=>ack) (fun _ _ _ _=>(aah (agt T) p (aaa (pv 1) (aaa (pv 0) aab))))))))),?_⟩
 refine abm h fun ss Q' q B I=>?_
 refine exS2 ss q fun n es a=>?_
 have z:=a.1
 have l:=a.2.1
 have d:=a.2.2.1
 have g:=a.2.2.2.1
 have r:=a.2.2.2.2.1
 have k:=a.2.2.2.2.2
 clear a q
 show EvS B _ _ [some (.st (webD n es)),none]
 row_cond go
 refine ⟨n,es,rfl,z,l,d,g,r,?_⟩
 row_cond go
 refine ⟨n,es,rfl,by omega,l,d,g,fun tl y _=>?_⟩
 refine adn ajt ?_
 have F:tl.length=n.toNat:=by have:=y.1;omega
 have o:((tlD tl).map PyData.list).length=n.toNat:=by simp [tlD,F]
 row_cond go
 rw [o,show (((n.toNat:Nat):Int)).toNat=n.toNat by omega]
 unfold rngD
 refine aes (fun u:Nat => .list (rowD n.toNat (dsF es (u:Int)))) rfl (by simp;omega) (fun u C G J=>?_) ?_
 ·have m:(u:Int) < n:=by have:=aB8.mp C;omega
  row_cond go
  refine ⟨n,0+(u:Int),Tied es,tl,rfl,l,y,fun u v h=>(h.in d).2,by omega,by omega,ac5 ⟨?_,rfl⟩⟩
  rw [aH8,ayr r (by omega) m]
 ·row_cond go
  exact k
theorem sc_most_far:FnScope ["rows"] ["rows"] (aai s_most_far):=by row_cond sc
theorem anj (T:Txt K mg):Can P w K mg base "most_far" 1 ["rows"] (spP K (ate)):=by
 obtain ⟨f,fd,D⟩:=T.d_most_far
 obtain ⟨g,b⟩:=T.o_Grower
 have a:=b.mgx
 have p:=T.n_Grower_held _ a
 refine D.can (D.fn.ok sc_most_far (fun vs H Q E h=>lenP h fun ss Q' q=>by obtain ⟨n,m,rfl,r,z,k⟩:=q;rfl) (fun cdv A outer s H vs Q E J h=>?_))
 have nd:=sc_most_far.nd
 refine ⟨_,(aag (aaq (aaj (aez rfl) (by rfl) T.b_max acr (aaa (adp rfl (N:=["row"]) (src:=[none]) (by exact ab0 rfl rfl rfl rfl rfl rfl) (aby (pv 0)) (fun _ _ _ _=>(aam (i:=0) (show List.Nodup (["row"]:List Str) by decide +kernel) rfl (Or.inl rfl) (hf:=Or.inr rfl))) (fun _ _ _ _=>ack) (fun _ _ _ _=>(aaj (show abb _ (.builtin "max") (afp K) from (aez rfl)) (by rfl) T.b_max acr (aaa (pv 0) aab)))) aab)))),?_⟩
 refine abm h fun ss Q' q B O=>?_
 refine exS2 ss q fun n m c=>?_
 have r:=c.1
 have z:=c.2.1
 have k:=c.2.2
 clear c q
 show EvS B _ _ [some (.st (.list (matD n m)))]
 obtain ⟨o,d⟩:=apk r m
 row_cond go
 unfold matD
 refine aes (fun u:Nat => .int (o u)) rfl (by simp;omega) (fun u G L S=>?_) ?_
 ·row_cond go
  rw [ah4]
  exact ahw (by simp;omega) fun x l=>⟨by rw [ang l (d u)],rfl⟩
 ·row_cond go
  rw [show (List.range n).map (fun u:Nat=>PyData.int (o u))=((List.range n).map o).map .int by rw [aD8];rfl]
  refine ahw (by simp;omega) fun x l=>?_
  row_cond go
  refine k x ⟨?_,fun u v M I v0 R=>?_⟩
  ·obtain ⟨i,hi,e⟩:=aB6.mp l.1
   obtain ⟨j,C,e2⟩:=aB6.mp (d i).1
   exact ⟨i,j,by omega,by have:=aB8.mp hi;omega,by omega,by have:=aB8.mp C;omega,e2.trans e⟩
  ·have y:=(d u.toNat).2 (m ((u.toNat:Nat):Int) ((v.toNat:Nat):Int)) (aB6.mpr ⟨v.toNat,aB8.mpr (by omega),rfl⟩)
   have F:=l.2 (o u.toNat) (aB6.mpr ⟨u.toNat,aB8.mpr (by omega),rfl⟩)
   rw [show ((u.toNat:Nat):Int)=u by omega,show ((v.toNat:Nat):Int)=v by omega] at y
   omega
end
structure FarOk (n:Int) (es:List (Int × Int)) (x a b:Int):Prop where
 top:aqt n.toNat (dsF es) x
 a0:0<=a
 a1:a < n
 b0:0<=b
 b1:b < n
 eq:dsF es a b=x
 fst:∀ u v:Int,0<=u->u < n->0<=v->v < n->dsF es u v=x->a < u\/(a=u/\b<=v)
def aqu:VP:=fun ss Q=>∃ (n:Int) (es:List (Int × Int)),ss=[.st (webD n es)]/\1<=n/\n<=100/\InN n es/\es.length<=10000/\Joined n es/\∀ x a b,FarOk n es x a b->Q (.st (.tuple [.int x,.int a,.int b]))
theorem ank {ns:List Int} {k:Int} (h:k∈ns):∃ j:Nat,ns[j]?=some k/\∀ m:Nat,m < j->ns[m]? ≠ some k:=by
 induction ns with
 | nil=>simp at h
 | cons n ns ih =>
  by_cases e:n=k
  ·exact ⟨0,by rw [e];rfl,fun m hm=>by omega⟩
  ·obtain ⟨j,b,a⟩:=ih ((aA8.mp h).resolve_left fun z=>e z.symm)
   refine ⟨j+1,b,fun m hm=>?_⟩
   cases m with
   | zero=>simpa using e
   | succ m=>exact a m (by omega)
section
variable {P:Program} {w:World} {K:Frag} {mg:Str->Option Value} {base:Heap}
theorem sc_farthest_two:FnScope ["web","rows","far","a"] ["web"] (aai s_farthest_two):=by row_cond sc
theorem aet (T:Txt K mg):Can P w K mg base "farthest_two" 9 ["web"] (spP K (aqu)):=by
 obtain ⟨f,fd,D⟩:=T.d_farthest_two
 obtain ⟨y,m⟩:=T.o_Grower
 have l:=m.mgx
 have O:=T.n_Grower_held _ l
 refine D.can (D.fn.ok sc_farthest_two (fun vs H Q E h=>lenP h fun ss Q' q=>by obtain ⟨n,es,rfl,n0,n1,z,r,hJ,k⟩:=q;rfl) (fun cdv A outer s H vs Q E hr h=>?_))
 have nd:=sc_farthest_two.nd
 refine ⟨_,(aac (aal (i:=1) nd rfl (Or.inl rfl) (aah (ani T) hr (aaa (pv 0) aab)))
  (aac (aal (i:=2) nd rfl (Or.inl rfl) (aah (anj T) hr (aaa (pv 1) aab)))
  (aac (aal (i:=3) nd rfl (Or.inl rfl) (acn PySem.F.plainAttrs_list PySem.F.slot_list_index PySem.F.type_list_index am6 (adp rfl (N:=["row"]) (src:=[none]) (by exact ab0 rfl rfl rfl rfl rfl rfl) (aby (pv 1)) (fun _ _ _ _=>(aam (i:=0) (show List.Nodup (["row"]:List Str) by decide +kernel) rfl (Or.inl rfl) (hf:=Or.inr rfl))) (fun _ _ _ _=>ack) (fun _ _ _ _=>(aaj (show abb _ (.builtin "max") (afp K) from (aez rfl)) (by rfl) T.b_max acr (aaa (pv 0) aab)))) (aaa (pv 2) aab)))
  (aag (aaq (aa4 (aaa (pv 2) (aaa (pv 3) (aaa (acn PySem.F.plainAttrs_list PySem.F.slot_list_index PySem.F.type_list_index am6 (aan aao (pv 1) (pv 3) (fun _ _=>rfl)) (aaa (pv 2) aab)) aab))))))))),?_⟩
 refine abm h fun ss Q' q B hK=>?_
 refine exS2 ss q fun n es c=>?_
 have n0:=c.1
 have n1:=c.2.1
 have z:=c.2.2.1
 have r:=c.2.2.2.1
 have hJ:=c.2.2.2.2.1
 have k:=c.2.2.2.2.2
 clear c q
 show EvS B _ _ [some (.st (webD n es)),none,none,none]
 have hn:1<=n.toNat:=by omega
 obtain ⟨G,d⟩:=apk hn (dsF es)
 row_cond go
 refine ⟨n,es,rfl,n0,n1,z,r,hJ,adn ac0 ?_⟩
 row_cond go
 refine ⟨n.toNat,dsF es,rfl,hn,by omega,fun x p=>?_⟩
 have Y:x∈(List.range n.toNat).map G:=by
  obtain ⟨⟨u,v,W,Z,v0,v1,e⟩,g⟩:=p
  refine aB6.mpr ⟨u.toNat,aB8.mpr (by omega),?_⟩
  have I:=(d u.toNat).2 (dsF es ((u.toNat:Nat):Int) ((v.toNat:Nat):Int)) (aB6.mpr ⟨v.toNat,aB8.mpr (by omega),rfl⟩)
  rw [show ((u.toNat:Nat):Int)=u by omega,show ((v.toNat:Nat):Int)=v by omega,e] at I
  obtain ⟨j,X,e2⟩:=aB6.mp (d u.toNat).1
  have:=g u j W Z (by omega) (by have:=aB8.mp X;omega)
  rw [show ((u.toNat:Nat):Int)=u by omega] at e2
  omega
 obtain ⟨a,ha,o⟩:=ank Y
 have R:a < n.toNat:=by have:=(aA1.mp ha).1;simpa using this
 have M:G a=x:=by
  rw [aA5,aD7 R] at ha
  simpa using ha
 have U:x∈(List.range n.toNat).map fun (i:Nat)=>dsF es (a:Int) (i:Int):=by rw [← M];exact (d a).1
 obtain ⟨b,hb,C⟩:=ank U
 have L:b < n.toNat:=by have:=(aA1.mp hb).1;simpa using this
 have J:dsF es (a:Int) (b:Int)=x:=by
  rw [aA5,aD7 L] at hb
  simpa using hb
 have a0:atI (matD n.toNat (dsF es)) (a:Int)=some (.list (rowD n.toNat (dsF es (a:Int)))):=a0z (by omega) (by omega)
 row_cond go
 unfold matD
 refine aes (fun u:Nat => .int (G u)) rfl (by simp;omega) (fun u hu B' hB=>?_) ?_
 ·row_cond go
  rw [ah4]
  exact ahw (by simp;omega) fun x p=>⟨by rw [ang p (d u)],rfl⟩
 ·refine ⟨(List.range n.toNat).map G,by rw [aD8];rfl,?_⟩
  row_cond go
  refine ⟨x,a,rfl,ha,o,?_⟩
  row_cond go
  refine ⟨(List.range n.toNat).map fun (i:Nat)=>dsF es (a:Int) (i:Int),by rw [ah4],?_⟩
  row_cond go
  refine ⟨x,b,rfl,hb,C,?_⟩
  row_cond go
  refine k x a b ⟨p,by omega,by omega,by omega,by omega,J,fun u v W Z v0 v1 e=>?_⟩
  have hu:(a:Int)<=u:=by
   apply aD3
   intro S
   refine o u.toNat (by omega) ?_
   rw [aA5,aD7 (by omega)]
   have I:=(d u.toNat).2 (dsF es ((u.toNat:Nat):Int) ((v.toNat:Nat):Int)) (aB6.mpr ⟨v.toNat,aB8.mpr (by omega),rfl⟩)
   rw [show ((u.toNat:Nat):Int)=u by omega,show ((v.toNat:Nat):Int)=v by omega,e] at I
   obtain ⟨j,X,e2⟩:=aB6.mp (d u.toNat).1
   have:=p.2 u j W (by omega) (by omega) (by have:=aB8.mp X;omega)
   rw [show ((u.toNat:Nat):Int)=u by omega] at e2
   simp only [aH5,Option.some.injEq]
   omega
  by_cases hau:(a:Int) < u
  ·exact .inl hau
  ·refine .inr ⟨by omega,?_⟩
   apply aD3
   intro S
   refine C v.toNat (by omega) ?_
   rw [aA5,aD7 (by omega)]
   simp only [aH5,Option.some.injEq]
   rw [show ((v.toNat:Nat):Int)=v by omega,show (a:Int)=u by omega]
   exact e
end
def acd (n:Int):PyData->Bool
 | .tuple [.int a,.int b]=>decide (0<=a/\a<=n - 1) && decide (0<=b/\b<=n - 1) && decide (a < b)
 | _=>false
def afy (n:Int):PyData->Bool
 | .list ds=>ds.all (acd n)
 | _=>false
def a17:VP:=fun ss Q=>∃ (n:Int) (d:PyData),ss=[.st (.int n),.st d]/\Q (.st (.bool (acd n d)))
def a00:VP:=fun ss Q=>∃ (n:Int) (d:PyData),ss=[.st (.int n),.st d]/\(∀ ds,d=.list ds->ds.length<=100000)/\Q (.st (.bool (afy n d)))
def avs:VP:=fun ss Q=>∃ (ps:List (Int × Int)),ss=[.st (.list (ps.map prD))]/\ps.length<=100000/\∀ b:Bool,(b=true ↔ Rise ps)->Q (.st (.bool b))
structure PutOk (n:Int) (es fs:List (Int × Int)):Prop where
 inn:∀ p∈fs,0<=p.1/\p.1 < p.2/\p.2 < n
 nd:(es ++ fs).Nodup
def a01:VP:=fun ss Q=>∃ (n:Int) (es fs:List (Int × Int)),ss=[.st (webD n es),.st (.list (fs.map prD))]/\es.length<=10000/\fs.length<=10000/\PutOk n es fs/\∀ qs,Rise qs->qs.Perm (es ++ fs)->Q (.own (OW (.int n) (qs.map prD)))
section
variable {P:Program} {w:World} {K:Frag} {mg:Str->Option Value} {base:Heap}
theorem sc_is_tie:FnScope ["n","thing","a","b"] ["n","thing"] (aai s_is_tie):=by row_cond sc
theorem aqv (T:Txt K mg):Can P w K mg base "is_tie" 4 ["n","thing"] (spP K (a17)):=by
 obtain ⟨f,fd,D⟩:=T.d_is_tie
 obtain ⟨m,j⟩:=T.o_Grower
 have g:=j.mgx
 have p:=T.n_Grower_held _ g
 refine D.can (D.fn.ok sc_is_tie (fun vs H Q E h=>lenP h fun ss Q' q=>by obtain ⟨n,d,rfl,k⟩:=q;rfl) (fun cdv A outer s H vs Q E r h=>?_))
 have nd:=sc_is_tie.nd
 refine ⟨_,(aac (aa6 (PW.pt (ah6 (aci (ab2 (aaj acu (by rfl) T.b_isinstance abp (aaa (pv 1) (aaa (ac7 (v:=.ty "tuple") rfl T.b_tuple aho rfl) aab))))) (ah5 (aaw apu (aaj abv (by rfl) T.b_len aca (aaa (pv 1) aab)) aad (aax _)))))
   (aag (aaq acw))
   aav)
  (aac (ab9 (pv 1) (acq rfl (aa2 (aam (i:=2) nd rfl (Or.inl rfl)) (aa2 (aam (i:=3) nd rfl (Or.inl rfl)) ab8))))
  (aag (aaq (agb (aah (aer T) r (aaa (pv 0) (aaa (pv 2) aab))) (agb (aah (aer T) r (aaa (pv 0) (aaa (pv 3) aab))) (ah7 (adk apv (pv 2) (pv 3) (aax _))))))))),?_⟩
 refine abm h fun ss Q' q B u=>?_
 refine exS2 ss q fun n d l=>?_
 have k:=l
 clear l q
 show EvS B _ _ [some (.st (.int n)),some (.st d),none,none]
 row_cond go
 cases d with
 | tuple xs =>
  refine ad9 ?_
  row_cond go
  rcases (show xs.length=2\/xs.length ≠ 2 by omega) with o | o
  ·match xs,o with
   | [x,y],_ =>
    row_cond go
    refine ⟨n,x,rfl,?_⟩
    row_cond go
    have c:acd n (.tuple [x,y])=(btwD 0 (n - 1) x && (btwD 0 (n - 1) y && match x,y with | .int a,.int b=>decide (a < b) | _,_=>false)):=by
     cases x <;> cases y <;> simp [acd,btwD,Bool.and_assoc]
    cases hx:btwD 0 (n - 1) x with
    | false =>
     rw [hx,Bool.false_and] at c
     refine acz ?_
     rw [← c];exact k
    | true =>
     refine acj ?_
     row_cond go
     refine ⟨n,y,rfl,?_⟩
     row_cond go
     cases hy:btwD 0 (n - 1) y with
     | false =>
      rw [hx,hy] at c
      refine acz ?_
      rw [show false=acd n (.tuple [x,y]) by rw [c];rfl];exact k
     | true =>
      refine acj ?_
      cases x with
      | int a =>
       cases y with
       | int b =>
        row_cond go
        rw [hx,hy] at c
        rw [show decide (a < b)=acd n (.tuple [.int a,.int b]) by rw [c];rfl];exact k
       | _=>simp [btwD] at hy
      | _=>simp [btwD] at hx
  ·row_cond go
   have:acd n (.tuple xs)=false:=by
    match xs,o with
    | [],_=>rfl
    | [x],_=>cases x <;> rfl
    | [_,_],h=>exact absurd rfl h
    | x :: y :: _ :: _,_=>cases x <;> cases y <;> rfl
   rw [← this];exact k
 | _ =>
  refine ajk ?_
  row_cond go
  exact k
theorem sc_are_ties:FnScope ["n","thing"] ["n","thing"] (aai s_are_ties):=by row_cond sc
theorem anl (T:Txt K mg):Can P w K mg base "are_ties" 5 ["n","thing"] (spP K (a00)):=by
 obtain ⟨f,fd,D⟩:=T.d_are_ties
 obtain ⟨g,b⟩:=T.o_Grower
 have a:=b.mgx
 have j:=T.n_Grower_held _ a
 refine D.can (D.fn.ok sc_are_ties (fun vs H Q E h=>lenP h fun ss Q' q=>by obtain ⟨n,d,rfl,l,k⟩:=q;rfl) (fun cdv A outer s H vs Q E m h=>?_))
 have nd:=sc_are_ties.nd
 refine ⟨_,(aag (aaq (agb (aaj acu (by rfl) T.b_isinstance abp (aaa (pv 1) (aaa (ac7 (v:=.ty "list") rfl T.b_list ad8 rfl) aab))) (ah7 (aaj (akm rfl) (by rfl) T.b_all ar3 (aaa (adp rfl (N:=["tie","n"]) (src:=[none,some 0]) (by exact ab0 rfl rfl rfl rfl rfl rfl) (aby (pv 1)) (fun _ _ _ _=>(aam (i:=0) (show List.Nodup (["tie","n"]:List Str) by decide +kernel) rfl (Or.inl rfl) (hf:=Or.inr rfl))) (fun _ _ _ _=>ack) (fun _ _ _ _=>(aah (aqv T) m (aaa (pv 1) (aaa (pv 0) aab))))) aab)))))),?_⟩
 refine abm h fun ss Q' q B p=>?_
 refine exS2 ss q fun n d c=>?_
 have l:=c.1
 have k:=c.2
 clear c q
 show EvS B _ _ [some (.st (.int n)),some (.st d)]
 row_cond go
 cases d with
 | list ds =>
  have l:=l ds rfl
  refine acj ?_
  row_cond go
  refine ao3 (fun t => .bool (acd n t)) rfl (by omega) (fun t _ o r=>?_) ?_
  ·row_cond go
   exact ⟨n,t,rfl,rfl,rfl⟩
  ·row_cond go
   rw [show (ds.map fun t=>PyData.bool (acd n t))=(ds.map (acd n)).map .bool by rw [aD8];rfl]
   refine apd ?_
   row_cond go
   rw [show (ds.map (acd n)).all id=afy n (.list ds) by simp [afy,List.all_map]]
   exact k
 | _ =>
  refine acz ?_
  exact k
theorem sc_is_rising:FnScope ["things"] ["things"] (aai s_is_rising):=by row_cond sc
theorem ak7 (T:Txt K mg):Can P w K mg base "is_rising" 1 ["things"] (spP K (avs)):=by
 obtain ⟨f,fd,D⟩:=T.d_is_rising
 obtain ⟨j,b⟩:=T.o_Grower
 have a:=b.mgx
 have m:=T.n_Grower_held _ a
 refine D.can (D.fn.ok sc_is_rising (fun vs H Q E h=>lenP h fun ss Q' q=>by obtain ⟨ps,rfl,u,k⟩:=q;rfl) (fun cdv A outer s H vs Q E r h=>?_))
 have nd:=sc_is_rising.nd
 refine ⟨_,(aag (aaq (aaj (akm rfl) (by rfl) T.b_all ar3 (aaa (adp rfl (N:=["at","things"]) (src:=[none,some 0]) (by exact ab0 rfl rfl rfl rfl rfl rfl) (abg rfl T.b_range (aaa (aat aeg (aaj abv (by rfl) T.b_len aca (aaa (pv 0) aab)) aad) aab)) (fun _ _ _ _=>(aam (i:=0) (show List.Nodup (["at","things"]:List Str) by decide +kernel) rfl (Or.inl rfl) (hf:=Or.inr rfl))) (fun _ _ _ _=>ack) (fun _ _ _ _=>(adk (show OpR _ (compareOp .Lt) (rLtT K) from azc r.units0) (aan (show IxR _ (acg K) from aao) (pv 1) (pv 0) (fun _ _=>rfl)) (aan (show IxR _ (acg K) from aao) (pv 1) (aat abe (pv 0) aad) (fun _ _=>rfl)) (aax _)))) aab)))),?_⟩
 refine abm h fun ss Q' q B y=>?_
 refine exS1 ss q fun ps c=>?_
 have u:=c.1
 have k:=c.2
 clear c q
 show EvS B _ _ [some (.st (.list (ps.map prD)))]
 row_cond go
 rw [aA3]
 row_cond go
 refine ao3 (fun d=>match d with | .int i => .bool (match ps[i.toNat]?,ps[i.toNat+1]? with | some p,some q=>HT.lexLt (p2 p) (p2 q) | _,_=>false) | _ => .none) rfl (by rw [acl];omega) (fun d hd v z=>?_) ?_
 ·obtain ⟨i,hi⟩:=List.mem_iff_getElem?.mp hd
  obtain ⟨hi,rfl⟩:=ahv hi
  have n:i < ps.length:=by omega
  have o:i+1 < ps.length:=by omega
  have a1:atI (ps.map prD) (0+(i:Int))=some (prD ps[i]):=afg (f:=prD) (aco (by omega) (by rw [show (0+(i:Int)).toNat=i by omega];exact aA0 n))
  have x:atI (ps.map prD) (0+(i:Int)+1)=some (prD ps[i+1]):=afg (f:=prD) (aco (by omega) (by rw [show (0+(i:Int)+1).toNat=i+1 by omega];exact aA0 o))
  row_cond go
  refine ayc ?_
  row_cond go
  refine ⟨?_,rfl⟩
  simp [n,o]
 ·row_cond go
  have e:(rngD 0 ((ps.length:Int) - 1).toNat).map (fun d=>match d with | .int i=>PyData.bool (match ps[i.toNat]?,ps[i.toNat+1]? with | some p,some q=>HT.lexLt (p2 p) (p2 q) | _,_=>false) | _ => .none)=((List.range (ps.length - 1)).map fun i=>match ps[i]?,ps[i+1]? with | some p,some q=>HT.lexLt (p2 p) (p2 q) | _,_=>false).map .bool:=by
   unfold rngD
   rw [aD8,aD8,show ((ps.length:Int) - 1).toNat=ps.length - 1 by omega]
   apply aE3
   intro i _
   simp
  rw [e]
  refine apd ?_
  row_cond go
  refine k _ ?_
  rw [List.all_map,aE7]
  unfold Rise
  rw [am4 ltP (fun h g=>aso h g)]
  constructor
  ·intro h i hi
   have:=h i (aB8.mpr (by omega))
   simp [show i < ps.length by omega,hi] at this
   exact (lex2 _ _).mp this
  ·intro h i hi
   have l:i+1 < ps.length:=by have:=aB8.mp hi;omega
   have:=(lex2 _ _).mpr (h i l)
   simp [show i < ps.length by omega,l,this]
theorem sc_with_ties:FnScope ["web","ties","n","there","every"] ["web","ties"] (aai s_with_ties):=by row_cond sc
theorem af6 (T:Txt K mg):Can P w K mg base "with_ties" 6 ["web","ties"] (spP K (a01)):=by
 obtain ⟨f,fd,D⟩:=T.d_with_ties
 obtain ⟨j,d⟩:=T.o_Grower
 have a:=d.mgx
 have o:=T.n_Grower_held _ a
 refine D.can (D.fn.ok sc_with_ties (fun vs H Q E h=>lenP h fun ss Q' q=>by obtain ⟨n,es,fs,rfl,x,v,m,k⟩:=q;rfl) (fun cdv A outer s H vs Q E l h=>?_))
 have nd:=sc_with_ties.nd
 refine ⟨_,(aac (ab9 (pv 0) (acq rfl (aa2 (aam (i:=2) nd rfl (Or.inl rfl)) (aa2 (aam (i:=3) nd rfl (Or.inl rfl)) ab8))))
  (aac (aa6 (aci (ab2 (aah (anl T) l (aaa (pv 2) (aaa (pv 1) aab)))))
   (aag aef)
   aav)
  (aac (aal (i:=4) nd rfl (Or.inl rfl) (aaj ad4 (by rfl) T.b_sorted ac9 (aaa (aat aib (pv 3) (pv 1)) aab)))
  (aac (aa6 (aci (ab2 (aah (ak7 T) l (aaa (pv 4) aab))))
   (aag aef)
   aav)
  (aag (aaq (aa4 (aaa (pv 2) (aaa (pv 4) aab))))))))),?_⟩
 refine abm h fun ss Q' q B y=>?_
 refine exS3 ss q fun n es fs c=>?_
 have x:=c.1
 have v:=c.2.1
 have m:=c.2.2.1
 have k:=c.2.2.2
 clear c q
 show EvS B _ _ [some (.st (webD n es)),some (.st (.list (fs.map prD))),none,none,none]
 row_cond go
 refine ⟨n,_,rfl,fun ds e=>by cases e;rw [aA3];omega,?_⟩
 row_cond go
 have u:afy n (.list (fs.map prD))=true:=by
  show ((fs.map prD).all (acd n))=true
  rw [List.all_map,aE7]
  intro p g
  have:=m.inn p g
  simp [acd,prD];omega
 rw [u]
 row_cond go
 refine ae2 (ps:=es ++ fs) ?_
 row_cond go
 rw [← aD9]
 refine ⟨rfl,fun qs g r=>?_⟩
 have l:Rise qs:=ajv g m.nd r
 refine abf ?_
 dsimp only [List.set_cons_zero,List.set_cons_succ]
 try refine' ajs (by assumption) ?_
 refine aoy (asb (aox (ahu (avf (.inl rfl) (aou ⟨_,_,.inl rfl,ac0,qs,rfl,by rw [g.length_eq,aB0];omega,fun b hb=>?_⟩)))))
 row_cond go
 rw [hb.mpr l]
 row_cond go
 exact k qs l g
end
def atf:VP:=fun ss Q=>∃ (a b c:Int),ss=[.st (.int a),.st (.int b),.st (.int c)]/\a<=c/\c<=b/\Q (.st .none)
section
variable {P:Program} {w:World} {K:Frag} {mg:Str->Option Value} {base:Heap}
theorem sc_need_number:FnScope ["least","most","thing"] ["least","most","thing"] (aai s_need_number):=by row_cond sc
theorem ai4 (T:Txt K mg):Can P w K mg base "need_number" 3 ["least","most","thing"] (spP K (atf)):=by
 obtain ⟨f,fd,D⟩:=T.d_need_number
 obtain ⟨j,g⟩:=T.o_Grower
 have d:=g.mgx
 have l:=T.n_Grower_held _ d
 refine D.can (D.fn.ok sc_need_number (fun vs H Q E h=>lenP h fun ss Q' q=>by obtain ⟨a,b,c,rfl,m,n,k⟩:=q;rfl) (fun cdv A outer s H vs Q E o h=>?_))
 have nd:=sc_need_number.nd
 refine ⟨_,(aag (aa6 (aci (ab2 (aah (afh T) o (aaa (pv 0) (aaa (pv 1) (aaa (pv 2) aab))))))
   (aag aef)
   aav)),?_⟩
 refine abm h fun ss Q' q B p=>?_
 refine exS3 ss q fun a b c i=>?_
 have m:=i.1
 have n:=i.2.1
 have k:=i.2.2
 clear i q
 show EvS B _ _ [some (.st (.int a)),some (.st (.int b)),some (.st (.int c))]
 row_cond go
 refine ⟨a,b,.int c,rfl,?_⟩
 have:btwD a b (.int c)=true:=by simp [btwD];omega
 rw [this]
 row_cond go
 exact k
end
def FarN (n:Int) (es:List (Int × Int)) (d:PyData):Prop:=(Joined n es/\∃ x,aqt n.toNat (dsF es) x/\d=.int x)\/(¬ Joined n es/\d=.none)
structure GW (n:Int) (es:List (Int × Int)):Prop where
 lo:1<=n
 hi:n<=61
 inn:InN n es
 len:es.length<=4000
def atg:VP:=fun ss Q=>∃ (n:Int) (es:List (Int × Int)),ss=[.st (webD n es)]/\GW n es/\∀ d,FarN n es d->Q (.st d)
abbrev gF (n:Int) (es:List (Int × Int)):List (Str × PyData):=[("held",webD n es)]
def ays (mg:Str->Option Value):VIo:=fun A ss Q=>∃ (C:Addr) (n:Int) (es:List (Int × Int)),mg "Grower" = some (.ref C)/\A=OI C []/\ss=[.st (webD n es)]/\Q (OGW C "held" (.int n) (es.map prD)) (.st .none)
def avt (mg:Str->Option Value):VIo:=fun A ss Q=>∃ (C:Addr) (n m:Int) (es qs:List (Int × Int)),mg "Grower" = some (.ref C)/\A=OI C (gF n es)/\ss=[.st (webD m qs)]/\GW n es/\GW m qs/\∀ d0 d1,FarN n es d0->FarN m qs d1->Q (OI C (gF m qs)) (.st (.tuple [d0,d1]))
def aqw (mg:Str->Option Value):VIo:=fun A ss Q=>∃ (C:Addr) (n a:Int) (es:List (Int × Int)),mg "Grower" = some (.ref C)/\A=OI C (gF n es)/\ss=[.st (.int a)]/\GW n es/\n < 60/\PsOk n es/\es.length<=2500/\0<=a/\a < n/\∀ qs d0 d1,Rise qs->qs.Perm (es ++ [(a,n)])->FarN n es d0->FarN (n+1) qs d1->Q (OI C (gF (n+1) qs)) (.st (.tuple [d0,d1]))
def avu (mg:Str->Option Value):VIo:=fun A ss Q=>∃ (C:Addr) (n a b:Int) (es:List (Int × Int)),mg "Grower" = some (.ref C)/\A=OI C (gF n es)/\ss=[.st (.int a),.st (.int b)]/\GW n es/\PutOk n es [(a,b)]/\es.length<=2500/\∀ qs d0 d1,Rise qs->qs.Perm (es ++ [(a,b)])->FarN n es d0->FarN n qs d1->Q (OI C (gF n qs)) (.st (.tuple [d0,d1]))
theorem ath {n m a b:Int} {es qs:List (Int × Int)} (h:GW n es) (hm:n<=m) (c:m<=61) (o:es.length<=2500) (j:0<=a) (i:a < m) (l:0<=b) (g:b < m) (d:qs.Perm (es ++ [(a,b)])):GW m qs :=
 ⟨by have:=h.lo;omega,c,fun p f=>by
  rcases aA7.mp (d.mem_iff.mp f) with z | z
  ·have:=h.inn p z
   exact ⟨by omega,by omega,by omega,by omega⟩
  ·cases aC1.mp z
   exact ⟨j,i,l,g⟩,by rw [d.length_eq,aB0];simp;omega⟩
section
variable {P:Program} {w:World} {K:Frag} {mg:Str->Option Value} {base:Heap}
theorem sc_far_or_none:FnScope ["web"] ["web"] (aai s_far_or_none):=by row_cond sc
theorem ae4 (T:Txt K mg):Can P w K mg base "far_or_none" 10 ["web"] (spP K (atg)):=by
 obtain ⟨f,fd,D⟩:=T.d_far_or_none
 obtain ⟨j,d⟩:=T.o_Grower
 have c:=d.mgx
 have o:=T.n_Grower_held _ c
 refine D.can (D.fn.ok sc_far_or_none (fun vs H Q E h=>lenP h fun ss Q' q=>by obtain ⟨n,es,rfl,i,m⟩:=q;rfl) (fun cdv A outer s H vs Q E r h=>?_))
 have nd:=sc_far_or_none.nd
 refine ⟨_,(aag (aaq (atn (ab2 (aah (af5 T) r (aaa (pv 0) aab))) (aan aao (aah (aet T) r (aaa (pv 0) aab)) aad (fun _ _=>rfl)) ae9))),?_⟩
 refine abm h fun ss Q' q B y=>?_
 refine exS2 ss q fun n es g=>?_
 have i:=g.1
 have m:=g.2
 clear g q
 show EvS B _ _ [some (.st (webD n es))]
 have hn:=i.lo
 have u:=i.hi
 have l:=i.inn
 have p:=i.len
 row_cond go
 refine ⟨n,es,rfl,hn,by omega,l,by omega,fun b hb=>?_⟩
 cases b with
 | true =>
  row_cond go
  refine ⟨n,es,rfl,hn,by omega,l,by omega,hb.mp rfl,fun x a b v=>?_⟩
  row_cond go
  exact m _ (.inl ⟨hb.mp rfl,x,v.top,rfl⟩)
 | false =>
  row_cond go
  exact m _ (.inr ⟨fun z=>(by have:=hb.mpr z;cases this),rfl⟩)
theorem sc_Grower____init__:FnScope ["self","web","n","ties"] ["self","web"] (aai s_Grower____init__):=by row_cond sc
theorem afz (T:Txt K mg) {b:Addr} (a:mg "Grower" = some (.ref b)):CanM P w K mg base b "__init__" 1 ["self","web"] (spI K (ays mg)):=by
 obtain ⟨f,fd,D⟩:=T.m_Grower____init__ _ a
 have d:ObAt K mg "Grower" b:=by
  obtain ⟨c,o⟩:=T.o_Grower
  have:=o.mgx.symm.trans a
  cases this
  exact o
 have g:=T.n_Grower_held _ a
 refine D.can (D.fn.ok sc_Grower____init__ (fun vs H Q E h=>lenI h fun A ss Q' q=>by obtain ⟨C,n,es,l,rfl,rfl,j⟩:=q;rfl) (fun cdv A outer s H vs Q E p h=>?_))
 have nd:=sc_Grower____init__.nd
 refine ⟨_,(aac (ab9 (pv 1) (acq rfl (aa2 (aam (i:=2) nd rfl (Or.inl rfl)) (aa2 (aam (i:=3) nd rfl (Or.inl rfl)) ab8))))
  (aag (arh (pv 0) (aa4 (aaa (pv 2) (aaa (ac8 afv (by rfl) T.b_list ad8 (aaa (pv 3) aab)) aab))) rfl))),?_⟩
 refine adi h fun m ss Q' q B r=>?_
 obtain ⟨C,n,es,l,rfl,rfl,j⟩:=q
 show EvS B _ _ [some (.io (OI C [])),some (.st (webD n es)),none,none]
 obtain rfl:b=C:=by have:=a.symm.trans l;cases this;rfl
 repeat (first | (refine avn d.cl g ?_) | (refine am9 ?_) | row_cond st)
 exact ⟨_,rfl,_,_,_,rfl,rfl,.inr rfl,_,rfl,j⟩
theorem sc_Grower__become:FnScope ["self","grown","before"] ["self","grown"] (aai s_Grower__become):=by row_cond sc
theorem ad0 (T:Txt K mg) {b:Addr} (a:mg "Grower" = some (.ref b)):CanM P w K mg base b "become" 11 ["self","grown"] (spI K (avt mg)):=by
 obtain ⟨f,fd,D⟩:=T.m_Grower__become _ a
 have d:ObAt K mg "Grower" b:=by
  obtain ⟨c,o⟩:=T.o_Grower
  have:=o.mgx.symm.trans a
  cases this
  exact o
 have g:=T.n_Grower_held _ a
 refine D.can (D.fn.ok sc_Grower__become (fun vs H Q E h=>lenI h fun A ss Q' q=>by obtain ⟨C,n,m,es,qs,u,rfl,rfl,l,j,r⟩:=q;rfl) (fun cdv A outer s H vs Q E p h=>?_))
 have nd:=sc_Grower__become.nd
 refine ⟨_,(aac (aal (i:=2) nd rfl (Or.inl rfl) (aah (ae4 T) p (aaa (aei (pv 0) rfl) aab)))
  (aac (arh (pv 0) (pv 1) rfl)
  (aag (aaq (aa4 (aaa (pv 2) (aaa (aah (ae4 T) p (aaa (pv 1) aab)) aab))))))),?_⟩
 refine adi h fun F ss Q' q B G=>?_
 obtain ⟨C,n,m,es,qs,u,rfl,rfl,l,j,r⟩:=q
 show EvS B _ _ [some (.io (OI C (gF n es))),some (.st (webD m qs)),none]
 obtain rfl:b=C:=by have:=a.symm.trans u;cases this;rfl
 repeat (first | (refine aep (.inr rfl) d.cl g afw ?_) | row_cond st)
 refine ⟨n,es,rfl,l,fun z y=>?_⟩
 repeat (first | (refine ayk (fs:=gF n es) d.cl g ?_) | row_cond st)
 refine ⟨_,rfl,.inr rfl,Nat.le_of_ble_eq_true rfl,?_⟩
 rw [put1]
 dsimp only [List.set_cons_zero,List.set_cons_succ,reS]
 row_cond go
 refine ⟨m,qs,rfl,j,fun v x=>?_⟩
 row_cond go
 exact r z v y x
theorem sc_Grower__put_place:FnScope ["self","a","n","ties"] ["self","a"] (aai s_Grower__put_place):=by row_cond sc
theorem afi (T:Txt K mg) {d:Addr} (b:mg "Grower" = some (.ref d)):CanM P w K mg base d "put_place" 12 ["self","a"] (spI K (aqw mg)):=by
 obtain ⟨f,fd,D⟩:=T.m_Grower__put_place _ b
 obtain ⟨l,j⟩:=T.v_MOST_PLACES
 have g:ObAt K mg "Grower" d:=by
  obtain ⟨c,o⟩:=T.o_Grower
  have:=o.mgx.symm.trans b
  cases this
  exact o
 have r:=T.n_Grower_held _ b
 refine D.can (D.fn.ok sc_Grower__put_place (fun vs H Q E h=>lenI h fun A ss Q' q=>by obtain ⟨C,n,a,es,N,rfl,rfl,G,z,I,O,a0,a1,M⟩:=q;rfl) (fun cdv A outer s H vs Q E u h=>?_))
 have nd:=sc_Grower__put_place.nd
 refine ⟨_,(aac (aa8 (aah (acy T) u (aaa (aei (pv 0) rfl) (aaa (pv 1) aab))))
  (aac (ab9 (aei (pv 0) rfl) (acq rfl (aa2 (aam (i:=2) nd rfl (Or.inl rfl)) (aa2 (aam (i:=3) nd rfl (Or.inl rfl)) ab8))))
  (aac (aa8 (aah (ai4 T) u (aaa aad (aaa (aat aeg (awn (v:=.int 60) rfl j ⟨_,rfl⟩) aad) (aaa (pv 2) aab)))))
  (aag (aaq (aeq (ad0 T b) g.cl u (pv 0) (aaa (aah (af6 T) u (aaa (aa4 (aaa (aat abe (pv 2) aad) (aaa (pv 3) aab))) (aaa (aa1 (aaa (aa4 (aaa (pv 1) (aaa (pv 2) aab))) aab)) aab))) aab))))))),?_⟩
 refine adi h fun A0 ss Q' q B hK=>?_
 obtain ⟨C,n,a,es,N,rfl,rfl,G,z,I,O,a0,a1,M⟩:=q
 show EvS B _ _ [some (.io (OI C (gF n es))),some (.st (.int a)),none,none]
 obtain rfl:d=C:=by have:=b.symm.trans N;cases this;rfl
 have hn:=G.lo
 have F:PutOk (n+1) es [(a,n)]:=⟨fun p S=>by cases aC1.mp S;exact ⟨a0,a1,by simp only;omega⟩,aE2.mpr ⟨I.nd,by simp,fun x Y y Z e=>by
  cases aC1.mp Z
  have:=I.inn x Y
  rw [e] at this
  simp only at this
  omega⟩⟩
 repeat (first | (refine aep (.inr rfl) g.cl r afw ?_) | row_cond st)
 refine ⟨n,a,es,rfl,a0,a1,?_⟩
 repeat (first | (refine aa5 (aep (.inr rfl) g.cl r afw ?_)) | row_cond st)
 refine ⟨1,60 - 1,n,rfl,hn,by omega,?_⟩
 repeat (first | (refine ach (.inr rfl) (ads (by decide +kernel)) ?_) | row_cond st)
 refine ⟨n+1,es,[(a,n)],rfl,by omega,by simp,F,fun qs u L=>aiy ?_⟩
 have J:=ath G (m:=n+1) (by omega) (by omega) O a0 (by omega) (by omega) (by omega) L
 row_cond go
 refine ⟨_,_,rfl,.inr rfl,d,n,n+1,es,qs,b,rfl,rfl,G,J,fun X R W U=>?_⟩
 exact ⟨_,rfl,M qs X R u L W U⟩
theorem sc_Grower__put_tie:FnScope ["self","a","b"] ["self","a","b"] (aai s_Grower__put_tie):=by row_cond sc
theorem aga (T:Txt K mg) {g:Addr} (d:mg "Grower" = some (.ref g)):CanM P w K mg base g "put_tie" 12 ["self","a","b"] (spI K (avu mg)):=by
 obtain ⟨f,fd,D⟩:=T.m_Grower__put_tie _ d
 have i:ObAt K mg "Grower" g:=by
  obtain ⟨c,o⟩:=T.o_Grower
  have:=o.mgx.symm.trans d
  cases this
  exact o
 have p:=T.n_Grower_held _ d
 refine D.can (D.fn.ok sc_Grower__put_tie (fun vs H Q E h=>lenI h fun A ss Q' q=>by obtain ⟨C,n,a,b,es,z,rfl,rfl,r,j,F,y⟩:=q;rfl) (fun cdv A outer s H vs Q E u h=>?_))
 have nd:=sc_Grower__put_tie.nd
 refine ⟨_,(aag (aaq (aeq (ad0 T d) i.cl u (pv 0) (aaa (aah (af6 T) u (aaa (aei (pv 0) rfl) (aaa (aa1 (aaa (aa4 (aaa (pv 1) (aaa (pv 2) aab))) aab)) aab))) aab)))),?_⟩
 refine adi h fun N ss Q' q B O=>?_
 obtain ⟨C,n,a,b,es,z,rfl,rfl,r,j,F,y⟩:=q
 show EvS B _ _ [some (.io (OI C (gF n es))),some (.st (.int a)),some (.st (.int b))]
 obtain rfl:g=C:=by have:=d.symm.trans z;cases this;rfl
 have hn:=r.lo
 have L:=r.hi
 have l:=j.inn (a,b) (by simp)
 simp only at l
 repeat (first | (refine aep (.inr rfl) i.cl p afw ?_) | (refine ach (.inr rfl) (ads (by decide +kernel)) ?_) | row_cond st)
 refine ⟨n,es,[(a,b)],rfl,by omega,by simp,j,fun qs u x=>aiy ?_⟩
 have v:=ath r (m:=n) (by omega) (by omega) F l.1 (by omega) (by omega) l.2.2 x
 row_cond go
 refine ⟨_,_,rfl,.inr rfl,g,n,n,es,qs,d,rfl,rfl,r,v,fun M G J I=>?_⟩
 exact ⟨_,rfl,y qs M G u x J I⟩
end
def a02 (mg:Str->Option Value):VIo:=fun A ss Q=>∃ (C:Addr) (n:Int) (es:List (Int × Int)),mg "Grower" = some (.ref C)/\A=OI C (gF n es)/\ss=[]/\es.length<=10000/\Q (OI C (gF n es)) (.own (OW (.int n) (es.map prD)))
def an9 (mg:Str->Option Value):VIo:=fun A ss Q=>∃ (C:Addr) (n:Int) (es:List (Int × Int)),mg "Grower" = some (.ref C)/\A=OI C (gF n es)/\ss=[]/\GW n es/\Joined n es/\∀ x a b,FarOk n es x a b->Q (OI C (gF n es)) (.st (.tuple [.int x,.int a,.int b]))
def a03 (mg:Str->Option Value):VIo:=fun A ss Q=>∃ (C:Addr) (n a b:Int) (es:List (Int × Int)),mg "Grower" = some (.ref C)/\A=OI C (gF n es)/\ss=[.st (.int a),.st (.int b)]/\GW n es/\0<=a/\a < n/\0<=b/\b < n/\Q (OI C (gF n es)) (.st (oD (Gr.farO (Tied es) a b)))
section
variable {P:Program} {w:World} {K:Frag} {mg:Str->Option Value} {base:Heap}
theorem sc_Grower__web:FnScope ["self","n","ties"] ["self"] (aai s_Grower__web):=by row_cond sc
theorem acp (T:Txt K mg) {b:Addr} (a:mg "Grower" = some (.ref b)):CanM P w K mg base b "web" 1 ["self"] (spI K (a02 mg)):=by
 obtain ⟨f,fd,D⟩:=T.m_Grower__web _ a
 have d:ObAt K mg "Grower" b:=by
  obtain ⟨c,o⟩:=T.o_Grower
  have:=o.mgx.symm.trans a
  cases this
  exact o
 have g:=T.n_Grower_held _ a
 refine D.can (D.fn.ok sc_Grower__web (fun vs H Q E h=>lenI h fun A ss Q' q=>by obtain ⟨C,n,es,l,rfl,rfl,m,j⟩:=q;rfl) (fun cdv A outer s H vs Q E r h=>?_))
 have nd:=sc_Grower__web.nd
 refine ⟨_,(aac (ab9 (aei (pv 0) rfl) (acq rfl (aa2 (aam (i:=1) nd rfl (Or.inl rfl)) (aa2 (aam (i:=2) nd rfl (Or.inl rfl)) ab8))))
  (aag (aaq (aa4 (aaa (pv 1) (aaa (ac8 afv (by rfl) T.b_list ad8 (aaa (pv 2) aab)) aab)))))),?_⟩
 refine adi h fun p ss Q' q B u=>?_
 obtain ⟨C,n,es,l,rfl,rfl,m,j⟩:=q
 show EvS B _ _ [some (.io (OI C (gF n es))),none,none]
 obtain rfl:b=C:=by have:=a.symm.trans l;cases this;rfl
 repeat (first | (refine aa5 (aep (.inr rfl) d.cl g afw ?_)) | (refine am9 ?_) | row_cond st)
 exact ⟨_,rfl,_,rfl,j⟩
theorem sc_Grower__farthest:FnScope ["self"] ["self"] (aai s_Grower__farthest):=by row_cond sc
theorem af0 (T:Txt K mg) {g:Addr} (d:mg "Grower" = some (.ref g)):CanM P w K mg base g "farthest" 10 ["self"] (spI K (an9 mg)):=by
 obtain ⟨f,fd,D⟩:=T.m_Grower__farthest _ d
 have i:ObAt K mg "Grower" g:=by
  obtain ⟨c,o⟩:=T.o_Grower
  have:=o.mgx.symm.trans d
  cases this
  exact o
 have j:=T.n_Grower_held _ d
 refine D.can (D.fn.ok sc_Grower__farthest (fun vs H Q E h=>lenI h fun A ss Q' q=>by obtain ⟨C,n,es,u,rfl,rfl,l,p,r⟩:=q;rfl) (fun cdv A outer s H vs Q E v h=>?_))
 have nd:=sc_Grower__farthest.nd
 refine ⟨_,(aag (aaq (aah (aet T) v (aaa (aei (pv 0) rfl) aab)))),?_⟩
 refine adi h fun F ss Q' q B G=>?_
 obtain ⟨C,n,es,u,rfl,rfl,l,p,r⟩:=q
 show EvS B _ _ [some (.io (OI C (gF n es)))]
 obtain rfl:g=C:=by have:=d.symm.trans u;cases this;rfl
 have hn:=l.lo
 have y:=l.hi
 have m:=l.len
 repeat (first | (refine aep (.inr rfl) i.cl j afw ?_) | row_cond st)
 refine ⟨n,es,rfl,hn,by omega,l.inn,by omega,p,fun x a b z=>?_⟩
 row_cond go
 exact r x a b z
theorem sc_Grower__far:FnScope ["self","a","b"] ["self","a","b"] (aai s_Grower__far):=by row_cond sc
theorem ai5 (T:Txt K mg) {g:Addr} (d:mg "Grower" = some (.ref g)):CanM P w K mg base g "far" 7 ["self","a","b"] (spI K (a03 mg)):=by
 obtain ⟨f,fd,D⟩:=T.m_Grower__far _ d
 have i:ObAt K mg "Grower" g:=by
  obtain ⟨c,o⟩:=T.o_Grower
  have:=o.mgx.symm.trans d
  cases this
  exact o
 have j:=T.n_Grower_held _ d
 refine D.can (D.fn.ok sc_Grower__far (fun vs H Q E h=>lenI h fun A ss Q' q=>by obtain ⟨C,n,a,b,es,r,rfl,rfl,l,a0,a1,b0,b1,p⟩:=q;rfl) (fun cdv A outer s H vs Q E u h=>?_))
 have nd:=sc_Grower__far.nd
 refine ⟨_,(aag (aaq (aah (an8 T) u (aaa (aei (pv 0) rfl) (aaa (pv 1) (aaa (pv 2) aab)))))),?_⟩
 refine adi h fun x ss Q' q B y=>?_
 obtain ⟨C,n,a,b,es,r,rfl,rfl,l,a0,a1,b0,b1,p⟩:=q
 show EvS B _ _ [some (.io (OI C (gF n es))),some (.st (.int a)),some (.st (.int b))]
 obtain rfl:g=C:=by have:=d.symm.trans r;cases this;rfl
 have v:=l.hi
 have m:=l.len
 repeat (first | (refine aep (.inr rfl) i.cl j afw ?_) | row_cond st)
 refine ⟨n,a,b,es,rfl,by omega,l.inn,by omega,a0,a1,b0,b1,?_⟩
 exact ⟨_,rfl,p⟩
end
structure Dk (H:Hp) (d p:Addr) (i:Int) (qs:List Addr):Prop where
 dd:H d=some (.lst [.ref p,.int i])
 pp:H p=some (.lst (qs.map V.ref))
 ne:qs ≠ []
 le:qs.length<=63
 dp:d ≠ p
 dq:d ∉ qs
 pq:p ∉ qs
 ql:∀ q∈qs,∃ c f k:Int,H q=some (.lst [.int c,.int f,.int k])
def apl:Sp:=fun vs H Q _=>∃ (d p:Addr) (i many:Int) (qs:List Addr),vs=[.ref d,.int many]/\Dk H d p i qs/\0 < many/\many < 1073741824 /\
 ∀ (r:Int) (H':Hp) (i':Int),0<=r->r < many->Dk H' d p i' qs->(∀ a,a ≠ d->a ∉ qs->H' a=H a)->Q (.int r) H'
theorem Dk.pick {H:Hp} {d p:Addr} {i:Int} {qs:List Addr} (h:Dk H d p i qs) (j:Int):∃ q,q∈qs/\atI (qs.map V.ref) (j % ((qs.map V.ref).length:Int))=some (.ref q):=by
 have c:0 < qs.length:=aF2.mpr h.ne
 have a:=Int.emod_nonneg j (show ((qs.map V.ref).length:Int) ≠ 0 by rw [aA3];omega)
 have b:=aE1 j (show (0:Int) < ((qs.map V.ref).length:Int) by rw [aA3];omega)
 generalize j % ((qs.map V.ref).length:Int)=m at a b
 have hm:m.toNat < qs.length:=by rw [aA3] at b;omega
 exact ⟨qs[m.toNat],List.getElem_mem _,aco a (by rw [aA5,aA0 hm];rfl)⟩
theorem Dk.put {H:Hp} {d p q:Addr} {i a:Int} {qs:List Addr} (h:Dk H d p i qs) (b:q∈qs) (c f k:Int):Dk (upd (upd H d (.lst [.ref p,.int a])) q (.lst [.int c,.int f,.int k])) d p a qs:=by
 have j:d ≠ q:=fun e=>h.dq (e ▸ b)
 have g:p ≠ q:=fun e=>h.pq (e ▸ b)
 refine ⟨by rw [aae j,aaf],by rw [aae g,aae h.dp.symm];exact h.pp,h.ne,h.le,h.dp,h.dq,h.pq,fun z hz=>?_⟩
 by_cases e:z=q
 ·subst e;exact ⟨c,f,k,aaf⟩
 ·rw [aae e,aae (show z ≠ d from fun e=>h.dq (e ▸ hz))];exact h.ql z hz
def ODk:Own where
 P:=fun _ H v F=>∃ d p i qs,v=.ref d/\Dk H d p i qs/\∀ b,F b ↔ b=d\/b=p\/b∈qs
 mono:=fun ⟨d,p,i,qs,e,h,f⟩ _ hh=>⟨d,p,i,qs,e,⟨hh d _ ((f d).mpr (.inl rfl)) h.dd,hh p _ ((f p).mpr (.inr (.inl rfl))) h.pp,h.ne,h.le,h.dp,h.dq,h.pq,fun q hq=>by
  obtain ⟨c,g,k,e⟩:=h.ql q hq
  exact ⟨c,g,k,hh q _ ((f q).mpr (.inr (.inr hq))) e⟩⟩,f⟩
 dom:=fun ⟨d,p,i,qs,e,h,f⟩ b z=>by
  rcases (f b).mp z with rfl | rfl | z
  ·exact ⟨_,h.dd⟩
  ·exact ⟨_,h.pp⟩
  ·obtain ⟨c,g,k,e⟩:=h.ql b z
   exact ⟨_,e⟩
theorem ayt {P:Program} {w:World} {K:Frag} {mg:Str->Option Value} {base:Heap} {x:Str} {k:Nat} {ps:List Str} {sp a:Sp} (c:Can P w K mg base x k ps sp) (h:∀ vs H Q E,a vs H Q E->sp vs H Q E):Can P w K mg base x k ps a:=by
 obtain ⟨f,fd,ok,m,kp,b⟩:=c
 exact ⟨f,fd,ok.imp h,m,kp,b⟩
def ati:VIo:=fun A ss Q=>∃ many:Int,A=ODk/\ss=[.st (.int many)]/\0 < many/\many < 1073741824/\∀ r:Int,0<=r->r < many->Q ODk (.st (.int r))
theorem ayu {K:Frag} {vs:List V} {H:Hp} {Q:VK} {E:XK} (h:spI K ati vs H Q E):apl vs H Q E:=by
 obtain ⟨v0,C,G,R,A,ss,F0,Q',rfl,gh,ft,w,ap,fg,fr,l,⟨many,rfl,rfl,n,q,k⟩,s⟩:=h
 obtain ⟨d,p,i,qs,rfl,v,j⟩:=ap
 cases l with
 | cons ha hr =>
  cases hr
  cases (show Rp G _ (.int many) from ha)
  refine ⟨d,p,i,many,qs,rfl,v,n,q,fun r H' u B m b x=>s ODk _ (k r B m) _ G H' F0 (fun _=>False) ?_⟩
  have out:∀ a,¬ F0 a->H' a=H a:=fun a z=>x a (fun e=>z ((j a).mpr (.inl e))) (fun e=>z ((j a).mpr (.inr (.inr e))))
  have g:∀ a,F0 a->(∃ o,H' a=some o)/\∀ xs,H' a ≠ some (.tup xs):=fun a z=>by
   rcases (j a).mp z with rfl | rfl | z
   ·rw [b.dd];exact ⟨⟨_,rfl⟩,fun xs e=>by cases e⟩
   ·rw [b.pp];exact ⟨⟨_,rfl⟩,fun xs e=>by cases e⟩
   ·obtain ⟨c,f,D,e⟩:=b.ql a z
    rw [e];exact ⟨⟨_,rfl⟩,fun xs e=>by cases e⟩
  refine ⟨Same.refl _,fun a o e=>?_,fun a y e=>?_,fun a o e => .inl e,fun a o e=>?_,fun a o e=>?_,⟨d,p,u,qs,rfl,b,j⟩,fun a z => .inl z,fg,⟨.int _,fun a z=>z⟩,fun a z=>z.elim⟩
  ·rw [out a fun z=>by rw [fg a z] at e;cases e];exact gh a o e
  ·by_cases z:F0 a
   ·exact absurd e ((g a z).2 _)
   ·rw [out a z] at e;exact ft a y e
  ·rw [out a fun z=>by rw [fr a z] at e;cases e];exact w a o e
  ·by_cases z:F0 a
   ·exact (g a z).1
   ·rw [out a z];exact ⟨o,e⟩
def atj:VP:=fun ss Q=>∃ ns:List Int,ss=[.scr ns]/\ns.length<=63/\Q (.own ODk)
theorem apm {K:Frag} {vs:List V} {H:Hp} {Q:VK} {E:XK} (h:spP K atj vs H Q E):∃ (a:Addr) (ns:List Int),vs=[.ref a]/\SqL K H a (ns.map V.int)/\ns.length<=63 /\
  ∀ (d p:Addr) (i:Int) (qs:List Addr) (H':Hp),Dk H' d p i qs->(∀ b,b=d\/b=p\/b∈qs->H b=none)->(∀ b,b ≠ d->b ≠ p->b ∉ qs->H' b=H b)->Q (.ref d) H':=by
 obtain ⟨G,ss,Q',gh,ft,n,⟨ns,rfl,hn,k⟩,q⟩:=h
 cases n with
 | cons ha hr =>
  cases hr
  obtain ⟨a,rfl,r⟩:=(show ∃ a,_=V.ref a/\SqL K G a (ns.map V.int) from ha)
  refine ⟨a,ns,rfl,gh.seq r,hn,fun d p i qs H' l g m=>q _ k _ G H' (fun b=>b=d\/b=p\/b∈qs) ?_⟩
  have hh:Same H H':=fun a o e=>by
   rw [m a (fun z=>by rw [g a (.inl z)] at e;cases e) (fun z=>by rw [g a (.inr (.inl z))] at e;cases e) (fun z=>by rw [g a (.inr (.inr z))] at e;cases e)];exact e
  have j:∀ a,a=d\/a=p\/a∈qs->(∃ o,H' a=some o)/\∀ xs,H' a ≠ some (.tup xs):=fun a z=>by
   rcases z with rfl | rfl | z
   ·rw [l.dd];exact ⟨⟨_,rfl⟩,fun xs e=>by cases e⟩
   ·rw [l.pp];exact ⟨⟨_,rfl⟩,fun xs e=>by cases e⟩
   ·obtain ⟨c,f,u,e⟩:=l.ql a z
    rw [e];exact ⟨⟨_,rfl⟩,fun xs e=>by cases e⟩
  refine ⟨Same.refl _,gh.trans hh,hh,fun a o e => .inl e,g,fun a z=>?_,fun a z=>(j a z).1,⟨d,p,i,qs,rfl,l,fun b=>Iff.rfl⟩,fun _ a s e=>?_⟩
  ·cases e:G a with
   | none=>rfl
   | some o=>have:=gh a o e;rw [g a z] at this;cases this
  ·by_cases z:a=d\/a=p\/a∈qs
   ·exact absurd e ((j a z).2 _)
   ·rw [m a (fun y=>z (.inl y)) (fun y=>z (.inr (.inl y))) (fun y=>z (.inr (.inr y)))] at e;exact ft a s e
section
variable {P:Program} {w:World} {K:Frag} {mg:Str->Option Value} {base:Heap}
theorem sc_law_draw:FnScope ["deck","many","pool","found","number"] ["deck","many"] (aai s_law_draw):=by row_cond sc
theorem af7 (T:Txt K mg):Can P w K mg base "_law_draw" 1 ["deck","many"] apl:=by
 obtain ⟨f,fd,D⟩:=T.d_law_draw
 refine D.can (D.fn.ok sc_law_draw (fun vs H Q E h=>by obtain ⟨d,p,i,many,qs,rfl,b,j,n,k⟩:=h;rfl) (fun cdv A outer s H vs Q E B h=>?_))
 obtain ⟨d,p,i,many,qs,rfl,b,j,n,k⟩:=h
 have nd:=sc_law_draw.nd
 refine ⟨_,(aac (aal (i:=2) nd rfl (Or.inl rfl) (aan aao (aan aao (pv 0) aad (fun _ _=>rfl)) (aat aeh (aan aao (pv 0) aad (fun _ _=>rfl)) (aaj abv (by rfl) T.b_len aca (aaa (aan aao (pv 0) aad (fun _ _=>rfl)) aab))) (fun _ _=>rfl)))
  (aac (ab9 (aat abe (aan aao (pv 0) aad (fun _ _=>rfl)) aad) (agc (pv 0) aad aek))
  (aac (aa6 (PW.pt (aee (aaw adb (aan aao (pv 2) aad (fun _ _=>rfl)) aad (aax _)) (adj (aaw ah8 (aan aao (pv 2) aad (fun _ _=>rfl)) aad (aax _)))))
   (aac (aal (i:=3) nd rfl (Or.inl rfl) (aat aeh (aan aao (pv 2) aad (fun _ _=>rfl)) (pv 1)))
    (aac (ab9 (aat ai7 (aan aao (pv 2) aad (fun _ _=>rfl)) (pv 1)) (agc (pv 2) aad aek))
    (aag (aaq (pv 3)))))
   aav)
  (aac (ab9 (aat abe (aan aao (pv 2) aad (fun _ _=>rfl)) aad) (agc (pv 2) aad aek))
  (aac (aal (i:=4) nd rfl (Or.inl rfl) (aat aeh (aat abe (aat aeh (aan aao (pv 2) aad (fun _ _=>rfl)) aad) (aat age aad (aan aao (pv 2) aad (fun _ _=>rfl)))) aad))
  (aac (aal (i:=4) nd rfl (Or.inl rfl) (aat aeh (aat age (pv 4) (pv 4)) aad))
  (aac (aal (i:=4) nd rfl (Or.inl rfl) (aat aeh (aat age (pv 4) (aat abe (pv 4) aad)) aad))
  (aag (aaq (aat aeh (aat ai7 (pv 4) aad) (pv 1))))))))))),?_⟩
 show (_:TS) _ [some (.ref d),some (.int many),none,none,none] H
 obtain ⟨q,g,l⟩:=b.pick i
 obtain ⟨c,f,C,v⟩:=b.ql q g
 have m:=b.dd
 have r:=b.pp
 have u:(0:Int) < ((qs.map V.ref).length:Int):=by have:=aF2.mpr b.ne;rw [aA3];omega
 have z:q ≠ d:=fun e=>b.dq (e ▸ g)
 have fin:∀ (c f k:Int) (a:Addr),a ≠ d->a ∉ qs->upd (upd H d (.lst [.ref p,.int (i+1)])) q (.lst [.int c,.int f,.int k]) a=H a:=fun c f k a y x=>by
  rw [aae (show a ≠ q from fun e=>x (e ▸ g)),aae y]
 row_cond hgo
 refine adc (fun hf=>?_) (fun hf=>?_)
 ·row_cond hgo
  refine adc (fun o=>?_) (fun o=>?_)
  ·row_cond hgo
   exact k _ _ (i+1) (Int.emod_nonneg _ (by omega)) (aE1 _ j) (b.put g _ _ _) (fin _ _ _)
  ·row_cond hgo
   exact k _ _ (i+1) (Int.emod_nonneg _ (by omega)) (aE1 _ j) (b.put g _ _ _) (fin _ _ _)
 ·row_cond hgo
  exact k _ _ (i+1) (Int.emod_nonneg _ (by omega)) (aE1 _ j) (b.put g _ _ _) (fin _ _ _)
theorem aak (T:Txt K mg):Can P w K mg base "_law_draw" 1 ["deck","many"] (spI K ati):=ayt (af7 T) fun _ _ _ _ h=>ayu h
theorem sc_law_deck:FnScope ["script","pools","k","cell"] ["script"] (aai s_law_deck):=by row_cond sc
theorem anm (T:Txt K mg):Can P w K mg base "_law_deck" 1 ["script"] (spP K atj):=by
 obtain ⟨f,fd,D⟩:=T.d_law_deck
 refine D.can (D.fn.ok sc_law_deck (fun vs H Q E h=>by obtain ⟨a,ns,rfl,I,hn,k⟩:=apm h;rfl) (fun cdv A outer s H vs Q E hr h=>?_))
 obtain ⟨a,ns,rfl,I,hn,k⟩:=apm h
 have nd:=sc_law_deck.nd
 refine ⟨_,(aac (aal (i:=1) nd rfl (Or.inl rfl) (aa1 aab))
  (aac (abi aI7 rfl (abg rfl T.b_range (aaa (aaj (ace rfl) (by rfl) T.b_max acr (aaa aad (aaa (aaj (acf rfl) (by rfl) T.b_min adu (aaa aad (aaa (aaj abv (by rfl) T.b_len aca (aaa (pv 0) aab)) aab))) aab))) aab)) (aam (i:=2) nd rfl (Or.inl rfl))
   (aac (aal (i:=3) nd rfl (Or.inl rfl) aad)
    (aac (aa6 (aaw apv (pv 2) (aaj abv (by rfl) T.b_len aca (aaa (pv 0) aab)) (aax _))
     (aag (aal (i:=3) nd rfl (Or.inl rfl) (aan aao (pv 0) (pv 2) (fun _ _=>rfl))))
     aav)
    (aag (aa8 (acn PySem.F.plainAttrs_list PySem.F.slot_list_append PySem.F.type_list_append abu (pv 1) (aaa (aa1 (aaa (pv 3) (aaa (ac8 aih (by rfl) T.b_int al6 (aaa (adk a1e (pv 3) (axf (n:=1000000000000000000) (by decide) (by refine ⟨by decide,by decide,by decide⟩)) (aax _)) aab)) (aaa (aat age aad (pv 2)) aab)))) aab)))))))
  (aag (aaq (aa1 (aaa (pv 1) (aaa aad aab))))))),?_⟩
 show (_:TS) _ [some (.ref a),none,none,none] H
 row_cond hgo
 refine ⟨by show 0<=sizeLine;decide,fun p C=>?_⟩
 row_cond hgo
 refine aop ((abn C).seq I) ?_
 rw [aA3]
 row_cond hgo
 refine aoo (by split <;> split <;> omega) (by split <;> split <;> omega) ?_
 refine aq7 (fun i σ H2=>∃ (u r:Option V) (qs:List Addr),σ=[some (.ref a),some (.ref p),u,r]/\H2 p=some (.lst (qs.map V.ref))/\qs.length=i/\p ∉ qs/\(∀ q∈qs,H q=none/\∃ c f k:Int,H2 q=some (.lst [.int c,.int f,.int k]))/\∀ b,b ≠ p->b ∉ qs->H2 b=H b)
  ⟨_,_,[],rfl,aaf,rfl,by simp,(fun q m=>nomatch m),fun b hb _=>aae hb⟩ ?_ ?_
 ·rintro i σ H2 hi ⟨u,r,qs,rfl,j,B,pq,m,x⟩
  have S:i < 63:=by
   revert hi
   split <;> split <;> omega
  have s2:Same H H2:=fun b o e=>by
   rw [x b (fun z=>by rw [z,C] at e;cases e) (fun z=>by rw [(m b z).1] at e;cases e)];exact e
  have fin:∀ (c f k:Int) (q:Addr) (u r:Option V),H2 q=none->∃ (M L:Option V) (l:List Addr),[some (V.ref a),some (.ref p),u,r]=[some (.ref a),some (.ref p),M,L]/\upd (upd H2 q (.lst [.int c,.int f,.int k])) p (.lst (qs.map V.ref ++ [.ref q])) p=some (.lst (l.map V.ref))/\l.length=i+1/\p ∉ l/\(∀ z∈l,H z=none/\∃ U f' k':Int,upd (upd H2 q (.lst [.int c,.int f,.int k])) p (.lst (qs.map V.ref ++ [.ref q])) z=some (.lst [.int U,.int f',.int k']))/\∀ b,b ≠ p->b ∉ l->upd (upd H2 q (.lst [.int c,.int f,.int k])) p (.lst (qs.map V.ref ++ [.ref q])) b=H b:=fun c f k q u r g=>by
   have G:q ≠ p:=fun e=>by rw [e,j] at g;cases g
   have R:H q=none:=by
    cases e:H q with
    | none=>rfl
    | some o=>rw [s2 q o e] at g;cases g
   refine ⟨u,r,qs ++ [q],rfl,by rw [aaf,aD9];rfl,by simp [B],fun z=>?_,fun z hz=>?_,fun b hb v=>?_⟩
   ·rcases aA7.mp z with z | z
    ·exact pq z
    ·exact G (aC1.mp z).symm
   ·have Y:z ≠ p:=fun e=>by
     subst e
     rcases aA7.mp hz with z | z
     ·exact pq z
     ·exact G (aC1.mp z).symm
    rw [aae Y]
    by_cases zq:z=q
    ·subst zq;exact ⟨R,c,f,k,aaf⟩
    ·rw [aae zq]
     exact m z ((aA7.mp hz).resolve_right fun y=>zq (aC1.mp y))
   ·rw [aae hb,aae (show b ≠ q from fun e=>v (aA7.mpr (.inr (aC1.mpr e))))]
    exact x b hb fun z=>v (aA7.mpr (.inl z))
  row_cond hgo
  refine aop (s2.seq I) ?_
  rw [aA3]
  row_cond hgo
  refine adc (fun X=>?_) (fun X=>?_)
  ·have N:i < ns.length:=by omega
   have J:atI (ns.map V.int) (0+(i:Int))=some (.int ns[i]):=aco (by omega) (by rw [aA5,show (0+(i:Int)).toNat=i by omega,aA0 N];rfl)
   row_cond hgo
   refine aui (s2.seq I) J ?_
   row_cond hgo
   refine ⟨by show 3<=sizeLine;decide,fun q g=>?_⟩
   have G:p ≠ q:=fun e=>by rw [← e,j] at g;cases g
   row_cond hgo
   exact fin _ _ _ q _ _ g
  ·row_cond hgo
   refine ⟨by show 3<=sizeLine;decide,fun q g=>?_⟩
   have G:p ≠ q:=fun e=>by rw [← e,j] at g;cases g
   row_cond hgo
   exact fin _ _ _ q _ _ g
 ·rintro σ H2 ⟨u,r,qs,rfl,j,B,pq,m,x⟩
  have s2:Same H H2:=fun b o e=>by
   rw [x b (fun z=>by rw [z,C] at e;cases e) (fun z=>by rw [(m b z).1] at e;cases e)];exact e
  row_cond hgo
  refine ⟨by show 2<=sizeLine;decide,fun d hd=>?_⟩
  have dp:d ≠ p:=fun e=>by rw [e,j] at hd;cases hd
  have dq:d ∉ qs:=fun z=>by obtain ⟨_,c,f,k,e⟩:=m d z;rw [e] at hd;cases hd
  have O:H d=none:=by
   cases e:H d with
   | none=>rfl
   | some o=>rw [s2 d o e] at hd;cases hd
  refine k d p 0 qs _ ⟨aaf,by rw [aae dp.symm];exact j,?_,?_,dp,dq,pq,fun q z=>?_⟩ ?_ ?_
  ·intro e
   rw [e] at B
   revert B
   simp only [aI0]
   split <;> split <;> omega
  ·rw [B]
   split <;> split <;> omega
  ·rw [aae (show q ≠ d from fun e=>dq (e ▸ z))];exact (m q z).2
  ·rintro b (rfl | rfl | z)
   ·exact O
   ·exact C
   ·exact (m b z).1
  ·intro b b1 Z W
   rw [aae b1];exact x b Z W
end
theorem agu {α β:Type} (f : α->β):∀ (l:List α) (k:Nat),(l.map f).eraseIdx k=(l.eraseIdx k).map f
 | [],_=>rfl
 | _ :: _,0=>rfl
 | a :: l,k+1=>by simp [agu f l k]
theorem a04 {j:Int} {n:Nat} (a:0<=j) (b:j < n):seqIndex? j n=some j.toNat:=by unfold seqIndex?;simp;omega
theorem Dk.frame {H H':Hp} {d p:Addr} {i:Int} {qs:List Addr} (h:Dk H d p i qs) (e:∀ a,a=d\/a=p\/a∈qs->H' a=H a):Dk H' d p i qs :=
 ⟨(e d (.inl rfl)).trans h.dd,(e p (.inr (.inl rfl))).trans h.pp,h.ne,h.le,h.dp,h.dq,h.pq,fun q b=>by rw [e q (.inr (.inr b))];exact h.ql q b⟩
def ann:VIo:=fun A ss Q=>∃ n:Int,A=ODk/\ss=[.st (.int n)]/\0<=n/\n<=61/\∀ row:List Int,Order n row->Q ODk (.own (OL (row.map .int)))
theorem ano {K:Frag} {vs:List V} {H:Hp} {Q:VK} {E:XK} (h:spI K ann vs H Q E):∃ (d p:Addr) (i n:Int) (qs:List Addr),vs=[.ref d,.int n]/\Dk H d p i qs/\0<=n/\n<=61 /\
  ∀ (row:List Int) (l:Addr) (H':Hp) (s:Int),Order n row->Dk H' d p s qs->H l=none->H' l=some (.lst (row.map V.int))->(∀ a o,a ≠ d->a ∉ qs->H a=some o->H' a=some o)->(∀ a xs,H' a=some (.tup xs)->H a=some (.tup xs))->Q (.ref l) H':=by
 obtain ⟨v0,L,G,R,A,ss,F0,Q',rfl,gh,ft,F,ap,fg,fr,u,⟨n,rfl,rfl,w,x,k⟩,B⟩:=h
 obtain ⟨d,p,i,qs,rfl,r,q⟩:=ap
 cases u with
 | cons ha hr =>
  cases hr
  cases (show Rp G _ (.int n) from ha)
  refine ⟨d,p,i,n,qs,rfl,r,w,x,fun row l H' s C g j m I y=>B ODk _ (k row C) _ G H' F0 (fun b=>b=l) ?_⟩
  have out:∀ a o,¬ F0 a->H a=some o->H' a=some o:=fun a o z=>I a o (fun e=>z ((q a).mpr (.inl e))) (fun e=>z ((q a).mpr (.inr (.inr e))))
  have v:G l=none:=by
   cases e:G l with
   | none=>rfl
   | some o=>rw [gh l o e] at j;cases j
  refine ⟨Same.refl _,fun a o e=>?_,fun a J e=>?_,fun a o e => .inl e,fun a o e=>?_,fun a o e=>?_,⟨d,p,s,qs,rfl,g,q⟩,fun a z => .inl z,fg,⟨l,row.map V.int,rfl,m,Rps.ints row,fun b=>Iff.rfl⟩,fun a z=>?_⟩
  ·exact out a o (fun z=>by rw [fg a z] at e;cases e) (gh a o e)
  ·exact ft a J (y a _ e)
  ·exact out a o (fun z=>by rw [fr a z] at e;cases e) (F a o e)
  ·by_cases z:F0 a
   ·rcases (q a).mp z with rfl | rfl | z
    ·exact ⟨_,g.dd⟩
    ·exact ⟨_,g.pp⟩
    ·obtain ⟨c,f,D,e⟩:=g.ql a z
     exact ⟨_,e⟩
   ·exact ⟨o,out a o z e⟩
  ·subst z
   refine ⟨j,v,⟨_,m⟩,fun z=>?_⟩
   rcases (q a).mp z with rfl | rfl | z
   ·rw [r.dd] at j;cases j
   ·rw [r.pp] at j;cases j
   ·obtain ⟨c,f,D,e⟩:=r.ql a z
    rw [e] at j;cases j
section
variable {P:Program} {w:World} {K:Frag} {mg:Str->Option Value} {base:Heap}
theorem sc_law_order:FnScope ["deck","n","left"] ["deck","n"] (aai s_law_order):=by row_cond sc
theorem af8 (T:Txt K mg):Can P w K mg base "_law_order" 2 ["deck","n"] (spI K ann):=by
 obtain ⟨f,fd,D⟩:=T.d_law_order
 refine D.can (D.fn.ok sc_law_order (fun vs H Q E h=>by obtain ⟨d,p,i,n,qs,rfl,M,h1,h2,k⟩:=ano h;rfl) (fun cdv A outer s H vs Q E hr h=>?_))
 obtain ⟨d,p,i,n,qs,rfl,M,h1,h2,k⟩:=ano h
 have nd:=sc_law_order.nd
 refine ⟨_,(aac (aal (i:=2) nd rfl (Or.inr rfl) (amz rfl T.b_list rfl T.b_range rfl (aaa (pv 1) aab)))
  (aag (aaq (adp rfl (N:=["k","left","deck"]) (src:=[none,some 2,some 0]) (by exact ab0 rfl rfl rfl rfl rfl rfl) (abg rfl T.b_range (aaa (pv 1) aab)) (fun _ _ _ _=>(aam (i:=0) (show List.Nodup (["k","left","deck"]:List Str) by decide +kernel) rfl (Or.inl rfl) (hf:=Or.inr rfl))) (fun _ _ _ _=>ack) (fun _ _ _ _=>(show PE _ _ (tBM K "list" alv _ _) from (acn PySem.F.plainAttrs_list PySem.F.slot_list_pop PySem.F.type_list_pop atx (pv 1) (aaa (aah (af7 T) hr (aaa (pv 2) (aaa (aaj (show abb _ (.builtin "len") (rLen K) from abv) (by rfl) T.b_len aca (aaa (pv 1) aab)) aab))) aab)))))))),?_⟩
 show (_:TS) _ [some (.ref d),some (.int n),none] H
 row_cond hgo
 unfold aiu
 row_cond hgo
 refine ⟨n,rfl,h1,by omega,fun m hm=>?_⟩
 row_cond hgo
 refine aoo (by omega) (by omega) ?_
 intro g b
 have O:∀ a,a=d\/a=p\/a∈qs->∃ o,H a=some o:=fun a z=>by
  rcases z with rfl | rfl | z
  ·exact ⟨_,M.dd⟩
  ·exact ⟨_,M.pp⟩
  ·obtain ⟨c,f,kk,e⟩:=M.ql a z
   exact ⟨_,e⟩
 have R:∀ a,a=d\/a=p\/a∈qs->a ≠ m:=fun a z e=>by
  obtain ⟨o,L⟩:=O a z
  rw [e,hm] at L;cases L
 have U:g ≠ m:=fun e=>by rw [e,aaf] at b;cases b
 rw [aae U] at b
 have S:∀ a,a=d\/a=p\/a∈qs->a ≠ g:=fun a z e=>by
  obtain ⟨o,L⟩:=O a z
  rw [e,b] at L;cases L
 refine at7 (fun j ys σ H2=>∃ (v:Option V) (row left:List Int) (C:Int),σ=[v,some (.ref m),some (.ref d)]/\ys=row.map V.int/\row.length=j/\Order n (row ++ left)/\H2 m=some (.lst (left.map V.int))/\H2 g=some (.lst ys)/\Dk H2 d p C qs/\∀ a,a ≠ d->a ∉ qs->a ≠ m->a ≠ g->H2 a=H a)
  ⟨_,[],(List.range n.toNat).map fun (i:Nat)=>(i:Int),i,rfl,rfl,rfl,?_,?_,aaf,?_,?_⟩ (fun j ys σ H2 h=>by obtain ⟨v,row,left,C,_,_,_,_,_,e,_⟩:=h;exact e) ?_ ?_
 ·exact Order.id n
 ·rw [aae U.symm,aaf,aD8];rfl
 ·exact M.frame fun a z=>by rw [aae (S a z),aae (R a z)]
 ·intro a _ _ a1 W
  rw [aae W,aae a1]
 ·rintro j ys σ H2 hj ⟨v,row,left,C,rfl,rfl,I,G,x,u,l,q⟩
  have J:left.length=n.toNat - j:=by have:=G.len;simp at this;omega
  have md:m ≠ d:=(R d (.inl rfl)).symm
  have mq:m ∉ qs:=fun z=>R m (.inr (.inr z)) rfl
  have ad:g ≠ d:=(S d (.inl rfl)).symm
  have aq:g ∉ qs:=fun z=>S g (.inr (.inr z)) rfl
  row_cond hgo
  refine ⟨d,p,C,_,qs,rfl,l,by rw [aA3];omega,by rw [aA3];omega,fun r H3 i3 r0 r1 X B=>?_⟩
  rw [aA3] at r1
  row_cond hgo
  obtain ⟨y,hy⟩:∃ y,left[r.toNat]?=some y:=⟨_,aA0 (show r.toNat < left.length by omega)⟩
  refine at9 (y:=.int y) ((B m md mq).trans x) (by omega) (by omega) (a04 r0 (by rw [aA3];exact r1)) (by rw [aA5,hy];rfl) ?_
  refine ⟨by rw [aae U];exact (B g ad aq).trans u,aeu (by simp;omega),_,row ++ [y],left.eraseIdx r.toNat,i3,rfl,by simp,by simp [I],aqp G hy,?_,aaf,?_,?_⟩
  ·rw [aae U.symm,aaf,agu]
  ·exact X.frame fun a z=>by rw [aae (S a z),aae (R a z)]
  ·intro a b1 b2 Y Z
   rw [aae Z,aae Y,B a b1 b2];exact q a b1 b2 Y Z
 ·rintro ys σ H2 ⟨v,row,left,C,rfl,rfl,I,G,x,u,l,q⟩
  have J:left=[]:=by have:=G.len;simp at this;exact List.length_eq_zero_iff.mp (by omega)
  subst J
  rw [aE4] at G
  row_cond hgo
  refine k row g H2 C G l b u (fun a o a1 W e=>?_) fun a xs e=>?_
  ·rw [q a a1 W (fun z=>by rw [z,hm] at e;cases e) (fun z=>by rw [z,b] at e;cases e)];exact e
  ·rw [← q a (fun z=>?_) (fun z=>?_) (fun z=>?_) (fun z=>?_)]
   ·exact e
   ·rw [z,l.dd] at e;cases e
   ·obtain ⟨c,f,kk,e2⟩:=l.ql a z
    rw [e2] at e;cases e
   ·rw [z,x] at e;cases e
   ·rw [z,u] at e;cases e
end
def a05:VIo:=fun A ss Q=>A=ODk/\ss=[]/\∀ (n:Int) (es:List (Int × Int)),1<=n->n<=60->PsOk n es->es.length<=1900->Q ODk (.st (webD n es))
def mmP (p:Int × Int):Int × Int:=if p.2 < p.1 then (p.2,p.1) else p
theorem a06 {p:Int × Int} {x y:Int} (b:aqa [p.1,p.2] x) (a:ad3 [p.1,p.2] y):mmP p=(x,y):=by
 have a1:=b.2 p.1 (by simp)
 have h:=b.2 p.2 (by simp)
 have f:=a.2 p.1 (by simp)
 have g:=a.2 p.2 (by simp)
 have d:=b.1
 have c:=a.1
 simp only [aA8,List.not_mem_nil,or_false] at d c
 unfold mmP
 split
 ·exact Prod.ext (by show p.2=x;omega) (by show p.1=y;omega)
 ·exact Prod.ext (by omega) (by omega)
def ixR (row:List Int) (p:Int × Int):Int × Int:=(abc row p.1,abc row p.2)
theorem a18 {n:Int} {row:List Int} {c:List (Int × Int)} (d:Order n row) (h:PsOk n c):(c.map (ixR row)).map mmP=c.map (reP row):=by
 rw [aD8]
 refine aE3 fun p f=>?_
 have:=h.inn p f
 have g:=d.ne (a:=p.1) (b:=p.2) (by omega) (by omega) (by omega) (by omega) (by omega)
 show mmP (abc row p.1,abc row p.2)=reP row p
 unfold mmP reP
 by_cases h1:abc row p.1 < abc row p.2
 ·rw [aE9 (by simp only;omega),aE8 h1]
 ·rw [aE8 (by simp only;omega),aE9 h1]
theorem atk {n:Int} {ps qs:List (Int × Int)} (h:PsOk n ps) (g:PsOk n qs) (d:∀ p∈ps,∀ q∈qs,p ≠ q):PsOk n (ps ++ qs) :=
 ⟨aE2.mpr ⟨h.nd,g.nd,d⟩,fun p a=>by
  rcases aA7.mp a with z | z
  ·exact h.inn p z
  ·exact g.inn p z⟩
theorem atl {l:List Int} (h:∀ x∈l,2<=x):0<=l.sum:=by
 induction l with
 | nil=>simp
 | cons a l ih =>
  have:=h a (by simp)
  have:=ih fun x b=>h x (by simp [b])
  simp;omega
theorem avv {sz:List Int} (h:∀ x∈sz,2<=x) {i:Nat} {x:Int} (b:sz[i]?=some x):(sz.take (i+1)).sum=(sz.take i).sum+x/\(sz.take (i+1)).sum<=sz.sum/\0<=(sz.take i).sum:=by
 refine ⟨by rw [aG7,b];simp,?_,atl fun y a=>h y (aB9 a)⟩
 have:=congrArg List.sum (aC0 (i+1) sz)
 rw [List.sum_append] at this
 have:=atl fun y (a:y∈sz.drop (i+1))=>h y (aC3 a)
 omega
section
variable {P:Program} {w:World} {K:Frag} {mg:Str->Option Value} {base:Heap}
theorem sc_law_crowds:FnScope ["deck","sizes","n","row","ties","at","size","a","b"] ["deck"] (aai s_law_crowds):=by row_cond sc
theorem aj0 (T:Txt K mg):Can P w K mg base "_law_crowds" 3 ["deck"] (spI K (a05)):=by
 obtain ⟨f,fd,D⟩:=T.d_law_crowds
 obtain ⟨X,C⟩:=T.o_Grower
 have G:=C.mgx
 have a5:=T.n_Grower_held _ G
 refine D.can (D.fn.ok sc_law_crowds (fun vs H Q E h=>lenI h fun A ss Q' q=>by obtain ⟨rfl,rfl,k⟩:=q;rfl) (fun cdv A outer s H vs Q E L h=>?_))
 have nd:=sc_law_crowds.nd
 refine ⟨_,(aac (aal (i:=1) nd rfl (Or.inl rfl) (aan aao (aa1 (aaa (aa1 (aaa (aat abe aad (aah (aak T) L (aaa (pv 0) (aaa aad aab)))) aab)) (aaa (aa1 (aaa (aat abe aad (aah (aak T) L (aaa (pv 0) (aaa aad aab)))) (aaa (aat abe aad (aah (aak T) L (aaa (pv 0) (aaa aad aab)))) aab))) aab))) (aah (aak T) L (aaa (pv 0) (aaa aad aab))) (fun _ _=>rfl)))
  (aac (aal (i:=2) nd rfl (Or.inl rfl) (aat abe (aaj (ake rfl) (by rfl) T.b_sum ar2 (aaa (pv 1) aab)) (aah (aak T) L (aaa (pv 0) (aaa (aat aeg aad (aaj (ake rfl) (by rfl) T.b_sum ar2 (aaa (pv 1) aab))) aab)))))
  (aac (aal (i:=3) nd rfl (Or.inr rfl) (aah (af8 T) L (aaa (pv 0) (aaa (pv 2) aab))))
  (aac (aal (i:=4) nd rfl (Or.inl rfl) (aa1 aab))
  (aac (aal (i:=5) nd rfl (Or.inl rfl) aad)
  (aac (abi aI7 rfl (aby (pv 1)) (aam (i:=6) nd rfl (Or.inl rfl))
   (aac (abi aI7 rfl (adt rfl T.b_range (aaa (pv 5) (aaa (aat abe (pv 5) (pv 6)) aab))) (aam (i:=7) nd rfl (Or.inr rfl))
     (aag (aa8 (acn PySem.F.plainAttrs_list PySem.F.slot_list_extend PySem.F.type_list_extend arm (pv 4) (aaa (adp rfl (N:=["b","row","a"]) (src:=[none,some 3,some 7]) (by exact ab0 rfl rfl rfl rfl rfl rfl) (adt rfl T.b_range (aaa (aat abe (pv 7) aad) (aaa (aat abe (pv 5) (pv 6)) aab))) (fun _ _ _ _=>(aam (i:=0) (show List.Nodup (["b","row","a"]:List Str) by decide +kernel) rfl (Or.inl rfl) (hf:=Or.inr rfl))) (fun _ _ _ _=>ack) (fun _ _ _ _=>(aa4 (aaa (aan (show IxR _ (acg K) from aao) (pv 1) (pv 2) (fun _ _=>rfl)) (aaa (aan (show IxR _ (acg K) from aao) (pv 1) (pv 0) (fun _ _=>rfl)) aab))))) aab)))))
    (aag (aal (i:=5) nd rfl (Or.inl rfl) (aat abe (pv 5) (pv 6))))))
  (aac (abi aI7 rfl (adt rfl T.b_range (aaa (pv 5) (aaa (pv 2) aab))) (aam (i:=8) nd rfl (Or.inl rfl))
   (aag (aa6 (aaw ah8 (aah (aak T) L (aaa (pv 0) (aaa aad aab))) aad (aax _))
     (aag (aa8 (acn PySem.F.plainAttrs_list PySem.F.slot_list_append PySem.F.type_list_append abu (pv 4) (aaa (aa4 (aaa (aan aao (pv 3) (aah (aak T) L (aaa (pv 0) (aaa (pv 8) aab))) (fun _ _=>rfl)) (aaa (aan aao (pv 3) (pv 8) (fun _ _=>rfl)) aab))) aab))))
     aav)))
  (aag (aaq (aa4 (aaa (pv 2) (aaa (aaj ad4 (by rfl) T.b_sorted ac9 (aaa (adp rfl (N:=["tie"]) (src:=[none]) (by exact ab0 rfl rfl rfl rfl rfl rfl) (aby (pv 4)) (fun _ _ _ _=>(aam (i:=0) (show List.Nodup (["tie"]:List Str) by decide +kernel) rfl (Or.inl rfl) (hf:=Or.inr rfl))) (fun _ _ _ _=>ack) (fun _ _ _ _=>(aa4 (aaa (aaj (show abb _ (.builtin "min") (ale K) from (ar7 rfl)) (by rfl) T.b_min adu (aaa (pv 0) aab)) (aaa (aaj (show abb _ (.builtin "max") (afp K) from (aez rfl)) (by rfl) T.b_max acr (aaa (pv 0) aab)) aab))))) aab)) aab)))))))))))),?_⟩
 refine adi h fun A0 ss Q' q B hK=>?_
 obtain ⟨rfl,rfl,k⟩:=q
 show EvS B _ _ [some (.io ODk),none,none,none,none,none,none,none,none]
 row_cond go
 refine ⟨11,rfl,rfl,by omega,by omega,fun r1 b9 c0=>?_⟩
 row_cond go
 refine ⟨15,rfl,rfl,by omega,by omega,fun r2 c7 c8=>?_⟩
 row_cond go
 refine ⟨15,rfl,rfl,by omega,by omega,fun r3 b8 b4=>?_⟩
 row_cond go
 refine ⟨2,rfl,rfl,by omega,by omega,fun r4 b5 c3=>?_⟩
 obtain ⟨sz,J,U,a8,a9⟩:∃ sz:List Int,atI [PyData.list [.int (12+r1)],.list [.int (2+r2),.int (2+r3)]] r4=some (.list (sz.map .int))/\(∀ x∈sz,2<=x)/\(2<=sz.sum/\sz.sum<=32)/\sz.length<=2:=by
  rcases (show r4=0\/r4=1 by omega) with rfl | rfl
  ·exact ⟨[12+r1],rfl,fun x S=>by simp at S;omega,by simp;omega,by simp⟩
  ·exact ⟨[2+r2,2+r3],rfl,fun x S=>by simp at S;omega,by simp;omega,by simp⟩
 row_cond go
 refine ao7 rfl ?_
 row_cond go
 refine ao7 rfl ?_
 row_cond go
 refine ⟨61 - sz.sum,rfl,rfl,by omega,by omega,fun r5 c4 b1=>?_⟩
 row_cond go
 refine ⟨sz.sum+r5,rfl,rfl,by omega,by omega,fun row O=>adn ac0 ?_⟩
 obtain ⟨n,hn,b2,a6⟩:∃ n,n=sz.sum+r5/\sz.sum<=n/\n<=60:=⟨_,rfl,by omega,by omega⟩
 rw [← hn] at O
 rw [← hn]
 have J:∀ j:Int,0<=j->j < n->∃ x,atI (row.map PyData.int) j=some (.int x)/\0<=x/\x < n/\x=abc row j:=fun j Z j1=>⟨abc row j,aco Z (by rw [aA5,(O.at Z j1).1];rfl),(O.at Z j1).2.1,(O.at Z j1).2.2,rfl⟩
 row_cond go
 refine acv (fun i e=>∃ M v I ps,e=[some (.io ODk),some (.st (.list (sz.map .int))),some (.st (.int n)),some (.st (.list (row.map .int))),some (.own (OL ((ps.map (ixR row)).map prD))),some (.st (.int (sz.take i).sum)),M,v,I]/\PsOk n ps/\(ps.length:Int)<=32 * (sz.take i).sum/\∀ p∈ps,p.2 < (sz.take i).sum) ⟨none,none,none,[],rfl,PsOk.nil n,by simp,fun p l=>by cases l⟩ ?_ ?_
 ·rintro i x e S g
  refine exS4 e g fun M v I ps d=>?_
  have o:=d.1
  have r:=d.2.1
  have m:=d.2.2
  clear d g
  have c1:=U x (aA2 S)
  obtain ⟨t1,t2,t3⟩:=avv U S
  rw [t1] at t2
  rw [t1]
  generalize (sz.take i).sum=c at r t2 t3 m
  row_cond go
  refine abz (fun j e=>∃ v I ps,e=[some (.io ODk),some (.st (.list (sz.map .int))),some (.st (.int n)),some (.st (.list (row.map .int))),some (.own (OL ((ps.map (ixR row)).map prD))),some (.st (.int c)),some (.st (.int x)),v,I]/\PsOk n ps/\(ps.length:Int)<=32 * (c+j)/\∀ p∈ps,p.1 < c+(j:Int)/\p.2 < c+x) ⟨_,_,ps,rfl,o,by simpa using r,fun p l=>by have:=m p l;have:=o.inn p l;omega⟩ ?_ ?_
  ·clear o r m ps
   rintro j e hj g
   refine exS3 e g fun v I ps d=>?_
   have o:=d.1
   have r:=d.2.1
   have m:=d.2.2
   clear d g
   have c5:c+(j:Int) < c+x:=by omega
   obtain ⟨xa,ea,c6,c2,a0⟩:=J (c+(j:Int)) (by omega) (by omega)
   row_cond go
   unfold rngD
   refine aes (fun u:Nat=>prD (xa,abc row (c+(j:Int)+1+(u:Int)))) rfl (by simp;omega) (fun u R B' hB=>?_) ?_
   ·have Y:=aB8.mp R
    have hb:=O.at (a:=c+(j:Int)+1+(u:Int)) (by omega) (by omega)
    have eb:atI (row.map PyData.int) (c+(j:Int)+1+(u:Int))=some (.int (abc row (c+(j:Int)+1+(u:Int)))):=aco (by omega) (by rw [aA5,hb.1];rfl)
    row_cond go
    rfl
   ·refine ⟨_,_,rfl,rfl,by simp;omega,?_⟩
    dsimp only [List.set_cons_zero,List.set_cons_succ]
    subst a0
    refine ⟨_,_,ps ++ (List.range (c+x - (c+(j:Int)+1)).toNat).map fun u:Nat=>(c+(j:Int),c+(j:Int)+1+(u:Int)),by simp only [aD9,aD8];rfl,atk o ⟨?_,fun p l=>?_⟩ fun p l q W e=>?_,by simp;omega,fun p l=>?_⟩
    ·exact aF4.mpr (List.nodup_range.imp fun {a b} h e=>h (by have:=congrArg Prod.snd e;simp only at this;omega))
    ·obtain ⟨u,R,rfl⟩:=aB6.mp l
     have Y:=aB8.mp R
     exact ⟨by simp only;omega,by simp only;omega,by simp only;omega⟩
    ·obtain ⟨u,R,rfl⟩:=aB6.mp W
     have:=m p l
     rw [e] at this
     simp only at this
     omega
    ·rcases aA7.mp l with z | z
     ·have:=m p z
      omega
     ·obtain ⟨u,R,rfl⟩:=aB6.mp z
      have Y:=aB8.mp R
      exact ⟨by simp only;omega,by simp only;omega⟩
  ·clear o r m ps
   rintro e g
   refine exS3 e g fun v I ps d=>?_
   have o:=d.1
   have r:=d.2.1
   have m:=d.2.2
   clear d g
   row_cond go
   exact ⟨_,_,_,ps,rfl,o,by omega,fun p l=>(m p l).2⟩
 ·rintro e g
  refine exS4 e g fun M v I ps d=>?_
  have o:=d.1
  have r:=d.2.1
  have m:=d.2.2
  clear d g
  rw [aG1] at r m ⊢
  row_cond go
  refine abz (fun j e=>∃ M v I ps,e=[some (.io ODk),some (.st (.list (sz.map .int))),some (.st (.int n)),some (.st (.list (row.map .int))),some (.own (OL ((ps.map (ixR row)).map prD))),some (.st (.int sz.sum)),M,v,I]/\PsOk n ps/\(ps.length:Int)<=1024+j/\∀ p∈ps,p.2 < sz.sum+(j:Int)) ⟨_,_,_,ps,rfl,o,by omega,fun p l=>by have:=m p l;omega⟩ ?_ ?_
  ·clear o r m ps
   rintro j e hj g
   refine exS4 e g fun M v I ps d=>?_
   have o:=d.1
   have r:=d.2.1
   have m:=d.2.2
   clear d g
   obtain ⟨xb,eb,b7,b6,a7⟩:=J (sz.sum+(j:Int)) (by omega) (by omega)
   row_cond go
   refine ⟨5,rfl,rfl,by omega,by omega,fun q qa qb=>?_⟩
   row_cond go
   refine adc (fun W=>?_) (fun W=>?_)
   ·row_cond go
    refine ⟨sz.sum+(j:Int),rfl,rfl,by omega,by omega,fun y ya yb=>?_⟩
    obtain ⟨xy,ey,b0,b3,a2⟩:=J y ya (by omega)
    row_cond go
    subst a2 a7
    refine ⟨_,_,_,ps ++ [(y,sz.sum+(j:Int))],by rw [aD9,aD9];rfl,atk o ⟨by simp,fun p l=>by cases aC1.mp l;exact ⟨by simp only;omega,by simp only;omega,by simp only;omega⟩⟩ fun p l q W e=>?_,by simp;omega,fun p l=>?_⟩
    ·cases aC1.mp W
     have:=m p l
     rw [e] at this
     simp only at this
     omega
    ·rcases aA7.mp l with z | z
     ·have:=m p z
      push_cast
      omega
     ·cases aC1.mp z
      simp only
      push_cast
      omega
   ·row_cond go
    exact ⟨_,_,_,ps,rfl,o,by push_cast;omega,fun p l=>by have:=m p l;push_cast;omega⟩
  ·clear o r m ps
   rintro e g
   refine exS4 e g fun M v I ps d=>?_
   have o:=d.1
   have r:=d.2.1
   have m:=d.2.2
   clear d g
   row_cond go
   refine ae2 (ps:=ps.map (reP row)) ?_
   row_cond go
   refine aes (xs:=ps.map (ixR row)) (fun p:Int × Int=>prD (mmP p)) rfl (by rw [aA3];omega) (fun p l B' hB=>?_) ?_
   ·row_cond go
    refine au3 (ns:=[p.1,p.2]) rfl (by simp) fun m1 a3=>?_
    row_cond go
    refine au2 (ns:=[p.1,p.2]) rfl (by simp) fun m2 a1=>?_
    row_cond go
    exact ⟨by rw [a06 a3 a1],rfl⟩
   ·row_cond go
    refine ⟨by rw [← a18 O o];simp only [aD8];rfl,fun qs l hs=>ac5 ?_⟩
    row_cond go
    have hR:=o.re O
    exact k n qs (by omega) a6 ⟨l.nodup_iff.mpr hR.nd,fun p a4=>hR.inn p (l.mem_iff.mp a4)⟩ (by rw [l.length_eq,aA3];omega)
end
def ayv:VIo:=fun A ss Q=>∃ most:Int,A=ODk/\ss=[.st (.int most)]/\(most=60\/most=24)/\∀ (n:Int) (es:List (Int × Int)),1<=n->n<=60->PsOk n es->es.length<=1900->Q ODk (.st (webD n es))
section
variable {P:Program} {w:World} {K:Frag} {mg:Str->Option Value} {base:Heap}
theorem sc_law_web:FnScope ["deck","most","n","row","kind","ties","k","heads","head","a","b"] ["deck","most"] (aai s_law_web):=by row_cond sc
theorem aoa (T:Txt K mg):Can P w K mg base "_law_web" 4 ["deck","most"] (spI K (ayv)):=by
 obtain ⟨f,fd,D⟩:=T.d_law_web
 obtain ⟨W,y⟩:=T.o_Grower
 have C:=y.mgx
 have b6:=T.n_Grower_held _ C
 refine D.can (D.fn.ok sc_law_web (fun vs H Q E h=>lenI h fun A ss Q' q=>by obtain ⟨most,rfl,rfl,N,k⟩:=q;rfl) (fun cdv A outer s H vs Q E c h=>?_))
 have nd:=sc_law_web.nd
 refine ⟨_,(aac (aa6 (PW.pt (aee (aaw adb (pv 1) aad (aax _)) (adj (aaw adb (aah (aak T) c (aaa (pv 0) (aaa aad aab))) aad (aax _)))))
   (aag (aaq (aah (aj0 T) c (aaa (pv 0) aab))))
   aav)
  (aac (aal (i:=2) nd rfl (Or.inl rfl) (aat abe aad (aah (aak T) c (aaa (pv 0) (aaa (aan aao (aa1 (aaa aad (aaa aad (aaa aad (aaa (pv 1) aab))))) (aah (aak T) c (aaa (pv 0) (aaa aad aab))) (fun _ _=>rfl)) aab)))))
  (aac (aal (i:=3) nd rfl (Or.inl rfl) (aan aao (aa1 (aaa (amz rfl T.b_list rfl T.b_range rfl (aaa (pv 2) aab)) (aaa (aah (af8 T) c (aaa (pv 0) (aaa (pv 2) aab))) aab))) (aah (aak T) c (aaa (pv 0) (aaa aad aab))) (fun _ _=>rfl)))
  (aac (aal (i:=4) nd rfl (Or.inl rfl) (aah (aak T) c (aaa (pv 0) (aaa aad aab))))
  (aac (aal (i:=5) nd rfl (Or.inl rfl) al0)
  (aac (abi aI7 rfl (adt rfl T.b_range (aaa aad (aaa (pv 2) aab))) (aam (i:=6) nd rfl (Or.inl rfl))
   (aac (aal (i:=7) nd rfl (Or.inl rfl) (aa1 (aaa (aat aeg (pv 6) aad) (aaa (aah (aak T) c (aaa (pv 0) (aaa (pv 6) aab))) (aaa (aaj (ace rfl) (by rfl) T.b_max acr (aaa aad (aaa (aat aeg (aat aeg (pv 6) aad) (aah (aak T) c (aaa (pv 0) (aaa aad aab)))) aab))) (aaa aad (aaa (aat ai7 (pv 6) aad) aab)))))))
    (aac (aal (i:=8) nd rfl (Or.inl rfl) (aan aao (aat aib (pv 7) (aa1 (aaa (aah (aak T) c (aaa (pv 0) (aaa (aaj (acf rfl) (by rfl) T.b_min adu (aaa (pv 6) (aaa aad aab))) aab))) aab))) (pv 4) (fun _ _=>rfl)))
    (aag (ag3 (ac1 c) (pv 5) (aa4 (aaa (aaj (acf rfl) (by rfl) T.b_min adu (aaa (aan aao (pv 3) (pv 6) (fun _ _=>rfl)) (aaa (aan aao (pv 3) (pv 8) (fun _ _=>rfl)) aab))) (aaa (aaj (ace rfl) (by rfl) T.b_max acr (aaa (aan aao (pv 3) (pv 6) (fun _ _=>rfl)) (aaa (aan aao (pv 3) (pv 8) (fun _ _=>rfl)) aab))) aab))) acw rfl)))))
  (aac (aa6 (PW.pt (aee (aaw adb (aah (aak T) c (aaa (pv 0) (aaa aad aab))) aad (aax _)) (adj (aaw ah8 (pv 2) aad (aax _)))))
   (aag (ag3 (ac1 c) (pv 5) (aa4 (aaa (aaj (acf rfl) (by rfl) T.b_min adu (aaa (aan aao (pv 3) aad (fun _ _=>rfl)) (aaa (aan aao (pv 3) (av2 aq8 aad) (fun _ _=>rfl)) aab))) (aaa (aaj (ace rfl) (by rfl) T.b_max acr (aaa (aan aao (pv 3) aad (fun _ _=>rfl)) (aaa (aan aao (pv 3) (av2 aq8 aad) (fun _ _=>rfl)) aab))) aab))) acw rfl))
   aav)
  (aac (abi aI7 rfl (abg rfl T.b_range (aaa (aan aao (aa1 (aaa aad (aaa (aah (aak T) c (aaa (pv 0) (aaa aad aab))) (aaa (aah (aak T) c (aaa (pv 0) (aaa (aat abe (pv 2) aad) aab))) (aaa (aah (aak T) c (aaa (pv 0) (aaa (aat age aad (pv 2)) aab))) aab))))) (aah (aak T) c (aaa (pv 0) (aaa aad aab))) (fun _ _=>rfl)) aab)) (aam (i:=6) nd rfl (Or.inl rfl))
   (aac (aal (i:=9) nd rfl (Or.inl rfl) (aah (aak T) c (aaa (pv 0) (aaa (pv 2) aab))))
    (aac (aal (i:=10) nd rfl (Or.inl rfl) (aah (aak T) c (aaa (pv 0) (aaa (pv 2) aab))))
    (aag (aa6 (aaw apu (pv 9) (pv 10) (aax _))
     (aag (ag3 (ac1 c) (pv 5) (aa4 (aaa (aaj (acf rfl) (by rfl) T.b_min adu (aaa (pv 9) (aaa (pv 10) aab))) (aaa (aaj (ace rfl) (by rfl) T.b_max acr (aaa (pv 9) (aaa (pv 10) aab))) aab))) acw rfl))
     aav)))))
  (aac (abi aI7 rfl (abg rfl T.b_range (aaa (aan aao (aa1 (aaa aad (aaa aad (aaa (aah (aak T) c (aaa (pv 0) (aaa aad aab))) (aaa (aah (aak T) c (aaa (pv 0) (aaa (aat abe (pv 2) aad) aab))) aab))))) (aah (aak T) c (aaa (pv 0) (aaa aad aab))) (fun _ _=>rfl)) aab)) (aam (i:=6) nd rfl (Or.inl rfl))
   (aag (aa6 (aaw (a0s c.units) (pv 5) al0 (aax _))
     (aag (aa8 (avi (ac1 c) (pv 5) (aan aao (aaj (ahl rfl) (by rfl) T.b_sorted ac9 (aaa (pv 5) aab)) (aah (aak T) c (aaa (pv 0) (aaa (aaj asv (by rfl) T.b_len aca (aaa (pv 5) aab)) aab))) (fun _ _=>rfl)) ⟨rfl,rfl,rfl,rfl⟩)))
     aav)))
  (aag (aaq (aa4 (aaa (pv 2) (aaa (aaj (ahl rfl) (by rfl) T.b_sorted ac9 (aaa (pv 5) aab)) aab)))))))))))))),?_⟩
 refine adi h fun A0 ss Q' q B hK=>?_
 obtain ⟨most,rfl,rfl,N,k⟩:=q
 show EvS B _ _ [some (.io ODk),some (.st (.int most)),none,none,none,none,none,none,none,none,none]
 refine' cutR (R:=EvS B ?c1 ?d1 [some (.io ODk),some (.st (.int most)),none,none,none,none,none,none,none,none,none]) (fun R=>?K1) ?K2
 case K1 =>
  rcases N with rfl | rfl
  ·row_cond go
   refine ⟨3,rfl,rfl,by omega,by omega,fun r0 f0 d6=>?_⟩
   row_cond go
   refine adc (fun b8=>?_) (fun b8=>?_)
   ·row_cond go
    exact ⟨rfl,rfl,fun n es n0 n1 d z=>⟨ODk,rfl,k n es n0 n1 d z⟩⟩
   ·repeat (first | exact R | row_cond st)
  ·repeat (first | exact R | row_cond st)
 case K2 =>
  row_cond go
  refine ⟨4,rfl,rfl,by omega,by omega,fun O e4 e7=>?_⟩
  obtain ⟨S,d7,f2,e8⟩:∃ S:Int,atI [PyData.int 4,PyData.int 12,PyData.int 12,PyData.int most] O=some (.int S)/\4<=S/\S<=60:=by
   rcases (show O=0\/O=1\/O=2\/O=3 by omega) with rfl | rfl | rfl | rfl
   ·exact ⟨4,rfl,by omega,by omega⟩
   ·exact ⟨12,rfl,by omega,by omega⟩
   ·exact ⟨12,rfl,by omega,by omega⟩
   ·exact ⟨most,rfl,by omega,by omega⟩
  row_cond go
  refine ⟨S,rfl,rfl,by omega,by omega,fun r2 g7 g8=>?_⟩
  row_cond go
  obtain ⟨n,hn,n0,n1⟩:∃ n,1+r2=n/\1<=n/\n<=60:=⟨_,rfl,by omega,by omega⟩
  rw [hn]
  row_cond go
  refine ⟨n,rfl,rfl,by omega,by omega,fun G b5=>ac5 ?_⟩
  row_cond go
  refine ⟨2,rfl,rfl,by omega,by omega,fun r3 d9 d5=>?_⟩
  obtain ⟨row,b9,L⟩:∃ row:List Int,atI [PyData.list (rngD 0 n.toNat),PyData.list (G.map .int)] r3=some (.list (row.map .int))/\Order n row:=by
   rcases (show r3=0\/r3=1 by omega) with rfl | rfl
   ·exact ⟨(List.range n.toNat).map fun (i:Nat)=>(i:Int),by show some _=some _;rw [ayg],Order.id n⟩
   ·exact ⟨G,rfl,b5⟩
  have F:∀ j:Int,0<=j->j < n->∃ x,atI (row.map PyData.int) j=some (.int x)/\0<=x/\x < n/\x=abc row j:=fun j X j1=>⟨abc row j,aco X (by rw [aA5,(L.at X j1).1];rfl),(L.at X j1).2.1,(L.at X j1).2.2,rfl⟩
  row_cond go
  refine ⟨6,rfl,rfl,by omega,by omega,fun kind ka kb=>?_⟩
  row_cond go
  rw [a0o]
  refine abz (fun i e=>∃ u l g v o ps,e=[some (.io ODk),some (.st (.int most)),some (.st (.int n)),some (.st (.list (row.map .int))),some (.st (.int kind)),some (.own (OT (kE ps))),u,l,g,v,o]/\PsOk n ps/\ps.length<=i) ⟨_,_,_,_,_,[],rfl,PsOk.nil n,aA6 _⟩ ?_ ?_
  ·rintro i e hi b
   refine exS6 e b fun u l g v o ps a=>?_
   have d:=a.1
   have z:=a.2
   clear a b
   have b7:1+(i:Int) < n:=by omega
   obtain ⟨xk,ek,d0,c2,a7⟩:=F (1+(i:Int)) (by omega) b7
   have J:(kE ps).length<=999999:=by rw [ae1];omega
   row_cond go
   refine ⟨1+(i:Int),rfl,rfl,by omega,by omega,fun d1 f6 e9=>?_⟩
   row_cond go
   refine ⟨3,rfl,rfl,by omega,by omega,fun d2 d4 h6=>?_⟩
   iterate 16 row_cond st
   refine adn ac0 ?_
   row_cond go
   refine ⟨_,rfl,rfl,by split <;> omega,by split <;> omega,fun d3 c7 a8=>?_⟩
   have g5:d3 < 1+(i:Int):=by split at a8 <;> omega
   obtain ⟨hd,e3,a0,g6⟩:∃ hd:Int,atI ([PyData.int (1+(i:Int) - 1),PyData.int d1,PyData.int (if 1+(i:Int) - 1 - d2 > 0 then 1+(i:Int) - 1 - d2 else 0),PyData.int 0,PyData.int ((1+(i:Int)) / 2)] ++ [PyData.int d3]) kind=some (.int hd)/\0<=hd/\hd < 1+(i:Int):=by
    rcases (show kind=0\/kind=1\/kind=2\/kind=3\/kind=4\/kind=5 by omega) with rfl | rfl | rfl | rfl | rfl | rfl
    ·exact ⟨_,rfl,by omega,by omega⟩
    ·exact ⟨_,rfl,by omega,by omega⟩
    ·exact ⟨_,rfl,by split <;> omega,by split <;> omega⟩
    ·exact ⟨_,rfl,by omega,by omega⟩
    ·exact ⟨_,rfl,by omega,by omega⟩
    ·exact ⟨_,rfl,by omega,by omega⟩
   obtain ⟨xh,eh,c4,c6,Z⟩:=F hd a0 (by omega)
   have b0:xk ≠ xh:=by rw [a7,Z];exact L.ne (by omega) (by omega) (by omega) (by omega) (by omega)
   row_cond go
   rw [am1]
   exact ⟨_,_,_,_,_,_,rfl,d.add (by split <;> omega) (by split <;> split <;> omega) (by split <;> omega),aC9 ahy (by omega)⟩
  ·rintro e b
   refine exS6 e b fun u l g v o ps a=>?_
   have d:=a.1
   have z:=a.2
   clear a b
   have J:(kE ps).length<=999999:=by rw [ae1];omega
   obtain ⟨x0,e0,g4,g9,a5⟩:=F 0 (by omega) (by omega)
   obtain ⟨xl,el,f5,c9,a9⟩:∃ x,atI (row.map PyData.int) (-1)=some (.int x)/\0<=x/\x < n/\x=abc row (n - 1):=by
    obtain ⟨x,ex,x0,x1,Y⟩:=F (n - 1) (by omega) (by omega)
    refine ⟨x,?_,x0,x1,Y⟩
    have hl:(row.map PyData.int).length=n.toNat:=by rw [aA3];exact L.len
    have h2:ixN n.toNat (-1)=some (n.toNat - 1):=by unfold ixN;rw [aE9 (by omega),aE8 (by omega)];congr 1;omega
    have h3:ixN n.toNat (n - 1)=some (n.toNat - 1):=by unfold ixN;rw [aE8 (by omega),aE8 (by omega)];congr 1;omega
    unfold atI at ex ⊢
    rw [hl,h3] at ex
    rw [hl,h2]
    exact ex
   refine' ajs (by assumption) ?_
   refine amt (fun c_ e6=>?_)
   refine avg (fun e=>∃ ps,e=[some (.io ODk),some (.st (.int most)),some (.st (.int n)),some (.st (.list (row.map .int))),some (.st (.int kind)),some (.own (OT (kE ps))),u,l,g,v,o]/\PsOk n ps/\ps.length<=61) ?_ ?_
   ·row_cond go
    refine ⟨4,rfl,rfl,by omega,by omega,fun q qa qb=>?_⟩
    row_cond go
    refine adc (fun h=>?_) (fun h=>?_)
    ·row_cond go
     refine adc (fun h=>?_) (fun h=>?_)
     ·row_cond go
      rw [am1]
      have b0:x0 ≠ xl:=by rw [a5,a9];exact L.ne (by omega) (by omega) (by omega) (by omega) (by omega)
      exact ⟨_,rfl,d.add (by split <;> omega) (by split <;> split <;> omega) (by split <;> omega),aC9 ahy (by omega)⟩
     ·row_cond go
      exact ⟨ps,rfl,d,by omega⟩
    ·row_cond go
     exact ⟨ps,rfl,d,by omega⟩
   ·clear d z J ps
    rintro e b
    refine exS1 e b fun ps a=>?_
    have d:=a.1
    have z:=a.2
    clear a b
    row_cond go
    refine ⟨4,rfl,rfl,by omega,by omega,fun a1 h4 f1=>?_⟩
    row_cond go
    refine ⟨n+1,rfl,rfl,by omega,by omega,fun a2 f4 c3=>?_⟩
    row_cond go
    refine ⟨4 * n,rfl,rfl,by omega,by omega,fun a3 f9 h5=>?_⟩
    row_cond go
    refine ⟨4,rfl,rfl,by omega,by omega,fun U h0 f8=>?_⟩
    obtain ⟨m,em,m0,m1⟩:∃ m:Int,atI [PyData.int 0,PyData.int a1,PyData.int a2,PyData.int a3] U=some (.int m)/\0<=m/\m<=240:=by
     rcases (show U=0\/U=1\/U=2\/U=3 by omega) with rfl | rfl | rfl | rfl <;> exact ⟨_,rfl,by omega,by omega⟩
    row_cond go
    refine abz (fun i e=>∃ u l g v o ps,e=[some (.io ODk),some (.st (.int most)),some (.st (.int n)),some (.st (.list (row.map .int))),some (.st (.int kind)),some (.own (OT (kE ps))),u,l,g,v,o]/\PsOk n ps/\ps.length<=61+i) ⟨_,_,_,_,_,ps,rfl,d,z⟩ ?_ ?_
    ·rintro i e hi b
     refine exS6 e b fun u l g v o ps a=>?_
     have d:=a.1
     have z:=a.2
     clear a b
     have J:(kE ps).length<=999999:=by rw [ae1];omega
     row_cond go
     refine ⟨n,rfl,rfl,by omega,by omega,fun ba f7 c8=>?_⟩
     row_cond go
     refine ⟨n,rfl,rfl,by omega,by omega,fun bb h1 f3=>?_⟩
     row_cond go
     refine aw8 (fun h=>?_) (fun h=>?_)
     ·row_cond go
      rw [am1]
      exact ⟨_,_,_,_,_,_,rfl,d.add (by split <;> omega) (by split <;> split <;> omega) (by split <;> omega),aC9 ahy (by omega)⟩
     ·row_cond go
      exact ⟨_,_,_,_,_,ps,rfl,d,by omega⟩
    ·rintro e b
     refine exS6 e b fun u l g v o ps a=>?_
     have d:=a.1
     have z:=a.2
     clear a b
     row_cond go
     refine ⟨6,rfl,rfl,by omega,by omega,fun b1 e1 g2=>?_⟩
     row_cond go
     refine ⟨n+1,rfl,rfl,by omega,by omega,fun b2 g3 g1=>?_⟩
     row_cond go
     refine ⟨4,rfl,rfl,by omega,by omega,fun M d8 c5=>?_⟩
     obtain ⟨m',e5,g0,e2⟩:∃ m:Int,atI [PyData.int 0,PyData.int 1,PyData.int b1,PyData.int b2] M=some (.int m)/\0<=m/\m<=61:=by
      rcases (show M=0\/M=1\/M=2\/M=3 by omega) with rfl | rfl | rfl | rfl <;> exact ⟨_,rfl,by omega,by omega⟩
     row_cond go
     have a6:ps.length<=301:=by omega
     refine abz (fun i e=>∃ u l g v o ps,e=[some (.io ODk),some (.st (.int most)),some (.st (.int n)),some (.st (.list (row.map .int))),some (.st (.int kind)),some (.own (OT (kE ps))),u,l,g,v,o]/\PsOk n ps/\ps.length<=301) ⟨_,_,_,_,_,ps,rfl,d,a6⟩ ?_ ?_
     ·rintro i e hi b
      refine exS6 e b fun u l g v o ps a=>?_
      have d:=a.1
      have z:=a.2
      clear a b
      iterate 3 row_cond st
      refine a0t (.inl rfl) ?_
      row_cond go
      cases hps:ps with
      | nil =>
       refine acz ?_
       row_cond go
       exact ⟨_,_,_,_,_,[],rfl,PsOk.nil n,by simp⟩
      | cons p0 pr =>
       have c0:0 < ps.length:=by rw [hps];simp
       rw [← hps]
       rw [aE8 (show (!(kE ps).isEmpty)=true by rw [hps];rfl)]
       refine ams (aa5 ?_)
       refine avj (.inl rfl) ?_
       refine awb ?_
       refine abo (aix (.inl rfl) fun qs I hs=>ac5 ?_)
       refine akl rfl ?_
       refine amq (ayi (.inl rfl) ?_)
       row_cond go
       rw [ae1]
       refine ⟨_,rfl,rfl,by omega,by omega,fun r ra rb=>?_⟩
       obtain ⟨q,hq⟩:∃ q,qs[r.toNat]?=some q:=⟨_,aA0 (show r.toNat < qs.length by rw [I.length_eq];omega)⟩
       have eq:atI (qs.map prD) r=some (prD q):=aco ra (by rw [aA5,hq];rfl)
       obtain ⟨j,hj⟩:=List.getElem?_of_mem (I.mem_iff.mp (aA2 hq))
       row_cond go
       refine ⟨kE ps,[Sum.inl q.1,Sum.inl q.2],j,.bool true,rfl,rfl,by unfold kE;rw [aA5,hj];rfl,?_⟩
       dsimp only [List.set_cons_zero,List.set_cons_succ]
       row_cond go
       exact ⟨_,_,_,_,_,ps.eraseIdx j,by rw [show (kE ps).eraseIdx j=kE (ps.eraseIdx j) from agu _ _ _],⟨d.nd.sublist (List.eraseIdx_sublist ps j),fun p I=>d.inn p ((List.eraseIdx_sublist ps j).mem I)⟩,aC9 (List.length_eraseIdx_le ps j) z⟩
     ·rintro e b
      refine exS6 e b fun u l g v o ps a=>?_
      have d:=a.1
      have z:=a.2
      clear a b
      iterate 6 row_cond st
      refine abo (aix (.inl rfl) fun qs I hs=>ac5 ?_)
      row_cond go
      exact k n qs n0 n1 ⟨I.nodup_iff.mpr d.nd,fun p b4=>d.inn p (I.mem_iff.mp b4)⟩ (by rw [I.length_eq];omega)
end
structure FarD (n:Int) (f:Int->Option Nat) (es:List (Key × PyData)):Prop where
 mem:∀ k d,(k,d)∈es->∃ (v:Int) (j:Nat),k=.inl v/\d=.int (j:Int)/\0<=v/\v < n/\f v=some j
 all:∀ (v:Int) (j:Nat),f v=some j->((.inl v:Key),PyData.int (j:Int))∈es
 nd:(es.map (·.1)).Nodup
 len:es.length+cnt f n.toNat=n.toNat
theorem FarD.val {n:Int} {f:Int->Option Nat} {es:List (Key × PyData)} (h:FarD n f es) (v:Int):valD es (.inl v)=(f v).map fun j => .int (j:Int):=by
 unfold valD
 cases e:es.find? fun e=>decide (e.1=(.inl v:Key)) with
 | none =>
  rw [List.find?_eq_none] at e
  cases hf:f v with
  | none=>rfl
  | some j=>exact absurd (aD6 rfl) (e _ (h.all v j hf))
 | some p =>
  obtain ⟨k,d⟩:=p
  have c:k=.inl v:=by simpa using List.find?_some e
  obtain ⟨u,j,a,b,_,_,g⟩:=h.mem k d (List.mem_of_find?_eq_some e)
  rw [c] at a
  cases a
  rw [g,b]
  rfl
theorem avw (n:Nat):cnt (fun _=>none) n=n:=by
 induction n with
 | zero=>rfl
 | succ n ih=>unfold cnt;rw [ih,aE8 rfl]
theorem FarD.start {n a:Int} (a0:0<=a) (a1:a < n):FarD n (Gr.label (fun _=>none) a 0) [(.inl a,.int 0)]:=by
 refine ⟨fun k d hm=>?_,fun v j b=>?_,by simp,?_⟩
 ·have:(k,d)=((.inl a:Key),PyData.int 0):=by simpa using hm
  cases this
  exact ⟨a,0,rfl,rfl,a0,a1,Gr.label_same⟩
 ·by_cases e:v=a
  ·subst e
   rw [Gr.label_same] at b
   cases b
   exact aC1.mpr rfl
  ·rw [Gr.label_ne e] at b
   cases b
 ·have f:=ady (far:=fun _=>none) (d:=0) a0 rfl (n:=n.toNat) (by omega)
  have c:=avw n.toNat
  simp only [aE0,aI0]
  omega
theorem FarD.put {n v:Int} {f:Int->Option Nat} {es:List (Key × PyData)} {j:Nat} (h:FarD n f es) (v0:0<=v) (z:v < n) (r:f v=none):FarD n (Gr.label f v j) (putD es (.inl v) (.int (j:Int))):=by
 have a:∀ p∈es,p.1 ≠ (.inl v:Key):=fun p c e=>by
  obtain ⟨u,i,b,_,_,_,m⟩:=h.mem p.1 p.2 c
  rw [e] at b
  cases b
  rw [r] at m
  cases m
 have g:putD es (.inl v) (.int (j:Int))=es ++ [(.inl v,.int (j:Int))]:=by
  unfold putD
  rw [aE9]
  rw [List.any_eq_true]
  rintro ⟨p,c,e⟩
  exact a p c (by simpa using e)
 rw [g]
 refine ⟨fun k d hm=>?_,fun u i l=>?_,?_,?_⟩
 ·rcases aA7.mp hm with hm | hm
  ·obtain ⟨u,i,b,q,m,s,w⟩:=h.mem k d hm
   have o:u ≠ v:=fun e=>a (k,d) hm (by rw [← e];exact b)
   exact ⟨u,i,b,q,m,s,by rw [Gr.label_ne o];exact w⟩
  ·have:(k,d)=((.inl v:Key),PyData.int (j:Int)):=by simpa using hm
   cases this
   exact ⟨v,j,rfl,rfl,v0,z,Gr.label_same⟩
 ·by_cases e:u=v
  ·subst e
   rw [Gr.label_same] at l
   cases l
   exact aB2 _ (aC1.mpr rfl)
  ·rw [Gr.label_ne e] at l
   exact aC6 _ (h.all u i l)
 ·rw [aD9,aE2]
  refine ⟨h.nd,by simp,fun x A y B=>?_⟩
  obtain ⟨p,c,rfl⟩:=aB6.mp A
  have:y=.inl v:=by simpa using B
  rw [this]
  exact a p c
 ·have b:=ady (d:=j) v0 r (n:=n.toNat) (by omega)
  have q:=h.len
  rw [aB0]
  simp only [aE0,aI0]
  omega
theorem FarD.ne {n:Int} {f:Int->Option Nat} {es:List (Key × PyData)} (h:FarD n f es) {v:Int} {j:Nat} (a:f v=some j):es ≠ []:=fun e=>by
 have:=h.all v j a
 rw [e] at this
 cases this
theorem FarD.congr {n:Int} {f g:Int->Option Nat} {es:List (Key × PyData)} (h:FarD n f es) (e:∀ v,f v=g v):FarD n g es:=by
 have:f=g:=funext e
 rw [← this]
 exact h
theorem awj:∀ (ns:List Int),aas (.list (ns.map .int))=true
 | []=>rfl
 | a :: ns=>by have:=awj ns;simp only [aas,aD0,plainDs] at *;simp [this]
theorem a07 (ns:List Int):(PyData.list (ns.map .int)).depth<=60:=by
 have:PyData.depthAll (ns.map .int)<=1:=ae7 fun d hd=>by
  obtain ⟨_,_,rfl⟩:=aB6.mp hd
  simp [PyData.depth]
 simp only [PyData.depth]
 omega
theorem ayw (ns:List Int):PyData.eqv (.list (ns.map .int)) (.list [])=ns.isEmpty:=by cases ns <;> rfl
structure FarsD (n:Int) (es:List (Int × Int)) (ess:List (List (Key × PyData))):Prop where
 len:(ess.length:Int)=n
 row:∀ (v:Int) fs,0<=v->ess[v.toNat]?=some fs->FarD n (Gr.farO (Tied es) v) fs
def ayx:VP:=fun ss Q=>∃ (n:Int) (es:List (Int × Int)),ss=[.st (webD n es)]/\0<=n/\n<=100/\InN n es/\es.length<=10000/\∀ tl,TiedL n (Tied es) tl->Q (.own (ODL (tlD tl)))
def ayy:VP:=fun ss Q=>∃ (n:Int) (es:List (Int × Int)),ss=[.st (webD n es)]/\1<=n/\n<=100/\InN n es/\es.length<=10000/\∀ ess,FarsD n es ess->Q (.own (OL (ess.map aba)))
section
variable {P:Program} {w:World} {K:Frag} {mg:Str->Option Value} {base:Heap}
theorem sc_law_tied:FnScope ["web","found","a","b"] ["web"] (aai s_law_tied):=by row_cond sc
theorem anp (T:Txt K mg):Can P w K mg base "_law_tied" 1 ["web"] (spP K (ayx)):=by
 obtain ⟨f,fd,D⟩:=T.d_law_tied
 obtain ⟨x,o⟩:=T.o_Grower
 have m:=o.mgx
 have J:=T.n_Grower_held _ m
 refine D.can (D.fn.ok sc_law_tied (fun vs H Q E h=>lenP h fun ss Q' q=>by obtain ⟨n,es,rfl,U,S,y,z,k⟩:=q;rfl) (fun cdv A outer s H vs Q E O h=>?_))
 have nd:=sc_law_tied.nd
 refine ⟨_,(aac (aal (i:=1) nd rfl (Or.inl rfl) (ac8 (aqs rfl) (by rfl) T.b_dict aw9 (aaa (adp rfl (N:=["place"]) (src:=[none]) (by exact ab0 rfl rfl rfl rfl rfl rfl) (abg rfl T.b_range (aaa (aan aao (pv 0) aad (fun _ _=>rfl)) aab)) (fun _ _ _ _=>(aam (i:=0) (show List.Nodup (["place"]:List Str) by decide +kernel) rfl (Or.inl rfl) (hf:=Or.inr rfl))) (fun _ _ _ _=>ack) (fun _ _ _ _=>(aa4 (aaa (pv 0) (aaa (aa1 aab) aab))))) aab)))
  (aac (abi aI7 rfl (aby (aan aao (pv 0) aad (fun _ _=>rfl))) (acq rfl (aa2 (aam (i:=2) nd rfl (Or.inl rfl)) (aa2 (aam (i:=3) nd rfl (Or.inl rfl)) ab8)))
   (aac (aa8 (acn PySem.F.plainAttrs_list PySem.F.slot_list_append PySem.F.type_list_append abu (afb (ac1 O) (pv 1) (pv 2) (fun _ _=>rfl)) (aaa (pv 3) aab)))
    (aag (aa8 (acn PySem.F.plainAttrs_list PySem.F.slot_list_append PySem.F.type_list_append abu (afb (ac1 O) (pv 1) (pv 3) (fun _ _=>rfl)) (aaa (pv 2) aab))))))
  (aag (aaq (pv 1))))),?_⟩
 refine abm h fun ss Q' q B X=>?_
 refine exS2 ss q fun n es c=>?_
 have U:=c.1
 have S:=c.2.1
 have y:=c.2.2.1
 have z:=c.2.2.2.1
 have k:=c.2.2.2.2
 clear c q
 show EvS B _ _ [some (.st (webD n es)),none,none,none]
 row_cond go
 refine as9 ?_
 row_cond go
 refine ⟨n.toNat,rfl,by omega,?_⟩
 row_cond go
 refine acv (fun i e=>∃ G I tl,e=[some (.st (webD n es)),some (.own (ODL (tlD tl))),G,I]/\TiedL n (Tied (es.take i)) tl/\∀ g∈tl,g.length<=2 * i)
  ⟨none,none,List.replicate n.toNat [],by simp [tlD],⟨by simp;omega,fun i g hi w=>?_⟩,fun g R=>?_⟩ ?_ ?_
 ·rw [aH0] at hi
  split at hi
  ·cases hi;simp [Tied]
  ·cases hi
 ·have:=List.eq_of_mem_replicate R
  subst this;simp
 ·rintro i ⟨a,b⟩ e L p
  refine exS3 e p fun G I tl c=>?_
  have r:=c.1
  have l:=c.2
  clear c p
  have hi:i < es.length:=(aA1.mp L).1
  obtain ⟨a0,a1,b0,b1⟩:=y _ (aA2 L)
  dsimp only at a0 a1 b0 b1
  row_cond go
  obtain ⟨g,d,_⟩:=r.get a0 a1
  have W:=l g (aA2 d)
  refine ai2 (n:=a.toNat) (ds:=g.map .int) rfl rfl rfl (by omega) (aec d) (by rw [aA3];omega) ?_
  dsimp only [List.set_cons_zero,List.set_cons_succ]
  have M:=r.put (q:=b) a0 a1 d
  rw [show g.map PyData.int ++ [.int b]=(g ++ [b]).map .int by simp,aha]
  have j:∀ us∈tl.set a.toNat (g ++ [b]),us.length<=2 * i+1:=fun us C=>by
   rcases List.mem_or_eq_of_mem_set C with h | h
   ·have:=l us h;omega
   ·subst h;simp;omega
  generalize tl.set a.toNat (g ++ [b])=tl2 at M j
  row_cond go
  obtain ⟨g,d,_⟩:=M.get b0 b1
  have W:=j g (aA2 d)
  refine ai2 (n:=b.toNat) (ds:=g.map .int) rfl rfl rfl (by omega) (aec d) (by rw [aA3];omega) ?_
  dsimp only [List.set_cons_zero,List.set_cons_succ]
  rw [show g.map PyData.int ++ [.int a]=(g ++ [a]).map .int by simp,aha]
  refine ⟨_,_,_,rfl,(M.put (q:=a) b0 b1 d).iff fun u v=>(Tied.snoc L u v).symm,fun us C=>?_⟩
  rcases List.mem_or_eq_of_mem_set C with h | h
  ·have:=j us h;omega
  ·subst h;simp;omega
 ·rintro e p
  refine exS3 e p fun G I tl c=>?_
  have r:=c.1
  have l:=c.2
  clear c p
  rw [aG1] at r
  row_cond go
  exact k tl r
theorem sc_law_fars:FnScope ["web","tied","table","place","found","ring","far","later","one","other"] ["web"] (aai s_law_fars):=by row_cond sc
theorem anq (T:Txt K mg):Can P w K mg base "_law_fars" 2 ["web"] (spP K (ayy)):=by
 obtain ⟨f,fd,D⟩:=T.d_law_fars
 obtain ⟨a5,C⟩:=T.o_Grower
 have J:=C.mgx
 have b2:=T.n_Grower_held _ J
 refine D.can (D.fn.ok sc_law_fars (fun vs H Q E h=>lenP h fun ss Q' q=>by obtain ⟨n,es,rfl,n0,n1,Y,a4,k⟩:=q;rfl) (fun cdv A outer s H vs Q E hr h=>?_))
 have nd:=sc_law_fars.nd
 refine ⟨_,(aac (aal (i:=1) nd rfl (Or.inl rfl) (aah (anp T) hr (aaa (pv 0) aab)))
  (aac (aal (i:=2) nd rfl (Or.inl rfl) (aa1 aab))
  (aac (abi aI7 rfl (abg rfl T.b_range (aaa (aan aao (pv 0) aad (fun _ _=>rfl)) aab)) (aam (i:=3) nd rfl (Or.inl rfl))
   (aac (aal (i:=4) nd rfl (Or.inl rfl) (aw0 (at3 (pv 3) aad awz) rfl rfl (by simp) (by decide)))
    (aac (aal (i:=5) nd rfl (Or.inl rfl) (aa1 (aaa (pv 3) aab)))
    (aac (aal (i:=6) nd rfl (Or.inl rfl) aad)
    (aac (alm aI7 (aaw (afd hr.units) (pv 5) (aa1 aab) (aax _))
     (aac (aal (i:=6) nd rfl (Or.inl rfl) (aat abe (pv 6) aad))
      (aac (aal (i:=7) nd rfl (Or.inl rfl) (aa1 aab))
      (aac (abi aI7 rfl (aby (pv 5)) (aam (i:=8) nd rfl (Or.inl rfl))
       (aag (abi aI7 rfl (aby (afb (ac1 hr) (pv 1) (pv 8) (fun _ _=>rfl))) (aam (i:=9) nd rfl (Or.inl rfl))
         (aag (aa6 (ay6 (arq (ac1 hr) (pv 9) (pv 4)))
           (aac (ag3 (ac1 hr) (pv 4) (pv 9) (pv 6) rfl)
            (aag (aa8 (acn PySem.F.plainAttrs_list PySem.F.slot_list_append PySem.F.type_list_append abu (pv 7) (aaa (pv 9) aab)))))
           aav)))))
      (aag (aal (i:=5) nd rfl (Or.inl rfl) (pv 7)))))))
    (aag (aa8 (acn PySem.F.plainAttrs_list PySem.F.slot_list_append PySem.F.type_list_append abu (pv 2) (aaa (pv 4) aab)))))))))
  (aag (aaq (pv 2)))))),?_⟩
 refine abm h fun ss Q' q B hK=>?_
 refine exS2 ss q fun n es b=>?_
 have n0:=b.1
 have n1:=b.2.1
 have Y:=b.2.2.1
 have a4:=b.2.2.2.1
 have k:=b.2.2.2.2
 clear b q
 show EvS B _ _ [some (.st (webD n es)),none,none,none,none,none,none,none,none,none]
 row_cond go
 refine ⟨n,es,rfl,by omega,n1,Y,a4,fun tl ht=>adn ayo ?_⟩
 have hT:∀ u v:Int,Tied es u v->0<=v/\v < n:=fun u v h=>(h.in Y).2
 have b1:(tlD tl).map PyData.list ≠ []:=fun e=>by
  have:=ht.1
  have h2:=congrArg List.length e
  simp [tlD] at h2
  rw [h2] at this
  simp at this
  omega
 have W:∀ p:Int,0<=p->p < n->∃ ws:List Int,valD (kvD ((tlD tl).map PyData.list)) (.inl p)=some (.list (ws.map .int))/\∀ u,u∈ws ↔ Tied es p u:=fun p p0 p1=>by
  obtain ⟨ws,X,hw⟩:=ht.get p0 p1
  exact ⟨ws,ayn p0 (by rw [aA5,aec X];rfl),hw⟩
 row_cond go
 refine abz (fun i e=>∃ ess v3 v4 v5 v6 Z L y,e=[some (.st (webD n es)),some (.st (aba (kvD ((tlD tl).map PyData.list)))),some (.own (OL (List.map aba ess))),v3,v4,v5,v6,Z,L,y]/\ess.length=i/\∀ (v:Int) fs,0<=v->ess[v.toNat]?=some fs->FarD n (Gr.farO (Tied es) v) fs) ⟨[],_,_,_,_,_,_,_,rfl,rfl,fun v fs _ h=>by simp at h⟩ ?_ ?_
 ·rintro i e hi g
  refine exS8 e g fun ess v3 v4 v5 v6 Z L y b=>?_
  have S:=b.1
  have I:=b.2
  clear b g
  obtain ⟨a,ha,a0,a1⟩:∃ a:Int,a=0+(i:Int)/\0<=a/\a < n:=⟨_,rfl,by omega,by omega⟩
  rw [← ha]
  row_cond go
  refine asr rfl ?_
  row_cond go
  refine ao9 5 rfl ac0 ?_
  dsimp only [List.set_cons_zero,List.set_cons_succ]
  refine akf (fun m e=>∃ Z L y far fe edge M,e=[some (.st (webD n es)),some (.st (aba (kvD ((tlD tl).map PyData.list)))),some (.own (OL (List.map aba ess))),some (.st (.int a)),some (.own (OD fe)),some (.st (.list (edge.map .int))),some (.st (.int ((M:Nat):Int))),Z,L,y]/\Gr.Ring (Tied es) a M far edge/\FarD n far fe/\(∀ v∈edge,0<=v/\v < n)/\m=2 * cnt far n.toNat+(if edge=[] then 0 else 1))
   ⟨_,_,_,_,_,_,[a],0,rfl,Gr.Ring.start,FarD.start a0 a1,fun v z=>by simp at z;subst z;exact ⟨a0,a1⟩,rfl⟩ ?_
  rintro m e g
  refine exS7 e g fun Z L y far fe edge M b=>?_
  have hR:=b.1
  have hF:=b.2.1
  have hb:=b.2.2.1
  have a8:=b.2.2.2
  clear b g
  subst a8
  row_cond go
  refine aea (awj _) rfl (a07 _) ?_
  rw [ayw]
  cases hedge:edge with
  | nil =>
   subst hedge
   row_cond go
   rw [aE9 (show ¬ ((!([]:List Int).isEmpty)=true) from aA9)]
   row_cond go
   refine ⟨_,rfl,by rw [aA3];omega,?_⟩
   refine ⟨ess ++ [fe],_,_,_,_,_,_,_,by rw [aD9];rfl,by rw [aB0,S];rfl,fun v fs v0 z=>?_⟩
   by_cases hvi:v.toNat < i
   ·rw [aC2 (by omega)] at z
    exact I v fs v0 z
   ·have a9:=(aA1.mp z).1
    simp at a9
    have a7:v.toNat=i:=by omega
    rw [a7,aC7 (by omega),S,Nat.sub_self] at z
    cases z
    rw [show v=a by omega]
    exact hF.congr hR.fin
  | cons e0 er =>
   rw [← hedge]
   have a3:edge ≠ []:=by rw [hedge];simp
   row_cond go
   rw [aE8 (show (!edge.isEmpty)=true by rw [hedge];rfl)]
   row_cond go
   refine acv (fun i e=>∃ L y c l beyond,e=[some (.st (webD n es)),some (.st (aba (kvD ((tlD tl).map PyData.list)))),some (.own (OL (List.map aba ess))),some (.st (.int a)),some (.own (OD l)),some (.st (.list (edge.map .int))),some (.st (.int ((M:Int)+1))),some (.own (OL (beyond.map .int))),L,y]/\Gr.Mid (Tied es) M far edge (fun u=>u∈edge.take i) c beyond/\FarD n c l/\cnt c n.toNat+beyond.length=cnt far n.toNat/\∀ v∈beyond,0<=v/\v < n)
    ⟨L,y,far,fe,[],rfl,Gr.Mid.start.imp fun u R=>by simp at R,hF,rfl,fun v z=>by simp at z⟩ ?_ ?_
   ·rintro i p e hp g
    refine exS5 e g fun L y c l beyond b=>?_
    have O:=b.1
    have o:=b.2.1
    have N:=b.2.2.1
    have r:=b.2.2.2
    clear b g
    have a2:=aA2 hp
    obtain ⟨p0,p1⟩:=hb p a2
    obtain ⟨ws,X,hw⟩:=W p p0 p1
    row_cond go
    refine ahz ?_
    row_cond go
    refine ⟨kvD ((tlD tl).map PyData.list),.inl p,_,rfl,a0v b1,rfl,X,?_⟩
    row_cond go
    refine acv (fun j e=>∃ y c l beyond,e=[some (.st (webD n es)),some (.st (aba (kvD ((tlD tl).map PyData.list)))),some (.own (OL (List.map aba ess))),some (.st (.int a)),some (.own (OD l)),some (.st (.list (edge.map .int))),some (.st (.int ((M:Int)+1))),some (.own (OL (beyond.map .int))),some (.st (.int p)),y]/\Gr.Mid (Tied es) M far edge (fun u=>u∈edge.take i) c beyond/\FarD n c l/\cnt c n.toNat+beyond.length=cnt far n.toNat/\(∀ v∈beyond,0<=v/\v < n)/\∀ x∈ws.take j,c x ≠ none)
     ⟨y,c,l,beyond,rfl,O,o,N,r,fun x U=>by simp at U⟩ ?_ ?_
    ·rintro j u e R g
     refine exS4 e g fun y c l beyond b=>?_
     have O:=b.1
     have o:=b.2.1
     have N:=b.2.2.1
     have r:=b.2.2.2.1
     have G:=b.2.2.2.2
     clear b g
     have tu:Tied es p u:=(hw u).mp (aA2 R)
     obtain ⟨u0,u1⟩:=hT _ _ tu
     have b3:=o.val u
     have b6:=o.len
     have b5:l.length<=999999:=by omega
     row_cond go
     rw [b3]
     cases hf:c u with
     | none =>
      rw [aE8 (show (!((none:Option Nat).map fun (j:Nat)=>PyData.int (j:Int)).isSome)=true from rfl)]
      have b4:=ady (d:=M+1) u0 hf (n:=n.toNat) (by omega)
      have a6:∀ m,cnt far m<=m:=fun m=>by
       induction m with
       | zero=>exact aA6 _
       | succ m ih=>unfold cnt;split <;> omega
      have:=a6 n.toNat
      row_cond go
      refine ⟨some (.st (.int u)),Gr.label c u (M+1),_,beyond ++ [u],by simp,O.add a2 tu hf,o.put u0 u1 hf,by simp;omega,fun v z=>?_,fun x U=>?_⟩
      ·rcases aA7.mp z with h | h
       ·exact r v h
       ·have:v=u:=by simpa using h
        subst this;exact ⟨u0,u1⟩
      ·by_cases hx2:x=u
       ·subst hx2;rw [Gr.label_same];simp
       ·rw [Gr.label_ne hx2]
        rcases ab1 R U with h | h
        ·exact G x h
        ·exact absurd h hx2
     | some d =>
      rw [aE9 (show ¬ ((!((some d:Option Nat).map fun (j:Nat)=>PyData.int (j:Int)).isSome)=true) from aA9)]
      row_cond go
      refine ⟨_,c,l,beyond,rfl,O,o,N,r,fun x U=>?_⟩
      rcases ab1 R U with h | h
      ·exact G x h
      ·subst h;rw [hf];simp
    ·rintro e g
     refine exS4 e g fun y c l beyond b=>?_
     have O:=b.1
     have o:=b.2.1
     have N:=b.2.2.1
     have r:=b.2.2.2.1
     have G:=b.2.2.2.2
     clear b g
     rw [aG1] at G
     refine ⟨_,_,c,l,beyond,rfl,?_,o,N,r⟩
     refine (O.did (u:=p) fun x tx=>G x ((hw x).mpr tx)).imp fun x U=>?_
     exact ab1 hp U
   ·rintro e g
    refine exS5 e g fun L y c l beyond b=>?_
    have O:=b.1
    have o:=b.2.1
    have N:=b.2.2.1
    have r:=b.2.2.2
    clear b g
    row_cond go
    refine ⟨_,?_,_,_,_,c,l,beyond,M+1,rfl,hR.next O fun u R=>by rw [aG1];exact R,o,r,rfl⟩
    rw [aE9 a3]
    cases beyond with
    | nil=>rw [aE8 rfl];simp at N;omega
    | cons b0 br=>rw [aE9 (by simp)];simp at N;omega
 ·rintro e g
  refine exS8 e g fun ess v3 v4 v5 v6 Z L y b=>?_
  have S:=b.1
  have I:=b.2
  clear b g
  row_cond go
  exact k ess ⟨by omega,I⟩
end
def aqx (K:Frag):Sp:=fun vs H Q _=>∃ (a:Addr) (ns:List Int),vs=[.ref a]/\SqL K H a (ns.map V.int)/\ns.length<=63/\∀ H',Q (.bl true) H'
def awk:VP:=fun ss Q=>∃ ns:List Int,ss=[.scr ns]/\ns.length<=63/\Q (.st (.bool true))
theorem avx {K:Frag} {vs:List V} {H:Hp} {Q:VK} {E:XK} (h:aqx K vs H Q E):spP K awk vs H Q E:=by
 obtain ⟨a,ns,rfl,b,c,k⟩:=h
 refine ⟨H,[.scr ns],fun s=>s=.st (.bool true),Same.refl _,fun a d h=>h,.cons ⟨a,rfl,b⟩ .nil,⟨ns,rfl,c,rfl⟩,fun s e v G' H' Fv o=>?_⟩
 subst e
 have r:=o.ok.1
 cases r
 exact k _
structure DW (n:Int) (es:List (Int × Int)) (j:Nat):Prop where
 lo:1<=n
 hi:n<=60
 ps:PsOk n es
 len:es.length<=1900+j
theorem DW.gw {n:Int} {es:List (Int × Int)} {j:Nat} (h:DW n es j) (b:j<=100):GW n es:=⟨h.lo,by have:=h.hi;omega,fun p a=>by have:=h.ps.inn p a;exact ⟨by omega,by omega,by omega,by omega⟩,by have:=h.len;omega⟩
inductive Deed (n:Int) (es:List (Int × Int)):PyData->Int->Int × Int->Prop
 | place {a:Int}:0<=a->a < n->n < 60->Deed n es (.tuple [.int a]) (n+1) (a,n)
 | tie {s t:Int}:0<=s->s < t->t < n->(s,t) ∉ es->Deed n es (.tuple [.int s,.int t]) n (s,t)
theorem Deed.dw {n m:Int} {es qs:List (Int × Int)} {j:Nat} {d:PyData} {p:Int × Int} (h:DW n es j) (g:Deed n es d m p) (b:qs.Perm (es ++ [p])):DW m qs (j+1):=by
 have f:qs.length<=1900+(j+1):=by
  have:=h.len
  rw [b.length_eq,aB0]
  simp
  omega
 have a:(p ∉ es)/\(0<=p.1/\p.1 < p.2/\p.2 < m)/\n<=m/\m<=60:=by
  have:=h.hi
  cases g with
  | place a0 a1 hn=>exact ⟨fun z=>by have:=h.ps.inn _ z;simp only at this;omega,⟨a0,a1,by simp only;omega⟩,by omega,by omega⟩
  | tie s0 st tn hno=>exact ⟨hno,⟨s0,st,tn⟩,Int.le_refl _,this⟩
 refine ⟨by have:=h.lo;omega,a.2.2.2,⟨b.nodup_iff.mpr (aE2.mpr ⟨h.ps.nd,by simp,fun x i y l e=>by cases aC1.mp l;exact a.1 (e ▸ i)⟩),fun q c=>?_⟩,f⟩
 rcases aA7.mp (b.mem_iff.mp c) with z | z
 ·have:=h.ps.inn q z
  omega
 ·cases aC1.mp z
  exact a.2.1
def a08:VIo:=fun A ss Q=>∃ (n:Int) (es:List (Int × Int)) (j:Nat),A=ODk/\ss=[.st (webD n es)]/\DW n es j/\j<=100/\Q ODk (.st .none)/\∀ d m p,Deed n es d m p->Q ODk (.st d)
def avy:VP:=fun ss Q=>∃ (n m:Int) (es:List (Int × Int)) (j:Nat) (d:PyData) (p:Int × Int),ss=[.st (webD n es),.st d]/\DW n es j/\j<=100/\Deed n es d m p/\∀ qs,Rise qs->qs.Perm (es ++ [p])->Q (.st (webD m qs))
def a09 (mg:Str->Option Value):VIo:=fun A ss Q=>∃ (C:Addr) (n m:Int) (es:List (Int × Int)) (j:Nat) (d:PyData) (p:Int × Int),mg "Grower" = some (.ref C)/\A=OI C (gF n es)/\ss=[.st d]/\DW n es j/\j<=100/\Deed n es d m p/\∀ qs d0 d1,Rise qs->qs.Perm (es ++ [p])->FarN n es d0->FarN m qs d1->Q (OI C (gF m qs)) (.st (.tuple [d0,d1]))
section
variable {P:Program} {w:World} {K:Frag} {mg:Str->Option Value} {base:Heap}
theorem sc_law_deed:FnScope ["deck","web","n","ties","a","free","b"] ["deck","web"] (aai s_law_deed):=by row_cond sc
theorem anr (T:Txt K mg):Can P w K mg base "_law_deed" 2 ["deck","web"] (spI K (a08)):=by
 obtain ⟨f,fd,D⟩:=T.d_law_deed
 obtain ⟨m,g⟩:=T.o_Grower
 have c:=g.mgx
 have G:=T.n_Grower_held _ c
 refine D.can (D.fn.ok sc_law_deed (fun vs H Q E h=>lenI h fun A ss Q' q=>by obtain ⟨n,es,j,rfl,rfl,p,Z,I,y⟩:=q;rfl) (fun cdv A outer s H vs Q E l h=>?_))
 have nd:=sc_law_deed.nd
 refine ⟨_,(aac (ab9 (pv 1) (acq rfl (aa2 (aam (i:=2) nd rfl (Or.inl rfl)) (aa2 (aam (i:=3) nd rfl (Or.inr rfl)) ab8))))
  (aac (aal (i:=4) nd rfl (Or.inr rfl) (aah (aak T) l (aaa (pv 0) (aaa (pv 2) aab))))
  (aac (aa6 (PW.pt (aee (aaw adb (aah (aak T) l (aaa (pv 0) (aaa aad aab))) aad (aax _)) (adj (aaw apv (pv 2) aad (aax _)))))
   (aag (aaq (aa4 (aaa (pv 4) aab))))
   aav)
  (aac (al4 (i:=5) nd rfl (Or.inl rfl) rfl (N:=["b","a","ties"]) (src:=[none,some 4,some 3]) (by exact ab0 rfl rfl rfl rfl rfl rfl) (abg rfl T.b_range (aaa (pv 2) aab)) (fun _ _ _ _=>(aam (i:=0) (show List.Nodup (["b","a","ties"]:List Str) by decide +kernel) rfl (Or.inl rfl) (hf:=Or.inr rfl))) (fun _ _ _ _=>aoi (PW.pt (aee (aaw apu (pv 0) (pv 1) (aax _)) (adj (aaw (akd l.units) (aa4 (aaa (aaj (acf rfl) (by rfl) T.b_min adu (aaa (pv 1) (aaa (pv 0) aab))) (aaa (aaj (ace rfl) (by rfl) T.b_max acr (aaa (pv 1) (aaa (pv 0) aab))) aab))) (pv 2) rfl))))) (fun _ _ _ _=>(pv 0)))
  (aac (aa6 (aaw (ar6 l.units) (pv 5) (aa1 aab) (aax _))
   (aag (aaq ae9))
   aav)
  (aac (aal (i:=6) nd rfl (Or.inl rfl) (aan aao (pv 5) (aah (aak T) l (aaa (pv 0) (aaa (aaj abv (by rfl) T.b_len aca (aaa (pv 5) aab)) aab))) (fun _ _=>rfl)))
  (aag (aaq (aa4 (aaa (aaj (acf rfl) (by rfl) T.b_min adu (aaa (pv 4) (aaa (pv 6) aab))) (aaa (aaj (ace rfl) (by rfl) T.b_max acr (aaa (pv 4) (aaa (pv 6) aab))) aab))))))))))),?_⟩
 refine adi h fun A0 ss Q' q B hK=>?_
 obtain ⟨n,es,j,rfl,rfl,p,Z,I,y⟩:=q
 show EvS B _ _ [some (.io ODk),some (.st (webD n es)),none,none,none,none,none]
 have hn:=p.lo
 have Y:=p.hi
 have J:=p.len
 row_cond go
 refine ⟨n,rfl,rfl,by omega,by omega,fun a a0 a1=>?_⟩
 row_cond go
 refine ⟨2,rfl,rfl,by omega,by omega,fun r r0 r1=>?_⟩
 row_cond go
 dsimp only [List.set_cons_zero,List.set_cons_succ]
 refine' cutR (R:=EvS B ?c1 ?d1 [some (.io ODk),some (.st (webD n es)),some (.st (.int n)),some (.st (.list (es.map prD))),some (.st (.int a)),none,none]) (fun R=>?K1) ?K2
 case K1 =>
  by_cases l:r=0
  ·by_cases hn0:n < 60
   ·row_cond go
    exact y _ _ _ (.place a0 a1 hn0)
   ·repeat (first | exact R | row_cond st)
  ·repeat (first | exact R | row_cond st)
 case K2 =>
  row_cond go
  unfold rngD
  refine asz (xs:=List.range n.toNat) (f:=fun i:Nat=>PyData.int (0+(i:Int))) (fun i:Nat=>PyData.int (i:Int)) (fun i:Nat=>decide ((i:Int) ≠ a) && !decide ((if (i:Int) < a then (i:Int) else a,if (i:Int) > a then (i:Int) else a)∈es)) rfl (by simp;omega) (fun i hi B' hB=>?_) ?_
  ·have X:=aB8.mp hi
   rw [aH8]
   by_cases hia:(i:Int)=a
   ·row_cond go
    exact ⟨by simp [hia],rfl,fun z=>nomatch z⟩
   ·row_cond go
    refine ao5 (asq (_,_)) (aiz es) (aC9 (akp (_,_)) (by decide)) ?_
    rw [aE8 rfl,show PyData.tuple [PyData.int (if (i:Int) < a then (i:Int) else a),PyData.int (if (i:Int) > a then (i:Int) else a)]=prD (if (i:Int) < a then (i:Int) else a,if (i:Int) > a then (i:Int) else a) from rfl,ayd]
    row_cond go
    refine ⟨by simp [hia],rfl,fun _=>?_⟩
    row_cond go
    exact rfl
  ·obtain ⟨fs,o,F⟩:∃ fs:List Nat,(List.range n.toNat).filter (fun i:Nat=>decide ((i:Int) ≠ a) && !decide ((if (i:Int) < a then (i:Int) else a,if (i:Int) > a then (i:Int) else a)∈es))=fs/\(∀ i∈fs,(i:Int) < n/\(i:Int) ≠ a/\(if (i:Int) < a then (i:Int) else a,if (i:Int) > a then (i:Int) else a) ∉ es):=⟨_,rfl,fun i hi=>by
    obtain ⟨S,v⟩:=List.mem_filter.mp hi
    have:=aB8.mp S
    simp only [aG4,decide_eq_true_eq,Bool.not_eq_true',decide_eq_false_iff_not] at v
    exact ⟨by omega,v.1,v.2⟩⟩
   have W:fs.length<=60:=by
    rw [← o]
    exact aC9 (aE6 _ _) (by rw [List.length_range];omega)
   rw [o]
   refine adn ac0 ?_
   have C:aas (.list (fs.map fun i:Nat=>PyData.int (i:Int)))=true:=(ae6 _).mpr fun d hd=>by
    obtain ⟨x,_,rfl⟩:=aB6.mp hd
    rfl
   have u:(PyData.list (fs.map fun i:Nat=>PyData.int (i:Int))).depth<=60:=by
    have h:PyData.depthAll (fs.map fun i:Nat=>PyData.int (i:Int))<=1:=ae7 fun d hd=>by
     obtain ⟨x,_,rfl⟩:=aB6.mp hd
     simp [PyData.depth]
    simp only [PyData.depth]
    omega
   row_cond go
   refine ao4 C rfl u ?_
   cases efs:fs with
   | nil =>
    rw [show PyData.eqv (.list (List.map (fun i:Nat=>PyData.int (i:Int)) [])) (.list [])=true from rfl]
    row_cond go
    exact I
   | cons f0 fr =>
    rw [← efs,show PyData.eqv (.list (fs.map fun i:Nat=>PyData.int (i:Int))) (.list [])=false by rw [efs];rfl]
    have L:0 < fs.length:=by rw [efs];simp
    row_cond go
    rw [aA3]
    refine ⟨(fs.length:Int),rfl,rfl,by omega,by omega,fun q U q1=>?_⟩
    obtain ⟨b,hb⟩:∃ b,fs[q.toNat]?=some b:=⟨_,aA0 (show q.toNat < fs.length by omega)⟩
    have O:atI (fs.map fun i:Nat=>PyData.int (i:Int)) q=some (.int (b:Int)):=aco U (by rw [aA5,hb];rfl)
    obtain ⟨b1,b2,M⟩:=F b (aA2 hb)
    row_cond go
    exact y _ n (if (b:Int) < a then (b:Int) else a,if (b:Int) > a then (b:Int) else a) (.tie (by split <;> omega) (by split <;> split <;> omega) (by split <;> omega) M)
theorem sc_law_behind:FnScope ["web","deed","n","ties"] ["web","deed"] (aai s_law_behind):=by row_cond sc
theorem aj1 (T:Txt K mg):Can P w K mg base "_law_behind" 1 ["web","deed"] (spP K (avy)):=by
 obtain ⟨f,fd,D⟩:=T.d_law_behind
 obtain ⟨o,g⟩:=T.o_Grower
 have b:=g.mgx
 have y:=T.n_Grower_held _ b
 refine D.can (D.fn.ok sc_law_behind (fun vs H Q E h=>lenP h fun ss Q' q=>by obtain ⟨n,m,es,j,d,p,rfl,v,C,hd,x⟩:=q;rfl) (fun cdv A outer s H vs Q E F h=>?_))
 have nd:=sc_law_behind.nd
 refine ⟨_,(aac (ab9 (pv 0) (acq rfl (aa2 (aam (i:=2) nd rfl (Or.inl rfl)) (aa2 (aam (i:=3) nd rfl (Or.inl rfl)) ab8))))
  (aac (aa6 (aaw adb (aaj abv (by rfl) T.b_len aca (aaa (pv 1) aab)) aad (aax _))
   (aag (aaq (aa4 (aaa (aat abe (pv 2) aad) (aaa (aaj ad4 (by rfl) T.b_sorted ac9 (aaa (aat aib (pv 3) (aa1 (aaa (aa4 (aaa (aan aao (pv 1) aad (fun _ _=>rfl)) (aaa (pv 2) aab))) aab))) aab)) aab)))))
   aav)
  (aag (aaq (aa4 (aaa (pv 2) (aaa (aaj ad4 (by rfl) T.b_sorted ac9 (aaa (aat aib (pv 3) (aa1 (aaa (pv 1) aab))) aab)) aab))))))),?_⟩
 refine abm h fun ss Q' q B G=>?_
 refine exS6 ss q fun n m es j d p c=>?_
 have v:=c.1
 have C:=c.2.1
 have hd:=c.2.2.1
 have x:=c.2.2.2
 clear c q
 show EvS B _ _ [some (.st (webD n es)),some (.st d),none,none]
 have z:=v.len
 have r:=(hd.dw v (List.Perm.refl _)).ps.nd
 cases hd with
 | @place a a0 a1 hn =>
  row_cond go
  rw [aD6 (show (([PyData.int a].length:Nat):Int)=1 from rfl)]
  repeat (first | (refine abo (ae2 (ps:=es ++ [(a,n)]) ?_)) | row_cond st)
  refine ⟨by rw [aD9];rfl,fun qs l u=>ac5 ?_⟩
  row_cond go
  exact x qs (ajv l r u) l
 | @tie s t s0 h12 tn hno =>
  row_cond go
  rw [aD5 (show ¬ (([PyData.int s,PyData.int t].length:Nat):Int)=1 from show ¬ ((2:Nat):Int)=1 by decide)]
  repeat (first | (refine abo (ae2 (ps:=es ++ [(s,t)]) ?_)) | row_cond st)
  refine ⟨by rw [aD9];rfl,fun qs l u=>ac5 ?_⟩
  row_cond go
  exact x qs (ajv l r u) l
theorem sc_law_done:FnScope ["grower","deed"] ["grower","deed"] (aai s_law_done):=by row_cond sc
theorem ans (T:Txt K mg):Can P w K mg base "_law_done" 13 ["grower","deed"] (spI K (a09 mg)):=by
 obtain ⟨f,fd,D⟩:=T.d_law_done
 obtain ⟨c,g⟩:=T.o_Grower
 have b:=g.mgx
 have F:=T.n_Grower_held _ b
 refine D.can (D.fn.ok sc_law_done (fun vs H Q E h=>lenI h fun A ss Q' q=>by obtain ⟨C,n,m,es,j,d,p,M,rfl,rfl,l,L,hd,z⟩:=q;rfl) (fun cdv A outer s H vs Q E i h=>?_))
 have nd:=sc_law_done.nd
 refine ⟨_,(aac (aa6 (aaw adb (aaj abv (by rfl) T.b_len aca (aaa (pv 1) aab)) aad (aax _))
   (aag (aaq (aeq (afi T b) g.cl i (pv 0) (aaa (aan aao (pv 1) aad (fun _ _=>rfl)) aab))))
   aav)
  (aag (aaq (aeq (aga T b) g.cl i (pv 0) (aaa (aan aao (pv 1) aad (fun _ _=>rfl)) (aaa (aan aao (pv 1) aad (fun _ _=>rfl)) aab)))))),?_⟩
 refine adi h fun R ss Q' q B S=>?_
 obtain ⟨C,n,m,es,j,d,p,M,rfl,rfl,l,L,hd,z⟩:=q
 show EvS B _ _ [some (.io (OI C (gF n es))),some (.st d)]
 obtain rfl:c=C:=by have:=b.symm.trans M;cases this;rfl
 have J:=l.gw L
 have I:=l.len
 cases hd with
 | @place a a0 a1 hn =>
  row_cond go
  rw [aD6 (show (([PyData.int a].length:Nat):Int)=1 from rfl)]
  repeat (first | (refine ach (.inr rfl) (ads (by decide +kernel)) ?_) | row_cond st)
  refine ⟨_,_,rfl,.inr rfl,c,n,a,es,b,rfl,rfl,J,hn,l.ps,by omega,a0,a1,fun qs G r i o v u=>?_⟩
  exact ⟨_,rfl,z qs G r i o v u⟩
 | @tie s t s0 h12 tn hno =>
  row_cond go
  rw [aD5 (show ¬ (([PyData.int s,PyData.int t].length:Nat):Int)=1 from show ¬ ((2:Nat):Int)=1 by decide)]
  repeat (first | (refine ach (.inr rfl) (ads (by decide +kernel)) ?_) | row_cond st)
  refine ⟨_,_,rfl,.inr rfl,c,n,s,t,es,b,rfl,rfl,J,⟨fun q o=>by cases aC1.mp o;exact ⟨s0,h12,tn⟩,aE2.mpr ⟨l.ps.nd,by simp,fun x N y O e=>by cases aC1.mp O;exact hno (e ▸ N)⟩⟩,by omega,fun qs G r i o v u=>?_⟩
  exact ⟨_,rfl,z qs G r i o v u⟩
end
theorem webP (n:Int) (es:List (Int × Int)):aas (webD n es)=true:=by
 have:=aiz es
 simp only [webD,aas,plainDs,this,Bool.and_self]
theorem aqy (n:Int) (es:List (Int × Int)):(webD n es).depth<=60:=by
 have h:PyData.depthAll (es.map prD)<=1:=ae7 fun d hd=>by
  obtain ⟨p,_,rfl⟩:=aB6.mp hd
  exact akp p
 simp only [webD,PyData.depth,PyData.depthAll]
 omega
theorem aqz (es:List (Int × Int)) (u:Int):dsF es u u=0:=by
 unfold dsF
 rw [Gr.farO_self]
 rfl
theorem ant (es:List (Int × Int)) (u v:Int):dsF es u v=dsF es v u:=by unfold dsF;rw [Gr.farO_comm fun _ _ t=>t.symm]
theorem FarOk.uniq {n x a b l f c:Int} {es:List (Int × Int)} (h:FarOk n es x a b) (g:FarOk n es l f c):x=l/\a=f/\b=c:=by
 have e:x=l:=by
  obtain ⟨⟨u,v,w,q,v0,A,C⟩,r⟩:=h.top
  obtain ⟨⟨y,s,j,i,o,m,z⟩,d⟩:=g.top
  have B:=d u v w q v0 A
  have p:=r y s j i o m
  omega
 subst e
 have B:=h.fst f c g.a0 g.a1 g.b0 g.b1 g.eq
 have p:=g.fst a b h.a0 h.a1 h.b0 h.b1 h.eq
 omega
theorem a1c {n u v:Int} {es:List (Int × Int)} (c:Joined n es) (b:0<=u) (f:u < n) (v0:0<=v) (a:v < n) (h:u ≠ v):0 < dsF es u v:=by
 obtain ⟨d,e⟩:=afx c b f v0 a
 have hd:=(Gr.farO_some.mp e).1
 simp only [dsF,e,Option.getD_some]
 cases d with
 | zero=>cases hd;exact absurd rfl h
 | succ d=>omega
structure DueOk (n:Int) (es:List (Int × Int)) (i:Int) (j:Int) (x a b:Int):Prop where
 r:0<=a/\a<=b/\b < n/\0<=x
 eq:dsF es a b=x
 z:x=0->a=0/\b=0
 lt:0 < x->a < b/\(a < i\/(a=i/\b < j))
 all:∀ u v:Int,0<=u->u < v->v < n->(u < i\/(u=i/\v < j))->dsF es u v<=x/\(dsF es u v=x->a < u\/(a=u/\b<=v))
theorem DueOk.fin {n x a b:Int} {es:List (Int × Int)} (s:Joined n es) (h:DueOk n es n n x a b) (w:1<=n):FarOk n es x a b:=by
 have o:=h.r
 have i:∀ u v:Int,0<=u->u < n->0<=v->v < n->dsF es u v<=x:=fun u v j d v0 f=>by
  rcases Int.lt_trichotomy u v with c | l | c
  ·exact (h.all u v j c f (.inl d)).1
  ·subst l;rw [aqz];exact o.2.2.2
  ·rw [ant];exact (h.all v u v0 c d (.inl f)).1
 refine ⟨⟨⟨a,b,by omega,by omega,by omega,by omega,h.eq⟩,fun u v j d v0 f=>i u v j (by omega) v0 (by omega)⟩,by omega,by omega,by omega,by omega,h.eq,fun u v j d v0 f e=>?_⟩
 by_cases hx:x=0
 ·obtain ⟨rfl,rfl⟩:=h.z hx
  omega
 ·have c:=h.lt (by omega)
  rcases Int.lt_trichotomy u v with m | l | m
  ·exact (h.all u v j m f (.inl d)).2 e
  ·subst l;rw [aqz] at e;omega
  ·rw [ant] at e
   rcases (h.all v u v0 m d (.inl f)).2 e with g | ⟨p,q⟩
   ·left;omega
   ·left;omega
def a19:VP:=fun ss Q=>∃ (n:Int) (es:List (Int × Int)) (ess:List (List (Key × PyData))),ss=[.st (webD n es),.st (.list (ess.map aba))]/\1<=n/\n<=60/\FarsD n es ess/\Joined n es/\∀ x a b,FarOk n es x a b->Q (.st (.tuple [.int x,.int a,.int b]))
section
variable {P:Program} {w:World} {K:Frag} {mg:Str->Option Value} {base:Heap}
theorem sc_law_due:FnScope ["web","fars","found","a","b"] ["web","fars"] (aai s_law_due):=by row_cond sc
theorem aob (T:Txt K mg):Can P w K mg base "_law_due" 3 ["web","fars"] (spP K (a19)):=by
 obtain ⟨f,fd,D⟩:=T.d_law_due
 obtain ⟨O,p⟩:=T.o_Grower
 have o:=p.mgx
 have Z:=T.n_Grower_held _ o
 refine D.can (D.fn.ok sc_law_due (fun vs H Q E h=>lenP h fun ss Q' q=>by obtain ⟨n,es,ess,rfl,n0,n1,G,X,k⟩:=q;rfl) (fun cdv A outer s H vs Q E M h=>?_))
 have nd:=sc_law_due.nd
 refine ⟨_,(aac (aal (i:=2) nd rfl (Or.inl rfl) (aa4 (aaa aad (aaa aad (aaa aad aab)))))
  (aac (abi aI7 rfl (abg rfl T.b_range (aaa (aan aao (pv 0) aad (fun _ _=>rfl)) aab)) (aam (i:=3) nd rfl (Or.inl rfl))
   (aag (abi aI7 rfl (adt rfl T.b_range (aaa (aat abe (pv 3) aad) (aaa (aan aao (pv 0) aad (fun _ _=>rfl)) aab))) (aam (i:=4) nd rfl (Or.inl rfl))
     (aag (aa6 (aaw ah8 (afb (ac1 M) (aan aao (pv 1) (pv 3) (fun _ _=>rfl)) (pv 4) (fun _ _=>rfl)) (aan aao (pv 2) aad (fun _ _=>rfl)) (aax _))
       (aag (aal (i:=2) nd rfl (Or.inl rfl) (aa4 (aaa (afb (ac1 M) (aan aao (pv 1) (pv 3) (fun _ _=>rfl)) (pv 4) (fun _ _=>rfl)) (aaa (pv 3) (aaa (pv 4) aab))))))
       aav)))))
  (aag (aaq (pv 2))))),?_⟩
 refine abm h fun ss Q' q B hK=>?_
 refine exS3 ss q fun n es ess c=>?_
 have n0:=c.1
 have n1:=c.2.1
 have G:=c.2.2.1
 have X:=c.2.2.2.1
 have k:=c.2.2.2.2
 clear c q
 show EvS B _ _ [some (.st (webD n es)),some (.st (.list (ess.map aba))),none,none,none]
 have R:∀ a:Int,0<=a->a < n->∃ fs,atI (ess.map aba) a=some (aba fs)/\fs ≠ []/\∀ b:Int,0<=b->b < n->valD fs (.inl b)=some (.int (dsF es a b)):=fun a a0 a1=>by
  obtain ⟨fs,S⟩:∃ fs,ess[a.toNat]?=some fs:=⟨_,aA0 (by have:=G.len;omega)⟩
  have hF:=G.row a fs a0 S
  refine ⟨fs,afg (f:=aba) (aco a0 S),hF.ne (Gr.farO_self (T:=Tied es) (a:=a)),fun b b0 b1=>?_⟩
  rw [hF.val]
  obtain ⟨d,e⟩:=afx X a0 a1 b0 b1
  simp only [dsF,e,aH5,Option.getD_some]
 row_cond go
 refine abz (fun i e=>∃ Y I x a b,e=[some (.st (webD n es)),some (.st (.list (ess.map aba))),some (.st (.tuple [.int x,.int a,.int b])),Y,I]/\DueOk n es (i:Int) 0 x a b) ⟨_,_,0,0,0,rfl,⟨by omega,aqz es 0,fun _=>⟨rfl,rfl⟩,fun h=>by omega,fun u v F y C W=>by omega⟩⟩ ?_ ?_
 ·rintro i e hi l
  refine exS5 e l fun Y I x a b c=>?_
  have g:=c
  clear c l
  have a2:(i:Int) < n:=by omega
  obtain ⟨fs,a3,L,N⟩:=R (0+(i:Int)) (by omega) (by omega)
  row_cond go
  refine abz (fun j e=>∃ I x a b,e=[some (.st (webD n es)),some (.st (.list (ess.map aba))),some (.st (.tuple [.int x,.int a,.int b])),some (.st (.int (0+(i:Int)))),I]/\DueOk n es (i:Int) ((i:Int)+1+(j:Int)) x a b) ⟨_,x,a,b,rfl,⟨g.r,g.eq,g.z,fun h=>⟨(g.lt h).1,by have:=(g.lt h).2;have:=g.r;omega⟩,fun u v F y C W=>g.all u v F y C (by omega)⟩⟩ ?_ ?_
  ·rintro j e hj l
   refine exS4 e l fun I x a b c=>?_
   have g:=c
   clear c l
   have M:=g.r
   obtain ⟨v,hv⟩:∃ v:Int,v=0+(i:Int)+1+(j:Int):=⟨_,rfl⟩
   have U:v < n:=by omega
   have J:=N v (by omega) U
   rw [← hv]
   row_cond go
   refine ahz ?_
   row_cond go
   refine ⟨fs,.inl v,_,rfl,L,rfl,J,?_⟩
   row_cond go
   refine adc (fun m=>?_) (fun m=>?_)
   ·have m:x < dsF es (0+(i:Int)) v:=by simpa using m
    row_cond go
    refine ahz ?_
    row_cond go
    refine ⟨fs,.inl v,_,rfl,L,rfl,J,?_⟩
    row_cond go
    rw [aH8] at m ⊢
    refine ⟨_,_,_,_,rfl,⟨by omega,rfl,fun h=>by omega,fun _=>by omega,fun u w F y C W=>?_⟩⟩
    rcases (show (u < (i:Int)\/(u=i/\w < (i:Int)+1+(j:Int)))\/(u=i/\w=v) by omega) with h | ⟨rfl,rfl⟩
    ·have:=g.all u w F y C h
     exact ⟨by omega,fun e=>by omega⟩
    ·exact ⟨Int.le_refl _,fun _ => .inr ⟨rfl,Int.le_refl _⟩⟩
   ·have m:¬ (x < dsF es (0+(i:Int)) v):=by simpa using m
    row_cond go
    rw [aH8] at m
    refine ⟨_,x,a,b,rfl,⟨M,g.eq,g.z,fun h=>⟨(g.lt h).1,by have:=(g.lt h).2;omega⟩,fun u w F y C W=>?_⟩⟩
    rcases (show (u < (i:Int)\/(u=i/\w < (i:Int)+1+(j:Int)))\/(u=i/\w=v) by omega) with h | ⟨rfl,rfl⟩
    ·exact g.all u w F y C h
    ·refine ⟨by omega,fun e=>?_⟩
     have h0:0 < x:=by
      rcases Int.lt_or_eq_of_le M.2.2.2 with h | h
      ·exact h
      ·exfalso
       rw [← h] at e
       have:=a1c X (show 0<=(i:Int) by omega) (by omega) (show 0<=w by omega) U (by omega)
       omega
     have:=(g.lt h0).2
     omega
  ·rintro e l
   refine exS4 e l fun I x a b c=>?_
   have g:=c
   clear c l
   refine ⟨_,_,x,a,b,rfl,⟨g.r,g.eq,g.z,fun h=>⟨(g.lt h).1,by have:=(g.lt h).2;have:=g.r;omega⟩,fun u v F y C W=>g.all u v F y C (by omega)⟩⟩
 ·rintro e l
  refine exS5 e l fun Y I x a b c=>?_
  have g:=c
  clear c l
  row_cond go
  refine k x a b (DueOk.fin X ⟨g.r,g.eq,g.z,fun h=>⟨(g.lt h).1,by have:=(g.lt h).2;have:=g.r;omega⟩,fun u v F y C W=>g.all u v F y C (by omega)⟩ n0)
end
def aq0 (mg:Str->Option Value):VJ:=fun ss Q=>∃ (C:Addr) (n:Int) (es:List (Int × Int)) (hs:List PyData),mg "Grower" = some (.ref C)/\ss=[.io (OI C (gF n es)),.st (webD n es),.io (OL hs)]/\es.length<=10000/\hs.length<=1000/\Q [some (.io (OI C (gF n es))),none,some (.io (OL (hs ++ [.tuple [webD n es,webD n es]])))] (.st (.bool true))
section
variable {P:Program} {w:World} {K:Frag} {mg:Str->Option Value} {base:Heap}
theorem sc_law_web_right:FnScope ["grower","web","held","found"] ["grower","web","held"] (aai s_law_web_right):=by row_cond sc
theorem ahg (T:Txt K mg):Can P w K mg base "_law_web_right" 3 ["grower","web","held"] (spJ K (aq0 mg)):=by
 obtain ⟨f,fd,D⟩:=T.d_law_web_right
 obtain ⟨b,c⟩:=T.o_Grower
 have a:=c.mgx
 have m:=T.n_Grower_held _ a
 refine D.can (D.fn.ok sc_law_web_right (fun vs H Q E h=>lenJ h fun ss Q' q=>by obtain ⟨C,n,es,j,p,rfl,g,l,o⟩:=q;rfl) (fun cdv A outer s H vs Q E d h=>?_))
 have nd:=sc_law_web_right.nd
 refine ⟨_,(aac (aal (i:=3) nd rfl (Or.inl rfl) (adz (acp T a) c.cl d (pv 0)))
  (aac (aa6 (PW.pt (ah6 (aci (ab2 (aaj acu (by rfl) T.b_isinstance abp (aaa (pv 3) (aaa (ac7 (v:=.ty "tuple") rfl T.b_tuple aho rfl) aab))))) (ah6 (aaw (afd d.units) (pv 3) (pv 1) (aax _)) (ah5 (aci (ab2 (aaj acu (by rfl) T.b_isinstance abp (aaa (aan aao (pv 3) aad (fun _ _=>rfl)) (aaa (ac7 (v:=.ty "list") rfl T.b_list ad8 rfl) aab)))))))))
   (aag (aaq acw))
   aav)
  (aac (aa8 (arl PySem.F.plainAttrs_list PySem.F.slot_list_clear PySem.F.type_list_clear alx (aan aao (pv 3) aad (fun _ _=>rfl))))
  (aac (aa8 (acn PySem.F.plainAttrs_list PySem.F.slot_list_append PySem.F.type_list_append abu (pv 2) (aaa (aa4 (aaa (adz (acp T a) c.cl d (pv 0)) (aaa (aa4 (aaa (aan aao (pv 1) aad (fun _ _=>rfl)) (aaa (ac8 afv (by rfl) T.b_list ad8 (aaa (aan aao (pv 1) aad (fun _ _=>rfl)) aab)) aab))) aab))) aab)))
  (aag (aaq (adk (ar6 d.units) (adz (acp T a) c.cl d (pv 0)) (pv 1) (aax _)))))))),?_⟩
 refine awi h fun ss Q' q B r=>?_
 obtain ⟨C,n,es,j,p,rfl,g,l,o⟩:=q
 show EvS B _ _ [some (.io (OI C (gF n es))),some (.st (webD n es)),some (.io (OL j)),none]
 obtain rfl:b=C:=by have:=a.symm.trans p;cases this;rfl
 repeat (first | (refine ach (.inr rfl) (ads (by decide +kernel)) ?_) | row_cond st)
 refine ⟨_,_,rfl,.inr rfl,b,n,es,a,rfl,rfl,g,?_⟩
 dsimp only [List.set_cons_zero,List.set_cons_succ,reS]
 row_cond go
 refine ad9 ?_
 row_cond go
 refine aea (webP n es) (webP n es) (aqy n es) ?_
 rw [show PyData.tuple [PyData.int n,PyData.list (es.map prD)]=webD n es from rfl,aeo (webP n es)]
 row_cond go
 refine ad9 ?_
 repeat (first | (refine aa5 (akk (ds0:=j) (.inr rfl) ?_)) | (refine aa5 (as0 rfl ?_);dsimp only [List.set_cons_zero,List.set_cons_succ]) | (refine apf (.inr rfl) (ads (by decide +kernel)) ?_) | row_cond st)
 refine ⟨_,_,rfl,.inr rfl,b,n,es,a,rfl,rfl,g,aiy ?_⟩
 dsimp only [List.set_cons_zero,List.set_cons_succ,reS]
 row_cond go
 refine ⟨_,_,rfl,.inr rfl,by omega,?_⟩
 dsimp only [List.set_cons_zero,List.set_cons_succ,reS]
 repeat (first | (refine apf (.inr rfl) (ads (by decide +kernel)) ?_) | row_cond st)
 refine ⟨_,_,rfl,.inr rfl,b,n,es,a,rfl,rfl,g,aiy ?_⟩
 dsimp only [List.set_cons_zero,List.set_cons_succ,reS]
 row_cond go
 refine ao4 (webP n es) (webP n es) (aqy n es) ?_
 rw [show PyData.tuple [PyData.int n,PyData.list (es.map prD)]=webD n es from rfl,aeo (webP n es)]
 row_cond go
 exact o
end
abbrev Wb:=Int × List (Int × Int)
def twD (w:Wb):PyData:=.tuple [webD w.1 w.2,webD w.1 w.2]
def ayz (mg:Str->Option Value):VJ:=fun ss Q=>∃ (C:Addr) (n:Int) (es:List (Int × Int)) (ws:List Wb) (j:Nat),mg "Grower" = some (.ref C)/\ss=[.io ODk,.io (OI C (gF n es)),.st (webD n es),.io (OL (ws.map twD))]/\DW n es j/\j<=100/\ws.length<=900/\∀ ws':List Wb,ws'.length<=ws.length+3->Q [some (.io ODk),some (.io (OI C (gF n es))),none,some (.io (OL (ws'.map twD)))] (.st (.bool true))
theorem anu {far:Int->Option Nat}:∀ {n:Nat},cnt far n=0 ↔ ∀ v:Int,0<=v->v < n->far v ≠ none
 | 0=>⟨fun _ v c d=>by omega,fun _=>rfl⟩
 | n+1=>by
  have a:=anu (far:=far) (n:=n)
  unfold cnt
  constructor
  ·intro h v v0 b
   by_cases hv:v=n
   ·subst hv
    intro z
    rw [aE8 z] at h
    omega
   ·exact a.mp (by omega) v v0 (by omega)
  ·intro h
   rw [a.mpr fun v v0 b=>h v v0 (by omega),aE9 (h n (by omega) (by omega))]
theorem FarD.full {n:Int} {es:List (Int × Int)} {fs:List (Key × PyData)} (f:1<=n) (h:FarD n (Gr.farO (Tied es) 0) fs):((fs.length:Int)=n ↔ Joined n es):=by
 have g:=h.len
 have a:=anu (far:=Gr.farO (Tied es) 0) (n:=n.toNat)
 constructor
 ·intro e v v0 b
  cases hf:Gr.farO (Tied es) 0 v with
  | some d=>exact ⟨d,Gr.farO_some.mp hf⟩
  | none=>exact absurd hf (a.mp (by omega) v v0 (by omega))
 ·intro c
  have:=a.mpr fun v v0 b z=>by
   obtain ⟨d,hd⟩:=c v v0 (by omega)
   exact Gr.farO_none.mp z d hd
  omega
theorem cut3 {a:Int} (b:0<=a) (c:a < 3):∃ xs:List Int,cutD [PyData.int 0,.int 1,.int 2,.int 0,.int 1,.int 2] (some a) (some (a+3))=xs.map .int/\xs.length<=3:=by
 rcases (show a=0\/a=1\/a=2 by omega) with rfl | rfl | rfl
 ·exact ⟨[0,1,2],rfl,by decide⟩
 ·exact ⟨[1,2,0],rfl,by decide⟩
 ·exact ⟨[2,0,1],rfl,by decide⟩
section
variable {P:Program} {w:World} {K:Frag} {mg:Str->Option Value} {base:Heap}
theorem sc_law_looks:FnScope ["deck","grower","web","held","fars","joined","at","ask","found","turn","a","b"] ["deck","grower","web","held"] (aai s_law_looks):=by row_cond sc
theorem af9 (T:Txt K mg):Can P w K mg base "_law_looks" 11 ["deck","grower","web","held"] (spJ K (ayz mg)):=by
 obtain ⟨f,fd,D⟩:=T.d_law_looks
 obtain ⟨d,g⟩:=T.o_Grower
 have c:=g.mgx
 have a7:=T.n_Grower_held _ c
 refine D.can (D.fn.ok sc_law_looks (fun vs H Q E h=>lenJ h fun ss Q' q=>by obtain ⟨C,n,es,ws,j,hC,rfl,S,hj,hl,kk⟩:=q;rfl) (fun cdv A outer s H vs Q E y h=>?_))
 have nd:=sc_law_looks.nd
 refine ⟨_,(aac (aal (i:=4) nd rfl (Or.inl rfl) (aah (anq T) y (aaa (pv 2) aab)))
  (aac (aal (i:=5) nd rfl (Or.inl rfl) (adk adb (aaj aqr (by rfl) T.b_len aca (aaa (aan aao (pv 4) aad (fun _ _=>rfl)) aab)) (aan aao (pv 2) aad (fun _ _=>rfl)) (aax _)))
  (aac (aal (i:=6) nd rfl (Or.inl rfl) (aah (aak T) y (aaa (pv 0) (aaa aad aab))))
  (aac (abi aI7 rfl (aby (atw aww (aa1 (aaa aad (aaa aad (aaa aad (aaa aad (aaa aad (aaa aad aab))))))) (aoe (pv 6)) (aoe (aat abe (pv 6) aad)))) (aam (i:=7) nd rfl (Or.inl rfl))
   (aac (aa6 (PW.pt (aee (aaw adb (pv 7) aad (aax _)) (adj (aci (ab2 (aah (ahg T) y (aaa (pv 1) (aaa (pv 2) (aaa (pv 3) aab)))))))))
     (aag (aaq acw))
     aav)
    (aac (aa6 (PW.pt (aee (aaw adb (pv 7) aad (aax _)) (adj (ar8 (pv 5)))))
     (aac (aal (i:=8) nd rfl (Or.inl rfl) (adz (af0 T c) g.cl y (pv 1)))
      (aag (aa6 (PW.pt (ah6 (aci (ab2 (aaj acu (by rfl) T.b_isinstance abp (aaa (pv 8) (aaa (ac7 (v:=.ty "tuple") rfl T.b_tuple aho rfl) aab))))) (ah5 (aaw (afd y.units) (pv 8) (aah (aob T) y (aaa (pv 2) (aaa (pv 4) aab))) (aax _)))))
       (aag (aaq acw))
       aav)))
     aav)
    (aag (aa6 (aaw adb (pv 7) aad (aax _))
     (aac (aa8 (arl PySem.F.plainAttrs_list PySem.F.slot_list_clear PySem.F.type_list_clear alx (aan aao (adz (acp T c) g.cl y (pv 1)) aad (fun _ _=>rfl))))
      (aag (abi aI7 rfl (abg rfl T.b_range (aaa aad aab)) (aam (i:=9) nd rfl (Or.inl rfl))
       (aac (aal (i:=10) nd rfl (Or.inl rfl) (aah (aak T) y (aaa (pv 0) (aaa (aan aao (pv 2) aad (fun _ _=>rfl)) aab))))
        (aac (aal (i:=11) nd rfl (Or.inl rfl) (aah (aak T) y (aaa (pv 0) (aaa (aan aao (pv 2) aad (fun _ _=>rfl)) aab))))
        (aac (aal (i:=8) nd rfl (Or.inl rfl) (aeq (ai5 T c) g.cl y (pv 1) (aaa (pv 10) (aaa (pv 11) aab))))
        (aag (aa6 (PW.pt (ah6 (aaw (afd y.units) (pv 8) (at4 (ac1 y) (aan aao (pv 4) (pv 10) (fun _ _=>rfl)) (pv 11) ⟨rfl,rfl,rfl,rfl⟩) (aax _)) (ah5 (ab2 (aaj acu (by rfl) T.b_isinstance abp (aaa (pv 8) (aaa (ac7 (v:=.ty "bool") rfl T.b_bool aoq rfl) aab)))))))
         (aag (aaq acw))
         aav))))))))
     aav)))))
  (aag (aaq acw)))))),?_⟩
 refine awi h fun ss Q' q B hK=>?_
 obtain ⟨C,n,es,ws,j,hC,rfl,S,hj,hl,kk⟩:=q
 show EvS B _ _ [some (.io ODk),some (.io (OI C (gF n es))),some (.st (webD n es)),some (.io (OL (ws.map twD))),none,none,none,none,none,none,none,none]
 obtain rfl:d=C:=by have:=c.symm.trans hC;cases this;rfl
 have hG:=S.gw hj
 have n0:=S.lo
 have n1:=S.hi
 have a9:=hG.inn
 have b3:=S.len
 row_cond go
 refine ⟨n,es,rfl,n0,by omega,a9,by omega,fun ess I=>adn ac0 ?_⟩
 obtain ⟨fs,Z⟩:∃ fs,ess[(0:Int).toNat]?=some fs:=⟨_,aA0 (by have:=I.len;simp;omega)⟩
 have hF:=I.row 0 fs (by omega) Z
 have b6:atI (ess.map aba) 0=some (aba fs):=afg (f:=aba) (aco (by omega) Z)
 have a5:fs ≠ []:=hF.ne (Gr.farO_self (T:=Tied es) (a:=0))
 have J:=hF.full n0
 row_cond go
 refine avm a5 ?_
 row_cond go
 refine ⟨3,rfl,rfl,by omega,by omega,fun p p0 p1=>?_⟩
 row_cond go
 obtain ⟨xs,a4,b5⟩:=cut3 p0 p1
 rw [a4]
 refine acv (fun i e=>∃ (l:List Wb) (v7 R M r u:Option Sl),e=[some (.io ODk),some (.io (OI d (gF n es))),some (.st (webD n es)),some (.io (OL (l.map twD))),some (.st (.list (ess.map aba))),some (.st (.bool (decide ((fs.length:Int)=n)))),some (.st (.int p)),v7,R,M,r,u]/\l.length<=ws.length+i) ⟨ws,_,_,_,_,_,rfl,by omega⟩ ?_ ?_
 ·rintro i x e hx m
  refine exS6 e m fun l v7 R M r u G=>?_
  have a3:=G
  clear G m
  have b4:i < 3:=by have:=(aA1.mp hx).1;omega
  by_cases h0:x=0
  ·subst h0
   repeat (first | (refine ah3 (by assumption) ?_) | (refine ajy (s:=.io _) rfl ?_) | (refine ah2 ?_) | (refine ajx ?_) | row_cond st)
   refine ⟨_,.rf (.inr rfl) (.pl (.rf (.inr rfl) .nil)),(by show List.Nodup [1,3];decide),d,n,es,l.map twD,c,rfl,by omega,by rw [aA3];omega,?_⟩
   refine ⟨_,.rf rfl (.inr rfl) (.pl (.rf rfl (.inr rfl) .nil)),alh ?_⟩
   dsimp only [List.set_cons_zero,List.set_cons_succ,reS]
   row_cond go
   exact ⟨l ++ [(n,es)],_,_,_,_,_,by rw [aD9];rfl,by rw [aB0];simp;omega⟩
  ·by_cases h1:x=1
   ·subst h1
    by_cases hJ:Joined n es
    ·have N:=J.mpr hJ
     rw [aD6 N]
     repeat (first | (refine ach (.inr rfl) (ads (by decide +kernel)) ?_) | row_cond st)
     refine ⟨_,_,rfl,.inr rfl,d,n,es,c,rfl,rfl,hG,hJ,fun x a b hF=>?_⟩
     dsimp only [List.set_cons_zero,List.set_cons_succ,reS]
     row_cond go
     refine ad9 ?_
     row_cond go
     refine ⟨n,es,ess,rfl,n0,n1,I,hJ,fun x' a' b' a2=>?_⟩
     obtain ⟨rfl,rfl,rfl⟩:=hF.uniq a2
     row_cond go
     refine aea rfl rfl (by simp [PyData.depth,PyData.depthAll]) ?_
     rw [aeo rfl]
     row_cond go
     exact ⟨l,_,_,_,_,_,rfl,by omega⟩
    ·have N:¬ (fs.length:Int)=n:=fun z=>hJ (J.mp z)
     rw [aD5 N]
     row_cond go
     exact ⟨l,_,_,_,_,_,rfl,by omega⟩
   ·by_cases h2:x=2
    ·subst h2
     repeat (first | (refine aa5 (atb ?_)) | (refine ach (.inr rfl) (ads (by decide +kernel)) ?_) | row_cond st)
     refine ⟨_,_,rfl,.inr rfl,d,n,es,c,rfl,rfl,by omega,?_⟩
     refine ⟨_,_,rfl,?_⟩
     dsimp only [List.set_cons_zero,List.set_cons_succ,reS]
     row_cond go
     refine abz (fun k e=>∃ (R M r u:Option Sl),e=[some (.io ODk),some (.io (OI d (gF n es))),some (.st (webD n es)),some (.io (OL (l.map twD))),some (.st (.list (ess.map aba))),some (.st (.bool (decide ((fs.length:Int)=n)))),some (.st (.int p)),some (.st (.int 2)),R,M,r,u]) ⟨_,_,_,_,rfl⟩ ?_ ?_
     ·rintro k e hk m
      refine exE4 e m fun R M r u=>?_
      clear m
      row_cond go
      refine ⟨n,rfl,rfl,by omega,by omega,fun a a0 a1=>?_⟩
      row_cond go
      refine ⟨n,rfl,rfl,by omega,by omega,fun b b0 b1=>?_⟩
      obtain ⟨L,X⟩:∃ L,ess[a.toNat]?=some L:=⟨_,aA0 (by have:=I.len;omega)⟩
      have W:=I.row a L a0 X
      have b2:atI (ess.map aba) a=some (aba L):=afg (f:=aba) (aco a0 X)
      have U:L ≠ []:=W.ne (Gr.farO_self (T:=Tied es) (a:=a))
      repeat (first | (refine ach (.inr rfl) (ads (by decide +kernel)) ?_) | row_cond st)
      refine ⟨_,_,rfl,.inr rfl,d,n,a,b,es,c,rfl,rfl,hG,a0,a1,b0,b1,?_⟩
      dsimp only [List.set_cons_zero,List.set_cons_succ,reS]
      obtain ⟨o,ho⟩:∃ o,Gr.farO (Tied es) a b=o:=⟨_,rfl⟩
      rw [ho]
      have Y:(valD L (.inl b)).getD .none=oD o:=by rw [W.val,ho];cases o <;> rfl
      have O:aas (oD o)=true:=by cases o <;> rfl
      have a8:isiD "bool" (oD o)=false:=by cases o <;> rfl
      have a6:(oD o).depth<=60:=by cases o <;> simp [oD,PyData.depth]
      repeat (first | (refine asx ?_) | row_cond st)
      refine ⟨L,rfl,U,?_⟩
      row_cond go
      refine ⟨.inl b,rfl,?_⟩
      rw [Y]
      row_cond go
      refine aea O O a6 ?_
      rw [aeo O]
      row_cond go
      rw [a8]
      row_cond go
      exact ⟨_,_,_,_,rfl⟩
     ·rintro e m
      refine exE4 e m fun R M r u=>?_
      clear m
      exact ⟨l,_,_,_,_,_,rfl,by omega⟩
    ·row_cond go
     exact ⟨l,_,_,_,_,_,rfl,by omega⟩
 ·rintro e m
  refine exS6 e m fun l v7 R M r u G=>?_
  have a3:=G
  clear G m
  row_cond go
  exact kk l (by omega)
end
section
variable {P:Program} {w:World} {K:Frag} {mg:Str->Option Value} {base:Heap}
theorem sc_law:FnScope ["script","deck","k","web","grower","held","turn","deed"] ["script"] (aai s_law):=by row_cond sc
theorem ay0 (T:Txt K mg) {f:Addr} {fd:FuncData} (D:DefAt K mg "law" s_law ["script"] f fd):FnOk P w K mg base CX0 14 f fd ["script"] (spP K (awk)):=by
 obtain ⟨b,l⟩:=T.o_Grower
 have a:=l.mgx
 have W:=T.n_Grower_held _ a
 refine D.fn.ok sc_law (fun vs H Q E h=>lenP h fun ss Q' q=>by obtain ⟨ns,rfl,C,kk⟩:=q;rfl) (fun cdv A outer s H vs Q E o h=>?_)
 have nd:=sc_law.nd
 refine ⟨_,(aac (aal (i:=1) nd rfl (Or.inl rfl) (aah (anm T) o (aaa (pv 0) aab)))
  (aac (abi aI7 rfl (abg rfl T.b_range (aaa aad aab)) (aam (i:=2) nd rfl (Or.inl rfl))
   (aac (aal (i:=3) nd rfl (Or.inl rfl) (aah (aoa T) o (aaa (pv 1) (aaa (aan aao (aa1 (aaa aad (aaa aad aab))) (ac8 aih (by rfl) T.b_int al6 (aaa (adk ah8 (pv 2) aad (aax _)) aab)) (fun _ _=>rfl)) aab))))
    (aac (aal (i:=4) nd rfl (Or.inl rfl) (avl (afz T a) l o (aaa (pv 3) aab)))
    (aac (aal (i:=5) nd rfl (Or.inl rfl) (aa1 aab))
    (aac (aa6 (aci (ab2 (aah (af9 T) o (aaa (pv 1) (aaa (pv 4) (aaa (pv 3) (aaa (pv 5) aab)))))))
     (aag (aaq acw))
     aav)
    (aac (abi aI7 rfl (abg rfl T.b_range (aaa aad aab)) (aam (i:=6) nd rfl (Or.inl rfl))
     (aac (aal (i:=7) nd rfl (Or.inl rfl) (aah (anr T) o (aaa (pv 1) (aaa (pv 3) aab))))
      (aag (aa6 (aaw auh (pv 7) ae9 (aax _))
       (aac (aal (i:=3) nd rfl (Or.inl rfl) (aah (aj1 T) o (aaa (pv 3) (aaa (pv 7) aab))))
        (aac (aa8 (aah (ans T) o (aaa (pv 4) (aaa (pv 7) aab))))
        (aag (aa6 (aci (ab2 (aah (af9 T) o (aaa (pv 1) (aaa (pv 4) (aaa (pv 3) (aaa (pv 5) aab)))))))
         (aag (aaq acw))
         aav))))
       aav))))
    (aag (aa6 (aaw (afd o.units) (adp rfl (N:=["found","due"]) (src:=[none,none]) (by exact ab0 rfl rfl rfl rfl rfl rfl) (aby (pv 5)) (fun _ _ _ _=>(show PG _ _ (gTup K 2 (agw (abl 0) (agw (abl 1) gNil))) from (acq rfl (aa2 (aam (i:=0) (show List.Nodup (["found","due"]:List Str) by decide +kernel) rfl (Or.inl rfl) (hf:=Or.inr rfl)) (aa2 (aam (i:=1) (show List.Nodup (["found","due"]:List Str) by decide +kernel) rfl (Or.inl rfl) (hf:=Or.inr rfl)) ab8))))) (fun _ _ _ _=>aoi (aaw (afd o.units) (pv 0) (pv 1) (aax _))) (fun _ _ _ _=>aad)) (aa1 aab) (aax _))
     (aag (aaq acw))
     aav))))))))
  (aag (aaq acw)))),?_⟩
 refine abm h fun ss Q' q B hK=>?_
 refine exS1 ss q fun ns g=>?_
 have C:=g.1
 have kk:=g.2
 clear g q
 show EvS B _ _ [some (.scr ns),none,none,none,none,none,none,none]
 row_cond go
 refine ⟨ns,rfl,C,?_⟩
 row_cond go
 refine abz (fun i e=>∃ S L X U y v,e=[some (.scr ns),some (.own ODk),S,L,X,U,y,v]) ⟨_,_,_,_,_,_,rfl⟩ ?_ ?_
 ·rintro i e hi c
  refine exE6 e c fun S L X U y v=>?_
  clear c
  obtain ⟨F,a4,R⟩:∃ F:Int,atI [PyData.int 60,.int 24] (if decide (0 < 0+(i:Int))=true then 1 else 0)=some (.int F)/\(F=60\/F=24):=by
   by_cases h:decide (0 < 0+(i:Int))=true
   ·rw [aE8 h];exact ⟨24,rfl,.inr rfl⟩
   ·rw [aE9 h];exact ⟨60,rfl,.inl rfl⟩
  row_cond go
  refine ⟨F,rfl,rfl,R,fun n es n0 n1 hP hL=>?_⟩
  have hW:DW n es 0:=⟨n0,n1,hP,hL⟩
  repeat (first | (refine avk (by assumption) ?_) | row_cond st)
  refine ⟨b,n,es,a,rfl,rfl,rfl,?_⟩
  repeat (first | (refine avo 4 rfl ?_;dsimp only [List.set_cons_zero,List.set_cons_succ]) | (refine ah3 (by assumption) ?_) | (refine ajy (s:=.own _) rfl ?_) | (refine ah2 ?_) | (refine ajx ?_) | row_cond st)
  refine ⟨_,.rf (.inl rfl) (.rf (.inl rfl) (.pl (.rf (.inl rfl) .nil))),(by show List.Nodup [1,4,5];decide),b,n,es,[],0,a,rfl,hW,by omega,by simp,fun r a0=>?_⟩
  refine ⟨_,.rf rfl (.inl rfl) (.rf rfl (.inl rfl) (.pl (.rf rfl (.inl rfl) .nil))),alh ?_⟩
  dsimp only [List.set_cons_zero,List.set_cons_succ,reS]
  row_cond go
  refine abz (fun j e=>∃ m qs r y v,e=[some (.scr ns),some (.own ODk),some (.st (.int (0+(i:Int)))),some (.st (webD m qs)),some (.own (OI b (gF m qs))),some (.own (OL (r.map twD))),y,v]/\DW m qs j/\r.length<=3 * j+3) ⟨n,es,r,_,_,rfl,hW,by simpa using a0⟩ ?_ ?_
  ·rintro j e hj c
   refine exS5 e c fun m qs r y v g=>?_
   have u:=g.1
   have O:=g.2
   clear g c
   have a3:j < 8:=hj
   row_cond go
   refine ⟨m,qs,j,rfl,rfl,u,by omega,?_,fun d I p hd=>?_⟩
   ·row_cond go
    rw [aE9 (show ¬ ((!isNone PyData.none)=true) from aA9)]
    row_cond go
    exact ⟨m,qs,r,_,_,rfl,⟨u.lo,u.hi,u.ps,by have:=u.len;omega⟩,by omega⟩
   ·have a1:isNone d=false:=by cases hd <;> rfl
    row_cond go
    rw [a1,aE8 (show (!false)=true from rfl)]
    row_cond go
    refine ⟨m,I,qs,j,d,p,rfl,u,by omega,hd,fun Y o hq=>?_⟩
    have G:=hd.dw u hq
    row_cond go
    refine ⟨b,m,I,qs,j,d,p,a,rfl,rfl,u,by omega,hd,fun us e0 e1 M Z g0 g1=>?_⟩
    obtain rfl:Y=us:=o.eq M fun x=>hq.mem_iff.trans Z.mem_iff.symm
    repeat (first | (refine ah3 (by assumption) ?_) | (refine ajy (s:=.own _) rfl ?_) | (refine ah2 ?_) | (refine ajx ?_) | row_cond st)
    refine ⟨_,.rf (.inl rfl) (.rf (.inl rfl) (.pl (.rf (.inl rfl) .nil))),(by show List.Nodup [1,4,5];decide),b,I,Y,r,j+1,a,rfl,G,by omega,by omega,fun J a2=>?_⟩
    refine ⟨_,.rf rfl (.inl rfl) (.rf rfl (.inl rfl) (.pl (.rf rfl (.inl rfl) .nil))),alh ?_⟩
    dsimp only [List.set_cons_zero,List.set_cons_succ,reS]
    row_cond go
    exact ⟨I,Y,J,_,_,rfl,G,by omega⟩
  ·rintro e c
   refine exS5 e c fun m qs r y v g=>?_
   have u:=g.1
   have O:=g.2
   clear g c
   row_cond go
   refine auv (xs:=r) (fa:=fun w=>webD w.1 w.2) (fb:=fun w=>webD w.1 w.2) (fun _ => .int 1) (fun _=>false) rfl (by omega) (fun x hx B' hB=>?_) ?_
   ·row_cond go
    refine aea (webP _ _) (webP _ _) (aqy _ _) ?_
    rw [aeo (webP _ _)]
    row_cond go
    exact fun z=>nomatch z
   ·rw [show (r.filter fun _=>false).map (fun _=>PyData.int 1)=[] by simp]
    row_cond go
    refine aea rfl rfl (by decide) ?_
    row_cond go
    rw [aE9 (show ¬ ((!(PyData.list []).eqv (PyData.list []))=true) from aA9)]
    row_cond go
    exact ⟨_,_,_,_,_,_,rfl⟩
 ·rintro e c
  refine exE6 e c fun S L X U y v=>?_
  clear c
  row_cond go
  exact kk
theorem a1d (T:Txt K mg) {f:Addr} {fd:FuncData} (D:DefAt K mg "law" s_law ["script"] f fd):FnOk P w K mg base CX0 14 f fd ["script"] (aqx K):=(ay0 T D).imp fun _ _ _ _ h=>avx h
end
theorem len0 {α:Type} {us:List α} (h:us.length=0):us=[]:=aG5 h
theorem len1 {α:Type} {us:List α} (h:us.length=1):∃ a0,us=[a0]:=by
 cases us with
 | nil=>cases h
 | cons a us=>exact ⟨a,by rw [len0 (Nat.succ.inj h)]⟩
theorem len2 {α:Type} {us:List α} (h:us.length=2):∃ a0 a1,us=[a0,a1]:=by
 cases us with
 | nil=>cases h
 | cons a us=>obtain ⟨a1,e⟩:=len1 (Nat.succ.inj h);exact ⟨a,a1,by rw [e]⟩
theorem len3 {α:Type} {us:List α} (h:us.length=3):∃ a0 a1 b,us=[a0,a1,b]:=by
 cases us with
 | nil=>cases h
 | cons a us=>obtain ⟨a1,b,e⟩:=len2 (Nat.succ.inj h);exact ⟨a,a1,b,by rw [e]⟩
theorem len4 {α:Type} {us:List α} (h:us.length=4):∃ a0 a1 c b,us=[a0,a1,c,b]:=by
 cases us with
 | nil=>cases h
 | cons a us=>obtain ⟨a1,c,b,e⟩:=len3 (Nat.succ.inj h);exact ⟨a,a1,c,b,by rw [e]⟩
def Bnd (x:Str) (st:Stmt) (ps:List Str):Prop:=∀ (kV doc pm:Value) (an:Option Addr) (cdv ct:Value) (us:List Value),us.length=ps.length->bindArgs (fnOf x x (abj st) (abh st) (aai st) .none kV doc pm an cdv ct) ⟨us,[]⟩=pure (ps.zip us)
def FnIn (K:Frag) (x:Str) (st:Stmt):Prop:=∃ f oc od kV dc pm an cd ct sl,nsIn K mainGlobals x=some (some (.ref f))/\K.lookup f=some ⟨oc,od,.func (fnOf x x (abj st) (abh st) (aai st) .none kV dc pm an cd ct),sl⟩/\codeIn K cd x=true/\keepIn K (.ref f)=true
theorem fn_in {K:Frag} {x:Str} {st:Stmt} {f:Addr} {od an:Option Addr} {sl:Array (Option Value)} {oc kV d pm b ct:Value} (a:nsIn K mainGlobals x=some (some (.ref f))) (l:K.lookup f=some ⟨oc,od,.func (fnOf x x (abj st) (abh st) (aai st) .none kV d pm an b ct),sl⟩) (c:codeIn K b x=true) (k:keepIn K (.ref f)=true):FnIn K x st:=⟨f,oc,od,kV,d,pm,an,b,ct,sl,a,l,c,k⟩
theorem bnd1 {st:Stmt} {x:Str} {ps:List Str} (c:ps.length=1) (h:∀ (kV doc pm:Value) (an:Option Addr) (cdv ct:Value) (b:Value),bindArgs (fnOf x x (abj st) (abh st) (aai st) .none kV doc pm an cdv ct) ⟨[b],[]⟩=pure (ps.zip [b])):Bnd x st ps:=by
 intro kV doc pm an cdv ct us a
 rw [c] at a
 obtain ⟨_,rfl⟩:=len1 a
 exact h _ _ _ _ _ _ _
theorem bnd2 {st:Stmt} {x:Str} {ps:List Str} (d:ps.length=2) (h:∀ (kV doc pm:Value) (an:Option Addr) (cdv ct:Value) (a b:Value),bindArgs (fnOf x x (abj st) (abh st) (aai st) .none kV doc pm an cdv ct) ⟨[a,b],[]⟩=pure (ps.zip [a,b])):Bnd x st ps:=by
 intro kV doc pm an cdv ct us c
 rw [d] at c
 obtain ⟨_,_,rfl⟩:=len2 c
 exact h _ _ _ _ _ _ _ _
theorem bnd3 {st:Stmt} {x:Str} {ps:List Str} (f:ps.length=3) (h:∀ (kV doc pm:Value) (an:Option Addr) (cdv ct:Value) (a c b:Value),bindArgs (fnOf x x (abj st) (abh st) (aai st) .none kV doc pm an cdv ct) ⟨[a,c,b],[]⟩=pure (ps.zip [a,c,b])):Bnd x st ps:=by
 intro kV doc pm an cdv ct us d
 rw [f] at d
 obtain ⟨_,_,_,rfl⟩:=len3 d
 exact h _ _ _ _ _ _ _ _ _
theorem bnd4 {st:Stmt} {x:Str} {ps:List Str} (g:ps.length=4) (h:∀ (kV doc pm:Value) (an:Option Addr) (cdv ct:Value) (c b a d:Value),bindArgs (fnOf x x (abj st) (abh st) (aai st) .none kV doc pm an cdv ct) ⟨[c,b,a,d],[]⟩=pure (ps.zip [c,b,a,d])):Bnd x st ps:=by
 intro kV doc pm an cdv ct us f
 rw [g] at f
 obtain ⟨_,_,_,_,rfl⟩:=len4 f
 exact h _ _ _ _ _ _ _ _ _ _
theorem aay {K:Frag} {h:Heap} {mg:Str->Option Value} {x:Str} {st:Stmt} {ps:List Str} (X:K.In h) (G:h.Ns mainGlobals mg) (q:FnIn K x st)
  (hb:Bnd x st ps):∃ f fd,DefAt K mg x st ps f fd:=by
 obtain ⟨f,oc,od,kV,d,pm,an,b,ct,sl,a,l,c,k⟩:=q
 exact ⟨_,_,have F:=arv (st:=st) l c k;⟨F,mg_of X G a,F.binds hb⟩⟩
def MBnd (x y:Str) (st:Stmt) (ps:List Str):Prop:=∀ (kV doc pm:Value) (an:Option Addr) (cdv ct:Value) (us:List Value),us.length=ps.length->bindArgs (fnOf x y (abj st) (abh st) (aai st) .none kV doc pm an cdv ct) ⟨us,[]⟩=pure (ps.zip us)
def MeIn (K:Frag) (C:Addr) (x y:Str) (st:Stmt):Prop:=∃ f oc od kV dc pm an cd ct sl,PySem.W.findIn K (.ref C) x=some (some (.ref f))/\PySem.W.isFn K (.ref f)=true/\K.lookup f=some ⟨oc,od,.func (fnOf x y (abj st) (abh st) (aai st) .none kV dc pm an cd ct),sl⟩/\codeIn K cd y=true/\keepIn K (.ref f)=true
theorem me_in {K:Frag} {C:Addr} {x y:Str} {st:Stmt} {f:Addr} {od an:Option Addr} {sl:Array (Option Value)} {oc kV d pm b ct:Value} (a:PySem.W.findIn K (.ref C) x=some (some (.ref f))) (i:PySem.W.isFn K (.ref f)=true) (l:K.lookup f=some ⟨oc,od,.func (fnOf x y (abj st) (abh st) (aai st) .none kV d pm an b ct),sl⟩) (c:codeIn K b y=true) (k:keepIn K (.ref f)=true):MeIn K C x y st:=⟨f,oc,od,kV,d,pm,an,b,ct,sl,a,i,l,c,k⟩
theorem mbn1 {st:Stmt} {x y:Str} {ps:List Str} (c:ps.length=1) (h:∀ (kV doc pm:Value) (an:Option Addr) (cdv ct:Value) (b:Value),bindArgs (fnOf x y (abj st) (abh st) (aai st) .none kV doc pm an cdv ct) ⟨[b],[]⟩=pure (ps.zip [b])):MBnd x y st ps:=by
 intro kV doc pm an cdv ct us a
 rw [c] at a
 obtain ⟨_,rfl⟩:=len1 a
 exact h _ _ _ _ _ _ _
theorem mbn2 {st:Stmt} {x y:Str} {ps:List Str} (d:ps.length=2) (h:∀ (kV doc pm:Value) (an:Option Addr) (cdv ct:Value) (a b:Value),bindArgs (fnOf x y (abj st) (abh st) (aai st) .none kV doc pm an cdv ct) ⟨[a,b],[]⟩=pure (ps.zip [a,b])):MBnd x y st ps:=by
 intro kV doc pm an cdv ct us c
 rw [d] at c
 obtain ⟨_,_,rfl⟩:=len2 c
 exact h _ _ _ _ _ _ _ _
theorem mbn3 {st:Stmt} {x y:Str} {ps:List Str} (f:ps.length=3) (h:∀ (kV doc pm:Value) (an:Option Addr) (cdv ct:Value) (c b a:Value),bindArgs (fnOf x y (abj st) (abh st) (aai st) .none kV doc pm an cdv ct) ⟨[c,b,a],[]⟩=pure (ps.zip [c,b,a])):MBnd x y st ps:=by
 intro kV doc pm an cdv ct us d
 rw [f] at d
 obtain ⟨_,_,_,rfl⟩:=len3 d
 exact h _ _ _ _ _ _ _ _ _
theorem af1 {K:Frag} {C:Addr} {x y:Str} {st:Stmt} {ps:List Str} (q:MeIn K C x y st) (hb:MBnd x y st ps):∃ f fd,MeAt K C x y st ps f fd:=by
 obtain ⟨f,oc,od,kV,d,pm,an,b,ct,sl,a,i,l,c,k⟩:=q
 exact ⟨_,_,have F:=arv (st:=st) l c k;⟨F,⟨a,i,k⟩,F.binds hb⟩⟩
theorem txt_mk {K:Frag} {h:Heap} {mg:Str->Option Value} (X:K.In h) (G:h.Ns mainGlobals mg)
  {l:Tok} {a:Addr} 
  (h0:FnIn K "is_whole" s_is_whole)
  (h1:FnIn K "is_between" s_is_between)
  (h2:FnIn K "need_number" s_need_number)
  (h3:FnIn K "is_place" s_is_place)
  (h4:FnIn K "is_tie" s_is_tie)
  (h5:FnIn K "are_ties" s_are_ties)
  (h6:FnIn K "is_rising" s_is_rising)
  (h7:FnIn K "tied_places" s_tied_places)
  (h8:FnIn K "far_from" s_far_from)
  (h9:FnIn K "need_place" s_need_place)
  (Y:FnIn K "all_far" s_all_far)
  (U:FnIn K "how_far" s_how_far)
  (b3:FnIn K "is_joined" s_is_joined)
  (S:FnIn K "need_joined" s_need_joined)
  (R:FnIn K "far_rows" s_far_rows)
  (O:FnIn K "most_far" s_most_far)
  (a8:FnIn K "farthest_two" s_farthest_two)
  (b0:FnIn K "with_ties" s_with_ties)
  (a0:FnIn K "far_or_none" s_far_or_none)
  (b1:FnIn K "_law_deck" s_law_deck)
  (a7:FnIn K "_law_draw" s_law_draw)
  (a4:FnIn K "_law_tied" s_law_tied)
  (a2:FnIn K "_law_fars" s_law_fars)
  (Z:FnIn K "_law_order" s_law_order)
  (a1:FnIn K "_law_crowds" s_law_crowds)
  (b2:FnIn K "_law_web" s_law_web)
  (Q:FnIn K "_law_deed" s_law_deed)
  (a5:FnIn K "_law_behind" s_law_behind)
  (a6:FnIn K "_law_done" s_law_done)
  (P:FnIn K "_law_due" s_law_due)
  (a3:FnIn K "_law_web_right" s_law_web_right)
  (T:FnIn K "_law_looks" s_law_looks)
  (a9:FnIn K "law" s_law)
  (q:nsIn K mainGlobals "ValueError" = some none)
  (J:nsIn K mainGlobals "all" = some none)
  (H:nsIn K mainGlobals "max" = some none)
  (z:nsIn K mainGlobals "sorted" = some none)
  (A:nsIn K mainGlobals "range" = some none)
  (F:nsIn K mainGlobals "dict" = some none)
  (D:nsIn K mainGlobals "list" = some none)
  (r:nsIn K mainGlobals "isinstance" = some none)
  (L:nsIn K mainGlobals "int" = some none)
  (I:nsIn K mainGlobals "len" = some none)
  (M:nsIn K mainGlobals "sum" = some none)
  (N:nsIn K mainGlobals "min" = some none)
  (E:nsIn K mainGlobals "bool" = some none)
  (B:nsIn K mainGlobals "tuple" = some none)
  (p:nsIn K mainGlobals "MOST_PLACES" = some (some (.int 60 l)))
  (b:nsIn K mainGlobals "Grower" = some (some (.ref a))) (w:PySem.W.plainGet K a Str.empty=true) (s:PySem.W.hasDictIn K a=true) (v:PySem.W.plainOver K a=true) (y:PySem.W.findIn K (.ref a) "__setattr__" = some (some (.builtin "object.__setattr__"))) (x:PySem.W.makesIn K a=true) (u:keepIn K (.ref a)=true)
  (j:PySem.W.findIn K (.ref a) "held" = some none)
  (d:MeIn K a "__init__" "Grower.__init__" s_Grower____init__)
  (c:MeIn K a "put_place" "Grower.put_place" s_Grower__put_place)
  (g:MeIn K a "put_tie" "Grower.put_tie" s_Grower__put_tie)
  (i:MeIn K a "become" "Grower.become" s_Grower__become)
  (n:MeIn K a "web" "Grower.web" s_Grower__web)
  (f:MeIn K a "farthest" "Grower.farthest" s_Grower__farthest)
  (m:MeIn K a "far" "Grower.far" s_Grower__far)
  : Txt K mg where
  o_Grower:=⟨_,mg_of X G b,⟨w,s,v,y⟩,x,u⟩
  n_Grower_held:=fun C o=>by rw [mg_of X G b] at o;cases o;exact j
  m_Grower____init__:=fun C o=>by rw [mg_of X G b] at o;cases o;exact af1 d (mbn2 rfl fun _ _ _ _ _ _ _ _=>rfl)
  m_Grower__put_place:=fun C o=>by rw [mg_of X G b] at o;cases o;exact af1 c (mbn2 rfl fun _ _ _ _ _ _ _ _=>rfl)
  m_Grower__put_tie:=fun C o=>by rw [mg_of X G b] at o;cases o;exact af1 g (mbn3 rfl fun _ _ _ _ _ _ _ _ _=>rfl)
  m_Grower__become:=fun C o=>by rw [mg_of X G b] at o;cases o;exact af1 i (mbn2 rfl fun _ _ _ _ _ _ _ _=>rfl)
  m_Grower__web:=fun C o=>by rw [mg_of X G b] at o;cases o;exact af1 n (mbn1 rfl fun _ _ _ _ _ _ _=>rfl)
  m_Grower__farthest:=fun C o=>by rw [mg_of X G b] at o;cases o;exact af1 f (mbn1 rfl fun _ _ _ _ _ _ _=>rfl)
  m_Grower__far:=fun C o=>by rw [mg_of X G b] at o;cases o;exact af1 m (mbn3 rfl fun _ _ _ _ _ _ _ _ _=>rfl)
  b_ValueError:=mg_none_of X G q
  b_all:=mg_none_of X G J
  b_max:=mg_none_of X G H
  b_sorted:=mg_none_of X G z
  b_range:=mg_none_of X G A
  b_dict:=mg_none_of X G F
  b_list:=mg_none_of X G D
  b_isinstance:=mg_none_of X G r
  b_int:=mg_none_of X G L
  b_len:=mg_none_of X G I
  b_sum:=mg_none_of X G M
  b_min:=mg_none_of X G N
  b_bool:=mg_none_of X G E
  b_tuple:=mg_none_of X G B
  v_MOST_PLACES:=⟨_,mg_of X G p⟩
  d_is_whole:=aay X G h0 (bnd1 rfl fun _ _ _ _ _ _ _=>rfl)
  d_is_between:=aay X G h1 (bnd3 rfl fun _ _ _ _ _ _ _ _ _=>rfl)
  d_need_number:=aay X G h2 (bnd3 rfl fun _ _ _ _ _ _ _ _ _=>rfl)
  d_is_place:=aay X G h3 (bnd2 rfl fun _ _ _ _ _ _ _ _=>rfl)
  d_is_tie:=aay X G h4 (bnd2 rfl fun _ _ _ _ _ _ _ _=>rfl)
  d_are_ties:=aay X G h5 (bnd2 rfl fun _ _ _ _ _ _ _ _=>rfl)
  d_is_rising:=aay X G h6 (bnd1 rfl fun _ _ _ _ _ _ _=>rfl)
  d_tied_places:=aay X G h7 (bnd1 rfl fun _ _ _ _ _ _ _=>rfl)
  d_far_from:=aay X G h8 (bnd2 rfl fun _ _ _ _ _ _ _ _=>rfl)
  d_need_place:=aay X G h9 (bnd2 rfl fun _ _ _ _ _ _ _ _=>rfl)
  d_all_far:=aay X G Y (bnd2 rfl fun _ _ _ _ _ _ _ _=>rfl)
  d_how_far:=aay X G U (bnd3 rfl fun _ _ _ _ _ _ _ _ _=>rfl)
  d_is_joined:=aay X G b3 (bnd1 rfl fun _ _ _ _ _ _ _=>rfl)
  d_need_joined:=aay X G S (bnd1 rfl fun _ _ _ _ _ _ _=>rfl)
  d_far_rows:=aay X G R (bnd1 rfl fun _ _ _ _ _ _ _=>rfl)
  d_most_far:=aay X G O (bnd1 rfl fun _ _ _ _ _ _ _=>rfl)
  d_farthest_two:=aay X G a8 (bnd1 rfl fun _ _ _ _ _ _ _=>rfl)
  d_with_ties:=aay X G b0 (bnd2 rfl fun _ _ _ _ _ _ _ _=>rfl)
  d_far_or_none:=aay X G a0 (bnd1 rfl fun _ _ _ _ _ _ _=>rfl)
  d_law_deck:=aay X G b1 (bnd1 rfl fun _ _ _ _ _ _ _=>rfl)
  d_law_draw:=aay X G a7 (bnd2 rfl fun _ _ _ _ _ _ _ _=>rfl)
  d_law_tied:=aay X G a4 (bnd1 rfl fun _ _ _ _ _ _ _=>rfl)
  d_law_fars:=aay X G a2 (bnd1 rfl fun _ _ _ _ _ _ _=>rfl)
  d_law_order:=aay X G Z (bnd2 rfl fun _ _ _ _ _ _ _ _=>rfl)
  d_law_crowds:=aay X G a1 (bnd1 rfl fun _ _ _ _ _ _ _=>rfl)
  d_law_web:=aay X G b2 (bnd2 rfl fun _ _ _ _ _ _ _ _=>rfl)
  d_law_deed:=aay X G Q (bnd2 rfl fun _ _ _ _ _ _ _ _=>rfl)
  d_law_behind:=aay X G a5 (bnd2 rfl fun _ _ _ _ _ _ _ _=>rfl)
  d_law_done:=aay X G a6 (bnd2 rfl fun _ _ _ _ _ _ _ _=>rfl)
  d_law_due:=aay X G P (bnd2 rfl fun _ _ _ _ _ _ _ _=>rfl)
  d_law_web_right:=aay X G a3 (bnd3 rfl fun _ _ _ _ _ _ _ _ _=>rfl)
  d_law_looks:=aay X G T (bnd4 rfl fun _ _ _ _ _ _ _ _ _ _=>rfl)
  d_law:=aay X G a9 (bnd1 rfl fun _ _ _ _ _ _ _=>rfl)
theorem walk {l:PySem.W.OpenLaw} {q:Program} {b:List Str} {v:(Str->Option Value)->Heap->Prop} {j:World->Heap->Prop} {d:DefRec} {K:Params->Frag} (hn:l.most=some 63) (g:d.params.defaults=[]) (i:d.name = "law")
  (p:∀ (w:World) (h:Heap),j w h->(K w.params).In h)
  (F:∀ (w:World) (mg:Str->Option Value) (h:Heap),(K w.params).In h->h.Ns mainGlobals mg->Txt (K w.params) mg) :
  PySem.W.WalkO q b v j l.row.toRowW d [] (fun f vs=>PySem.call f vs):=by
 refine L2.walk_of (n:=63) (k:=14) (x:="script") (CX:=fun _=>CX0) (sp:=fun w=>aqx (K w.params)) hn (by decide) g ⟨rfl,by decide,by decide⟩ p (fun w mg fa h X G e=>?_) (fun _ _ a ns r _ o=>⟨a,ns,rfl,o,r,fun _=>rfl⟩) fun _ _ _ _ _ z=>z
 have T:=F w mg h X G
 rw [i] at e
 obtain ⟨B,c,D⟩:=T.d_law
 have m:=e.symm.trans D.mgx
 cases m
 refine ⟨c,fun s u=>?_,fun base _ _=>?_⟩
 ·obtain ⟨oc,od,kV,doc,pm,an,cdv,ct,osl,rfl,A,y⟩:=D.fn.ex
  exact .of_eq rfl
 ·exact a1d T D
end G
end
theorem PySem.W.Fast.tw11744092475398854800 : True := trivial
theorem PySem.W.Fast.tw8382005734209312006 : True := trivial
theorem PySem.W.Fast.tw12737815319401198129 : True := trivial
theorem PySem.W.Fast.tw17619048917309427018 : True := trivial
theorem PySem.W.Fast.tw11003535412622531174 : True := trivial
theorem PySem.W.Fast.tw1953515772972950418 : True := trivial
theorem PySem.W.Fast.tw13006313011960629624 : True := trivial
theorem PySem.W.Fast.tw12276547318124818751 : True := trivial
theorem PySem.W.Fast.tw1379061656515264577 : True := trivial
theorem PySem.W.Fast.tw11612638159246458998 : True := trivial
theorem PySem.W.Fast.tw16451499814612485606 : True := trivial
theorem PySem.W.Fast.tw15798160870406558037 : True := trivial
theorem PySem.W.Fast.tw13162131546639698936 : True := trivial
theorem PySem.W.Fast.tw8739482000412437094 : True := trivial
theorem PySem.W.Fast.tw9984951119569870228 : True := trivial
theorem PySem.W.Fast.tw6534743562270283388 : True := trivial
theorem PySem.W.Fast.tw10429176667790412870 : True := trivial
theorem PySem.W.Fast.tw14681891681511412206 : True := trivial
theorem PySem.W.Fast.tw9681324706968089899 : True := trivial
theorem PySem.W.Fast.tw8380346357914257077 : True := trivial
theorem PySem.W.Fast.tw7409251053187453158 : True := trivial
theorem PySem.W.Fast.tw802126675507434149 : True := trivial
theorem PySem.W.Fast.tw2354880234556943125 : True := trivial
theorem PySem.W.Fast.tw13952793708864465131 : True := trivial
theorem PySem.W.Fast.tw2063108591813510538 : True := trivial
theorem PySem.W.Fast.tw6025078079894589113 : True := trivial
theorem PySem.W.Fast.tw9991460285632156281 : True := trivial
theorem PySem.W.Fast.tw540480396674720351 : True := trivial
theorem PySem.W.Fast.tw6528667038502394905 : True := trivial
theorem PySem.W.Fast.tw7575986130890126097 : True := trivial
theorem PySem.W.Fast.tw12790352113214257409 : True := trivial
theorem PySem.W.Fast.tw640913585081530240 : True := trivial
theorem PySem.W.Fast.tw1823435754340918754 : True := trivial
theorem PySem.W.Fast.tw3566177374769738374 : True := trivial
theorem PySem.W.Fast.tw7705159592537260556 : True := trivial
theorem PySem.W.Fast.tw6267033331994004215 : True := trivial
theorem PySem.W.Fast.tw12879481026725072780 : True := trivial
theorem PySem.W.Fast.tw12900270366447488059 : True := trivial
theorem PySem.W.Fast.tw4045069945131927435 : True := trivial
theorem PySem.W.Fast.tw7748228424139680158 : True := trivial
theorem PySem.W.Fast.tw9812340740803423277 : True := trivial
theorem PySem.W.Fast.tw12822925930982180168 : True := trivial
theorem PySem.W.Fast.tw13406203264415779195 : True := trivial
theorem PySem.W.Fast.tw2678984506071192356 : True := trivial
theorem PySem.W.Fast.tw4454665225075467872 : True := trivial
theorem PySem.W.Fast.tw1983148777233681811 : True := trivial
theorem PySem.W.Fast.tw11800196569605902244 : True := trivial
theorem PySem.W.Fast.tw10274961991920721425 : True := trivial
theorem PySem.W.Fast.tw11192984286169910413 : True := trivial
theorem PySem.W.Fast.tw10352167873901741087 : True := trivial
theorem PySem.W.Fast.tw7090846504387993035 : True := trivial
theorem PySem.W.Fast.tw11912079607001169473 : True := trivial
theorem PySem.W.Fast.tw4641338040399337208 : True := trivial
theorem PySem.W.Fast.tw17061125211292350424 : True := trivial
theorem PySem.W.Fast.tw8085154840890163629 : True := trivial
theorem PySem.W.Fast.tw4019327454694891479 : True := trivial
theorem PySem.W.Fast.tw5084812224257990407 : True := trivial
theorem PySem.W.Fast.tw4768790695613073446 : True := trivial
theorem PySem.W.Fast.tw18152667731998109213 : True := trivial
theorem PySem.W.Fast.tw4854946120571094552 : True := trivial
theorem PySem.W.Fast.tw1874544926932284822 : True := trivial
theorem PySem.W.Fast.tw9460358954930021618 : True := trivial
theorem PySem.W.Fast.tw17716533316551612714 : True := trivial
theorem PySem.W.Fast.tw14343968250207326543 : True := trivial
theorem PySem.W.Fast.tw4362237425852021976 : True := trivial
theorem PySem.W.Fast.tw16756973824281827851 : True := trivial
theorem PySem.W.Fast.tw16572704691929577671 : True := trivial
theorem PySem.W.Fast.tw11058968011120441138 : True := trivial
theorem PySem.W.Fast.tw3077446236518922570 : True := trivial
theorem PySem.W.Fast.tw7190604436557654520 : True := trivial
theorem PySem.W.Fast.tw2864603507936364363 : True := trivial
theorem PySem.W.Fast.tw14010484770069043458 : True := trivial
theorem PySem.W.Fast.tw11815555516974802292 : True := trivial
theorem PySem.W.Fast.tw14010053672733541080 : True := trivial
theorem PySem.W.Fast.tw12155179934941072091 : True := trivial
theorem PySem.W.Fast.tw12409133795435484389 : True := trivial
theorem PySem.W.Fast.tw17327209533442347352 : True := trivial
theorem PySem.W.Fast.tw13435062113883596129 : True := trivial
theorem PySem.W.Fast.tw7195113341352546548 : True := trivial
theorem PySem.W.Fast.tw4871033948571075175 : True := trivial
theorem PySem.W.Fast.tw16624811906664043586 : True := trivial
theorem PySem.W.Fast.tw176267847663869436 : True := trivial
theorem PySem.W.Fast.tw10346602336009087113 : True := trivial
theorem PySem.W.Fast.tw10261223300901490341 : True := trivial
theorem PySem.W.Fast.tw5400973547790805773 : True := trivial
theorem PySem.W.Fast.tw10359986832831614681 : True := trivial
theorem PySem.W.Fast.tw13886009096515100362 : True := trivial
theorem PySem.W.Fast.tw9617564576529442720 : True := trivial
theorem PySem.W.Fast.tw14594477492089821813 : True := trivial
theorem PySem.W.Fast.tw16840613985886277040 : True := trivial
theorem PySem.W.Fast.tw4254092451202910713 : True := trivial
theorem PySem.W.Fast.tw4474452413988137176 : True := trivial
theorem PySem.W.Fast.tw1245017429833711512 : True := trivial
theorem PySem.W.Fast.tw1329558247054897571 : True := trivial
theorem PySem.W.Fast.tw13981847639178900530 : True := trivial
theorem PySem.W.Fast.tw17145227787770200707 : True := trivial
theorem PySem.W.Fast.tw2843598954041827940 : True := trivial
theorem PySem.W.Fast.tw146947673645342842 : True := trivial
theorem PySem.W.Fast.tw910732736098552529 : True := trivial
theorem PySem.W.Fast.tw798224423157303719 : True := trivial
theorem PySem.W.Fast.tw18102990068035176691 : True := trivial
theorem PySem.W.Fast.tw10929558048606706943 : True := trivial
theorem PySem.W.Fast.tw17382842992300152825 : True := trivial
theorem PySem.W.Fast.tw8775565808925176938 : True := trivial
theorem PySem.W.Fast.tw5684481054213243208 : True := trivial
theorem PySem.W.Fast.tw6853271293229741926 : True := trivial
theorem PySem.W.Fast.tw2846121574418662950 : True := trivial
theorem PySem.W.Fast.tw2695788338724748785 : True := trivial
theorem PySem.W.Fast.tw2452158601367060942 : True := trivial
theorem PySem.W.Fast.tw8316239497471855467 : True := trivial
theorem PySem.W.Fast.tw11715441260443853758 : True := trivial
theorem PySem.W.Fast.tw17516218489523381195 : True := trivial
theorem PySem.W.Fast.tw14664962478413622881 : True := trivial
theorem PySem.W.Fast.tw4386538703412521311 : True := trivial
theorem PySem.W.Fast.tw54186457608988585 : True := trivial
theorem PySem.W.Fast.tw14797039695791217068 : True := trivial
theorem PySem.W.Fast.tw10870445734521896788 : True := trivial
theorem PySem.W.Fast.tw2667961463063311618 : True := trivial
theorem PySem.W.Fast.tw10987377153883555616 : True := trivial
theorem PySem.W.Fast.tw561107529414035671 : True := trivial
theorem PySem.W.Fast.tw16695566256117259340 : True := trivial
theorem PySem.W.Fast.tw17927920786519560721 : True := trivial
theorem PySem.W.Fast.tw14818873892416690596 : True := trivial
theorem PySem.W.Fast.tw16412532420894614993 : True := trivial
theorem PySem.W.Fast.tw14955340846119864572 : True := trivial
theorem PySem.W.Fast.tw14209570314840511766 : True := trivial
theorem PySem.W.Fast.tw10559319665088242504 : True := trivial
theorem PySem.W.Fast.tw12672199017965367230 : True := trivial
theorem PySem.W.Fast.tw5893405144895077792 : True := trivial
theorem PySem.W.Fast.tw15273097634316716527 : True := trivial
theorem PySem.W.Fast.tw3731695137620360070 : True := trivial
theorem PySem.W.Fast.tw492323252240352263 : True := trivial
theorem PySem.W.Fast.tw13243816797815465174 : True := trivial
theorem PySem.W.Fast.tw13056802419943727381 : True := trivial
theorem PySem.W.Fast.tw18069901067999293713 : True := trivial
theorem PySem.W.Fast.tw7632321513747662750 : True := trivial
theorem PySem.W.Fast.tw4673473190956715244 : True := trivial
theorem PySem.W.Fast.tw13500752954606537588 : True := trivial
theorem PySem.W.Fast.tw15349038598952771267 : True := trivial
theorem PySem.W.Fast.tw10074269653237462804 : True := trivial
theorem PySem.W.Fast.tw3272321385514238616 : True := trivial
theorem PySem.W.Fast.tw15468412788840562778 : True := trivial
theorem PySem.W.Fast.tw7974048155590721055 : True := trivial
theorem PySem.W.Fast.tw4164721401329596992 : True := trivial
theorem PySem.W.Fast.tw13615403995943606696 : True := trivial
theorem PySem.W.Fast.tw11647952056266383227 : True := trivial
theorem PySem.W.Fast.tw2099663112337895678 : True := trivial
theorem PySem.W.Fast.tw13412891617289288154 : True := trivial
theorem PySem.W.Fast.tw1081339086571874064 : True := trivial
theorem PySem.W.Fast.tw13950692297404735564 : True := trivial
theorem PySem.W.Fast.tw15222738015770203550 : True := trivial
theorem PySem.W.Fast.tw17490556003368043039 : True := trivial
theorem PySem.W.Fast.tw4119893823502140072 : True := trivial
theorem PySem.W.Fast.tw4611456473709283584 : True := trivial
theorem PySem.W.Fast.tw16308256314655242410 : True := trivial
theorem PySem.W.Fast.tw10054718378196563920 : True := trivial
theorem PySem.W.Fast.tw14061004865409084538 : True := trivial
theorem PySem.W.Fast.tw17885202432290094507 : True := trivial
theorem PySem.W.Fast.tw9854863645040566449 : True := trivial
theorem PySem.W.Fast.tw5756166820308543890 : True := trivial
theorem PySem.W.Fast.tw15912960954700263520 : True := trivial
theorem PySem.W.Fast.tw17752509553250690423 : True := trivial
theorem PySem.W.Fast.tw14544562120907956862 : True := trivial
theorem PySem.W.Fast.tw12567207911966233740 : True := trivial
theorem PySem.W.Fast.tw6029465681028368394 : True := trivial
theorem PySem.W.Fast.tw191548108428373835 : True := trivial
theorem PySem.W.Fast.tw5721837009021288669 : True := trivial
theorem PySem.W.Fast.tw540117186871320230 : True := trivial
theorem PySem.W.Fast.tw14666125388798368652 : True := trivial
theorem PySem.W.Fast.tw22223272363587840 : True := trivial
theorem PySem.W.Fast.tw1679827799961602230 : True := trivial
theorem PySem.W.Fast.tw1217440915054587015 : True := trivial
theorem PySem.W.Fast.tw12234461178979643289 : True := trivial
theorem PySem.W.Fast.tw10951374303127687505 : True := trivial
theorem PySem.W.Fast.tw5873156167257236833 : True := trivial
theorem PySem.W.Fast.tw13737652609691236445 : True := trivial
theorem PySem.W.Fast.tw3335068609843158205 : True := trivial
theorem PySem.W.Fast.tw3991912066569630148 : True := trivial
theorem PySem.W.Fast.tw6457592894771073537 : True := trivial
theorem PySem.W.Fast.tw528693432387972045 : True := trivial
theorem PySem.W.Fast.tw8640788441466218214 : True := trivial
theorem PySem.W.Fast.tw4627685414462816095 : True := trivial
theorem PySem.W.Fast.tw3004266453573974576 : True := trivial
theorem PySem.W.Fast.tw855257685265623734 : True := trivial
theorem PySem.W.Fast.tw1246357441524582190 : True := trivial
theorem PySem.W.Fast.tw15041838046732892682 : True := trivial
theorem PySem.W.Fast.tw9609871573202924627 : True := trivial
theorem PySem.W.Fast.tw15770543406834069444 : True := trivial
theorem PySem.W.Fast.tw4003941951395586905 : True := trivial
theorem PySem.W.Fast.tw7328901314665590696 : True := trivial
theorem PySem.W.Fast.tw1530014788939603785 : True := trivial
theorem PySem.W.Fast.tw3175551310361631545 : True := trivial
theorem PySem.W.Fast.tw2704065445515248971 : True := trivial
open PySem PySem.W PyProof.Rows
set_option maxRecDepth 100000 in
set_option maxHeartbeats 0 in
theorem PySem.Challenge.cw_fewties_k43_what_a_grower_tells_holds : PySem.Challenge.rw_fewties_k43_what_a_grower_tells.Holds := by
 w_on;o_law;k_head;(case hw=>w_witness2)
 k_fill
 refine G.walk (l:=PySem.Challenge.rw_fewties_k43_what_a_grower_tells) rfl rfl rfl (fun w h Y=>PySem.W.kIn_of Y) ?F
 case F =>
  intro w mg h KX GG
  refine' G.txt_mk KX GG ..
  all_goals try (refine' G.fn_in ?a_ ?l_ ?c_ ?k_;(case a_=>k_is);(case l_=>k_is);(case c_=>k_is);(case k_=>k_is))
  all_goals try k_is
  all_goals try (refine' G.me_in ?a_ ?i_ ?l_ ?c_ ?k_;(case a_=>k_is);(case i_=>k_is);(case l_=>k_is);(case c_=>k_is);(case k_=>k_is))
#print axioms PySem.Challenge.cw_fewties_k43_what_a_grower_tells_holds
