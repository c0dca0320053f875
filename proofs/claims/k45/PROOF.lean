import PyProof.Rows.All
import Wide.All
import OpenK.AllK
import Wide.FinOn
import PyProof.EqAt
import PyProof.EqKinds
import PyProof.TupleCall
import PyProof.NeData
import PyProof.P3In
import PyProof.WalkInts
import PyProof.Rows.SortWalk
import PyProof.SumWalkG
import PyProof.Rows.CallKwBuiltin
import KE.KDictList
import PyProof.WalksEnum
import PyProof.ZipIter
import PyProof.ConsumeWalk
import PyProof.ListRange
import PyProof.TupleOfSeq
import PyProof.Rows.RuleN_abs
import KE.KDictOf
import PyProof.AttrMissHeap
import PySem.Challenge.RW_fewties_k45_whole_as_the_web_anew
open PySem.W (Frag kitOne mg_of nsIn mg_none_of excIn fnOf mroIn keepIn codeIn)
set_option Elab.async false
set_option linter.all false
set_option compiler.extract_closed false
set_option maxRecDepth 100000
set_option maxHeartbeats 4000000
noncomputable section
abbrev aA0:=@List.getElem?_eq_getElem
abbrev aA1:=@List.getElem?_eq_some_iff
abbrev aA2:=@List.mem_of_getElem?
abbrev aA3:=@List.length_map
abbrev aA4:=@Array.getElem?_eq_getElem
abbrev aA5:=@List.getElem?_map
abbrev aA6:=@Nat.le_refl
abbrev aA7:=@List.mem_append
abbrev aA8:=@List.mem_cons
abbrev aA9:=@Bool.false_ne_true
abbrev aB0:=@List.length_append
abbrev aB1:=@List.size_toArray
abbrev aB2:=@List.mem_append_right
abbrev aB3:=@List.append_assoc
abbrev aB4:=@List.mem_cons_of_mem
abbrev aB5:=@Nat.ne_of_lt
abbrev aB6:=@List.mem_map
abbrev aB7:=@List.mem_cons_self
abbrev aB8:=@List.mem_range
abbrev aB9:=@List.mem_of_mem_take
abbrev aC0:=@List.take_append_drop
abbrev aC1:=@List.mem_singleton
abbrev aC2:=@List.getElem?_append_left
abbrev aC3:=@List.mem_of_mem_drop
abbrev aC4:=@Nat.lt_of_lt_of_le
abbrev aC5:=@Option.some.inj
abbrev aC6:=@List.mem_append_left
abbrev aC7:=@List.getElem?_append_right
abbrev aC8:=@List.pairwise_append
abbrev aC9:=@Nat.le_trans
abbrev aD0:=@List.map_cons
abbrev aD1:=@List.getElem?_set
abbrev aD2:=@List.getD_eq_getElem?_getD
abbrev aD3:=@Classical.byContradiction
abbrev aD4:=@Array.getElem?_toList
abbrev aD5:=@decide_eq_false
abbrev aD6:=@decide_eq_true
abbrev aD7:=@List.getElem?_range
abbrev aD8:=@List.map_map
abbrev aD9:=@List.map_append
abbrev aE0:=@List.length_cons
abbrev aE1:=@Int.emod_lt_of_pos
abbrev aE2:=@List.nodup_append
abbrev aE3:=@List.map_congr_left
abbrev aE4:=@List.append_nil
abbrev aE5:=@List.take_of_length_le
abbrev aE6:=@List.all_eq_true
abbrev aE7:=@if_pos
abbrev aE8:=@if_neg
abbrev aE9:=@List.getElem?_eq_none_iff
abbrev aF0:=@Nat.lt_succ_of_lt
abbrev aF1:=@List.length_pos_iff
abbrev aF2:=@Nat.zero_le
abbrev aF3:=@List.pairwise_map
abbrev aF4:=@List.ext_getElem?
abbrev aF5:=@beq_iff_eq
abbrev aF6:=@Nat.lt_irrefl
abbrev aF7:=@Nat.le_of_lt
abbrev aF8:=@Array.toList_append
abbrev aF9:=@List.pairwise_iff_getElem
abbrev aG0:=@List.take_length
abbrev aG1:=@List.lookup_cons
abbrev aG2:=@List.length_take
abbrev aG3:=@Bool.and_eq_true
abbrev aG4:=@List.eq_nil_of_length_eq_zero
abbrev aG5:=@List.replicate_succ
abbrev aG6:=@List.take_add_one
abbrev aG7:=@List.getElem?_take_of_lt
abbrev aG8:=@List.mem_iff_getElem
abbrev aG9:=@List.getElem?_replicate
abbrev aH0:=@Bool.eq_iff_iff
abbrev aH1:=@Array.size_push
abbrev aH2:=@List.Pairwise.imp_of_mem
abbrev aH3:=@List.getElem?_cons_succ
abbrev aH4:=@Option.map_some
abbrev aH5:=@List.getElem?_drop
abbrev aH6:=@List.nodup_cons
abbrev aH7:=@Nat.sub_self
abbrev aH8:=@Nat.lt_succ_self
abbrev aH9:=@List.length_nil
open PySem PySem.Spec in
abbrev aI0:=@wpAny_bind
open PySem PySem.Spec in
abbrev aI1:=@wpAny_pure
open PySem PySem.Spec in
abbrev aI2:=@Heap.get?_push_of_some
open PySem PySem.Spec in
abbrev aI3:=@Heap.lt_size
open PySem PySem.Spec in
abbrev aI4:=@Heap.get?_push_size
open PySem PySem.Spec in
abbrev aI5:=@wpAny_holding
open PySem PySem.Spec in
abbrev aI6:=@PassesOwn.never
open PySem PySem.Spec in
abbrev aI7:=@wpAny_mono
open PySem PySem.Spec in
abbrev aI8:=@wpAny_newObj_type
open PySem PySem.Spec in
abbrev aI9:=@Around.under_plainId
open PySem PySem.Spec in
abbrev aJ0:=@Heap.size_push
open PySem PySem.Spec in
abbrev aJ1:=@wpAny_call_entry
open PySem PySem.Spec in
abbrev aJ2:=@wpAny_truthy_bool
open PySem PySem.Spec in
abbrev aJ3:=@wpAny_pyIter_list
open PySem PySem.Spec in
abbrev aJ4:=@codeAny_builtin
namespace L2
open PySem PySem.Spec PyProof.Rows
abbrev Key:=Sum Int Str
def aho:Key->Value->Bool
 | .inl k,v=>Value.isInt k v
 | .inr x,v=>Value.isStrOf x v
def keyH (w:World):Key->Int
 | .inl k=>hashInt k
 | .inr x=>hashStr w x
theorem abv:∀ {k:Key} {v:Value},aho k v=true->(∃ i t,k=Sum.inl i/\v=Value.int i t)\/(∃ x t,k=Sum.inr x/\v=Value.str x t)
 | .inl i,v,h=>by
  obtain ⟨t,e⟩:=Value.isInt_shape (k:=i) (v:=v) h
  exact .inl ⟨i,t,rfl,e⟩
 | .inr x,v,h=>by
  obtain ⟨t,e⟩:=Value.isStrOf_shape (x:=x) (v:=v) h
  exact .inr ⟨x,t,rfl,e⟩
theorem arl (i:Int) (t:Tok):aho (.inl i) (.int i t)=true:=by simp [aho,Value.isInt]
theorem arm (x:Str) (t:Tok):aho (.inr x) (.str x t)=true:=by simp [aho,Value.isStrOf]
theorem ay7 (a b:Int):decide ((Sum.inl a:Key)=Sum.inl b)=(a == b):=by
 by_cases e:a=b
 ·subst e;simp
 ·have h:¬ (Sum.inl a:Key)=Sum.inl b:=fun q=>e (Sum.inl.inj q)
  rw [aD5 h]
  exact (beq_eq_false_iff_ne.mpr e).symm
theorem ay8 (a b:Str):decide ((Sum.inr a:Key)=Sum.inr b)=decide (a=b):=by
 by_cases e:a=b
 ·subst e;simp
 ·have h:¬ (Sum.inr a:Key)=Sum.inr b:=fun q=>e (Sum.inr.inj q)
  rw [aD5 h,aD5 e]
theorem ay9 (a:Int) (b:Str):decide ((Sum.inl a:Key)=Sum.inr b)=false:=aD5 (fun q=>nomatch q)
theorem aza (a:Str) (b:Int):decide ((Sum.inr a:Key)=Sum.inl b)=false:=aD5 (fun q=>nomatch q)
def aba (prog:Program) (w:World):PySem.KeyKind prog w Key where
 is:=aho
 hash:=keyH w
 inj:=fun v a b ha hb=>by
  rcases abv ha with ⟨i,t,rfl,rfl⟩ | ⟨x,t,rfl,rfl⟩
  ·rcases abv hb with ⟨j,u,rfl,e⟩ | ⟨y,u,rfl,e⟩
   ·injection e with e1 _;rw [e1]
   ·exact nomatch e
  ·rcases abv hb with ⟨j,u,rfl,e⟩ | ⟨y,u,rfl,e⟩
   ·exact nomatch e
   ·injection e with e1 _;rw [e1]
 byValue:=fun k v h=>by
  rcases abv h with ⟨i,t,rfl,rfl⟩ | ⟨x,t,rfl,rfl⟩ <;> rfl
 pyHash:=fun hv h=>by
  rcases abv hv with ⟨i,t,rfl,rfl⟩ | ⟨x,t,rfl,rfl⟩
  ·exact wpAny_pyHash_int h
  ·exact wpAny_pyHash_str h
 eqBool:=fun hu hv h=>by
  rcases abv hu with ⟨i,t,rfl,rfl⟩ | ⟨x,t,rfl,rfl⟩
  ·rcases abv hv with ⟨j,u,rfl,rfl⟩ | ⟨y,u,rfl,rfl⟩
   ·rw [ay7] at h;exact wpAny_eqBool_int h
   ·rw [ay9] at h;exact SeqAt.EqAt.int_str i t y u _ _ _ _ h
  ·rcases abv hv with ⟨j,u,rfl,rfl⟩ | ⟨y,u,rfl,rfl⟩
   ·rw [aza] at h;exact SeqAt.EqAt.str_int x t j u _ _ _ _ h
   ·rw [ay8] at h;exact wpAny_eqBool_str h
 «strs»:=fun k x t v h=>by
  rcases abv h with ⟨i,u,rfl,e⟩ | ⟨y,u,rfl,e⟩
  ·exact nomatch e
  ·injection e with e1 _
   subst e1
   cases v <;> rfl
theorem ah6 (prog:Program) (w:World) (i:Int) (t:Tok):(aba prog w).is (.inl i) (.int i t)=true:=arl i t
theorem aoi (prog:Program) (w:World) (x:Str) (t:Tok):(aba prog w).is (.inr x) (.str x t)=true:=arm x t
inductive V where
 | non | bl (b:Bool) | int (i:Int) | str (x:Str) | byt (b:Array UInt8) | flt (b:UInt64) | ref (a:Addr) | ty (n:String)
 deriving DecidableEq
def RelV:V->Value->Prop
 | .non,u=>u=Value.none
 | .bl b,u=>u=Value.bool b
 | .int i,u=>∃ t,u=Value.int i t
 | .str x,u=>∃ t,u=Value.str x t
 | .byt b,u=>∃ t,u=Value.bytes b t
 | .flt b,u=>∃ t,u=Value.float b t
 | .ref a,u=>u=Value.ref a
 | .ty n,u=>u=Value.type n
abbrev Vals:List V->List Value->Prop:=Paired RelV
theorem Vals.length {xs:List V} {us:List Value} (r:Vals xs us):xs.length=us.length:=Paired.length r
theorem Vals.get:∀ {xs:List V} {us:List Value} {i:Nat} {x:V},Vals xs us->xs[i]?=some x->∃ u,us[i]?=some u/\RelV x u
 | _,_,_,_,.nil,e=>by simp at e
 | _,_,0,_,.cons r _,e=>by simp at e;subst e;exact ⟨_,rfl,r⟩
 | _,_,i+1,x,.cons _ t,e=>by
  obtain ⟨u,b,a⟩:=Vals.get (i:=i) (x:=x) t (by simpa using e)
  exact ⟨u,by simpa using b,a⟩
theorem Vals.set {x:V} {u:Value} (r:RelV x u):∀ {xs:List V} {us:List Value} (i:Nat),Vals xs us->Vals (xs.set i x) (us.set i u)
 | _,_,_,.nil => .nil
 | _,_,0,.cons _ t => .cons r t
 | _,_,i+1,.cons q t => .cons q (Vals.set r i t)
theorem Vals.append:∀ {xs ys:List V} {us a:List Value},Vals xs us->Vals ys a->Vals (xs ++ ys) (us ++ a)
 | _,_,_,_,.nil,s=>s
 | _,_,_,_,.cons r t,s => .cons r (Vals.append t s)
def RelO:Option V->Option Value->Prop
 | some v,some u=>RelV v u
 | none,none=>True
 | _,_=>False
def KV {κ:Type}:List (κ × V)->List (κ × Value)->Prop:=Paired fun (p : κ × V) (q : κ × Value)=>p.1=q.1/\RelV p.2 q.2
def kV:Key->V
 | .inl i => .int i
 | .inr x => .str x
inductive HO where
 /-- a list -/
 | lst (xs:List V)
 /-- a tuple (never changes) -/
 | tup (xs:List V)
 /-- a dict whose keys are ints and texts; one whose keys are tuples of ints and texts (the empty one is both) -/
 | dK (kvs:List (Key × V)) | dT (kvs:List (List Key × V))
 /-- a set of ints: its members, its size -/
 | set (S:Int->Bool) (n:Nat)
 /-- an instance of the class at C, its dict at dx, its attributes -/
 | ins (C dx:Addr) (fs:List (Str × V))
 /-- the dict of the instance at x -/
 | own (x:Addr)
 /-- the dict of an exception -/
 | xd (fs:List (Str × V))
 /-- a bound method, f of x -/
 | met (f x:Addr)
 /-- a range object lo, lo + 1, .. below hi -/
 | rng (lo hi:Int)
 /-- a thing that is known to the object (the script; a dict while a loop walks it): read, never written while it is so -/
 | frz (o:Obj) (u:HO)
 /-- a code object's table -/
 | tbl (ps:Array Value)
 /-- any other thing, by what is true of its one object (a def of one's own: SetO a S n:=HO.ext fun h => ..) -/
 | ext (φ:Heap->Prop)
abbrev Hp:=Addr->Option HO
def upd (H:Hp) (a:Addr) (o:HO):Hp:=fun b=>if b=a then some o else H b
theorem aah {H:Hp} {a:Addr} {o:HO}:upd H a o a=some o:=by unfold upd;rw [aE7 rfl]
theorem aae {H:Hp} {a b:Addr} {o:HO} (h:b ≠ a):upd H a o b=H b:=by unfold upd;rw [aE8 h]
theorem ahp {H:Hp} {a b:Addr} {o u:HO} (h:H a=some o) (h':H b=some u) (d:o ≠ u):a ≠ b:=by
 intro e;subst e;rw [h] at h';exact d (aC5 h')
theorem aan {H:Hp} {a b:Addr} {o:HO} (h:H a=some o) (h':H b=none):a ≠ b:=by
 intro e;subst e;rw [h] at h';cases h'
section
variable (P:Program) (w:World)
def ObjOk (H:Hp) (h:Heap) (a:Addr):HO->Prop
 | .lst xs=>xs.length<=sizeLine/\∃ (its:List Value) (n:Nat),Vals xs its/\h.get? a=some { cls:=.type "list",data:=.seq its.toArray n }
 | .tup xs=>xs.length<=sizeLine/\∃ its:List Value,Vals xs its/\IsTup h a its.toArray
 | .dK kvs=>kvs.length<=sizeLine/\(a == sysModules)=false/\∃ vs,KV kvs vs/\h.DictOf (aba P w) a vs
 | .dT kvs=>kvs.length<=sizeLine/\(a == sysModules)=false/\∃ xs:List (List Key × Addr × Value),
   Paired (fun (p:List Key × V) (q:List Key × Addr × Value)=>p.1=q.1/\H q.2.1=some (.tup (p.1.map kV))/\RelV p.2 q.2.2) kvs xs /\
   ∃ o es ep,h.get? a=some o/\o.ExactDict/\o.data=.dict es ep/\es.toList=xs.map (entryOfKey (tupleKind (aba P w)))/\(xs.map (·.1)).Nodup
 | .set S n=>h.SetOf (intKind P w) a S n
 | .ins C dx fs=>H dx=some (.own a)/\fs.length<=1000/\dx ≠ a/\h.get? a=some (PySem.W.instObj C dx) /\
   ∃ mA,h.Ns1 dx mA/\(∀ f,RelO (fs.lookup f) (mA f))/\PySem.Within mA (fs.map (·.1))
 | .own _=>∃ o,h.get? a=some o
 | .xd fs=>∃ mA,h.Ns1 a mA/\∀ f,RelO (fs.lookup f) (mA f)
 | .rng lo hi=>∃ t u v,h.get? a=some { cls:=.type "range",data:=.fields #[.int lo t,.int hi u,.int 1 v] }
 | .frz o u=>h.get? a=some o/\ObjOk H h a u
 | .tbl ps=>h.get? a=some { cls:=.none,data:=.fields ps }
 | .met f x=>h.get? a=some (PySem.W.methodObj (.ref f) (.ref x))
 | .ext φ => φ h/\(∃ o,h.get? a=some o)/\∀ h1 h2:Heap,φ h1->(∀ o,h1.get? a=some o->h2.get? a=some o)->φ h2
def HOk (H:Hp) (h:Heap):Prop:=∀ a o,H a=some o->ObjOk P w H h a o
end
section
variable {P:Program} {w:World} {H H':Hp} {h h':Heap} {a:Addr} {o:HO}
theorem ObjOk.lt (x:ObjOk P w H h a o):a < h.objs.size:=by
 cases o with
 | lst xs=>obtain ⟨_,_,_,_,e⟩:=x;exact aI3 e
 | tup xs=>obtain ⟨_,_,_,p⟩:=x;exact p.lt
 | dK kvs=>obtain ⟨_,_,_,_,o,_,_,e,_⟩:=x;exact aI3 e
 | dT kvs=>obtain ⟨_,_,_,_,o,_,_,e,_⟩:=x;exact aI3 e
 | set S n=>obtain ⟨o,_,_,_,e,_⟩:=x;exact aI3 e
 | ins C dx fs=>obtain ⟨_,_,_,e,_⟩:=x;exact aI3 e
 | own y=>obtain ⟨_,e⟩:=x;exact aI3 e
 | xd fs=>obtain ⟨_,⟨_,_,_,e,_⟩,_⟩:=x;exact aI3 e
 | rng lo hi=>obtain ⟨_,_,_,e⟩:=x;exact aI3 e
 | frz ob u=>obtain ⟨e,_⟩:=x;exact aI3 e
 | tbl ps=>exact aI3 (show h.get? a=some _ from x)
 | met f y=>exact aI3 (show h.get? a=some _ from x)
 | ext φ=>obtain ⟨_,⟨_,e⟩,_⟩:=x;exact aI3 e
theorem Paired.mapP {α β:Type} {F G : α->β->Prop}:∀ {c:List α} {d:List β},Paired F c d->(∀ a b,F a b->G a b)->Paired G c d
 | _,_,.nil,_ => .nil
 | _,_,.cons r t,f => .cons (f _ _ r) (Paired.mapP t f)
theorem ObjOk.stay (x:ObjOk P w H h a o) (k:∀ b u,(b=a\/H b=some (.own a))->h.get? b=some u->h'.get? b=some u)
  (j:∀ b,H b=some (.own a)->H' b=some (.own a)) (l:∀ b xs,H b=some (.tup xs)->H' b=some (.tup xs)):ObjOk P w H' h' a o:=by
 induction o with
 | lst xs=>obtain ⟨z,its,n,r,e⟩:=x;exact ⟨z,its,n,r,k _ _ (.inl rfl) e⟩
 | tup xs=>obtain ⟨z,its,r,g,e,c⟩:=x;exact ⟨z,its,r,g,k _ _ (.inl rfl) e,c⟩
 | dK kvs=>obtain ⟨z,y,vs,r,g,es,i,e,c⟩:=x;exact ⟨z,y,vs,r,g,es,i,k _ _ (.inl rfl) e,c⟩
 | dT kvs =>
  obtain ⟨z,y,xs,r,g,es,i,e,c⟩:=x
  exact ⟨z,y,xs,Paired.mapP r fun p q z=>⟨z.1,l _ _ z.2.1,z.2.2⟩,g,es,i,k _ _ (.inl rfl) e,c⟩
 | set S n=>obtain ⟨g,es,i,t,e,c⟩:=x;exact ⟨g,es,i,t,k _ _ (.inl rfl) e,c⟩
 | ins C dx fs =>
  obtain ⟨d,z,ne,e,mA,⟨od,es,i,e2,c⟩,r⟩:=x
  exact ⟨j _ d,z,ne,k _ _ (.inl rfl) e,mA,⟨od,es,i,k _ _ (.inr d) e2,c⟩,r⟩
 | own y=>obtain ⟨g,e⟩:=x;exact ⟨g,k _ _ (.inl rfl) e⟩
 | xd fs=>obtain ⟨mA,⟨od,es,i,e,c⟩,r⟩:=x;exact ⟨mA,⟨od,es,i,k _ _ (.inl rfl) e,c⟩,r⟩
 | rng lo hi=>obtain ⟨t,u,v,e⟩:=x;exact ⟨t,u,v,k _ _ (.inl rfl) e⟩
 | frz g u ih=>obtain ⟨e,q⟩:=x;exact ⟨k _ _ (.inl rfl) e,ih q⟩
 | tbl ps =>
  have e:h.get? a=some { cls:=.none,data:=.fields ps }:=x
  show h'.get? a=some { cls:=.none,data:=.fields ps }
  exact k a _ (.inl rfl) e
 | met f y =>
  have e:h.get? a=some (PySem.W.methodObj (.ref f) (.ref y)):=x
  show h'.get? a=some (PySem.W.methodObj (.ref f) (.ref y))
  exact k a _ (.inl rfl) e
 | ext φ=>obtain ⟨p,⟨o,e⟩,st⟩:=x;exact ⟨st _ _ p fun o q=>k _ _ (.inl rfl) q,⟨o,k _ _ (.inl rfl) e⟩,st⟩
theorem HOk.lt (x:HOk P w H h) (e:H a=some o):a < h.objs.size:=(x a o e).lt
theorem HOk.fresh (x:HOk P w H h) (e:h.objs.size<=a):H a=none:=by
 cases q:H a with
 | none=>rfl
 | some u=>exact absurd (aC4 (x.lt q) e) (aF6 _)
theorem HOk.kept (x:HOk P w H h) (k:∀ b u,h.get? b=some u->h'.get? b=some u):HOk P w H h':=fun a o e =>
 (x a o e).stay (fun b u _ q=>k b u q) (fun _ q=>q) fun _ _ q=>q
theorem HOk.laid (x:HOk P w H h) (k:∀ b u,h.get? b=some u->h'.get? b=some u) (d:h.objs.size<=a) (new:ObjOk P w (upd H a o) h' a o):HOk P w (upd H a o) h':=fun b u e=>by
 have hn:=x.fresh d
 by_cases hb:b=a
 ·subst hb;rw [aah] at e;cases e;exact new
 ·rw [aae hb] at e
  exact (x b u e).stay (fun c v _ q=>k c v q) (fun c q=>by rw [aae (aan q hn)];exact q) fun c xs q=>by rw [aae (aan q hn)];exact q
end
def Rd (H:Hp) (a:Addr) (u:HO):Prop:=H a=some u\/∃ o,H a=some (.frz o u)
theorem Rd.ok {P:Program} {w:World} {H:Hp} {h:Heap} {a:Addr} {u:HO} (r:Rd H a u) (x:HOk P w H h):ObjOk P w H h a u:=by
 rcases r with r | ⟨o,r⟩
 ·exact x a u r
 ·obtain ⟨_,q⟩:=x a _ r
  exact q
def Mut:Option HO->Prop
 | some (.lst _)=>True
 | some (.dK _)=>True
 | some (.dT _)=>True
 | some (.set _ _)=>True
 | some (.ins _ _ _)=>True
 | some (.ext _)=>True
 | _=>False
section
variable {P:Program} {w:World} {H:Hp} {h h':Heap} {x e:Addr} {o':HO}
theorem HOk.write (ok:HOk P w H h) (g:Mut (H x)) (l:e=x\/H e=some (.own x)) (k:∀ b u,b ≠ e->h.get? b=some u->h'.get? b=some u) (i:∃ u,h'.get? e=some u)
  (new:ObjOk P w (upd H x o') h' x o'):HOk P w (upd H x o') h':=fun b u q=>by
 have a:∀ c y,H c=some (.own y)->c ≠ x:=fun c y r z=>by subst z;rw [r] at g;exact g
 have d:∀ c xs,H c=some (.tup xs)->c ≠ x:=fun c xs r z=>by subst z;rw [r] at g;exact g
 by_cases hb:b=x
 ·subst hb;rw [aah] at q;cases q;exact new
 ·rw [aae hb] at q
  by_cases hbe:b=e
  ·have j:H b=some (.own x):=by
    rcases l with z | z
    ·exact absurd (hbe.trans z) hb
    ·rw [hbe];exact z
   rw [q] at j;cases j
   obtain ⟨v,m⟩:=i
   exact ⟨v,by rw [hbe];exact m⟩
  ·refine (ok b u q).stay (fun c v f r=>k c v ?_ r) (fun c r=>by rw [aae (a c b r)];exact r) fun c xs r=>by rw [aae (d c xs r)];exact r
   rcases f with rfl | f
   ·exact hbe
   ·rintro rfl
    rcases l with z | z
    ·exact a c b f z
    ·rw [f] at z;cases z;exact hb rfl
end
structure Un (fs ex:List Addr) (H H':Hp) (h h':Heap):Prop where
 keep:∀ b o,h.get? b=some o->H b=none->b ∉ fs->b ∉ ex->h'.get? b=some o
 slot:∀ b o,h.get? b=some o->H b=none->b∈fs->b ∉ ex->∃ sl,h'.get? b=some { o with slots:=sl }
 free:∀ b o,h.get? b=some o->H b=none->b ∉ ex->H' b=none
 there:∀ b o,h.get? b=some o->b ∉ ex->∃ o',h'.get? b=some o'
 tups:∀ b xs,H b=some (.tup xs)->H' b=some (.tup xs)
 frzs:∀ b o u,H b=some (.frz o u)->H' b=some (.frz o u)
 tbls:∀ b ps,H b=some (.tbl ps)->∃ more,H' b=some (.tbl (ps ++ more))
section
variable {fs fs' ex ex':List Addr} {H H1 H2:Hp} {h h1 h2 h':Heap} {a x e:Addr} {o:HO}
theorem Un.any (u:Un fs ex H H1 h h1) {b:Addr} {a:Obj} (q:h.get? b=some a) (n:H b=none) (c:b ∉ ex):∃ sl,h1.get? b=some { a with slots:=sl }:=by
 by_cases hb:b∈fs
 ·exact u.slot b a q n hb c
 ·exact ⟨a.slots,u.keep b a q n hb c⟩
theorem Un.kept (k:∀ b u,h.get? b=some u->h'.get? b=some u):Un fs ex H H h h' :=
 ⟨fun b a q _ _ _=>k b a q,fun b a q _ _ _=>⟨a.slots,k b a q⟩,fun _ _ _ n _=>n,fun b a q _=>⟨a,k b a q⟩,fun _ _ q=>q,fun _ _ _ q=>q,fun _ ps q=>⟨#[],by rw [q];simp⟩⟩
theorem Un.refl:Un fs ex H H h h:=Un.kept fun _ _ q=>q
theorem Un.laid (k:∀ b u,h.get? b=some u->h'.get? b=some u) (c:h.objs.size<=a) (hn:H a=none):Un fs ex H (upd H a o) h h' where
 keep:=fun b u q _ _ _=>k b u q
 slot:=fun b u q _ _ _=>⟨u.slots,k b u q⟩
 free:=fun b u q n _=>by rw [aae (aB5 (aC4 (aI3 q) c))];exact n
 there:=fun b u q _=>⟨u,k b u q⟩
 tups:=fun b xs q=>by rw [aae (aan q hn)];exact q
 frzs:=fun b u xs q=>by rw [aae (aan q hn)];exact q
 tbls:=fun b ps q=>⟨#[],by rw [aae (aan q hn),q];simp⟩
theorem Un.write (a:Mut (H x)) (f:e=x\/H e=some (.own x)) (k:∀ b u,b ≠ e->h.get? b=some u->h'.get? b=some u) (c:∃ u,h'.get? e=some u):Un fs ex H (upd H x o) h h':=by
 have d:∀ b,H b=none->b ≠ x:=fun b n z=>by subst z;rw [n] at a;exact a
 have hb:∀ b,H b=none->b ≠ e:=fun b n z=>by
  subst z
  rcases f with r | r
  ·exact d b n r
  ·rw [n] at r;cases r
 have hm:∀ b u,H b=some u->¬ Mut (some u)->b ≠ x:=fun b u q g z=>by subst z;rw [q] at a;exact g a
 refine ⟨fun b u q n _ _=>k b u (hb b n) q,fun b u q n _ _=>⟨u.slots,k b u (hb b n) q⟩,fun b u q n _=>by rw [aae (d b n)];exact n,fun b u q _=>?_,
  fun b xs q=>by rw [aae (hm b _ q fun z=>z)];exact q,fun b u xs q=>by rw [aae (hm b _ q fun z=>z)];exact q,fun b ps q=>⟨#[],by rw [aae (hm b _ q fun z=>z),q];simp⟩⟩
 by_cases hbe:b=e
 ·subst hbe;exact c
 ·exact ⟨u,k b u hbe q⟩
end
def trk (h:Heap) (H:Hp):List Addr:=(List.range h.objs.size).filter fun a=>(H a).isSome
def hidT (h:Heap) (H:Hp):Heap:=PySem.W.hideAll h (trk h H)
theorem arn (h:Heap) (H:Hp):(hidT h H).objs.size=h.objs.size:=PySem.W.hideAll_size _ _
theorem at6 {h:Heap} {H:Hp} {b:Addr} {o:Obj} (e:h.get? b=some o) (n:H b=none):(hidT h H).get? b=some o :=
 PySem.W.hideAll_get _ e fun hm=>by
  have q:(H b).isSome=true:=(List.mem_filter.mp hm).2
  rw [n] at q;simp at q
theorem aws {h:Heap} {H:Hp} {b:Addr} {o:Obj} (e:(hidT h H).get? b=some o):h.get? b=some o/\H b=none:=by
 have a:h.get? b=some o:=PySem.W.of_hideAll (trk h H) e
 refine ⟨a,?_⟩
 cases q:H b with
 | none=>rfl
 | some x =>
  have hm:b∈trk h H:=List.mem_filter.mpr ⟨aB8.mpr (aI3 a),by simp [q]⟩
  have z:(hidT h H).get? b=none:=PySem.W.hideAll_none (trk h H) hm
  rw [z] at e;cases e
def awt (g h:Heap) (L:Addr):List (Addr × Obj):=(List.range h.objs.size).filterMap fun a=>if a=L\/(g.get? a).isSome=true then none else (h.get? a).map fun o=>(a,o)
def rest (g h:Heap) (L d:Addr):List (Addr × Obj):=(awt g h L).filter fun p=>decide (p.1 ≠ d)
structure Mod (K:Frag) (mg:Str->Option Value) (base:Heap):Prop where
 kin:K.In base
 glob:base.Ns mainGlobals mg
 blt:∃ mb,base.Ns builtinsNs mb/\∀ x:Str,x ≠ "__name__"->mb x=bootBuiltins x
 nolimit:base.NoLimit
/-- the context: a def's body (or a comprehension's block) running. base: fixed through the whole law; s₀, H₀: the entry; outer: the frames whose slots others may change (a def's callers); stack: all frames that run;
  ex: iterators that were made ahead of the entry and are walked here (a comprehension's);fn: the names whose cells were made at the entry (a def: all;a comprehension's block: its own);calm: not within an except suite;pn: pins that every state bears;xe: what is wanted of an exception that leaves the code -/
structure Cx where
 prog:Program
 w:World
 K:Frag
 mg:Str->Option Value
 base:Heap
 A:Around
 N:List Str
 s₀:Shared
 H₀:Hp
 env:Env
 outer:List Env
 stack:List Env
 ex:List Addr
 fn:Str->Bool
 calm:Bool
 pn:List (Addr × Obj)
 xe:Value->Shared->Prop
def frs (l:List Env):List Addr:=l.filterMap (·.frame)
abbrev Cx.fs (X:Cx):List Addr:=frs X.outer
def Vis (sc:Scope) (x:Str):Prop:=sc.names.lookup x=some .local\/sc.names.lookup x=some .cell\/sc.names.lookup x=some .free
def Loc (sc:Scope) (x:Str):Prop:=sc.names.lookup x=some .local\/sc.names.lookup x=some .cell
def Look (env:Env) (h:Heap) (m:Str->Option Value) (x:Str) (u:Value):Prop :=
 (env.kindOf x=some .local/\m x=some u)\/((env.kindOf x=some .cell\/env.kindOf x=some .free)/\∃ c,env.cells.lookup x=some c/\h.IsCell c (some u))
structure Cx.Ok (X:Cx):Prop where
 mod:Mod X.K X.mg X.base
 kind:X.env.scope.kind=.function
 glob:X.env.globals=mainGlobals
 blt:X.env.builtins=builtinsNs
 above:X.s₀.heap.objs.size<=X.env.locals
 inj:∀ x y c,X.env.cells.lookup x=some c->X.env.cells.lookup y=some c->x=y
 has:∀ x,(X.env.kindOf x=some .cell\/X.env.kindOf x=some .free)->∃ c,X.env.cells.lookup x=some c
 cab:∀ x c,X.fn x=true->X.env.cells.lookup x=some c->X.s₀.heap.objs.size<=c
 hd:X.calm=true->X.A.handled=none
 frames:X.A.frames=some X.stack
 stk:X.stack=X.outer\/(X.stack=X.env :: X.outer/\X.env.frame=some X.env.locals)
 exf:∀ b∈X.ex,b ≠ X.env.locals/\∀ x c,X.env.cells.lookup x=some c->c ≠ b
 bs:∀ b o,X.base.get? b=some o->X.s₀.heap.get? b=some o/\X.H₀ b=none
 bsz:X.base.objs.size<=X.s₀.heap.objs.size
 noex:∀ b o,X.base.get? b=some o->b ∉ X.ex
 exfs:∀ b∈X.ex,b ∉ X.fs
 funs:X.s₀.heap.FunFrames X.base X.outer
 frf:∀ b∈X.fs,X.H₀ b=none
structure Inv (X:Cx) (pins:List (Addr × Obj)) (σ:List (Option V)) (H:Hp) (s:Shared):Prop where
 ok:X.Ok
 os:s.os=X.s₀.os
 bare:AllBare s.gens
 base:Un X.fs X.ex X.H₀ H X.s₀.heap s.heap
 loc:∃ m,s.heap.Ns X.env.locals m/\∀ (i:Nat) (x:Str) (v:V),X.N[i]?=some x->σ[i]?=some (some v)->Vis X.env.scope x->∃ u,RelV v u/\Look X.env s.heap m x u
 cell:∀ x c,X.env.cells.lookup x=some c->∃ v,s.heap.IsCell c v
 free:H X.env.locals=none
 freeC:∀ x c,X.env.cells.lookup x=some c->H c=none
 pin:∀ p∈X.pn ++ pins,s.heap.get? p.1=some p.2/\H p.1=none/\p.1 ≠ X.env.locals/\p.1 ∉ X.fs/\∀ v,p.2.data ≠ .cell v
 hok:HOk X.prog X.w H s.heap
 len : σ.length=X.N.length
section
variable {X:Cx} {pins:List (Addr × Obj)} {σ:List (Option V)} {H H':Hp} {s:Shared} {h':Heap}
theorem Cx.Ok.nofr (ok:X.Ok) {b:Addr} {o:Obj} (e:X.base.get? b=some o):b ∉ X.fs:=fun hb=>by
 have:=(ok.funs.mem hb).1
 rw [e] at this;cases this
theorem Inv.bs (I:Inv X pins σ H s):∀ b o,X.base.get? b=some o->s.heap.get? b=some o/\H b=none:=fun b o e =>
 ⟨I.base.keep b o (I.ok.bs b o e).1 (I.ok.bs b o e).2 (I.ok.nofr e) (I.ok.noex b o e),I.base.free b o (I.ok.bs b o e).1 (I.ok.bs b o e).2 (I.ok.noex b o e)⟩
theorem Inv.bk (I:Inv X pins σ H s):∀ b o,X.base.get? b=some o->s.heap.get? b=some o:=fun b o e=>(I.bs b o e).1
theorem Inv.mod (I:Inv X pins σ H s):Mod X.K X.mg X.base:=I.ok.mod
theorem Inv.kIn (I:Inv X pins σ H s):X.K.In s.heap:=I.ok.mod.kin.keeps I.bk
theorem Inv.lt (I:Inv X pins σ H s):X.env.locals < s.heap.objs.size:=let ⟨_,hn,_⟩:=I.loc;hn.lt
theorem Inv.sz (I:Inv X pins σ H s):X.s₀.heap.objs.size<=s.heap.objs.size:=aC9 I.ok.above (aF7 I.lt)
theorem Inv.nofs (I:Inv X pins σ H s) {a:Addr} (h:s.heap.objs.size<=a):a ∉ X.fs:=fun hb=>by
 obtain ⟨_,o,b,_⟩:=I.ok.funs.mem hb
 exact absurd (aC4 (aI3 b) (aC9 I.sz h)) (aF6 _)
theorem Inv.cne (I:Inv X pins σ H s):∀ x c,X.env.cells.lookup x=some c->c ≠ X.env.locals:=fun x c e z=>by
 obtain ⟨v,o,d,hd⟩:=I.cell x c e
 obtain ⟨m,⟨o',es,f,a,b,_⟩,_⟩:=I.loc
 rw [z,a] at d;cases d;rw [b] at hd;cases hd
theorem Inv.funs (I:Inv X pins σ H s):s.heap.FunFrames X.base X.outer:=by
 have all:∀ (l:List Env),(∀ b∈frs l,b∈X.fs)->X.s₀.heap.FunFrames X.base l->s.heap.FunFrames X.base l:=by
  intro l
  induction l with
  | nil=>intro _ _;trivial
  | cons env r ih =>
   intro c f
   obtain ⟨d,⟨L,o,hf,hn,g,hd⟩,h⟩:=f
   have a:L∈X.fs:=c L (by unfold frs;rw [List.filterMap_cons,hf];exact aB7)
   obtain ⟨sl,e⟩:=I.base.slot L o g (I.ok.frf L a) a fun z=>I.ok.exfs L z a
   exact ⟨d,⟨L,_,hf,hn,e,hd⟩,ih (fun b hb=>c b (by unfold frs;rw [List.filterMap_cons,hf];exact aB4 _ hb)) h⟩
 exact all X.outer (fun _ hb=>hb) I.ok.funs
theorem Inv.stack (I:Inv X pins σ H s):s.heap.FunFrames X.base X.stack:=by
 rcases I.ok.stk with e | ⟨e,hf⟩
 ·rw [e];exact I.funs
 ·rw [e]
  obtain ⟨m,hn,_⟩:=I.loc
  refine .cons (by rw [I.ok.kind];decide) hf hn ?_ I.funs
  exact Heap.get?_none_of_le (aC9 I.ok.bsz I.ok.above)
theorem Inv.stkSub (I:Inv X pins σ H s):∀ b∈frs X.stack,b∈X.env.locals :: X.fs:=fun b hb=>by
 rcases I.ok.stk with e | ⟨e,hf⟩
 ·rw [e] at hb;exact aB4 _ hb
 ·rw [e] at hb
  unfold frs at hb
  rw [List.filterMap_cons,hf] at hb
  exact hb
theorem Inv.stkFree (I:Inv X pins σ H s):∀ b∈frs X.stack,H b=none:=fun b hb=>by
 rcases aA8.mp (I.stkSub b hb) with e | hb
 ·rw [e];exact I.free
 ·obtain ⟨_,o,a,_⟩:=I.ok.funs.mem hb
  exact I.base.free b o a (I.ok.frf b hb) fun z=>I.ok.exfs b z hb
theorem Inv.step {g':Array GenState} {t':Nat} {d':Drawn} {ch:List Addr} (I:Inv X pins σ H s)
  (h:∀ b∈ch,(b∈X.ex\/X.s₀.heap.objs.size<=b)/\b ≠ X.env.locals/\(∀ x c,X.env.cells.lookup x=some c->c ≠ b)/\∀ p∈X.pn ++ pins,p.1 ≠ b)
  (keep:∀ b o,b ≠ X.env.locals->b ∉ X.fs->b ∉ ch->s.heap.get? b=some o->H b=none->h'.get? b=some o)
  (slot:∀ b o,b ≠ X.env.locals->b∈X.fs->b ∉ ch->s.heap.get? b=some o->H b=none->∃ sl,h'.get? b=some { o with slots:=sl }) (free:∀ b o,b ∉ ch->s.heap.get? b=some o->H b=none->H' b=none)
  (there:∀ b o,b ∉ ch->s.heap.get? b=some o->∃ o',h'.get? b=some o')
  (tups:∀ b xs,H b=some (.tup xs)->H' b=some (.tup xs)) (frzs:∀ b o u,H b=some (.frz o u)->H' b=some (.frz o u)) (tbls:∀ b ps,H b=some (.tbl ps)->∃ more,H' b=some (.tbl (ps ++ more)))
  (ns:∀ m,s.heap.Ns X.env.locals m->h'.Ns X.env.locals m) (hok:HOk X.prog X.w H' h') (L:AllBare g') :
  Inv X pins σ H' { s with heap:=h',gens:=g',drawn:=d',toks:=t' }:=by
 have B:∀ b o,X.s₀.heap.get? b=some o->b ≠ X.env.locals:=fun b o e=>aB5 (aC4 (aI3 e) I.ok.above)
 have j:∀ b o,X.s₀.heap.get? b=some o->b ∉ X.ex->b ∉ ch:=fun b o e a hb=>by
  rcases (h b hb).1 with z | z
  ·exact a z
  ·exact absurd (aC4 (aI3 e) z) (aF6 _)
 have g:∀ x c,X.env.cells.lookup x=some c->∀ v,s.heap.IsCell c v->h'.IsCell c v:=fun x c e v G=>by
  obtain ⟨o,A,hd⟩:=G
  have f:c ∉ ch:=fun z=>(h c z).2.2.1 x c e rfl
  by_cases hc:c∈X.fs
  ·obtain ⟨sl,q⟩:=slot c o (I.cne x c e) hc f A (I.freeC x c e)
   exact ⟨_,q,hd⟩
  ·exact ⟨o,keep c o (I.cne x c e) hc f A (I.freeC x c e),hd⟩
 refine ⟨I.ok,I.os,L,⟨fun b o e n hb a=>?_,fun b o e n hb a=>?_,fun b o e n a=>?_,fun b o e a=>?_,fun b xs e=>tups b xs (I.base.tups b xs e),fun b o xs e=>frzs b o xs (I.base.frzs b o xs e),fun b ps e=>?_⟩,?_,fun x c e=>?_,?_,fun x c e=>?_,fun p D=>?_,hok,I.len⟩
 ·exact keep b o (B b o e) hb (j b o e a) (I.base.keep b o e n hb a) (I.base.free b o e n a)
 ·obtain ⟨sl,y⟩:=I.base.slot b o e n hb a
  obtain ⟨C,e2⟩:=slot b _ (B b o e) hb (j b o e a) y (I.base.free b o e n a)
  exact ⟨C,e2⟩
 ·obtain ⟨o',y⟩:=I.base.there b o e a
  exact free b o' (j b o e a) y (I.base.free b o e n a)
 ·obtain ⟨o',y⟩:=I.base.there b o e a
  exact there b o' (j b o e a) y
 ·obtain ⟨M,y⟩:=I.base.tbls b ps e
  obtain ⟨F,e2⟩:=tbls b _ y
  exact ⟨M ++ F,by rw [e2,Array.append_assoc]⟩
 ·obtain ⟨m,hn,J⟩:=I.loc
  refine ⟨m,ns m hn,fun i x v y e2 K=>?_⟩
  obtain ⟨u,r,l⟩:=J i x v y e2 K
  refine ⟨u,r,?_⟩
  rcases l with l | ⟨k,c,e,z⟩
  ·exact .inl l
  ·exact .inr ⟨k,c,e,g x c e _ z⟩
 ·obtain ⟨v,z⟩:=I.cell x c e
  exact ⟨v,g x c e v z⟩
 ·obtain ⟨m,⟨o,_,_,A,_⟩,_⟩:=I.loc
  exact free _ o (fun z=>(h _ z).2.1 rfl) A I.free
 ·obtain ⟨v,o,A,hd⟩:=I.cell x c e
  exact free c o (fun z=>(h c z).2.2.1 x c e rfl) A (I.freeC x c e)
 ·obtain ⟨e,n,ne,E,d⟩:=I.pin p D
  have f:p.1 ∉ ch:=fun z=>(h p.1 z).2.2.2 p D rfl
  exact ⟨keep p.1 p.2 ne E f e n,free p.1 p.2 f e n,ne,E,d⟩
theorem Inv.un {t':Nat} (I:Inv X pins σ H s) (u:Un X.fs [] H H' s.heap h') (hok:HOk X.prog X.w H' h'):Inv X pins σ H' { s with heap:=h',toks:=t' }:=by
 obtain ⟨m,⟨o,es,i,f,r⟩,_⟩:=id I.loc
 obtain ⟨sl,g⟩:=u.any f I.free (by simp)
 exact I.step (g':=s.gens) (d':=s.drawn) (ch:=[]) (fun _ z=>nomatch z) (fun b o _ hb _ e n=>u.keep b o e n hb (by simp)) (fun b o _ hb _ e n=>u.slot b o e n hb (by simp)) (fun b o _ e n=>u.free b o e n (by simp)) (fun b o _ e=>u.there b o e (by simp)) u.tups u.frzs u.tbls (fun j hm=>by
  obtain ⟨o',c,d,a,h⟩:=hm
  rw [f] at a;cases a
  exact ⟨_,c,d,g,h⟩) hok I.bare
theorem Inv.call {g':Array GenState} {t':Nat} {d':Drawn} {ch:List Addr} (I:Inv X pins σ H s) (u:Un (frs X.stack) ch H H' s.heap h') (hok:HOk X.prog X.w H' h') (q:AllBare g')
  (f:∀ b∈ch,(b∈X.ex\/X.s₀.heap.objs.size<=b)/\b ≠ X.env.locals/\(∀ x c,X.env.cells.lookup x=some c->c ≠ b)/\∀ p∈X.pn ++ pins,p.1 ≠ b) :
  Inv X pins σ H' { s with heap:=h',gens:=g',drawn:=d',toks:=t' }:=by
 obtain ⟨m,⟨o,es,v,j,r⟩,_⟩:=id I.loc
 obtain ⟨sl,h⟩:=u.any j I.free fun z=>(f _ z).2.1 rfl
 exact I.step (ch:=ch) f (fun b o h hb a e n=>u.keep b o e n (fun z=>(aA8.mp (I.stkSub b z)).elim h hb) a) (fun b o _ _ a e n=>u.any e n a) (fun b o a e n=>u.free b o e n a) (fun b o a e=>u.there b o e a) u.tups u.frzs u.tbls (fun y hm=>by
  obtain ⟨o',g,i,d,l⟩:=hm
  rw [j] at d;cases d
  exact ⟨_,g,i,h,l⟩) hok q
theorem Inv.turned {t':Nat} {it:Addr} (I:Inv X pins σ H s) (k:∀ b o,b ≠ it->s.heap.get? b=some o->h'.get? b=some o) (hn:H it=none) (f:it ≠ X.env.locals)
  (h:it∈X.ex\/X.s₀.heap.objs.size<=it) (g:∀ x c,X.env.cells.lookup x=some c->c ≠ it) (i:∀ p∈X.pn ++ pins,p.1 ≠ it):Inv X pins σ H { s with heap:=h',toks:=t' }:=by
 have d:∀ b u,H b=some u->b ≠ it:=fun b u e z=>by rw [z,hn] at e;cases e
 refine I.step (g':=s.gens) (d':=s.drawn) (ch:=[it]) (fun b hb=>?_) (fun b o _ _ a e _=>k b o (fun z=>a (by simp [z])) e) (fun b o _ _ a e _=>⟨o.slots,k b o (fun z=>a (by simp [z])) e⟩) (fun _ _ _ _ n=>n)
  (fun b o a e=>⟨o,k b o (fun z=>a (by simp [z])) e⟩) (fun _ _ e=>e) (fun _ _ _ e=>e) (fun b ps e=>⟨#[],by rw [e];simp⟩) (fun m hm=>?_) (fun b u e=>?_) I.bare
 ·have e:b=it:=by simpa using hb
  subst e
  exact ⟨h,f,g,i⟩
 ·obtain ⟨o,es,j,l,r⟩:=hm
  exact ⟨o,es,j,k _ o (Ne.symm f) l,r⟩
 ·refine (I.hok b u e).stay (fun c v a q=>k c v ?_ q) (fun _ q=>q) fun _ _ q=>q
  rcases a with z | z
  ·rw [z];exact d b u e
  ·exact d c _ z
theorem Inv.tok (I:Inv X pins σ H s) (t:Nat):Inv X pins σ H { s with toks:=t }:=I.un (h':=s.heap) (t':=t) Un.refl I.hok
theorem Inv.kept {t':Nat} (I:Inv X pins σ H s) (k:∀ b u,s.heap.get? b=some u->h'.get? b=some u):Inv X pins σ H { s with heap:=h',toks:=t' }:=I.un (Un.kept k) (I.hok.kept k)
theorem Inv.laid {a:Addr} {o:HO} {t':Nat} (I:Inv X pins σ H s) (k:∀ b u,s.heap.get? b=some u->h'.get? b=some u) (c:s.heap.objs.size<=a) (new:ObjOk X.prog X.w (upd H a o) h' a o) :
  Inv X pins σ (upd H a o) { s with heap:=h',toks:=t' }:=I.un (Un.laid k c (I.hok.fresh c)) (I.hok.laid k c new)
theorem Inv.write {x e:Addr} {o:HO} {t':Nat} (I:Inv X pins σ H s) (d:Mut (H x)) (c:e=x\/H e=some (.own x)) (k:∀ b u,b ≠ e->s.heap.get? b=some u->h'.get? b=some u) (a:∃ u,h'.get? e=some u)
  (new:ObjOk X.prog X.w (upd H x o) h' x o):Inv X pins σ (upd H x o) { s with heap:=h',toks:=t' }:=I.un (Un.write d c k a) (I.hok.write d c k a new)
theorem Inv.pins_of {a:List (Addr × Obj)} (I:Inv X pins σ H s) (h:∀ p∈a,s.heap.get? p.1=some p.2/\H p.1=none/\p.1 ≠ X.env.locals/\p.1 ∉ X.fs/\∀ v,p.2.data ≠ .cell v):Inv X a σ H s :=
 ⟨I.ok,I.os,I.bare,I.base,I.loc,I.cell,I.free,I.freeC,fun p b=>(aA7.mp b).elim (fun z=>I.pin p (aC6 _ z)) (h p),I.hok,I.len⟩
theorem nodup_ix {N:List Str} (d:N.Nodup) {i j:Nat} {x:Str} (a:N[i]?=some x) (b:N[j]?=some x):i=j:=by
 obtain ⟨g,c⟩:=aA1.mp a
 obtain ⟨f,e2⟩:=aA1.mp b
 exact (List.getElem_inj d).mp (c.trans e2.symm)
theorem aku {M:Model} {A:Around} {E:Value->Shared->Prop} {i:Nat} {x:Str} {v:V} {u:Value} {Q:Unit->Shared->Prop} (I:Inv X pins σ H s) (hN:X.N.Nodup) (hi:X.N[i]?=some x) (C:Loc X.env.scope x) (r:RelV v u)
  (h:∀ s',Inv X pins (σ.set i (some v)) H s'->(∃ a,Heap.SameBut a s.heap s'.heap/\(a=X.env.locals\/X.env.cells.lookup x=some a))->Q () s') (hf:X.fn x=true\/X.env.scope.names.lookup x=some .local:=by first | exact .inl rfl | exact .inr rfl | assumption):wpAny M A (storeName X.env x u) Q E s:=by
 obtain ⟨m,hn,hl⟩:=id I.loc
 have K:(X.env.scope.kind == .class || (X.env.scope.kind == .module && X.env.locals != X.env.globals))=false:=by rw [I.ok.kind];rfl
 have F:i < σ.length:=by rw [I.len];exact (aA1.mp hi).1
 have cne:=I.cne
 have l:∀ {a:Addr} {h':Heap},(∃ o,s.heap.get? a=some o/\H a=none)->Heap.SameBut a s.heap h'->HOk X.prog X.w H h':=fun {a h'} ha f b ob e=>by
  obtain ⟨_,_,D⟩:=ha
  refine (I.hok b ob e).stay (fun c S B q=>(f.2 c ?_).trans q) (fun _ q=>q) fun _ _ q=>q
  rintro rfl
  rcases B with rfl | B
  ·rw [D] at e;cases e
  ·rw [D] at B;cases B
 rcases C with G | G
 ·refine wpAny_storeName_local G hn (fun h' a0 f=>?_) K
  obtain ⟨oL,_,_,T,_⟩:=id hn
  refine h _ ⟨I.ok,I.os,I.bare,⟨fun b o e n hb C=>?_,fun b o e n hb C=>?_,I.base.free,fun b o e C=>?_,I.base.tups,I.base.frzs,I.base.tbls⟩,⟨_,a0,fun j y Y g e2 W=>?_⟩,fun y c e=>?_,I.free,I.freeC,fun p hp=>?_,l ⟨oL,T,I.free⟩ f,by simpa using I.len⟩ ⟨_,f,.inl rfl⟩
  ·exact (f.2 b (aB5 (aC4 (aI3 e) I.ok.above))).trans (I.base.keep b o e n hb C)
  ·obtain ⟨sl,g⟩:=I.base.slot b o e n hb C
   exact ⟨sl,(f.2 b (aB5 (aC4 (aI3 e) I.ok.above))).trans g⟩
  ·obtain ⟨o',g⟩:=I.base.there b o e C
   exact ⟨o',(f.2 b (aB5 (aC4 (aI3 e) I.ok.above))).trans g⟩
  ·by_cases hj:j=i
   ·subst hj
    rw [hi] at g;cases g
    rw [List.getElem?_set_self F] at e2
    cases e2
    exact ⟨u,r,.inl ⟨G,by simp⟩⟩
   ·rw [List.getElem?_set_ne (Ne.symm hj)] at e2
    obtain ⟨U,r',q⟩:=hl j y Y g e2 W
    refine ⟨U,r',?_⟩
    rcases q with ⟨k,e⟩ | ⟨k,c,e,z⟩
    ·refine .inl ⟨k,?_⟩
     have:y ≠ x:=fun e=>hj (nodup_ix hN g (e ▸ hi))
     simp [this,e]
    ·exact .inr ⟨k,c,e,z.sameBut f (cne y c e)⟩
  ·obtain ⟨S,z⟩:=I.cell y c e
   exact ⟨S,z.sameBut f (cne y c e)⟩
  ·obtain ⟨e,n,ne,Z,d⟩:=I.pin p hp
   exact ⟨(f.2 p.1 ne).trans e,n,ne,Z,d⟩
 ·have J:X.fn x=true:=by
   rcases hf with z | z
   ·exact z
   ·rw [z] at G;cases G
  obtain ⟨c,B⟩:=I.ok.has x (.inl G)
  obtain ⟨S,z⟩:=I.cell x c B
  refine wpAny_storeName_cell I.ok.kind G B z (fun h' L f=>?_)
  obtain ⟨oc,P,O⟩:=id z
  refine h { s with heap:=h' } ⟨I.ok,I.os,I.bare,⟨fun b o e n hb C=>?_,fun b o e n hb C=>?_,I.base.free,fun b o e C=>?_,I.base.tups,I.base.frzs,I.base.tbls⟩,⟨m,hn.sameBut f (Ne.symm (cne x c B)),fun j y Y g e2 W=>?_⟩,fun y R e=>?_,I.free,I.freeC,fun p hp=>?_,l ⟨oc,P,I.freeC x c B⟩ f,by simpa using I.len⟩ ⟨c,f,.inr B⟩
  ·exact (f.2 b (aB5 (aC4 (aI3 e) (I.ok.cab x c J B)))).trans (I.base.keep b o e n hb C)
  ·obtain ⟨sl,g⟩:=I.base.slot b o e n hb C
   exact ⟨sl,(f.2 b (aB5 (aC4 (aI3 e) (I.ok.cab x c J B)))).trans g⟩
  ·obtain ⟨o',g⟩:=I.base.there b o e C
   exact ⟨o',(f.2 b (aB5 (aC4 (aI3 e) (I.ok.cab x c J B)))).trans g⟩
  ·by_cases hj:j=i
   ·subst hj
    rw [hi] at g;cases g
    rw [List.getElem?_set_self F] at e2
    cases e2
    exact ⟨u,r,.inr ⟨.inl G,c,B,L⟩⟩
   ·rw [List.getElem?_set_ne (Ne.symm hj)] at e2
    obtain ⟨U,r',q⟩:=hl j y Y g e2 W
    refine ⟨U,r',?_⟩
    rcases q with q | ⟨k,R,e,z'⟩
    ·exact .inl q
    ·refine .inr ⟨k,R,e,z'.sameBut f ?_⟩
     rintro rfl
     exact hj (nodup_ix hN g (I.ok.inj _ _ _ e B ▸ hi))
  ·by_cases hcc:R=c
   ·subst hcc;exact ⟨_,L⟩
   ·obtain ⟨w2,z2⟩:=I.cell y R e
    exact ⟨w2,z2.sameBut f hcc⟩
  ·obtain ⟨e,n,ne,Z,d⟩:=I.pin p hp
   refine ⟨(f.2 p.1 ?_).trans e,n,ne,Z,d⟩
   intro q
   rw [q,P] at e
   have q':oc=p.2:=aC5 e
   exact d S (by rw [← q'];exact O)
theorem amd {M:Model} {A:Around} {E:Value->Shared->Prop} {i:Nat} {x:Str} {v:V} {u:Value} {Q:Unit->Shared->Prop} (I:Inv X pins σ H s) (d:X.N.Nodup) (hi:X.N[i]?=some x) (b:Loc X.env.scope x) (r:RelV v u)
  (h:∀ a,Inv X pins (σ.set i (some v)) H a->Q () a) (hf:X.fn x=true\/X.env.scope.names.lookup x=some .local:=by first | exact .inl rfl | exact .inr rfl | assumption):wpAny M A (storeName X.env x u) Q E s :=
 aku I d hi b r (fun a c _=>h a c) hf
theorem Inv.call' {a:Shared} {ch:List Addr} (I:Inv X pins σ H s) (g:a.os=s.os) (u:Un (frs X.stack) ch H H' s.heap a.heap) (hok:HOk X.prog X.w H' a.heap) (f:AllBare a.gens)
  (d:∀ b∈ch,(b∈X.ex\/X.s₀.heap.objs.size<=b)/\b ≠ X.env.locals/\(∀ x c,X.env.cells.lookup x=some c->c ≠ b)/\∀ p∈X.pn ++ pins,p.1 ≠ b):Inv X pins σ H' a:=by
 obtain ⟨h',g',d',t',o'⟩:=a
 have e:o'=s.os:=g
 subst e
 exact I.call (g':=g') (t':=t') (d':=d') u hok f d
end
abbrev XK:=Value->Option Addr->Hp->Prop
abbrev St:=List (Option V)
abbrev VK:=V->Hp->Prop
abbrev TE:=St->Hp->VK->Prop
abbrev TT:=St->Hp->(Bool->Hp->Prop)->Prop
abbrev TA:=St->Hp->(List V->Hp->Prop)->Prop
structure Ends where
 nx:St->Hp->Prop
 rt:VK
 bk:St->Hp->Prop:=fun _ _=>False
 ct:St->Hp->Prop:=fun _ _=>False
abbrev TS:=Ends->St->Hp->Prop
def EP (X:Cx) (pins:List (Addr × Obj)) (σ:St) (Q:VK) (u:Value) (s':Shared):Prop:=∃ v H',Inv X pins σ H' s'/\RelV v u/\Q v H'
def TP (X:Cx) (pins:List (Addr × Obj)) (σ:St) (Q:Bool->Hp->Prop) (b:Bool) (s':Shared):Prop:=∃ H',Inv X pins σ H' s'/\Q b H'
def AP (X:Cx) (pins:List (Addr × Obj)) (σ:St) (Q:List V->Hp->Prop) (us:List Value) (s':Shared):Prop:=∃ vs H',Inv X pins σ H' s'/\Vals vs us/\Q vs H'
def SP (X:Cx) (pins:List (Addr × Obj)) (D:Ends) (f:Flow) (s':Shared):Prop :=
 match f with
 | .next=>∃ σ' H',Inv X pins σ' H' s'/\D.nx σ' H'
 | .brk=>∃ σ' H',Inv X pins σ' H' s'/\D.bk σ' H'
 | .cont=>∃ σ' H',Inv X pins σ' H' s'/\D.ct σ' H'
 | .ret u=>∃ v σ' H',Inv X pins σ' H' s'/\RelV v u/\D.rt v H'
def PE (X:Cx) (e:Expr) (t:TE):Prop :=
 ∀ (pins:List (Addr × Obj)) (s:Shared) (σ:St) (H:Hp) (Q:VK),Inv X pins σ H s->t σ H Q->wpAny (model X.prog X.w) X.A (eval e X.env) (EP X pins σ Q) X.xe s
def PT (X:Cx) (e:Expr) (t:TT):Prop :=
 ∀ (pins:List (Addr × Obj)) (s:Shared) (σ:St) (H:Hp) (Q:Bool->Hp->Prop),Inv X pins σ H s->t σ H Q->wpAny (model X.prog X.w) X.A (isTrue e X.env (eval e X.env)) (TP X pins σ Q) X.xe s
def PW (X:Cx) (e:Expr) (t:TT):Prop :=
 ∀ (whole:Sem Value) (pins:List (Addr × Obj)) (s:Shared) (σ:St) (H:Hp) (Q:Bool->Hp->Prop),Inv X pins σ H s->t σ H Q->wpAny (model X.prog X.w) X.A (isTrue e X.env whole) (TP X pins σ Q) X.xe s
theorem PW.pt {X:Cx} {e:Expr} {t:TT} (h:PW X e t):PT X e t:=h _
def PA (X:Cx) (es:List Expr) (t:TA):Prop :=
 ∀ (pos:Pos) (pins:List (Addr × Obj)) (s:Shared) (σ:St) (H:Hp) (Q:List V->Hp->Prop),Inv X pins σ H s->t σ H Q->wpAny (model X.prog X.w) X.A (spliced (backTo pos (starEach es X.env))) (AP X pins σ Q) X.xe s
def PS (X:Cx) (st:Stmt) (t:TS):Prop :=
 ∀ (pins:List (Addr × Obj)) (s:Shared) (σ:St) (H:Hp) (D:Ends),Inv X pins σ H s->t D σ H->wpAny (model X.prog X.w) X.A (exec st X.env) (SP X pins D) X.xe s
def PSs (X:Cx) (st:List Stmt) (t:TS):Prop :=
 ∀ (pins:List (Addr × Obj)) (s:Shared) (σ:St) (H:Hp) (D:Ends),Inv X pins σ H s->t D σ H->wpAny (model X.prog X.w) X.A (execs st X.env) (SP X pins D) X.xe s
theorem thn {α:Type} {t:Sem α} {Q Q' : α->Shared->Prop} {M:Model} {A:Around} {E:Value->Shared->Prop} {s:Shared} (h:wpAny M A t Q E s) (b:∀ a s,Q a s->Q' a s):wpAny M A t Q' E s:=aI7 h b fun _ _ x=>x
section
variable {X:Cx}
def tVar (i:Nat):TE:=fun σ H Q=>∃ v,σ[i]?=some (some v)/\Q v H
def tC (v:V):TE:=fun _ H Q=>Q v H
theorem azb {i:Nat} {x:Str} {f:Pos} (n:X.N[i]?=some x) (o:Vis X.env.scope x) (hd:(x == ("__debug__" : Str))=false:=by decide) (d:(x == ("__classdict__" : Str))=false:=by decide):PE X (.Name x f) (tVar i):=by
 intro pins s σ H Q I h
 obtain ⟨v,e,h⟩:=h
 obtain ⟨m,hn,j⟩:=I.loc
 obtain ⟨u,r,l⟩:=j i x v n e o
 have fin:EP X pins σ Q u s:=⟨v,H,I,r,h⟩
 rcases l with ⟨b,hm⟩ | ⟨b,c,g,a⟩
 ·exact wpAny_Name (wpAny_loadName_local I.ok.kind b hn hm fin) hd
 ·rcases b with b | b
  ·exact wpAny_Name (wpAny_loadName_cell I.ok.kind b g a fin) hd
  ·exact wpAny_Name (wpAny_loadName_free I.ok.kind b g a fin d) hd
theorem aad {i j pos}:PE X (.Constant (.int i) j pos) (tC (.int i)):=fun _ _ _ H _ I h=>wpAny_Constant_int ⟨.int i,H,I.tok _,⟨_,rfl⟩,h⟩
theorem ab9 {b j pos}:PE X (.Constant (.bool b) j pos) (tC (.bl b)):=fun _ _ _ H _ I h=>Constant_bool ⟨.bl b,H,I,rfl,h⟩
theorem acv {j pos}:PE X (.Constant .none j pos) (tC .non):=fun _ _ _ H _ I h=>Constant_none ⟨.non,H,I,rfl,h⟩
def Gl (X:Cx) (x:Str):Prop:=X.env.kindOf x=some .globalImplicit
theorem ajz {E:Value->Shared->Prop} {pins:List (Addr × Obj)} {s:Shared} {σ:St} {H:Hp} {x:Str} {u:Value} {a:Pos} {Q:Value->Shared->Prop} (I:Inv X pins σ H s) (b:Gl X x) (hm:X.mg x=some u) (h:Q u s)
  (hd:(x == ("__debug__" : Str))=false:=by decide):wpAny (model X.prog X.w) X.A (eval (.Name x a) X.env) Q E s :=
 Calls.Name_function_global I.ok.kind b (Calls.loadGlobal_global (by rw [I.ok.glob];exact I.mod.glob.keeps I.bk) hm h) hd
theorem aeq {E:Value->Shared->Prop} {pins:List (Addr × Obj)} {s:Shared} {σ:St} {H:Hp} {x:Str} {u:Value} {a:Pos} {Q:Value->Shared->Prop} (I:Inv X pins σ H s) (f:Gl X x) (hm:X.mg x=none) (d:bootBuiltins x=some u) (h:Q u s)
  (hn:x ≠ "__name__":=by decide) (hd:(x == ("__debug__" : Str))=false:=by decide):wpAny (model X.prog X.w) X.A (eval (.Name x a) X.env) Q E s:=by
 obtain ⟨mb,c,b⟩:=I.mod.blt
 exact Calls.Name_function_global I.ok.kind f (Calls.loadGlobal_builtin (by rw [I.ok.glob];exact I.mod.glob.keeps I.bk) hm (by rw [I.ok.blt];exact c.keeps I.bk) ((b x hn).trans d) h) hd
theorem awu {x:Str} {v:V} {u:Value} {a:Pos} (b:Gl X x) (hm:X.mg x=some u) (r:RelV v u) (hd:(x == ("__debug__" : Str))=false:=by decide):PE X (.Name x a) (tC v) :=
 fun _ _ _ H _ I h=>ajz I b hm ⟨v,H,I,r,h⟩ hd
theorem ahq {x:Str} {v:V} {u:Value} {a:Pos} (c:Gl X x) (hm:X.mg x=none) (b:bootBuiltins x=some u) (r:RelV v u) (hn:x ≠ "__name__":=by decide) (hd:(x == ("__debug__" : Str))=false:=by decide):PE X (.Name x a) (tC v) :=
 fun _ _ _ H _ I h=>aeq I c hm b ⟨v,H,I,r,h⟩ hn hd
variable {a b:Expr} {ta tb:TE} {pos:Pos}
def PC (X:Cx) (op:CmpOp) (a b:Expr) (t:TE):Prop :=
 ∀ (pins:List (Addr × Obj)) (s:Shared) (σ:St) (H:Hp) (Q:VK),Inv X pins σ H s->t σ H Q ->
  wpAny (model X.prog X.w) X.A (eval a X.env) (fun v s₁=>wpAny (model X.prog X.w) X.A (eval b X.env) (fun u s₂=>wpAny (model X.prog X.w) X.A (compareOp op v u) (EP X pins σ Q) X.xe s₂) X.xe s₁) X.xe s
def tB (t:TE):TT:=fun σ H Q=>t σ H fun x H1=>∃ c,x=.bl c/\Q c H1
theorem aro {op:CmpOp} {t:TE} (h:PC X op a b t) (f:behindInMarks op b=false:=by first | exact nobehind _ (by decide) (by decide) | rfl):PT X (.Compare a [op] [b] pos) (tB t):=by
 intro pins s σ H Q I m
 refine wpAny_isTrue_Compare1 (thn (h pins s σ H _ I m) fun v s1 f=>thn f fun u s2 g=>thn g fun c o ⟨x,l,n,i,j⟩=>?_) f
 obtain ⟨d,rfl,q⟩:=j
 cases i
 exact aJ2 ⟨l,n,q⟩
theorem aca {e:Expr} {t:TE} (h:PE X e t) (f:∀ whole,isTrue e X.env whole=(do let v ← whole;standAt e.pos;holding [v] (truthy v)):=by intro _;rfl):PT X e (tB t):=by
 intro pins s σ H Q I g
 refine isTrue_plain (thn (h pins s σ H _ I g) fun v s1 ⟨x,c,i,a,b⟩=>?_) (f _)
 obtain ⟨d,rfl,q⟩:=b
 cases a
 exact aJ2 ⟨c,i,q⟩
variable {tA tB':TT} {rest:List Expr}
def tAnd (t u:TT):TT:=fun σ H Q=>t σ H fun c H1=>if c=true then u σ H1 Q else Q false H1
def tOr (t u:TT):TT:=fun σ H Q=>t σ H fun c H1=>if c=true then Q true H1 else u σ H1 Q
def tNot (t:TT):TT:=fun σ H Q=>t σ H fun c H1=>Q (!c) H1
theorem adn (ha:PT X a tA):PW X (.BoolOp .And [a] pos) tA:=by
 intro b pins s σ H Q I h
 refine isTrue_and (thn (ha pins s σ H Q I h) fun c s1 e=>?_)
 cases c with
 | true=>exact isTrue_and_nil e
 | false=>exact e
theorem agw (ha:PT X a tA):PW X (.BoolOp .Or [a] pos) tA:=by
 intro b pins s σ H Q I h
 refine isTrue_or (thn (ha pins s σ H Q I h) fun c s1 e=>?_)
 cases c with
 | false=>exact isTrue_or_nil e
 | true=>exact e
theorem ad6 (ha:PT X a tA) (hb:PW X (.BoolOp .And (b :: rest) pos) tB'):PW X (.BoolOp .And (a :: b :: rest) pos) (tAnd tA tB'):=by
 intro i pins s σ H Q I h
 refine isTrue_and (thn (ha pins s σ H _ I h) fun c s1 ⟨d,f,g⟩=>?_)
 cases c with
 | true=>exact hb i pins s1 σ d Q f g
 | false=>exact ⟨d,f,g⟩
theorem aiv (ha:PT X a tA) (hb:PW X (.BoolOp .Or (b :: rest) pos) tB'):PW X (.BoolOp .Or (a :: b :: rest) pos) (tOr tA tB'):=by
 intro i pins s σ H Q I h
 refine isTrue_or (thn (ha pins s σ H _ I h) fun c s1 ⟨d,f,g⟩=>?_)
 cases c with
 | true=>exact ⟨d,f,g⟩
 | false=>exact hb i pins s1 σ d Q f g
theorem acw (ha:PT X a tA):PT X (.UnaryOp .Not a pos) (tNot tA):=by
 intro pins s σ H Q I h
 exact isTrue_not (ha pins s σ H (fun c b=>Q (!c) b) I h)
def ap9 (ta tb:TE):TE:=fun σ H Q=>ta σ H fun x H1=>∃ c,x=.bl c/\if c=true then tb σ H1 Q else Q (.bl false) H1
def tOrV (ta tb:TE):TE:=fun σ H Q=>ta σ H fun x H1=>∃ c,x=.bl c/\if c=true then Q (.bl true) H1 else tb σ H1 Q
def aqa (ta:TE):TE:=fun σ H Q=>ta σ H fun x H1=>∃ c,x=.bl c/\Q (.bl (!c)) H1
theorem aer {op} {t:TE} (h:PE X a t):PE X (.BoolOp op [a] pos) t:=fun pins s σ H Q I b=>BoolOp_one (h pins s σ H Q I b)
theorem aes (ha:PE X a ta) (hb:PE X (.BoolOp .And (b :: rest) pos) tb):PE X (.BoolOp .And (a :: b :: rest) pos) (ap9 ta tb):=by
 intro pins s σ H Q I h
 refine BoolOp_and (thn (ha pins s σ H _ I h) fun v s1 ⟨x,f,g,i,d⟩=>?_)
 obtain ⟨c,rfl,d⟩:=d
 cases i
 refine aJ2 ?_
 cases c with
 | true=>exact hb pins s1 σ f Q g d
 | false=>exact ⟨.bl false,f,g,rfl,d⟩
theorem a1m (ha:PE X a ta) (hb:PE X (.BoolOp .Or (b :: rest) pos) tb):PE X (.BoolOp .Or (a :: b :: rest) pos) (tOrV ta tb):=by
 intro pins s σ H Q I h
 refine BoolOp_or (thn (ha pins s σ H _ I h) fun v s1 ⟨x,f,g,i,d⟩=>?_)
 obtain ⟨c,rfl,d⟩:=d
 cases i
 refine aJ2 ?_
 cases c with
 | false=>exact hb pins s1 σ f Q g d
 | true=>exact ⟨.bl true,f,g,rfl,d⟩
theorem azc (ha:PE X a ta):PE X (.UnaryOp .Not a pos) (aqa ta):=by
 intro pins s σ H Q I h
 refine UnaryOp_ (thn (ha pins s σ H _ I h) fun v s1 ⟨x,d,g,f,b⟩=>?_)
 obtain ⟨c,rfl,b⟩:=b
 cases f
 exact not_of (aJ2 ⟨.bl (!c),d,g,rfl,b⟩)
def tIf (t:TT) (ta tb:TE):TE:=fun σ H Q=>t σ H fun c H1=>if c=true then ta σ H1 Q else tb σ H1 Q
theorem ame {c:Expr} (j:PT X c tA) (ha:PE X a ta) (hb:PE X b tb):PE X (.IfExp c a b pos) (tIf tA ta tb):=by
 intro pins s σ H Q I h
 refine wpAny_IfExp (thn (j pins s σ H _ I h) fun d s1 ⟨f,g,i⟩=>?_)
 cases d with
 | true=>exact ha pins s1 σ f Q g i
 | false=>exact hb pins s1 σ f Q g i
end
def SqL (K:Frag) (H:Hp) (a:Addr) (xs:List V):Prop :=
 Rd H a (.lst xs) ∨
  ∃ (o:Obj) (its:Array Value) (n:Nat),K.lookup a=some o/\o.cls=.type "list"/\o.dict=none/\o.data=.seq its n/\its.size<=sizeLine/\Vals xs its.toList
def SqT (K:Frag) (H:Hp) (a:Addr) (xs:List V):Prop :=
 Rd H a (.tup xs) ∨
  ∃ (o:Obj) (its:Array Value) (n:Nat),K.lookup a=some o/\o.cls=.type "tuple"/\o.data=.seq its n/\its.size<=sizeLine/\Vals xs its.toList
def absV:Value->Option V
 | .none=>some .non
 | .bool b=>some (.bl b)
 | .int i _=>some (.int i)
 | .str x _=>some (.str x)
 | .bytes b _=>some (.byt b)
 | .float b _=>some (.flt b)
 | .ref a=>some (.ref a)
 | .type n=>some (.ty n)
 | _=>none
theorem RelV.abs {x:V} {u:Value} (r:RelV x u):absV u=some x:=by
 cases x with
 | non=>cases r;rfl
 | bl _=>cases r;rfl
 | int _=>obtain ⟨t,rfl⟩:=r;rfl
 | str _=>obtain ⟨t,rfl⟩:=r;rfl
 | byt _=>obtain ⟨t,rfl⟩:=r;rfl
 | flt _=>obtain ⟨t,rfl⟩:=r;rfl
 | ref _=>cases r;rfl
 | ty _=>cases r;rfl
theorem RelV.inj {x y:V} {u:Value} (r:RelV x u) (q:RelV y u):x=y:=aC5 (r.abs.symm.trans q.abs)
theorem Vals.inj:∀ {xs ys:List V} {us:List Value},Vals xs us->Vals ys us->xs=ys
 | _,_,_,.nil,.nil=>rfl
 | _,_,_,.cons r t,.cons r' t'=>by rw [r.inj r',Vals.inj t t']
section
variable {X:Cx} {pins:List (Addr × Obj)} {σ:St} {H:Hp} {s:Shared} {a:Addr} {xs ys:List V}
theorem SqL.of {K:Frag} (h:H a=some (.lst xs)):SqL K H a xs:=.inl (.inl h)
theorem SqT.of {K:Frag} (h:H a=some (.tup xs)):SqT K H a xs:=.inl (.inl h)
theorem Inv.list (I:Inv X pins σ H s) (h:SqL X.K H a xs):∃ its:List Value,Vals xs its/\PlainL s.heap a its.toArray/\xs.length<=sizeLine:=by
 rcases h with h | ⟨o,its,n,c,b,hd,d,hz,r⟩
 ·obtain ⟨z,its,n,r,e⟩:=h.ok I.hok
  exact ⟨its,r,⟨_,n,e,rfl,rfl,rfl⟩,z⟩
 ·refine ⟨its.toList,r,⟨o,n,I.kIn a o c,b,hd,by simpa using d⟩,?_⟩
  have e:=r.length
  simp only [Array.length_toList] at e
  lia
theorem Inv.tuple (I:Inv X pins σ H s) (h:SqT X.K H a xs):∃ its:List Value,Vals xs its/\IsTup s.heap a its.toArray/\xs.length<=sizeLine:=by
 rcases h with h | ⟨o,its,n,c,b,d,hz,r⟩
 ·obtain ⟨z,its,r,p⟩:=h.ok I.hok
  exact ⟨its,r,p,z⟩
 ·refine ⟨its.toList,r,⟨o,I.kIn a o c,b,n,by simpa using d⟩,?_⟩
  have e:=r.length
  simp only [Array.length_toList] at e
  lia
theorem Inv.list_inj (I:Inv X pins σ H s) (h:SqL X.K H a xs) (h':SqL X.K H a ys):xs=ys:=by
 obtain ⟨its,r,⟨o,n,e,_,_,d⟩,_⟩:=I.list h
 obtain ⟨its',f,⟨o',g,b,_,_,d'⟩,_⟩:=I.list h'
 rw [e] at b;cases b
 rw [d] at d'
 injection d' with c _
 have:its=its':=by simpa using congrArg Array.toList c
 subst this
 exact r.inj f
end
abbrev Cx.wish (X:Cx) (E:Value->Shared->Prop):Cx:={ X with xe:=E }
abbrev Cx.nox (X:Cx):Cx:=X.wish fun _ _=>False
theorem Cx.Ok.wish {X:Cx} (ok:X.Ok) (E:Value->Shared->Prop):(X.wish E).Ok :=
 ⟨ok.mod,ok.kind,ok.glob,ok.blt,ok.above,ok.inj,ok.has,ok.cab,ok.hd,ok.frames,ok.stk,ok.exf,ok.bs,ok.bsz,ok.noex,ok.exfs,ok.funs,ok.frf⟩
theorem Cx.Ok.unwish {X:Cx} {E:Value->Shared->Prop} (ok:(X.wish E).Ok):X.Ok :=
 ⟨ok.mod,ok.kind,ok.glob,ok.blt,ok.above,ok.inj,ok.has,ok.cab,ok.hd,ok.frames,ok.stk,ok.exf,ok.bs,ok.bsz,ok.noex,ok.exfs,ok.funs,ok.frf⟩
section
variable {X:Cx} {pins:List (Addr × Obj)} {σ:St} {H:Hp} {s:Shared} {E:Value->Shared->Prop}
theorem Inv.wish (I:Inv X pins σ H s) (E:Value->Shared->Prop):Inv (X.wish E) pins σ H s:=⟨I.ok.wish E,I.os,I.bare,I.base,I.loc,I.cell,I.free,I.freeC,I.pin,I.hok,I.len⟩
theorem Inv.unwish (I:Inv (X.wish E) pins σ H s):Inv X pins σ H s:=⟨I.ok.unwish,I.os,I.bare,I.base,I.loc,I.cell,I.free,I.freeC,I.pin,I.hok,I.len⟩
theorem SP.unwish {D:Ends} {f:Flow} {b:Shared} (h:SP (X.wish E) pins D f b):SP X pins D f b:=by
 cases f with
 | next=>obtain ⟨a,H',I,q⟩:=h;exact ⟨a,H',I.unwish,q⟩
 | brk=>obtain ⟨a,H',I,q⟩:=h;exact ⟨a,H',I.unwish,q⟩
 | cont=>obtain ⟨a,H',I,q⟩:=h;exact ⟨a,H',I.unwish,q⟩
 | ret u=>obtain ⟨v,a,H',I,r,q⟩:=h;exact ⟨v,a,H',I.unwish,r,q⟩
theorem PSs.nox {st:List Stmt} {t:TS} (h:PSs X.nox st t):PSs X st t:=fun pins s σ H D I a =>
 aI7 (h pins s σ H D (I.wish _) a) (fun _ _ q=>q.unwish) fun _ _ z=>False.elim z
end
section
variable {X:Cx} {st:Stmt} {rest:List Stmt} {t u:TS} {e:Expr} {te:TE} {pos:Pos}
def aqb:TS:=fun D σ H=>D.nx σ H
def tSeq (t u:TS):TS:=fun D σ H=>t { D with nx:=u D } σ H
theorem aaw:PSs X [] aqb:=fun _ _ σ H _ I h=>wpAny_execs_nil ⟨σ,H,I,h⟩
theorem aac (c:PS X st t) (b:PSs X rest u):PSs X (st :: rest) (tSeq t u):=by
 intro pins s σ H D I h
 refine wpAny_execs_cons (thn (c pins s σ H { D with nx:=u D } I h) fun f s1 q=>?_)
 cases f with
 | next =>
  obtain ⟨a,H',d,q⟩:=q
  exact b pins s1 a H' D d q
 | ret v=>exact q
 | brk=>exact q
 | cont=>exact q
theorem aag (a:PS X st t):PSs X [st] t:=by
 intro pins s σ H D I h
 refine wpAny_execs_cons (thn (a pins s σ H D I h) fun f s1 q=>?_)
 cases f with
 | next=>exact wpAny_execs_nil q
 | ret v=>exact q
 | brk=>exact q
 | cont=>exact q
theorem Inv.quiet {pins:List (Addr × Obj)} {σ:St} {H:Hp} {s:Shared} (I:Inv X pins σ H s):interactive X.env=false:=by simp [interactive,I.ok.kind]
def aqc (te:TE):TS:=fun D σ H=>te σ H fun _ H1=>D.nx σ H1
theorem abj (b:PE X e te) (f:swapsWith e none pos.line X.env=pure false:=by rfl):PS X (.Expr e pos) (aqc te):=by
 intro pins s σ H D I h
 exact wpAny_Expr_any (thn (b pins s σ H _ I h) fun v s1 ⟨x,a,c,g,d⟩=>⟨σ,a,c,d⟩) I.quiet f
def tRet (te:TE):TS:=fun D σ H=>te σ H D.rt
theorem aao (b:PE X e te):PS X (.Return (some e) pos) (tRet te):=by
 intro pins s σ H D I h
 exact wpAny_Return_some (thn (b pins s σ H _ I h) fun v s1 ⟨x,a,d,c,f⟩=>⟨x,σ,a,d,c,f⟩)
def tIfS (c:TT) (t u:TS):TS:=fun D σ H=>c σ H fun b H1=>if b=true then t D σ H1 else u D σ H1
theorem aa4 {c:Expr} {a b:List Stmt} {i:TT} (l:PT X c i) (ha:PSs X a t) (hb:PSs X b u):PS X (.If c a b pos) (tIfS i t u):=by
 intro pins s σ H D I h
 refine wpAny_If (thn (l pins s σ H _ I h) fun d s1 ⟨g,j,f⟩=>?_)
 cases d with
 | true=>exact ha pins s1 σ g D j f
 | false=>exact hb pins s1 σ g D j f
def azd:TS:=fun _ _ _=>False
theorem aet:PS X st azd:=fun _ _ _ _ _ _ h=>h.elim
end
abbrev TG:=V->St->Hp->(St->Hp->Prop)->Prop
abbrev TGs:=List V->St->Hp->(St->Hp->Prop)->Prop
def PG (X:Cx) (target:Expr) (t:TG):Prop :=
 ∀ (pins:List (Addr × Obj)) (s:Shared) (σ:St) (H:Hp) (v:V) (u:Value) (Q:St->Hp->Prop),Inv X pins σ H s->RelV v u->t v σ H Q ->
  wpAny (model X.prog X.w) X.A (assign target X.env u) (fun _ s'=>∃ σ' H',Inv X pins σ' H' s'/\Q σ' H') X.xe s
def PGs (X:Cx) (ts:List Expr) (t:TGs):Prop :=
 ∀ (pins:List (Addr × Obj)) (s:Shared) (σ:St) (H:Hp) (vs:List V) (us:List Value) (Q:St->Hp->Prop),Inv X pins σ H s->Vals vs us->t vs σ H Q ->
  wpAny (model X.prog X.w) X.A (assignInOrder ((assignEach ts X.env).map (·.2)) us) (fun _ s'=>∃ σ' H',Inv X pins σ' H' s'/\Q σ' H') X.xe s
abbrev TSet:=V->V->V->Hp->(Hp->Prop)->Prop
def PSet (X:Cx) (t:TSet):Prop :=
 ∀ (pins:List (Addr × Obj)) (s:Shared) (σ:St) (H:Hp) (o i v:V) (ov iv u:Value) (Q:Hp->Prop),Inv X pins σ H s->RelV o ov->RelV i iv->RelV v u->t o i v H Q ->
  wpAny (model X.prog X.w) X.A (setItem ov iv u) (fun _ s'=>∃ H',Inv X pins σ H' s'/\Q H') X.xe s
section
variable {X:Cx} {pos:Pos}
def abw (i:Nat):TG:=fun v σ H Q=>Q (σ.set i (some v)) H
theorem aam {i:Nat} {x:Str} (c:X.N.Nodup) (hi:X.N[i]?=some x) (a:Loc X.env.scope x) (hf:X.fn x=true\/X.env.scope.names.lookup x=some .local:=by first | exact .inl rfl | exact .inr rfl | assumption):PG X (.Name x pos) (abw i):=by
 intro pins s σ H v u Q I r h
 exact wpAny_assign_Name (amd I c hi a r (fun d b=>⟨_,H,b,h⟩) hf)
def gNil:TGs:=fun vs σ H Q=>vs=[]/\Q σ H
def av9 (t:TG) (u:TGs):TGs:=fun vs σ H Q=>∃ v r,vs=v :: r/\t v σ H fun σ' H'=>u r σ' H' Q
theorem ab4:PGs X [] gNil:=by
 intro pins s σ H vs us Q I r h
 obtain ⟨e,h⟩:=h
 subst e
 cases r
 exact assignInOrder_nil ⟨σ,H,I,h⟩
theorem aax {e:Expr} {es:List Expr} {t:TG} {u:TGs} (c:PG X e t) (b:PGs X es u)
  (f:(assignEach (e :: es) X.env).map (·.2)=assign e X.env :: (assignEach es X.env).map (·.2):=by rfl):PGs X (e :: es) (av9 t u):=by
 intro pins s σ H vs us Q I r h
 obtain ⟨v,l,g,h⟩:=h
 subst g
 cases r with
 | cons r rr =>
  rw [f]
  refine assignInOrder_cons (thn (c pins s σ H _ _ _ I r h) fun _ s1 ⟨a,i,j,d⟩=>?_)
  exact b pins s1 a i _ _ Q j rr d
def gTup (K:Frag) (n:Nat) (t:TGs):TG:=fun v σ H Q=>∃ a xs,v=.ref a/\SqT K H a xs/\xs.length=n/\t xs σ H Q
theorem aco {es:List Expr} {k:Nat} {t:TGs} {n:Nat} (i:X.calm=true) (h:PGs X es t)
  (hn:(assignEach es X.env).length=n:=by rfl) (c:(assignEach es X.env).findIdx? (·.1)=none:=by rfl):PG X (.Tuple es k pos) (gTup X.K n t):=by
 intro pins s σ H v u Q I r d
 obtain ⟨a,xs,l,p,g,d⟩:=d
 subst l
 cases r
 obtain ⟨its,f,m,hz⟩:=I.tuple p
 refine assign_Tuple_tuple (I.ok.hd i) m (by simp [hn,← g,f.length]) c fun h' j=>?_
 have q:Inv X pins σ H { s with heap:=h' }:=I.kept (t':=s.toks) fun b o e=>j b o (aB5 (aI3 e)) e
 exact h pins _ σ H xs _ Q q (by simpa using f) d
def gSub (to ti:TE) (t:TSet):TG:=fun v σ H Q=>to σ H fun o H1=>ti σ H1 fun i H2=>t o i v H2 fun H3=>Q σ H3
theorem agx {o i:Expr} {to c:TE} {t:TSet} (l:PE X o to) (hi:PE X i c) (g:PSet X t)
  (ha:∀ v,assign (.Subscript o i pos) X.env v=(do
   let a ← holding [v] (eval o X.env)
   let b ← holding [v,a] (eval i X.env)
   standAt pos
   holding [v,a,b] (setItem a b v)
   release [v,a,b] []):=by intro _;rfl):PG X (.Subscript o i pos) (gSub to c t):=by
 intro pins s σ H v u Q I r h
 rw [ha]
 refine aI0 (aI5 (thn (l pins s σ H _ I h) fun a s1 ⟨x,p,q,f,j⟩=>?_))
 refine aI0 (aI5 (thn (hi pins s1 σ p _ q j) fun b s2 ⟨y,H2,w,n,z⟩=>?_))
 refine aI0 (wpAny_standAt (aI0 (aI5 (thn (g pins s2 σ H2 x y v a b u _ w f n r z) fun _ A ⟨H3,m,d⟩=>?_))))
 exact wpAny_release ⟨σ,H3,m,d⟩
def tAsg (te:TE) (g:TG):TS:=fun D σ H=>te σ H fun x H1=>g x σ H1 D.nx
theorem ab0 {tg e:Expr} {te:TE} {g:TG} (i:PE X e te) (j:PG X tg g) (d:swapsWithSole [tg] e pos.line X.env=pure false:=by rfl) (l:swappedStores [tg] e X.env=pure none:=by rfl)
  (b:(assignEach [tg] X.env).map (·.2)=[assign tg X.env]:=by rfl):PS X (.Assign [tg] e pos) (tAsg te g):=by
 intro pins s σ H D I h
 refine wpAny_Assign_stores (thn (i pins s σ H _ I h) fun v s1 ⟨x,f,m,a,c⟩=>?_) d l
 rw [b]
 exact thn (j pins s1 σ f x v _ m a c) fun _ s2 q=>q
theorem aak {i:Nat} {x:Str} {e:Expr} {te:TE} {a:Pos} (g:X.N.Nodup) (hi:X.N[i]?=some x) (f:Loc X.env.scope x) (l:PE X e te) (d:swapsWith e (some (.Name x a)) pos.line X.env=pure false:=by rfl) (hf:X.fn x=true\/X.env.scope.names.lookup x=some .local:=by first | exact .inl rfl | exact .inr rfl | assumption) :
  PS X (.Assign [.Name x a] e pos) (tAsg te (abw i)):=by
 intro pins s σ H D I h
 refine wpAny_Assign_Name (thn (l pins s σ H _ I h) fun v s1 ⟨y,j,m,b,c⟩=>?_) d
 exact amd m g hi f b (fun s2 n=>⟨_,j,n,c⟩) hf
end
section
variable {X:Cx} {pos:Pos}
def arp (c:TT) (tb:TS):TS:=fun D σ H=>∃ W:Nat->St->Hp->Prop,(∃ m,W m σ H)/\∀ m σ H,W m σ H ->
 c σ H fun b H1=>if b=true then ∃ N:St->Hp->Prop,(∀ σ' H',N σ' H'->∃ m',m' < m/\W m' σ' H')/\tb { D with nx:=N,ct:=N,bk:=D.nx } σ H1 else D.nx σ H1
theorem aie {c:Expr} {body:List Stmt} {z:TT} {r:TS} (u:PassesOwn (model X.prog X.w) X.A X.env X.xe) (E:PT X c z) (hb:PSs X body r):PS X (.While c body [] pos) (arp z r):=by
 intro pins s σ H D I h
 obtain ⟨W,⟨C,K⟩,i⟩:=h
 refine wpAny_While (codeAny_whileLoop (fun n G=>∃ g H',Inv X pins g H' G/\W n g H') ?_ C ⟨σ,H,I,K⟩)
 rintro n s1 ⟨d,y,J,F⟩
 refine wpAny_passesOwn u (thn (E pins s1 d y _ J (i n d y F)) fun b s2 ⟨H2,B,l⟩=>?_)
 cases b with
 | true =>
  obtain ⟨N,x,l⟩:=l
  rw [aE7 rfl]
  refine wpAny_passesOwn u (thn (hb pins s2 d H2 _ B l) fun f L j=>?_)
  cases f with
  | next =>
   obtain ⟨a,H3,m,q⟩:=j
   obtain ⟨o,hm,p⟩:=x a H3 q
   exact ⟨o,hm,a,H3,m,p⟩
  | cont =>
   obtain ⟨a,H3,m,q⟩:=j
   obtain ⟨o,hm,p⟩:=x a H3 q
   exact ⟨o,hm,a,H3,m,p⟩
  | brk=>exact j
  | ret v=>exact j
 | false =>
  rw [aE8 aA9]
  exact wpAny_execs_nil ⟨d,H2,B,l⟩
end
structure It where
 go:Nat->Hp->Prop
 yld:Nat->Hp->V->Hp->Prop
 stop:Nat->Hp->Prop
def FpOk (X:Cx) (pins:List (Addr × Obj)) (H:Hp) (b:Addr):Prop :=
 H b=none/\b ≠ X.env.locals/\b ∉ X.fs/\(b∈X.ex\/X.s₀.heap.objs.size<=b)/\(∀ x c,X.env.cells.lookup x=some c->c ≠ b)/\∀ p∈X.pn ++ pins,p.1 ≠ b
theorem Inv.fpOk {X:Cx} {pins:List (Addr × Obj)} {σ:St} {H H':Hp} {s:Shared} {b:Addr} (I:Inv X pins σ H s) (hb:s.heap.objs.size<=b) (hn:H' b=none):FpOk X pins H' b:=by
 refine ⟨hn,Nat.ne_of_gt (aC4 I.lt hb),I.nofs hb,.inr (aC9 I.sz hb),fun x c e z=>?_,fun p a z=>?_⟩
 ·obtain ⟨v,q⟩:=I.cell x c e
  exact absurd (aC4 q.lt (by rw [z];exact hb)) (aF6 _)
 ·exact absurd (aC4 (aI3 (I.pin p a).1) (by rw [z];exact hb)) (aF6 _)
structure Turn (P:Program) (w:World) (K:Frag) (tg:Expr) (J:It) (fp:List Addr) (it:Addr) (tn:Nat->Heap->Prop):Prop where
 mem:it∈fp
 obj:∀ i h,tn i h->∀ b∈fp,∃ o,h.get? b=some o/\∀ v,o.data ≠ .cell v
 keep:∀ i h h',tn i h->(∀ b∈fp,∀ o,h.get? b=some o->h'.get? b=some o)->tn i h'
 item:∀ (X:Cx),X.prog=P->X.w=w->X.K=K->X.calm=true->∀ (i:Nat) (pins:List (Addr × Obj)) (s:Shared) (σ:St) (H:Hp) (E:Value->Shared->Prop),Inv X pins σ H s->(∀ b∈fp,FpOk X pins H b)->tn i s.heap->J.go i H ->
  wpAny (model P w) X.A (pyNext (.ref it)) (fun r s1=>∃ u,r=some u /\
   wpAny (model P w) X.A (letOwnedTupleGo tg (.ref it) u) (fun _ s2=>∃ x H',Inv X pins σ H' s2/\RelV x u/\J.yld i H x H'/\tn (i+1) s2.heap/\∀ b∈fp,H' b=none) E s1) E s
 done:∀ (X:Cx),X.prog=P->X.w=w->X.K=K->X.calm=true->∀ (i:Nat) (pins:List (Addr × Obj)) (s:Shared) (σ:St) (H:Hp) (E:Value->Shared->Prop),Inv X pins σ H s->(∀ b∈fp,FpOk X pins H b)->tn i s.heap->J.stop i H ->
  wpAny (model P w) X.A (pyNext (.ref it)) (fun r s1=>r=none/\Inv X pins σ H s1) E s
 self:∀ (A:Around) (i:Nat) (s:Shared) (Q:Value->Shared->Prop) (E:Value->Shared->Prop),tn i s.heap->Q (.ref it) s->wpAny (model P w) A (pyIter (.ref it)) Q E s
abbrev TI:=St->Hp->(It->Hp->Prop)->Prop
def PIE (X:Cx) (pins:List (Addr × Obj)) (σ:St) (tg:Expr) (R:It->Hp->Prop) (itv:Value) (s2:Shared):Prop :=
 ∃ (it:Addr) (fp:List Addr) (tn:Nat->Heap->Prop) (J:It) (H':Hp),itv=.ref it/\Inv X pins σ H' s2/\Turn X.prog X.w X.K tg J fp it tn/\tn 0 s2.heap/\(∀ b∈fp,FpOk X pins H' b)/\R J H'
def PI (X:Cx) (tg iter:Expr) (wi:TI):Prop :=
 ∀ (pins:List (Addr × Obj)) (s:Shared) (σ:St) (H:Hp) (R:It->Hp->Prop),Inv X pins σ H s->wi σ H R ->
  wpAny (model X.prog X.w) X.A (eval iter X.env) (fun v s1=>wpAny (model X.prog X.w) X.A (pyIter v) (PIE X pins σ tg R) X.xe s1) X.xe s
theorem awa {M:Model} {A:Around} {E:Value->Shared->Prop} {s:Shared} {tg:Expr} {it:Addr} {u:Value} {o:Obj} {n:String} {vs:Array Value} {Q:Unit->Shared->Prop} (c:s.heap.get? it=some o) (b:o.cls=.type n) (hd:o.data=.fields vs)
  (hn:["enumerate","zip","dict_itemiterator","dict_reverseitemiterator","odict_iterator","itertools.zip_longest","itertools.pairwise"].contains n=false) (a:Q () s):wpAny M A (letOwnedTupleGo tg (.ref it) u) Q E s:=by
 unfold letOwnedTupleGo
 cases tg <;> first
  | exact aI1 a
  | (cases u <;> first
    | exact aI1 a
    | (refine aI0 (wpAny_load c ?_)
       rw [b,hd]
       show wpAny M A (if (["enumerate","zip","dict_itemiterator","dict_reverseitemiterator","odict_iterator","itertools.zip_longest","itertools.pairwise"].contains n && vs[0]? == some (rawInt _))=true then _ else _) Q E s
       rw [aE8 (by intro h;rw [hn,Bool.false_and] at h;cases h)]
       exact aI1 a))
def Itl (K:Frag) (a:Addr):It :=
 ⟨fun i H=>∃ xs x,SqL K H a xs/\xs[i]?=some x,fun i H x H'=>H'=H/\∀ xs,SqL K H a xs->xs[i]?=some x,fun i H=>∃ xs,SqL K H a xs/\xs.length<=i⟩
def Itr (lo:Int) (n:Nat):It:=⟨fun i _=>i < n,fun i H x H'=>H'=H/\x=.int (lo+i),fun i _=>n<=i⟩
theorem arq {P:Program} {w:World} {K:Frag} {tg:Expr} (a it:Addr):Turn P w K tg (Itl K a) [it] it (fun i h=>h.IsListIter it a i) where
 mem:=by simp
 obj:=fun i h st b hb=>by
  have e:b=it:=by simpa using hb
  subst e
  obtain ⟨o,e,c,d⟩:=st
  exact ⟨o,e,fun v z=>by rw [d] at z;cases z⟩
 keep:=fun i h h' st k=>st.at fun o e=>k it (by simp) o e
 item:=by
  intro X n B r D i pins s σ H E I hf st A
  subst n B r
  obtain ⟨xs,x,f,q⟩:=A
  obtain ⟨its,y,p,hz⟩:=I.list f
  obtain ⟨u,F,L⟩:=y.get q
  obtain ⟨j,l,G,g,m,C⟩:=hf it (by simp)
  refine wpAny_pyNext_list_item st p.isList (x:=u) (by simpa using F) fun h' st' sb=>?_
  have N:Inv X pins σ H { s with heap:=h' }:=I.turned (t':=s.toks) (fun b o hb e=>(sb.2 b hb).trans e) j l g m C
  obtain ⟨o,e,c,d⟩:=id st'
  exact ⟨u,rfl,awa (s:={ s with heap:=h' }) e c d (by decide) ⟨x,H,N,L,⟨rfl,fun ys M=>by rw [I.list_inj M f];exact q⟩,st',fun b hb=>(hf b hb).1⟩⟩
 done:=by
  intro X n B r D i pins s σ H E I hf st A
  subst n B r
  obtain ⟨xs,f,q⟩:=A
  obtain ⟨its,y,p,hz⟩:=I.list f
  obtain ⟨j,l,G,g,m,C⟩:=hf it (by simp)
  have O:=y.length
  exact wpAny_pyNext_list_end (I.ok.hd D) st p.isList (by simp;lia) fun h' J=>⟨rfl,I.turned (t':=s.toks) (fun b o hb e=>J b o hb e) j l g m C⟩
 self:=fun _ _ _ _ _ st h=>wpAny_pyIter_listiter st h
theorem aqd {P:Program} {w:World} {K:Frag} {tg:Expr} (it:Addr) (lo:Int) (n:Nat):Turn P w K tg (Itr lo n) [it] it (fun i h=>IsRangeIter h it (lo+(i:Nat) * 1) ((n:Int) - (i:Nat)) 1) where
 mem:=by simp
 obj:=fun i h st b hb=>by
  have e:b=it:=by simpa using hb
  subst e
  exact ⟨_,st,fun v z=>by
   have x:Data.fields _=Data.cell v:=z
   cases x⟩
 keep:=fun i h h' st k=>k it (by simp) _ st
 item:=by
  intro X g p l j i pins s σ H E I hf st m
  subst g p l
  obtain ⟨c,d,y,a,f,q⟩:=hf it (by simp)
  have W:=Walks.range (prog:=X.prog) (w:=X.w) (I.ok.hd j) it lo 1 n
  refine W.item i s _ _ m st fun v h' r B st' u=>?_
  obtain ⟨t,rfl⟩:=B
  have C:Inv X pins σ H { s with heap:=h',toks:=r }:=I.turned (fun b o hb e=>u b o (by simpa using hb) e) c d a f q
  refine ⟨_,rfl,awa (s:={ s with heap:=h',toks:=r }) (n:="range_iterator") st' rfl rfl (by decide) ⟨.int (lo+i),H,C,⟨t,?_⟩,⟨rfl,rfl⟩,st',fun b hb=>(hf b hb).1⟩⟩
  rw [Int.mul_one]
 done:=by
  intro X g p l j i pins s σ H E I hf st m
  subst g p l
  obtain ⟨c,d,y,a,f,q⟩:=hf it (by simp)
  exact wpAny_pyNext_range_end (I.ok.hd j) st (by have:n<=i:=m;lia) fun h' A=>⟨rfl,I.turned (t':=s.toks) (fun b o hb e=>A b o hb e) c d a f q⟩
 self:=fun _ _ _ _ _ st h=>wpAny_pyIter_rangeiter st h
section
variable {X:Cx} {tg:Expr}
def awb (K:Frag) (tl:TE):TI:=fun σ H R=>tl σ H fun x H1=>∃ a,x=.ref a/\(∃ xs,SqL K H1 a xs)/\R (Itl K a) H1
theorem ab6 {l:Expr} {tl:TE} (f:PE X l tl):PI X tg l (awb X.K tl):=by
 intro pins s σ H R I h
 refine thn (f pins s σ H _ I h) fun v s1 ⟨x,i,c,d,g⟩=>?_
 obtain ⟨a,e,⟨xs,j⟩,q⟩:=g
 subst e
 cases d
 obtain ⟨its,m,p,hz⟩:=c.list j
 refine aJ3 p.isList ?_
 refine ⟨s1.heap.objs.size,[s1.heap.objs.size],_,_,i,rfl,c.kept (t':=s1.toks) fun b o e=>aI2 _ e,arq a _,⟨_,aI4 _ rfl,rfl,rfl⟩,fun b hb=>?_,q⟩
 have e:b=s1.heap.objs.size:=by simpa using hb
 subst e
 exact c.fpOk (aA6 _) (c.hok.fresh (aA6 _))
theorem amf {pins:List (Addr × Obj)} {σ:St} {H:Hp} {s:Shared} {R:It->Hp->Prop} {E:Value->Shared->Prop} {lo hi:Int} {t u v:Tok} {a:Nat} (I:Inv X pins σ H s) (g : -(2 ^ 62)<=lo) (d:lo < 2 ^ 62) (h : -(2 ^ 62)<=hi) (f:hi < 2 ^ 62)
  (q:R (Itr lo (hi - lo).toNat) H):wpAny (model X.prog X.w) X.A (pyIter (.ref s.heap.objs.size)) (PIE X pins σ tg R) E { s with heap:=s.heap.push { cls:=.type "range",data:=.fields #[.int lo t,.int hi u,.int 1 v] },toks:=a }:=by
 refine wpAny_pyIter_range (IsRange.new ..) (small_one g d h f) ?_
 have c:Inv X pins σ H { s with heap:=s.heap.push { cls:=.type "range",data:=.fields #[.int lo t,.int hi u,.int 1 v] },toks:=a }:=I.kept fun b o e=>aI2 _ e
 refine ⟨(s.heap.push { cls:=.type "range",data:=.fields #[.int lo t,.int hi u,.int 1 v] }).objs.size,[(s.heap.push { cls:=.type "range",data:=.fields #[.int lo t,.int hi u,.int 1 v] }).objs.size],_,_,H,rfl,
  c.kept (t':=a) fun b o e=>aI2 _ e,aqd _ lo (hi - lo).toNat,?_,fun b hb=>?_,q⟩
 ·have i:lo+((0:Nat):Int) * 1=lo:=by simp
  have e2:(((hi - lo).toNat:Nat):Int) - ((0:Nat):Int)=Builtin.Range.rangeSize lo hi 1:=by rw [rangeSize_one];split <;> lia
  show IsRangeIter _ _ (lo+((0:Nat):Int) * 1) ((((hi - lo).toNat:Nat):Int) - ((0:Nat):Int)) 1
  rw [i,e2]
  exact aI4 _ rfl
 ·have e:b=(s.heap.push { cls:=.type "range",data:=.fields #[.int lo t,.int hi u,.int 1 v] }).objs.size:=by simpa using hb
  subst e
  exact c.fpOk (aA6 _) (c.hok.fresh (aA6 _))
def aqe (ta:TA):TI:=fun σ H R=>ta σ H fun vs H1=>∃ j:Int,vs=[.int j]/\-(2 ^ 62)<=j/\j < 2 ^ 62/\R (Itr 0 j.toNat) H1
def awc (ta:TA):TI:=fun σ H R=>ta σ H fun vs H1=>∃ i j:Int,vs=[.int i,.int j]/\(-(2 ^ 62)<=i/\i < 2 ^ 62/\-(2 ^ 62)<=j/\j < 2 ^ 62)/\R (Itr i (j - i).toNat) H1
theorem abg {a:Expr} {d:TA} {p b:Pos} (i:Gl X "range") (hm:X.mg "range" = none) (ha:PA X [a] d) (g:starEach [a] X.env=[(false,eval a X.env)]:=by rfl):PI X tg (.Call (.Name "range" p) [a] [] b) (aqe d):=by
 intro pins s σ H R I h
 refine Call_ (aeq I i hm boot_range (PyProof.Rows.callWith_type1 (thn (ha b pins s σ H _ I h) fun us s1 ⟨vs,n,l,f,c⟩=>?_) g rfl))
 obtain ⟨j,e,c,m,q⟩:=c
 subst e
 cases f with
 | cons r rr =>
  cases rr
  obtain ⟨t,rfl⟩:=r
  exact call_range_1 (amf l (by lia) (by lia) c m (by simpa using q))
theorem ad7 {a b:Expr} {g:TA} {p d:Pos} (u:Gl X "range") (hm:X.mg "range" = none) (ha:PA X [a,b] g) (n:starEach [a,b] X.env=[(false,eval a X.env),(false,eval b X.env)]:=by rfl) (c:starEach [b] X.env=[(false,eval b X.env)]:=by rfl) :
  PI X tg (.Call (.Name "range" p) [a,b] [] d) (awc g):=by
 intro pins s σ H R I h
 refine Call_ (aeq I u hm boot_range (PyProof.Rows.callWith_type1 (thn (ha d pins s σ H _ I h) fun us s1 ⟨vs,x,v,m,f⟩=>?_) (by rw [n,c]) (by rw [c];rfl)))
 obtain ⟨i,j,e,⟨f,w,l,o⟩,q⟩:=f
 subst e
 cases m with
 | cons r rr =>
  cases rr with
  | cons r' rr =>
   cases rr
   obtain ⟨t,rfl⟩:=r
   obtain ⟨t',rfl⟩:=r'
   exact call_range_2 (amf v f w l o q)
def tFor (wi:TI) (g:TG) (tb:TS):TS:=fun D σ H=>wi σ H fun J H1=>∃ W:Nat->Nat->St->Hp->Prop,(∃ m,W 0 m σ H1)/\∀ i m σ H,W i m σ H ->
 (J.stop i H/\D.nx σ H)\/(J.go i H/\∃ N:St->Hp->Prop,(∀ σ' H',N σ' H'->∃ m',m' < m/\W (i+1) m' σ' H')/\∀ x H',J.yld i H x H'->g x σ H' fun σ2 H2=>tb { D with nx:=N,ct:=N,bk:=D.nx } σ2 H2)
def agy (fp:List Addr) (h:Heap):List (Addr × Obj):=fp.filterMap fun b=>(h.get? b).map fun o=>(b,o)
theorem aef {fp:List Addr} {h:Heap} {b:Addr} {o:Obj} (hb:b∈fp) (e:h.get? b=some o):(b,o)∈agy fp h:=List.mem_filterMap.mpr ⟨b,hb,by rw [e];rfl⟩
theorem ars {fp:List Addr} {h:Heap} {p:Addr × Obj} (a:p∈agy fp h):p.1∈fp/\h.get? p.1=some p.2:=by
 obtain ⟨b,hb,e⟩:=List.mem_filterMap.mp a
 cases q:h.get? b with
 | none=>rw [q] at e;cases e
 | some o =>
  rw [q] at e
  have c:(b,o)=p:=aC5 e
  subst c
  exact ⟨hb,q⟩
theorem Inv.pinned {pins:List (Addr × Obj)} {σ:St} {H:Hp} {s:Shared} {fp:List Addr} (I:Inv X pins σ H s) (hf:∀ b∈fp,FpOk X pins H b) (i:∀ b∈fp,∃ o,s.heap.get? b=some o/\∀ v,o.data ≠ .cell v):Inv X (pins ++ agy fp s.heap) σ H s :=
 I.pins_of fun p g=>(aA7.mp g).elim (fun z=>I.pin p (aB2 _ z)) fun z=>by
  obtain ⟨hb,e⟩:=ars z
  obtain ⟨c,f,h,_⟩:=hf p.1 hb
  obtain ⟨o,a,d⟩:=i p.1 hb
  rw [e] at a;cases a
  exact ⟨e,c,f,h,d⟩
theorem Inv.unpinned {pins pl:List (Addr × Obj)} {σ:St} {H:Hp} {s:Shared} (I:Inv X (pins ++ pl) σ H s):Inv X pins σ H s:=I.pins_of fun p a=>I.pin p (aB2 _ (aC6 _ a))
theorem abp {j:Expr} {body:List Stmt} {Y:TI} {g:TG} {tb:TS} {S:Pos} (K:PassesOwn (model X.prog X.w) X.A X.env X.xe) (hc:X.calm=true) (hi:PI X tg j Y) (hg:PG X tg g) (hb:PSs X body tb)
  (hs:∀ x,foldedSetIterable j X.env x=pure x:=by intro _;rfl):PS X (.For tg j body [] S) (tFor Y g tb):=by
 intro pins s σ H D I h
 refine wpAny_For (thn (hi pins s σ H _ I h) fun v s1 h1=>thn h1 fun a0 s2 h2=>?_) hs
 obtain ⟨it,fp,tn,J,H2,e,I2,T,M,f2,W,⟨m0,w0⟩,L⟩:=h2
 subst e
 -- what stays true of the iterator's objects through the loop
 have l:∀ {H':Hp},(∀ b∈fp,H' b=none)->∀ b∈fp,FpOk X pins H' b:=fun hn b hb=>⟨hn b hb,(f2 b hb).2⟩
 refine codeAny_forLoop_any (fun n s'=>∃ i z H',Inv X pins z H' s'/\tn i s'.heap/\(∀ b∈fp,H' b=none)/\W i n z H') ?_ m0 ⟨0,σ,H2,I2,M,fun b hb=>(f2 b hb).1,w0⟩
 rintro n s3 ⟨i,q,H3,I3,F,G,w3⟩
 rcases L i n q H3 w3 with ⟨stop,qn⟩ | ⟨go,N,hN,step⟩
 ·refine wpAny_passesOwn K (thn (T.done X rfl rfl rfl hc i pins s3 q H3 X.xe I3 (l G) F stop) fun r s4 ⟨R,I4⟩=>?_)
  subst R
  exact wpAny_execs_nil ⟨q,H3,I4,qn⟩
 ·refine wpAny_passesOwn K (thn (T.item X rfl rfl rfl hc i pins s3 q H3 X.xe I3 (l G) F go) fun r s4 ⟨u,R,h4⟩=>?_)
  subst R
  refine wpAny_passesOwn K (thn h4 fun _ Z ⟨x,H5,I5,r5,y5,C,Q⟩=>?_)
  have U:=I5.pinned (l Q) (T.obj _ _ C)
  refine wpAny_passesOwn K (thn (hg _ Z q H5 x u _ U r5 (step x H5 y5)) fun _ s6 ⟨O,H6,I6,q6⟩=>?_)
  refine wpAny_passesOwn K (thn (hb _ s6 O H6 _ I6 q6) fun f P B=>?_)
  have p:∀ {a:St} {y:Hp},Inv X (pins ++ agy fp Z.heap) a y P->N a y->∃ m,m < n/\∃ i z H',Inv X pins z H' P/\tn i P.heap/\(∀ b∈fp,H' b=none)/\W i m z H':=fun {a y} c E=>by
   obtain ⟨m',hm,w7⟩:=hN a y E
   refine ⟨m',hm,i+1,a,y,c.unpinned,T.keep _ _ _ C fun b hb o e=>(c.pin (b,o) (aB2 _ (aB2 _ (aef hb e)))).1,fun b hb=>?_,w7⟩
   obtain ⟨o,e,d⟩:=T.obj _ _ C b hb
   exact (c.pin (b,o) (aB2 _ (aB2 _ (aef hb e)))).2.1
  cases f with
  | next=>obtain ⟨a,y,c,E⟩:=B;exact p c E
  | cont=>obtain ⟨a,y,c,E⟩:=B;exact p c E
  | brk=>obtain ⟨a,y,c,B⟩:=B;exact ⟨a,y,c.unpinned,B⟩
  | ret v=>obtain ⟨x7,a,y,c,r7,B⟩:=B;exact ⟨x7,a,y,c.unpinned,r7,B⟩
end
theorem art {lo:Int} {n:Nat} {g:TG} {d:TS} {D:Ends} {σ:St} {H:Hp} (b:Nat->St->Hp->Prop) (h:b 0 σ H)
  (j:∀ i σ H,i < n->b i σ H->g (.int (lo+i)) σ H fun a H2=>d { D with nx:=b (i+1),ct:=b (i+1),bk:=D.nx } a H2) (hd:∀ σ H,b n σ H->D.nx σ H) :
  ∃ W:Nat->Nat->St->Hp->Prop,(∃ m,W 0 m σ H)/\∀ i m σ H,W i m σ H ->
   ((Itr lo n).stop i H/\D.nx σ H)\/((Itr lo n).go i H/\∃ N:St->Hp->Prop,(∀ c H',N c H'->∃ f,f < m/\W (i+1) f c H')/\∀ x H',(Itr lo n).yld i H x H'->g x σ H' fun a H2=>d { D with nx:=N,ct:=N,bk:=D.nx } a H2):=by
 refine ⟨fun i m σ H=>m=n - i/\i<=n/\b i σ H,⟨n,by simp,aF2 _,h⟩,?_⟩
 rintro i m σ H ⟨rfl,hi,p⟩
 by_cases hlt:i < n
 ·refine .inr ⟨hlt,b (i+1),fun c H' l=>⟨n - (i+1),by lia,rfl,hlt,l⟩,fun x H' y=>?_⟩
  obtain ⟨e,y⟩:=y
  subst e y
  exact j i σ _ hlt p
 ·have e:i=n:=by lia
  subst e
  exact .inl ⟨aA6 _,hd σ H p⟩
abbrev R2:=V->V->Hp->VK->Prop
def OpR (X:Cx) (f:Value->Value->Sem Value) (r:R2):Prop :=
 ∀ (pins:List (Addr × Obj)) (s:Shared) (σ:St) (H:Hp) (x y:V) (v u:Value) (Q:VK),Inv X pins σ H s->RelV x v->RelV y u->r x y H Q ->
  wpAny (model X.prog X.w) X.A (f v u) (EP X pins σ Q) X.xe s
def UnR (X:Cx) (f:Value->Sem Value) (r:V->Hp->VK->Prop):Prop :=
 ∀ (pins:List (Addr × Obj)) (s:Shared) (σ:St) (H:Hp) (x:V) (v:Value) (Q:VK),Inv X pins σ H s->RelV x v->r x H Q ->
  wpAny (model X.prog X.w) X.A (f v) (EP X pins σ Q) X.xe s
def abd (X:Cx) (f:Value) (r:List V->Hp->VK->Prop):Prop :=
 ∀ (pins:List (Addr × Obj)) (s:Shared) (σ:St) (H:Hp) (xs:List V) (us:List Value) (Q:VK),Inv X pins σ H s->Vals xs us->r xs H Q ->
  wpAny (model X.prog X.w) X.A (call f us) (EP X pins σ Q) X.xe s
def TruR (X:Cx) (r:V->Hp->(Bool->Hp->Prop)->Prop):Prop :=
 ∀ (pins:List (Addr × Obj)) (s:Shared) (σ:St) (H:Hp) (x:V) (v:Value) (Q:Bool->Hp->Prop),Inv X pins σ H s->RelV x v->r x H Q ->
  wpAny (model X.prog X.w) X.A (truthy v) (TP X pins σ Q) X.xe s
def tOp (r:R2) (ta tb:TE):TE:=fun σ H Q=>ta σ H fun x H1=>tb σ H1 fun y H2=>r x y H2 Q
def tUn (r:V->Hp->VK->Prop) (ta:TE):TE:=fun σ H Q=>ta σ H fun x H1=>r x H1 Q
def rI (C:Int->Int->Prop) (g:Int->Int->V):R2:=fun x y H Q=>∃ i j,x=.int i/\y=.int j/\C i j/\Q (g i j) H
def rI0 (g:Int->Int->V):R2:=fun x y H Q=>∃ i j,x=.int i/\y=.int j/\Q (g i j) H
def rU (g:Int->V):V->Hp->VK->Prop:=fun x H Q=>∃ i,x=.int i/\Q (g i) H
section
variable {X:Cx} {a b c:Expr} {ta tb tc:TE} {pos:Pos}
theorem binT (ha:PE X a ta) (hb:PE X b tb) {pins:List (Addr × Obj)} {s:Shared} {σ:St} {H:Hp} {R:V->V->Hp->Prop} (I:Inv X pins σ H s)
  (h:ta σ H fun x g=>tb σ g fun y H2=>R x y H2) {Q:Value->Shared->Prop} {f:Value->Value->Sem Value}
  (hf:∀ v u s2 x y H2,Inv X pins σ H2 s2->RelV x v->RelV y u->R x y H2->wpAny (model X.prog X.w) X.A (f v u) Q X.xe s2) :
  wpAny (model X.prog X.w) X.A (eval a X.env) (fun v c=>wpAny (model X.prog X.w) X.A (eval b X.env) (fun u d=>wpAny (model X.prog X.w) X.A (f v u) Q X.xe d) X.xe c) X.xe s:=by
 refine thn (ha pins s σ H _ I h) fun v s1 ⟨x,g,m,i,j⟩=>?_
 refine thn (hb pins s1 σ g _ m j) fun u s2 ⟨y,H2,n,l,o⟩=>?_
 exact hf v u s2 x y H2 n i l o
theorem aav {op:Operator} {r:R2} (f:OpR X (binaryOp op) r) (ha:PE X a ta) (hb:PE X b tb):PE X (.BinOp a op b pos) (tOp r ta tb):=by
 intro pins s σ H Q I h
 exact wpAny_BinOp (binT ha hb I h fun v u s2 x y H2 g c d q=>f pins s2 σ H2 x y v u Q g c d q)
theorem awd {op:UnaryOp} {r:V->Hp->VK->Prop} (d:UnR X (unaryOp op) r) (ha:PE X a ta):PE X (.UnaryOp op a pos) (tUn r ta):=by
 intro pins s σ H Q I h
 exact UnaryOp_ (thn (ha pins s σ H _ I h) fun v s1 ⟨x,b,f,c,g⟩=>d pins s1 σ b x v Q f c g)
theorem opI {f:Value->Value->Sem Value} {C:Int->Int->Prop} {g:Int->Int->Int}
  (a:∀ (i j:Int) (t u:Tok) (s:Shared) (Q:Value->Shared->Prop) (E:Value->Shared->Prop),C i j->Q (.int (g i j) s.toks) { s with toks:=s.toks+1 }->wpAny (model X.prog X.w) X.A (f (.int i t) (.int j u)) Q E s) :
  OpR X f (rI C fun i j => .int (g i j)):=by
 intro pins s σ H x y v u Q I b c h
 obtain ⟨i,j,rfl,rfl,d,q⟩:=h
 obtain ⟨t,rfl⟩:=b
 obtain ⟨t',rfl⟩:=c
 exact a i j t t' s _ _ d ⟨.int (g i j),H,I.tok _,⟨_,rfl⟩,q⟩
theorem opI0 {f:Value->Value->Sem Value} {g:Int->Int->Int}
  (a:∀ (i j:Int) (t u:Tok) (s:Shared) (Q:Value->Shared->Prop) (E:Value->Shared->Prop),Q (.int (g i j) s.toks) { s with toks:=s.toks+1 }->wpAny (model X.prog X.w) X.A (f (.int i t) (.int j u)) Q E s) :
  OpR X f (rI0 fun i j => .int (g i j)):=by
 intro pins s σ H x y v u Q I b c h
 obtain ⟨i,j,rfl,rfl,q⟩:=h
 obtain ⟨t,rfl⟩:=b
 obtain ⟨t',rfl⟩:=c
 exact a i j t t' s _ _ ⟨.int (g i j),H,I.tok _,⟨_,rfl⟩,q⟩
theorem opB0 {f:Value->Value->Sem Value} {g:Int->Int->Bool}
  (a:∀ (i j:Int) (t u:Tok) (s:Shared) (Q:Value->Shared->Prop) (E:Value->Shared->Prop),Q (.bool (g i j)) s->wpAny (model X.prog X.w) X.A (f (.int i t) (.int j u)) Q E s) :
  OpR X f (rI0 fun i j => .bl (g i j)):=by
 intro pins s σ H x y v u Q I b c h
 obtain ⟨i,j,rfl,rfl,q⟩:=h
 obtain ⟨t,rfl⟩:=b
 obtain ⟨t',rfl⟩:=c
 exact a i j t t' s _ _ ⟨.bl (g i j),H,I,rfl,q⟩
def CDiv (i j:Int):Prop:=0 < j/\j < 1073741824
def CPow (i j:Int):Prop:=0<=j/\j<=1000000/\i.natAbs < 2 ^ 64
def CMul (i j:Int):Prop:=(-(2 ^ 64) < i/\i < 2 ^ 64)\/(-(2 ^ 64) < j/\j < 2 ^ 64)
theorem CMul.ok {i j:Int} (h:CMul i j):IntMulOk i j:=by
 rcases h with ⟨b,a⟩ | ⟨b,a⟩
 ·exact .of_left (intBits_le_64 b a)
 ·exact .of_right (intBits_le_64 b a)
theorem abc:OpR X (binaryOp .Add) (rI0 fun i j => .int (i+j)):=opI0 fun _ _ _ _ _ _ _ q=>add_int q
theorem aeu:OpR X (binaryOp .Sub) (rI0 fun i j => .int (i - j)):=opI0 fun _ _ _ _ _ _ _ q=>sub_int q
theorem agz:OpR X (binaryOp .Mult) (rI CMul fun i j => .int (i * j)):=opI fun _ _ _ _ _ _ _ a q=>mul_int q a.ok
theorem aj0:OpR X (binaryOp .FloorDiv) (rI CDiv fun i j => .int (i / j)):=opI fun i j _ _ _ _ _ a q=>by
 have c:(0:Int) < j:=a.1
 have b:j < 1073741824:=a.2
 exact floordiv_int (by lia) (by rw [Int.fdiv_eq_ediv_of_nonneg i (by lia)];exact q) (.inl (PyProof.noPylong_small (by lia)))
theorem aev:OpR X (binaryOp .Mod) (rI (fun _ j=>0 < j) fun i j => .int (i % j)):=opI fun i j _ _ _ _ _ a q=>by
 have b:(0:Int) < j:=a
 exact mod_int' (by lia) (by rw [Int.fmod_eq_emod_of_nonneg i (by lia)];exact q)
theorem aze:OpR X (binaryOp .Pow) (rI CPow fun i j => .int (i ^ j.toNat)):=opI fun _ _ _ _ _ _ _ a q=>pow_int_small a.1 a.2.1 a.2.2 q
theorem unI {f:Value->Sem Value} {g:Int->Int}
  (a:∀ (i:Int) (t:Tok) (s:Shared) (Q:Value->Shared->Prop) (E:Value->Shared->Prop),Q (.int (g i) s.toks) { s with toks:=s.toks+1 }->wpAny (model X.prog X.w) X.A (f (.int i t)) Q E s) :
  UnR X f (rU fun i => .int (g i)):=by
 intro pins s σ H x v Q I b h
 obtain ⟨i,rfl,q⟩:=h
 obtain ⟨t,rfl⟩:=b
 exact a i t s _ _ ⟨.int (g i),H,I.tok _,⟨_,rfl⟩,q⟩
theorem aru:UnR X (unaryOp .USub) (rU fun i => .int (-i)):=unI fun _ _ _ _ _ q=>neg_int q
end
def scal:V->V->Bool
 | .non,.non=>true | .non,.int _=>true | .int _,.non=>true | .non,.bl _=>true | .bl _,.non=>true | .non,.str _=>true | .str _,.non=>true
 | .int _,.int _=>true | .bl _,.bl _=>true | .str _,.str _=>true | .byt _,.byt _=>true
 | .int _,.str _=>true | .str _,.int _=>true | .bl _,.str _=>true | .str _,.bl _=>true
 | _,_=>false
def rEq:R2:=fun x y H Q=>scal x y=true/\Q (.bl (decide (x=y))) H
def rNe:R2:=fun x y H Q=>scal x y=true/\Q (.bl (!decide (x=y))) H
theorem ahr {i j:Int}:decide (V.int i=V.int j)=(i == j):=by
 rw [aH0]
 simp
theorem arv {i j:Bool}:decide (V.bl i=V.bl j)=(i == j):=by
 rw [aH0]
 simp
theorem aow {i j:Str}:decide (V.str i=V.str j)=(i == j):=by
 rw [aH0]
 simp
theorem aox {i j:Array UInt8}:decide (V.byt i=V.byt j)=(i.toList == j.toList):=by
 rw [aH0]
 cases i
 cases j
 simp
section
variable {X:Cx} {a b c:Expr} {ta tb tc:TE} {pos:Pos}
theorem aa1 {pins:List (Addr × Obj)} {σ:St} {H:Hp} {s:Shared} {Q:VK} {k a:Bool} (I:Inv X pins σ H s) (q:Q (.bl k) H) (e:k=a):EP X pins σ Q (.bool a) s:=by
 subst e
 exact ⟨.bl k,H,I,rfl,q⟩
theorem ad1:OpR X (compareOp .Eq) rEq:=by
 intro pins s σ H x y v u Q I c a h
 obtain ⟨b,q⟩:=h
 cases x with
 | non =>
  cases c
  cases y with
  | non=>cases a;exact PySem.EqNone.eq_none_none (aa1 I q (by simp))
  | bl j=>cases a;exact PySem.EqNone.eq_none_bool (aa1 I q (by simp))
  | int j=>obtain ⟨t',rfl⟩:=a;exact PySem.EqNone.eq_none_int (aa1 I q (by simp))
  | str j=>obtain ⟨t',rfl⟩:=a;exact PySem.EqNone.eq_none_str (aa1 I q (by simp))
  | _=>exact absurd (show false=true from b) aA9
 | bl i =>
  cases c
  cases y with
  | non=>cases a;exact PySem.EqNone.eq_bool_none (aa1 I q (by simp))
  | bl j=>cases a;exact eq_bool (aa1 I q arv)
  | str j=>obtain ⟨t',rfl⟩:=a;exact PySem.EqMixed.eq_bool_str (aa1 I q (by simp))
  | _=>exact absurd (show false=true from b) aA9
 | int i =>
  obtain ⟨t,rfl⟩:=c
  cases y with
  | non=>cases a;exact PySem.EqNone.eq_int_none (aa1 I q (by simp))
  | int j=>obtain ⟨t',rfl⟩:=a;exact eq_int (aa1 I q ahr)
  | str j=>obtain ⟨t',rfl⟩:=a;exact PySem.EqMixed.eq_int_str (aa1 I q (by simp))
  | _=>exact absurd (show false=true from b) aA9
 | str i =>
  obtain ⟨t,rfl⟩:=c
  cases y with
  | non=>cases a;exact PySem.EqNone.eq_str_none (aa1 I q (by simp))
  | bl j=>cases a;exact PySem.EqMixed.eq_str_bool (aa1 I q (by simp))
  | int j=>obtain ⟨t',rfl⟩:=a;exact PySem.EqMixed.eq_str_int (aa1 I q (by simp))
  | str j=>obtain ⟨t',rfl⟩:=a;exact eq_str (aa1 I q aow)
  | _=>exact absurd (show false=true from b) aA9
 | byt i =>
  obtain ⟨t,rfl⟩:=c
  cases y with
  | byt j=>obtain ⟨t',rfl⟩:=a;exact PySem.W.eq_bytes (aa1 I q aox)
  | _=>exact absurd (show false=true from b) aA9
 | _=>cases y <;> exact absurd (show false=true from b) aA9
theorem alz:OpR X (compareOp .NotEq) rNe:=by
 intro pins s σ H x y v u Q I c a h
 obtain ⟨b,q⟩:=h
 cases x with
 | non =>
  cases c
  cases y with
  | non=>cases a;exact PySem.EqNone.ne_none_none (aa1 I q (by simp))
  | bl j=>cases a;exact PySem.EqNone.ne_none_bool (aa1 I q (by simp))
  | int j=>obtain ⟨t',rfl⟩:=a;exact PySem.EqNone.ne_none_int (aa1 I q (by simp))
  | str j=>obtain ⟨t',rfl⟩:=a;exact PySem.EqNone.ne_none_str (aa1 I q (by simp))
  | _=>exact absurd (show false=true from b) aA9
 | bl i =>
  cases c
  cases y with
  | non=>cases a;exact PySem.EqNone.ne_bool_none (aa1 I q (by simp))
  | bl j=>cases a;exact ne_bool (aa1 I q (congrArg not arv))
  | str j=>obtain ⟨t',rfl⟩:=a;exact PySem.EqMixed.ne_bool_str (aa1 I q (by simp))
  | _=>exact absurd (show false=true from b) aA9
 | int i =>
  obtain ⟨t,rfl⟩:=c
  cases y with
  | non=>cases a;exact PySem.EqNone.ne_int_none (aa1 I q (by simp))
  | int j=>obtain ⟨t',rfl⟩:=a;exact ne_int (aa1 I q (congrArg not ahr))
  | str j=>obtain ⟨t',rfl⟩:=a;exact PySem.EqMixed.ne_int_str (aa1 I q (by simp))
  | _=>exact absurd (show false=true from b) aA9
 | str i =>
  obtain ⟨t,rfl⟩:=c
  cases y with
  | non=>cases a;exact PySem.EqNone.ne_str_none (aa1 I q (by simp))
  | bl j=>cases a;exact PySem.EqMixed.ne_str_bool (aa1 I q (by simp))
  | int j=>obtain ⟨t',rfl⟩:=a;exact PySem.EqMixed.ne_str_int (aa1 I q (by simp))
  | str j=>obtain ⟨t',rfl⟩:=a;exact ne_str (aa1 I q (congrArg not aow))
  | _=>exact absurd (show false=true from b) aA9
 | byt i =>
  obtain ⟨t,rfl⟩:=c
  cases y with
  | byt j=>obtain ⟨t',rfl⟩:=a;exact PySem.W.ne_bytes (aa1 I q (congrArg not aox))
  | _=>exact absurd (show false=true from b) aA9
 | _=>cases y <;> exact absurd (show false=true from b) aA9
theorem al0:OpR X (compareOp .Lt) (rI0 fun i j => .bl (decide (i < j))):=opB0 fun _ _ _ _ _ _ _ q=>lt_int q
theorem al1:OpR X (compareOp .LtE) (rI0 fun i j => .bl (decide (i<=j))):=opB0 fun _ _ _ _ _ _ _ q=>le_int q
theorem aiw:OpR X (compareOp .Gt) (rI0 fun i j => .bl (decide (j < i))):=opB0 fun _ _ _ _ _ _ _ q=>gt_int q
theorem a1n:OpR X (compareOp .GtE) (rI0 fun i j => .bl (decide (j<=i))):=opB0 fun _ _ _ _ _ _ _ q=>ge_int q
theorem azf:OpR X (compareOp .Is) (fun x y H Q=>y=.non/\Q (.bl (decide (x=.non))) H):=by
 intro pins s σ H x y v u Q I a b h
 obtain ⟨rfl,q⟩:=h
 cases b
 refine is_none_gen (aa1 I q ?_)
 cases x <;> first
  | (cases a;rfl)
  | (obtain ⟨t,rfl⟩:=a;rfl)
theorem awv:OpR X (compareOp .IsNot) (fun x y H Q=>y=.non/\Q (.bl (!decide (x=.non))) H):=by
 intro pins s σ H x y v u Q I a b h
 obtain ⟨rfl,q⟩:=h
 cases b
 refine isnot_none_gen (aa1 I q ?_)
 cases x <;> first
  | (cases a;rfl)
  | (obtain ⟨t,rfl⟩:=a;rfl)
theorem aau (b:Expr) {op:CmpOp} (h:op ≠ .In:=by decide) (a:op ≠ .NotIn:=by decide):behindInMarks op b=false:=by
 have c:(op == CmpOp.In)=false:=by cases op <;> first | rfl | exact absurd rfl h
 have e2:(op == CmpOp.NotIn)=false:=by cases op <;> first | rfl | exact absurd rfl a
 cases b <;> simp [behindInMarks,c,e2]
theorem ado {op:CmpOp} {r:R2} (f:OpR X (compareOp op) r) (ha:PE X a ta) (hb:PE X b tb) (hm:behindInMarks op b=false):PE X (.Compare a [op] [b] pos) (tOp r ta tb):=by
 intro pins s σ H Q I h
 exact wpAny_Compare1 (binT ha hb I h fun v u s2 x y H2 g c d q=>f pins s2 σ H2 x y v u Q g c d q) hm
def al2 (t:TE):TT:=fun σ H Q=>t σ H fun x H'=>∃ k,x=.bl k/\Q k H'
theorem aat {op:CmpOp} {r:R2} (j:OpR X (compareOp op) r) (ha:PE X a ta) (hb:PE X b tb) (hm:behindInMarks op b=false):PT X (.Compare a [op] [b] pos) (al2 (tOp r ta tb)):=by
 intro pins s σ H Q I h
 refine wpAny_isTrue_Compare1 (thn (ha pins s σ H _ I h) fun v s1 ⟨x,n,o,f,g⟩=>thn (hb pins s1 σ n _ o g) fun u s2 ⟨y,H2,p,m,i⟩ =>
  thn (j pins s2 σ H2 x y v u _ p f m i) fun c w ⟨z,H3,l,q,k,e,d⟩=>?_) hm
 subst e
 cases q
 exact aJ2 ⟨H3,l,d⟩
def aix (r r':R2) (ta tb tc:TE):TE:=fun σ H Q=>ta σ H fun x H1=>tb σ H1 fun y H2=>r x y H2 fun z H3=>∃ k,z=.bl k /\
 (if k=true then tc σ H3 fun w' H4=>r' y w' H4 Q else Q (.bl false) H3)
theorem at7 {op f:CmpOp} {r m:R2} (E:OpR X (compareOp op) r) (g:OpR X (compareOp f) m) (ha:PE X a ta) (hb:PE X b tb) (C:PE X c tc)
  (hm:lastMarks [op,f] [b,c]=false:=by with_unfolding_all rfl):PE X (.Compare a [op,f] [b,c] pos) (aix r m ta tb tc):=by
 intro pins s σ H Q I h
 refine Compare_chain (thn (ha pins s σ H _ I h) fun v s1 ⟨x,G,K,A,B⟩=>chain_link (thn (hb pins s1 σ G _ K B) fun u s2 ⟨y,H2,L,l,D⟩ =>
  thn (E pins s2 σ H2 x y v u _ L A l D) fun d N ⟨z,H3,j,M,k,e,i⟩=>?_)) hm
 subst e
 cases M
 refine aJ2 ?_
 cases k with
 | false=>exact ite_ff ⟨.bl false,H3,j,rfl,i⟩
 | true=>exact ite_tt (chain_last (thn (C pins N σ H3 _ j i) fun p o ⟨w,q,n,J,F⟩=>g pins o σ q y w u p Q n l J F))
theorem at8 {op f:CmpOp} {r m:R2} (J:OpR X (compareOp op) r) (g:OpR X (compareOp f) m) (ha:PE X a ta) (hb:PE X b tb) (D:PE X c tc)
  (hm:lastMarks [op,f] [b,c]=false:=by with_unfolding_all rfl):PT X (.Compare a [op,f] [b,c] pos) (al2 (aix r m ta tb tc)):=by
 intro pins s σ H Q I h
 refine isTrue_chain (thn (ha pins s σ H _ I h) fun v s1 ⟨x,M,P,B,C⟩=>test_link (thn (hb pins s1 σ M _ P C) fun u s2 ⟨y,H2,S,l,E⟩ =>
  thn (J pins s2 σ H2 x y v u _ S B l E) fun d U ⟨z,H3,j,T,k,e,i⟩=>?_)) hm
 subst e
 cases T
 refine aJ2 ?_
 cases k with
 | false =>
  obtain ⟨Z,R,w⟩:=i
  cases R
  exact ite_ff ⟨H3,j,w⟩
 | true =>
  refine ite_tt (test_last (thn (D pins U σ H3 _ j i) fun p o ⟨A,q,n,O,K⟩=>thn (g pins o σ q y A u p _ n l O K) fun d' Y ⟨z2,L,G,F,W,e2,N⟩=>?_))
  subst e2
  cases F
  exact aJ2 ⟨L,G,N⟩
def TruV (K:Frag) (x:V) (H:Hp) (k:Bool):Prop :=
 match x with
 | .non=>k=false
 | .bl b=>k=b
 | .int i=>k=(i != 0)
 | .str y=>y.length<=sizeLine/\k=((y.length:Int) != 0)
 | .byt y=>y.size<=sizeLine/\k=((y.size:Int) != 0)
 | .ref p=>(∃ xs,SqL K H p xs/\k = !xs.isEmpty)\/(∃ xs,SqT K H p xs/\k = !xs.isEmpty)\/∃ kvs,H p=some (.dK kvs)/\k = !kvs.isEmpty
 | _=>False
theorem aqf {κ:Type} {kvs:List (κ × V)} {vs:List (κ × Value)} (r:KV kvs vs):(!vs.isEmpty) = !kvs.isEmpty:=by
 cases r <;> rfl
theorem aiy {xs:List V} {its:List Value} (r:Vals xs its):(!its.toArray.isEmpty) = !xs.isEmpty:=by
 cases r <;> simp
theorem ag0:(sizeLine:Nat) < 2 ^ 63:=by rw [sizeLine_eq];decide
theorem azg:TruR X (fun x H Q=>∃ k,TruV X.K x H k/\Q k H):=by
 intro pins s σ H x v Q I d h
 obtain ⟨k,e,q⟩:=h
 have l:=ag0
 have n:sizeLine=16777216:=sizeLine_eq
 cases x with
 | non =>
  cases d
  have a:k=false:=e
  subst a
  exact truthy_none ⟨H,I,q⟩
 | bl b =>
  cases d
  have a:k=b:=e
  subst a
  exact aJ2 ⟨H,I,q⟩
 | int i =>
  obtain ⟨t,rfl⟩:=d
  have a:k=(i != 0):=e
  subst a
  exact PySem.P.truthy_int ⟨H,I,q⟩
 | str y =>
  obtain ⟨t,rfl⟩:=d
  obtain ⟨j,a⟩:y.length<=sizeLine/\k=((y.length:Int) != 0):=e
  subst a
  exact PySem.P.truthy_str (by lia) ⟨H,I.tok _,q⟩
 | byt y =>
  obtain ⟨t,rfl⟩:=d
  obtain ⟨j,a⟩:y.size<=sizeLine/\k=((y.size:Int) != 0):=e
  subst a
  exact PySem.W.truthy_bytes (by lia) ⟨H,I.tok _,q⟩
 | ref p =>
  cases d
  have a:(∃ xs,SqL X.K H p xs/\k = !xs.isEmpty)\/(∃ xs,SqT X.K H p xs/\k = !xs.isEmpty)\/∃ kvs,H p=some (.dK kvs)/\k = !kvs.isEmpty:=e
  rcases a with ⟨xs,f,a⟩ | ⟨xs,f,a⟩ | ⟨kvs,f,a⟩
  ·subst a
   obtain ⟨its,r,pl,hz⟩:=I.list f
   have c:=r.length
   exact wpAny_truthy_list pl.isList (by simp only [aB1];lia) ⟨H,I.tok _,by rw [aiy r];exact q⟩
  ·subst a
   obtain ⟨its,r,pl,hz⟩:=I.tuple f
   have c:=r.length
   exact truthy_tuple pl (by simp only [aB1];lia) ⟨H,I.tok _,by rw [aiy r];exact q⟩
  ·subst a
   obtain ⟨hz,g,vs,r,m⟩:kvs.length<=sizeLine/\(p == sysModules)=false/\∃ vs,KV kvs vs/\s.heap.DictOf (aba X.prog X.w) p vs:=I.hok p _ f
   have c:kvs.length=vs.length:=Paired.length r
   exact wpAny_truthy_dict g m (by lia) ⟨H,I.tok _,by rw [aqf r];exact q⟩
 | _=>exact (show False from e).elim
theorem at9 (ha:PE X a ta) (f:∀ whole,isTrue a X.env whole=(do let v ← whole;standAt a.pos;holding [v] (truthy v))) :
  PT X a (fun σ H Q=>ta σ H fun x H'=>∃ k,TruV X.K x H' k/\Q k H'):=by
 intro pins s σ H Q I h
 exact isTrue_plain (thn (ha pins s σ H _ I h) fun v s1 ⟨x,d,g,b,c⟩=>azg pins s1 σ d x v Q g b c) (f _)
theorem ac0 {x:V} {us:List Value} (r:Vals [x] us):∃ u,us=[u]/\RelV x u:=by
 cases r with
 | cons r1 r2=>cases r2;exact ⟨_,rfl,r1⟩
theorem aqg {x y:V} {us:List Value} (r:Vals [x,y] us):∃ u a,us=[u,a]/\RelV x u/\RelV y a:=by
 cases r with
 | cons r1 r2 =>
  cases r2 with
  | cons r3 r4=>cases r4;exact ⟨_,_,rfl,r1,r3⟩
theorem arw (a:X.calm=true):abd X (.builtin "max") (fun xs H Q=>∃ i j,xs=[.int i,.int j]/\Q (.int (if j > i then j else i)) H):=by
 intro pins s σ H xs us Q I r h
 obtain ⟨i,j,rfl,q⟩:=h
 obtain ⟨u,b,rfl,⟨t,rfl⟩,⟨t',rfl⟩⟩:=aqg r
 refine max_two_ints (I.ok.hd a) fun h' c k=>⟨_,H,I.kept k,?_,q⟩
 by_cases hj:j > i
 ·rw [aE7 hj,aE7 hj];exact ⟨_,rfl⟩
 ·rw [aE8 hj,aE8 hj];exact ⟨_,rfl⟩
theorem arx (a:X.calm=true):abd X (.builtin "min") (fun xs H Q=>∃ i j,xs=[.int i,.int j]/\Q (.int (if j < i then j else i)) H):=by
 intro pins s σ H xs us Q I r h
 obtain ⟨i,j,rfl,q⟩:=h
 obtain ⟨u,b,rfl,⟨t,rfl⟩,⟨t',rfl⟩⟩:=aqg r
 refine min_two_ints (I.ok.hd a) fun h' c k=>⟨_,H,I.kept k,?_,q⟩
 by_cases hj:j < i
 ·rw [aE7 hj,aE7 hj];exact ⟨_,rfl⟩
 ·rw [aE8 hj,aE8 hj];exact ⟨_,rfl⟩
theorem ary:abd X (.type "int") (fun xs H Q=>(∃ i,xs=[.int i]/\Q (.int i) H)\/∃ k,xs=[.bl k]/\Q (.int (if k then 1 else 0)) H):=by
 intro pins s σ H xs us Q I r h
 rcases h with ⟨i,rfl,q⟩ | ⟨k,rfl,q⟩
 ·obtain ⟨u,rfl,t,rfl⟩:=ac0 r
  exact call_int_int ⟨.int i,H,I,⟨_,rfl⟩,q⟩
 ·obtain ⟨u,rfl,a⟩:=ac0 r
  cases a
  exact call_int_bool ⟨.int (if k then 1 else 0),H,I.tok _,⟨_,rfl⟩,q⟩
end
structure ObjM (h:Heap) (x dx C:Addr) (mA:Str->Option Value):Prop where
 obj:h.get? x=some (PySem.W.instObj C dx)
 ns:h.Ns1 dx mA
 ne:dx ≠ x
theorem arz {h:Heap} {dx:Addr} {mA:Str->Option Value} (n:h.Ns1 dx mA):∃ od,h.get? dx=some od/\∀ name,PySem.W.lookIn name od=some (mA name):=by
 obtain ⟨o,es,i,d,hd,c,_,hm⟩:=n
 refine ⟨o,d,fun name=>?_⟩
 have e:=hm name
 unfold nsFind findBy at e
 rw [← Array.find?_toList] at e
 unfold PySem.W.lookIn
 rw [hd]
 dsimp only
 split
 ·rename_i y q
  rw [q] at e
  exact congrArg some e
 ·rename_i q
  rw [q] at e
  have a:es.toList.any (·.refKey)=false:=by
   rw [List.any_eq_false]
   intro y g
   obtain ⟨z,t,b⟩:=c y (Array.mem_toList_iff.mp g)
   simp [DictEntry.refKey,b]
  have f:¬ es.toList.any (·.refKey)=true:=by rw [a];exact aA9
  rw [aE8 f]
  exact congrArg some e
theorem ObjM.look {h:Heap} {x dx C:Addr} {mA:Str->Option Value} (I:ObjM h x dx C mA):∃ od,PySem.W.InstAt h x (PySem.W.instObj C dx) C (some od)/\∀ name,PySem.W.lookIn name od=some (mA name) :=
 let ⟨od,a,b⟩:=arz I.ns
 ⟨od,⟨I.obj,rfl,rfl,a⟩,b⟩
section
variable {prog:Program} {w:World} {A:Around} {E:Value->Shared->Prop} {s:Shared} {K:Frag} {x dx C f:Addr} {mA:Str->Option Value} {name:Str} {v:Value}
theorem aww {a:Bool} {Q:Value->Shared->Prop} (X:K.In s.heap) (I:ObjM s.heap x dx C mA) (d:PySem.W.plainGet K C name=true) (hh:PySem.W.hasDictIn K C=true)
  (ha:PySem.W.findIn K (.ref C) name=some none) (c:mA name=some v) (b:PySem.W.handedIn v=true) (h:Q v { s with toks:=s.toks+1 }) :
  wpAny (model prog w) A (getAttr (.ref x) name a) Q E s:=by
 obtain ⟨od,J,f⟩:=I.look
 exact PySem.W.get_value X J (PySem.W.plainGet_of d).1 (PySem.W.findObj_own hh ha rfl (by rw [f,c])) b h
theorem aua {pl:Sem Bool} {Q:Value × List Value->Shared->Prop} (X:K.In s.heap) (I:ObjM s.heap x dx C mA) (a:PySem.W.plainGet K C name=true)
  (hf:PySem.W.findIn K (.ref C) name=some (some (.ref f))) (c:PySem.W.isFn K (.ref f)=true) (b:mA name=none) (h:Q (.ref f,[.ref x]) s) :
  wpAny (model prog w) A (getMethod (.ref x) name pl) Q E s:=by
 obtain ⟨od,J,d⟩:=I.look
 exact PySem.W.method_fn X J (PySem.W.plainGet_of a).1 (PySem.W.plainGet_of a).2 hf (aF5.mp c) (by show (PySem.W.lookIn name od).map (·.isSome)=some false;rw [d,b];rfl) h
theorem awx {ns:List Str} {Q:Unit->Shared->Prop} (X:K.In s.heap) (I:ObjM s.heap x dx C mA)
  (o:PySem.W.findIn K (.ref C) "__setattr__" = some (some (.builtin "object.__setattr__"))) (m:PySem.W.plainOver K C=true) (u:PySem.W.takerIn K C name=some none) (hh:PySem.W.hasDictIn K C=true)
  (z:PySem.Within mA ns) (hsz:ns.length<=sizeLine)
  (h:∀ h',ObjM h' x dx C (fun y=>if y=name then some v else mA y)->Heap.SameBut dx s.heap h'->Q () { s with heap:=h',toks:=s.toks+2 }) :
  wpAny (model prog w) A (setAttr (.ref x) name v) Q E s:=by
 obtain ⟨od,J,B⟩:=I.look
 refine PySem.W.set_plain X J o (PySem.W.osa_open (s:={ s with toks:=s.toks+1 }) (r:=none) X J m u fun b=>?_)
 obtain ⟨D,p,j⟩:=PySem.W.any_some hh
 have q:s.heap.get? x=some ⟨.ref C,some dx,.plain,#[]⟩:=I.obj
 refine aI0 (aI1 (aI0 (aI0 (wpAny_loadPart q (aI0 (PySem.W.Looks.here (s:={ s with toks:=s.toks+1 }) (PySem.W.looks_clsIn X p) ?_))))))
 rw [j]
 refine aI1 (a:=some dx) (aI0 (aI1 (aI0 ?_)))
 refine wpAny_nsSet1 (s:={ s with toks:=s.toks+1 }) I.ns fun h' d c=>?_
 obtain ⟨oD,n,l,f,i,g⟩:=d.count (PySem.Within.cons name v z)
 refine aI0 (wpAny_lookBehind f (by rw [i];exact pastItsLine_dict (aC9 g (by rw [aE0];lia))) ?_)
 exact aI1 (h _ ⟨(c.2 _ (Ne.symm I.ne)).trans I.obj,d,I.ne⟩ c)
theorem aub {R:Result->Shared->Prop} {vs:List Value} {a:List (Str × Value)} (X:K.In s.heap) (hm:PySem.W.makesIn K C=true)
  (hi:PySem.W.findIn K (.ref C) "__init__" = some (some (.ref f))) (hf:PySem.W.typeIn K (.ref f)=some (.type "function"))
  (h:codeAny (model prog w) (A.under (.builtin "type.__call__" ⟨.ref C :: vs,a⟩)) (.call (.ref f) ⟨.ref (s.heap.objs.size+1) :: vs,a⟩) (PySem.W.InitBack (s.heap.objs.size+1) R)
   { s with heap:=(s.heap.push PySem.W.emptyDict).push (PySem.W.instObj C s.heap.objs.size) }) :
  codeAny (model prog w) A (.call (.ref C) ⟨vs,a⟩) R s:=by
 obtain ⟨hh,g,d,t,os⟩:=s
 exact PySem.W.make_core (PySem.W.makes_of X hm) (PySem.W.looks_findIn X hi) (fun self=>PySem.W.bind_fn X self hf) (.inl rfl) h
end
def putF (f:Str) (v:V):List (Str × V)->List (Str × V)
 | []=>[(f,v)]
 | (g,x) :: r=>if g=f then (g,v) :: r else (g,x) :: putF f v r
theorem ah7 (f g:Str) (v:V):∀ fs:List (Str × V),(putF f v fs).lookup g=if g=f then some v else fs.lookup g
 | []=>by
  show List.lookup g [(f,v)]=_
  by_cases h:g=f
  ·have hb:(g == f)=true:=aF5.mpr h
   simp only [List.lookup,hb,aE7 h]
  ·have hb:(g == f)=false:=beq_eq_false_iff_ne.mpr h
   simp only [List.lookup,hb,aE8 h]
 | (k,x) :: r=>by
  have a:=ah7 f g v r
  rw [show putF f v ((k,x) :: r)=(if k=f then (k,v) :: r else (k,x) :: putF f v r) from rfl]
  by_cases hk:k=f
  ·rw [aE7 hk]
   by_cases h:g=k
   ·have hb:(g == k)=true:=aF5.mpr h
    simp only [List.lookup,hb,aE7 (h.trans hk)]
   ·have hb:(g == k)=false:=beq_eq_false_iff_ne.mpr h
    simp only [List.lookup,hb,aE8 (fun e:g=f=>h (e.trans hk.symm))]
  ·rw [aE8 hk]
   by_cases h:g=k
   ·have hb:(g == k)=true:=aF5.mpr h
    simp only [List.lookup,hb,aE8 (fun e:g=f=>hk (h.symm.trans e))]
   ·have hb:(g == k)=false:=beq_eq_false_iff_ne.mpr h
    simp only [List.lookup,hb]
    exact a
theorem ag1 (f:Str) (v:V):∀ fs:List (Str × V),f∈(putF f v fs).map (·.1)/\∀ g,g∈fs.map (·.1)->g∈(putF f v fs).map (·.1)
 | []=>⟨by simp [putF],fun g h=>by simp at h⟩
 | (k,x) :: r=>by
  obtain ⟨b,a⟩:=ag1 f v r
  rw [show putF f v ((k,x) :: r)=(if k=f then (k,v) :: r else (k,x) :: putF f v r) from rfl]
  by_cases hk:k=f
  ·rw [aE7 hk]
   subst hk
   exact ⟨by simp,fun g h=>by simpa using h⟩
  ·rw [aE8 hk]
   refine ⟨?_,fun g h=>?_⟩
   ·rw [aD0]
    exact aB4 _ b
   ·rw [aD0] at h ⊢
    rcases aA8.mp h with e | e
    ·exact aA8.mpr (.inl e)
    ·exact aB4 _ (a g e)
theorem ah8 (f:Str) (v:V):∀ fs:List (Str × V),(putF f v fs).length<=fs.length+1
 | []=>by simp [putF]
 | (k,x) :: r=>by
  have a:=ah8 f v r
  rw [show putF f v ((k,x) :: r)=(if k=f then (k,v) :: r else (k,x) :: putF f v r) from rfl]
  by_cases hk:k=f
  ·rw [aE7 hk,aE0,aE0];lia
  ·rw [aE8 hk,aE0,aE0];lia
theorem RelO.some_of {v:V} {o:Option Value} (r:RelO (some v) o):∃ u,o=some u/\RelV v u:=by
 cases o with
 | none=>exact (show False from r).elim
 | some u=>exact ⟨u,rfl,r⟩
theorem RelO.none_of {o:Option Value} (r:RelO none o):o=none:=by
 cases o with
 | none=>rfl
 | some u=>exact (show False from r).elim
theorem ar0 {v:V} {u:Value} (r:RelV v u):PySem.W.handedIn u=true:=by
 cases v with
 | non=>cases (show u=Value.none from r);rfl
 | bl b=>cases (show u=Value.bool b from r);rfl
 | int i=>obtain ⟨t,e⟩:=(show ∃ t,u=Value.int i t from r);cases e;rfl
 | str x=>obtain ⟨t,e⟩:=(show ∃ t,u=Value.str x t from r);cases e;rfl
 | byt b=>obtain ⟨t,e⟩:=(show ∃ t,u=Value.bytes b t from r);cases e;rfl
 | flt b=>obtain ⟨t,e⟩:=(show ∃ t,u=Value.float b t from r);cases e;rfl
 | ref a=>cases (show u=Value.ref a from r);rfl
 | ty n=>cases (show u=Value.type n from r);rfl
section
variable {P:Program} {w:World} {H H':Hp} {h h':Heap} {a C dx:Addr} {fs fs':List (Str × V)}
theorem ahs (hok:HOk P w H h) (e:H a=some (.ins C dx fs)):∃ mA,ObjM h a dx C mA/\(∀ f,RelO (fs.lookup f) (mA f))/\PySem.Within mA (fs.map (·.1))/\fs.length<=1000/\H dx=some (.own a):=by
 obtain ⟨d,z,ne,b,mA,n,r,q⟩:=(show ObjOk P w H h a (.ins C dx fs) from hok a _ e)
 exact ⟨mA,⟨b,n,ne⟩,r,q,z,d⟩
end
structure Cls (K:Frag) (C:Addr):Prop where
 pg:PySem.W.plainGet K C Str.empty=true
 hd:PySem.W.hasDictIn K C=true
 po:PySem.W.plainOver K C=true
 sa:PySem.W.findIn K (.ref C) "__setattr__" = some (some (.builtin "object.__setattr__"))
theorem Cls.get {K:Frag} {C:Addr} (c:Cls K C) (f:Str):PySem.W.plainGet K C f=true:=c.pg
def NoAttr (K:Frag) (C:Addr) (f:Str):Prop:=PySem.W.findIn K (.ref C) f=some none
theorem NoAttr.taker {K:Frag} {C:Addr} {f:Str} (n:NoAttr K C f):PySem.W.takerIn K C f=some none:=by
 unfold PySem.W.takerIn
 rw [show PySem.W.findIn K (.ref C) f=some none from n]
 rfl
structure Meth (K:Frag) (C:Addr) (m:Str) (f:Addr):Prop where
 at_:PySem.W.findIn K (.ref C) m=some (some (.ref f))
 fn:PySem.W.isFn K (.ref f)=true
 kp:keepIn K (.ref f)=true
section
variable {X:Cx} {pins:List (Addr × Obj)} {σ:St} {H:Hp} {s:Shared} {a C dx:Addr} {fs:List (Str × V)} {f:Str} {v:V} {A:Around} {E:Value->Shared->Prop}
theorem aqh {b:Bool} {Q:Value->Shared->Prop} (I:Inv X pins σ H s) (e:H a=some (.ins C dx fs)) (c:Cls X.K C) (n:NoAttr X.K C f) (l:fs.lookup f=some v)
  (h:∀ u d,Inv X pins σ H d->RelV v u->Q u d):wpAny (model X.prog X.w) A (getAttr (.ref a) f b) Q E s:=by
 obtain ⟨mA,O,r,_,_,_⟩:=ahs I.hok e
 obtain ⟨u,i,g⟩:=RelO.some_of (v:=v) (o:=mA f) (by rw [← l];exact r f)
 exact aww I.kIn O (c.get f) c.hd n i (ar0 g) (h u _ (I.tok _) g)
theorem aiz {m:Str} {g:Addr} {pl:Sem Bool} {Q:Value × List Value->Shared->Prop} (I:Inv X pins σ H s) (e:H a=some (.ins C dx fs)) (c:Cls X.K C) (k:Meth X.K C m g) (l:fs.lookup m=none)
  (h:Q (.ref g,[.ref a]) s):wpAny (model X.prog X.w) A (getMethod (.ref a) m pl) Q E s:=by
 obtain ⟨mA,O,r,_,_,_⟩:=ahs I.hok e
 have hn:mA m=none:=RelO.none_of (by rw [← l];exact r m)
 exact aua I.kIn O (c.get m) k.at_ k.fn hn h
theorem aqi {y:V} {u:Value} {Q:Unit->Shared->Prop} (I:Inv X pins σ H s) (e:H a=some (.ins C dx fs)) (c:Cls X.K C) (n:NoAttr X.K C f) (B:fs.length < 1000) (m:RelV y u)
  (h:∀ j,Inv X pins σ (upd H a (.ins C dx (putF f y fs))) j->Q () j):wpAny (model X.prog X.w) A (setAttr (.ref a) f u) Q E s:=by
 obtain ⟨mA,O,r,i,_,l⟩:=ahs I.hok e
 have hz:(fs.map (·.1)).length<=sizeLine:=by rw [aA3,sizeLine_eq];lia
 refine awx I.kIn O c.sa c.po n.taker c.hd i hz fun h' d sb=>h _ ?_
 have hd:∃ o,h'.get? dx=some o:=let ⟨o,_,_,v,_⟩:=d.ns;⟨o,v⟩
 refine I.write (x:=a) (e:=dx) (by rw [e];exact True.intro) (.inr l) (fun b q hb z=>(sb.2 b hb).trans z) hd ?_
 refine ⟨by rw [aae O.ne];exact l,?_,O.ne,d.obj,_,d.ns,fun g=>?_,fun g p=>?_⟩
 ·have:=ah8 f y fs;lia
 ·show RelO ((putF f y fs).lookup g) (if g=f then some u else mA g)
  rw [ah7]
  by_cases q:g=f
  ·rw [aE7 q,aE7 q];exact m
  ·rw [aE8 q,aE8 q];exact r g
 ·by_cases q:g=f
  ·rw [q];exact (ag1 f y fs).1
  ·refine (ag1 f y fs).2 g (i g fun z=>p ?_)
   show (if g=f then some u else mA g)=none
   rw [aE8 q];exact z
theorem Inv.made (I:Inv X pins σ H s):Inv X pins σ (upd (upd H s.heap.objs.size (.own (s.heap.objs.size+1))) (s.heap.objs.size+1) (.ins C s.heap.objs.size []))
  { s with heap:=(s.heap.push PySem.W.emptyDict).push (PySem.W.instObj C s.heap.objs.size) }:=by
 have c:(s.heap.push PySem.W.emptyDict).get? s.heap.objs.size=some PySem.W.emptyDict:=aI4 s.heap rfl
 have e2:((s.heap.push PySem.W.emptyDict).push (PySem.W.instObj C s.heap.objs.size)).get? (s.heap.objs.size+1)=some (PySem.W.instObj C s.heap.objs.size):=by
  have:=aI4 (s.heap.push PySem.W.emptyDict) (o:=PySem.W.instObj C s.heap.objs.size) rfl
  rwa [aJ0] at this
 have f:(s.heap.push PySem.W.emptyDict).Ns s.heap.objs.size (fun _=>none):=⟨PySem.W.emptyDict,#[],_,c,rfl,(fun e d=>absurd d (by simp)),fun _=>rfl⟩
 have h:=I.laid (a:=s.heap.objs.size) (o:=.own (s.heap.objs.size+1)) (h':=s.heap.push PySem.W.emptyDict) (t':=s.toks) (fun b u q=>aI2 _ q) (aA6 _) ⟨_,c⟩
 refine h.laid (a:=s.heap.objs.size+1) (o:=.ins C s.heap.objs.size []) (t':=s.toks) (fun b u q=>aI2 _ q) (Nat.le_of_eq (aJ0 _ _)) ?_
 have ne:s.heap.objs.size ≠ s.heap.objs.size+1:=aB5 (aH8 _)
 refine ⟨by rw [aae ne,aah],aF2 _,ne,e2,fun _=>none,(Heap.Ns1.of_empty f).at fun o q=>aI2 _ q,fun _=>True.intro,fun y g=>absurd rfl g⟩
theorem awy {prog:Program} {w:World} {env:Env} {e:Expr} {f:Str} {b:Pos} {s:Shared} {Q:Value->Shared->Prop} (hb:attributeBase e f env (eval e env)=eval e env)
  (h:wpAny (model prog w) A (eval e env) (fun o a=>wpAny (model prog w) A (getAttr o f true) Q E a) E s):wpAny (model prog w) A (eval (.Attribute e f b) env) Q E s :=
 Attribute_any_ h (by rw [arm_eval_Attribute,hb])
end
def tFld (K:Frag) (ta:TE) (f:Str):TE:=fun σ H Q=>ta σ H fun x H1=>∃ a C dx fs v,x=.ref a/\H1 a=some (.ins C dx fs)/\Cls K C/\NoAttr K C f/\fs.lookup f=some v/\Q v H1
def sFld (K:Frag) (ta tv:TE) (f:Str):TS:=fun D σ H=>tv σ H fun y H1=>ta σ H1 fun x H2=>∃ a C dx fs,x=.ref a/\H2 a=some (.ins C dx fs)/\Cls K C/\NoAttr K C f/\fs.length < 1000 /\
 D.nx σ (upd H2 a (.ins C dx (putF f y fs)))
section
variable {X:Cx} {o e value:Expr} {f:Str} {pos pos' tpos:Pos} {ta tv:TE}
theorem aew (i:PE X e ta) (hb:attributeBase e f X.env (eval e X.env)=eval e X.env):PE X (.Attribute e f pos) (tFld X.K ta f):=by
 intro pins s σ H Q I h
 refine awy hb (thn (i pins s σ H _ I h) fun u s1 ⟨x,g,m,b,a,C,dx,fs,v,ex,d,c,n,l,q⟩=>?_)
 subst ex
 obtain rfl:u=Value.ref a:=b
 exact aqh m d c n l fun p s2 o j=>⟨v,g,o,j,q⟩
theorem ar1 (ha:PE X o ta) (r:PE X value tv) (i:swapsWith value (some (.Attribute o f pos')) pos.line X.env=pure false):PS X (.Assign [.Attribute o f pos'] value pos) (sFld X.K ta tv f):=by
 intro pins s σ H D I h
 refine plainObj_wpAny_Assign_Attribute (thn (r pins s σ H _ I h) fun u s1 ⟨y,p,v,g,q⟩=>thn (ha pins s1 σ p _ v q) fun b s2 ⟨x,H2,w,d,a,C,dx,fs,ex,j,c,n,l,z⟩=>?_) i
 subst ex
 obtain rfl:b=Value.ref a:=d
 exact aqi w j c n l g fun A m=>⟨σ,_,m,z⟩
end
section
variable {X:Cx} {pins:List (Addr × Obj)} {σ:St} {H:Hp} {s:Shared} {A:Around} {E:Value->Shared->Prop} {Q:Value->Shared->Prop} {c:Value} {b:Bool}
inductive TyOf (K:Frag) (H:Hp):V->Value->Prop where
 | non:TyOf K H .non (.type "NoneType")
 | bl (x:Bool):TyOf K H (.bl x) (.type "bool")
 | int (i:Int):TyOf K H (.int i) (.type "int")
 | str (x:Str):TyOf K H (.str x) (.type "str")
 | flt (x:UInt64):TyOf K H (.flt x) (.type "float")
 | lst {a:Addr} {xs:List V} (e:H a=some (.lst xs)):TyOf K H (.ref a) (.type "list")
 | frz {a:Addr} {o:Obj} {xs:List V} (e:H a=some (.frz o (.lst xs))):TyOf K H (.ref a) (.type "list")
 | tup {a:Addr} {xs:List V} (e:H a=some (.tup xs)):TyOf K H (.ref a) (.type "tuple")
 | dK {a:Addr} {kvs:List (Key × V)} (e:H a=some (.dK kvs)):TyOf K H (.ref a) (.type "dict")
 | dT {a:Addr} {kvs:List (List Key × V)} (e:H a=some (.dT kvs)):TyOf K H (.ref a) (.type "dict")
 | ins {a C dx:Addr} {fs:List (Str × V)} (e:H a=some (.ins C dx fs)) (cl:Cls K C) (ha:PySem.W.findIn K (.ref C) "__class__" = some (some (.builtin "object.__class__")))
   (hn:PySem.W.specialIn K (.builtin "object.__class__") "__get__" = some (some (.builtin "getset_descriptor.__get__"))) (htk:PySem.W.takesIn K (.builtin "object.__class__")=some true)
   (hm:mroIn K C (.type "object")=some true):TyOf K H (.ref a) (.ref C)
theorem ar2 {x:V} {u t:Value} (I:Inv X pins σ H s) (d:RelV x u) (ty:TyOf X.K H x t) (e:kitOne X.K t c=some b) (h:∀ l,Q (.bool b) { s with toks:=l }) :
  wpAny (model X.prog X.w) A (call (.builtin "isinstance") [u,c]) Q E s:=by
 cases ty with
 | non=>cases (show u=Value.none from d);exact PySem.W.kia_one PySem.W.kitx_none I.kIn True.intro e (fun z=>nomatch z) h
 | bl y=>cases (show u=Value.bool y from d);exact PySem.W.kia_one PySem.W.kitx_bool I.kIn True.intro e (fun z=>nomatch z) h
 | int i=>obtain ⟨t,q⟩:=(show ∃ t,u=Value.int i t from d);cases q;exact PySem.W.kia_one PySem.W.kitx_int I.kIn True.intro e (fun z=>nomatch z) h
 | str y=>obtain ⟨t,q⟩:=(show ∃ t,u=Value.str y t from d);cases q;exact PySem.W.kia_one PySem.W.kitx_str I.kIn True.intro e (fun z=>nomatch z) h
 | flt y=>obtain ⟨t,q⟩:=(show ∃ t,u=Value.float y t from d);cases q;exact PySem.W.kia_one PySem.W.kitx_float I.kIn True.intro e (fun z=>nomatch z) h
 | @lst a xs ea =>
  cases (show u=Value.ref a from d)
  obtain ⟨_,_,n,_,f⟩:=(show ObjOk X.prog X.w H s.heap a (.lst xs) from I.hok a _ ea)
  exact PySem.W.kia_one PySem.W.kitx_list I.kIn ⟨_,f,rfl⟩ e (fun z=>nomatch z) h
 | @frz a ob xs ea =>
  cases (show u=Value.ref a from d)
  obtain ⟨_,_,_,n,_,f⟩:=(show ObjOk X.prog X.w H s.heap a (.frz ob (.lst xs)) from I.hok a _ ea)
  exact PySem.W.kia_one PySem.W.kitx_list I.kIn ⟨_,f,rfl⟩ e (fun z=>nomatch z) h
 | @tup a xs ea =>
  cases (show u=Value.ref a from d)
  obtain ⟨_,_,_,p⟩:=(show ObjOk X.prog X.w H s.heap a (.tup xs) from I.hok a _ ea)
  obtain ⟨o,f,g,_⟩:=p
  exact PySem.W.kia_one PySem.W.kitx_tuple I.kIn ⟨o,f,g⟩ e (fun z=>nomatch z) h
 | @dK a kvs ea =>
  cases (show u=Value.ref a from d)
  obtain ⟨_,_,vs,_,p⟩:=(show ObjOk X.prog X.w H s.heap a (.dK kvs) from I.hok a _ ea)
  obtain ⟨o,es,j,f,g,_⟩:=p
  exact PySem.W.kia_one PySem.W.kitx_dict I.kIn ⟨o,f,g.1⟩ e (fun z=>nomatch z) h
 | @dT a kvs ea =>
  cases (show u=Value.ref a from d)
  obtain ⟨_,_,xs,_,o,es,j,f,g,_⟩:=(show ObjOk X.prog X.w H s.heap a (.dT kvs) from I.hok a _ ea)
  exact PySem.W.kia_one PySem.W.kitx_dict I.kIn ⟨o,f,g.1⟩ e (fun z=>nomatch z) h
 | @ins a C dx fs ea cl ha hn htk hm =>
  cases (show u=Value.ref a from d)
  obtain ⟨mA,O,_⟩:=ahs I.hok ea
  obtain ⟨od,J,_⟩:=O.look
  exact PySem.W.kia_one (PySem.W.kitx_own (cl.get _) cl.hd ha hn htk hm) I.kIn J e (fun z=>nomatch z) h
end
structure Room (k:Nat) (A:Around):Prop where
 hd:A.handled=none
 dp:A.depth+3 * k+5 < recursionLimit
 un:A.units+16 * k+200 < cLine
theorem Room.mono {j k:Nat} {A:Around} (r:Room k A) (h:j<=k):Room j A:=⟨r.hd,by have:=r.dp;lia,by have:=r.un;lia⟩
theorem Room.deeper {k:Nat} {A:Around} (r:Room (k+1) A) (env:Env):Room k (A.deeper env) :=
 ⟨r.hd,by have:=r.dp;show A.depth+1+3 * k+5 < _;lia,by have:=r.un;show A.units+3+16 * k+200 < _;lia⟩
theorem aqj {A:Around} {C:Addr} {us:List Value} {a:List (Str × Value)}:(A.under (.builtin "type.__call__" ⟨.ref C :: us,a⟩)).depth=A.depth+1:=by
 first | rfl | simp [Around.under,Code.weight,Code.isCreation,Code.isGuard,Code.isCaller,Code.frames,Code.isFrame,guardIds]
theorem aqk {A:Around} {C:Addr} {us:List Value} {a:List (Str × Value)}:(A.under (.builtin "type.__call__" ⟨.ref C :: us,a⟩)).units=A.units+1:=by
 first | rfl | simp [Around.under,Code.cUnits,Code.frames,Code.isFrame]
theorem Room.make {k:Nat} {A:Around} (r:Room (k+1) A) (C:Addr) (us:List Value) (a:List (Str × Value)):Room k (A.under (.builtin "type.__call__" ⟨.ref C :: us,a⟩)) :=
 ⟨r.hd,by have:=r.dp;rw [aqj];lia,by have:=r.un;rw [aqk];lia⟩
theorem Room.depth {k:Nat} {A:Around} (r:Room k A):A.depth < recursionLimit:=by have:=r.dp;lia
theorem Room.units {k:Nat} {A:Around} (r:Room k A):A.units+64 < cLine:=by have:=r.un;lia
theorem Room.units0 {k:Nat} {A:Around} (r:Room k A):A.units < cLine:=by have:=r.un;lia
def tNil:TA:=fun _ H Q=>Q [] H
def aa5 (ta:TE) (tr:TA):TA:=fun σ H Q=>ta σ H fun x H1=>tr σ H1 fun xs H2=>Q (x :: xs) H2
section
variable {X:Cx} {e:Expr} {es:List Expr} {te:TE} {t:TA} {pos:Pos}
theorem aab:PA X [] tNil:=fun _ _ _ _ H Q I h=>Calls.spliced_nil ⟨[],H,I,.nil,h⟩
theorem aaa (ha:PE X e te) (i:PA X es t) (c:starEach (e :: es) X.env=(false,eval e X.env) :: starEach es X.env:=by rfl):PA X (e :: es) (aa5 te t):=by
 intro a pins s σ H Q I h
 rw [c]
 show wpAny _ _ (spliced ((false,eval e X.env) :: backTo a (starEach es X.env))) _ _ s
 refine Calls.spliced_cons (thn (ha pins s σ H _ I h) fun u s1 ⟨x,g,j,b,d⟩=>?_)
 exact thn (i a pins s1 σ g _ j d) fun us s2 ⟨xs,H2,l,f,m⟩=>⟨x :: xs,H2,l,.cons b f,m⟩
def tTup (t:TA):TE:=fun σ H Q=>t σ H fun xs H1=>xs.length<=sizeLine/\∀ p,H1 p=none->Q (.ref p) (upd H1 p (.tup xs))
def tLst (t:TA):TE:=fun σ H Q=>t σ H fun xs H1=>xs.length<=sizeLine/\∀ p,H1 p=none->Q (.ref p) (upd H1 p (.lst xs))
theorem aa3 {x1} (h:PA X es t):PE X (.Tuple es x1 pos) (tTup t):=by
 intro pins s σ H Q I d
 refine wpAny_Tuple_spliced (thn (h pos pins s σ H _ I d) fun us s1 ⟨xs,a,c,r,z,q⟩=>⟨by rw [← r.length];exact z,?_⟩)
 have hf:a s1.heap.objs.size=none:=c.hok.fresh (aA6 _)
 refine ⟨.ref s1.heap.objs.size,upd a s1.heap.objs.size (.tup xs),c.laid (t':=s1.toks) (fun b u e=>aI2 _ e) (aA6 _) ?_,rfl,q _ hf⟩
 exact ⟨z,us,r,⟨_,aI4 _ rfl,rfl,_,rfl⟩⟩
theorem aa2 (h:PA X es t):PE X (.List es pos) (tLst t):=by
 intro pins s σ H Q I d
 refine wpAny_List_spliced (thn (h pos pins s σ H _ I d) fun us s1 ⟨xs,a,c,r,z,q⟩=>⟨by rw [← r.length];exact z,?_⟩)
 have hf:a s1.heap.objs.size=none:=c.hok.fresh (aA6 _)
 refine ⟨.ref s1.heap.objs.size,upd a s1.heap.objs.size (.lst xs),c.laid (t':=s1.toks) (fun b u e=>aI2 _ e) (aA6 _) ?_,rfl,q _ hf⟩
 exact ⟨z,us,0,r,aI4 _ rfl⟩
end
abbrev Sp:=List V->Hp->VK->XK->Prop
abbrev CXT:=List Env->Hp->Shared->XK->Value->Shared->Prop
structure Env0 (P:Program) (w:World) (K:Frag) (mg:Str->Option Value) (base:Heap) (A:Around) (outer:List Env) (s:Shared) (H:Hp):Prop where
 frames:A.frames=some outer
 mod:Mod K mg base
 bs:∀ b o,base.get? b=some o->s.heap.get? b=some o/\H b=none
 bsz:base.objs.size<=s.heap.objs.size
 funs:s.heap.FunFrames base outer
 frf:∀ b∈frs outer,H b=none
 hok:HOk P w H s.heap
 bare:AllBare s.gens
def CE (outer:List Env) (P:Program) (w:World) (H:Hp) (s:Shared) (Q:VK) (u:Value) (s':Shared):Prop :=
 ∃ v H',s'.os=s.os/\AllBare s'.gens/\Un (frs outer) [] H H' s.heap s'.heap/\HOk P w H' s'.heap/\RelV v u/\Q v H'
def CR (CX:CXT) (outer:List Env) (P:Program) (w:World) (H:Hp) (s:Shared) (Q:VK) (E:XK) (r:Result) (s':Shared):Prop :=
 match r with
 | .ok (.ret u)=>CE outer P w H s Q u s'
 | .ok _=>False
 | .error e=>CX outer H s E e s'
structure FnOk (P:Program) (w:World) (K:Frag) (mg:Str->Option Value) (base:Heap) (CX:CXT) (k:Nat) (f:Addr) (fd:FuncData) (ps:List Str) (sp:Sp):Prop where
 len:∀ vs H Q E,sp vs H Q E->vs.length=ps.length
 run:∀ (A:Around) (outer:List Env) (s:Shared) (H:Hp) (args:Args) (us:List Value) (vs:List V) (Q:VK) (E:XK),Room k A->Env0 P w K mg base A outer s H->BindsTo s fd args (ps.zip us)->Vals vs us->sp vs H Q E ->
  codeAny (model P w) A (.call (.ref f) args) (CR CX outer P w H s Q E) s
theorem FnOk.imp {P:Program} {w:World} {K:Frag} {mg:Str->Option Value} {base:Heap} {CX:CXT} {k:Nat} {f:Addr} {fd:FuncData} {ps:List Str} {sp a:Sp} (F:FnOk P w K mg base CX k f fd ps sp)
  (h:∀ vs H Q E,a vs H Q E->sp vs H Q E):FnOk P w K mg base CX k f fd ps a :=
 ⟨fun vs H Q E q=>F.len vs H Q E (h _ _ _ _ q),fun A outer s H args us vs Q E g d hb c b=>F.run A outer s H args us vs Q E g d hb c (h _ _ _ _ b)⟩
theorem Env0.make {P:Program} {w:World} {K:Frag} {mg:Str->Option Value} {base:Heap} {A:Around} {outer:List Env} {s:Shared} {H:Hp} (e:Env0 P w K mg base A outer s H) (C:Addr) (us:List Value) (a:List (Str × Value)) :
  Env0 P w K mg base (A.under (.builtin "type.__call__" ⟨.ref C :: us,a⟩)) outer s H:=⟨by first | exact e.frames | (simpa [Around.under,Code.envs,Code.isFrame,pushEnvs] using e.frames),e.mod,e.bs,e.bsz,e.funs,e.frf,e.hok,e.bare⟩
section
variable {X:Cx} {pins:List (Addr × Obj)} {σ:St} {H:Hp} {s s':Shared}
theorem Inv.env0 (I:Inv X pins σ H s):Env0 X.prog X.w X.K X.mg X.base X.A X.stack s H :=
 ⟨I.ok.frames,I.ok.mod,I.bs,aC9 I.ok.bsz I.sz,I.stack,I.stkFree,I.hok,I.bare⟩
theorem Inv.after {Q:VK} {u:Value} (I:Inv X pins σ H s) (h:CE X.stack X.prog X.w H s Q u s'):EP X pins σ Q u s':=by
 obtain ⟨v,H',os,bare,un,hok,r,q⟩:=h
 obtain ⟨hh,g,d,t,os'⟩:=s'
 obtain rfl:os'=s.os:=os
 exact ⟨v,H',I.call (h':=hh) (g':=g) (d':=d) (t':=t) (ch:=[]) un hok bare (fun b z=>absurd z (by simp)),r,q⟩
end
def abx (sp:Sp) (dvs:List V) (E:XK) (t:TA):TE:=fun σ H Q=>t σ H fun vs H1=>sp (vs ++ dvs) H1 Q E
def af3 (C:Addr) (m:Str) (sp:Sp) (dvs:List V) (E:XK) (ta:TE) (t:TA):TE:=fun σ H Q=>ta σ H fun x H1=>∃ a dx fs,x=.ref a/\H1 a=some (.ins C dx fs)/\fs.lookup m=none /\
 t σ H1 fun vs H2=>sp (x :: (vs ++ dvs)) H2 Q E
def aql (C:Addr) (sp:Sp) (dvs:List V) (E:XK) (t:TA):TE:=fun σ H Q=>t σ H fun vs H1=>∀ x dx,H1 x=none->H1 dx=none->dx ≠ x ->
 sp (.ref x :: (vs ++ dvs)) (upd (upd H1 dx (.own x)) x (.ins C dx [])) (fun v H2=>v=.non/\Q (.ref x) H2) E
def Binds (K:Frag) (fd:FuncData) (ps:List Str) (ds:List Value):Prop :=
 ∀ (s:Shared) (us:List Value),K.In s.heap->(us ++ ds).length=ps.length->BindsTo s fd ⟨us,[]⟩ (ps.zip (us ++ ds))
theorem Binds.all {K:Frag} {fd:FuncData} {ps:List Str} (h:∀ us:List Value,us.length=ps.length->bindArgs fd ⟨us,[]⟩=pure (ps.zip us)):Binds K fd ps []:=fun s us _ a=>by
 rw [aE4] at a ⊢
 exact .of_eq (h us a)
def aex (CX:CXT) (X:Cx) (E:XK):Prop:=∀ (pins:List (Addr × Obj)) (σ:St) (H:Hp) (s:Shared) (e:Value) (s':Shared),Inv X pins σ H s->CX X.stack H s E e s'->X.xe e s'
section
variable {X:Cx} {CX:CXT} {k:Nat} {f C:Addr} {fd:FuncData} {ps:List Str} {sp:Sp} {dvs:List V} {ds:List Value} {E:XK} {x m:Str} {p pos apos:Pos} {e o:Expr} {es:List Expr} {ta:TE} {t:TA}
theorem amg {pins:List (Addr × Obj)} {σ:St} {H:Hp} {s:Shared} {Q:VK} {us:List Value} {vs:List V} (F:FnOk X.prog X.w X.K X.mg X.base CX k f fd ps sp) (i:Room k X.A) (hb:Binds X.K fd ps ds) (hd:Vals dvs ds) (d:aex CX X E)
  (I:Inv X pins σ H s) (r:Vals vs us) (h:sp (vs ++ dvs) H Q E):wpAny (model X.prog X.w) X.A (call (.ref f) us) (EP X pins σ Q) X.xe s:=by
 have b:Vals (vs ++ dvs) (us ++ ds):=r.append hd
 have c:(us ++ ds).length=ps.length:=by rw [← b.length];exact F.len _ _ _ _ h
 refine wpAny_call (codeAny_mono (F.run X.A X.stack s H ⟨us,[]⟩ (us ++ ds) (vs ++ dvs) Q E i I.env0 (hb s us I.kIn c) b h) fun r g a=>?_)
 cases r with
 | error e=>exact d pins σ H s e g I a
 | ok fl =>
  cases fl with
  | ret u=>exact I.after a
  | next=>exact False.elim a
  | brk=>exact False.elim a
  | cont=>exact False.elim a
theorem awz (F:FnOk X.prog X.w X.K X.mg X.base CX k f fd ps sp) (l:Room k X.A) (j:Gl X x) (hm:X.mg x=some (.ref f)) (d:keepIn X.K (.ref f)=true) (hb:Binds X.K fd ps ds) (hd:Vals dvs ds) (g:aex CX X E)
  (ha:PA X (e :: es) t) (b:(x == ("__debug__" : Str))=false:=by decide) (i:starEach (e :: es) X.env=(false,eval e X.env) :: starEach es X.env:=by rfl) (a:(backTo pos (starEach es X.env)).any (·.1)=false:=by rfl) :
  PE X (.Call (.Name x p) (e :: es) [] pos) (abx sp dvs E t):=by
 intro pins s σ H Q I h
 refine wpAny_Call_Name_kw (ajz I j hm ?_ b)
 refine PySem.W.callWith_K (h₀:=X.base) I.ok.mod.kin d (thn (ha pos pins s σ H _ I h) fun us s1 ⟨vs,m,c,r,q⟩=>⟨c.kIn,?_⟩) i a
 exact amg F l hb hd g c r q
theorem aw0 {pl:Sem Bool} (z:PE X o ta) (c:Cls X.K C) (hm:Meth X.K C m f) (F:FnOk X.prog X.w X.K X.mg X.base CX k f fd ps sp) (B:Room k X.A) (hb:Binds X.K fd ps ds) (hd:Vals dvs ds) (n:aex CX X E) (ha:PA X (e :: es) t)
  (d:starEach (e :: es) X.env=(false,eval e X.env) :: starEach es X.env:=by rfl) (b:(backTo pos (starEach es X.env)).any (·.1)=false:=by rfl)
  (v:eval (.Call (.Attribute o m apos) (e :: es) [] pos) X.env=(do
   let ov ← eval o X.env
   standAt apos.atName
   let (f,first) ← holding [ov] (getMethod ov m pl)
   callWith pos f first (backTo pos (starEach (e :: es) X.env)) (backToKw pos (keywordEach [] X.env))):=by rfl) :
  PE X (.Call (.Attribute o m apos) (e :: es) [] pos) (af3 C m sp dvs E ta t):=by
 intro pins s σ H Q I h
 refine PySem.W.methodCall_KW (pl:=pl) (thn (z pins s σ H _ I h) fun u s1 ⟨x,y,g,j,a,dx,fs,ex,p,l,q⟩=>?_) v
 subst ex
 obtain rfl:u=Value.ref a:=j
 refine aiz g p c hm l ?_
 refine PySem.W.callWith_K (first:=[.ref a]) (h₀:=X.base) I.ok.mod.kin hm.kp (thn (ha pos pins s1 σ y _ g q) fun us s2 ⟨vs,H2,i,r,D⟩=>⟨i.kIn,?_⟩) d b
 exact amg (us:=.ref a :: us) (vs:=.ref a :: vs) F B hb hd n i (.cons rfl r) D
theorem auc {pl:Sem Bool} (n:PE X o ta) (c:Cls X.K C) (hm:Meth X.K C m f) (F:FnOk X.prog X.w X.K X.mg X.base CX k f fd ps sp) (p:Room k X.A) (hb:Binds X.K fd ps ds) (hd:Vals dvs ds) (g:aex CX X E)
  (j:eval (.Call (.Attribute o m apos) [] [] pos) X.env=(do
   let ov ← eval o X.env
   standAt apos.atName
   let (f,first) ← holding [ov] (getMethod ov m pl)
   callWith pos f first (backTo pos (starEach [] X.env)) (backToKw pos (keywordEach [] X.env))):=by rfl) :
  PE X (.Call (.Attribute o m apos) [] [] pos) (af3 C m sp dvs E ta tNil):=by
 intro pins s σ H Q I h
 refine PySem.W.methodCall_KW (pl:=pl) (thn (n pins s σ H _ I h) fun u s1 ⟨x,r,b,d,a,dx,fs,ex,i,l,q⟩=>?_) j
 subst ex
 obtain rfl:u=Value.ref a:=d
 refine aiz b i c hm l ?_
 exact PySem.W.callWith_K0 (first:=[.ref a]) b.kIn hm.kp (amg (us:=[.ref a]) (vs:=[.ref a]) F p hb hd g b (.cons rfl .nil) q)
structure Mk (K:Frag) (C f:Addr):Prop where
 makes:PySem.W.makesIn K C=true
 init:PySem.W.findIn K (.ref C) "__init__" = some (some (.ref f))
 fn:PySem.W.isFn K (.ref f)=true
 kp:keepIn K (.ref C)=true
theorem aud {pins:List (Addr × Obj)} {σ:St} {H:Hp} {s:Shared} {Q:VK} {us:List Value} {vs:List V} (M:Mk X.K C f) (F:FnOk X.prog X.w X.K X.mg X.base CX k f fd ps sp) (p:Room (k+1) X.A) (hb:Binds X.K fd ps ds) (hd:Vals dvs ds)
  (l:aex CX X E) (I:Inv X pins σ H s) (r:Vals vs us)
  (h:∀ x dx,H x=none->H dx=none->dx ≠ x->sp (.ref x :: (vs ++ dvs)) (upd (upd H dx (.own x)) x (.ins C dx [])) (fun v H2=>v=.non/\Q (.ref x) H2) E) :
  wpAny (model X.prog X.w) X.A (call (.ref C) us) (EP X pins σ Q) X.xe s:=by
 have d:=h (s.heap.objs.size+1) s.heap.objs.size (I.hok.fresh (Nat.le_succ _)) (I.hok.fresh (aA6 _)) (aB5 (aH8 _))
 have b:=Inv.made (C:=C) I
 have c:Vals (V.ref (s.heap.objs.size+1) :: (vs ++ dvs)) (Value.ref (s.heap.objs.size+1) :: (us ++ ds)):=.cons rfl (r.append hd)
 have i:(Value.ref (s.heap.objs.size+1) :: us ++ ds).length=ps.length:=by
  have e:=c.length
  rw [F.len _ _ _ _ d] at e
  exact e.symm
 refine wpAny_call (aub (f:=f) I.kIn M.makes M.init (aF5.mp M.fn) (codeAny_mono (F.run _ X.stack _ _ ⟨Value.ref (s.heap.objs.size+1) :: us,[]⟩ (Value.ref (s.heap.objs.size+1) :: (us ++ ds)) _ _ E (p.make C us [])
  (b.env0.make C us []) (hb _ (Value.ref (s.heap.objs.size+1) :: us) b.kIn i) c d) fun r m a=>?_))
 cases r with
 | error e=>exact l pins σ _ _ e m b a
 | ok fl =>
  cases fl with
  | ret u =>
   obtain ⟨v,H',n,o,j,g⟩:=b.after a
   subst j
   exact ⟨o,⟨V.ref (s.heap.objs.size+1),H',n,rfl,g⟩⟩
  | next=>exact False.elim a
  | brk=>exact False.elim a
  | cont=>exact False.elim a
theorem aw1 (M:Mk X.K C f) (F:FnOk X.prog X.w X.K X.mg X.base CX k f fd ps sp) (j:Room (k+1) X.A) (i:Gl X x) (hm:X.mg x=some (.ref C)) (hb:Binds X.K fd ps ds) (hd:Vals dvs ds) (d:aex CX X E)
  (ha:PA X (e :: es) t) (b:(x == ("__debug__" : Str))=false:=by decide) (g:starEach (e :: es) X.env=(false,eval e X.env) :: starEach es X.env:=by rfl) (a:(backTo pos (starEach es X.env)).any (·.1)=false:=by rfl) :
  PE X (.Call (.Name x p) (e :: es) [] pos) (aql C sp dvs E t):=by
 intro pins s σ H Q I h
 refine wpAny_Call_Name_kw (ajz I i hm ?_ b)
 refine PySem.W.callWith_K (h₀:=X.base) I.ok.mod.kin M.kp (thn (ha pos pins s σ H _ I h) fun us s1 ⟨vs,l,c,r,q⟩=>⟨c.kIn,?_⟩) g a
 exact aud M F j hb hd d c r q
end
section
variable {X:Cx} {CX:CXT} {k:Nat} {f C:Addr} {fd:FuncData} {ps ks:List Str} {sp:Sp} {E:XK} {x m:Str} {p pos apos kpos:Pos} {e o:Expr} {es:List Expr} {kws:List Keyword} {te ta:TE} {t tk:TA} {nm:Option Str}
variable {g:List Value->List Value->List Value} {gV:List V->List V->List V}
end
structure FnScope (N P:List Str) (sc:Scope):Prop where
 kind:sc.kind=.function
 co:sc.isCoroutine=false
 gen:sc.isGenerator=false
 nd:N.Nodup
 pre:N.take P.length=P
 par:∀ x∈P,sc.names.lookup x=some .local\/sc.names.lookup x=some .cell
 nofree:∀ y∈sc.names,y.2 ≠ .free
theorem akv {kindOf:Str->Option NameKind} {x:Str}:∀ {binds:List (Str × Value)} {m:Str->Option Value},(∀ v,(x,v) ∉ binds)->bindL kindOf binds m x=m x
 | [],_,_=>rfl
 | (n,v) :: r,m,h=>by
  unfold bindL
  rw [akv fun w a=>h w (aB4 _ a)]
  split
  ·have:x ≠ n:=by rintro rfl;exact h v aB7
   simp [this]
  ·rfl
theorem akw {kindOf:Str->Option NameKind} {x:Str}:∀ {binds:List (Str × Value)} {m:Str->Option Value},(∀ v,(x,v) ∉ binds)->bindC kindOf binds m x=m x
 | [],_,_=>rfl
 | (n,v) :: r,m,h=>by
  unfold bindC
  rw [akw fun w a=>h w (aB4 _ a)]
  split
  ·rfl
  ·have:x ≠ n:=by rintro rfl;exact h v aB7
   simp [this]
theorem akx {kindOf:Str->Option NameKind} {x:Str} {v:Value}:∀ {P:List Str} {vs:List Value} {i:Nat} {m:Str->Option Value},P.Nodup->P[i]?=some x->vs[i]?=some v->kindOf x=some .local ->
  bindL kindOf (P.zip vs) m x=some v
 | [],_,_,_,_,h,_,_=>by simp at h
 | _ :: _,[],_,_,_,_,h,_=>by simp at h
 | p :: P,w :: vs,0,m,nd,h1,h2,hk=>by
  simp at h1 h2;subst h1;subst h2
  show bindL kindOf ((p,w) :: P.zip vs) m p=_
  unfold bindL
  rw [akv fun v a=>(aH6.mp nd).1 (List.of_mem_zip a).1,aE7 hk]
  simp
 | p :: P,w :: vs,i+1,m,nd,h1,h2,hk=>by
  show bindL kindOf ((p,w) :: P.zip vs) m x=_
  unfold bindL
  exact akx (i:=i) (aH6.mp nd).2 (by simpa using h1) (by simpa using h2) hk
theorem aky {kindOf:Str->Option NameKind} {x:Str} {v:Value}:∀ {P:List Str} {vs:List Value} {i:Nat} {m:Str->Option Value},P.Nodup->P[i]?=some x->vs[i]?=some v->kindOf x ≠ some .local ->
  bindC kindOf (P.zip vs) m x=some v
 | [],_,_,_,_,h,_,_=>by simp at h
 | _ :: _,[],_,_,_,_,h,_=>by simp at h
 | p :: P,w :: vs,0,m,nd,h1,h2,hk=>by
  simp at h1 h2;subst h1;subst h2
  show bindC kindOf ((p,w) :: P.zip vs) m p=_
  unfold bindC
  rw [akw fun v a=>(aH6.mp nd).1 (List.of_mem_zip a).1,aE8 hk]
  simp
 | p :: P,w :: vs,i+1,m,nd,h1,h2,hk=>by
  show bindC kindOf ((p,w) :: P.zip vs) m x=_
  unfold bindC
  exact aky (i:=i) (aH6.mp nd).2 (by simpa using h1) (by simpa using h2) hk
def start (N:List Str) (vs:List V):St:=vs.map some ++ List.replicate (N.length - vs.length) none
def cxOf (CX:CXT) (P:Program) (w:World) (K:Frag) (mg:Str->Option Value) (base:Heap) (N:List Str) (qual:Str) (scope:Scope) (f:Addr) (cd:Value) (A:Around) (outer:List Env) (s:Shared) (H:Hp) (E:XK):Cx where
 prog:=P
 w:=w
 K:=K
 mg:=mg
 base:=base
 A:=A.deeper (envOfC qual scope s.heap.objs.size f cd)
 N:=N
 s₀:=s
 H₀:=H
 env:=envOfC qual scope s.heap.objs.size f cd
 outer:=outer
 stack:=envOfC qual scope s.heap.objs.size f cd :: outer
 ex:=[]
 calm:=true
 fn:=fun _=>true
 pn:=[]
 xe:=fun e s'=>wpAny (model P w) (A.deeper (envOfC qual scope s.heap.objs.size f cd)) (leaving (envOfC qual scope s.heap.objs.size f cd) e) (fun _ s''=>CX outer H s E e s'') (fun e' s''=>CX outer H s E e' s'') s'
theorem amh {sc:Scope} {n:Nat} {x:Str} (h:sc.names.lookup x=some .cell):∃ c,(cellsFrom n sc.names []).lookup x=some c:=by
 have q:=PySem.W.cellsFrom_some sc.names n [] (.inl h)
 exact Option.isSome_iff_exists.mp q
theorem ar3 {CX:CXT} {P:Program} {w:World} {K:Frag} {mg:Str->Option Value} {base:Heap} {N ps:List Str} {qual:Str} {scope:Scope} {f:Addr} {C:Value} {A:Around} {outer:List Env} {s s1:Shared} {H:Hp} {E:XK} {us:List Value} {vs:List V}
  (S:FnScope N ps scope) (hd:A.handled=none) (g:Env0 P w K mg base A outer s H) (M:vs.length=ps.length) (r:Vals vs us)
  (x:InCallC s s.heap.objs.size (bindL (envOfC qual scope s.heap.objs.size f C).kindOf (ps.zip us) fun _=>none) (cellsFrom (s.heap.objs.size+1) scope.names []) (bindC (envOfC qual scope s.heap.objs.size f C).kindOf (ps.zip us) fun _=>none) s1) :
  Inv (cxOf CX P w K mg base N qual scope f C A outer s H E) [] (start N vs) H s1:=by
 have I:ps.length<=N.length:=by have:=congrArg List.length S.pre;rw [aG2] at this;lia
 obtain ⟨B,J,rfl,F⟩:=x.done
 have j:∀ b:Addr,b ∉ (cxOf CX P w K mg base N qual scope f C A outer s H E).ex:=fun b z=>absurd (show b∈([]:List Addr) from z) (by simp)
 refine ⟨⟨g.mod,S.kind,rfl,rfl,aA6 _,fun y z c B d=>?_,fun y l=>?_,fun y c _ h=>?_,fun _=>hd,Around.frames_deeper g.frames,.inr ⟨rfl,rfl⟩,fun b z=>absurd z (j b),g.bs,g.bsz,fun b _ _=>j b,fun b z=>absurd z (j b),g.funs,g.frf⟩,
  rfl,g.bare,Un.kept F,⟨_,x.toInCall.ns,fun i y v B d L=>?_⟩,fun y c h=>⟨_,x.cell y c h⟩,g.hok.fresh (aA6 _),fun y c h=>?_,fun p o=>absurd (show p∈([]:List (Addr × Obj)) from o) (by simp),g.hok.kept F,?_⟩
 ·exact name_of_addr x.apart (PySem.mem_of_lookup B) (PySem.mem_of_lookup d)
 ·have l:scope.names.lookup y=some .cell\/scope.names.lookup y=some .free:=l
  rcases l with l | l
  ·exact amh l
  ·exact absurd rfl (S.nofree _ (PySem.mem_of_lookup l))
 ·exact aF7 (x.above y c (PySem.mem_of_lookup h))
 ·have hi:i < vs.length:=by
   unfold start at d
   by_cases hi:i < vs.length
   ·exact hi
   ·rw [aC7 (by simpa using hi)] at d
    rw [aG9] at d
    split at d <;> cases d
  have ha:vs[i]?=some v:=by
   unfold start at d
   rw [aC2 (by simpa using hi),aA5] at d
   cases e:vs[i]? with
   | none=>rw [e] at d;cases d
   | some a=>rw [e] at d;cases d;rfl
  obtain ⟨u,D,G⟩:=r.get ha
  have o:ps[i]?=some y:=by
   rw [← S.pre,aG7 (by lia)];exact B
  have m:ps.Nodup:=by rw [← S.pre];exact S.nd.sublist (List.take_sublist _ _)
  refine ⟨u,G,?_⟩
  rcases S.par y (aA2 o) with k | k
  ·exact .inl ⟨k,akx m o D k⟩
  ·obtain ⟨c,e⟩:=amh (n:=s.heap.objs.size+1) k
   refine .inr ⟨.inl k,c,e,?_⟩
   have q:=x.cell y c e
   rw [aky m o D (by show scope.names.lookup y ≠ _;rw [k];decide)] at q
   exact q
 ·exact g.hok.fresh (aF7 (x.above y c (PySem.mem_of_lookup h)))
 ·unfold start
  show _=N.length
  rw [aB0,aA3,List.length_replicate]
  lia
theorem a1o {CX:CXT} {P:Program} {w:World} {K:Frag} {mg:Str->Option Value} {base:Heap} {k:Nat} {f:Addr} {name qual:Str} {a:Arguments} {body:List Stmt} {scope:Scope} {C kV doc pm cdv ct oc:Value} {an od:Option Addr}
  {osl:Array (Option Value)} {N ps:List Str} {sp:Sp} (F:K.lookup f=some ⟨oc,od,.func (fnOf name qual a body scope C kV doc pm an cdv ct),osl⟩) (l:codeIn K cdv qual=true) (S:FnScope N ps scope)
  (len:∀ vs H Q E,sp vs H Q E->vs.length=ps.length)
  (d:∀ (A:Around) (outer:List Env) (s:Shared) (H:Hp) (vs:List V) (Q:VK) (E:XK),Room k (A.deeper (envOfC qual scope s.heap.objs.size f cdv))->sp vs H Q E ->
   ∃ t,PSs (cxOf CX P w K mg base N qual scope f cdv A outer s H E) body t/\t { nx:=fun _ H'=>Q .non H',rt:=Q } (start N vs) H) :
  FnOk P w K mg base CX (k+1) f (fnOf name qual a body scope C kV doc pm an cdv ct) ps sp:=by
 refine ⟨len,fun A outer s H args us vs Q E B i hb r j=>?_⟩
 have G:=len _ _ _ _ j
 have D:K.In s.heap:=i.mod.kin.keeps fun b o e=>(i.bs b o e).1
 have p:s.heap.NoLimit:=i.mod.nolimit.keeps fun b o e=>(i.bs b o e).1
 have g:∀ y∈ps.zip us,scope.names.lookup y.1=some .local\/(scope.names.lookup y.1=some .cell/\((cellsFrom (s.heap.objs.size+1) scope.names []).lookup y.1).isSome=true):=fun ⟨n,v⟩ T=>by
  rcases S.par n (List.of_mem_zip T).1 with q | q
  ·exact .inl q
  ·exact .inr ⟨q,PySem.W.cellsFrom_some _ _ _ (.inl q)⟩
 refine codeAny_call_function B.depth (D _ _ F) rfl S.co S.gen rfl (PySem.W.codeRec_of D l) (hb _ _ _ _ ?_)
 refine wpAny_newFunctionEnv_cells S.kind g fun env O s1 x=>?_
 subst O
 refine ⟨p.keeps x.toInCall.keep,codeAny_func ?_⟩
 obtain ⟨t,M,R⟩:=d A outer s H vs Q E (B.deeper _) j
 have I:Inv (cxOf CX P w K mg base N qual scope f cdv A outer s H E) [] (start N vs) H s1:=ar3 S B.hd i G r x
 refine aI7 (M [] s1 (start N vs) H _ I R) (fun L m h=>?_) fun e m h=>h
 have fin:∀ {c:St} {H':Hp} {v:V} {u:Value},Inv (cxOf CX P w K mg base N qual scope f cdv A outer s H E) [] c H' m->RelV v u->Q v H'->CE outer P w H s Q u m :=
  fun {c H' v u} J z q=>⟨v,H',J.os,J.bare,J.base,J.hok,z,q⟩
 cases L with
 | ret u =>
  obtain ⟨v,c,H',J,z,q⟩:=h
  exact fin J z q
 | next =>
  obtain ⟨c,H',J,q⟩:=h
  exact fin (v:=V.non) (u:=Value.none) J rfl q
 | brk =>
  obtain ⟨_,_,_,q⟩:=h
  exact False.elim q
 | cont =>
  obtain ⟨_,_,_,q⟩:=h
  exact False.elim q
section
variable {X:Cx} {x:Str} {p pos:Pos} {e:Expr} {es:List Expr} {t:TA} {id T:String} {r:List V->Hp->VK->Prop}
def tCB (r:List V->Hp->VK->Prop) (t:TA):TE:=fun σ H Q=>t σ H fun vs H1=>r vs H1 Q
theorem aal (f:abd X (.builtin id) r) (l:Gl X x) (hm:X.mg x=none) (i:bootBuiltins x=some (.builtin id)) (ha:PA X (e :: es) t) (hn:x ≠ "__name__":=by decide) (b:(x == ("__debug__" : Str))=false:=by decide)
  (j:starEach (e :: es) X.env=(false,eval e X.env) :: starEach es X.env:=by rfl) (a:(backTo pos (starEach es X.env)).any (·.1)=false:=by rfl):PE X (.Call (.Name x p) (e :: es) [] pos) (tCB r t):=by
 intro pins s σ H Q I h
 refine wpAny_Call_Name_kw (aeq I l hm i ?_ hn b)
 exact PyProof.Rows.callWith_builtin1 (thn (ha pos pins s σ H _ I h) fun us s1 ⟨vs,g,m,c,d⟩=>f pins s1 σ g vs us Q m c d) j a
theorem adp (f:abd X (.type T) r) (l:Gl X x) (hm:X.mg x=none) (i:bootBuiltins x=some (.type T)) (ha:PA X (e :: es) t) (hn:x ≠ "__name__":=by decide) (b:(x == ("__debug__" : Str))=false:=by decide)
  (j:starEach (e :: es) X.env=(false,eval e X.env) :: starEach es X.env:=by rfl) (a:(backTo pos (starEach es X.env)).any (·.1)=false:=by rfl):PE X (.Call (.Name x p) (e :: es) [] pos) (tCB r t):=by
 intro pins s σ H Q I h
 refine wpAny_Call_Name_kw (aeq I l hm i ?_ hn b)
 exact PyProof.Rows.callWith_type1 (thn (ha pos pins s σ H _ I h) fun us s1 ⟨vs,g,m,c,d⟩=>f pins s1 σ g vs us Q m c d) j a
end
end L2
namespace HT
open PySem PyProof.Rows
def lexLt:List Int->List Int->Bool
 | [],[]=>false
 | [],_ :: _=>true
 | _ :: _,[]=>false
 | x :: xs,y :: ys=>if x=y then lexLt xs ys else decide (x < y)
theorem aeg (x y:Int) (xs ys:List Int):lexLt (x :: xs) (y :: ys)=if x=y then lexLt xs ys else decide (x < y):=rfl
theorem alh:lexLt [] []=false:=rfl
theorem aj1 (y:Int) (ys:List Int):lexLt [] (y :: ys)=true:=rfl
theorem aj2 (x:Int) (xs:List Int):lexLt (x :: xs) []=false:=rfl
theorem aue (A:Around) (s:Shared) (a:Int) (t:Tok) (c:Int) (u:Tok):∃ e,SeqAt.EqAt A s (.int a t) (.int c u) e/\(e=true ↔ a=c) :=
 ⟨(a == c),SeqAt.EqAt.int_int a t c u,by simp⟩
theorem auf (A:Around) (s:Shared) (a:Int) (t:Tok) (c:Int) (u:Tok) (prog:Program) (w:World) (E:Value->Shared->Prop) (Q:Value->Shared->Prop) (h:Q (.bool (decide (a < c))) s) :
  wpAny (model prog w) A (richCompare .Lt (.int a t) (.int c u)) Q E s :=
 (PyProof.Rows.lt_int h:wpAny (model prog w) A (compareOp .Lt (.int a t) (.int c u)) Q E s)
section
open PySem.SeqAt
open PySem.AutoSeq1 (wpAny_loadPart')
open PySem.MeetsSeq PySem.MeetsSeq2 PySem.MeetsSeq3
theorem ali (l b:Addr) (items f:Array Value) (n N:Nat) (dd H:Option Addr) (sl I:Array (Option Value)) (ns D:List Int) (hi:IntsAre items.toList ns) (L:IntsAre f.toList D) :
  Meets (Builtin.«tuple.__lt__» ⟨[.ref l,.ref b],[]⟩)
   (fun _ R s=>s.heap.get? l=some { cls:=.type "tuple",dict:=dd,data:=.seq items n,slots:=sl }/\s.heap.get? b=some { cls:=.type "tuple",dict:=H,data:=.seq f N,slots:=I } /\
    R (.ok (.ret (.bool (lexLt ns D)))) s) :=
 .of_wp fun prog w A R s h=>by
  obtain ⟨E,g,d,F,os⟩:=s;obtain ⟨O,hb,h⟩:=h
  have U:=AutoSeq1.sub_tuple_tuple
  have W:items.size=ns.length:=by rw [← hi.length];simp
  have X:f.size=D.length:=by rw [← L.length];simp
  wp_walk using wpAny_loadPart' O,wpAny_loadPart' hb,wpAny_forIn_list _ (fun rest b J=>b.1=none/\J=⟨E,g,d,F,os⟩/\∃ (vs C:List Value) (m j:List Int),rest=vs.zip C /\
   IntsAre vs m/\IntsAre C j/\m.length+f.size=j.length+items.size/\R (.ok (.ret (.bool (lexLt m j)))) ⟨E,g,d,F,os⟩) _
  case turn =>
   rintro ⟨y,x⟩ rest b J ⟨z,rfl,vs,C,m,j,hz,v,o,i,r⟩
   cases v with
   | nil=>rw [List.zip_nil_left] at hz;cases hz
   | cons a t hvi' =>
    cases o with
    | nil=>rw [List.zip_nil_right] at hz;cases hz
    | cons c u hwi' =>
     rw [List.zip_cons_cons] at hz
     injection hz with K B
     injection K with S P
     subst S P
     rw [aeg] at r
     simp only [aE0] at i
     obtain ⟨e,Q,p⟩:=aue A.in1 ⟨E,g,d,F,os⟩ a t c u
     refine aI0 (Q prog w _ _ ?_)
     cases e with
     | true =>
      rw [aE7 (p.mp rfl)] at r
      wp_walk
      exact ⟨rfl,rfl,_,_,_,_,B,hvi',hwi',by lia,r⟩
     | false =>
      rw [aE8 (fun q=>absurd (p.mpr q) aA9)] at r
      have G:=auf A.in1 ⟨E,g,d,F,os⟩ a t c u prog w
      wp_walk using G
      exact ⟨_,rfl,by simpa using r⟩
  case fin =>
   rintro ⟨b1,T⟩ J ⟨z,rfl,vs,C,m,j,hz,v,o,i,r⟩
   simp only at z
   subst z
   have M:lexLt m j=decide (items.size < f.size):=by
    cases v with
    | nil =>
     cases o with
     | nil =>
      simp only [aH9] at i
      rw [alh]
      exact (aD5 (by lia)).symm
     | cons c u hw =>
      simp only [aH9,aE0] at i
      rw [aj1]
      exact (aD6 (by lia)).symm
    | cons a t M =>
     cases o with
     | nil =>
      simp only [aH9,aE0] at i
      rw [aj2]
      exact (aD5 (by lia)).symm
     | cons c u hw =>
      rw [List.zip_cons_cons] at hz
      cases hz
   rw [M] at r
   wp_walk
   exact ⟨_,rfl,by simpa [Builtin.Tuple.tupleCompareSizes] using r⟩
  case h =>
   exact ⟨rfl,rfl,items.toList,f.toList,ns,D,rfl,hi,L,by lia,h⟩
end
section
variable {prog:Program} {w:World} {A:Around} {E:Value->Shared->Prop} {s:Shared}
theorem lt_tupInts {l b:Addr} {items a:Array Value} {ns g:List Int} {Q:Value->Shared->Prop} (v:IsTup s.heap l items) (hb:IsTup s.heap b a) (hi:IntsAre items.toList ns) (y:IntsAre a.toList g)
  (u:A.units < cLine) (h:Q (.bool (lexLt ns g)) s):wpAny (model prog w) A (compareOp .Lt (.ref l) (.ref b)) Q E s:=by
 obtain ⟨⟨cls,dd,data,sl⟩,q,p,n,hd⟩:=id v
 obtain ⟨⟨o,i,j,m⟩,d,c,r,f⟩:=id hb
 simp only at p hd c f
 subst p hd c f
 exact richCompare_meets_room (op:=.Lt) ⟨_,q,rfl⟩ ⟨_,d,rfl⟩ PySem.F.slot_tuple_lt PySem.F.entry_tuple_lt (PySem.F.args_tuple_lt_2 _ _) (ali l b items a n r dd i sl m ns g hi y)
  ⟨q,d,show Value.bool (lexLt ns g) ≠ Value.notImplemented/\Q (.bool (lexLt ns g)) s from ⟨(fun x=>nomatch x),h⟩⟩ u
end
end HT
namespace L2
open PySem PySem.Spec PyProof.Rows
abbrev TO:=St->Hp->(Option Int->Hp->Prop)->Prop
theorem acb {ns:List Int}:∀ {us:List Value},Vals (ns.map V.int) us->IntsAre us ns:=by
 induction ns with
 | nil=>intro us r;rw [List.map_nil] at r;cases r;exact .nil
 | cons n ns ih =>
  intro us r
  rw [aD0] at r
  cases r with
  | cons r1 r2 =>
   obtain ⟨t,e⟩:=r1
   subst e
   exact .cons n t (ih r2)
section
variable {X:Cx} {e:Expr} {te:TE} {lo hi:Option Expr} {tl th:TO} {pos p2:Pos}
def SlR (X:Cx) (r:V->Option Int->Option Int->Hp->VK->Prop):Prop :=
 ∀ (pins:List (Addr × Obj)) (s:Shared) (σ:St) (H:Hp) (x:V) (v vl vu:Value) (lo hi:Option Int) (sl:Addr) (Q:VK),Inv X pins σ H s->RelV x v->s.heap.IsSliceOf sl vl vu .none->IsPart vl lo->IsPart vu hi->r x lo hi H Q ->
  ∃ T id,typeLookup (.type T) "__getitem__" = pure (some (.builtin id))/\s.TypeIs v T/\wpAny (model X.prog X.w) X.A (getItem v (.ref sl)) (EP X pins σ Q) X.xe s
def rLtT (K:Frag):R2:=fun x y H Q=>∃ a b ns ms,x=.ref a/\y=.ref b/\SqT K H a (ns.map V.int)/\SqT K H b (ms.map V.int)/\Q (.bl (HT.lexLt ns ms)) H
theorem azh (f:X.A.units < cLine):OpR X (compareOp .Lt) (rLtT X.K):=by
 intro pins s σ H x y v u Q I i j h
 obtain ⟨a,b,ns,d,rfl,rfl,ha,hb,q⟩:=h
 cases i
 cases j
 obtain ⟨its,g,n,_⟩:=I.tuple ha
 obtain ⟨c,m,p2,_⟩:=I.tuple hb
 have o:IntsAre its.toArray.toList ns:=acb g
 have l:IntsAre c.toArray.toList d:=acb m
 exact HT.lt_tupInts n p2 o l f ⟨.bl (HT.lexLt ns d),H,I,rfl,q⟩
end
def ixN (n:Nat) (i:Int):Option Nat:=if 0<=i then (if i < n then some i.toNat else none) else if -(n:Int)<=i then some (i+n).toNat else none
def atI {α:Type} (xs:List α) (i:Int):Option α:=(ixN xs.length i).bind fun j=>xs[j]?
theorem aoy {n:Nat} {i:Int} {j:Nat} (h:ixN n i=some j):seqIndex? i n=some j/\j < n/\-(n:Int)<=i/\i < n:=by
 unfold ixN at h
 by_cases h0:0<=i
 ·rw [aE7 h0] at h
  by_cases h1:i < n
  ·rw [aE7 h1] at h
   have e:i.toNat=j:=aC5 h
   exact ⟨by rw [seqIndex_of h0 h1,e],by lia,by lia,h1⟩
  ·rw [aE8 h1] at h;cases h
 ·rw [aE8 h0] at h
  by_cases h1 : -(n:Int)<=i
  ·rw [aE7 h1] at h
   have e:(i+n).toNat=j:=aC5 h
   exact ⟨by rw [seqIndex_neg (by lia) h1,e],by lia,h1,by lia⟩
  ·rw [aE8 h1] at h;cases h
theorem aoz {α:Type} {xs:List α} {i:Int} {v : α} (h:atI xs i=some v):∃ j,seqIndex? i xs.length=some j/\xs[j]?=some v/\j < xs.length/\-(xs.length:Int)<=i/\i < xs.length:=by
 unfold atI at h
 cases e:ixN xs.length i with
 | none=>rw [e] at h;cases h
 | some j =>
  rw [e] at h
  obtain ⟨c,a,d,b⟩:=aoy e
  exact ⟨j,c,h,a,d,b⟩
theorem ael {α:Type} {xs:List α} {j:Nat} {v : α} (h:xs[j]?=some v):atI xs (j:Int)=some v:=by
 have a:j < xs.length:=(aA1.mp h).1
 have e:ixN xs.length (j:Int)=some j:=by
  unfold ixN
  rw [aE7 (by lia),aE7 (by lia)];simp
 unfold atI;rw [e];exact h
def aw2 (b:Expr):Prop:=∀ o i,subscripted b false o i=operate [o,i] (getItem o i)
def IxR (X:Cx) (r:R2):Prop :=
 ∀ (value slice:Expr) (pins:List (Addr × Obj)) (s:Shared) (σ:St) (H:Hp) (x y:V) (v u:Value) (Q:VK),Inv X pins σ H s->RelV x v->RelV y u->r x y H Q ->
  subscripted slice false v u=operate [v,u] (getItem v u)->wpAny (model X.prog X.w) X.A (subscriptTail value slice v u) (EP X pins σ Q) X.xe s
def MtR (X:Cx) (id:String) (r:V->List V->Hp->VK->Prop):Prop :=
 ∀ (pins:List (Addr × Obj)) (s:Shared) (σ:St) (H:Hp) (x:V) (xs:List V) (v:Value) (us:List Value) (Q:VK),Inv X pins σ H s->RelV x v->Vals xs us->r x xs H Q ->
  wpAny (model X.prog X.w) X.A (call (.builtin id) (v :: us)) (EP X pins σ Q) X.xe s
section
variable {X:Cx} {a b:Expr} {ta tb:TE} {pos:Pos}
theorem IxR.or {r g:R2} (h:IxR X r) (h':IxR X g):IxR X (fun x y H Q=>r x y H Q\/g x y H Q):=by
 intro b a pins s σ H x y v u Q I c d q f
 rcases q with q | q
 ·exact h b a pins s σ H x y v u Q I c d q f
 ·exact h' b a pins s σ H x y v u Q I c d q f
theorem aap {r:R2} (g:IxR X r) (ha:PE X a ta) (hb:PE X b tb) (f:aw2 b):PE X (.Subscript a b pos) (tOp r ta tb):=by
 intro pins s σ H Q I h
 exact Subscript_ (binT ha hb I h fun v u s2 x y H2 i c d q=>g a b pins s2 σ H2 x y v u Q i c d q (f _ _))
def rIxL (K:Frag):R2:=fun x y H Q=>∃ p xs i v,x=.ref p/\y=.int i/\SqL K H p xs/\atI xs i=some v/\Q v H
def rIxT (K:Frag):R2:=fun x y H Q=>∃ p xs i v,x=.ref p/\y=.int i/\SqT K H p xs/\atI xs i=some v/\Q v H
theorem ix_list:IxR X (rIxL X.K):=by
 intro c b pins s σ H x y v u Q I A B h l
 obtain ⟨p,xs,i,z,rfl,rfl,F,E,q⟩:=h
 cases A
 obtain ⟨t,rfl⟩:=B
 obtain ⟨its,r,pl,hz⟩:=I.list F
 obtain ⟨j,a,m,G,n,o⟩:=aoz E
 obtain ⟨w,g,f⟩:=r.get m
 have C:=r.length
 have hn:=ag0
 have fin:EP X pins σ Q w s:=⟨z,H,I,f,q⟩
 by_cases h0:0<=i
 ·have d:i.toNat=j:=by
   rw [seqIndex_of h0 o] at a
   exact aC5 a
  exact item_listR pl.isList h0 (by lia) (by rw [d];simpa using g) fin l
 ·have d:(i+(its.toArray.size:Int)).toNat=j:=by
   rw [seqIndex_neg (by lia) n] at a
   rw [aB1,← C]
   exact aC5 a
  exact subscriptTail_builtinR (x:=w) pl.isList.typeIs slot_list_getitem.lookup
   (wpAny_getItem_list_neg (Q:=fun r D=>r=w/\EP X pins σ Q r D) pl.isList (by lia) (by rw [aB1] <;> lia) (by lia) (by rw [d];simpa using g) ⟨rfl,fin⟩) l
theorem azi:IxR X (rIxT X.K):=by
 intro b a pins s σ H x y v u Q I f g h o
 obtain ⟨p,xs,i,z,rfl,rfl,C,B,q⟩:=h
 cases f
 obtain ⟨t,rfl⟩:=g
 obtain ⟨its,r,pl,hz⟩:=I.tuple C
 obtain ⟨j,l,d,F,D,E⟩:=aoz B
 obtain ⟨w,m,c⟩:=r.get d
 have n:=r.length
 have hn:=ag0
 have fin:EP X pins σ Q w s:=⟨z,H,I,c,q⟩
 exact subscriptTail_builtinR (x:=w) pl.typeIs slot_tuple_getitem.lookup
  (getItem_tuple (j:=j) (Q:=fun r A=>r=w/\EP X pins σ Q r A) pl (by lia) (by lia) (by rw [aB1,← n];exact l) (by simpa using m) ⟨rfl,fin⟩) o
theorem aqm (its:List Value) (n j:Nat) (u:Value):Obj.mapSeq (·.setIfInBounds j u) { cls:=.type "list",data:=.seq its.toArray n }={ cls:=.type "list",data:=.seq (its.set j u).toArray n }:=by
 simp [Obj.mapSeq]
theorem Inv.lst {pins:List (Addr × Obj)} {σ:St} {H:Hp} {s:Shared} {p:Addr} {xs:List V} (I:Inv X pins σ H s) (h:H p=some (.lst xs)) :
  ∃ (its:List Value) (n:Nat),Vals xs its/\s.heap.get? p=some { cls:=.type "list",data:=.seq its.toArray n }/\xs.length<=sizeLine:=by
 obtain ⟨z,its,n,r,e⟩:=I.hok p _ h
 exact ⟨its,n,r,e,z⟩
theorem Inv.lstUpd {pins:List (Addr × Obj)} {σ:St} {H:Hp} {s:Shared} {p:Addr} {xs ys:List V} {its its':List Value} {n a:Nat} {f:Obj->Obj} (I:Inv X pins σ H s) (h:H p=some (.lst xs))
  (c:s.heap.get? p=some { cls:=.type "list",data:=.seq its.toArray n }) (hf:f { cls:=.type "list",data:=.seq its.toArray n }={ cls:=.type "list",data:=.seq its'.toArray a }) (r:Vals ys its') (hz:ys.length<=sizeLine) (t:Nat) :
  Inv X pins σ (upd H p (.lst ys)) { s with heap:=s.heap.update p f,toks:=t }:=by
 have e:(s.heap.update p f).get? p=some { cls:=.type "list",data:=.seq its'.toArray a }:=by
  rw [Heap.get?_update_self f c (by rw [hf] <;> rfl),hf]
 refine I.write (x:=p) (e:=p) (by rw [h];trivial) (.inl rfl) (fun b u hb q=>(Heap.get?_update_other _ _ (Ne.symm hb)).trans q) ⟨_,e⟩ ?_
 exact ⟨hz,its',a,r,e⟩
def aqn:V->V->V->Hp->(Hp->Prop)->Prop:=fun o i v H Q=>∃ p xs k j,o=.ref p/\i=.int k/\H p=some (.lst xs)/\ixN xs.length k=some j/\Q (upd H p (.lst (xs.set j v)))
theorem aey:PSet X aqn:=by
 intro pins s σ H o i v B C u Q I w z y h
 obtain ⟨p,xs,k,j,rfl,rfl,l,x,q⟩:=h
 cases w
 obtain ⟨t,rfl⟩:=z
 obtain ⟨its,n,r,d,hz⟩:=I.lst l
 obtain ⟨a,A,m,f⟩:=aoy x
 have c:=r.length
 have hn:=ag0
 have g:Inv X pins σ (upd H p (.lst (xs.set j v))) { s with heap:=s.heap.update p (Obj.mapSeq (·.setIfInBounds j u)) } :=
  I.lstUpd l d (aqm its n j u) (r.set y j) (by rw [List.length_set];exact hz) s.toks
 by_cases h0:0<=k
 ·have b:k.toNat=j:=by
   rw [seqIndex_of h0 f] at a
   exact aC5 a
  exact PySem.W.ki_setAt d h0 (by lia) (by rw [aB1,← c];exact f) (by rw [b];exact ⟨_,g,q⟩)
 ·have b:(k+(its.toArray.size:Int)).toNat=j:=by
   rw [seqIndex_neg (by lia) m] at a
   rw [aB1,← c]
   exact aC5 a
  exact PySem.W.ki_setBack d (by lia) (by rw [aB1,← c];exact m) (by lia) (by rw [b];exact ⟨_,g,q⟩)
theorem ami:abd X (.builtin "len") (fun xs H Q=>∃ p ys,xs=[.ref p]/\(SqL X.K H p ys\/SqT X.K H p ys)/\Q (.int ys.length) H):=by
 intro pins s σ H xs us Q I r h
 obtain ⟨p,ys,rfl,b,q⟩:=h
 obtain ⟨u,rfl,d⟩:=ac0 r
 cases d
 have hn:=ag0
 rcases b with b | b
 ·obtain ⟨its,c,pl,hz⟩:=I.list b
  have a:=c.length
  exact Calls.call_len_list pl.isList (by simp only [aB1] <;> lia) ⟨.int ys.length,H,I.tok _,⟨s.toks+1,by rw [aB1,a]⟩,q⟩
 ·obtain ⟨its,c,pl,hz⟩:=I.tuple b
  have a:=c.length
  exact len_tuple pl (by simp only [aB1] <;> lia) ⟨.int ys.length,H,I.tok _,⟨s.toks+1,by rw [aB1,a]⟩,q⟩
theorem amj:abd X (.type "list") (fun xs H Q=>∃ p ys,xs=[.ref p]/\(SqL X.K H p ys\/SqT X.K H p ys)/\∀ l,H l=none->Q (.ref l) (upd H l (.lst ys))):=by
 intro pins s σ H xs us Q I r h
 obtain ⟨p,ys,rfl,f,q⟩:=h
 obtain ⟨u,rfl,j⟩:=ac0 r
 cases j
 have fin:∀ (its:List Value),Vals ys its->ys.length<=sizeLine->∀ (h':Heap) (c:Nat),(∀ b o',s.heap.get? b=some o'->h'.get? b=some o') ->
   h'.get? s.heap.objs.size=some { cls:=.type "list",dict:=none,data:=.seq its.toArray c,slots:=#[] }->EP X pins σ Q (.ref s.heap.objs.size) { s with heap:=h' }:=fun its a hz h' c kp e =>
  ⟨.ref s.heap.objs.size,_,I.laid (t':=s.toks) kp (aA6 _) (show ObjOk X.prog X.w _ h' _ (.lst ys) from ⟨hz,its,c,a,e⟩),rfl,q _ (I.hok.fresh (aA6 _))⟩
 rcases f with f | f
 ·obtain ⟨its,a,pl,hz⟩:=I.list f
  have d:=a.length
  obtain ⟨o,i,g,n,hd⟩:=pl.isList
  exact call_list_seq p (.inl rfl) i g hd (fun h' c kp e=>fin its a hz h' c kp e) (by simp only [aB1] <;> lia)
 ·obtain ⟨its,a,pl,hz⟩:=I.tuple f
  have d:=a.length
  obtain ⟨o,i,g,n,hd⟩:=pl
  exact call_list_seq p (.inr rfl) i g hd (fun h' c kp e=>fin its a hz h' c kp e) (by simp only [aB1] <;> lia)
def tyV (K:Frag) (T:String) (x:V) (H:Hp):Prop:=match x with
 | .str _=>T = "str"
 | .int _=>T = "int"
 | .ref p=>(T = "list"/\∃ xs,SqL K H p xs)\/(T = "tuple"/\∃ o,K.lookup p=some o/\o.cls=.type "tuple"/\o.dict=none) ∨
   (T = "dict"/\((∃ kvs,H p=some (.dK kvs))\/∃ kvs,H p=some (.dT kvs)))\/(T = "set"/\∃ S n,H p=some (.set S n))
 | _=>False
theorem azj {pins:List (Addr × Obj)} {σ:St} {H:Hp} {s:Shared} {T:String} {x:V} {v:Value} (I:Inv X pins σ H s) (r:RelV x v) (ty:tyV X.K T x H) :
  s.TypeIs v T/\∀ a,v=.ref a->∃ d,s.heap.get? a=some d/\d.dict=none:=by
 cases x with
 | str z =>
  obtain ⟨t,rfl⟩:=r
  cases (show T = "str" from ty)
  exact ⟨typeIs_str s z t,fun _ e=>nomatch e⟩
 | int i =>
  obtain ⟨t,rfl⟩:=r
  cases (show T = "int" from ty)
  exact ⟨typeIs_int s i t,fun _ e=>nomatch e⟩
 | ref p =>
  cases r
  rcases ty with ⟨rfl,xs,g⟩ | ⟨rfl,o,b,f,hd⟩ | ⟨rfl,b⟩ | ⟨rfl,S,n,b⟩
  ·obtain ⟨its,_,pl,_⟩:=I.list g
   refine ⟨pl.isList.typeIs,fun a e=>?_⟩
   cases e
   obtain ⟨o,n,e,c,hd,_⟩:=pl
   exact ⟨o,e,hd⟩
  ·refine ⟨⟨o,I.kIn p o b,f⟩,fun a e=>?_⟩
   cases e
   exact ⟨o,I.kIn _ o b,hd⟩
  ·have z:∃ o,s.heap.get? p=some o/\o.ExactDict:=by
    rcases b with ⟨kvs,b⟩ | ⟨kvs,b⟩
    ·obtain ⟨_,_,_,_,o,_,_,e,ex,_⟩:=I.hok p _ b
     exact ⟨o,e,ex⟩
    ·obtain ⟨_,_,_,_,o,_,_,e,ex,_⟩:=I.hok p _ b
     exact ⟨o,e,ex⟩
   obtain ⟨o,e,ex⟩:=z
   refine ⟨⟨o,e,ex.1⟩,fun a e2=>?_⟩
   cases e2
   exact ⟨o,e,ex.2.1⟩
  ·obtain ⟨o,_,_,_,e,ex,_⟩:=I.hok p _ b
   refine ⟨⟨o,e,ex.1⟩,fun a e2=>?_⟩
   cases e2
   exact ⟨o,e,ex.2.1⟩
 | _=>exact False.elim ty
def tBM (K:Frag) (T:String) (r:V->List V->Hp->VK->Prop) (to:TE) (t:TA):TE:=fun σ H Q=>to σ H fun x H1=>tyV K T x H1/\t σ H1 fun xs H2=>r x xs H2 Q
variable {o e:Expr} {es:List Expr} {to:TE} {t:TA} {name:Str} {apos cpos:Pos} {T id:String} {r:V->List V->Hp->VK->Prop}
theorem ac1 (n:PlainAttrs T) (slot:Slot T name id) (g:typeOf (.builtin id)=pure (.type "method_descriptor")) (hm:MtR X id r) (w:PE X o to) (ha:PA X (e :: es) t)
  (c:attributeBase o name X.env (eval o X.env)=eval o X.env:=by rfl)
  (f:((backTo cpos (starEach (e :: es) X.env)).all (fun x => !x.1) && (backToKw cpos (keywordEach [] X.env)).all (fun x=>x.1.isSome)
   && decide ((e :: es).length+([]:List Keyword).length+(if ([]:List Keyword).isEmpty then 0 else 1) < 30))=true:=by rfl)
  (d:(apos.endLine == cpos.line)=true:=by rfl) (u:starEach (e :: es) X.env=(false,eval e X.env) :: starEach es X.env:=by rfl) (b:(backTo cpos (starEach es X.env)).any (·.1)=false:=by rfl) :
  PE X (.Call (.Attribute o name apos) (e :: es) [] cpos) (tBM X.K T r to t):=by
 intro pins s σ H Q I h
 refine wpAny_Call_method_late c f d rfl (thn (w pins s σ H _ I h) fun v s1 ⟨x,z,l,i,ty,q⟩=>?_)
 obtain ⟨p,m⟩:=azj l i ty
 refine ⟨T,id,n,slot,g,p,m,?_⟩
 have j:=ha cpos pins s1 σ z _ l q
 rw [u] at j ⊢
 refine Calls.callWith_builtin (by show (false || (backTo cpos (starEach es X.env)).any (·.1))=false;rw [b] <;> rfl) (Calls.evalArgs_plain ?_)
 exact thn j fun us s2 ⟨vs,H2,A,y,B⟩=>hm pins s2 σ H2 x vs v us Q A i y B
/- xs.append(e), list.index on a module's tuple .. are MtR facts of 06m -/
end
def MtM (X:Cx) (id:String) (r:V->List V->Hp->VK->Prop):Prop :=
 ∀ (pins:List (Addr × Obj)) (s:Shared) (σ:St) (H:Hp) (x:V) (xs:List V) (v:Value) (us:List Value) (Q:VK),Inv X pins σ H s->RelV x v->Vals xs us->r x xs H Q ->
  wpAny (model X.prog X.w) X.A (call (.builtin id) (v :: us)) (EP X pins σ Q) X.xe s
theorem Vals.one:∀ {x:V} {us:List Value},Vals [x] us->∃ u,us=[u]/\RelV x u
 | _,_,.cons r .nil=>⟨_,rfl,r⟩
theorem Vals.eraseIdx:∀ {xs:List V} {us:List Value} (i:Nat),Vals xs us->Vals (xs.eraseIdx i) (us.eraseIdx i)
 | _,_,_,.nil => .nil
 | _,_,0,.cons _ t=>t
 | _,_,i+1,.cons r t => .cons r (Vals.eraseIdx i t)
theorem Vals.rep {xs:List V} {us:List Value} (h:Vals xs us):∀ k:Nat,Vals (List.replicate k xs).flatten (List.replicate k us).flatten
 | 0 => .nil
 | k+1=>by
  rw [aG5,aG5,List.flatten_cons,List.flatten_cons]
  exact Vals.append h (Vals.rep h k)
theorem akz {α:Type}:∀ (l:List α) (i:Nat),(l.eraseIdx i).length<=l.length
 | [],_=>aA6 _
 | _ :: _,0=>Nat.le_succ _
 | _ :: r,i+1=>Nat.succ_le_succ (akz r i)
theorem ak0 (its:List Value):∀ (k:Nat) (a:List Value),
  List.foldl (fun b c=>b ++ c) a.toArray (List.replicate k its.toArray)=(a ++ (List.replicate k its).flatten).toArray
 | 0,a=>by simp
 | k+1,a=>by
  have e:a.toArray ++ its.toArray=(a ++ its).toArray:=by simp
  have e2:(a ++ its) ++ (List.replicate k its).flatten=a ++ (List.replicate (k+1) its).flatten:=by
   rw [aG5,List.flatten_cons,aB3]
  rw [← e2,← ak0 its k (a ++ its),← e,aG5,List.foldl_cons]
section
variable {X:Cx} {pins:List (Addr × Obj)} {σ:St} {H:Hp} {s:Shared} {l b:Addr} {xs ys zs:List V}
theorem Inv.lset {its its':List Value} {n:Nat} {f:Array Value->Array Value} {t':Nat} (I:Inv X pins σ H s) (a:H l=some (.lst xs))
  (e:s.heap.get? l=some { cls:=.type "list",data:=.seq its.toArray n }) (hf:f its.toArray=its'.toArray) (b:Vals ys its') (hz:ys.length<=sizeLine) :
  Inv X pins σ (upd H l (.lst ys)) { s with heap:=s.heap.update l (Obj.mapSeq f),toks:=t' }:=by
 have q:=PySem.IsL.update e f
 rw [hf] at q
 refine I.write (x:=l) (e:=l) (by rw [a];exact trivial) (.inl rfl) (fun d u hb c=>(Heap.get?_update_other s.heap (Obj.mapSeq f) (Ne.symm hb)).trans c) ⟨_,q⟩ ?_
 exact ⟨hz,its',_,b,q⟩
theorem Inv.lnew {its:List Value} {t':Nat} (I:Inv X pins σ H s) (a:Vals ys its) (hz:ys.length<=sizeLine) :
  Inv X pins σ (upd H s.heap.objs.size (.lst ys)) { s with heap:=s.heap.push { cls:=.type "list",data:=.seq its.toArray },toks:=t' } :=
 I.laid (fun _ _ q=>aI2 _ q) (aA6 _) ⟨hz,its,0,a,aI4 _ rfl⟩
theorem Inv.fresh (I:Inv X pins σ H s):H s.heap.objs.size=none:=I.hok.fresh (aA6 _)
theorem Inv.lstM (I:Inv X pins σ H s) (a:H l=some (.lst xs)):xs.length<=sizeLine/\∃ (its:List Value) (n:Nat),Vals xs its/\xs.length=its.length/\s.heap.get? l=some { cls:=.type "list",data:=.seq its.toArray n }:=by
 obtain ⟨z,its,n,r,e⟩:=I.hok l _ a
 exact ⟨z,its,n,r,r.length,e⟩
theorem amk {n:Nat} (h:n<=sizeLine):Builtin.List.listTooLong n=false:=by
 unfold Builtin.List.listTooLong
 exact aD5 (by lia)
end
section
variable {X:Cx}
def aem:V->List V->Hp->VK->Prop:=fun x vs H Q=>∃ l xs y,x=.ref l/\vs=[y]/\H l=some (.lst xs)/\xs.length < sizeLine/\Q .non (upd H l (.lst (xs ++ [y])))
theorem ab2:MtM X "list.append" aem:=by
 intro pins s σ H x vs v us Q I b c h
 obtain ⟨l,xs,y,rfl,rfl,a,hz,q⟩:=h
 cases b
 obtain ⟨u,rfl,d⟩:=c.one
 obtain ⟨z,its,n,r,f,e⟩:=I.lstM a
 refine call_meets F.slot_list_append ⟨_,e,rfl⟩ F.entry_list_append (F.args_list_append_2 _ _) (PySem.list_append l its.toArray n u (by rw [aB1];lia)) ⟨e,?_⟩
 refine ⟨.non,_,I.lset (its':=its ++ [u]) a e (by simp) (r.append (.cons d .nil)) ?_,rfl,q⟩
 rw [aB0,List.length_singleton]
 lia
def aj3:V->List V->Hp->VK->Prop:=fun x vs H Q=>∃ l b xs zs,x=.ref l/\vs=[.ref b]/\H l=some (.lst xs)/\H b=some (.lst zs)/\xs.length+zs.length<=sizeLine/\Q .non (upd H l (.lst (xs ++ zs)))
theorem ar4:MtM X "list.extend" aj3:=by
 intro pins s σ H x vs v us Q I i m h
 obtain ⟨l,b,xs,w,rfl,rfl,d,o,hz,q⟩:=h
 cases i
 obtain ⟨u,rfl,p⟩:=m.one
 cases p
 obtain ⟨z,its,n,r,y,e⟩:=I.lstM d
 obtain ⟨A,a,f,j,g,e2⟩:=I.lstM o
 have hsz:its.toArray.size+a.toArray.size<=sizeLine:=by rw [aB1,aB1];lia
 have c:¬ (!its.toArray.isEmpty && Builtin.List.listTooLong (its.toArray.size+a.toArray.size))=true:=by
  rw [amk hsz,Bool.and_false]
  exact aA9
 refine call_meets F.slot_list_extend ⟨_,e,rfl⟩ F.entry_list_extend (F.args_list_extend_2 _ _)
  (AutoSeq1.list_extend_list_list_0 l its.toArray n b a.toArray f c (by rw [aB1];lia) (by lia)) ⟨e,e2,?_⟩
 refine ⟨.non,_,I.lset (its':=its ++ a) d e (by simp) (r.append j) ?_,rfl,q⟩
 rw [aB0]
 lia
def ai0:V->List V->Hp->VK->Prop:=fun x vs H Q=>∃ l xs i k y,x=.ref l/\vs=[.int i]/\H l=some (.lst xs)/\-(2 ^ 63)<=i/\i < 2 ^ 63/\seqIndex? i xs.length=some k/\xs[k]?=some y/\Q y (upd H l (.lst (xs.eraseIdx k)))
theorem aml:MtM X "list.pop" ai0:=by
 intro pins s σ H x vs v us Q I f m h
 obtain ⟨l,xs,i,k,y,rfl,rfl,b,g,c,d,A,q⟩:=h
 cases f
 obtain ⟨u,rfl,o⟩:=m.one
 obtain ⟨t,rfl⟩:=o
 obtain ⟨z,its,n,r,j,e⟩:=I.lstM b
 obtain ⟨w,p,a⟩:=r.get A
 refine call_meets F.slot_list_pop ⟨_,e,rfl⟩ F.entry_list_pop (F.args_list_pop_2 _ _)
  (MeetsSeq.list_pop_at l its.toArray n i t k w (fitsIndex_both g c) (by rw [aB1,← j];exact d) (by rw [← aD4];exact p) (by rw [aB1];lia)) ⟨e,?_⟩
 refine ⟨y,_,I.lset (its':=its.eraseIdx k) b e ?_ (r.eraseIdx k) ?_,a,q⟩
 ·show its.toArray.eraseIdxIfInBounds k=(its.eraseIdx k).toArray
  rw [List.eraseIdxIfInBounds_toArray]
 ·have:=akz xs k
  lia
def rCat:R2:=fun x y H Q=>∃ l b xs zs,x=.ref l/\y=.ref b/\H l=some (.lst xs)/\H b=some (.lst zs)/\xs.length+zs.length<=sizeLine/\∀ p,H p=none->Q (.ref p) (upd H p (.lst (xs ++ zs)))
theorem ai1:OpR X (binaryOp .Add) rCat:=by
 intro pins s σ H x y v u Q I d f h
 obtain ⟨l,b,xs,o,rfl,rfl,g,m,hz,q⟩:=h
 cases d
 cases f
 obtain ⟨z,its,n,r,w,e⟩:=I.lstM g
 obtain ⟨A,a,p,j,c,e2⟩:=I.lstM m
 refine PySem.P.add_list e e2 ?_ (by rw [aB1,aB1];lia)
 have i:its.toArray ++ a.toArray=(its ++ a).toArray:=by simp
 rw [i]
 exact ⟨.ref _,_,I.lnew (t':=s.toks) (r.append j) (by rw [aB0];lia),rfl,q _ I.fresh⟩
def rRep:R2:=fun x y H Q=>∃ l k xs,x=.ref l/\y=.int k/\H l=some (.lst xs)/\-(2 ^ 63)<=k/\k < 2 ^ 63/\xs.length * k.toNat<=sizeLine /\
 ∀ p,H p=none->Q (.ref p) (upd H p (.lst (List.replicate k.toNat xs).flatten))
theorem ao0 {α:Type} (xs:List α) (k:Nat):(List.replicate k xs).flatten.length=k * xs.length:=by
 induction k with
 | zero=>simp
 | succ k ih=>rw [aG5,List.flatten_cons,aB0,ih,Nat.succ_mul,Nat.add_comm]
theorem azk:OpR X (binaryOp .Mult) rRep:=by
 intro pins s σ H x y v u Q I w B h
 obtain ⟨l,k,xs,rfl,rfl,E,A,o,hz,q⟩:=h
 cases w
 obtain ⟨t,rfl⟩:=B
 obtain ⟨z,its,n,r,C,e⟩:=I.lstM E
 have f:its.toArray.size * k.toNat<=sizeLine:=by rw [aB1,← C];exact hz
 have c:¬ its.toArray.size * k.toNat > (2 ^ 63 - 1) / 8:=by
  have:(sizeLine:Nat)<=(2 ^ 63 - 1) / 8:=by decide
  lia
 have g:¬ (!Builtin.List.listFitsIndex k)=true:=by
  rw [fitsIndex_both A o]
  exact aA9
 have b:¬ Builtin.List.listTooLong (its.toArray.size * k.toNat)=true:=by
  rw [amk f]
  exact aA9
 have d:List.foldl (fun j i=>j ++ i) #[] (List.replicate (if its.toArray.isEmpty=true then 0 else k.toNat) its.toArray)=(List.replicate k.toNat its).flatten.toArray:=by
  have p:∀ m:Nat,List.foldl (fun j i=>j ++ i) #[] (List.replicate m its.toArray)=(List.replicate m its).flatten.toArray:=fun m=>by
   have:=ak0 its m []
   rw [List.nil_append] at this
   exact this
  rw [p]
  cases its with
  | nil=>simp
  | cons a r'=>rw [aE8 (by simp)]
 refine wpAny_binaryOp_repeat_ref (T:="list") (U:="int") (by decide) ⟨_,e,rfl⟩ (fun D=>typeIs_int D k t) noFill_list_mul F.fills_int_mul F.slot_int_rmul repeat_list F.slot_int_index.lookup
  (call_meets F.slot_int_rmul (typeIs_int s k t) F.entry_int_rmul (F.args_int_rmul_2 _ _) (int___rmul___int_list k t l its.toArray n)
   ⟨e,rfl,⟨_,e,rfl⟩,call_meets F.slot_list_mul ⟨_,e,rfl⟩ F.entry_list_mul (F.args_list_mul_2 _ _) (AutoListH.list___mul___list_int_3 l its.toArray n k t g c b) ⟨e,?_⟩⟩)
 rw [d]
 exact ⟨.ref _,_,I.lnew (t':=s.toks) (r.rep k.toNat) (by rw [ao0,Nat.mul_comm];exact hz),rfl,q _ I.fresh⟩
end
section
variable {prog:Program} {w:World} {A:Around} {E:Value->Shared->Prop} {s:Shared}
end
section
variable {X:Cx}
end
section
variable {κ:Type} [DecidableEq κ]
def valV (kvs:List (κ × V)) (k : κ):Option V:=(kvs.find? fun kv=>decide (kv.1=k)).map (·.2)
def putK (kvs:List (κ × V)) (k : κ) (v:V):List (κ × V) :=
 if (kvs.any fun kv=>decide (kv.1=k))=true then kvs.map (fun kv=>if kv.1=k then (kv.1,v) else kv) else kvs ++ [(k,v)]
def awe (kvs:List (κ × V)) (k : κ):List (κ × V):=kvs.filter fun kv=>decide (kv.1 ≠ k)
theorem af4 {p : κ × V} {r:List (κ × V)} {k : κ} (e:p.1=k):valV (p :: r) k=some p.2:=by simp [valV,List.find?_cons,e]
theorem af5 {p : κ × V} {r:List (κ × V)} {k : κ} (e:¬ p.1=k):valV (p :: r) k=valV r k:=by simp [valV,List.find?_cons,e]
theorem amm (k : κ):∀ kvs:List (κ × V),(kvs.any fun a=>decide (a.1=k))=(valV kvs k).isSome
 | []=>rfl
 | p :: r=>by
  rw [List.any_cons]
  by_cases e:p.1=k
  ·simp only [af4 e,aD6 e,Bool.true_or,Option.isSome_some]
  ·rw [af5 e,aD5 e,Bool.false_or];exact amm k r
theorem afl (kvs:List (κ × V)) (k : κ) (v:V):(putK kvs k v).length<=kvs.length+1:=by
 unfold putK
 split
 ·rw [aA3];lia
 ·rw [aB0,aE0,aH9];lia
theorem RelO.isSome_eq {o:Option V} {u:Option Value} (r:RelO o u):o.isSome=u.isSome:=by
 cases o with
 | none=>cases u with
  | none=>rfl
  | some _=>exact (show False from r).elim
 | some _=>cases u with
  | none=>exact (show False from r).elim
  | some _=>rfl
theorem KV.val {kvs:List (κ × V)} {vs:List (κ × Value)} (r:KV kvs vs) (k : κ):RelO (valV kvs k) (valueAt vs k):=by
 unfold KV at r
 induction r with
 | nil=>exact True.intro
 | @cons p q ps qs h t ih =>
  obtain ⟨c,d⟩:=h
  by_cases e:p.1=k
  ·have a:q.1=k:=c.symm.trans e
   have b:valueAt (q :: qs) k=some q.2:=by simp [valueAt,List.find?_cons,a]
   rw [af4 e,b];exact d
  ·have a:¬ q.1=k:=fun z=>e (c.trans z)
   have b:valueAt (q :: qs) k=valueAt qs k:=by simp [valueAt,List.find?_cons,a]
   rw [af5 e,b];exact ih
theorem KV.any {kvs:List (κ × V)} {vs:List (κ × Value)} (r:KV kvs vs) (k : κ):(kvs.any fun a=>decide (a.1=k))=vs.any fun a=>decide (a.1=k):=by
 unfold KV at r
 induction r with
 | nil=>rfl
 | cons h t ih=>rw [List.any_cons,List.any_cons,ih,h.1]
theorem KV.repl {kvs:List (κ × V)} {vs:List (κ × Value)} (r:KV kvs vs) (k : κ) {y:V} {u:Value} (d:RelV y u) :
  KV (kvs.map fun a=>if a.1=k then (a.1,y) else a) (vs.map fun a=>if a.1=k then (a.1,u) else a):=by
 unfold KV at r ⊢
 induction r with
 | nil=>exact .nil
 | @cons p q ps qs h t ih =>
  rw [aD0,aD0]
  refine .cons ?_ ih
  obtain ⟨b,c⟩:=h
  by_cases e:p.1=k
  ·rw [aE7 e,aE7 (b.symm.trans e)];exact ⟨b,d⟩
  ·rw [aE8 e,aE8 (fun z=>e (b.trans z))];exact ⟨b,c⟩
theorem KV.put {kvs:List (κ × V)} {vs:List (κ × Value)} (r:KV kvs vs) (k : κ) {y:V} {u:Value} (a:RelV y u):KV (putK kvs k y) (stored vs k u):=by
 unfold putK stored
 rw [r.any k]
 by_cases e:(vs.any fun b=>decide (b.1=k))=true
 ·rw [aE7 e,aE7 e];exact r.repl k a
 ·rw [aE8 e,aE8 e];exact Paired.snoc r ⟨rfl,a⟩
theorem KV.length {kvs:List (κ × V)} {vs:List (κ × Value)} (r:KV kvs vs):kvs.length=vs.length:=Paired.length r
end
theorem ai2 {P:Program} {w:World} {k:Key} {u:Value} (r:RelV (kV k) u):(aba P w).is k u=true:=by
 cases k with
 | inl i=>obtain ⟨t,e⟩:=(show ∃ t,u=Value.int i t from r);subst e;exact ah6 P w i t
 | inr x=>obtain ⟨t,e⟩:=(show ∃ t,u=Value.str x t from r);subst e;exact aoi P w x t
theorem ak1 {P:Program} {w:World}:∀ {a:List Key} {us:List Value},Vals (a.map kV) us->ItemsAre (aba P w) a us
 | [],_,r=>by rw [List.map_nil] at r;cases r;exact .nil
 | k :: a,_,r=>by
  rw [aD0] at r
  cases r with
  | cons h t=>exact .cons (ai2 h) (ak1 t)
abbrev KT (H:Hp):List (List Key × V)->List (List Key × Addr × Value)->Prop:=Paired fun p q=>p.1=q.1/\H q.2.1=some (.tup (p.1.map kV))/\RelV p.2 q.2.2
theorem KT.val {H:Hp} {kvs:List (List Key × V)} {xs:List (List Key × Addr × Value)} (r:KT H kvs xs) (k:List Key):RelO (valV kvs k) ((atKey xs k).map (·.2)):=by
 induction r with
 | nil=>exact True.intro
 | @cons p q ps qs h t ih =>
  obtain ⟨c,_,d⟩:=h
  by_cases e:p.1=k
  ·have a:q.1=k:=c.symm.trans e
   have b:atKey (q :: qs) k=some q.2:=by simp [atKey,List.find?_cons,a]
   rw [af4 e,b];exact d
  ·have a:¬ q.1=k:=fun z=>e (c.trans z)
   have b:atKey (q :: qs) k=atKey qs k:=by simp [atKey,List.find?_cons,a]
   rw [af5 e,b];exact ih
theorem KT.repl {H:Hp} {kvs:List (List Key × V)} {xs:List (List Key × Addr × Value)} (r:KT H kvs xs) (k:List Key) {y:V} {u:Value} (d:RelV y u) :
  KT H (kvs.map fun b=>if b.1=k then (b.1,y) else b) (xs.map (putAt k u)):=by
 induction r with
 | nil=>exact .nil
 | @cons p q ps qs h t ih =>
  rw [aD0,aD0]
  refine .cons ?_ ih
  obtain ⟨a,c,f⟩:=h
  unfold putAt
  by_cases e:p.1=k
  ·rw [aE7 e,aE7 (a.symm.trans e)];exact ⟨a,c,d⟩
  ·rw [aE8 e,aE8 (fun z=>e (a.trans z))];exact ⟨a,c,f⟩
theorem KT.put {H:Hp} {kvs:List (List Key × V)} {xs:List (List Key × Addr × Value)} (r:KT H kvs xs) (k:List Key) {b:Addr} {y:V} {u:Value} (hb:H b=some (.tup (k.map kV))) (a:RelV y u) :
  KT H (putK kvs k y) (storedH xs k b u):=by
 have e:(kvs.any fun c=>decide (c.1=k))=(atKey xs k).isSome:=by
  rw [amm,(r.val k).isSome_eq,Option.isSome_map]
 unfold putK storedH
 rw [e]
 by_cases q:(atKey xs k).isSome=true
 ·rw [aE7 q,aE7 q];exact r.repl k a
 ·rw [aE8 q,aE8 q];exact Paired.snoc r ⟨rfl,hb,a⟩
theorem KT.keeps {H H':Hp} {kvs:List (List Key × V)} {xs:List (List Key × Addr × Value)} (r:KT H kvs xs) (a:∀ b ys,H b=some (.tup ys)->H' b=some (.tup ys)):KT H' kvs xs :=
 Paired.mapP r fun _ _ z=>⟨z.1,a _ _ z.2.1,z.2.2⟩
section
variable {P:Program} {w:World} {H:Hp} {h:Heap} {a:Addr}
theorem awf {u:HO} (ok:HOk P w H h) (e:Rd H a u):ObjOk P w H h a u:=e.ok ok
theorem ai3 {kvs:List (Key × V)} (ok:HOk P w H h) (e:Rd H a (.dK kvs)):kvs.length<=sizeLine/\(a == sysModules)=false/\∃ vs,KV kvs vs/\h.DictOf (aba P w) a vs :=
 show ObjOk P w H h a (.dK kvs) from awf ok e
theorem awg {kvs:List (Key × V)} (ok:HOk P w H h) (e:H a=some (.dK kvs)):kvs.length<=sizeLine/\(a == sysModules)=false/\∃ vs,KV kvs vs/\h.DictOf (aba P w) a vs:=ai3 ok (.inl e)
theorem afr {b:List Key} (ok:HOk P w H h) (e:H a=some (.tup (b.map kV))):(tupleKind (aba P w)).is h b a:=by
 obtain ⟨_,its,r,o,d,c,n,f⟩:=(show ObjOk P w H h a (.tup (b.map kV)) from ok a _ e)
 exact ⟨o,its.toArray,n,d,c,f,by simpa using ak1 r⟩
theorem ai4 {kvs:List (List Key × V)} (ok:HOk P w H h) (e:Rd H a (.dT kvs)):kvs.length<=sizeLine/\(a == sysModules)=false /\
  ∃ xs,KT H kvs xs/\h.DictOfH (tupleKind (aba P w)) a xs:=by
 obtain ⟨z,y,xs,r,o,es,j,g,c,i,d,f⟩:=(show ObjOk P w H h a (.dT kvs) from awf ok e)
 refine ⟨z,y,xs,r,o,es,j,g,c,i,d,fun x b=>?_,f⟩
 have all:∀ {l:List (List Key × V)} {m:List (List Key × Addr × Value)},KT H l m->∀ x∈m,(tupleKind (aba P w)).is h x.1 x.2.1:=by
  intro l m q
  induction q with
  | nil=>intro x b;exact nomatch b
  | @cons p q ps qs hq t ih =>
   intro x b
   rcases aA8.mp b with e | b
   ·subst e
    exact afr ok (by rw [← hq.1];exact hq.2.1)
   ·exact ih x b
 exact all r x b
theorem ai5 {kvs:List (List Key × V)} (ok:HOk P w H h) (e:H a=some (.dT kvs)):kvs.length<=sizeLine/\(a == sysModules)=false /\
  ∃ xs,KT H kvs xs/\h.DictOfH (tupleKind (aba P w)) a xs:=ai4 ok (.inl e)
end
def DGet (H:Hp) (a:Addr) (y:V) (r:Option V):Prop :=
 (∃ kvs k,Rd H a (.dK kvs)/\y=kV k/\r=valV kvs k)\/∃ kvs k b,Rd H a (.dT kvs)/\y=.ref b/\H b=some (.tup (k.map kV))/\r=valV kvs k
def DPut (H:Hp) (a:Addr) (y v:V) (H':Hp):Prop :=
 (∃ kvs k,H a=some (.dK kvs)/\y=kV k/\kvs.length < sizeLine/\H'=upd H a (.dK (putK kvs k v))) ∨
 ∃ kvs k b,H a=some (.dT kvs)/\y=.ref b/\H b=some (.tup (k.map kV))/\kvs.length < sizeLine/\H'=upd H a (.dT (putK kvs k v))
theorem DGet.k {H:Hp} {a:Addr} {kvs:List (Key × V)} {k:Key} (e:H a=some (.dK kvs)):DGet H a (kV k) (valV kvs k):=.inl ⟨kvs,k,.inl e,rfl,rfl⟩
theorem DPut.k {H:Hp} {a:Addr} {kvs:List (Key × V)} {k:Key} {v:V} (e:H a=some (.dK kvs)) (b:kvs.length < sizeLine):DPut H a (kV k) v (upd H a (.dK (putK kvs k v))):=.inl ⟨kvs,k,e,rfl,b,rfl⟩
theorem DPut.t {H:Hp} {a b:Addr} {kvs:List (List Key × V)} {k:List Key} {v:V} (e:H a=some (.dT kvs)) (d:H b=some (.tup (k.map kV))) (c:kvs.length < sizeLine) :
  DPut H a (.ref b) v (upd H a (.dT (putK kvs k v))):=.inr ⟨kvs,k,b,e,rfl,d,c,rfl⟩
section
variable {X:Cx} {pins:List (Addr × Obj)} {σ:St} {H:Hp} {s:Shared} {a:Addr} {y v:V} {u r:Value} {o:Option V} {A:Around} {E:Value->Shared->Prop}
theorem Inv.big (I:Inv X pins σ H s):sysModules < s.heap.objs.size:=by
 have h:mainGlobals < s.heap.objs.size:=(I.mod.glob.keeps I.bk).lt
 exact Nat.lt_trans (by decide) h
theorem ar5 {Q:Value->Shared->Prop} (r:A.units+1 < cLine) (I:Inv X pins σ H s) (g:DGet H a y (some v)) (n:RelV y u) (h:∀ f q,Inv X pins σ H q->RelV v f->Q f q) :
  wpAny (model X.prog X.w) A (getItem (.ref a) u) Q E s:=by
 rcases g with ⟨kvs,k,e,m,l⟩ | ⟨kvs,k,b,e,m,B,l⟩
 ·subst m
  obtain ⟨z,hd,vs,c,dd⟩:=ai3 I.hok e
  obtain ⟨f,j,d⟩:=RelO.some_of (v:=v) (o:=valueAt vs k) (by rw [l];exact c.val k)
  exact wpAny_getItem_of (ai2 n) dd.mapOf j (h f _ (I.tok _) d)
 ·subst m
  cases (show u=Value.ref b from n)
  obtain ⟨z,hd,xs,c,dd⟩:=ai4 I.hok e
  obtain ⟨f,j,d⟩:=RelO.some_of (v:=v) (o:=(atKey xs k).map (·.2)) (by rw [l];exact c.val k)
  obtain ⟨p,x,i⟩:=Option.map_eq_some_iff.mp j
  refine wpAny_getItem_heap (tupleKind_room_in1 r) (afr I.hok B) dd x ?_
  rw [i]
  exact h f _ (I.tok _) d
theorem aw3 {Q:Value->Shared->Prop} (j:A.units+1 < cLine) (I:Inv X pins σ H s) (g:DGet H a y o) (f:RelV y u) (h:∀ i,Inv X pins σ H i->Q (.bool (!o.isSome)) i) :
  wpAny (model X.prog X.w) A (compareOp .NotIn u (.ref a)) Q E s:=by
 rcases g with ⟨kvs,k,e,d,l⟩ | ⟨kvs,k,b,e,d,m,l⟩
 ·subst d
  obtain ⟨z,hd,vs,c,dd⟩:=ai3 I.hok e
  refine wpAny_notIn_of (ai2 f) hd dd.mapOf ?_
  rw [← (c.val k).isSome_eq,← l]
  exact h _ (I.tok _)
 ·subst d
  cases (show u=Value.ref b from f)
  obtain ⟨z,hd,xs,c,dd⟩:=ai4 I.hok e
  refine wpAny_notIn_heap (tupleKind_room_in1 j) (afr I.hok m) hd dd ?_
  have q:=(c.val k).isSome_eq
  rw [Option.isSome_map] at q
  rw [← q,← l]
  exact h _ (I.tok _)
theorem aht {h':Heap} {t':Nat} {c:HO} (I:Inv X pins σ H s) (f:Mut (H a)) (g:Heap.SameBut a s.heap h') (d:∃ q,h'.get? a=some q) (new:ObjOk X.prog X.w (upd H a c) h' a c) :
  Inv X pins σ (upd H a c) { s with heap:=h',toks:=t' } :=
 I.write (x:=a) (e:=a) f (.inl rfl) (fun b q hb z=>(g.2 b hb).trans z) d new
theorem ar6 {P:Program} {w:World} {H':Hp} {h':Heap} {kvs:List (Key × V)} {vs:List (Key × Value)} (z:kvs.length<=sizeLine) (hd:(a == sysModules)=false) (b:KV kvs vs) (dd:h'.DictOf (aba P w) a vs) :
  ObjOk P w H' h' a (.dK kvs):=⟨z,hd,vs,b,dd⟩
theorem ar7 {H':Hp} {Q:Unit->Shared->Prop} (J:A.units+1 < cLine) (I:Inv X pins σ H s) (g:DPut H a y v H') (p:RelV y u) (C:RelV v r) (h:∀ x,Inv X pins σ H' x->Q () x) :
  wpAny (model X.prog X.w) A (setItem (.ref a) u r) Q E s:=by
 rcases g with ⟨kvs,k,e,o,l,j⟩ | ⟨kvs,k,b,e,o,B,l,j⟩
 ·subst o j
  obtain ⟨z,hd,vs,d,dd⟩:=awg I.hok e
  have hz:vs.length<=sizeLine:=by rw [← d.length];exact z
  have m:(putK kvs k v).length<=sizeLine:=by have:=afl kvs k v;lia
  refine wpAny_setItem_pairs (hsz:=hz) (ai2 p) dd fun h' f n=>h _ ?_
  have N:∃ q,h'.get? a=some q:=let ⟨q,_,_,i,_⟩:=f;⟨q,i⟩
  exact aht I (by rw [e];exact True.intro) n N (ar6 m hd (d.put k C) f)
 ·subst o j
  cases (show u=Value.ref b from p)
  obtain ⟨z,hd,xs,d,dd⟩:=ai5 I.hok e
  have hz:xs.length<=sizeLine:=by rw [← Paired.length d];exact z
  have m:(putK kvs k v).length<=sizeLine:=by have:=afl kvs k v;lia
  refine wpAny_setItem_heap (hsz:=hz) (tupleKind_room_in1 J) (afr I.hok B) dd fun h' f n=>h _ ?_
  obtain ⟨q,es,M,i,F,L,G,_,K⟩:=f
  refine aht I (by rw [e];exact True.intro) n ⟨q,i⟩ ⟨m,hd,_,(d.put k B C).keeps fun c ys D=>?_,q,es,M,i,F,L,G,K⟩
  rw [aae (ahp D e (fun z=>nomatch z))]
  exact D
end
section
variable {X:Cx} {pins:List (Addr × Obj)} {σ:St} {H:Hp} {s:Shared} {a:Addr} {kvs:List (Key × V)} {k:Key} {u:Value} {A:Around} {E:Value->Shared->Prop}
end
def NoSl (i:Expr):Prop:=∀ ov iv,subscripted i false ov iv=operate [ov,iv] (getItem ov iv)
theorem aw4 {prog:Program} {w:World} {A:Around} {E:Value->Shared->Prop} {s:Shared} {env:Env} {b a:Expr} {m:Pos} {T id:String} {Q:Value->Shared->Prop}
  (p:typeLookup (.type T) "__getitem__" = pure (some (.builtin id))) (q:NoSl a)
  (h:wpAny (model prog w) A (eval b env) (fun o g=>wpAny (model prog w) A (eval a env) (fun i c=>c.TypeIs o T/\wpAny (model prog w) A (getItem o i) Q E c) E g) E s) :
  wpAny (model prog w) A (eval (.Subscript b a m) env) Q E s:=by
 refine Subscript_ (aI7 h (fun o g j=>aI7 j (fun i c d=>?_) fun _ _ x=>x) fun _ _ x=>x)
 obtain ⟨n,d⟩:=d
 unfold subscriptTail
 refine aI0 ?_
 rw [getitemInPython_of_ne n.not_modules]
 refine aI0 (wpAny_specialOf n p ?_)
 have fin:wpAny (model prog w) A (subscripted a false o i) (fun r f=>wpAny (model prog w) A (letTemporaryGo b o r >>= fun _=>pure r) Q E f) E c:=by
  rw [q o i]
  exact wpAny_operating (aI7 d (fun r f l=>aI0 (wpAny_letTemporaryGo (aI1 l))) fun _ _ x=>x)
 first
  | exact aI1 (aI0 fin)
  | exact aI0 (aI1 (aI0 fin))
  | exact aI0 fin
theorem aoj {X:Cx} {pins:List (Addr × Obj)} {σ:St} {H:Hp} {s:Shared} {a:Addr} {y:V} {o:Option V} (I:Inv X pins σ H s) (g:DGet H a y o):s.TypeIs (.ref a) "dict":=by
 rcases g with ⟨kvs,k,e,_,_⟩ | ⟨kvs,k,b,e,_,_,_⟩
 ·obtain ⟨_,_,vs,_,dd⟩:=ai3 I.hok e
  exact dd.typeIs
 ·obtain ⟨_,_,xs,_,dd⟩:=ai4 I.hok e
  exact dd.typeIs
def al3 (td ty:TE):TE:=fun σ H Q=>td σ H fun x H1=>ty σ H1 fun y H2=>∃ a v,x=.ref a/\DGet H2 a y (some v)/\Q v H2
def afs (ty td:TE):TE:=fun σ H Q=>ty σ H fun y H1=>td σ H1 fun x H2=>∃ a o,x=.ref a/\DGet H2 a y o/\Q (.bl (!o.isSome)) H2
def ai6 (td ty tv:TE):TS:=fun D σ H=>tv σ H fun v H1=>td σ H1 fun x H2=>ty σ H2 fun y H3=>∃ a H4,x=.ref a/\DPut H3 a y v H4/\D.nx σ H4
section
variable {X:Cx} {o i e value:Expr} {pos pos' tpos:Pos} {td ty tv:TE}
theorem aj4 (d:X.A.units+1 < cLine) (n:PE X o td) (hi:PE X i ty) (l:NoSl i):PE X (.Subscript o i pos) (al3 td ty):=by
 intro pins s σ H Q I h
 refine aw4 PySem.F.slot_dict_getitem.lookup l (thn (n pins s σ H _ I h) fun u s1 ⟨x,q,r,f,m⟩=>thn (hi pins s1 σ q _ r m) fun C s2 ⟨y,H2,c,j,a,v,ex,g,w⟩=>?_)
 subst ex
 obtain rfl:u=Value.ref a:=f
 exact ⟨aoj c g,ar5 d c g j fun z B p b=>⟨v,H2,p,b,w⟩⟩
theorem ak2 (b:X.A.units+1 < cLine) (hi:PE X i ty) (l:PE X o td):PC X .NotIn i o (afs ty td):=by
 intro pins s σ H Q I h
 refine thn (hi pins s σ H _ I h) fun w s1 ⟨y,n,p,f,j⟩=>thn (l pins s1 σ n _ p j) fun u s2 ⟨x,H2,q,d,a,c,ex,g,r⟩=>?_
 subst ex
 obtain rfl:u=Value.ref a:=d
 exact aw3 b q g f fun v m=>⟨.bl (!c.isSome),H2,m,rfl,r⟩
theorem aft (c:X.A.units+1 < cLine) (p:PE X o td) (hi:PE X i ty) (B:PE X value tv) (m:swapsWith value (some (.Subscript o i pos')) pos.line X.env=pure false) :
  PS X (.Assign [.Subscript o i pos'] value pos) (ai6 td ty tv):=by
 intro pins s σ H D I h
 refine wpAny_Assign_Subscript (thn (B pins s σ H _ I h) fun r s1 ⟨v,z,C,w,n⟩=>thn (p pins s1 σ z _ C n) fun u s2 ⟨x,H2,E,j,F⟩=>thn (hi pins s2 σ H2 _ E F) fun K J ⟨y,H3,q,l,a,d,ex,g,f⟩=>?_) m
 subst ex
 obtain rfl:u=Value.ref a:=j
 exact ar7 c q g l w fun G b=>⟨σ,d,b,f⟩
end
theorem aug {P:Program} {w:World} {H:Hp} (h:Heap) (hb:sysModules < h.objs.size):ObjOk P w H (h.push { cls:=.type "dict",data:=.dict #[] }) h.objs.size (.dK []) :=
 ⟨aF2 _,beq_eq_false_iff_ne.mpr (Ne.symm (aB5 hb)),[],.nil,Heap.DictOf.new h⟩
theorem auh {P:Program} {w:World} {H:Hp} (h:Heap) (hb:sysModules < h.objs.size):ObjOk P w H (h.push { cls:=.type "dict",data:=.dict #[] }) h.objs.size (.dT []) :=
 ⟨aF2 _,beq_eq_false_iff_ne.mpr (Ne.symm (aB5 hb)),[],.nil,_,#[],0,aI4 _ rfl,⟨rfl,rfl,rfl⟩,rfl,rfl,List.nodup_nil⟩
def amn:TE:=fun _ H Q=>∀ p,H p=none->Q (.ref p) (upd H p (.dT []))
section
variable {X:Cx} {pos:Pos}
theorem amo:PE X (.Dict [] [] pos) amn:=fun pins s σ H Q I h =>
 wpAny_Dict_empty ⟨.ref s.heap.objs.size,_,I.laid (a:=s.heap.objs.size) (o:=.dT []) (t':=s.toks) (fun _ _ q=>aI2 _ q) (aA6 _) (auh s.heap I.big),rfl,h _ (I.hok.fresh (aA6 _))⟩
end
def amp:List (TE × TE)->St->Hp->(List (V × V)->Hp->Prop)->Prop
 | [],_,H,Q=>Q [] H
 | (tk,tv) :: r,σ,H,Q=>tk σ H fun x H1=>tv σ H1 fun y H2=>amp r σ H2 fun ps H3=>Q ((x,y) :: ps) H3
abbrev VV:List (V × V)->List (Value × Value)->Prop:=Paired fun p q=>RelV p.1 q.1/\RelV p.2 q.2
def PPs (X:Cx) (pos:Pos) (keys:List (Option Expr)) (values:List Expr) (trs:List (TE × TE)):Prop :=
 ∀ (pins:List (Addr × Obj)) (s:Shared) (σ:St) (H:Hp) (Q:List (V × V)->Hp->Prop),Inv X pins σ H s->amp trs σ H Q ->
  wpAny (model X.prog X.w) X.A (evalPairs (pairTrees keys values X.env pos)) (fun vs s'=>∃ ps H',Inv X pins σ H' s'/\VV ps vs/\Q ps H') X.xe s
theorem aw5 {X:Cx} {a:Pos}:PPs X a [] [] []:=fun pins s σ H Q I h=>pairTrees_nil_walk ⟨[],H,I,.nil,h⟩
theorem aui {X:Cx} {b:Pos} {k v:Expr} {f:List (Option Expr)} {vs:List Expr} {g d:TE} {a:List (TE × TE)} (j:PE X k g) (q:PE X v d) (r:PPs X b f vs a) :
  PPs X b (some k :: f) (v :: vs) ((g,d) :: a):=fun pins s σ H Q I h =>
 pairTrees_cons_walk (thn (j pins s σ H _ I h) fun u s1 ⟨x,p,w,l,n⟩=>thn (q pins s1 σ p _ w n) fun C s2 ⟨y,H2,z,m,A⟩ =>
  thn (r pins s2 σ H2 _ z A) fun B D ⟨ps,H3,o,c,i⟩=>⟨(x,y) :: ps,H3,o,.cons ⟨l,m⟩ c,i⟩)
def afu (kvs more:List (Key × V)):List (Key × V):=more.foldl (fun acc kv=>putK acc kv.1 kv.2) kvs
theorem KV.merge:∀ {more:List (Key × V)} {rs:List (Key × Value)} {kvs:List (Key × V)} {vs:List (Key × Value)},KV more rs->KV kvs vs->KV (afu kvs more) (merged vs rs):=by
 intro more rs kvs vs r
 unfold KV at r
 induction r generalizing kvs vs with
 | nil=>intro q;exact q
 | @cons p q ps qs h t ih =>
  intro a
  have e:KV (putK kvs p.1 p.2) (stored vs q.1 q.2):=by
   have:=a.put p.1 h.2
   rw [← h.1];exact this
  exact ih e
theorem agq:∀ (more kvs:List (Key × V)),(afu kvs more).length<=kvs.length+more.length
 | [],kvs=>by show kvs.length<=kvs.length+0;lia
 | p :: r,kvs=>by
  have a:=agq r (putK kvs p.1 p.2)
  have b:=afl kvs p.1 p.2
  show (afu (putK kvs p.1 p.2) r).length<=_
  rw [aE0];lia
theorem ai7 {P:Program} {w:World}:∀ {kvs:List (Key × V)} {f:List (Value × Value)},VV (kvs.map fun d=>(kV d.1,d.2)) f->∃ rs,Carries (aba P w) f rs/\KV kvs rs
 | [],_,r=>by rw [List.map_nil] at r;cases r;exact ⟨[],True.intro,.nil⟩
 | p :: kvs,_,r=>by
  rw [aD0] at r
  cases r with
  | @cons a b as bs h t =>
   obtain ⟨rs,c,q⟩:=ai7 (P:=P) (w:=w) t
   obtain ⟨b1,g⟩:=b
   exact ⟨(p.1,g) :: rs,⟨ai2 h.1,rfl,c⟩,.cons ⟨rfl,h.2⟩ q⟩
def awh (trs:List (TE × TE)):TE:=fun σ H Q=>∀ p,H p=none->amp trs σ (upd H p (.dK [])) fun ps H2=>H2 p=some (.dK [])/\∃ kvs:List (Key × V),ps=kvs.map (fun kv=>(kV kv.1,kv.2))/\kvs.length<=15/\Q (.ref p) (upd H2 p (.dK (afu [] kvs)))
theorem aw6 {X:Cx} {i:Pos} {keys:List (Option Expr)} {b:List Expr} {g:List (TE × TE)} (h:PPs X i keys b g) (d:keys.all (·.isSome)=true) (r:keys.length=b.length) (p:keys ≠ [])
  (l:keys.length<=15):PE X (.Dict keys b i) (awh g):=by
 intro pins s σ H Q I q
 have hn:=I.hok.fresh (aA6 s.heap.objs.size)
 have C:=I.laid (a:=s.heap.objs.size) (o:=.dK []) (h':=s.heap.push { cls:=.type "dict",data:=.dict #[] }) (t':=s.toks) (fun _ _ q=>aI2 _ q) (aA6 _) (aug s.heap I.big)
 refine wpAny_Dict_walk (knd:=aba X.prog X.w) d r p l (thn (h pins _ σ _ _ C (q _ hn)) fun G s2 ⟨ps,H2,m,j,e,kvs,y,F,D⟩=>?_)
 subst y
 obtain ⟨rs,c,E⟩:=ai7 (P:=X.prog) (w:=X.w) j
 obtain ⟨z,hd,v,x,dd⟩:=awg m.hok e
 cases x
 refine ⟨rs,c,dd,fun h' f u=>⟨.ref s.heap.objs.size,_,?_,rfl,D⟩⟩
 have hz:(afu [] kvs).length<=sizeLine:=by
  have n:=agq kvs []
  rw [aH9] at n
  rw [sizeLine_eq];lia
 have A:∃ q,h'.get? s.heap.objs.size=some q:=let ⟨q,_,_,B,_⟩:=f;⟨q,B⟩
 exact aht m (by rw [e];exact True.intro) u A (ar6 hz hd (E.merge .nil) f)
structure M1 (X:Cx) (o:Expr) (m:Str) (apos:Pos) (e:Expr) (cpos:Pos):Prop where
 base:attributeBase o m X.env (eval o X.env)=eval o X.env
 few:((backTo cpos (starEach [e] X.env)).all (fun x => !x.1) && (backToKw cpos (keywordEach [] X.env)).all (fun x=>x.1.isSome)
  && decide (([e]:List Expr).length+([]:List Keyword).length+(if ([]:List Keyword).isEmpty then 0 else 1) < 30))=true
 line:(apos.endLine == cpos.line)=true
 trees:backTo cpos (starEach [e] X.env)=[(false,eval e X.env)]
def IsD (H:Hp) (a:Addr):Prop:=(∃ kvs,Rd H a (.dK kvs))\/∃ kvs,Rd H a (.dT kvs)
theorem azl {X:Cx} {pins:List (Addr × Obj)} {σ:St} {H:Hp} {s:Shared} {a:Addr} (I:Inv X pins σ H s) (d:IsD H a) :
  s.TypeIs (.ref a) "dict"/\(∀ b,Value.ref a=.ref b->∃ c,s.heap.get? b=some c/\c.dict=none)/\(a == sysModules)=false:=by
 rcases d with ⟨kvs,e⟩ | ⟨kvs,e⟩
 ·obtain ⟨_,hd,vs,_,dd⟩:=ai3 I.hok e
  refine ⟨dd.typeIs,fun b q=>?_,hd⟩
  cases q
  obtain ⟨c,_,_,g,f,_⟩:=dd
  exact ⟨c,g,f.2.1⟩
 ·obtain ⟨_,hd,xs,_,dd⟩:=ai4 I.hok e
  refine ⟨dd.typeIs,fun b q=>?_,hd⟩
  cases q
  obtain ⟨c,_,_,g,f,_⟩:=dd
  exact ⟨c,g,f.2.1⟩
section
variable {X:Cx} {pins:List (Addr × Obj)} {σ:St} {H:Hp} {s:Shared} {a:Addr} {y d:V} {u r:Value} {o:Option V} {A:Around} {E:Value->Shared->Prop}
end
section
variable {X:Cx} {o e f:Expr} {apos cpos:Pos} {td ty tx:TE}
end
section
variable {X:Cx} {pins:List (Addr × Obj)} {σ:St} {H:Hp} {s:Shared} {a:Addr} {kvs:List (Key × V)} {A:Around} {E:Value->Shared->Prop}
end
section
variable {X:Cx} {pins:List (Addr × Obj)} {σ:St} {H:Hp} {s:Shared} {a:Addr} {y:V} {u:Value} {A:Around} {E:Value->Shared->Prop}
end
end L2
namespace Att
open PySem PySem.W PySem.Calls PyProof.Rows
theorem ai8 {P:Params} {h:Heap}:∀ (ns:List Int) (vs:List Value),WellAll P h vs (ns.map WData.int)->IntsAre vs ns:=by
 intro ns
 induction ns with
 | nil =>
  intro vs w
  rw [List.map_nil] at w
  cases w
  exact .nil
 | cons n ns ih =>
  intro vs w
  rw [aD0] at w
  cases w with
  | cons a b =>
   cases a
   exact .cons _ _ (ih _ b)
theorem ar8 {l:OpenLaw} {n:Nat} (hn:l.most=some n) {P:Params} {h:Heap} {args:List WData} {b:List Value}
  (c:l.row.toRowW.claim.pre args=true) (m:WellAll P h b args) :
  ∃ a vs ns,b=[Value.ref a]/\args=[WData.list (ns.map WData.int)]/\h.get? a=some { cls:=.type "list",data:=.seq vs.toArray }/\IntsAre vs ns/\ns.length<=n:=by
 have j:WShape.hasAll [] args [.list .int]=true:=(pre_splitW c).1
 have o:l.pre.holds [] { args:=args }=true:=(pre_splitW c).2
 obtain ⟨d,r,rfl,u,p⟩:=hasAllW_cons j
 obtain rfl:=hasAllW_nil p
 obtain ⟨xs,rfl,v⟩:=hasW_list u
 obtain ⟨ns,rfl⟩:=items_int v
 have f:ns.length<=n:=by
  unfold OpenLaw.pre at o
  have g:(WTm.not (.lt (.lit (.int (n:Int))) (.len (.arg 0)))).holds [] { args:=[.list (ns.map .int)] }=true:=by
   have g:=(holds_andW o).1
   rw [hn] at g
   exact g
  have i:=condW_of g (w_not (w_lt w_lit (w_len_list (w_arg rfl))))
  rw [aA3] at i
  refine Nat.le_of_not_lt fun q=>?_
  have s:(n:Int) < ((ns.length:Nat):Int):=by lia
  first
   | (rw [aD6 s] at i;exact absurd i (by decide))
   | (simp at i;lia)
 cases m with
 | cons w1 w2 =>
  cases w2
  cases w1 with
  | list ho hall=>exact ⟨_,_,ns,rfl,rfl,ho,ai8 ns _ hall,f⟩
theorem ar9 (l:OpenLaw) (args:List WData):l.row.toRowW.claim.post args (.bool true) args=true :=
 postW_of (r:=l.row.toRowW) (X:=(true == true))
  (show WShape.has [] (.bool true) .bool=true by first | rfl | decide | simp [WShape.has,WShape.arms,WShape.armsAll])
  (show (WTm.eq .res (.lit (.bool true))).value [] { args:=args,res:=some (.bool true),after:=args }=some (.bool (true == true)) from w_eq_bool (w_res rfl) w_lit) rfl
theorem attach_call {l:OpenLaw} {n:Nat} {q:Program} {c:List Str} {B:(Str->Option Value)->Heap->Prop} {D:World->Heap->Prop} {d:DefRec}
  (hn:l.most=some n) (u:d.params.defaults=[])
  (call:∀ (w:World) (s₀ b:Shared) (mg mb:Str->Option Value) (j:Addr) (o:Obj) (pm s doc:Value) (a:Addr) (vs:List Value) (ns:List Int),
   Ground q c [] B w s₀ mg mb b.heap->D w b.heap ->
   b.heap.get? j=some o->o.data=.func (docDef d.name d.params d.body d.scope pm s doc)->b.heap.CodeRec s d.name->mg d.name=some (.ref j) ->
   b.heap.get? a=some { cls:=.type "list",data:=.seq vs.toArray }->IntsAre vs ns->ns.length<=n->b.gens = #[] ->
   codeAny (model l.prog w) callerA (.call (.ref j) ⟨[.ref a],[]⟩) (fun r p=>r=.ok (.ret (.bool true))/\OldK b.heap p.heap/\p.os=b.os/\AllBare p.gens) b) :
  WalkO q c B D l.row.toRowW d [] (fun f vs=>PySem.call f vs):=by
 intro w s₀ b mg mb G Y j o pm s doc H kV K hd v z x M args C as i A J y L
 obtain rfl:H=.none:=Dflts.none z u
 obtain rfl:kV=.none:=Dflts.noKw z
 obtain ⟨a,vs,ns,rfl,rfl,m,g,h⟩:=ar8 hn i y
 refine enter_call (codeAny_mono (call w s₀ b mg mb j o pm s doc a vs ns G Y K (fd_plain hd) v x m g h M) fun r p N=>?_)
 obtain ⟨rfl,E,I,F⟩:=N
 exact ⟨.inl ⟨.bool true,.bool true,[],rfl,fun _=>rfl,.bool true,ar9 l _,fun _=>⟨List.Pairwise.nil,fun _ hm=>(nomatch hm)⟩⟩,E,I,F⟩
section
variable {prog:Program} {w:World} {A:Around} {E:Value->Shared->Prop} {s:Shared} {K:Frag}
end
end Att
namespace L2
open PySem PySem.Spec PyProof.Rows
theorem ak3:∀ {vs:List Value} {ns:List Int},IntsAre vs ns->Vals (ns.map V.int) vs
 | _,_,.nil => .nil
 | _,_,.cons n t h => .cons ⟨t,rfl⟩ (ak3 h)
def Only (H:Hp):Prop:=∀ b,H b=none\/∃ o xs,H b=some (.frz o (.lst xs))
theorem auj {P:Program} {w:World} {K:Frag} {mg mb:Str->Option Value} {CX:CXT} {k:Nat} {N a:Addr} {fd:FuncData} {x:Str} {sp:Sp} {c:Shared} {vs:List Value} {ns:List Int}
  (T:K.In c.heap) (B:c.heap.Ns mainGlobals mg) (hb:c.heap.Ns builtinsNs mb) (I:∀ x:Str,x ≠ "__name__"->mb x=bootBuiltins x) (p:c.heap.NoLimit) (hg:c.gens = #[])
  (ha:c.heap.get? a=some { cls:=.type "list",data:=.seq vs.toArray }) (hi:IntsAre vs ns) (S:ns.length<=sizeLine) (hr:Room k callerA)
  (F:∀ base:Heap,K.In base->base.Ns mainGlobals mg->FnOk P w K mg base CX k N fd [x] sp) (l:∀ (s:Shared) (u:Value),BindsTo s fd ⟨[u],[]⟩ [(x,u)])
  (J:∀ H:Hp,Only H->SqL K H a (ns.map V.int)->sp [.ref a] H (fun v _=>v=.bl true) fun _ _ _=>False)
  (L:∀ H e g,CX [] H c (fun _ _ _=>False) e g->False) :
  codeAny (model P w) callerA (.call (.ref N) ⟨[.ref a],[]⟩) (fun r g=>r=.ok (.ret (.bool true))/\OldK c.heap g.heap/\g.os=c.os/\AllBare g.gens) c:=by
 have R:=ak3 hi
 have E:=hi.length
 -- from an abstract heap in which nothing but the script may be tracked
 have j:∀ H:Hp,Only H->SqL K H a (ns.map V.int)->HOk P w H c.heap->(∀ b,H b ≠ none->b=a)->(H a ≠ none->K.lookup a=none) ->
   codeAny (model P w) callerA (.call (.ref N) ⟨[.ref a],[]⟩) (fun r g=>r=.ok (.ret (.bool true))/\OldK c.heap g.heap/\g.os=c.os/\AllBare g.gens) c:=by
  intro H U Y hok Q hK
  have f:∀ {b:Addr} {o:Obj},c.heap.get? b=some o->H b=none->(hidT c.heap H).get? b=some o:=fun e n=>at6 e n
  have G:∀ {b:Addr} {o:Obj} {es:Array DictEntry} {D:Nat},c.heap.get? b=some o->o.data=.dict es D->H b=none:=fun {b o es D} e d=>by
   cases q:H b with
   | none=>rfl
   | some u =>
    have M:b=a:=Q b (by rw [q];simp)
    subst M
    rw [ha] at e;cases e
    have d':Data.seq vs.toArray _=Data.dict es D:=d
    cases d'
  have i:∀ {b:Addr} {m:Str->Option Value},c.heap.Ns b m->(hidT c.heap H).Ns b m:=fun {b m} ⟨o,es,D,e,d,r⟩=>⟨o,es,D,f e (G e d),d,r⟩
  have y:K.In (hidT c.heap H):=fun b o e=>f (T b o e) (by
   cases q:H b with
   | none=>rfl
   | some u =>
    have M:b=a:=Q b (by rw [q];simp)
    subst M
    rw [hK (by rw [q];simp)] at e;cases e)
  have hM:Mod K mg (hidT c.heap H):=⟨y,i B,⟨mb,i hb,I⟩,let ⟨mc,W,h2⟩:=p;⟨mc,i W,h2⟩⟩
  have e0:Env0 P w K mg (hidT c.heap H) callerA [] c H:=⟨rfl,hM,fun b o e=>aws e,Nat.le_of_eq (arn _ _),trivial,fun b hb=>absurd (show b∈([]:List Addr) from hb) (by simp),hok,.of_eq hg⟩
  refine codeAny_mono ((F _ y (i B)).run callerA [] c H ⟨[.ref a],[]⟩ [.ref a] [.ref a] _ _ hr e0 (l c (.ref a)) (.cons rfl .nil) (J H U Y)) fun r g h=>?_
  cases r with
  | error e=>exact (L H e g h).elim
  | ok fl =>
   cases fl with
   | next=>exact False.elim h
   | brk=>exact False.elim h
   | cont=>exact False.elim h
   | ret u =>
    obtain ⟨v,H',os,bare,un,C,X,q⟩:=h
    have Z:v=.bl true:=q
    subst Z
    obtain rfl:u=Value.bool true:=X
    refine ⟨rfl,OldK.of_keep fun b o e=>?_,os,bare⟩
    cases q:H b with
    | none=>exact un.keep b o e q (by intro z;exact absurd (show b∈([]:List Addr) from z) (by simp)) (by simp)
    | some u =>
     rcases U b with z | ⟨ob,xs,z⟩
     ·rw [q] at z;cases z
     ·have z2:=un.frzs b ob _ z
      obtain ⟨O,_⟩:=hok b _ z
      obtain ⟨e2,_⟩:=C b _ z2
      rw [e] at O;cases O
      exact e2
 cases hk:K.lookup a with
 | some o =>
  -- the script is one of the module's own objects
  have e:=T a o hk
  rw [ha] at e
  cases e
  refine j (fun _=>none) (fun _ => .inl rfl) (.inr ⟨_,vs.toArray,_,hk,rfl,rfl,rfl,by rw [aB1,E];exact S,by simpa using R⟩) (fun b u z=>by have A:(none:Option HO)=some u:=z;cases A) (fun b z=>absurd rfl z) fun z=>absurd rfl z
 | none =>
  refine j (fun b=>if b=a then some (.frz { cls:=.type "list",data:=.seq vs.toArray } (.lst (ns.map V.int))) else none) (fun b=>?_) (.inl (.inr ⟨{ cls:=.type "list",data:=.seq vs.toArray },aE7 rfl⟩)) (fun b u z=>?_) (fun b z=>?_) fun _=>hk
  ·by_cases hb:b=a
   ·exact .inr ⟨_,_,aE7 hb⟩
   ·exact .inl (aE8 hb)
  ·by_cases hb:b=a
   ·have A:=(aE7 hb).symm.trans z
    cases A
    subst hb
    exact ⟨ha,by rw [aA3];exact S,vs,_,R,ha⟩
   ·have A:=(aE8 hb).symm.trans z
    cases A
  ·by_cases hb:b=a
   ·exact hb
   ·exact absurd (aE8 hb) z
abbrev KOf {K:Frag} {h:Heap} (_:K.In h):Frag:=K
theorem walk_of {l:PySem.W.OpenLaw} {n k:Nat} {q:Program} {j:List Str} {O:(Str->Option Value)->Heap->Prop} {E:World->Heap->Prop} {d:DefRec} {K:Params->Frag} {CX:World->CXT} {sp:World->Sp} {x:Str}
  (hn:l.most=some n) (z:n<=sizeLine) (y:d.params.defaults=[]) (Q:Room k callerA)
  (M:∀ (w:World) (h:Heap),E w h->(K w.params).In h)
  (F:∀ (w:World) (mg:Str->Option Value) (r:Addr) (h:Heap),(K w.params).In h->h.Ns mainGlobals mg->mg d.name=some (.ref r) ->
   ∃ fd:FuncData,(∀ (s:Shared) (u:Value),BindsTo s fd ⟨[u],[]⟩ [(x,u)]) /\
    ∀ base:Heap,(K w.params).In base->base.Ns mainGlobals mg->FnOk l.prog w (K w.params) mg base (CX w) k r fd [x] (sp w))
  (D:∀ (w:World) (H:Hp) (a:Addr) (ns:List Int),ns.length<=n->Only H->SqL (K w.params) H a (ns.map V.int)->sp w [.ref a] H (fun v _=>v=.bl true) fun _ _ _=>False)
  (B:∀ (w:World) (H:Hp) (s:Shared) (e:Value) (A:Shared),CX w [] H s (fun _ _ _=>False) e A->False) :
  PySem.W.WalkO q j O E l.row.toRowW d [] (fun f vs=>PySem.call f vs):=by
 refine Att.attach_call hn y fun w s₀ m mg mb r o pm U doc a vs ns G Y S hd N C p i c P=>?_
 have I:=M w _ Y
 obtain ⟨fd,hb,R⟩:=F w mg r _ I G.T.g C
 exact auj I G.T.g G.T.b G.T.builtins G.T.nolimit P p i (aC9 c z) Q R hb (fun H L J=>D w H a ns c L J) fun H e A=>B w H m e A
end L2
/- THE LAST THEOREM (shape; LID, My.* are yours):
  My.Adr: a structure of the addresses that your layer names (classes,functions);My.Txt K t: a structure (Prop) of the equations over K;
  My.txt_mk:{K} {implicit addresses ..} (e1:nsIn K mainGlobals "law" = some (some (.ref f))) (e2:K.lookup f=some ⟨oc,od,.func (fnOf "law" "law" params body scope dV kV doc pm an cdv ct),sl⟩) (e3:codeIn K cdv "law" = true) .. : ∃ t,My.Txt K t
set_option maxRecDepth 100000 in
set_option maxHeartbeats 0 in
theorem PySem.Challenge.cw_LID_holds : PySem.Challenge.rw_LID.Holds := by
 w_on;o_law;k_head;(case hw=>w_witness2)
 k_fill
 refine L2.walk_of (l:=PySem.Challenge.rw_LID) (n:=63) (k:=40) (x:="script") (CX:=fun w => ..) (sp:=fun _=>My.sp_law) rfl (by decide) rfl ⟨rfl,by decide,by decide⟩ (fun w h Y=>PySem.W.kIn_of Y) ?F ?S ?C
 case F =>
  intro w mg fa h KX G hmg
  have T:∃ t,My.Txt (L2.KOf KX) t:=by
   dsimp only [L2.KOf]                          -- K must stand as «<heap const> w.params» for k_is
   refine' My.txt_mk ?e1 ?e2 ?e3 ..
   (case e1=>PySem.W.k_is)                    -- in the order: a name -> its address -> its object -> its parts
   (case e2=>PySem.W.k_is)
   ..
  obtain ⟨t,T⟩:=T
  have e0:=hmg.symm.trans (mg_of KX G T.law)
  cases e0                                       -- fa is the law's own address
  exact ⟨_,fun s u => .of_eq rfl,fun base kb nb=>My.law_fn T kb nb⟩     -- if «.of_eq rfl» comes too early: refine' ⟨_,?b,fun base kb nb=>My.law_fn T kb nb⟩;exact fun s u => .of_eq rfl
 case S=>exact fun w H a ns hl hO hS => ..
 case C=>exact ..
(the tactic k_is has no namespace: write k_is) -/
namespace L2
open PySem PySem.Spec PyProof.Rows
def ady (s:Stmt) (j:Nat):Stmt:=match s with
 | .ClassDef _ _ _ body _ _ _ _ _ _ _=>body.getD j (.Pass ⟨0,0,0,0⟩)
 | _ => .Pass ⟨0,0,0,0⟩
def abn (s:Stmt):Arguments:=match s with
 | .FunctionDef _ a _ _ _ _ _ _ _ _=>a
 | _=>{ posonlyargs:=[],args:=[],vararg:=none,kwonlyargs:=[],kw_defaults:=[],kwarg:=none,defaults:=[] }
def abk (s:Stmt):List Stmt:=match s with
 | .FunctionDef _ _ b _ _ _ _ _ _ _=>b
 | _=>[]
def aai (s:Stmt):Scope:=match s with
 | .FunctionDef _ _ _ _ _ _ sc _ _ _=>sc
 | _=>{ kind:=.function,names:=[],isGenerator:=false,isCoroutine:=false }
abbrev CX0:CXT:=fun _ _ _ _ _ _=>False
abbrev E0:XK:=fun _ _ _=>False
theorem al4 {X:Cx}:aex CX0 X E0:=fun _ _ _ _ _ _ _ h=>h.elim
structure Fun (K:Frag) (x qual:Str) (st:Stmt) (f:Addr) (fd:FuncData):Prop where
 ex:∃ (oc:Value) (od:Option Addr) (kV doc pm:Value) (an:Option Addr) (cdv ct:Value) (osl:Array (Option Value)),
  fd=fnOf x qual (abn st) (abk st) (aai st) .none kV doc pm an cdv ct/\K.lookup f=some ⟨oc,od,.func fd,osl⟩/\codeIn K cdv qual=true
 kp:keepIn K (.ref f)=true
section
variable {P:Program} {w:World} {K:Frag} {mg:Str->Option Value} {base:Heap}
theorem Fun.ok {x qual:Str} {st:Stmt} {f:Addr} {fd:FuncData} {N ps:List Str} {k:Nat} {sp:Sp} (F:Fun K x qual st f fd) (S:FnScope N ps (aai st)) (len:∀ vs H Q E,sp vs H Q E->vs.length=ps.length)
  (a:∀ (cdv:Value) (A:Around) (outer:List Env) (s:Shared) (H:Hp) (vs:List V) (Q:VK) (E:XK),Room k (A.deeper (envOfC qual (aai st) s.heap.objs.size f cdv))->sp vs H Q E ->
   ∃ t,PSs (cxOf CX0 P w K mg base N qual (aai st) f cdv A outer s H E).nox (abk st) t/\t { nx:=fun _ H'=>Q .non H',rt:=Q } (start N vs) H):FnOk P w K mg base CX0 (k+1) f fd ps sp:=by
 obtain ⟨oc,od,kV,doc,pm,an,cdv,ct,osl,rfl,g,c⟩:=F.ex
 refine a1o g c S len fun A outer s H vs Q E d b=>?_
 obtain ⟨t,h,q⟩:=a cdv A outer s H vs Q E d b
 exact ⟨t,h.nox,q⟩
theorem Fun.binds {x qual:Str} {st:Stmt} {f:Addr} {fd:FuncData} {ps:List Str} (F:Fun K x qual st f fd)
  (h:∀ (kV doc pm:Value) (an:Option Addr) (cdv ct:Value) (us:List Value),us.length=ps.length->bindArgs (fnOf x qual (abn st) (abk st) (aai st) .none kV doc pm an cdv ct) ⟨us,[]⟩=pure (ps.zip us)):Binds K fd ps []:=by
 obtain ⟨oc,od,kV,doc,pm,an,cdv,ct,osl,rfl,b,a⟩:=F.ex
 exact .all (h kV doc pm an cdv ct)
theorem asa {x qual:Str} {st:Stmt} {f:Addr} {oc:Value} {od an:Option Addr} {osl:Array (Option Value)} {kV doc pm cdv ct:Value} (l:K.lookup f=some ⟨oc,od,.func (fnOf x qual (abn st) (abk st) (aai st) .none kV doc pm an cdv ct),osl⟩)
  (c:codeIn K cdv qual=true) (k:keepIn K (.ref f)=true):Fun K x qual st f (fnOf x qual (abn st) (abk st) (aai st) .none kV doc pm an cdv ct):=⟨⟨oc,od,kV,doc,pm,an,cdv,ct,osl,rfl,l,c⟩,k⟩
end
theorem adr {A:Around} {k:Nat} (a:Room k A):A.units+1 < cLine:=Nat.lt_of_le_of_lt (Nat.add_le_add_left (by decide:1<=64) _) a.units
theorem ae8 {n:Nat} (h:n<=1000):n < sizeLine:=Nat.lt_of_le_of_lt h (by decide)
section
variable {X:Cx}
theorem pv (i:Nat) {x:Str} {a:Pos} (d:X.N[i]?=some x:=by rfl) (c:Vis X.env.scope x:=by first | exact Or.inl rfl | exact Or.inr (Or.inl rfl) | exact Or.inr (Or.inr rfl)) (hd:(x == ("__debug__" : Str))=false:=by decide)
  (b:(x == ("__classdict__" : Str))=false:=by decide):PE X (.Name x a) (tVar i):=azb d c hd b
end
theorem iteF {A B:Prop} (h:B):if false=true then A else B:=by
 rw [aE8 aA9]
 exact h
theorem iteT {A B:Prop} (h:A):if true=true then A else B:=by
 rw [aE7 rfl]
 exact h
def Same (H H':Hp):Prop:=∀ b o,H b=some o->H' b=some o
theorem Same.refl (H:Hp):Same H H:=fun _ _ h=>h
theorem Same.trans {H d H2:Hp} (a:Same H d) (b:Same d H2):Same H H2:=fun c o h=>b c o (a c o h)
theorem Same.seq {K:Frag} {H H':Hp} {a:Addr} {xs:List V} (e:Same H H') (h:SqL K H a xs):SqL K H' a xs:=by
 rcases h with (h | ⟨o,h⟩) | h
 ·exact .inl (.inl (e _ _ h))
 ·exact .inl (.inr ⟨o,e _ _ h⟩)
 ·exact .inr h
section
variable {X:Cx}
end
section
variable {κ:Type} [DecidableEq κ]
end
def clos (env:Env):List (Str × NameKind)->List (Str × Addr)->List (Str × Addr)
 | [],cs=>cs
 | (n,k) :: r,cs=>if k == NameKind.free then (match env.cells.lookup n with | some a=>clos env r ((n,a) :: cs) | none=>clos env r cs) else clos env r cs
theorem ai9 {env:Env} {sc:Scope} (h:∀ n,(n,NameKind.free)∈sc.names->∃ a,env.cells.lookup n=some a):closureFor sc env=pure (clos env sc.names []):=by
 have all:∀ (l:List (Str × NameKind)) (cs:List (Str × Addr)),(∀ n,(n,NameKind.free)∈l->∃ a,env.cells.lookup n=some a) ->
   (forIn l cs fun (x:Str × NameKind) (cs:List (Str × Addr))=>match x with | (name,kind)=>if kind == NameKind.free then (do let a ← cellOf env name;pure (ForInStep.yield ((name,a) :: cs))) else pure (ForInStep.yield cs))=(pure (clos env l cs):Sem _):=by
  intro l
  induction l with
  | nil=>intro cs _;rfl
  | cons p r ih =>
   intro cs c
   obtain ⟨n,k⟩:=p
   rw [List.forIn_cons]
   unfold clos
   dsimp only
   cases hk:(k == NameKind.free) with
   | false =>
    simp only [Bool.false_eq_true,if_false,pure_bind]
    exact ih cs fun m hm=>c m (aB4 _ hm)
   | true =>
    have f:k=NameKind.free:=by simpa using hk
    subst f
    obtain ⟨a,ha⟩:=c n aB7
    have d:cellOf env n=pure a:=by unfold cellOf;rw [ha]
    simp only [if_true,d,pure_bind,ha]
    exact ih _ fun m hm=>c m (aB4 _ hm)
 have e:=all sc.names [] h
 unfold closureFor
 refine Eq.trans (b:=(pure (clos env sc.names []):Sem _) >>= fun cs=>pure cs) ?_ (pure_bind _ _)
 exact congrArg (fun z:Sem (List (Str × Addr))=>z >>= fun cs=>pure cs) e
theorem ae9 {env:Env} {x:Str} {c:Addr}:∀ {l:List (Str × NameKind)} {cs:List (Str × Addr)},(clos env l cs).lookup x=some c->env.cells.lookup x=some c\/cs.lookup x=some c
 | [],cs,h => .inr h
 | (n,k) :: r,cs,h=>by
  unfold clos at h
  by_cases hk:(k == NameKind.free)=true
  ·rw [aE7 hk] at h
   cases ha:env.cells.lookup n with
   | none=>rw [ha] at h;exact ae9 h
   | some a =>
    rw [ha] at h
    rcases ae9 h with e | e
    ·exact .inl e
    ·rw [aG1] at e
     cases hx:(x == n) with
     | true =>
      rw [hx] at e
      have:x=n:=by simpa using hx
      subst this
      cases e
      exact .inl ha
     | false=>rw [hx] at e;exact .inr e
  ·rw [aE8 hk] at h
   exact ae9 h
theorem afa {env:Env} {x:Str}:∀ {l:List (Str × NameKind)} {cs:List (Str × Addr)},(∃ c,cs.lookup x=some c)->∃ c,(clos env l cs).lookup x=some c
 | [],cs,h=>h
 | (n,k) :: r,cs,h=>by
  unfold clos
  by_cases hk:(k == NameKind.free)=true
  ·rw [aE7 hk]
   cases ha:env.cells.lookup n with
   | none=>exact afa h
   | some a =>
    refine afa ?_
    rw [aG1]
    cases hx:(x == n) with
    | true=>exact ⟨_,rfl⟩
    | false=>exact h
  ·rw [aE8 hk]
   exact afa h
theorem aez {env:Env} {x:Str} (h:∃ a,env.cells.lookup x=some a):∀ {l:List (Str × NameKind)} {cs:List (Str × Addr)},(x,NameKind.free)∈l->∃ c,(clos env l cs).lookup x=some c
 | [],_,hm=>absurd hm (by simp)
 | (n,k) :: r,cs,hm=>by
  rcases aA8.mp hm with e | hm
  ·cases e
   obtain ⟨a,ha⟩:=h
   unfold clos
   rw [aE7 (by rfl),ha]
   refine afa ⟨a,?_⟩
   rw [aG1]
   simp
  ·unfold clos
   by_cases hk:(k == NameKind.free)=true
   ·rw [aE7 hk]
    cases ha:env.cells.lookup n with
    | none=>exact aez h hm
    | some a=>exact aez h hm
   ·rw [aE8 hk]
    exact aez h hm
theorem ag2 {env:Env} {x:Str}:∀ {names:List (Str × NameKind)},(∀ y∈names,y.2 ≠ .cell) ->
  ((names.map fun (n,k)=>if (k == NameKind.free && env.scope.kind == .function && env.kindOf n == some .cell) then (n,NameKind.cell) else (n,k)).lookup x=some .cell ∨
   (names.map fun (n,k)=>if (k == NameKind.free && env.scope.kind == .function && env.kindOf n == some .cell) then (n,NameKind.cell) else (n,k)).lookup x=some .free)->names.lookup x=some .free
 | [],_,h=>by rcases h with h | h <;> simp at h
 | (n,k) :: r,hc,h=>by
  have a:=@ag2 env x r fun y c=>hc y (aB4 _ c)
  rw [aG1]
  simp only [aD0] at h
  by_cases hq:(k == NameKind.free && env.scope.kind == .function && env.kindOf n == some .cell)=true
  ·rw [aE7 hq] at h
   have b:k=NameKind.free:=by
    have:=hq;simp only [aG3] at this;simpa using this.1.1
   subst b
   cases hx:(x == n) with
   | true=>rfl
   | false=>simp only [aG1,hx] at h;exact a h
  ·rw [aE8 hq] at h
   cases hx:(x == n) with
   | true =>
    simp only [aG1,hx] at h
    rcases h with h | h
    ·cases h;exact absurd rfl (hc (n,NameKind.cell) aB7)
    ·exact h
   | false=>simp only [aG1,hx] at h;exact a h
theorem afb {env:Env} {x:Str}:∀ {names:List (Str × NameKind)},names.lookup x=some .free ->
  ((names.map fun (n,k)=>if (k == NameKind.free && env.scope.kind == .function && env.kindOf n == some .cell) then (n,NameKind.cell) else (n,k)).lookup x=some .cell ∨
   (names.map fun (n,k)=>if (k == NameKind.free && env.scope.kind == .function && env.kindOf n == some .cell) then (n,NameKind.cell) else (n,k)).lookup x=some .free)
 | [],h=>by simp at h
 | (n,k) :: r,h=>by
  have a:=@afb env x r
  rw [aG1] at h
  simp only [aD0]
  by_cases hq:(k == NameKind.free && env.scope.kind == .function && env.kindOf n == some .cell)=true
  ·rw [aE7 hq]
   cases hx:(x == n) with
   | true=>left;simp [aG1,hx]
   | false=>rw [hx] at h;simp only [aG1,hx];exact a h
  ·rw [aE8 hq]
   cases hx:(x == n) with
   | true=>rw [hx] at h;right;simp only [aG1,hx];exact h
   | false=>rw [hx] at h;simp only [aG1,hx];exact a h
def Cx.comp (X:Cx) (N:List Str) (sc:Scope) (C:Addr) (s0:Shared) (H0:Hp) (ex:List Addr):Cx where
 prog:=X.prog
 w:=X.w
 K:=X.K
 mg:=X.mg
 base:=X.base
 A:=X.A
 N:=N
 s₀:=s0
 H₀:=H0
 env:=compEnvC sc (clos X.env sc.names []) C X.env
 outer:=X.stack
 stack:=X.stack
 ex:=ex
 fn:=fun _=>false
 calm:=X.calm
 pn:=[]
 xe:=fun _ _=>False
def pick (src:List (Option Nat)) (σ:St):St:=src.map fun o=>match o with | some j=>(σ[j]?).getD none | none=>none
structure LcOk (X:Cx) (N:List Str) (sc:Scope) (src:List (Option Nat)):Prop where
 kind:sc.kind=.function
 nocell:∀ y∈sc.names,y.2 ≠ .cell
 own:∀ y∈sc.names,y.2=.local->sc.names.lookup y.1=some .local
 outs:∀ y∈sc.names,y.2=.free->X.env.kindOf y.1=some .cell\/X.env.kindOf y.1=some .free
 len:src.length=N.length
 from':∀ (i j:Nat),src[i]?=some (some j)->∃ x,N[i]?=some x/\X.N[j]?=some x/\sc.names.lookup x=some .free
theorem LcOk.clo {X:Cx} {N:List Str} {sc:Scope} {src:List (Option Nat)} (L:LcOk X N sc src) (ok:X.Ok):closureFor sc X.env=pure (clos X.env sc.names []) :=
 ai9 fun n hn=>ok.has n (L.outs (n,.free) hn rfl)
theorem auk {X:Cx} {pins:List (Addr × Obj)} {σ:St} {H:Hp} {s:Shared} {N:List Str} {sc:Scope} {src:List (Option Nat)} {fp:List Addr} {g:Heap} {t':Nat}
  (L:LcOk X N sc src) (I:Inv X pins σ H s) (hf:∀ b∈fp,FpOk X pins H b) (f:∀ b∈fp,b < s.heap.objs.size)
  (hn:g.Ns s.heap.objs.size fun _=>none) (d:∀ b o,s.heap.get? b=some o->g.get? b=some o) :
  Inv (X.comp N sc s.heap.objs.size s H fp) [] (pick src σ) H { s with heap:=g,toks:=t' }:=by
 have look:∀ {x c},(clos X.env sc.names []).lookup x=some c->X.env.cells.lookup x=some c:=fun {x c} e=>by
  rcases ae9 e with z | z
  ·exact z
  ·simp at z
 refine ⟨⟨I.ok.mod,L.kind,I.ok.glob,I.ok.blt,aA6 _,fun x y c n e2=>?_,fun x M=>?_,fun x c z _=>?_,I.ok.hd,I.ok.frames,.inl rfl,fun b hb=>⟨?_,fun x c e=>?_⟩,I.bs,aC9 I.ok.bsz I.sz,fun b o e hb=>?_,fun b hb z=>?_,I.stack,I.stkFree⟩,
  rfl,I.bare,Un.kept d,⟨_,hn,fun i x v n e2 O=>?_⟩,fun x c e=>?_,I.hok.fresh (aA6 _),fun x c e=>I.freeC x c (look e),fun p G=>?_,I.hok.kept d,?_⟩
 ·exact I.ok.inj x y c (look n) (look e2)
 ·have q:=ag2 (env:=X.env) (x:=x) L.nocell M
  exact aez (I.ok.has x (L.outs (x,.free) (PySem.mem_of_lookup q) rfl)) (PySem.mem_of_lookup q)
 ·exact Bool.noConfusion z
 ·exact aB5 (f b hb)
 ·exact (hf b hb).2.2.2.2.1 x c (look e)
 ·rcases (hf b hb).2.2.2.1 with z | z
  ·exact I.ok.noex b o e z
  ·exact absurd (aC4 (aI3 e) (aC9 I.ok.bsz z)) (aF6 _)
 ·rcases aA8.mp (I.stkSub b z) with q | q
  ·exact (hf b hb).2.1 q
  ·exact (hf b hb).2.2.1 q
 ·unfold pick at e2
  rw [aA5] at e2
  cases q:src[i]? with
  | none=>rw [q] at e2;cases e2
  | some o =>
   rw [q] at e2
   cases o with
   | none=>cases e2
   | some j =>
    obtain ⟨y,E,F,A⟩:=L.from' i j q
    have w:N[i]?=some x:=n
    rw [w] at E
    cases E
    have J : σ[j]?=some (some v):=by
     cases q2 : σ[j]? with
     | none=>simp [q2] at e2
     | some z=>simp [q2] at e2;rw [e2]
    have f:=L.outs (x,.free) (PySem.mem_of_lookup A) rfl
    have h:Vis X.env.scope x:=by
     rcases f with z | z
     ·exact .inr (.inl z)
     ·exact .inr (.inr z)
    obtain ⟨m,_,K⟩:=I.loc
    obtain ⟨u,r,l⟩:=K j x v F J h
    refine ⟨u,r,.inr ⟨?_,?_⟩⟩
    ·exact afb (env:=X.env) A
    ·rcases l with ⟨z,_⟩ | ⟨_,c,C,oc,a,hd⟩
     ·rcases f with B | B <;> (rw [B] at z;cases z)
     ·obtain ⟨P,D⟩:=aez (env:=X.env) ⟨c,C⟩ (PySem.mem_of_lookup A) (cs:=[])
      have:=look D
      rw [C] at this;cases this
      exact ⟨c,D,oc,d c oc a,hd⟩
 ·obtain ⟨v,oc,a,hd⟩:=I.cell x c (look e)
  exact ⟨v,oc,d c oc a,hd⟩
 ·exact absurd (show p∈([]:List (Addr × Obj)) from G) (by simp)
 ·show (pick src σ).length=N.length
  unfold pick
  rw [aA3]
  exact L.len
def PIf (X:Cx) (ifs:List Expr) (t:TT):Prop :=
 ∀ (pins:List (Addr × Obj)) (s:Shared) (σ:St) (H:Hp) (Q:Bool->Hp->Prop),Inv X pins σ H s->t σ H Q ->
  wpAny (model X.prog X.w) X.A (forIn ifs true fun c r=>if r=true then do let ok ← isTrue c X.env (eval c X.env);pure (ForInStep.yield ok) else pure (ForInStep.yield r)) (TP X pins σ Q) X.xe s
def tYes:TT:=fun _ H Q=>Q true H
theorem acp {X:Cx}:PIf X [] tYes:=fun _ _ _ H _ I h=>wpAny_tests_nil ⟨H,I,h⟩
theorem aw7 {X:Cx} {c:Expr} {t:TT} (h:PT X c t):PIf X [c] t:=fun pins s σ H Q I q=>wpAny_tests_one (h pins s σ H Q I q)
abbrev LW:=Nat->Nat->List V->St->Hp->Prop
def ag3 (J:It) (g:TG) (tif:TT) (te:TE) (acc:Addr) (Qd:List V->Hp->Prop) (W:LW):Prop:=∀ (i m:Nat) (ys:List V) (σ:St) (H:Hp),W i m ys σ H->H acc=some (.lst ys)/\((J.stop i H/\Qd ys H)\/(J.go i H /\
 ∃ Nx:List V->St->Hp->Prop,(∀ ys' σ' H',Nx ys' σ' H'->∃ m',m' < m/\W (i+1) m' ys' σ' H')/\∀ x H2,J.yld i H x H2 ->
 g x σ H2 fun σ3 H3=>tif σ3 H3 fun b H4=>if b=true then te σ3 H4 fun y H5=>H5 acc=some (.lst ys)/\ys.length < sizeLine/\Nx (ys ++ [y]) σ3 (upd H5 acc (.lst (ys ++ [y]))) else Nx ys σ3 H4))
theorem asb {X:Cx} {tg q E:Expr} {D:List Expr} {sc:Scope} {Q:Pos} {J:It} {fp:List Addr} {it:Addr} {tn:Nat->Heap->Prop} {g:TG} {P:TT} {te:TE} {a:Addr} {Qd:List V->Hp->Prop} {W:LW} {R:Result->Shared->Prop}
  (T:Turn X.prog X.w X.K tg J fp it tn) (hc:X.calm=true) (p:∀ e s,¬ X.xe e s) (hg:PG X tg g) (a0:PIf X D P) (he:PE X E te)
  (S:ag3 J g P te a Qd W) (hR:∀ ys σ H s,Inv X [] σ H s->Qd ys H->R (.ok .next) s)
  {i m:Nat} {ys:List V} {σ:St} {H:Hp} {s:Shared} (I:Inv X [] σ H s) (st:tn i s.heap) (hf:∀ b∈fp,FpOk X [] H b) (w:W i m ys σ H) :
  codeAny (model X.prog X.w) X.A (.compLoop (.ListComp E [⟨tg,q,D,0⟩] sc Q) 0 (.ref it) (.ref a) X.env) R s:=by
 have f:∀ {H':Hp},(∀ b∈fp,H' b=none)->∀ b∈fp,FpOk X [] H' b:=fun hn b hb=>⟨hn b hb,(hf b hb).2⟩
 refine codeAny_loop rfl (fun n j=>∃ i ys h H',Inv X [] h H' j/\tn i j.heap/\(∀ b∈fp,H' b=none)/\W i n ys h H') ?_ m ⟨i,ys,σ,H,I,st,fun b hb=>(hf b hb).1,w⟩
 rintro n s1 ⟨i,ys,c,Y,I1,G,F,w1⟩
 show wpAny _ X.A ((compTurn (.ListComp E [⟨tg,q,D,0⟩] sc Q) 0 (.ref it) (.ref a) X.env).onRaise (fun x=>do noteFrame x X.env;theTreesLotGoes x)) _ _ s1
 refine wpAny_noted ?_
 rw [compTurn_list]
 refine aI0 (wpAny_standAt (aI0 ?_))
 obtain ⟨a3,⟨stop,qd⟩ | ⟨go,Nx,O,step⟩⟩:=S i n ys c Y w1
 ·refine thn (T.done X rfl rfl rfl hc i [] s1 c Y _ I1 (f F) G stop) fun r s2 ⟨hr,I2⟩=>?_
  subst hr
  exact aI1 (hR ys c Y s2 I2 qd)
 ·refine thn (T.item X rfl rfl rfl hc i [] s1 c Y _ I1 (f F) G go) fun r s2 ⟨u,hr,h2⟩=>?_
  subst hr
  refine aI0 (thn h2 fun _ s3 ⟨x,H3,I3,r3,y3,B,a1⟩=>?_)
  have a2:=I3.pinned (f a1) (T.obj _ _ B)
  refine aI0 (aI7 (hg _ s3 c H3 x u _ a2 r3 (step x H3 y3)) (fun _ s4 ⟨C,H4,I4,q4⟩=>?_) fun e j z=>(p e j z).elim)
  have v:∀ {l:St} {N:Hp} {M:Shared} {zs:List V},Inv X ([] ++ agy fp s3.heap) l N M->(∃ U,U < n/\W (i+1) U zs l N)->∃ m,m < n/\∃ i ys h H',Inv X [] h H' M/\tn i M.heap/\(∀ b∈fp,H' b=none)/\W i m ys h H':=fun {l N M zs} L w7=>by
   obtain ⟨U,hm,w7⟩:=w7
   refine ⟨U,hm,i+1,zs,l,N,L.unpinned,T.keep _ _ _ B fun b hb o e=>(L.pin (b,o) (aB2 _ (aB2 _ (aef hb e)))).1,fun b hb=>?_,w7⟩
   obtain ⟨o,e,d⟩:=T.obj _ _ B b hb
   exact (L.pin (b,o) (aB2 _ (aB2 _ (aef hb e)))).2.1
  refine aI0 (aI7 (a0 _ s4 C H4 _ I4 q4) (fun b s5 ⟨H5,I5,Z⟩=>?_) fun e j z=>(p e j z).elim)
  cases b with
  | false =>
   rw [aE8 aA9] at Z
   exact aI1 ⟨rfl,v I5 (O _ _ _ Z)⟩
  | true =>
   rw [aE7 rfl] at Z
   refine aI0 (aI0 (aI7 (he _ s5 C H5 _ I5 Z) (fun yv s6 ⟨y,H6,I6,r6,a6,l6,w6⟩=>?_) fun e j z=>(p e j z).elim))
   have ap:=ab2 (X:=X) _ s6 C H6 (.ref a) [y] (.ref a) [yv] (fun _ H'=>H'=upd H6 a (.lst (ys ++ [y]))) I6 rfl (.cons r6 .nil) ⟨a,ys,y,rfl,rfl,a6,l6,rfl⟩
   refine aI0 (aI7 ap (fun _ M ⟨v7,N,L,_,e7⟩=>?_) fun e j z=>(p e j z).elim)
   subst e7
   exact aI1 (aI1 ⟨rfl,v L (O _ _ _ w6)⟩)
def tLC (src:List (Option Nat)) (wi:TI) (g:TG) (tif:TT) (te:TE):TE:=fun σ H Q=>wi σ H fun J H1=>∀ acc,H1 acc=none->∃ W:LW,(∃ m,W 0 m [] (pick src σ) (upd H1 acc (.lst [])))/\ag3 J g tif te acc (fun _ H'=>Q (.ref acc) H') W
section
variable {X:Cx} {N:List Str} {tg iter elt:Expr} {ifs:List Expr} {sc:Scope} {src:List (Option Nat)} {wi:TI} {g:TG} {tif:TT} {te:TE} {pos:Pos}
theorem aw8 (U:X.calm=true) (L:LcOk X N sc src) (hg:∀ C s0 q ex,PG (X.comp N sc C s0 q ex) tg g) (H:∀ C s0 q ex,PIf (X.comp N sc C s0 q ex) ifs tif) (Z:∀ C s0 q ex,PE (X.comp N sc C s0 q ex) elt te)
  {pins:List (Addr × Obj)} {d:Shared} {σ:St} {H3:Hp} {Q:VK} (l:Inv X pins σ H3 d) {it a:Addr} {fp:List Addr} {J:It} {tn:Nat->Heap->Prop} (T:Turn X.prog X.w X.K tg J fp it tn) (u:tn 0 d.heap) (j:∀ b∈fp,FpOk X pins H3 b)
  {W:LW} {S:Nat} (w0:W 0 S [] (pick src σ) H3) (F:ag3 J g tif te a (fun _ H'=>Q (.ref a) H') W) (use:Option (Value->Sem Unit)) (P:Value->Shared->Prop)
  (Y:∀ C H' f m,Inv X pins σ H' f->Q (.ref a) H'->f.heap.Ns C m->H' C=none->C ≠ X.env.locals->(C∈X.ex\/X.s₀.heap.objs.size<=C)->(∀ x c,X.env.cells.lookup x=some c->c ≠ C)->(∀ p∈X.pn ++ pins,p.1 ≠ C) ->
   compPost (model X.prog X.w) X.A X.xe use P (.ref a) C (.ok .next) f) :
  wpAny (model X.prog X.w) X.A (newFunctionEnv sc X.env.globals (clos X.env sc.names []) [] X.env.qual none .none (some X.env)) (fun h B =>
    codeAny (model X.prog X.w) X.A (.compStart (.ListComp elt [⟨tg,iter,ifs,0⟩] sc pos) 0 (.ref it) (.ref a) { h with scope:=relabel sc X.env }) (compPost (model X.prog X.w) X.A X.xe use P (.ref a) h.locals) B) X.xe d:=by
 refine wpAny_newFunctionEnv L.nocell (by intro y hy;simp at hy) (fun M r n=>?_) L.kind
 have I:∀ b∈fp,b < d.heap.objs.size:=fun b hb=>by
  obtain ⟨o,R,_⟩:=T.obj _ _ u b hb
  exact aI3 R
 have E:∀ b o,d.heap.get? b=some o->M.get? b=some o:=fun b o e=>n.extBut b o (aB5 (aI3 e)) (aI2 _ e)
 have G:=auk (t':=d.toks+([]:List (Str × Value)).length) L l j I (by simpa using r) E
 have s:tn 0 M:=T.keep _ _ _ u fun b _ o e=>E b o e
 have f4:∀ b∈fp,FpOk (X.comp N sc d.heap.objs.size d H3 fp) [] H3 b:=fun b hb =>
  ⟨(j b hb).1,(G.ok.exf b hb).1,G.ok.exfs b hb,.inl hb,(G.ok.exf b hb).2,fun p O=>absurd (show p∈([]:List (Addr × Obj)) from O) (by simp)⟩
 have fin:∀ (ys:List V) D H' f,Inv (X.comp N sc d.heap.objs.size d H3 fp) [] D H' f->Q (.ref a) H'->compPost (model X.prog X.w) X.A X.xe use P (.ref a) d.heap.objs.size (.ok .next) f:=fun ys D H' f i q'=>by
  have Jo:Inv X pins σ H' f:=l.call' (ch:=fp) i.os i.base i.hok i.bare fun b hb=>⟨(j b hb).2.2.2.1,(j b hb).2.1,(j b hb).2.2.2.2.1,(j b hb).2.2.2.2.2⟩
  obtain ⟨m,hn,_⟩:=i.loc
  refine Y _ H' f m Jo q' hn i.free (Nat.ne_of_gt l.lt) (.inr l.sz) (fun x c e z=>?_) fun p O z=>?_
  ·obtain ⟨v,o,R,_⟩:=l.cell x c e
   exact absurd (aI3 R) (by rw [z];exact aF6 _)
  ·exact absurd (aI3 (l.pin p O).1) (by rw [z];exact aF6 _)
 have loop:codeAny (model X.prog X.w) X.A (.compLoop (.ListComp elt [⟨tg,iter,ifs,0⟩] sc pos) 0 (.ref it) (.ref a) (X.comp N sc d.heap.objs.size d H3 fp).env)
   (compPost (model X.prog X.w) X.A X.xe use P (.ref a) d.heap.objs.size) { d with heap:=M,toks:=d.toks+([]:List (Str × Value)).length } :=
  asb (X:=X.comp N sc d.heap.objs.size d H3 fp) T U (fun _ _ z=>z) (hg _ _ _ _) (H _ _ _ _) (Z _ _ _ _) F fin G s f4 w0
 exact codeAny_compStart_list loop (T.self _ 0 _ _ _ s loop)
theorem amq (E:X.calm=true) (L:LcOk X N sc src) (hi:PI X tg iter wi) (O:∀ C s0 d ex,PG (X.comp N sc C s0 d ex) tg g) (n:∀ C s0 d ex,PIf (X.comp N sc C s0 d ex) ifs tif) (M:∀ C s0 d ex,PE (X.comp N sc C s0 d ex) elt te)
  {pins:List (Addr × Obj)} {s:Shared} {σ:St} {H:Hp} {Q:VK} (I:Inv X pins σ H s) (h:tLC src wi g tif te σ H Q) (use:Option (Value->Sem Unit)) (P:Value->Shared->Prop)
  (F:∀ f C H' l m,Inv X pins σ H' l->Q (.ref f) H'->l.heap.Ns C m->H' C=none->C ≠ X.env.locals->(C∈X.ex\/X.s₀.heap.objs.size<=C)->(∀ x c,X.env.cells.lookup x=some c->c ≠ C)->(∀ p∈X.pn ++ pins,p.1 ≠ C) ->
   compPost (model X.prog X.w) X.A X.xe use P (.ref f) C (.ok .next) l)
  (D:∀ x,foldedSetIterable iter X.env x=pure x) :
  wpAny (model X.prog X.w) X.A (comprehension (.ListComp elt [⟨tg,iter,ifs,0⟩] sc pos) sc X.env (firstIterPos [⟨tg,iter,ifs,0⟩] pos) (newList []) false (eval iter X.env) use) P X.xe s:=by
 refine wpAny_comprehension_free rfl D (L.clo I.ok) L.kind L.own (thn (hi pins s σ H _ I h) fun v s1 B=>thn B fun K s2 z=>?_)
 obtain ⟨it,fp,tn,J,H2,e,y,T,i,r,R⟩:=z
 subst e
 have a:H2 s2.heap.objs.size=none:=y.hok.fresh (aA6 _)
 obtain ⟨W,⟨U,S⟩,j⟩:=R s2.heap.objs.size a
 have q:∀ b∈fp,b < s2.heap.objs.size:=fun b hb=>by
  obtain ⟨o,G,_⟩:=T.obj _ _ i b hb
  exact aI3 G
 refine aI8 ?_
 refine aw8 E L O n M (H3:=upd H2 s2.heap.objs.size (.lst [])) ?_ T ?_ ?_ S j use P (F _)
 ·exact y.laid (t':=s2.toks) (fun b u e=>aI2 _ e) (aA6 _) ⟨aF2 _,[],0,.nil,aI4 _ rfl⟩
 ·exact T.keep _ _ _ i fun b _ o e=>aI2 _ e
 ·exact fun b hb=>⟨by rw [aae (aB5 (q b hb))];exact (r b hb).1,(r b hb).2⟩
theorem ad2 (l:X.calm=true) (L:LcOk X N sc src) (hi:PI X tg iter wi) (v:∀ C s0 a ex,PG (X.comp N sc C s0 a ex) tg g) (f:∀ C s0 a ex,PIf (X.comp N sc C s0 a ex) ifs tif) (u:∀ C s0 a ex,PE (X.comp N sc C s0 a ex) elt te)
  (j:∀ x,foldedSetIterable iter X.env x=pure x:=by intro _;rfl):PE X (.ListComp elt [⟨tg,iter,ifs,0⟩] sc pos) (tLC src wi g tif te):=by
 intro pins s σ H Q I h
 rw [eval_ListComp]
 refine amq l L hi v f u I h none _ (fun c C H' p m J q hn w r n d i=>?_) j
 refine ⟨m,hn,fun h' sb=>⟨.ref c,H',?_,rfl,q⟩⟩
 exact J.turned (t':=p.toks) (fun b o hb e=>sb.extBut b o hb e) w r n d i
end
section
variable {X:Cx} {N:List Str} {tg iter elt:Expr} {ifs:List Expr} {sc:Scope} {src:List (Option Nat)} {wi:TI} {g:TG} {tif:TT} {te:TE} {pos spos px:Pos}
theorem amr {i:Nat} {x:Str} (M:X.N.Nodup) (l:X.N[i]?=some x) (G:Loc X.env.scope x) (F:X.calm=true) (L:LcOk X N sc src) (hi:PI X tg iter wi) (P:∀ C s0 c ex,PG (X.comp N sc C s0 c ex) tg g)
  (w:∀ C s0 c ex,PIf (X.comp N sc C s0 c ex) ifs tif) (O:∀ C s0 c ex,PE (X.comp N sc C s0 c ex) elt te)
  (n:swapsWith (.ListComp elt [⟨tg,iter,ifs,0⟩] sc pos) (some (.Name x px)) spos.line X.env=pure true:=by rfl)
  (hf:X.fn x=true\/X.env.scope.names.lookup x=some .local:=by first | exact .inl rfl | exact .inr rfl | assumption)
  (K:∀ x,foldedSetIterable iter X.env x=pure x:=by intro _;rfl):PS X (.Assign [.Name x px] (.ListComp elt [⟨tg,iter,ifs,0⟩] sc pos) spos) (tAsg (tLC src wi g tif te) (abw i)):=by
 intro pins s σ H D I h
 rw [exec_Assign_Name_used _ _ _ _ n]
 refine aI0 (wpAny_standAt (aI0 ?_))
 show wpAny _ X.A (do let _ ← comprehension (.ListComp elt [⟨tg,iter,ifs,0⟩] sc pos) sc X.env _ (newList []) false (eval iter X.env) (some (assign (.Name x px) X.env))) _ _ s
 refine aI0 (aI7 (amq F L hi P w O I h (some (assign (.Name x px) X.env)) (fun _ p=>SP X pins D .next p) (fun d C H' p m J q hn R y j f B=>?_) K) (fun _ p Q=>aI1 (aI1 Q)) fun _ _ e=>e)
 show wpAny _ X.A (assign (.Name x px) X.env (.ref d)) _ _ _
 refine wpAny_assign_Name (aku J M l G (v:=.ref d) rfl (fun s2 E ⟨a,sb,ha⟩=>?_) hf)
 have r:C ≠ a:=by
  rcases ha with z | z
  ·rw [z];exact y
  ·exact (f x a z).symm
 refine ⟨m,hn.sameBut sb r,fun h' u=>⟨_,H',?_,q⟩⟩
 exact E.turned (t':=s2.toks) (fun b o hb e=>u.extBut b o hb e) R y j f B
end
section
variable {g:TG} {tif:TT} {te:TE} {acc:Addr} {Qd:List V->Hp->Prop} {σ0:St} {H0:Hp}
theorem aul {lo:Int} {n:Nat} (c:Nat->List V->St->Hp->Prop) (h:c 0 [] σ0 H0) (ha:∀ i ys σ H,c i ys σ H->H acc=some (.lst ys))
  (j:∀ i ys σ H,i < n->c i ys σ H->g (.int (lo+i)) σ H fun a H3=>tif a H3 fun b d=>if b=true then te a d fun y f=>f acc=some (.lst ys)/\ys.length < sizeLine/\c (i+1) (ys ++ [y]) a (upd f acc (.lst (ys ++ [y]))) else c (i+1) ys a d)
  (hd:∀ ys σ H,c n ys σ H->Qd ys H):∃ W:LW,(∃ m,W 0 m [] σ0 H0)/\ag3 (Itr lo n) g tif te acc Qd W:=by
 refine ⟨fun i m ys σ H=>m=n - i/\i<=n/\c i ys σ H,⟨n,by simp,aF2 _,h⟩,?_⟩
 rintro i m ys σ H ⟨rfl,hi,p⟩
 refine ⟨ha i ys σ H p,?_⟩
 by_cases hlt:i < n
 ·refine .inr ⟨hlt,c (i+1),fun l q H' o=>⟨n - (i+1),by lia,rfl,hlt,o⟩,fun x H' y=>?_⟩
  obtain ⟨e,y⟩:=y
  subst e y
  exact j i ys σ _ hlt p
 ·have e:i=n:=by lia
  subst e
  exact .inl ⟨aA6 _,hd ys σ H p⟩
end
section
variable {X:Cx} {N:List Str} {t1 i1 t2 i2 elt:Expr} {f1 f2:List Expr} {sc:Scope} {src:List (Option Nat)} {wi wi2:TI} {g g2:TG} {tif tif2:TT} {te:TE} {pos:Pos}
end
def rLen (K:Frag):List V->Hp->VK->Prop:=fun xs H Q=>∃ p ys,xs=[.ref p]/\(SqL K H p ys\/SqT K H p ys)/\Q (.int ys.length) H
theorem aa9 {X:Cx}:abd X (.builtin "len") (rLen X.K):=ami
def al5:List V->Hp->VK->Prop:=fun xs H Q=>∃ i j,xs=[.int i,.int j]/\Q (.int (if j > i then j else i)) H
def al6:List V->Hp->VK->Prop:=fun xs H Q=>∃ i j,xs=[.int i,.int j]/\Q (.int (if j < i then j else i)) H
theorem acs {X:Cx} (a:X.calm=true):abd X (.builtin "max") al5:=arw a
theorem act {X:Cx} (a:X.calm=true):abd X (.builtin "min") al6:=arx a
def aqo:List V->Hp->VK->Prop:=fun xs H Q=>(∃ i,xs=[.int i]/\Q (.int i) H)\/∃ k,xs=[.bl k]/\Q (.int (if k then 1 else 0)) H
theorem aqp {X:Cx}:abd X (.type "int") aqo:=ary
section
variable {σ:St} {H:Hp} {D:Ends} {K:Frag}
theorem azm {t u:TS} (h:t { D with nx:=u D } σ H):tSeq t u D σ H:=h
theorem azn {te:TE} {g:TG} (h:te σ H fun x a=>g x σ a D.nx):tAsg te g D σ H:=h
theorem azo {te:TE} (h:te σ H D.rt):tRet te D σ H:=h
theorem aw9 {te:TE} (h:te σ H fun _ a=>D.nx σ a):aqc te D σ H:=h
theorem axa (h:D.nx σ H):aqb D σ H:=h
theorem azp {c:TT} {t u:TS} (h:c σ H fun b a=>if b=true then t D σ a else u D σ a):tIfS c t u D σ H:=h
theorem ahu {i:Nat} {v:V} {Q:St->Hp->Prop} (h:Q (σ.set i (some v)) H):abw i v σ H Q:=h
theorem axb {to a:TE} {t:TSet} {v:V} {Q:St->Hp->Prop} (h:to σ H fun o b=>a σ b fun i H2=>t o i v H2 fun H3=>Q σ H3):gSub to a t v σ H Q:=h
theorem ams {i:Nat} {v:V} {Q:VK} (a : σ[i]?=some (some v)) (h:Q v H):tVar i σ H Q:=⟨v,a,h⟩
theorem go_c {v:V} {Q:VK} (h:Q v H):tC v σ H Q:=h
theorem a1p {r:R2} {a b:TE} {Q:VK} (h:a σ H fun x c=>b σ c fun y H2=>r x y H2 Q):tOp r a b σ H Q:=h
theorem axc {t:TE} {Q:Bool->Hp->Prop} (h:t σ H fun x H'=>∃ k,x=.bl k/\Q k H'):al2 t σ H Q:=h
theorem a1q {k:Bool} {Q:Bool->Prop} (h:Q k):∃ a,V.bl k=.bl a/\Q a:=⟨k,rfl,h⟩
theorem azq {t u:TT} {Q:Bool->Hp->Prop} (h:t σ H fun c a=>if c=true then u σ a Q else Q false a):tAnd t u σ H Q:=h
theorem afv {a:TE} {tr:TA} {Q:List V->Hp->Prop} (h:a σ H fun x b=>tr σ b fun xs H2=>Q (x :: xs) H2):aa5 a tr σ H Q:=h
theorem ae0 {Q:List V->Hp->Prop} (h:Q [] H):tNil σ H Q:=h
theorem asc {t:TA} {Q:VK} (h:t σ H fun xs a=>xs.length<=sizeLine/\∀ p,a p=none->Q (.ref p) (upd a p (.tup xs))):tTup t σ H Q:=h
theorem asd {t:TA} {Q:VK} (h:t σ H fun xs a=>xs.length<=sizeLine/\∀ p,a p=none->Q (.ref p) (upd a p (.lst xs))):tLst t σ H Q:=h
theorem a1r {r:List V->Hp->VK->Prop} {t:TA} {Q:VK} (h:t σ H fun vs a=>r vs a Q):tCB r t σ H Q:=h
theorem axd {sp:Sp} {E:XK} {t:TA} {Q:VK} (h:t σ H fun vs a=>sp vs a Q E):abx sp [] E t σ H Q:=by
 unfold abx
 simp only [aE4]
 exact h
theorem go_I {C:Int->Int->Prop} {g:Int->Int->V} {i j:Int} {Q:VK} (a:C i j) (h:Q (g i j) H):rI C g (.int i) (.int j) H Q:=⟨i,j,rfl,rfl,a,h⟩
theorem a1s {g:Int->Int->V} {i j:Int} {Q:VK} (h:Q (g i j) H):rI0 g (.int i) (.int j) H Q:=⟨i,j,rfl,rfl,h⟩
theorem ase {i j:Int} {Q:VK} (h:Q (.bl (decide (i=j))) H):rEq (.int i) (.int j) H Q:=by
 have e:decide (V.int i=V.int j)=decide (i=j):=by rw [ahr];exact Bool.beq_eq_decide_eq i j
 exact ⟨rfl,by rw [e];exact h⟩
theorem azr {i j:Int} {Q:VK} (h:Q (.bl (!decide (i=j))) H):rNe (.int i) (.int j) H Q:=by
 have e:decide (V.int i=V.int j)=decide (i=j):=by rw [ahr];exact Bool.beq_eq_decide_eq i j
 exact ⟨rfl,by rw [e];exact h⟩
theorem azs {a:Addr} {xs:List V} {i:Int} {v:V} {Q:VK} (ha:H a=some (.lst xs)) (b:atI xs i=some v) (h:Q v H):rIxL K (.ref a) (.int i) H Q:=⟨a,xs,i,v,rfl,rfl,SqL.of ha,b,h⟩
theorem azt {a:Addr} {xs:List V} {i:Int} {v:V} {Q:VK} (ha:H a=some (.tup xs)) (b:atI xs i=some v) (h:Q v H):rIxT K (.ref a) (.int i) H Q:=⟨a,xs,i,v,rfl,rfl,SqT.of ha,b,h⟩
theorem ao1 {a:Addr} {xs:List V} {k:Int} {j:Nat} {v:V} {Q:Hp->Prop} (ha:H a=some (.lst xs)) (b:ixN xs.length k=some j) (h:Q (upd H a (.lst (xs.set j v)))):aqn (.ref a) (.int k) v H Q:=⟨a,xs,k,j,rfl,rfl,ha,b,h⟩
theorem afc {a:Addr} {xs:List V} {y:V} {Q:VK} (ha:H a=some (.lst xs)) (b:xs.length < sizeLine) (h:Q .non (upd H a (.lst (xs ++ [y])))):aem (.ref a) [y] H Q:=⟨a,xs,y,rfl,rfl,ha,b,h⟩
theorem asf {a b:Addr} {xs c:List V} {Q:VK} (ha:H a=some (.lst xs)) (hb:H b=some (.lst c)) (d:xs.length+c.length<=sizeLine) (h:Q .non (upd H a (.lst (xs ++ c)))):aj3 (.ref a) [.ref b] H Q:=⟨a,b,xs,c,rfl,rfl,ha,hb,d,h⟩
theorem azu {r:V->List V->Hp->VK->Prop} {to:TE} {t:TA} {Q:VK} (h:to σ H fun x a=>tyV K "list" x a/\t σ a fun xs H2=>r x xs H2 Q):tBM K "list" r to t σ H Q:=h
theorem azv {a b:Addr} {xs c:List V} {Q:VK} (ha:H a=some (.lst xs)) (hb:H b=some (.lst c)) (d:xs.length+c.length<=sizeLine) (h:∀ p,H p=none->Q (.ref p) (upd H p (.lst (xs ++ c)))):rCat (.ref a) (.ref b) H Q:=⟨a,b,xs,c,rfl,rfl,ha,hb,d,h⟩
theorem ao2 {a:Addr} {xs:List V} {Q:VK} (ha:H a=some (.lst xs)) (h:Q (.int xs.length) H):rLen K [.ref a] H Q:=⟨a,xs,rfl,.inl (SqL.of ha),h⟩
theorem axe {a:Addr} {xs:List V} {Q:VK} (ha:H a=some (.tup xs)) (h:Q (.int xs.length) H):rLen K [.ref a] H Q:=⟨a,xs,rfl,.inr (SqT.of ha),h⟩
theorem ao3 {i j:Int} {Q:VK} (h:Q (.int (if j > i then j else i)) H):al5 [.int i,.int j] H Q:=⟨i,j,rfl,h⟩
theorem ao4 {i j:Int} {Q:VK} (h:Q (.int (if j < i then j else i)) H):al6 [.int i,.int j] H Q:=⟨i,j,rfl,h⟩
theorem axf {k:Bool} {Q:VK} (h:Q (.int (if k then 1 else 0)) H):aqo [.bl k] H Q:=.inr ⟨k,rfl,h⟩
theorem aj5 {c:Prop} [Decidable c] {A B:Prop} (a:c) (h:A):if decide c=true then A else B:=by rw [aD6 a];exact iteT h
theorem aj6 {c:Prop} [Decidable c] {A B:Prop} (a:¬ c) (h:B):if decide c=true then A else B:=by rw [aD5 a];exact iteF h
theorem ac6 {c:Prop} [Decidable c] {A B:Prop} (b:c->A) (a:¬ c->B):if decide c=true then A else B:=by
 by_cases hc:c
 ·exact aj5 hc (b hc)
 ·exact aj6 hc (a hc)
theorem axg {c:Prop} [Decidable c] {A B:Prop} (b:¬ c->A) (a:c->B):if (!decide c)=true then A else B:=by
 by_cases hc:c
 ·rw [aD6 hc];exact iteF (a hc)
 ·rw [aD5 hc];exact iteT (b hc)
theorem at0 {x:V} {xs:List V}:atI (x :: xs) 0=some x:=ael (j:=0) rfl
theorem at1 {x y:V} {xs:List V}:atI (x :: y :: xs) 1=some y:=ael (j:=1) rfl
theorem at2 {x y z:V} {xs:List V}:atI (x :: y :: z :: xs) 2=some z:=ael (j:=2) rfl
theorem ixN0 {n:Nat}:ixN (n+1) 0=some 0:=by unfold ixN;rw [aE7 (by decide),aE7 (by lia)];rfl
theorem ixN1 {n:Nat}:ixN (n+2) 1=some 1:=by unfold ixN;rw [aE7 (by decide),aE7 (by lia)];rfl
theorem ixN2 {n:Nat}:ixN (n+3) 2=some 2:=by unfold ixN;rw [aE7 (by decide),aE7 (by lia)];rfl
end
structure CallOk (P:Program) (w:World) (K:Frag) (mg:Str->Option Value) (base:Heap) (x:Str) (k:Nat) (ps:List Str) (sp:Sp) (f:Addr) (fd:FuncData):Prop where
 ok:FnOk P w K mg base CX0 k f fd ps sp
 mgx:mg x=some (.ref f)
 kp:keepIn K (.ref f)=true
 bd:Binds K fd ps []
def Can (P:Program) (w:World) (K:Frag) (mg:Str->Option Value) (base:Heap) (x:Str) (k:Nat) (ps:List Str) (sp:Sp):Prop:=∃ f fd,CallOk P w K mg base x k ps sp f fd
structure DefAt (K:Frag) (mg:Str->Option Value) (x:Str) (st:Stmt) (ps:List Str) (f:Addr) (fd:FuncData):Prop where
 fn:Fun K x x st f fd
 mgx:mg x=some (.ref f)
 bd:Binds K fd ps []
theorem DefAt.can {P:Program} {w:World} {K:Frag} {mg:Str->Option Value} {base:Heap} {x:Str} {st:Stmt} {k:Nat} {ps:List Str} {sp:Sp} {f:Addr} {fd:FuncData} (D:DefAt K mg x st ps f fd) (ok:FnOk P w K mg base CX0 k f fd ps sp):Can P w K mg base x k ps sp :=
 ⟨f,fd,ok,D.mgx,D.fn.kp,D.bd⟩
section
variable {X:Cx} {k j:Nat} {ps:List Str} {sp:Sp} {x:Str} {p pos:Pos} {e:Expr} {es:List Expr} {t:TA}
theorem aaf (F:Can X.prog X.w X.K X.mg X.base x k ps sp) (g:Room j X.A) (ha:PA X (e :: es) t) (h:k<=j:=by decide) (d:Gl X x:=by rfl) (a:(x == ("__debug__" : Str))=false:=by decide)
  (c:starEach (e :: es) X.env=(false,eval e X.env) :: starEach es X.env:=by rfl) (b:(backTo pos (starEach es X.env)).any (·.1)=false:=by rfl) :
  PE X (.Call (.Name x p) (e :: es) [] pos) (abx sp [] E0 t):=by
 obtain ⟨f,fd,C⟩:=F
 exact awz C.ok (g.mono h) d C.mgx C.kp C.bd .nil al4 ha a c b
end
theorem ab7 {X:Cx} {N:List Str} {sc:Scope} {src:List (Option Nat)} (h:sc.kind=.function) (b:sc.names.all (fun y=>y.2 != .cell)=true) (l:sc.names.all (fun y=>y.2 != .local || sc.names.lookup y.1 == some .local)=true)
  (c:sc.names.all (fun y=>y.2 != .free || X.env.kindOf y.1 == some .cell || X.env.kindOf y.1 == some .free)=true) (f:src.length=N.length)
  (g:(List.range src.length).all (fun i=>match src[i]? with | some (some j)=>(match N[i]?,X.N[j]? with | some x,some y=>x == y && sc.names.lookup x == some .free | _,_=>false) | _=>true)=true):LcOk X N sc src:=by
 refine ⟨h,fun y a e=>?_,fun y a e=>?_,fun y a e=>?_,f,fun i j e=>?_⟩
 ·have:=aE6.mp b y a
  rw [e] at this
  exact absurd this (by decide)
 ·have:=aE6.mp l y a
  rw [e] at this
  simpa using this
 ·have:=aE6.mp c y a
  rw [e] at this
  simpa using this
 ·have hi:i < src.length:=(aA1.mp e).1
  have:=aE6.mp g i (aB8.mpr hi)
  rw [e] at this
  dsimp only at this
  cases h7:N[i]? with
  | none=>rw [h7] at this;cases this
  | some x =>
   cases h8:X.N[j]? with
   | none=>rw [h7,h8] at this;cases this
   | some y =>
    rw [h7,h8] at this
    simp only [aG3] at this
    have d:x=y:=by simpa using this.1
    subst d
    exact ⟨x,rfl,rfl,by simpa using this.2⟩
section
variable {σ:St} {H:Hp} {D:Ends} {K:Frag}
def ForW (J:It) (g:TG) (tb:TS) (D:Ends) (σ:St) (H1:Hp):Prop:=∃ W:Nat->Nat->St->Hp->Prop,(∃ m,W 0 m σ H1)/\∀ i m σ H,W i m σ H ->
 (J.stop i H/\D.nx σ H)\/(J.go i H/\∃ N:St->Hp->Prop,(∀ σ' H',N σ' H'->∃ m',m' < m/\W (i+1) m' σ' H')/\∀ x H',J.yld i H x H'->g x σ H' fun σ2 H2=>tb { D with nx:=N,ct:=N,bk:=D.nx } σ2 H2)
theorem azw {b:TI} {g:TG} {a:TS} (h:b σ H fun J c=>ForW J g a D σ c):tFor b g a D σ H:=h
def LcW (J:It) (g:TG) (tif:TT) (te:TE) (σ0:St) (Q:VK) (H1:Hp):Prop:=∀ acc,H1 acc=none->∃ W:LW,(∃ m,W 0 m [] σ0 (upd H1 acc (.lst [])))/\ag3 J g tif te acc (fun _ H'=>Q (.ref acc) H') W
theorem a1t {src:List (Option Nat)} {b:TI} {g:TG} {a:TT} {te:TE} {Q:VK} (h:b σ H fun J c=>LcW J g a te (pick src σ) Q c):tLC src b g a te σ H Q:=h
def awi (R:It->Hp->Prop):List V->Hp->Prop:=fun vs H1=>∃ j:Int,vs=[.int j]/\-(2 ^ 62)<=j/\j < 2 ^ 62/\R (Itr 0 j.toNat) H1
theorem aum {a:TA} {R:It->Hp->Prop} (h:a σ H (awi R)):aqe a σ H R:=h
theorem ao5 {R:It->Hp->Prop} {j:Int} (b:0<=j) (a:j < 2 ^ 62) (h:R (Itr 0 j.toNat) H):awi R [.int j] H:=⟨j,rfl,by lia,a,h⟩
theorem azx {a:Addr} {xs:List V} {i:Int} {v:V} {Q:VK} (ha:SqL K H a xs) (b:atI xs i=some v) (h:Q v H):rIxL K (.ref a) (.int i) H Q:=⟨a,xs,i,v,rfl,rfl,ha,b,h⟩
theorem ao6 {a:Addr} {xs:List V} {Q:VK} (ha:SqL K H a xs) (h:Q (.int xs.length) H):rLen K [.ref a] H Q:=⟨a,xs,rfl,.inl ha,h⟩
theorem azy {a:Addr} {xs:List V} {R:Prop} (ha:H a=some (.lst xs)) (h:R):tyV K "list" (.ref a) H/\R:=⟨.inl ⟨rfl,_,SqL.of ha⟩,h⟩
theorem aja {Q:Bool->Hp->Prop} (h:Q true H):tYes σ H Q:=h
theorem amt {a:Addr} {xs:List V} {i:Int} {k:Nat} {y:V} {Q:VK} (ha:H a=some (.lst xs)) (d : -(2 ^ 63)<=i) (b:i < 2 ^ 63) (f:seqIndex? i xs.length=some k) (c:xs[k]?=some y) (h:Q y (upd H a (.lst (xs.eraseIdx k)))):ai0 (.ref a) [.int i] H Q :=
 ⟨a,xs,i,k,y,rfl,rfl,ha,d,b,f,c,h⟩
end
end L2
namespace L2
open PySem
theorem abz:bootBuiltins "len" = some (.builtin "len"):=by decide +kernel
theorem ac7:bootBuiltins "max" = some (.builtin "max"):=by decide +kernel
theorem ad8:bootBuiltins "min" = some (.builtin "min"):=by decide +kernel
theorem asg:bootBuiltins "sum" = some (.builtin "sum"):=by decide +kernel
theorem ac8:bootBuiltins "sorted" = some (.builtin "sorted"):=by decide +kernel
theorem adh:bootBuiltins "isinstance" = some (.builtin "isinstance"):=by decide +kernel
theorem ash:bootBuiltins "all" = some (.builtin "all"):=by decide +kernel
theorem asi:bootBuiltins "int" = some (.type "int"):=by decide +kernel
theorem afw:bootBuiltins "list" = some (.type "list"):=by decide +kernel
theorem ao7:bootBuiltins "dict" = some (.type "dict"):=by decide +kernel
theorem aun:bootBuiltins "tuple" = some (.type "tuple"):=by decide +kernel
theorem axh:bootBuiltins "bool" = some (.type "bool"):=by decide +kernel
end L2
namespace TS
open PySem PyProof.Rows
def aj7:Bool->Keyed->Array Keyed->Nat->Nat->Nat->StateT SortSt Sem (Option Nat):=sortPriv% PySem.Builtin.gallop
def auo:Array Keyed->Array Keyed->StateT SortSt Sem (Array Keyed):=sortPriv% PySem.Builtin.mergeLo
def aup:Array Keyed->Array Keyed->StateT SortSt Sem (Array Keyed):=sortPriv% PySem.Builtin.mergeHi
def amu:Nat->StateT SortSt Sem Bool:=sortPriv% PySem.Builtin.mergeAt
def axi:Nat->Nat->StateT SortSt Sem (Option Nat):=sortPriv% PySem.Builtin.countRun
def auq:Nat->Nat->Nat->StateT SortSt Sem Bool:=sortPriv% PySem.Builtin.binarySort
def a1u:StateT SortSt Sem Unit:=sortPriv% PySem.Builtin.sortRuns
structure Cmp (M:Model) (A:Around) (E:Value->Shared->Prop) (s:Shared) (κ:SortKind) (S:Keyed->Prop) (R:Keyed->Keyed->Bool):Prop where
 ask:∀ x y,S x->S y->∀ (Q:Option Bool->SortSt->Prop) (st:SortSt),kindOf st = κ->Q (some (R x y)) st->wpS M A E s (lt' x y) Q st
 asy:∀ x y,S x->S y->R x y=true->R y x=false
 tr:∀ x y z,S x->S y->S z->R y x=false->R z y=false->R z x=false
section
variable {M:Model} {A:Around} {E:Value->Shared->Prop} {s:Shared} {κ:SortKind} {S:Keyed->Prop} {R:Keyed->Keyed->Bool}
theorem aa0 {arr:Array Keyed} {i:Nat} {x:Keyed} {Q:Keyed->SortSt->Prop} {st:SortSt} (a:arr[i]?=some x) (h:Q x st):wpS M A E s (elem' arr i) Q st:=by
 rw [elem'_eq,a]
 exact wpS_pure h
theorem adz {x:String} {Q:Unit->SortSt->Prop} {st:SortSt} (h:Q () st):wpS M A E s (liftM (PySem.rule x):StateT SortSt Sem Unit) Q st :=
 wpS_lift (wpAny_rule ⟨rfl,h⟩)
def bey (left:Bool) (key:Keyed) (arr:Array Keyed) (base i:Nat):StateT SortSt Sem (Option Bool):=do
 let x ← elem' arr (base+i)
 if left=true then lt' x key else do
  let r ← lt' key x
  pure (Option.map (fun b => !b) r)
theorem ak4 {left:Bool} {p:Keyed} {arr:Array Keyed} {base n a:Nat} {B:Nat->Bool}
  (hb:∀ i,i < n->∀ (Q:Option Bool->SortSt->Prop) (st:SortSt),kindOf st = κ->Q (some (B i)) st->wpS M A E s (bey left p arr base i) Q st)
  (mono:∀ i j,i < j->j < n->B j=true->B i=true) (hh:a < n) {Q:Option Nat->SortSt->Prop} {st:SortSt} (x:kindOf st = κ)
  (h:∀ k,k<=n->(∀ i,i < k->B i=true)->(∀ i,k<=i->i < n->B i=false)->Q (some k) st):wpS M A E s (aj7 left p arr base n a) Q st:=by
 have c:∀ i j,i < j->j < n->B i=false->B j=false:=fun i j y K hi=>by
  cases e:B j with
  | false=>rfl
  | true=>rw [mono i j y K e] at hi;cases hi
 -- the last loop
 have last:∀ (lo hi:Nat) (F:Option (Option Nat) × Nat × Nat->StateT SortSt Sem (Option Nat)),lo<=hi->hi<=n->(∀ i,i < lo->B i=true)->(∀ i,hi<=i->i < n->B i=false) ->
   (∀ lo hi,F (none,lo,hi)=pure (some hi)) ->
   wpS M A E s (forIn [:n] ((none,lo,hi):Option (Option Nat) × Nat × Nat) (fun (_:Nat) z=>if z.2.1 ≥ z.2.2 then pure (ForInStep.done (none,z.2.1,z.2.2)) else bey left p arr base (z.2.1+(z.2.2 - z.2.1) / 2) >>= fun r=>match r with
    | some more=>if more=true then pure (ForInStep.yield (none,z.2.1+(z.2.2 - z.2.1) / 2+1,z.2.2)) else pure (ForInStep.yield (none,z.2.1,z.2.1+(z.2.2 - z.2.1) / 2))
    | _=>pure (ForInStep.done (some none,z.2.1,z.2.2))) >>= F) Q st:=by
  intro lo hi F I G J H D
  refine wpS_bind (wpS_forRange (fun t z st'=>st'=st/\z.1=none/\z.2.1<=z.2.2/\z.2.2<=n/\z.2.2 - z.2.1+t<=n/\(∀ i,i < z.2.1->B i=true)/\(∀ i,z.2.2<=i->i < n->B i=false)) ?_ ?_ ⟨rfl,rfl,I,G,by dsimp only;lia,J,H⟩)
  ·rintro t ⟨o,l,u⟩ st' _ C ⟨rfl,e,q,d,b,g,w⟩
   dsimp only at e q d b g w ⊢
   subst e
   by_cases hlu:l ≥ u
   ·rw [aE7 hlu]
    have:l=u:=by lia
    subst this
    exact wpS_pure (by dsimp only;rw [D];exact wpS_pure (h l d g w))
   ·rw [aE8 hlu]
    have hm:l+(u - l) / 2 < u:=by lia
    refine wpS_bind (hb _ (by lia) _ _ x ?_)
    dsimp only
    cases e:B (l+(u - l) / 2) with
    | true =>
     rw [aE7 rfl]
     refine wpS_pure ⟨rfl,rfl,by dsimp only;lia,d,by dsimp only;lia,fun i hi=>?_,w⟩
     dsimp only at hi
     by_cases hi2:i=l+(u - l) / 2
     ·rw [hi2];exact e
     ·exact mono i _ (by lia) (by lia) e
    | false =>
     rw [aE8 (by simp)]
     refine wpS_pure ⟨rfl,rfl,by dsimp only;lia,by dsimp only;lia,by dsimp only;lia,g,fun i hi hn=>?_⟩
     dsimp only at hi
     by_cases hi2:i=l+(u - l) / 2
     ·rw [hi2];exact e
     ·exact c _ i (by lia) hn e
  ·rintro ⟨o,l,u⟩ st' ⟨rfl,e,q,d,b,g,w⟩
   dsimp only at e q d b g w ⊢
   subst e
   have : l = u := by have:n ≤ max 0 n := by lia
                      lia
   subst this
   rw [D]
   exact wpS_pure (h l d g w)
 refine wpS_bind (f:=fun L=>_) (m:=bey left p arr base a) (hb a hh _ st x ?_)
 dsimp only
 cases e0:B a with
 | true =>
  rw [aE7 rfl]
  refine wpS_bind ?_
  refine wpS_forRange (fun t (z:Option (Option Nat) × Nat × Nat) st'=>st'=st/\z.1=none/\z.2.1 < z.2.2/\a+z.2.1 < n/\B (a+z.2.1)=true/\t+1<=z.2.2) ?_ ?_ ⟨rfl,rfl,by decide,by dsimp only;lia,e0,Nat.le_refl _⟩
  ·rintro t ⟨o,l,u⟩ st' _ C ⟨rfl,e,q,d,b,g⟩
   dsimp only at e q d b g ⊢
   subst e
   by_cases hu:u ≥ n - a
   ·rw [aE7 hu]
    refine wpS_pure ?_
    dsimp only
    refine last _ _ _ (by lia) (by lia) (fun i hi=>?_) (fun i hi hn=>by lia) (fun _ _=>rfl)
    by_cases hi2:i=a+l
    ·rw [hi2];exact b
    ·exact mono i _ (by lia) d b
   ·rw [aE8 hu]
    refine wpS_bind (m:=bey left p arr base (a+u)) (hb _ (by lia) _ _ x ?_)
    dsimp only
    cases e1:B (a+u) with
    | true =>
     rw [aE8 (by decide)]
     exact wpS_pure ⟨rfl,rfl,by dsimp only;lia,by dsimp only;lia,e1,by dsimp only;lia⟩
    | false =>
     rw [aE7 (by decide)]
     refine wpS_pure ?_
     dsimp only
     refine last _ _ _ (by lia) (by lia) (fun i hi=>?_) (fun i hi hn=>?_) (fun _ _=>rfl)
     ·by_cases hi2:i=a+l
      ·rw [hi2];exact b
      ·exact mono i _ (by lia) d b
     ·by_cases hi2:i=a+u
      ·rw [hi2];exact e1
      ·exact c _ i (by lia) hn e1
  ·rintro ⟨o,l,u⟩ st' ⟨rfl,e,q,d,b,g⟩
   dsimp only at e q d b g ⊢
   subst e
   dsimp only
   refine last _ _ _ (by lia) (by lia) (fun i hi=>?_) (fun i hi hn=>by lia) (fun _ _=>rfl)
   by_cases hi2:i=a+l
   ·rw [hi2];exact b
   ·exact mono i _ (by lia) d b
 | false =>
  rw [aE8 (by decide)]
  refine wpS_bind ?_
  refine wpS_forRange (fun t (z:Option (Option Nat) × Nat × Nat) st'=>st'=st/\z.1=none/\z.2.1 < z.2.2/\z.2.1<=a/\B (a - z.2.1)=false/\t+1<=z.2.2) ?_ ?_ ⟨rfl,rfl,by decide,aF2 _,e0,aA6 _⟩
  ·rintro t ⟨o,l,u⟩ st' _ C ⟨rfl,e,q,d,b,g⟩
   dsimp only at e q d b g ⊢
   subst e
   have v:∀ i,a - l<=i->i < n->B i=false:=fun i hi hn=>by
    by_cases hi2:i=a - l
    ·rw [hi2];exact b
    ·exact c _ i (by lia) hn b
   by_cases hu:u ≥ a+1
   ·rw [aE7 hu]
    refine wpS_pure ?_
    dsimp only
    exact last _ _ _ (by lia) (by lia) (fun i hi=>by lia) v (fun _ _=>rfl)
   ·rw [aE8 hu]
    refine wpS_bind (m:=bey left p arr base (a - u)) (hb _ (by lia) _ _ x ?_)
    dsimp only
    cases e1:B (a - u) with
    | true =>
     rw [aE7 rfl]
     refine wpS_pure ?_
     dsimp only
     refine last _ _ _ (by lia) (by lia) (fun i hi=>?_) v (fun _ _=>rfl)
     by_cases hi2:i=a - u
     ·rw [hi2];exact e1
     ·exact mono i _ (by lia) (by lia) e1
    | false =>
     rw [aE8 (by decide)]
     exact wpS_pure ⟨rfl,rfl,by dsimp only;lia,by dsimp only;lia,e1,by dsimp only;lia⟩
  ·rintro ⟨o,l,u⟩ st' ⟨rfl,e,q,d,b,g⟩
   dsimp only at e q d b g ⊢
   subst e
   dsimp only
   refine last _ _ _ (by lia) (by lia) (fun i hi=>by lia) (fun i hi hn=>?_) (fun _ _=>rfl)
   by_cases hi2:i=a - l
   ·rw [hi2];exact b
   ·exact c _ i (by lia) hn b
end
def Srt (R:Keyed->Keyed->Bool) (l:List Keyed):Prop:=l.Pairwise fun x y=>R y x=false
structure Mid (R:Keyed->Keyed->Bool) (L out a b:List Keyed):Prop where
 perm:(out ++ a ++ b).Perm L
 so:Srt R out
 le:∀ x∈out,∀ y∈a ++ b,R y x=false
 sa:Srt R a
 sb:Srt R b
section
variable {R:Keyed->Keyed->Bool} {L out a b p:List Keyed}
theorem Mid.takeA (m:Mid R L out (p ++ a) b) (h:∀ x∈p,∀ y∈b,R y x=false):Mid R L (out ++ p) a b:=by
 have sp:=aC8.mp m.sa
 refine ⟨by have:=m.perm;rw [← aB3] at this;exact this,aC8.mpr ⟨m.so,sp.1,fun x d y c=>m.le x d y (aC6 _ (aC6 _ c))⟩,fun x d y c=>?_,sp.2.1,m.sb⟩
 rcases aA7.mp d with d | d
 ·refine m.le x d y ?_
  rcases aA7.mp c with c | c
  ·exact aC6 _ (aB2 _ c)
  ·exact aB2 _ c
 ·rcases aA7.mp c with c | c
  ·exact sp.2.2 x d y c
  ·exact h x d y c
theorem Mid.takeB (m:Mid R L out a (p ++ b)) (h:∀ x∈p,∀ y∈a,R y x=false):Mid R L (out ++ p) a b:=by
 have sp:=aC8.mp m.sb
 refine ⟨List.Perm.trans ?_ m.perm,aC8.mpr ⟨m.so,sp.1,fun x d y c=>m.le x d y (aB2 _ (aC6 _ c))⟩,fun x d y c=>?_,m.sa,sp.2.1⟩
 ·rw [← aB3 (out ++ a) p b]
  refine List.Perm.append_right b ?_
  rw [aB3,aB3]
  exact List.Perm.append_left out List.perm_append_comm
 ·rcases aA7.mp d with d | d
  ·refine m.le x d y ?_
   rcases aA7.mp c with c | c
   ·exact aC6 _ c
   ·exact aB2 _ (aB2 _ c)
  ·rcases aA7.mp c with c | c
   ·exact h x d y c
   ·exact sp.2.2 x d y c
theorem Mid.done (m:Mid R L out a b) (h:a=[]\/b=[]):(out ++ a ++ b).Perm L/\Srt R (out ++ a ++ b):=by
 refine ⟨m.perm,?_⟩
 rw [aB3]
 refine aC8.mpr ⟨m.so,?_,m.le⟩
 rcases h with h | h
 ·subst h;exact m.sb
 ·subst h;rw [aE4];exact m.sa
theorem Mid.last (m:Mid R L out a b) (h:∀ y∈b,∀ x∈a,R x y=false):(out ++ b ++ a).Perm L/\Srt R (out ++ b ++ a):=by
 refine ⟨List.Perm.trans ?_ m.perm,?_⟩
 ·rw [aB3,aB3]
  exact List.Perm.append_left out List.perm_append_comm
 ·rw [aB3]
  refine aC8.mpr ⟨m.so,aC8.mpr ⟨m.sb,m.sa,h⟩,fun x d y c=>m.le x d y ?_⟩
  rcases aA7.mp c with c | c
  ·exact aB2 _ c
  ·exact aC6 _ c
end
structure Eqv (st st':SortSt):Prop where
 k:kindOf st'=kindOf st
 a:arrOf st'=arrOf st
 p:pendingOf st'=pendingOf st
 f:failedOf st'=failedOf st
theorem Eqv.refl (st:SortSt):Eqv st st:=⟨rfl,rfl,rfl,rfl⟩
theorem Eqv.trans {a b c:SortSt} (h:Eqv a b) (g:Eqv b c):Eqv a c:=⟨g.k.trans h.k,g.a.trans h.a,g.p.trans h.p,g.f.trans h.f⟩
theorem ahv (a:Array Keyed) (i:Nat):(a.extract i a.size).toList=a.toList.drop i:=by
 rw [Array.toList_extract];simp only [List.extract_eq_take_drop];exact aE5 (by simp)
theorem aj8 (a:Array Keyed) (i k:Nat):(a.extract i (i+k)).toList=(a.toList.drop i).take k:=by
 rw [Array.toList_extract];simp [List.extract]
theorem abu {a:Array Keyed} {i:Nat} (h:i < a.size):a.toList.drop i=a[i] :: a.toList.drop (i+1):=by
 rw [List.drop_eq_getElem_cons (by simpa using h)];simp
section
variable {M:Model} {A:Around} {E:Value->Shared->Prop} {s:Shared} {κ:SortKind} {S:Keyed->Prop} {R:Keyed->Keyed->Bool}
theorem Cmp.irr {x:Keyed} (C:Cmp M A E s κ S R) (a:S x):R x x=false:=by
 cases e:R x x with
 | false=>rfl
 | true=>have:=C.asy x x a a e;rw [e] at this;cases this
theorem ag4 (C:Cmp M A E s κ S R) {b:Keyed} {arr:Array Keyed} {base n g:Nat} (f:S b) (G:∀ x∈arr.toList,S x) (hn:base+n<=arr.size) (O:Srt R ((arr.toList.drop base).take n)) (hh:g < n)
  {Q:Option Nat->SortSt->Prop} {st:SortSt} (K:kindOf st = κ)
  (h:∀ k,k<=n->(∀ x∈(arr.toList.drop base).take k,R b x=false)->(∀ x∈((arr.toList.drop base).take n).drop k,R b x=true)->Q (some k) st) :
  wpS M A E s (aj7 false b arr base n g) Q st:=by
 have a:∀ i,i < n->∃ x,arr[base+i]?=some x/\S x/\((arr.toList.drop base).take n)[i]?=some x:=fun i hi=>by
  have o:base+i < arr.size:=by lia
  refine ⟨arr[base+i],aA4 o,G _ (by simp),?_⟩
  rw [aG7 hi,aH5]
  simp [o]
 have m:∀ i j x y,i < j->j < n->arr[base+i]?=some x->arr[base+j]?=some y->R y x=false:=fun i j x y l q ex U=>by
  obtain ⟨X,c,_,e2⟩:=a i (by lia)
  obtain ⟨W,D,_,r⟩:=a j q
  rw [ex] at c;cases c
  rw [U] at D;cases D
  obtain ⟨I,e2⟩:=aA1.mp e2
  obtain ⟨T,r⟩:=aA1.mp r
  have:=aF9.mp O i j I T l
  rw [e2,r] at this
  exact this
 refine ak4 (κ:=κ) (B:=fun i=>match arr[base+i]? with | some x => !(R b x) | none=>false) (fun i hi Q' st' u F=>?_) (fun i j l q p=>?_) hh K fun k w N H=>h k w (fun x v=>?_) fun x v=>?_
 ·obtain ⟨x,c,z,_⟩:=a i hi
  unfold bey
  refine wpS_bind (aa0 c ?_)
  rw [aE8 (by decide)]
  refine wpS_bind (C.ask _ _ f z _ _ u ?_)
  refine wpS_pure ?_
  simp only [c] at F
  exact F
 ·obtain ⟨x,c,z,_⟩:=a i (by lia)
  obtain ⟨y,e2,J,_⟩:=a j q
  simp only [c,e2] at p ⊢
  have L:=m i j x y l q c e2
  have P:R b y=false:=by simpa using p
  have:=C.tr x y b z J f L P
  simp [this]
 ·obtain ⟨i,hi,e⟩:=List.getElem_of_mem v
  have d:i < k:=by rw [aG2] at hi;lia
  obtain ⟨y,c,_,e2⟩:=a i (by lia)
  have hb:=N i d
  simp only [c] at hb
  have ex:x=y:=by
   have:((arr.toList.drop base).take k)[i]?=some x:=by rw [aA0 hi,e]
   rw [aG7 d] at this
   rw [aG7 (by lia)] at e2
   rw [this] at e2;exact aC5 e2
  subst ex
  simpa using hb
 ·obtain ⟨i,hi,e⟩:=List.getElem_of_mem v
  have d:k+i < n:=by rw [List.length_drop,aG2] at hi;lia
  obtain ⟨y,c,_,e2⟩:=a (k+i) d
  have hb:=H (k+i) (by lia) d
  simp only [c] at hb
  have ex:x=y:=by
   have:(((arr.toList.drop base).take n).drop k)[i]?=some x:=by rw [aA0 hi,e]
   rw [aH5] at this
   rw [this] at e2;exact aC5 e2
  subst ex
  simpa using hb
theorem aif (C:Cmp M A E s κ S R) {b:Keyed} {arr:Array Keyed} {base n g:Nat} (f:S b) (G:∀ x∈arr.toList,S x) (hn:base+n<=arr.size) (O:Srt R ((arr.toList.drop base).take n)) (hh:g < n)
  {Q:Option Nat->SortSt->Prop} {st:SortSt} (K:kindOf st = κ)
  (h:∀ k,k<=n->(∀ x∈(arr.toList.drop base).take k,R x b=true)->(∀ x∈((arr.toList.drop base).take n).drop k,R x b=false)->Q (some k) st) :
  wpS M A E s (aj7 true b arr base n g) Q st:=by
 have a:∀ i,i < n->∃ x,arr[base+i]?=some x/\S x/\((arr.toList.drop base).take n)[i]?=some x:=fun i hi=>by
  have p:base+i < arr.size:=by lia
  refine ⟨arr[base+i],aA4 p,G _ (by simp),?_⟩
  rw [aG7 hi,aH5]
  simp [p]
 have m:∀ i j x y,i < j->j < n->arr[base+i]?=some x->arr[base+j]?=some y->R y x=false:=fun i j x y l q ex T=>by
  obtain ⟨W,c,_,e2⟩:=a i (by lia)
  obtain ⟨U,D,_,r⟩:=a j q
  rw [ex] at c;cases c
  rw [T] at D;cases D
  obtain ⟨I,e2⟩:=aA1.mp e2
  obtain ⟨P,r⟩:=aA1.mp r
  have:=aF9.mp O i j I P l
  rw [e2,r] at this
  exact this
 refine ak4 (κ:=κ) (B:=fun i=>match arr[base+i]? with | some x=>R x b | none=>false) (fun i hi Q' st' u F=>?_) (fun i j l q o=>?_) hh K fun k w N H=>h k w (fun x v=>?_) fun x v=>?_
 ·obtain ⟨x,c,z,_⟩:=a i hi
  unfold bey
  refine wpS_bind (aa0 c ?_)
  rw [aE7 rfl]
  simp only [c] at F
  exact C.ask _ _ z f _ _ u F
 ·obtain ⟨x,c,z,_⟩:=a i (by lia)
  obtain ⟨y,e2,J,_⟩:=a j q
  simp only [c,e2] at o ⊢
  have L:=m i j x y l q c e2
  cases e:R x b with
  | true=>rfl
  | false =>
   have:=C.tr b x y f z J e L
   rw [this] at o;cases o
 ·obtain ⟨i,hi,e⟩:=List.getElem_of_mem v
  have d:i < k:=by rw [aG2] at hi;lia
  obtain ⟨y,c,_,e2⟩:=a i (by lia)
  have hb:=N i d
  simp only [c] at hb
  have ex:x=y:=by
   have:((arr.toList.drop base).take k)[i]?=some x:=by rw [aA0 hi,e]
   rw [aG7 d] at this
   rw [aG7 (by lia)] at e2
   rw [this] at e2;exact aC5 e2
  subst ex
  exact hb
 ·obtain ⟨i,hi,e⟩:=List.getElem_of_mem v
  have d:k+i < n:=by rw [List.length_drop,aG2] at hi;lia
  obtain ⟨y,c,_,e2⟩:=a (k+i) d
  have hb:=H (k+i) (by lia) d
  simp only [c] at hb
  have ex:x=y:=by
   have:(((arr.toList.drop base).take n).drop k)[i]?=some x:=by rw [aA0 hi,e]
   rw [aH5] at this
   rw [this] at e2;exact aC5 e2
  subst ex
  exact hb
end
section
variable {M:Model} {A:Around} {E:Value->Shared->Prop} {s:Shared} {κ:SortKind} {S:Keyed->Prop} {R:Keyed->Keyed->Bool}
structure Two (S:Keyed->Prop) (R:Keyed->Keyed->Bool) (a b:Array Keyed):Prop where
 ha:∀ x∈a.toList,S x
 hb:∀ x∈b.toList,S x
 sa:Srt R a.toList
 sb:Srt R b.toList
 a0:0 < a.size
 b0:0 < b.size
 first:∀ x∈a.toList,∀ y,b[0]?=some y->R x y=false
 last:∀ y∈b.toList,∀ x,a[a.size - 1]?=some x->R x y=false
def Fin2 (R:Keyed->Keyed->Bool) (a b m:Array Keyed):Prop:=m.toList.Perm (a.toList ++ b.toList)/\Srt R m.toList
structure Lo (S:Keyed->Prop) (R:Keyed->Keyed->Bool) (a b out:Array Keyed) (ia ib:Nat):Prop where
 mid:Mid R (a.toList ++ b.toList) out.toList (a.toList.drop ia) (b.toList.drop ib)
 ia:ia<=a.size
 ib:ib<=b.size
theorem Lo.len {a b out:Array Keyed} {ia ib:Nat} (l:Lo S R a b out ia ib):out.size+(a.size - ia)+(b.size - ib)=a.size+b.size:=by
 have:=l.mid.perm.length_eq
 simp at this
 lia
theorem Lo.doneA {a b out:Array Keyed} {ia ib:Nat} (l:Lo S R a b out ia ib) (h:ib=b.size\/ia=a.size):Fin2 R a b (out ++ a.extract ia ++ b.extract ib):=by
 have:=l.mid.done (by
  rcases h with h | h
  ·right;rw [h];simp
  ·left;rw [h];simp)
 unfold Fin2
 rw [aF8,aF8,ahv,ahv]
 exact this
theorem asj {a:Array Keyed} {i:Nat} (h:i+1=a.size):a.toList.drop i=[a[a.size - 1]'(by lia)]:=by
 have hi:i < a.size:=by lia
 rw [abu hi]
 have:i=a.size - 1:=by lia
 subst this
 have e:a.toList.drop (a.size - 1+1)=[]:=by
  apply List.drop_eq_nil_of_le
  simp;lia
 rw [e]
theorem Lo.lastA {a b out:Array Keyed} {ia ib:Nat} (T:Two S R a b) (l:Lo S R a b out ia ib) (h:ia+1=a.size):Fin2 R a b (out ++ b.extract ib ++ a.extract ia):=by
 have:=l.mid.last (by
  intro y d x c
  rw [asj h] at c
  have ex:x=a[a.size - 1]'(by lia):=by simpa using c
  refine T.last y (aC3 d) x ?_
  rw [ex]
  exact aA4 _)
 unfold Fin2
 rw [aF8,aF8,ahv,ahv]
 exact this
theorem ae1 {x:Keyed} {l:List Keyed} (C:Cmp M A E s κ S R) (h:Srt R (x :: l)) (b:S x):∀ y∈x :: l,R y x=false:=by
 intro y a
 rcases aA8.mp a with e | a
 ·rw [e];exact C.irr b
 ·exact (List.pairwise_cons.mp h).1 y a
theorem Lo.pushB {a b out:Array Keyed} {ia ib:Nat} (C:Cmp M A E s κ S R) (T:Two S R a b) (l:Lo S R a b out ia ib) (hb:ib < b.size) (h:∀ x∈a.toList.drop ia,R x b[ib]=false):Lo S R a b (out.push b[ib]) ia (ib+1):=by
 refine ⟨?_,l.ia,hb⟩
 have m:=l.mid
 rw [abu hb] at m
 rw [Array.toList_push]
 exact m.takeB (p:=[b[ib]]) (fun x d y c=>by
  have:x=b[ib]:=by simpa using d
  rw [this];exact h y c)
theorem Lo.pushA {a b out:Array Keyed} {ia ib:Nat} (l:Lo S R a b out ia ib) (ha:ia < a.size) (h:∀ y∈b.toList.drop ib,R y a[ia]=false):Lo S R a b (out.push a[ia]) (ia+1) ib:=by
 refine ⟨?_,ha,l.ib⟩
 have m:=l.mid
 rw [abu ha] at m
 rw [Array.toList_push]
 exact m.takeA (p:=[a[ia]]) (fun x d y c=>by
  have:x=a[ia]:=by simpa using d
  rw [this];exact h y c)
theorem Lo.runA {a b out:Array Keyed} {ia ib k:Nat} (l:Lo S R a b out ia ib) (d:ia+k<=a.size) (h:∀ x∈(a.toList.drop ia).take k,∀ y∈b.toList.drop ib,R y x=false):Lo S R a b (out ++ a.extract ia (ia+k)) (ia+k) ib:=by
 refine ⟨?_,d,l.ib⟩
 have m:=l.mid
 rw [← aC0 k (a.toList.drop ia)] at m
 rw [aF8,aj8]
 have c:=m.takeA h
 rw [List.drop_drop] at c
 exact c
theorem Lo.runB {a b out:Array Keyed} {ia ib k:Nat} (l:Lo S R a b out ia ib) (d:ib+k<=b.size) (h:∀ x∈(b.toList.drop ib).take k,∀ y∈a.toList.drop ia,R y x=false):Lo S R a b (out ++ b.extract ib (ib+k)) ia (ib+k):=by
 refine ⟨?_,l.ia,d⟩
 have m:=l.mid
 rw [← aC0 k (b.toList.drop ib)] at m
 rw [aF8,aj8]
 have c:=m.takeB h
 rw [List.drop_drop] at c
 exact c
theorem ac9 {l:List Keyed} {i:Nat} (h:Srt R l):Srt R (l.drop i):=List.Pairwise.sublist (List.drop_sublist i l) h
theorem jpn {α β:Type} {prog : β->StateT SortSt Sem α} {P : β->Prop} {Q : α->SortSt->Prop} {st:SortSt} {G:Prop} (use:(∀ m,P m->wpS M A E s (prog m) Q st)->G) (a:∀ m,P m->wpS M A E s (prog m) Q st):G:=use a
theorem jpn2 {α:Type} {prog:Array Keyed->Nat->StateT SortSt Sem α} {P:Array Keyed->Nat->Prop} {Q : α->SortSt->Prop} {st:SortSt} {G:Prop} (use:(∀ o i,P o i->wpS M A E s (prog o i) Q st)->G) (a:∀ o i,P o i->wpS M A E s (prog o i) Q st):G:=use a
section
variable {ρ β γ δ ε ζ η:Type}
@[elab_as_elim] theorem un5 {J : β->γ->δ->ε->Prop} {G:Option ρ × β × γ × δ × ε->Prop} (z:Option ρ × β × γ × δ × ε) (h:z.1=none/\J z.2.1 z.2.2.1 z.2.2.2.1 z.2.2.2.2) (k:∀ x y u v,J x y u v->G (none,x,y,u,v)):G z:=by
 have e:z=(none,z.2.1,z.2.2.1,z.2.2.2.1,z.2.2.2.2):=by rw [← h.1]
 rw [e];exact k _ _ _ _ h.2
@[elab_as_elim] theorem un6 {J : β->γ->δ->ε->ζ->Prop} {G:Option ρ × β × γ × δ × ε × ζ->Prop} (z:Option ρ × β × γ × δ × ε × ζ) (h:z.1=none/\J z.2.1 z.2.2.1 z.2.2.2.1 z.2.2.2.2.1 z.2.2.2.2.2) (k:∀ x y u v a,J x y u v a->G (none,x,y,u,v,a)):G z:=by
 have e:z=(none,z.2.1,z.2.2.1,z.2.2.2.1,z.2.2.2.2.1,z.2.2.2.2.2):=by rw [← h.1]
 rw [e];exact k _ _ _ _ _ h.2
@[elab_as_elim] theorem un7 {J : β->γ->δ->ε->ζ->η->Prop} {G:Option ρ × β × γ × δ × ε × ζ × η->Prop} (z:Option ρ × β × γ × δ × ε × ζ × η) (h:z.1=none/\J z.2.1 z.2.2.1 z.2.2.2.1 z.2.2.2.2.1 z.2.2.2.2.2.1 z.2.2.2.2.2.2) (k:∀ x y u v a b,J x y u v a b->G (none,x,y,u,v,a,b)):G z:=by
 have e:z=(none,z.2.1,z.2.2.1,z.2.2.2.1,z.2.2.2.2.1,z.2.2.2.2.2.1,z.2.2.2.2.2.2):=by rw [← h.1]
 rw [e];exact k _ _ _ _ _ _ h.2
@[elab_as_elim] theorem unR {κ:Type} {F : ρ->Prop} {J : κ->Prop} {G:Option ρ × κ->Prop} (z:Option ρ × κ) (h:(∃ r,z.1=some r/\F r)\/(z.1=none/\J z.2)) (a:∀ r x,F r->G (some r,x)) (b:z.1=none/\J z.2->G z):G z:=by
 rcases h with ⟨r,e,c⟩ | h
 ·have e:z=(some r,z.2):=by rw [← e]
  rw [e];exact a _ _ c
 ·exact b h
end
theorem aar {c:Prop} [Decidable c] {α:Type} {a b:StateT SortSt Sem α} {Q : α->SortSt->Prop} {st:SortSt} (f:c->wpS M A E s a Q st) (d:¬ c->wpS M A E s b Q st):wpS M A E s (if c then a else b) Q st:=by
 by_cases h:c
 ·rw [aE7 h];exact f h
 ·rw [aE8 h];exact d h
theorem aqq (C:Cmp M A E s κ S R) {a b:Array Keyed} (T:Two S R a b) {Q:Array Keyed->SortSt->Prop} {st:SortSt} (hk:kindOf st = κ)
  (h:∀ m st',Eqv st st'->Fin2 R a b m->Q m st'):wpS M A E s (auo a b) Q st:=by
 have N:∀ i (h:i < a.size),S a[i]:=fun i h=>T.ha _ (by simp)
 have O:∀ i (h:i < b.size),S b[i]:=fun i h=>T.hb _ (by simp)
 have b0:=T.b0
 have a0:=T.a0
 refine wpS_bind (adz ?_)
 refine wpS_bind (aa0 (x:=b[0]'b0) (aA4 b0) ?_)
 have l1:Lo S R a b #[b[0]'b0] 0 1:=by
  have l0:Lo S R a b #[] 0 0:=⟨⟨by simp,List.Pairwise.nil,fun x w=>by simp at w,T.sa,T.sb⟩,aF2 _,aF2 _⟩
  exact l0.pushB C T b0 fun x w=>T.first x (by simpa using w) _ (aA4 b0)
 refine aar (fun e1=>wpS_pure (h _ _ (Eqv.refl _) (l1.doneA (.inl (aF5.mp e1))))) (fun e1=>?_)
 refine aar (fun e2=>wpS_pure (h _ _ (Eqv.refl _) (l1.lastA T (aF5.mp e2)))) (fun e2=>?_)
 replace e1:1 ≠ b.size:=fun q=>e1 (aF5.mpr q)
 replace e2:0+1 ≠ a.size:=fun q=>e2 (aF5.mpr q)
 refine wpS_bind (wpS_get ?_)
 refine wpS_bind (wpS_mono (Q:=fun (z:Option (Array Keyed) × Array Keyed × Nat × Nat × Nat) st'=>Eqv st st'/\∃ r,z.1=some r/\Fin2 R a b r) ?_ ?_)
 ·refine wpS_forRange (fun t (z:Option (Array Keyed) × Array Keyed × Nat × Nat × Nat) st'=>Eqv st st'/\z.1=none/\Lo S R a b z.2.1 z.2.2.1 z.2.2.2.1/\z.2.2.1+1 < a.size/\z.2.2.2.1 < b.size/\t+1<=z.2.1.size) ?_ ?_ ⟨Eqv.refl _,rfl,l1,by dsimp only;lia,by dsimp only;lia,by simp⟩
  ·intro t z a4 _ ht n
   have q1:=n.1
   refine un5 (J:=fun out ia ib _=>Lo S R a b out ia ib/\ia+1 < a.size/\ib < b.size/\t+1<=out.size) z n.2 fun out ia ib mg v=>?_
   dsimp only
   refine wpS_bind (wpS_mono (Q:=fun (z:Option (Array Keyed) × Array Keyed × Nat × Nat × Nat × Nat) st'=>Eqv st st'/\((∃ r,z.1=some r/\Fin2 R a b r)\/(z.1=none/\Lo S R a b z.2.1 z.2.2.1 z.2.2.2.1/\z.2.2.1+1 < a.size/\z.2.2.2.1 < b.size/\t+2<=z.2.1.size))) ?_ ?_)
   ·refine wpS_forRange (fun i (z:Option (Array Keyed) × Array Keyed × Nat × Nat × Nat × Nat) st'=>Eqv st st'/\z.1=none/\Lo S R a b z.2.1 z.2.2.1 z.2.2.2.1/\z.2.2.1+1 < a.size/\z.2.2.2.1 < b.size/\t+1+min i 1<=z.2.1.size) ?_ ?_ ⟨q1,rfl,v.1,v.2.1,v.2.2.1,v.2.2.2⟩
    ·intro i z o _ hi n
     have q:=n.1
     refine un6 (J:=fun out ia ib _ _=>Lo S R a b out ia ib/\ia+1 < a.size/\ib < b.size/\t+1+min i 1<=out.size) z n.2 fun out ia ib ac bc v=>?_
     have l:=v.1
     have K:=v.2.1
     have d:=v.2.2.1
     have hsz:=v.2.2.2
     have g:ia < a.size:=Nat.lt_of_succ_lt K
     refine wpS_bind (aa0 (x:=b[ib]) (aA4 d) ?_)
     refine wpS_bind (aa0 (x:=a[ia]) (aA4 g) ?_)
     refine wpS_bind (C.ask _ _ (O ib d) (N ia g) _ _ (q.k.trans hk) ?_)
     dsimp only
     refine aar (fun er=>?_) (fun er=>?_)
     ·refine wpS_bind (aa0 (x:=b[ib]) (aA4 d) ?_)
      have D:Lo S R a b (out.push b[ib]) ia (ib+1):=l.pushB C T d fun x w=>by
       rw [abu g] at w
       have hd:Srt R (a[ia] :: a.toList.drop (ia+1)):=by rw [← abu g];exact ac9 T.sa
       have sx:S x:=T.ha x (aC3 (i:=ia) (by rw [abu g];exact w))
       exact C.tr _ _ _ (O ib d) (N ia g) sx (C.asy _ _ (O ib d) (N ia g) er) (ae1 C hd (N ia g) x w)
      refine aar (fun F=>wpS_pure ⟨q,.inl ⟨_,rfl,D.doneA (.inl (aF5.mp F))⟩⟩) (fun F=>?_)
      have hf:ib+1 < b.size/\t+2<=(out.push b[ib]).size:=by
       have Y:ib+1 ≠ b.size:=fun q=>F (aF5.mpr q)
       rw [aH1];lia
      refine aar (fun _=>wpS_pure ⟨q,.inr ⟨rfl,D,K,hf⟩⟩) (fun _=>wpS_pure ⟨q,rfl,D,K,hf.1,aC9 (by lia) hf.2⟩)
     ·refine wpS_bind (aa0 (x:=a[ia]) (aA4 g) ?_)
      have D:Lo S R a b (out.push a[ia]) (ia+1) ib:=l.pushA g fun y I=>by
       rw [abu d] at I
       have hd:Srt R (b[ib] :: b.toList.drop (ib+1)):=by rw [← abu d];exact ac9 T.sb
       have sy:S y:=T.hb y (aC3 (i:=ib) (by rw [abu d];exact I))
       exact C.tr _ _ _ (N ia g) (O ib d) sy (eq_false_of_ne_true er) (ae1 C hd (O ib d) y I)
      refine aar (fun F=>wpS_pure ⟨q,.inl ⟨_,rfl,D.lastA T (aF5.mp F)⟩⟩) (fun F=>?_)
      have hf:ia+1+1 < a.size/\ib < b.size/\t+2<=(out.push a[ia]).size:=by
       have Y:ia+1+1 ≠ a.size:=fun q=>F (aF5.mpr q)
       rw [aH1];lia
      refine aar (fun _=>wpS_pure ⟨q,.inr ⟨rfl,D,hf⟩⟩) (fun _=>wpS_pure ⟨q,rfl,D,hf.1,d,aC9 (by lia) hf.2.2⟩)
    ·exact fun z o n=>⟨n.1,.inr ⟨n.2.1,n.2.2.1,n.2.2.2.1,n.2.2.2.2.1,aC9 (by lia) n.2.2.2.2.2⟩⟩
   ·intro z o n
    have X:=n.1
    refine unR (J:=fun y:Array Keyed × Nat × Nat × Nat × Nat=>Lo S R a b y.1 y.2.1 y.2.2.1/\y.2.1+1 < a.size/\y.2.2.1 < b.size/\t+2<=y.1.size) z n.2 (fun r x hr=>wpS_pure ⟨X,r,rfl,hr⟩) fun Z=>?_
    refine un6 (J:=fun out ia ib _ _=>Lo S R a b out ia ib/\ia+1 < a.size/\ib < b.size/\t+2<=out.size) z Z fun out ia ib ac bc v=>?_
    dsimp only
    refine wpS_bind (adz ?_)
    refine wpS_bind (wpS_mono (Q:=fun (z:Option (Array Keyed) × Array Keyed × Nat × Nat × Nat × Nat × Nat) st'=>Eqv st st'/\((∃ r,z.1=some r/\Fin2 R a b r)\/(z.1=none/\Lo S R a b z.2.1 z.2.2.1 z.2.2.2.1/\z.2.2.1+1 < a.size/\z.2.2.2.1 < b.size/\t+2<=z.2.1.size))) ?_ ?_)
    ·refine wpS_forRange (fun i (z:Option (Array Keyed) × Array Keyed × Nat × Nat × Nat × Nat × Nat) st'=>Eqv st st'/\z.1=none/\Lo S R a b z.2.1 z.2.2.1 z.2.2.2.1/\z.2.2.1+1 < a.size/\z.2.2.2.1 < b.size/\t+2<=z.2.1.size) ?_ (fun z o n=>⟨n.1,.inr n.2⟩) ⟨X,rfl,v⟩
     intro i z o _ hi n
     have q:=n.1
     refine un7 (J:=fun out ia ib _ _ _=>Lo S R a b out ia ib/\ia+1 < a.size/\ib < b.size/\t+2<=out.size) z n.2 fun out ia ib mg ac bc v=>?_
     have l:=v.1
     have K:=v.2.1
     have d:=v.2.2.1
     have hsz:=v.2.2.2
     dsimp only
     refine' jpn (M:=M) (A:=A) (E:=E) (s:=s) (st:=o) (β:=Nat) (P:=fun _=>True) (prog:=?prog) (fun U=>?use) (fun a5 _=>?pf)
     case use =>
      refine aar (fun hm=>?_) (fun hm=>?_)
      ·generalize mg - 1=m
       exact U m trivial
      ·exact U mg trivial
     refine wpS_bind (wpS_mono (Q:=fun _ L=>Eqv o L) (wpS_modify ⟨rfl,rfl,rfl,rfl⟩) fun _ L G=>?_)
     replace G:=q.trans G
     refine wpS_bind (aa0 (x:=b[ib]) (aA4 d) ?_)
     refine wpS_bind (ag4 C (O ib d) T.ha (by lia) (by rw [aE5 (by simp)];exact ac9 T.sa) (by lia) (G.k.trans hk) fun k b1 h1 h2=>?_)
     rw [aE5 (by simp),List.drop_drop] at h2
     dsimp only
     refine' jpn2 (M:=M) (A:=A) (E:=E) (s:=s) (st:=L) (P:=fun j c=>Lo S R a b j c ib/\c+1 < a.size/\(∀ x∈a.toList.drop c,R x b[ib]=false)/\t+2<=j.size) (prog:=?prog2) (fun U=>?use2) (fun j c h5=>?pf2)
     case use2 =>
      have u:∀ x∈a.toList.drop (ia+k),R x b[ib]=false:=fun x w=>C.asy _ _ (O ib d) (T.ha x (aC3 w)) (h2 x w)
      refine aar (fun k0=>?_) (fun k0=>?_)
      ·have D:Lo S R a b (out ++ a.extract ia (ia+k)) (ia+k) ib:=l.runA (by lia) fun x w y I=>by
        rw [abu d] at I
        have hd:Srt R (b[ib] :: b.toList.drop (ib+1)):=by rw [← abu d];exact ac9 T.sb
        have sy:S y:=T.hb y (aC3 (i:=ib) (by rw [abu d];exact I))
        exact C.tr _ _ _ (T.ha x (aC3 (aB9 w))) (O ib d) sy (h1 x w) (ae1 C hd (O ib d) y I)
       refine aar (fun F=>wpS_pure ⟨G,.inl ⟨_,rfl,D.lastA T (aF5.mp F)⟩⟩) (fun F=>?_)
       refine aar (fun e4=>wpS_pure ⟨G,.inl ⟨_,rfl,D.doneA (.inr (aF5.mp e4))⟩⟩) (fun e4=>?_)
       have W:Lo S R a b (out ++ a.extract ia (ia+k)) (ia+k) ib/\ia+k+1 < a.size/\(∀ x∈a.toList.drop (ia+k),R x b[ib]=false)/\t+2<=(out ++ a.extract ia (ia+k)).size:=by
        have Y:ia+k+1 ≠ a.size:=fun q=>F (aF5.mpr q)
        have a8:ia+k ≠ a.size:=fun q=>e4 (aF5.mpr q)
        exact ⟨D,by lia,u,by rw [Array.size_append];lia⟩
       revert W
       clear F e4 D u
       generalize out ++ a.extract ia (ia+k)=j
       generalize ia+k=c
       intro W
       exact U j c W
      ·have:k=0:=by lia
       rw [this] at u
       exact U out ia ⟨l,K,u,hsz⟩
     have l3:=h5.1
     have a1:=h5.2.1
     have a2:=h5.2.2.1
     have a3:=h5.2.2.2
     have f:c < a.size:=Nat.lt_of_succ_lt a1
     refine wpS_bind (aa0 (x:=b[ib]) (aA4 d) ?_)
     have l4:=l3.pushB C T d a2
     refine aar (fun e5=>wpS_pure ⟨G,.inl ⟨_,rfl,l4.doneA (.inl (aF5.mp e5))⟩⟩) (fun e5=>?_)
     replace e5:ib+1 ≠ b.size:=fun q=>e5 (aF5.mpr q)
     refine wpS_bind (aa0 (x:=a[c]) (aA4 f) ?_)
     refine wpS_bind (aif C (N c f) T.hb (by lia) (by rw [aE5 (by simp)];exact ac9 T.sb) (by lia) (G.k.trans hk) fun H a7 h3 h4=>?_)
     rw [aE5 (by simp),List.drop_drop] at h4
     dsimp only
     refine' jpn2 (M:=M) (A:=A) (E:=E) (s:=s) (st:=L) (P:=fun p B=>Lo S R a b p c B/\B < b.size/\(∀ y∈b.toList.drop B,R y a[c]=false)/\t+2<=p.size) (prog:=?prog3) (fun U=>?use3) (fun p B h6=>?pf3)
     case use3 =>
      refine aar (fun k0=>?_) (fun k0=>?_)
      ·have hd:Srt R (a[c] :: a.toList.drop (c+1)):=by rw [← abu f];exact ac9 T.sa
       have l5:Lo S R a b (j.push b[ib] ++ b.extract (ib+1) (ib+1+H)) c (ib+1+H):=l4.runB (by lia) fun x w y I=>by
        rw [abu f] at I
        have sy:S y:=T.ha y (aC3 (i:=c) (by rw [abu f];exact I))
        have sx:S x:=T.hb x (aC3 (aB9 w))
        exact C.tr _ _ _ sx (N c f) sy (C.asy _ _ sx (N c f) (h3 x w)) (ae1 C hd (N c f) y I)
       refine aar (fun e6=>wpS_pure ⟨G,.inl ⟨_,rfl,l5.doneA (.inl (aF5.mp e6))⟩⟩) (fun e6=>?_)
       have W:Lo S R a b (j.push b[ib] ++ b.extract (ib+1) (ib+1+H)) c (ib+1+H)/\ib+1+H < b.size/\(∀ y∈b.toList.drop (ib+1+H),R y a[c]=false)/\t+2<=(j.push b[ib] ++ b.extract (ib+1) (ib+1+H)).size:=by
        have a6:ib+1+H ≠ b.size:=fun q=>e6 (aF5.mpr q)
        exact ⟨l5,by lia,h4,by rw [Array.size_append,aH1];lia⟩
       revert W
       clear e6 l5 hd
       generalize j.push b[ib] ++ b.extract (ib+1) (ib+1+H)=p
       generalize ib+1+H=B
       intro W
       exact U p B W
      ·have:H=0:=by lia
       rw [this] at h4
       exact U (j.push b[ib]) (ib+1) ⟨l4,by lia,h4,by rw [aH1];lia⟩
     refine wpS_bind (aa0 (x:=a[c]) (aA4 f) ?_)
     have l7:=h6.1.pushA f h6.2.2.1
     refine aar (fun e7=>wpS_pure ⟨G,.inl ⟨_,rfl,l7.lastA T (aF5.mp e7)⟩⟩) (fun e7=>?_)
     have hf:c+1+1 < a.size/\B < b.size/\t+2<=(p.push a[c]).size:=by
      have a9:c+1+1 ≠ a.size:=fun q=>e7 (aF5.mpr q)
      have h7:=h6.2.2.2
      exact ⟨by lia,h6.2.1,by rw [aH1];lia⟩
     exact aar (fun _=>wpS_pure ⟨G,.inr ⟨rfl,l7,hf⟩⟩) (fun _=>wpS_pure ⟨G,rfl,l7,hf⟩)
    ·intro z o n
     have X:=n.1
     refine unR (J:=fun y:Array Keyed × Nat × Nat × Nat × Nat × Nat=>Lo S R a b y.1 y.2.1 y.2.2.1/\y.2.1+1 < a.size/\y.2.2.1 < b.size/\t+2<=y.1.size) z n.2 (fun r x hr=>wpS_pure ⟨X,r,rfl,hr⟩) fun Z=>?_
     refine un7 (J:=fun out ia ib _ _ _=>Lo S R a b out ia ib/\ia+1 < a.size/\ib < b.size/\t+2<=out.size) z Z fun out ia ib mg ac bc v=>?_
     dsimp only
     refine wpS_bind (wpS_modify ?_)
     exact wpS_pure ⟨X.trans ⟨rfl,rfl,rfl,rfl⟩,rfl,v⟩
  ·intro z o n
   exfalso
   have h1:=n.2.2.1.len
   have h2:=n.2.2.2
   have:a.size+b.size<=max 0 (a.size+b.size):=by lia
   lia
 ·intro z o n
  have X:=n.1
  exact unR (J:=fun _=>False) z (.inl n.2) (fun r x hr=>wpS_pure (h r o X hr)) fun Z=>Z.2.elim
end
structure MidH (R:Keyed->Keyed->Bool) (L a b tl:List Keyed):Prop where
 perm:(a ++ b ++ tl).Perm L
 so:Srt R tl
 le:∀ x∈a ++ b,∀ y∈tl,R y x=false
 sa:Srt R a
 sb:Srt R b
section
variable {R:Keyed->Keyed->Bool} {L tl a b p:List Keyed}
theorem MidH.takeA (m:MidH R L (a ++ p) b tl) (h:∀ x∈b,∀ y∈p,R y x=false):MidH R L a b (p ++ tl):=by
 have sp:=aC8.mp m.sa
 refine ⟨List.Perm.trans ?_ m.perm,aC8.mpr ⟨sp.2.1,m.so,fun x c y d=>m.le x (aC6 _ (aB2 _ c)) y d⟩,fun x c y d=>?_,sp.1,m.sb⟩
 ·rw [← aB3,aB3 a p b,aB3 a b p]
  exact List.Perm.append_right tl (List.Perm.append_left a List.perm_append_comm)
 ·rcases aA7.mp d with d | d
  ·rcases aA7.mp c with c | c
   ·exact sp.2.2 x c y d
   ·exact h x c y d
  ·refine m.le x ?_ y d
   rcases aA7.mp c with c | c
   ·exact aC6 _ (aC6 _ c)
   ·exact aB2 _ c
theorem MidH.takeB (m:MidH R L a (b ++ p) tl) (h:∀ x∈a,∀ y∈p,R y x=false):MidH R L a b (p ++ tl):=by
 have sp:=aC8.mp m.sb
 refine ⟨by have:=m.perm;simp only [aB3] at this ⊢;exact this,aC8.mpr ⟨sp.2.1,m.so,fun x c y d=>m.le x (aB2 _ (aB2 _ c)) y d⟩,fun x c y d=>?_,m.sa,sp.1⟩
 rcases aA7.mp d with d | d
 ·rcases aA7.mp c with c | c
  ·exact h x c y d
  ·exact sp.2.2 x c y d
 ·refine m.le x ?_ y d
  rcases aA7.mp c with c | c
  ·exact aC6 _ c
  ·exact aB2 _ (aC6 _ c)
theorem MidH.done (m:MidH R L a b tl) (h:a=[]\/b=[]):(a ++ b ++ tl).Perm L/\Srt R (a ++ b ++ tl):=by
 refine ⟨m.perm,aC8.mpr ⟨?_,m.so,m.le⟩⟩
 rcases h with h | h
 ·subst h;exact m.sb
 ·subst h;rw [aE4];exact m.sa
theorem MidH.first (m:MidH R L a b tl) (h:∀ y∈b,∀ x∈a,R x y=false):(b ++ a ++ tl).Perm L/\Srt R (b ++ a ++ tl):=by
 refine ⟨List.Perm.trans (List.Perm.append_right tl List.perm_append_comm) m.perm,aC8.mpr ⟨aC8.mpr ⟨m.sb,m.sa,h⟩,m.so,fun x c y d=>m.le x ?_ y d⟩⟩
 rcases aA7.mp c with c | c
 ·exact aB2 _ c
 ·exact aC6 _ c
end
theorem acq {a:Array Keyed} {i:Nat} (c:0 < i) (h:i<=a.size):a.toList.take i=a.toList.take (i - 1) ++ [a[i - 1]'(by lia)]:=by
 obtain ⟨j,rfl⟩:∃ j,i=j+1:=⟨i - 1,by lia⟩
 rw [List.take_succ]
 have b:j < a.size:=by lia
 simp [b]
theorem al7 (a:Array Keyed) (k:Nat):(a.extract 0 k).toList=a.toList.take k:=by
 rw [Array.toList_extract];simp [List.extract]
theorem amv (a:Array Keyed) (k n:Nat):(a.extract k n).toList=(a.toList.take n).drop k:=by
 rw [Array.toList_extract];simp [List.extract,List.drop_take]
section
variable {M:Model} {A:Around} {E:Value->Shared->Prop} {s:Shared} {κ:SortKind} {S:Keyed->Prop} {R:Keyed->Keyed->Bool}
structure Hi (S:Keyed->Prop) (R:Keyed->Keyed->Bool) (a b out:Array Keyed) (na nb:Nat):Prop where
 mid:MidH R (a.toList ++ b.toList) (a.toList.take na) (b.toList.take nb) out.toList.reverse
 na:na<=a.size
 nb:nb<=b.size
theorem Hi.len {a b out:Array Keyed} {na nb:Nat} (l:Hi S R a b out na nb):out.size+na+nb=a.size+b.size:=by
 have:=l.mid.perm.length_eq
 have d:=l.na
 have c:=l.nb
 simp at this
 lia
theorem Hi.doneA {a b out:Array Keyed} {na nb:Nat} (l:Hi S R a b out na nb) (h:na=0\/nb=0):Fin2 R a b (a.extract 0 na ++ b.extract 0 nb ++ out.reverse):=by
 have:=l.mid.done (by
  rcases h with h | h
  ·left;rw [h];simp
  ·right;rw [h];simp)
 unfold Fin2
 rw [aF8,aF8,al7,al7,Array.toList_reverse]
 exact this
theorem Hi.firstB {a b out:Array Keyed} {na nb:Nat} (T:Two S R a b) (l:Hi S R a b out na nb) (h:nb=1):Fin2 R a b (b.extract 0 nb ++ a.extract 0 na ++ out.reverse):=by
 subst h
 have:=l.mid.first (by
  intro y c x d
  rw [acq (by decide) l.nb] at c
  have f:y=b[0]'T.b0:=by simpa using c
  exact T.first x (aB9 d) y (by rw [f];exact aA4 _))
 unfold Fin2
 rw [aF8,aF8,al7,al7,Array.toList_reverse]
 exact this
theorem ach {l:List Keyed} {i:Nat} (h:Srt R l):Srt R (l.take i):=List.Pairwise.sublist (List.take_sublist i l) h
theorem ad9 {x:Keyed} {l:List Keyed} (C:Cmp M A E s κ S R) (h:Srt R (l ++ [x])) (b:S x):∀ y∈l ++ [x],R x y=false:=by
 intro y a
 rcases aA7.mp a with a | a
 ·exact (aC8.mp h).2.2 y a x (by simp)
 ·have:y=x:=by simpa using a
  rw [this];exact C.irr b
theorem Hi.pushA {a b out:Array Keyed} {na nb:Nat} (l:Hi S R a b out na nb) (f:0 < na) (h:∀ x∈b.toList.take nb,R (a[na - 1]'(by have:=l.na;lia)) x=false):Hi S R a b (out.push (a[na - 1]'(by have:=l.na;lia))) (na - 1) nb:=by
 refine ⟨?_,by have:=l.na;lia,l.nb⟩
 have m:=l.mid
 rw [acq f l.na] at m
 rw [Array.toList_push,List.reverse_append]
 exact m.takeA (p:=[_]) (fun x d y c=>by
  rw [aC1.mp c];exact h x d)
theorem Hi.pushB {a b out:Array Keyed} {na nb:Nat} (l:Hi S R a b out na nb) (f:0 < nb) (h:∀ x∈a.toList.take na,R (b[nb - 1]'(by have:=l.nb;lia)) x=false):Hi S R a b (out.push (b[nb - 1]'(by have:=l.nb;lia))) na (nb - 1):=by
 refine ⟨?_,l.na,by have:=l.nb;lia⟩
 have m:=l.mid
 rw [acq f l.nb] at m
 rw [Array.toList_push,List.reverse_append]
 exact m.takeB (p:=[_]) (fun x d y c=>by
  rw [aC1.mp c];exact h x d)
theorem Hi.runA {a b out:Array Keyed} {na nb k:Nat} (l:Hi S R a b out na nb) (d:k<=na) (h:∀ x∈b.toList.take nb,∀ y∈(a.toList.take na).drop k,R y x=false):Hi S R a b (out ++ (a.extract k na).reverse) k nb:=by
 refine ⟨?_,by have:=l.na;lia,l.nb⟩
 have m:=l.mid
 rw [← aC0 k (a.toList.take na)] at m
 rw [aF8,Array.toList_reverse,amv,List.reverse_append,List.reverse_reverse]
 have c:=m.takeA h
 rw [List.take_take,Nat.min_eq_left d] at c
 exact c
theorem Hi.runB {a b out:Array Keyed} {na nb k:Nat} (l:Hi S R a b out na nb) (d:k<=nb) (h:∀ x∈a.toList.take na,∀ y∈(b.toList.take nb).drop k,R y x=false):Hi S R a b (out ++ (b.extract k nb).reverse) na k:=by
 refine ⟨?_,l.na,by have:=l.nb;lia⟩
 have m:=l.mid
 rw [← aC0 k (b.toList.take nb)] at m
 rw [aF8,Array.toList_reverse,amv,List.reverse_append,List.reverse_reverse]
 have c:=m.takeB h
 rw [List.take_take,Nat.min_eq_left d] at c
 exact c
theorem aqr (C:Cmp M A E s κ S R) {a b:Array Keyed} (T:Two S R a b) {Q:Array Keyed->SortSt->Prop} {st:SortSt} (hk:kindOf st = κ)
  (h:∀ m st',Eqv st st'->Fin2 R a b m->Q m st'):wpS M A E s (aup a b) Q st:=by
 have K:∀ i (h:i < a.size),S a[i]:=fun i h=>T.ha _ (by simp)
 have N:∀ i (h:i < b.size),S b[i]:=fun i h=>T.hb _ (by simp)
 have b0:=T.b0
 have a0:=T.a0
 have la:a.size - 1 < a.size:=by lia
 refine wpS_bind (adz ?_)
 refine wpS_bind (aa0 (x:=a[a.size - 1]'la) (aA4 la) ?_)
 have l1:Hi S R a b #[a[a.size - 1]'la] (a.size - 1) b.size:=by
  have l0:Hi S R a b #[] a.size b.size:=⟨⟨by simp [aE5],List.Pairwise.nil,fun x j y hy=>by simp at hy,ach T.sa,ach T.sb⟩,aA6 _,aA6 _⟩
  exact l0.pushA a0 fun x j=>T.last x (aB9 j) _ (aA4 la)
 refine aar (fun e1=>wpS_pure (h _ _ (Eqv.refl _) (l1.doneA (.inl (aF5.mp e1))))) (fun e1=>?_)
 refine aar (fun e2=>wpS_pure (h _ _ (Eqv.refl _) (l1.firstB T (aF5.mp e2)))) (fun e2=>?_)
 replace e1:a.size - 1 ≠ 0:=fun q=>e1 (aF5.mpr q)
 replace e2:b.size ≠ 1:=fun q=>e2 (aF5.mpr q)
 refine wpS_bind (wpS_get ?_)
 have a6:∀ {na nb:Nat} (D:0 < na) (L:na<=a.size) (U:0 < nb) (Y:nb<=b.size),R (b[nb - 1]'(by lia)) (a[na - 1]'(by lia))=true->∀ x∈b.toList.take nb,R (a[na - 1]'(by lia)) x=false:=fun {na nb} D L U Y er x j=>by
  have sx:S x:=T.hb x (aB9 j)
  have hs:Srt R (b.toList.take (nb - 1) ++ [b[nb - 1]'(by lia)]):=by rw [← acq U Y];exact ach T.sb
  rw [acq U Y] at j
  exact C.tr _ _ _ sx (N _ _) (K _ _) (ad9 C hs (N _ _) x j) (C.asy _ _ (N _ _) (K _ _) er)
 have a4:∀ {na nb:Nat} (D:0 < na) (L:na<=a.size) (U:0 < nb) (Y:nb<=b.size),R (b[nb - 1]'(by lia)) (a[na - 1]'(by lia))=false->∀ x∈a.toList.take na,R (b[nb - 1]'(by lia)) x=false:=fun {na nb} D L U Y er x j=>by
  have sx:S x:=T.ha x (aB9 j)
  have hs:Srt R (a.toList.take (na - 1) ++ [a[na - 1]'(by lia)]):=by rw [← acq D L];exact ach T.sa
  rw [acq D L] at j
  exact C.tr _ _ _ sx (K _ _) (N _ _) (ad9 C hs (K _ _) x j) er
 refine wpS_bind (wpS_mono (Q:=fun (z:Option (Array Keyed) × Nat × Nat × Array Keyed × Nat) st'=>Eqv st st'/\∃ r,z.1=some r/\Fin2 R a b r) ?_ ?_)
 ·refine wpS_forRange (fun t (z:Option (Array Keyed) × Nat × Nat × Array Keyed × Nat) st'=>Eqv st st'/\z.1=none/\Hi S R a b z.2.2.2.1 z.2.1 z.2.2.1/\0 < z.2.1/\1 < z.2.2.1/\t+1<=z.2.2.2.1.size) ?_ ?_ ⟨Eqv.refl _,rfl,l1,by dsimp only;lia,by dsimp only;lia,by simp⟩
  ·intro t z b5 _ ht f
   have q1:=f.1
   refine un5 (J:=fun na nb out _=>Hi S R a b out na nb/\0 < na/\1 < nb/\t+1<=out.size) z f.2 fun na nb out mg o=>?_
   dsimp only
   refine wpS_bind (wpS_mono (Q:=fun (z:Option (Array Keyed) × Nat × Nat × Array Keyed × Nat × Nat) st'=>Eqv st st'/\((∃ r,z.1=some r/\Fin2 R a b r)\/(z.1=none/\Hi S R a b z.2.2.2.1 z.2.1 z.2.2.1/\0 < z.2.1/\1 < z.2.2.1/\t+2<=z.2.2.2.1.size))) ?_ ?_)
   ·refine wpS_forRange (fun i (z:Option (Array Keyed) × Nat × Nat × Array Keyed × Nat × Nat) st'=>Eqv st st'/\z.1=none/\Hi S R a b z.2.2.2.1 z.2.1 z.2.2.1/\0 < z.2.1/\1 < z.2.2.1/\t+1+min i 1<=z.2.2.2.1.size) ?_ ?_ ⟨q1,rfl,o.1,o.2.1,o.2.2.1,o.2.2.2⟩
    ·intro i z g _ hi f
     have q:=f.1
     refine un6 (J:=fun na nb out _ _=>Hi S R a b out na nb/\0 < na/\1 < nb/\t+1+min i 1<=out.size) z f.2 fun na nb out ac bc o=>?_
     have l:=o.1
     have u:=o.2.1
     have a3:=o.2.2.1
     have hsz:=o.2.2.2
     have ia:na - 1 < a.size:=by have:=l.na;lia
     have ib:nb - 1 < b.size:=by have:=l.nb;lia
     refine wpS_bind (aa0 (x:=b[nb - 1]) (aA4 ib) ?_)
     refine wpS_bind (aa0 (x:=a[na - 1]) (aA4 ia) ?_)
     refine wpS_bind (C.ask _ _ (N _ ib) (K _ ia) _ _ (q.k.trans hk) ?_)
     dsimp only
     refine aar (fun er=>?_) (fun er=>?_)
     ·refine wpS_bind (aa0 (x:=a[na - 1]) (aA4 ia) ?_)
      have H:=l.pushA u (a6 u l.na (by lia) l.nb er)
      refine aar (fun w=>wpS_pure ⟨q,.inl ⟨_,rfl,H.doneA (.inl (aF5.mp w))⟩⟩) (fun w=>?_)
      have hf:0 < na - 1/\1 < nb/\t+2<=(out.push a[na - 1]).size:=by
       have a2:na - 1 ≠ 0:=fun q=>w (aF5.mpr q)
       rw [aH1];lia
      exact aar (fun _=>wpS_pure ⟨q,.inr ⟨rfl,H,hf⟩⟩) (fun _=>wpS_pure ⟨q,rfl,H,hf.1,a3,aC9 (by lia) hf.2.2⟩)
     ·refine wpS_bind (aa0 (x:=b[nb - 1]) (aA4 ib) ?_)
      have H:=l.pushB (by lia) (a4 u l.na (by lia) l.nb (eq_false_of_ne_true er))
      refine aar (fun w=>wpS_pure ⟨q,.inl ⟨_,rfl,H.firstB T (aF5.mp w)⟩⟩) (fun w=>?_)
      have hf:1 < nb - 1/\t+2<=(out.push b[nb - 1]).size:=by
       have a2:nb - 1 ≠ 1:=fun q=>w (aF5.mpr q)
       rw [aH1];lia
      exact aar (fun _=>wpS_pure ⟨q,.inr ⟨rfl,H,u,hf⟩⟩) (fun _=>wpS_pure ⟨q,rfl,H,u,hf.1,aC9 (by lia) hf.2⟩)
    ·exact fun z g f=>⟨f.1,.inr ⟨f.2.1,f.2.2.1,f.2.2.2.1,f.2.2.2.2.1,aC9 (by lia) f.2.2.2.2.2⟩⟩
   ·intro z g f
    have q2:=f.1
    refine unR (J:=fun y:Nat × Nat × Array Keyed × Nat × Nat=>Hi S R a b y.2.2.1 y.1 y.2.1/\0 < y.1/\1 < y.2.1/\t+2<=y.2.2.1.size) z f.2 (fun r x hr=>wpS_pure ⟨q2,r,rfl,hr⟩) fun hN=>?_
    refine un6 (J:=fun na nb out _ _=>Hi S R a b out na nb/\0 < na/\1 < nb/\t+2<=out.size) z hN fun na nb out ac bc o=>?_
    dsimp only
    refine wpS_bind (adz ?_)
    refine wpS_bind (wpS_mono (Q:=fun (z:Option (Array Keyed) × Nat × Nat × Array Keyed × Nat × Nat × Nat) st'=>Eqv st st'/\((∃ r,z.1=some r/\Fin2 R a b r)\/(z.1=none/\Hi S R a b z.2.2.2.1 z.2.1 z.2.2.1/\0 < z.2.1/\1 < z.2.2.1/\t+2<=z.2.2.2.1.size))) ?_ ?_)
    ·refine wpS_forRange (fun i (z:Option (Array Keyed) × Nat × Nat × Array Keyed × Nat × Nat × Nat) st'=>Eqv st st'/\z.1=none/\Hi S R a b z.2.2.2.1 z.2.1 z.2.2.1/\0 < z.2.1/\1 < z.2.2.1/\t+2<=z.2.2.2.1.size) ?_ (fun z g f=>⟨f.1,.inr f.2⟩) ⟨q2,rfl,o⟩
     intro i z g _ hi f
     have q:=f.1
     refine un7 (J:=fun na nb out _ _ _=>Hi S R a b out na nb/\0 < na/\1 < nb/\t+2<=out.size) z f.2 fun na nb out mg ac bc o=>?_
     have l:=o.1
     have u:=o.2.1
     have a3:=o.2.2.1
     have hsz:=o.2.2.2
     have b3:=l.na
     have W:=l.nb
     have ib:nb - 1 < b.size:=by lia
     dsimp only
     refine' jpn (M:=M) (A:=A) (E:=E) (s:=s) (st:=g) (β:=Nat) (P:=fun _=>True) (prog:=?prog) (fun X=>?use) (fun b6 _=>?pf)
     case use =>
      refine aar (fun hm=>?_) (fun hm=>?_)
      ·generalize mg - 1=m
       exact X m trivial
      ·exact X mg trivial
     refine wpS_bind (wpS_mono (Q:=fun _ I=>Eqv g I) (wpS_modify ⟨rfl,rfl,rfl,rfl⟩) fun _ I B=>?_)
     replace B:=q.trans B
     refine wpS_bind (aa0 (x:=b[nb - 1]) (aA4 ib) ?_)
     refine wpS_bind (ag4 C (N _ ib) T.ha (by lia) (by rw [List.drop_zero];exact ach T.sa) (by lia) (B.k.trans hk) fun k b1 D L=>?_)
     rw [List.drop_zero] at D L
     dsimp only
     generalize hac:na - k=ac2
     refine' jpn2 (M:=M) (A:=A) (E:=E) (s:=s) (st:=I) (P:=fun d c=>Hi S R a b d c nb/\0 < c/\(∀ x∈a.toList.take c,R b[nb - 1] x=false)/\t+2<=d.size) (prog:=?prog2) (fun X=>?use2) (fun d c h5=>?pf2)
     case use2 =>
      refine aar (fun k0=>?_) (fun k0=>?_)
      ·have a7:Srt R (b.toList.take (nb - 1) ++ [b[nb - 1]]):=by rw [← acq (by lia) W];exact ach T.sb
       have H:Hi S R a b (out ++ (a.extract k na).reverse) k nb:=l.runA b1 fun x j y hy=>by
        have sx:S x:=T.hb x (aB9 j)
        have sy:S y:=T.ha y (aB9 (aC3 hy))
        rw [acq (by lia) W] at j
        exact C.tr _ _ _ sx (N _ ib) sy (ad9 C a7 (N _ ib) x j) (C.asy _ _ (N _ ib) sy (L y hy))
       refine aar (fun w=>wpS_pure ⟨B,.inl ⟨_,rfl,H.doneA (.inl (aF5.mp w))⟩⟩) (fun w=>?_)
       have Z:Hi S R a b (out ++ (a.extract k na).reverse) k nb/\0 < k/\(∀ x∈a.toList.take k,R b[nb - 1] x=false)/\t+2<=(out ++ (a.extract k na).reverse).size:=by
        have a2:k ≠ 0:=fun q=>w (aF5.mpr q)
        exact ⟨H,by lia,D,by rw [Array.size_append];lia⟩
       revert Z
       clear w H
       generalize out ++ (a.extract k na).reverse=d
       generalize k=c
       intro Z
       exact X d c Z
      ·have:k=na:=by lia
       rw [this] at D
       exact X out na ⟨l,u,D,hsz⟩
     have l3:=h5.1
     have G:=h5.2.1
     have a5:=h5.2.2.1
     have b4:=h5.2.2.2
     have F:=l3.na
     have ia:c - 1 < a.size:=by lia
     refine wpS_bind (aa0 (x:=b[nb - 1]) (aA4 ib) ?_)
     have l4:=l3.pushB (by lia) a5
     refine aar (fun e5=>wpS_pure ⟨B,.inl ⟨_,rfl,l4.firstB T (aF5.mp e5)⟩⟩) (fun e5=>?_)
     replace e5:nb - 1 ≠ 1:=fun q=>e5 (aF5.mpr q)
     refine wpS_bind (aa0 (x:=a[c - 1]) (aA4 ia) ?_)
     refine wpS_bind (aif C (K _ ia) T.hb (by lia) (by rw [List.drop_zero];exact ach T.sb) (by lia) (B.k.trans hk) fun v a8 U Y=>?_)
     rw [List.drop_zero] at U Y
     dsimp only
     generalize hbc:nb - 1 - v=bc2
     refine' jpn2 (M:=M) (A:=A) (E:=E) (s:=s) (st:=I) (P:=fun n p=>Hi S R a b n c p/\1 < p/\(∀ x∈b.toList.take p,R a[c - 1] x=false)/\t+2<=n.size) (prog:=?prog3) (fun X=>?use3) (fun n p h6=>?pf3)
     case use3 =>
      have a1:∀ x∈b.toList.take v,R a[c - 1] x=false:=fun x j=>C.asy _ _ (T.hb x (aB9 j)) (K _ ia) (U x j)
      refine aar (fun k0=>?_) (fun k0=>?_)
      ·have b2:Srt R (a.toList.take (c - 1) ++ [a[c - 1]]):=by rw [← acq G F];exact ach T.sa
       have l5:Hi S R a b (d.push b[nb - 1] ++ (b.extract v (nb - 1)).reverse) c v:=l4.runB a8 fun x j y hy=>by
        have sx:S x:=T.ha x (aB9 j)
        have sy:S y:=T.hb y (aB9 (aC3 hy))
        rw [acq G F] at j
        exact C.tr _ _ _ sx (K _ ia) sy (ad9 C b2 (K _ ia) x j) (Y y hy)
       refine aar (fun e6=>wpS_pure ⟨B,.inl ⟨_,rfl,l5.firstB T (aF5.mp e6)⟩⟩) (fun e6=>?_)
       refine aar (fun O=>wpS_pure ⟨B,.inl ⟨_,rfl,l5.doneA (.inr (aF5.mp O))⟩⟩) (fun O=>?_)
       have Z:Hi S R a b (d.push b[nb - 1] ++ (b.extract v (nb - 1)).reverse) c v/\1 < v/\(∀ x∈b.toList.take v,R a[c - 1] x=false)/\t+2<=(d.push b[nb - 1] ++ (b.extract v (nb - 1)).reverse).size:=by
        have b7:v ≠ 1:=fun q=>e6 (aF5.mpr q)
        have a9:v ≠ 0:=fun q=>O (aF5.mpr q)
        exact ⟨l5,by lia,a1,by rw [Array.size_append,aH1];lia⟩
       revert Z
       clear e6 O l5
       generalize d.push b[nb - 1] ++ (b.extract v (nb - 1)).reverse=n
       generalize v=p
       intro Z
       exact X n p Z
      ·have:v=nb - 1:=by lia
       rw [this] at a1
       exact X (d.push b[nb - 1]) (nb - 1) ⟨l4,by lia,a1,by rw [aH1];lia⟩
     refine wpS_bind (aa0 (x:=a[c - 1]) (aA4 ia) ?_)
     have l7:=h6.1.pushA G h6.2.2.1
     refine aar (fun O=>wpS_pure ⟨B,.inl ⟨_,rfl,l7.doneA (.inl (aF5.mp O))⟩⟩) (fun O=>?_)
     have hf:0 < c - 1/\1 < p/\t+2<=(n.push a[c - 1]).size:=by
      have a9:c - 1 ≠ 0:=fun q=>O (aF5.mpr q)
      have h7:=h6.2.2.2
      exact ⟨by lia,h6.2.1,by rw [aH1];lia⟩
     exact aar (fun _=>wpS_pure ⟨B,.inr ⟨rfl,l7,hf⟩⟩) (fun _=>wpS_pure ⟨B,rfl,l7,hf⟩)
    ·intro z g f
     have q2:=f.1
     refine unR (J:=fun y:Nat × Nat × Array Keyed × Nat × Nat × Nat=>Hi S R a b y.2.2.1 y.1 y.2.1/\0 < y.1/\1 < y.2.1/\t+2<=y.2.2.1.size) z f.2 (fun r x hr=>wpS_pure ⟨q2,r,rfl,hr⟩) fun hN=>?_
     refine un7 (J:=fun na nb out _ _ _=>Hi S R a b out na nb/\0 < na/\1 < nb/\t+2<=out.size) z hN fun na nb out mg ac bc o=>?_
     dsimp only
     refine wpS_bind (wpS_modify ?_)
     exact wpS_pure ⟨q2.trans ⟨rfl,rfl,rfl,rfl⟩,rfl,o⟩
  ·intro z g f
   exfalso
   have D:=f.2.2.1.len
   have L:=f.2.2.2
   have:a.size+b.size<=max 0 (a.size+b.size):=by lia
   lia
 ·intro z g f
  have q2:=f.1
  exact unR (J:=fun _=>False) z (.inl f.2) (fun r x hr=>wpS_pure (h r g q2 hr)) fun hN=>hN.2.elim
end
theorem ak5 (base:Nat):∀ (b v u w:List Keyed) (j:Nat) (xs:Array Keyed),xs.toList=u ++ v ++ w->v.length=b.length->u.length=base+j ->
  ((b.zipIdx j).foldl (fun a x=>match x with | (p,j)=>a.setIfInBounds (base+j) p) xs).toList=u ++ b ++ w
 | [],v,u,w,j,xs,h1,h2,h3=>by
  have:v=[]:=aG4 h2
  subst this
  exact h1
 | m :: b,v,u,w,j,xs,h1,h2,h3=>by
  cases v with
  | nil=>cases h2
  | cons y v =>
   rw [List.zipIdx_cons,List.foldl_cons]
   have c:=ak5 base b v (u ++ [m]) w (j+1) (xs.setIfInBounds (base+j) m) (by
    rw [Array.toList_setIfInBounds,h1,← h3]
    simp [List.set_append]) (by simpa using h2) (by simp [h3];lia)
   rw [c]
   simp
section
variable {M:Model} {A:Around} {E:Value->Shared->Prop} {s:Shared} {κ:SortKind} {S:Keyed->Prop} {R:Keyed->Keyed->Bool}
theorem axj {σ:Type} {st st' : σ} {Q:PUnit->σ->Prop} (h:Q ⟨⟩ st'):wpS M A E s (set st':StateT σ Sem PUnit) Q st:=by
 unfold wpS
 rw [StateT.run_set]
 exact aI1 ⟨rfl,h⟩
theorem aqs (C:Cmp M A E s κ S R) {st:SortSt} {i pw pw2:Nat} {pre a b g:List Keyed} (F:(arrOf st).toList=pre ++ a ++ b ++ g) (hS:∀ x∈(arrOf st).toList,S x)
  (a9:(pendingOf st)[i]?=some (pre.length,a.length,pw)) (a2:(pendingOf st)[i+1]?=some (pre.length+a.length,b.length,pw2)) (na:a ≠ []) (nb:b ≠ []) (U:Srt R a) (O:Srt R b) (hk:kindOf st = κ) (hf:failedOf st=none)
  {Q:Bool->SortSt->Prop}
  (h:∀ st' m,kindOf st' = κ->failedOf st'=none->pendingOf st'=((pendingOf st).setIfInBounds i (pre.length,a.length+b.length,pw)).eraseIdxIfInBounds (i+1)->(arrOf st').toList=pre ++ m ++ g->m.Perm (a ++ b)->Srt R m->Q true st') :
  wpS M A E s (amu i) Q st:=by
 have la:0 < a.length:=aF1.mpr na
 have lb:0 < b.length:=aF1.mpr nb
 have I:∀ x∈a,S x:=fun x c=>hS x (by rw [F];simp [c])
 have P:∀ x∈b,S x:=fun x c=>hS x (by rw [F];simp [c])
 have lx:(arrOf st).size=pre.length+a.length+b.length+g.length:=by
  have:=congrArg List.length F
  simp at this
  lia
 have w:((arrOf st).toList.drop pre.length).take a.length=a:=by rw [F];simp [aB3]
 have B:((arrOf st).toList.drop (pre.length+a.length)).take b.length=b:=by
  rw [show pre.length+a.length=(pre ++ a).length by simp,F,aB3 (pre ++ a),List.drop_left,List.take_left]
 refine wpS_bind (wpS_get ?_)
 rw [a9,a2]
 refine wpS_bind (wpS_mono (Q:=fun _ o=>kindOf o = κ/\failedOf o=none/\arrOf o=arrOf st/\pendingOf o=((pendingOf st).setIfInBounds i (pre.length,a.length+b.length,pw)).eraseIdxIfInBounds (i+1)) (axj ⟨hk,hf,rfl,rfl⟩) fun _ o ⟨W,f1,a1,p1⟩=>?_)
 obtain ⟨b0,bt,eb⟩:∃ b0 bt,b=b0 :: bt:=by cases b with | nil=>exact absurd rfl nb | cons x r=>exact ⟨x,r,rfl⟩
 have a8:(arrOf st)[pre.length+a.length]?=some b0:=by
  rw [← aD4,F,eb]
  simp [List.getElem?_append]
 have v:S b0:=P b0 (by rw [eb];simp)
 have D:∀ y∈b,R y b0=false:=fun y d=>by rw [eb] at d O;exact ae1 C O v y d
 -- nothing is laid together: the two stand in order already
 have plain:(∀ x∈a,∀ y∈b,R y x=false)->∀ st',Eqv o st'->Q true st':=fun hc st' q=>by
  refine h st' (a ++ b) (q.k.trans W) (q.f.trans f1) (q.p.trans p1) ?_ (List.Perm.refl _) (aC8.mpr ⟨U,O,hc⟩)
  rw [q.a,a1,F]
  simp [aB3]
 refine wpS_bind (aa0 a8 ?_)
 refine wpS_bind (ag4 C v hS (by lia) (by rw [w];exact U) la W fun k a7 h1 h2=>?_)
 rw [w] at h2
 have G:∀ x∈a.take k,R b0 x=false:=fun x c=>h1 x (by
  have:((arrOf st).toList.drop pre.length).take k=a.take k:=by rw [← w,List.take_take,Nat.min_eq_left a7]
  rw [this];exact c)
 dsimp only
 refine aar (fun e=>?_) (fun e=>?_)
 ·have e':a.length - k=0:=by simpa using e
  refine wpS_pure (plain (fun x c y d=>?_) o (Eqv.refl _))
  have:a.take k=a:=aE5 (by lia)
  rw [this] at G
  exact C.tr x b0 y (I x c) v (P y d) (G x c) (D y d)
 ·have e':a.length - k ≠ 0:=by simpa using e
  -- the last of a
  have L:pre.length+k+(a.length - k) - 1=pre.length+(a.length - 1):=by lia
  have n:a.length - 1 < a.length:=by lia
  have a5:(arrOf st)[pre.length+k+(a.length - k) - 1]?=some (a[a.length - 1]'n):=by
   rw [← aD4,F,L]
   simp [List.getElem?_append,n,aB3]
  have Sl:S (a[a.length - 1]'n):=I _ (List.getElem_mem n)
  have u:a=a.take (a.length - 1) ++ [a[a.length - 1]'n]:=by
   have:=List.take_succ (l:=a) (i:=a.length - 1)
   rw [show a.length - 1+1=a.length by lia,aG0] at this
   simpa [n] using this
  have K:∀ x∈a,R (a[a.length - 1]'n) x=false:=fun x c=>by
   have hs:Srt R (a.take (a.length - 1) ++ [a[a.length - 1]'n]):=by rw [← u];exact U
   exact ad9 C hs Sl x (by rw [← u];exact c)
  refine wpS_bind (aa0 a5 ?_)
  refine wpS_bind (aif C Sl hS (by lia) (by rw [B];exact O) (by lia) W fun j a3 h3 h4=>?_)
  rw [B] at h4
  have Z:((arrOf st).toList.drop (pre.length+a.length)).take j=b.take j:=by rw [← B,List.take_take,Nat.min_eq_left a3]
  rw [Z] at h3
  dsimp only
  refine aar (fun e2=>?_) (fun e2=>?_)
  ·have a0:j=0:=by simpa using e2
   subst a0
   refine wpS_pure (plain (fun x c y d=>?_) o (Eqv.refl _))
   exact C.tr x _ y (I x c) Sl (P y d) (K x c) (h4 y (by simpa using d))
  ·have a0:j ≠ 0:=by simpa using e2
   have ex:((arrOf st).extract (pre.length+k) (pre.length+a.length)).toList=a.drop k:=by
    rw [amv,F]
    simp [aB3,List.take_append,List.drop_append]
   have N:((arrOf st).extract (pre.length+a.length) (pre.length+a.length+j)).toList=b.take j:=by
    rw [aj8,Z]
   generalize hX:(arrOf st).extract (pre.length+k) (pre.length+a.length)=X at ex
   generalize hY:(arrOf st).extract (pre.length+a.length) (pre.length+a.length+j)=Y at N
   have sX:X.size=a.length - k:=by have:=congrArg List.length ex;simpa using this
   have sY:Y.size=j:=by have:=congrArg List.length N;simp at this;lia
   have T:Two S R X Y:=by
    refine ⟨fun x c=>I x (aC3 (by rw [← ex];exact c)),fun x c=>P x (aB9 (by rw [← N];exact c)),by rw [ex];exact ac9 U,by rw [N];exact ach O,by lia,by lia,fun x c y d=>?_,fun y d x c=>?_⟩
    ·rw [← aD4,N,eb] at d
     have:y=b0:=by
      obtain ⟨j',rfl⟩:∃ j',j=j'+1:=⟨j - 1,by lia⟩
      simpa using d.symm
     rw [this]
     rw [ex] at c
     exact C.asy _ _ v (I x (aC3 c)) (h2 x c)
    ·rw [← aD4,ex,sX] at c
     rw [aH5,show k+(a.length - k - 1)=a.length - 1 by lia,aA0 n] at c
     cases c
     rw [N] at d
     exact C.asy _ _ (P y (aB9 d)) Sl (h3 y d)
   have fin:∀ (m:Array Keyed) (st':SortSt),Eqv o st'->Fin2 R X Y m->wpS M A E s (do
     modify fun (z:SortSt)=>setArr z (List.foldl (fun a x=>match x with | (p,j)=>a.setIfInBounds (pre.length+k+j) p) (arrOf z) m.toList.zipIdx)
     let z ← get
     pure (failedOf z).isNone) Q st':=by
    intro m st' q ⟨H,ms⟩
    rw [ex,N] at H
    refine wpS_bind (wpS_modify ?_)
    refine wpS_bind (wpS_get ?_)
    refine wpS_pure ?_
    show Q (failedOf st').isNone _
    rw [q.f,f1]
    have lm:m.toList.length=(a.drop k).length+(b.take j).length:=by rw [H.length_eq,aB0]
    have J:∀ z∈m.toList,z∈a.drop k\/z∈b.take j:=fun z hz=>aA7.mp (H.mem_iff.mp hz)
    refine h _ (a.take k ++ m.toList ++ b.drop j) (q.k.trans W) (q.f.trans f1) (q.p.trans p1) ?_ ?_ ?_
    ·show (List.foldl _ (arrOf st') m.toList.zipIdx).toList=_
     have base:(arrOf st').toList=(pre ++ a.take k) ++ (a.drop k ++ b.take j) ++ (b.drop j ++ g):=by
      rw [q.a,a1,F]
      have t1:=aC0 k a
      have t2:=aC0 j b
      calc pre ++ a ++ b ++ g=pre ++ (a.take k ++ a.drop k) ++ (b.take j ++ b.drop j) ++ g:=by rw [t1,t2]
       _=_:=by simp only [aB3]
     have:=ak5 (pre.length+k) m.toList (a.drop k ++ b.take j) (pre ++ a.take k) (b.drop j ++ g) 0 (arrOf st') base (by rw [aB0,lm]) (by rw [aB0,aG2];lia)
     rw [this]
     simp only [aB3]
    ·have t1:=aC0 k a
     have t2:=aC0 j b
     calc (a.take k ++ m.toList ++ b.drop j).Perm (a.take k ++ (a.drop k ++ b.take j) ++ b.drop j):=List.Perm.append_right _ (List.Perm.append_left _ H)
      _ = a ++ b:=by
       simp only [aB3]
       rw [t2,← aB3,t1]
    ·have a4:Srt R (a.take k ++ a.drop k):=by rw [aC0];exact U
     have a6:Srt R (b.take j ++ b.drop j):=by rw [aC0];exact O
     have ca:=(aC8.mp a4).2.2
     have cb:=(aC8.mp a6).2.2
     refine aC8.mpr ⟨aC8.mpr ⟨ach U,ms,fun x c y d=>?_⟩,ac9 O,fun x c y d=>?_⟩
     ·rcases J y d with d | d
      ·exact ca x c y d
      ·exact C.tr x b0 y (I x (aB9 c)) v (P y (aB9 d)) (G x c) (D y (aB9 d))
     ·have Sy:=P y (aC3 d)
      rcases aA7.mp c with c | c
      ·exact C.tr x b0 y (I x (aB9 c)) v Sy (G x c) (D y (aC3 d))
      ·rcases J x c with c | c
       ·exact C.tr x _ y (I x (aC3 c)) Sl Sy (K x (aC3 c)) (h4 y d)
       ·exact cb x c y d
   refine aar (fun e3=>?_) (fun e3=>?_)
   ·exact wpS_bind (aqq C T W fun m st' q fm=>fin m st' q fm)
   ·exact wpS_bind (aqr C T W fun m st' q fm=>fin m st' q fm)
end
def e (xs:Array Keyed) (k:Nat):Keyed:=(xs[k]?).getD (.none,.none)
theorem ajb {xs:Array Keyed} {k:Nat} (h:k < xs.size):xs[k]?=some (e xs k):=by
 unfold e;rw [aA4 h];rfl
def Asc (R:Keyed->Keyed->Bool) (xs:Array Keyed) (l h:Nat):Prop:=∀ i j,l<=i->i<=j->j < h->R (e xs j) (e xs i)=false
def Des (R:Keyed->Keyed->Bool) (xs:Array Keyed) (l h:Nat):Prop:=∀ i j,l<=i->i<=j->j < h->R (e xs i) (e xs j)=false
structure Bs (κ:SortKind) (p0:Array (Nat × Nat × Nat)) (a0:Array Keyed) (lo:Nat) (st:SortSt):Prop where
 k:kindOf st = κ
 f:failedOf st=none
 p:pendingOf st=p0
 perm:(arrOf st).toList.Perm a0.toList
 pre:∀ k,k < lo->(arrOf st)[k]?=a0[k]?
theorem aur {xs:Array Keyed} {src d:Nat} (a:src < xs.size) (hd:d<=src) (k:Nat):e (bubble xs src d) k=if k=src - d then e xs src else if src - d < k/\k<=src then e xs (k - 1) else e xs k:=by
 unfold e
 rw [getElem?_bubble a d hd]
 repeat' split
 all_goals rfl
theorem adl {xs:Array Keyed} {i j:Nat} (a:j<=xs.size) (k:Nat):e (mirror xs i j ((j - i) / 2)) k=if i<=k/\k < j then e xs (i+j - 1 - k) else e xs k:=by
 unfold e
 rw [getElem?_mirror_all a]
 split <;> rfl
section
variable {M:Model} {A:Around} {E:Value->Shared->Prop} {s:Shared} {κ:SortKind} {S:Keyed->Prop} {R:Keyed->Keyed->Bool} {p0:Array (Nat × Nat × Nat)} {a0:Array Keyed} {lo:Nat}
theorem Bs.size {st:SortSt} (B:Bs κ p0 a0 lo st):(arrOf st).size=a0.size:=by
 have:=B.perm.length_eq
 simpa using this
theorem Bs.sat {st:SortSt} (B:Bs κ p0 a0 lo st) (a:∀ x∈a0.toList,S x) {k:Nat} (b:k < a0.size):S (e (arrOf st) k):=by
 have h:=ajb (xs:=arrOf st) (k:=k) (by rw [B.size];exact b)
 refine a _ (B.perm.mem_iff.mp ?_)
 rw [← aD4] at h
 exact aA2 h
theorem ag5 (C:Cmp M A E s κ S R) (a:∀ x∈a0.toList,S x) {st:SortSt} (B:Bs κ p0 a0 lo st) {i j:Nat} (hi:i < a0.size) (b:j < a0.size) {Q:Option Bool->SortSt->Prop} (h:Q (some (R (e (arrOf st) i) (e (arrOf st) j))) st) :
  wpS M A E s (ltAt' i j) Q st:=by
 rw [ltAt'_eq]
 refine wpS_bind (wpS_get ?_)
 refine wpS_bind (aa0 (ajb (by rw [B.size];exact hi)) ?_)
 refine wpS_bind (aa0 (ajb (by rw [B.size];exact b)) ?_)
 exact C.ask _ _ (B.sat a hi) (B.sat a b) _ _ B.k h
theorem aus (C:Cmp M A E s κ S R) {xs:Array Keyed} {l h:Nat} (b:∀ k,k<=h->S (e xs k)) (g:l < h) (a:Asc R xs l h) (n:R (e xs h) (e xs (h - 1))=false):Asc R xs l (h+1):=by
 intro i j c d f
 by_cases hj:j=h
 ·subst hj
  by_cases hi:i=j
  ·subst hi;exact C.irr (b _ (aA6 _))
  ·exact C.tr _ (e xs (j - 1)) _ (b _ (by lia)) (b _ (by lia)) (b _ (by lia)) (a i (j - 1) c (by lia) (by lia)) n
 ·exact a i j c d (by lia)
theorem af6 (C:Cmp M A E s κ S R) {xs:Array Keyed} {l h:Nat} (b:∀ k,k<=h->S (e xs k)) (g:l < h) (a:Des R xs l h) (n:R (e xs (h - 1)) (e xs h)=false):Des R xs l (h+1):=by
 intro i j c d f
 by_cases hj:j=h
 ·subst hj
  by_cases hi:i=j
  ·subst hi;exact C.irr (b _ (aA6 _))
  ·exact C.tr _ (e xs (j - 1)) _ (b _ (by lia)) (b _ (by lia)) (b _ (by lia)) n (a i (j - 1) c (by lia) (by lia))
 ·exact a i j c d (by lia)
theorem Bs.set {st:SortSt} (B:Bs κ p0 a0 lo st) {xs:Array Keyed} (b:xs.Perm (arrOf st)) (c:∀ k,k < lo->xs[k]?=(arrOf st)[k]?):Bs κ p0 a0 lo (setArr st xs) :=
 ⟨B.k,B.f,B.p,b.toList.trans B.perm,fun k a=>(c k a).trans (B.pre k a)⟩
theorem aqt (C:Cmp M A E s κ S R) (w:∀ x∈a0.toList,S x) {st:SortSt} (B:Bs κ p0 a0 lo st) {n ok:Nat} (hn:lo+n<=a0.size) (hok:ok<=n) (P:1<=n) (L:Asc R (arrOf st) lo (lo+ok)) {Q:Bool->SortSt->Prop}
  (h:∀ st',Bs κ p0 a0 lo st'->Asc R (arrOf st') lo (lo+n)->Q true st'):wpS M A E s (auq lo n ok) Q st:=by
 refine wpS_bind (wpS_mono (Q:=fun (z:Option Bool × Unit) st'=>z.1=none/\Bs κ p0 a0 lo st'/\Asc R (arrOf st') lo (lo+n)) ?_ ?_)
 ·refine wpS_forRange (fun k (z:Option Bool × Unit) st'=>z.1=none/\Bs κ p0 a0 lo st'/\Asc R (arrOf st') lo (lo+k)) ?_ ?_ ⟨rfl,B,fun i j f p v=>?_⟩
  ·rintro k ⟨o,_⟩ b O N ⟨rfl,q,as⟩
   have d:∀ j,j < lo+n->S (e (arrOf b) j):=fun j D=>q.sat w (by lia)
   refine wpS_bind (wpS_mono (Q:=fun (z:Option Bool × Nat × Nat) st'=>st'=b/\z.1=none/\z.2.1<=k/\(∀ i,i < z.2.1->R (e (arrOf b) (lo+k)) (e (arrOf b) (lo+i))=false)/\(∀ i,z.2.1<=i->i < k->R (e (arrOf b) (lo+k)) (e (arrOf b) (lo+i))=true)) ?_ ?_)
   ·refine wpS_forRange (fun t (z:Option Bool × Nat × Nat) st'=>st'=b/\z.1=none/\z.2.1<=z.2.2/\z.2.2<=k/\z.2.2 - z.2.1+t<=k/\(∀ i,i < z.2.1->R (e (arrOf b) (lo+k)) (e (arrOf b) (lo+i))=false)/\(∀ i,z.2.2<=i->i < k->R (e (arrOf b) (lo+k)) (e (arrOf b) (lo+i))=true)) ?_ ?_
     ⟨rfl,rfl,Nat.zero_le _,Nat.le_refl _,by dsimp only;lia,fun i hi=>absurd hi (Nat.not_lt_zero _),fun i f p=>by dsimp only at f;lia⟩
    ·rintro t ⟨o,l,r⟩ a _ T ⟨rfl,c,f,p,v,g,m⟩
     dsimp only at c f p v g m ⊢
     subst c
     refine aar (fun G=>?_) (fun G=>?_)
     ·have:l=r:=by lia
      subst this
      exact wpS_pure ⟨rfl,rfl,p,g,m⟩
     ·have hm:(l+r) / 2 < r:=by lia
      have y:l<=(l+r) / 2:=by lia
      refine wpS_bind (ag5 C w q (by lia) (by lia) ?_)
      dsimp only
      cases er:R (e (arrOf a) (lo+k)) (e (arrOf a) (lo+(l+r) / 2)) with
      | true =>
       rw [aE7 rfl]
       refine wpS_pure ⟨rfl,rfl,y,by dsimp only;lia,by dsimp only;lia,g,fun i u F=>?_⟩
       dsimp only at u
       cases e2:R (e (arrOf a) (lo+k)) (e (arrOf a) (lo+i)) with
       | true=>rfl
       | false =>
        have:=C.tr _ _ _ (d _ (by lia)) (d _ (by lia)) (d _ (by lia)) (as (lo+(l+r) / 2) (lo+i) (by lia) (by lia) (by lia)) e2
        rw [this] at er;cases er
      | false =>
       rw [aE8 (by decide)]
       refine wpS_pure ⟨rfl,rfl,by dsimp only;lia,p,by dsimp only;lia,fun i u=>?_,m⟩
       dsimp only at u
       exact C.tr _ _ _ (d _ (by lia)) (d _ (by lia)) (d _ (by lia)) (as (lo+i) (lo+(l+r) / 2) (by lia) (by lia) (by lia)) er
    ·rintro ⟨o,l,r⟩ a ⟨rfl,c,f,p,v,g,m⟩
     dsimp only at c f p v g m ⊢
     have : l = r := by have:k ≤ max 0 k := by lia
                        lia
     subst this
     exact ⟨rfl,c,p,g,m⟩
   ·rintro ⟨o,l,r⟩ a ⟨rfl,c,f,g,m⟩
    dsimp only at c f g m ⊢
    subst c
    dsimp only
    have hsz:lo+k < (arrOf a).size:=by rw [q.size];lia
    have hd:(lo+k) - (lo+l)=k - l:=by lia
    refine wpS_bind (wpS_modify ?_)
    have H:∀ j,e (bubble (arrOf a) (lo+k) (lo+k - (lo+l))) j=if j=lo+l then e (arrOf a) (lo+k) else if lo+l < j/\j<=lo+k then e (arrOf a) (j - 1) else e (arrOf a) j:=fun j=>by
     rw [aur hsz (by lia),show lo+k - (lo+k - (lo+l))=lo+l by lia]
    refine wpS_pure ⟨rfl,q.set (bubble_perm _ _ _) (fun j D=>?_),fun i j u F K=>?_⟩
    ·show (bubble (arrOf a) (lo+k) (lo+k - (lo+l)))[j]?=_
     rw [getElem?_bubble hsz _ (by lia),aE8 (by lia),aE8 (by lia)]
    ·show R (e (bubble (arrOf a) (lo+k) (lo+k - (lo+l))) j) (e (bubble (arrOf a) (lo+k) (lo+k - (lo+l))) i)=false
     rw [H,H]
     have J:∀ j,j < lo+n->S (e (arrOf a) j):=d
     by_cases j1:j=lo+l
     ·rw [aE7 j1]
      by_cases i4:i=lo+l
      ·rw [aE7 i4];exact C.irr (d _ (by lia))
      ·rw [aE8 i4,aE8 (by lia)]
       have:=g (i - lo) (by lia)
       rw [show lo+(i - lo)=i by lia] at this
       exact this
     ·rw [aE8 j1]
      by_cases j2:lo+l < j/\j<=lo+k
      ·rw [aE7 j2]
       have I:=m (j - 1 - lo) (by lia) (by lia)
       rw [show lo+(j - 1 - lo)=j - 1 by lia] at I
       by_cases i4:i=lo+l
       ·rw [aE7 i4];exact C.asy _ _ (d _ (by lia)) (d _ (by lia)) I
       ·rw [aE8 i4]
        by_cases i5:lo+l < i/\i<=lo+k
        ·rw [aE7 i5];exact as (i - 1) (j - 1) (by lia) (by lia) (by lia)
        ·rw [aE8 i5];exact as i (j - 1) (by lia) (by lia) (by lia)
      ·rw [aE8 j2,aE8 (by lia),aE8 (by lia)]
       exact as i j (by lia) (by lia) (by lia)
  ·rintro ⟨o,_⟩ b ⟨c,q,as⟩
   exact ⟨c,q,fun i j u F K=>as i j u F (by lia)⟩
  ·by_cases D:j < lo+ok
   ·exact L i j f p D
   ·have:i=j:=by lia
    subst this
    exact C.irr (B.sat w (by lia))
 ·rintro ⟨o,_⟩ b ⟨c,q,as⟩
  dsimp only at c ⊢
  subst c
  exact wpS_pure (h b q as)
end
def Eqb (R:Keyed->Keyed->Bool) (xs:Array Keyed) (l h:Nat):Prop:=∀ i j,l<=i->i < h->l<=j->j < h->R (e xs i) (e xs j)=false
section
variable {M:Model} {A:Around} {E:Value->Shared->Prop} {s:Shared} {κ:SortKind} {S:Keyed->Prop} {R:Keyed->Keyed->Bool} {p0:Array (Nat × Nat × Nat)} {a0:Array Keyed} {lo:Nat}
theorem ao8 {α:Type} {prog:StateT SortSt Sem α} {P:SortSt->Prop} {Q : α->SortSt->Prop} {G:Prop} (use:(∀ st,P st->wpS M A E s prog Q st)->G) (a:∀ st,P st->wpS M A E s prog Q st):G:=use a
theorem amw (C:Cmp M A E s κ S R) (f:∀ x∈a0.toList,S x) {st:SortSt} (B:Bs κ p0 a0 lo st) {a nrem:Nat} (l:1<=a) (g:a<=nrem) (hn:lo+nrem<=a0.size) (as:Asc R (arrOf st) lo (lo+a)) {Q:Option (Option Nat) × Nat->SortSt->Prop}
  (h:∀ n,a<=n->n<=nrem->Asc R (arrOf st) lo (lo+n)->(n < nrem->R (e (arrOf st) (lo+n)) (e (arrOf st) (lo+n - 1))=true)->Q (none,n) st) :
  wpS M A E s (forIn [a:nrem] ((none,a):Option (Option Nat) × Nat) (fun (_:Nat) z=>ltAt' (lo+z.2) (lo+z.2 - 1) >>= fun x=>match x with
   | some smaller=>if smaller=true then pure (ForInStep.done (none,z.2)) else pure (ForInStep.yield (none,z.2+1))
   | _=>pure (ForInStep.done (some none,z.2)))) Q st:=by
 refine wpS_forRange (fun t (z:Option (Option Nat) × Nat) st'=>st'=st/\z=(none,t)/\Asc R (arrOf st) lo (lo+t)) ?_ ?_ ⟨rfl,rfl,as⟩
 ·rintro t ⟨o,n⟩ c i m ⟨rfl,d,b⟩
  cases d
  dsimp only
  refine wpS_bind (ag5 C f B (by lia) (by lia) ?_)
  dsimp only
  cases er:R (e (arrOf c) (lo+t)) (e (arrOf c) (lo+t - 1)) with
  | true =>
   rw [aE7 rfl]
   exact wpS_pure (h t i (by lia) b fun _=>er)
  | false =>
   rw [aE8 (by decide)]
   exact wpS_pure ⟨rfl,rfl,aus C (h:=lo+t) (fun k j=>B.sat f (by lia)) (by lia) b er⟩
 ·rintro ⟨o,n⟩ c ⟨rfl,d,b⟩
  cases d
  rw [show max a nrem=nrem by lia] at b ⊢
  exact h nrem g (aA6 _) b fun z=>absurd z (aF6 _)
theorem aut (C:Cmp M A E s κ S R) {st:SortSt} (B:Bs κ p0 a0 lo st) {n:Nat} (hn:lo+n<=a0.size) (a:Des R (arrOf st) lo (lo+n)) :
  Bs κ p0 a0 lo (setArr st (mirror (arrOf st) lo (lo+n) ((lo+n - lo) / 2)))/\Asc R (mirror (arrOf st) lo (lo+n) ((lo+n - lo) / 2)) lo (lo+n):=by
 have hz:lo+n<=(arrOf st).size:=by rw [B.size];exact hn
 refine ⟨B.set (mirror_perm _ _ _ _) (fun k b=>by rw [getElem?_mirror_all hz,aE8 (by lia)]),fun i j d c f=>?_⟩
 rw [adl hz,adl hz,aE7 (by lia),aE7 (by lia)]
 exact a _ _ (by lia) (by lia) (by lia)
theorem aj9 (C:Cmp M A E s κ S R) (b:∀ x∈a0.toList,S x) {st:SortSt} (B:Bs κ p0 a0 lo st) {l h m:Nat} (o:lo<=l) (hh:h<=a0.size) (hm:h<=m) (d:m<=a0.size) (a:Des R (arrOf st) lo m) (eq:Eqb R (arrOf st) l h) :
  Bs κ p0 a0 lo (setArr st (mirror (arrOf st) l h ((h - l) / 2)))/\Des R (mirror (arrOf st) l h ((h - l) / 2)) lo m:=by
 have hz:h<=(arrOf st).size:=by rw [B.size];exact hh
 refine ⟨B.set (mirror_perm _ _ _ _) (fun k c=>by rw [getElem?_mirror_all hz,aE8 (by lia)]),fun i j g f n=>?_⟩
 rw [adl hz,adl hz]
 have p:∀ k,k < m->S (e (arrOf st) k):=fun k c=>B.sat b (by lia)
 by_cases c1:l<=i/\i < h
 ·rw [aE7 c1]
  by_cases c2:l<=j/\j < h
  ·rw [aE7 c2]
   exact eq _ _ (by lia) (by lia) (by lia) (by lia)
  ·rw [aE8 c2]
   exact a _ _ (by lia) (by lia) (by lia)
 ·rw [aE8 c1]
  by_cases c2:l<=j/\j < h
  ·rw [aE7 c2]
   exact a _ _ (by lia) (by lia) (by lia)
  ·rw [aE8 c2]
   exact a _ _ (by lia) (by lia) (by lia)
theorem asl (C:Cmp M A E s κ S R) (p:∀ x∈a0.toList,S x) {st:SortSt} (B:Bs κ p0 a0 lo st) {nrem:Nat} (h1:1<=nrem) (hn:lo+nrem<=a0.size) {Q:Option Nat->SortSt->Prop}
  (h:∀ st' n,Bs κ p0 a0 lo st'->1<=n->n<=nrem->Asc R (arrOf st') lo (lo+n)->Q (some n) st'):wpS M A E s (axi lo nrem) Q st:=by
 refine wpS_bind (amw C p B (aA6 1) h1 hn (fun i j u r U=>?_) fun n n1 n2 as br=>?_)
 ·have:i=j:=by lia
  subst this
  exact C.irr (B.sat p (by lia))
 dsimp only
 refine aar (fun en=>wpS_pure (h st n B n1 n2 as)) (fun en=>?_)
 have a6:n ≠ nrem:=by simpa using en
 have Z:n < nrem:=by lia
 have G:=br Z
 refine ao8 (M:=M) (A:=A) (E:=E) (s:=s) (α:=Option Nat) (Q:=Q) (P:=fun w=>Bs κ p0 a0 lo w/\Des R (arrOf w) lo (lo+n)/\R (e (arrOf w) (lo+n)) (e (arrOf w) (lo+n - 1))=true) (prog:=?prog) (fun N=>?use) (fun w ⟨O,X,W⟩=>?pf)
 case use =>
  refine aar (fun g1=>?_) (fun g1=>?_)
  ·refine wpS_bind (ag5 C p B (by lia) (by lia) ?_)
   dsimp only
   cases er:R (e (arrOf st) lo) (e (arrOf st) (lo+n - 1)) with
   | true=>rw [aE7 rfl];exact wpS_pure (h st n B n1 n2 as)
   | false =>
    rw [aE8 (by decide)]
    -- all of them are equal
    have c:∀ k,k < lo+n->S (e (arrOf st) k):=fun k K=>B.sat p (by lia)
    have all:Eqb R (arrOf st) lo (lo+n):=fun i j u r D y=>by
     -- j<=last<=first<=i
     have a1:=as j (lo+n - 1) D (by lia) (by lia)
     have a2:=as lo i (aA6 _) u r
     exact C.tr _ _ _ (c j y) (c lo (by lia)) (c i r) (C.tr _ _ _ (c j y) (c (lo+n - 1) (by lia)) (c lo (by lia)) a1 er) a2
    have X:Des R (arrOf st) lo (lo+n):=fun i j u r U=>all i j u (by lia) (by lia) U
    have hz:lo+n<=(arrOf st).size:=by rw [B.size];lia
    obtain ⟨q,a⟩:=aj9 C p B (aA6 lo) (show lo+n<=a0.size by lia) (aA6 _) (by lia) X all
    refine wpS_bind (wpS_modify ?_)
    refine N _ ⟨q,a,?_⟩
    show R (e (mirror (arrOf st) lo (lo+n) ((lo+n - lo) / 2)) (lo+n)) (e (mirror (arrOf st) lo (lo+n) ((lo+n - lo) / 2)) (lo+n - 1))=true
    rw [adl hz,adl hz,aE8 (by lia),aE7 (by lia)]
    rw [show lo+(lo+n) - 1 - (lo+n - 1)=lo by lia]
    cases e2:R (e (arrOf st) (lo+n)) (e (arrOf st) lo) with
    | true=>rfl
    | false =>
     have:=C.tr _ _ _ (c (lo+n - 1) (by lia)) (c lo (by lia)) (B.sat p (show lo+n < a0.size by lia)) er e2
     rw [this] at G;cases G
  ·have:n=1:=by lia
   subst this
   refine N st ⟨B,fun i j u r U=>?_,G⟩
   have:i=j:=by lia
   subst this
   exact C.irr (B.sat p (by lia))
 case pf =>
  -- the falling part
  refine wpS_bind (adz ?_)
  refine wpS_bind (wpS_mono (Q:=fun (z:Option (Option Nat) × Nat × Nat) st'=>z.1=none/\Bs κ p0 a0 lo st'/\z.2.1<=nrem/\z.2.2+1<=z.2.1/\Des R (arrOf st') lo (lo+z.2.1)/\Eqb R (arrOf st') (lo+z.2.1 - (z.2.2+1)) (lo+z.2.1)) ?_ ?_)
  ·refine wpS_forRange (fun t (z:Option (Option Nat) × Nat × Nat) st'=>z.1=none/\z.2.1=t/\Bs κ p0 a0 lo st'/\z.2.2+1<=z.2.1/\Des R (arrOf st') lo (lo+z.2.1)/\Eqb R (arrOf st') (lo+z.2.1 - (z.2.2+1)) (lo+z.2.1)) ?_ ?_ ⟨rfl,rfl,O,by dsimp only;lia,?_,fun i j u r D y=>?_⟩
   ·rintro t ⟨o,m,b⟩ f t1 t2 ⟨F,T,q,J,a,d⟩
    dsimp only at F T J a d ⊢
    subst F T
    have c:∀ k,k < a0.size->S (e (arrOf f) k):=fun k K=>q.sat p K
    refine wpS_bind (ag5 C p q (by lia) (by lia) ?_)
    dsimp only
    cases er:R (e (arrOf f) (lo+m)) (e (arrOf f) (lo+m - 1)) with
    | true =>
     rw [aE7 rfl]
     refine aar (fun g=>?_) (fun g=>?_)
     ·have hz:lo+m<=(arrOf f).size:=by rw [q.size];lia
      obtain ⟨H,v⟩:=aj9 C p q (l:=lo+m - (b+1)) (h:=lo+m) (by lia) (by lia) (aA6 _) (by lia) a d
      have L:∀ k,e (mirror (arrOf f) (lo+m - (b+1)) (lo+m) ((lo+m - (lo+m - (b+1))) / 2)) k=if lo+m - (b+1)<=k/\k < lo+m then e (arrOf f) (lo+m - (b+1)+(lo+m) - 1 - k) else e (arrOf f) k:=fun k=>adl hz k
      refine wpS_bind (wpS_modify ?_)
      refine wpS_pure ⟨rfl,rfl,H,by dsimp only;lia,?_,fun i j u r D y=>?_⟩
      ·show Des R (mirror (arrOf f) (lo+m - (b+1)) (lo+m) ((lo+m - (lo+m - (b+1))) / 2)) lo (lo+(m+1))
       refine af6 C (h:=lo+m) (fun k K=>H.sat p (by lia)) (by lia) v ?_
       rw [L,L,aE7 (by lia),aE8 (by lia)]
       rw [show lo+m - (b+1)+(lo+m) - 1 - (lo+m - 1)=lo+m - (b+1) by lia]
       exact C.tr _ _ _ (c _ (by lia)) (c (lo+m - 1) (by lia)) (c _ (by lia)) (C.asy _ _ (c _ (by lia)) (c _ (by lia)) er) (a _ _ (by lia) (by lia) (by lia))
      ·dsimp only at u r D y
       have:i=j:=by lia
       subst this
       exact C.irr (H.sat p (by lia))
     ·have:b=0:=by lia
      subst this
      refine wpS_pure ⟨rfl,rfl,q,by dsimp only;lia,af6 C (h:=lo+m) (fun k K=>c k (by lia)) (by lia) a (C.asy _ _ (c _ (by lia)) (c _ (by lia)) er),fun i j u r D y=>?_⟩
      dsimp only at u r D y
      have:i=j:=by lia
      subst this
      exact C.irr (c _ (by lia))
    | false =>
     rw [aE8 (by decide)]
     refine wpS_bind (ag5 C p q (by lia) (by lia) ?_)
     dsimp only
     cases er2:R (e (arrOf f) (lo+m - 1)) (e (arrOf f) (lo+m)) with
     | true =>
      rw [aE7 rfl]
      exact wpS_pure ⟨rfl,q,by dsimp only;lia,J,a,d⟩
     | false =>
      rw [aE8 (by decide)]
      refine wpS_pure ⟨rfl,rfl,q,by dsimp only;lia,af6 C (h:=lo+m) (fun k K=>c k (by lia)) (by lia) a er2,fun i j u r D y=>?_⟩
      dsimp only at u r D y
      by_cases ci:i=lo+m
      ·by_cases cj:j=lo+m
       ·rw [ci,cj];exact C.irr (c _ (by lia))
       ·rw [ci]
        exact C.tr _ _ _ (c j (by lia)) (c (lo+m - 1) (by lia)) (c _ (by lia)) (d (lo+m - 1) j (by lia) (by lia) (by lia) (by lia)) er
      ·by_cases cj:j=lo+m
       ·rw [cj]
        exact C.tr _ _ _ (c _ (by lia)) (c (lo+m - 1) (by lia)) (c i (by lia)) er2 (d i (lo+m - 1) (by lia) (by lia) (by lia) (by lia))
       ·exact d i j (by lia) (by lia) (by lia) (by lia)
   ·rintro ⟨o,m,b⟩ f ⟨F,T,q,J,a,d⟩
    dsimp only at F T J a d ⊢
    exact ⟨F,q,by lia,J,a,d⟩
   ·exact af6 C (h:=lo+n) (fun k K=>O.sat p (by lia)) (by lia) X (C.asy _ _ (O.sat p (by lia)) (O.sat p (by lia)) W)
   ·dsimp only at u r D y
    have:i=j:=by lia
    subst this
    exact C.irr (O.sat p (by lia))
  ·rintro ⟨o,m,b⟩ f ⟨F,q,hm,J,a,d⟩
   dsimp only at F hm J a d ⊢
   subst F
   dsimp only
   refine ao8 (M:=M) (A:=A) (E:=E) (s:=s) (α:=Option Nat) (Q:=Q) (P:=fun I=>Bs κ p0 a0 lo I/\Des R (arrOf I) lo (lo+m)) (prog:=?prog2) (fun N=>?use2) (fun I ⟨H,v⟩=>?pf2)
   case use2 =>
    refine aar (fun g=>?_) (fun g=>?_)
    ·obtain ⟨H,v⟩:=aj9 C p q (l:=lo+m - (b+1)) (h:=lo+m) (by lia) (by lia) (aA6 _) (by lia) a d
     refine wpS_bind (wpS_modify ?_)
     exact N _ ⟨H,v⟩
    ·exact N _ ⟨q,a⟩
   case pf2 =>
    obtain ⟨B5,Y⟩:=aut C H (n:=m) (by lia) v
    refine wpS_bind (wpS_modify ?_)
    refine wpS_bind (amw C p B5 (by lia) hm hn Y fun n' a5 a3 a4 _=>?_)
    exact wpS_pure (h _ n' B5 (by lia) a3 a4)
end
def flat (rs:List (List Keyed × Nat)):List Keyed:=(rs.map (·.1)).flatten
def pend:Nat->List (List Keyed × Nat)->List (Nat × Nat × Nat)
 | _,[]=>[]
 | k,(r,pw) :: t=>(k,r.length,pw) :: pend (k+r.length) t
theorem aig:flat []=[]:=rfl
theorem ab3 (r:List Keyed × Nat) (t:List (List Keyed × Nat)):flat (r :: t)=r.1 ++ flat t:=rfl
theorem aby (p q:List (List Keyed × Nat)):flat (p ++ q)=flat p ++ flat q:=by simp [flat]
theorem aci:∀ (k:Nat) (p q:List (List Keyed × Nat)),pend k (p ++ q)=pend k p ++ pend (k+(flat p).length) q
 | k,[],q=>by simp [pend,aig]
 | k,(r,pw) :: t,q=>by
  simp only [List.cons_append,pend,ab3,aB0,List.cons.injEq,true_and]
  rw [aci (k+r.length) t q,Nat.add_assoc]
theorem ad3:∀ (k:Nat) (p:List (List Keyed × Nat)),(pend k p).length=p.length
 | _,[]=>rfl
 | k,(r,pw) :: t=>by simp [pend,ad3 _ t]
section
variable {M:Model} {A:Around} {E:Value->Shared->Prop} {s:Shared} {κ:SortKind} {S:Keyed->Prop} {R:Keyed->Keyed->Bool} {a0:Array Keyed}
structure Rn (κ:SortKind) (R:Keyed->Keyed->Bool) (a0:Array Keyed) (rs:List (List Keyed × Nat)) (rest:List Keyed) (st:SortSt):Prop where
 k:kindOf st = κ
 f:failedOf st=none
 arr:(arrOf st).toList=flat rs ++ rest
 pn:(pendingOf st).toList=pend 0 rs
 ok:∀ r∈rs,r.1 ≠ []/\Srt R r.1
 perm:(arrOf st).toList.Perm a0.toList
theorem axk {α:Type} (a c:List α) (x b y : α):((a ++ x :: y :: c).set a.length b).eraseIdx (a.length+1)=a ++ b :: c:=by
 rw [List.set_append_right _ _ (aA6 _),aH7,List.set_cons_zero,List.eraseIdx_append_of_length_le (by lia)]
 rw [show a.length+1 - a.length=1 by lia]
 rfl
theorem ajc (C:Cmp M A E s κ S R) (v:∀ x∈a0.toList,S x) {st:SortSt} {rs:List (List Keyed × Nat)} {rest:List Keyed} (N:Rn κ R a0 rs rest st) {i:Nat} (hi:i+1 < rs.length) {Q:Bool->SortSt->Prop}
  (h:∀ st' l,Rn κ R a0 l rest st'->l.length+1=rs.length->(flat l).length=(flat rs).length->Q true st'):wpS M A E s (amu i) Q st:=by
 obtain ⟨p,a,pw,b,pw2,q,e,y⟩:∃ p a pw b pw2 q,rs=p ++ (a,pw) :: (b,pw2) :: q/\p.length=i:=by
  have G:rs=rs.take i ++ rs.drop i:=(aC0 i rs).symm
  have hd:rs.drop i=rs[i] :: rs[i+1] :: rs.drop (i+2):=by
   rw [List.drop_eq_getElem_cons (by lia),List.drop_eq_getElem_cons hi]
  exact ⟨rs.take i,rs[i].1,rs[i].2,rs[i+1].1,rs[i+1].2,rs.drop (i+2),by rw [← hd];exact G,by simp;lia⟩
 subst y
 have d:=N.ok (a,pw) (by rw [e];simp)
 have j:=N.ok (b,pw2) (by rw [e];simp)
 have n:(pendingOf st).toList=pend 0 p ++ ((flat p).length,a.length,pw) :: ((flat p).length+a.length,b.length,pw2) :: pend ((flat p).length+a.length+b.length) q:=by
  rw [N.pn,e,aci];simp [pend]
 have c:(pend 0 p).length=p.length:=ad3 0 p
 have g:(arrOf st).toList=flat p ++ a ++ b ++ (flat q ++ rest):=by
  rw [N.arr,e,aby,ab3,ab3];simp [aB3]
 refine aqs C (i:=p.length) (pw:=pw) (pw2:=pw2) g (fun x F=>v x (N.perm.mem_iff.mp F)) ?_ ?_ d.1 j.1 d.2 j.2 N.k N.f fun st' m I D H u pm B=>?_
 ·rw [← aD4,n,aC7 (by lia),c,aH7];rfl
 ·rw [← aD4,n,aC7 (by lia),c,show p.length+1 - p.length=1 by lia];rfl
 ·refine h st' (p ++ (m,pw) :: q) ⟨I,D,?_,?_,fun r o=>?_,?_⟩ (by rw [e];simp;lia) ?_
  ·rw [u,aby,ab3];simp [aB3]
  ·rw [H,Array.toList_eraseIdxIfInBounds,Array.toList_setIfInBounds,n,← c,axk,aci]
   simp [pend,pm.length_eq,Nat.add_assoc]
  ·rcases aA7.mp o with o | o
   ·exact N.ok r (by rw [e];simp [o])
   ·rcases aA8.mp o with rfl | o
    ·refine ⟨?_,B⟩
     intro z
     have:=pm.length_eq
     have w:m=[]:=z
     rw [w] at this
     have:=aF1.mpr d.1
     simp at *
     lia
    ·exact N.ok r (by rw [e];simp [o])
  ·rw [u]
   refine List.Perm.trans ?_ N.perm
   rw [g]
   have:(flat p ++ a ++ b ++ (flat q ++ rest))=flat p ++ (a ++ b) ++ (flat q ++ rest):=by simp [aB3]
   rw [this]
   exact (pm.append_left (flat p)).append_right _
  ·rw [e,aby,aby,ab3,ab3,ab3]
   simp [pm.length_eq]
   lia
theorem Rn.run {rs:List (List Keyed × Nat)} {rest:List Keyed} {st st':SortSt} {n:Nat} (N:Rn κ R a0 rs rest st) (B:Bs κ (pendingOf st) (arrOf st) (flat rs).length st') (u:1<=n) (hn:(flat rs).length+n<=(arrOf st).size) (as:Asc R (arrOf st') (flat rs).length ((flat rs).length+n)) :
  ∃ r a,r.length=n/\r ≠ []/\Srt R r/\Rn κ R a0 rs (r ++ a) st':=by
 have hsz:=B.size
 have d:(arrOf st').toList.take (flat rs).length=flat rs:=by
  have s:(arrOf st').toList.take (flat rs).length=(arrOf st).toList.take (flat rs).length:=by
   apply aF4
   intro k
   rw [List.getElem?_take,List.getElem?_take]
   split
   ·rename_i c
    have:=B.pre k c
    simpa using this
   ·rfl
  rw [s,N.arr,List.take_left]
 refine ⟨((arrOf st').toList.drop (flat rs).length).take n,((arrOf st').toList.drop (flat rs).length).drop n,?_,?_,?_,B.k,B.f,?_,?_,N.ok,B.perm.trans N.perm⟩
 ·simp;lia
 ·intro z
  have:=congrArg List.length z
  simp at this
  lia
 ·unfold Srt
  rw [aF9]
  intro i j hi h m
  have b:j < n:=by simp at h;lia
  have get:∀ k,k < n->∀ (c:k < (((arrOf st').toList.drop (flat rs).length).take n).length),(((arrOf st').toList.drop (flat rs).length).take n)[k]=e (arrOf st') ((flat rs).length+k):=by
   intro k c q
   rw [List.getElem_take,List.getElem_drop]
   have o:=ajb (xs:=arrOf st') (k:=(flat rs).length+k) (by lia)
   have l:(flat rs).length+k < (arrOf st').toList.length:=by simp;lia
   have g:(arrOf st').toList[(flat rs).length+k]?=some (e (arrOf st') ((flat rs).length+k)):=by simpa using o
   rw [aA0 l] at g
   exact aC5 g
  rw [get i (by lia) hi,get j b h]
  exact as _ _ (by lia) (by lia) (by lia)
 ·rw [aC0]
  conv=>lhs;rw [← aC0 (flat rs).length (arrOf st').toList,d]
 ·rw [B.p];exact N.pn
theorem Rn.bs {rs:List (List Keyed × Nat)} {rest:List Keyed} {st:SortSt} (N:Rn κ R a0 rs rest st):Bs κ (pendingOf st) (arrOf st) (flat rs).length st:=⟨N.k,N.f,rfl,List.Perm.refl _,fun _ _=>rfl⟩
theorem Rn.size {rs:List (List Keyed × Nat)} {rest:List Keyed} {st:SortSt} (N:Rn κ R a0 rs rest st):(arrOf st).size=a0.size:=by
 have:=N.perm.length_eq;simpa using this
theorem Rn.len {rs:List (List Keyed × Nat)} {rest:List Keyed} {st:SortSt} (N:Rn κ R a0 rs rest st):(flat rs).length+rest.length=a0.size:=by
 have:=congrArg List.length N.arr
 have a:=N.size
 simp at this
 lia
theorem auu {rs:List (List Keyed × Nat)} (h:∀ r∈rs,r.1 ≠ []):rs.length<=(flat rs).length:=by
 induction rs with
 | nil=>simp [flat]
 | cons r t ih =>
  rw [ab3,aB0,aE0]
  have:=ih fun q a=>h q (aB4 _ a)
  have:=aF1.mpr (h r aB7)
  lia
theorem amx {α:Type} (f : α->α):∀ (l:List α) (x : α),(l ++ [x]).modify l.length f=l ++ [f x]
 | [],x=>rfl
 | y :: l,x=>by
  show (y :: (l ++ [x])).modify (l.length+1) f=_
  rw [List.modify_succ_cons,amx f l x];rfl
theorem aok {α:Type} (arr:Array α) (f : α->α) {l:List α} {x : α} (h:arr.toList=l ++ [x]):(arr.modify (arr.size - 1) f).toList=l ++ [f x]:=by
 have a:arr.size=l.length+1:=by have:=congrArg List.length h;simpa using this
 rw [Array.toList_modify,h,a,show l.length+1 - 1=l.length by lia]
 exact amx f l x
theorem axl {α:Type} (arr:Array α) {l:List α} {x : α} (h:arr.toList=l ++ [x]):arr.back?=some x:=by
 have a:arr.size=l.length+1:=by have:=congrArg List.length h;simpa using this
 rw [Array.back?_eq_getElem?,← aD4,h,a]
 simp
theorem ao9:∀ (rs:List (List Keyed × Nat)),rs ≠ []->∃ p x,rs=p ++ [x]
 | rs,h=>⟨rs.dropLast,rs.getLast h,(List.dropLast_concat_getLast h).symm⟩
theorem Rn.push {rs:List (List Keyed × Nat)} {r rest:List Keyed} {st st':SortSt} (N:Rn κ R a0 rs (r ++ rest) st) (c:r ≠ []) (d:Srt R r) (k:kindOf st'=kindOf st) (f:failedOf st'=failedOf st) (a:arrOf st'=arrOf st)
  (p:pendingOf st'=(pendingOf st).push ((flat rs).length,r.length,0)):Rn κ R a0 (rs ++ [(r,0)]) rest st':=by
 refine ⟨k.trans N.k,f.trans N.f,?_,?_,fun q b=>?_,by rw [a];exact N.perm⟩
 ·rw [a,N.arr,aby];simp [flat,aB3]
 ·rw [p,Array.toList_push,N.pn,aci];simp [pend]
 ·rcases aA7.mp b with b | b
  ·exact N.ok q b
  ·have:q=(r,0):=by simpa using b
   subst this;exact ⟨c,d⟩
theorem Rn.pow {rs:List (List Keyed × Nat)} {rest:List Keyed} {st st':SortSt} {pw:Nat} (N:Rn κ R a0 rs rest st) (hz:rs ≠ []) (k:kindOf st'=kindOf st) (f:failedOf st'=failedOf st) (a:arrOf st'=arrOf st)
  (p:pendingOf st'=(pendingOf st).modify ((pendingOf st).size - 1) fun x=>(x.1,x.2.1,pw)):∃ c,Rn κ R a0 c rest st'/\(flat c).length=(flat rs).length:=by
 obtain ⟨q,⟨b,d⟩,e⟩:=ao9 rs hz
 subst e
 have h:(pendingOf st).toList=pend 0 q ++ [((flat q).length,b.length,d)]:=by rw [N.pn,aci];simp [pend]
 refine ⟨q ++ [(b,pw)],⟨k.trans N.k,f.trans N.f,?_,?_,fun x g=>?_,by rw [a];exact N.perm⟩,by simp [aby,ab3,aig]⟩
 ·rw [a,N.arr];simp [aby,ab3,aig]
 ·rw [p,aok _ _ h,aci];simp [pend]
 ·rcases aA7.mp g with g | g
  ·exact N.ok x (by simp [g])
  ·have:x=(b,pw):=by simpa using g
   subst this
   exact N.ok (b,d) (by simp)
theorem azz {c:Prop} [Decidable c] {x y z:Nat} (b:x+1 < z) (a:y+1 < z):(if c then x else y)+1 < z:=by
 split
 ·exact b
 ·exact a
theorem Rn.powK {rs:List (List Keyed × Nat)} {rest:List Keyed} {st st':SortSt} {pw:Nat} {G:SortSt->Prop} (N:Rn κ R a0 rs rest st) (hz:rs ≠ []) (h:∀ b,Rn κ R a0 b rest st'->(flat b).length=(flat rs).length->G st') (k:kindOf st'=kindOf st) (f:failedOf st'=failedOf st) (a:arrOf st'=arrOf st)
  (p:pendingOf st'=(pendingOf st).modify ((pendingOf st).size - 1) fun x=>(x.1,x.2.1,pw)):G st':=by
 obtain ⟨b,c,d⟩:=N.pow hz k f a p
 exact h b c d
theorem axm (C:Cmp M A E s κ S R) (X:∀ x∈a0.toList,S x) {st:SortSt} (h0:arrOf st=a0) (hk:kindOf st = κ) (hf:failedOf st=none) (hp:pendingOf st = #[]) {Q:Unit->SortSt->Prop}
  (h:∀ st',failedOf st'=none->(arrOf st').toList.Perm a0.toList->Srt R (arrOf st').toList->Q () st'):wpS M A E s a1u Q st:=by
 have o:(arrOf st).size=a0.size:=by rw [h0]
 refine wpS_bind (wpS_get ?_)
 dsimp only
 refine wpS_bind (wpS_mono (Q:=fun (c:Option Unit × Nat) u=>c.1=none/\∃ rs,Rn κ R a0 rs [] u) ?_ ?_)
 ·refine wpS_forRange (fun i (c:Option Unit × Nat) u=>c.1=none/\∃ rs rest,Rn κ R a0 rs rest u/\c.2=(flat rs).length/\i<=c.2) ?_ ?_ ⟨rfl,[],a0.toList,⟨hk,hf,by rw [h0];rfl,by rw [hp];rfl,fun r J=>(by cases J),by rw [h0]⟩,rfl,aA6 _⟩
  ·rintro i ⟨c1,lo⟩ u _ hi ⟨F,rs,rest,N,e2,D⟩
   dsimp only at F e2 D ⊢
   subst F e2
   have T:=N.len
   have b4:i < a0.size:=by rw [← o];exact hi
   refine aar (fun a2=>?_) (fun a5=>?_)
   ·have b0:a0.size<=(flat rs).length:=by rw [← o];exact a2
    refine wpS_pure ⟨rfl,rs,?_⟩
    have:rest=[]:=aG4 (by lia)
    subst this
    exact N
   ·have a9:(flat rs).length < a0.size:=by
     have:¬ (flat rs).length ≥ (arrOf st).size:=a5
     lia
    refine wpS_bind (asl C (fun x hx=>X x (N.perm.mem_iff.mp hx)) N.bs (nrem:=(arrOf st).size - (flat rs).length) (by lia) (by rw [N.size];lia) fun b1 n B2 n1 n2 P=>?_)
    dsimp only
    have B:=N.size
    refine aar (fun l=>?g1) (fun l=>?g2)
    case' g1 =>
     refine wpS_bind (adz ?_)
     generalize hmr:min (_:Nat) _=nn
     refine wpS_bind (aqt C (fun x hx=>X x (N.perm.mem_iff.mp hx)) B2 (n:=nn) (ok:=n) ?_ ?_ ?_ P fun b2 B3 a6=>?_)
     ·have:nn<=(arrOf st).size - (flat rs).length:=by rw [← hmr];exact Nat.min_le_left _ _
      rw [B];lia
     ·rw [← hmr];exact Nat.le_min.mpr ⟨n2,aF7 l⟩
     ·have:n<=nn:=by rw [← hmr];exact Nat.le_min.mpr ⟨n2,aF7 l⟩
      lia
     rw [aE8 (by decide)]
     have U:1<=nn:=by
      have:n<=nn:=by rw [← hmr];exact Nat.le_min.mpr ⟨n2,aF7 l⟩
      lia
     have a8:nn<=(arrOf st).size - (flat rs).length:=by rw [← hmr];exact Nat.min_le_left _ _
     obtain ⟨r,g,J,w,H,O⟩:=N.run B3 U (by rw [B];lia) a6
     clear hmr
     subst J
    case' g2 =>
     obtain ⟨r,g,J,w,H,O⟩:=N.run B2 n1 (by rw [B];lia) P
     clear l
     subst J
    all_goals
     refine wpS_bind (wpS_get ?_)
     rcases Classical.em (rs=[]) with hz | hz
     ·have y:=O.pn
      rw [hz] at y
      have hb:=Array.back?_eq_none_iff.mpr (Array.toList_eq_nil_iff.mp y)
      rw [hb]
      dsimp only
      refine wpS_bind (wpS_modify (wpS_pure ⟨rfl,rs ++ [(r,0)],g,O.push w H rfl rfl rfl rfl,?_,?_⟩))
      ·rw [aby,aB0];simp [flat]
      ·have:=aF1.mpr w
       show i+1<=(flat rs).length+r.length
       lia
     ·obtain ⟨q,⟨b,W⟩,eq⟩:=ao9 rs hz
      have y:=O.pn
      rw [eq,aci,show pend (0+(flat q).length) [(b,W)]=[((flat q).length,b.length,W)] by simp [pend]] at y
      have hb:=axl _ y
      rw [hb]
      dsimp only
      refine wpS_bind (wpS_mono (Q:=fun (c:Option Unit × Unit) d=>c.1=none/\∃ a,Rn κ R a0 a (r ++ g) d/\a ≠ []/\(flat a).length=(flat rs).length) ?_ ?_)
      ·refine wpS_forRange (fun _ (c:Option Unit × Unit) d=>c.1=none/\∃ a,Rn κ R a0 a (r ++ g) d/\a ≠ []/\(flat a).length=(flat rs).length) ?_ (fun c d h4=>h4) ⟨rfl,rs,O,hz,rfl⟩
       rintro i4 ⟨Y,u4⟩ d _ _ ⟨v,a,m,Z,p⟩
       dsimp only at v
       subst v
       refine wpS_bind (wpS_get ?_)
       have L:(pendingOf d).size=a.length:=by
        have:=congrArg List.length m.pn
        rw [ad3] at this
        simpa using this
       by_cases K:(pendingOf d).size > 1
       ·rw [aE7 K]
        obtain ⟨x4,a7⟩:∃ x4,(pendingOf d)[(pendingOf d).size - 2]?=some x4:=⟨_,aA4 (by lia)⟩
        obtain ⟨y1,y2,y3⟩:=x4
        rw [a7]
        dsimp only
        refine aar (fun _=>wpS_pure ⟨rfl,a,m,Z,p⟩) (fun _=>?_)
        rw [L]
        refine wpS_bind (ajc C X m (i:=a.length - 2) (by lia) fun a3 I N5 l5 f5=>?_)
        rw [aE8 (by decide)]
        refine wpS_pure ⟨rfl,I,N5,?_,by lia⟩
        rintro rfl
        simp at l5
        lia
       ·rw [aE8 K]
        exact wpS_pure ⟨rfl,a,m,Z,p⟩
      ·rintro ⟨Y,u4⟩ d ⟨v,a,m,Z,p⟩
       dsimp only at v ⊢
       subst v
       dsimp only
       refine wpS_bind (wpS_modify ?_)
       refine m.powK (G:=fun z=>wpS M A E s _ _ z) Z (fun a4 N6 l6=>?_) rfl rfl rfl rfl
       refine wpS_bind (wpS_modify (wpS_pure ⟨rfl,a4 ++ [(r,0)],g,N6.push w H rfl rfl rfl ?_,?_,?_⟩))
       ·rw [l6,p]
       ·rw [aby,aB0,l6,p];simp [flat]
       ·have:=aF1.mpr w
        show i+1<=(flat rs).length+r.length
        lia
  ·rintro ⟨c1,lo⟩ u ⟨F,rs,rest,N,e2,D⟩
   dsimp only at F e2 D ⊢
   refine ⟨F,rs,?_⟩
   have T:=N.len
   have a1:(arrOf st).size<=lo:=aC9 (Nat.le_max_right 0 _) D
   have:rest=[]:=aG4 (by rw [o] at a1;lia)
   subst this
   exact N
 ·rintro ⟨c1,lo⟩ u ⟨F,rs,N⟩
  dsimp only at F ⊢
  subst F
  dsimp only
  refine wpS_bind (wpS_mono (Q:=fun (c:Option Unit × Unit) d=>c.1=none/\∃ a,Rn κ R a0 a [] d/\a.length<=1) ?_ ?_)
  ·refine wpS_forRange (fun j (c:Option Unit × Unit) d=>c.1=none/\∃ a,Rn κ R a0 a [] d/\(a.length<=1\/a.length+j<=a0.size)) ?_ ?_ ⟨rfl,rs,N,.inr ?_⟩
   ·rintro j ⟨Y,u4⟩ d _ _ ⟨v,a,m,p⟩
    dsimp only at v
    subst v
    refine wpS_bind (wpS_get ?_)
    have L:(pendingOf d).size=a.length:=by
     have:=congrArg List.length m.pn
     rw [ad3] at this
     simpa using this
    refine aar (fun K=>wpS_pure ⟨rfl,a,m,?_⟩) (fun K=>?_)
    ·have:(pendingOf d).size<=1:=K
     lia
    ·have b3:¬ (pendingOf d).size<=1:=K
     refine wpS_bind (ajc C X m (i:=_) ?_ fun a3 I N5 l5 f5=>?_)
     ·refine azz ?_ ?_
      ·show (pendingOf d).size - 2 - 1+1 < a.length
       lia
      ·show (pendingOf d).size - 2+1 < a.length
       lia
     rw [aE8 (by decide)]
     exact wpS_pure ⟨rfl,I,N5,by lia⟩
   ·rintro ⟨Y,u4⟩ d ⟨v,a,m,p⟩
    refine ⟨v,a,m,?_⟩
    rcases p with p | p
    ·exact p
    ·have:(arrOf st).size<=max 0 (arrOf st).size:=Nat.le_max_right _ _
     have h3:a.length+max 0 (arrOf st).size<=a0.size:=p
     lia
   ·have:=auu fun r J=>(N.ok r J).1
    have:=N.len
    lia
  ·rintro ⟨Y,u4⟩ d ⟨v,a,m,p⟩
   dsimp only at v ⊢
   subst v
   dsimp only
   refine wpS_pure (h d m.f m.perm ?_)
   rw [m.arr]
   match a,p with
   | [],_=>exact List.Pairwise.nil
   | [x],_=>simpa [flat] using (m.ok x (by simp)).2
end
end TS
namespace L2
open PySem PySem.Spec PyProof.Rows
mutual
inductive Rep (H:Hp):V->PyData->Prop
 | non:Rep H .non .none
 | bl (b:Bool):Rep H (.bl b) (.bool b)
 | int (i:Int):Rep H (.int i) (.int i)
 | str (x:Str):Rep H (.str x) (.str x)
 | lst {a:Addr} {xs:List V} {ds:List PyData}:H a=some (.lst xs)->Reps H xs ds->Rep H (.ref a) (.list ds)
 | tup {a:Addr} {xs:List V} {ds:List PyData}:H a=some (.tup xs)->Reps H xs ds->Rep H (.ref a) (.tuple ds)
inductive Reps (H:Hp):List V->List PyData->Prop
 | nil:Reps H [] []
 | cons {v:V} {vs:List V} {d:PyData} {ds:List PyData}:Rep H v d->Reps H vs ds->Reps H (v :: vs) (d :: ds)
end
mutual
theorem Rep.same {H H':Hp} (s:Same H H'):∀ {v:V} {d:PyData},Rep H v d->Rep H' v d
 | _,_,.non => .non
 | _,_,.bl b => .bl b
 | _,_,.int i => .int i
 | _,_,.str x => .str x
 | _,_,.lst h r => .lst (s _ _ h) (Reps.same s r)
 | _,_,.tup h r => .tup (s _ _ h) (Reps.same s r)
theorem Reps.same {H H':Hp} (s:Same H H'):∀ {vs:List V} {ds:List PyData},Reps H vs ds->Reps H' vs ds
 | _,_,.nil => .nil
 | _,_,.cons r t => .cons (Rep.same s r) (Reps.same s t)
end
section
variable {X:Cx} {pins:List (Addr × Obj)} {σ:St} {H:Hp} {s:Shared}
mutual
theorem Rep.reads (I:Inv X pins σ H s):∀ {v:V} {d:PyData} {u:Value},Rep H v d->RelV v u->∃ as,Reads s.heap u d as
 | _,_,_,.non,r=>by cases r;exact ⟨_,.none⟩
 | _,_,_,.bl b,r=>by cases r;exact ⟨_,.bool b⟩
 | _,_,_,.int i,r=>by obtain ⟨t,rfl⟩:=r;exact ⟨_,.int i t⟩
 | _,_,_,.str x,r=>by obtain ⟨t,rfl⟩:=r;exact ⟨_,.str x t⟩
 | _,_,_,.lst (a:=a) (xs:=xs) h q,r=>by
  cases r
  obtain ⟨_,its,n,g,e⟩:=(show ObjOk X.prog X.w H s.heap a (.lst xs) from I.hok a _ h)
  obtain ⟨as,f⟩:=Reps.reads I q g
  exact ⟨_,.list e rfl rfl (by simpa using f)⟩
 | _,_,_,.tup (a:=a) (xs:=xs) h q,r=>by
  cases r
  obtain ⟨_,its,g,o,e,c,n,dd⟩:=(show ObjOk X.prog X.w H s.heap a (.tup xs) from I.hok a _ h)
  obtain ⟨as,f⟩:=Reps.reads I q g
  exact ⟨_,.tuple e c dd (by simpa using f)⟩
theorem Reps.reads (I:Inv X pins σ H s):∀ {vs:List V} {ds:List PyData} {us:List Value},Reps H vs ds->Vals vs us->∃ as,ReadsAll s.heap us ds as
 | _,_,_,.nil,.nil=>⟨_,.nil⟩
 | _,_,_,.cons r t,.cons q qs=>by
  obtain ⟨as,a⟩:=Rep.reads I r q
  obtain ⟨bs,rb⟩:=Reps.reads I t qs
  exact ⟨_,.cons a rb⟩
end
end
mutual
def aas:PyData->Bool
 | .none | .int _=>true
 | .list xs | .tuple xs=>plainDs xs
 | _=>false
def plainDs:List PyData->Bool
 | []=>true
 | x :: xs=>aas x && plainDs xs
end
mutual
theorem ada:∀ (d:PyData),aas d=true->d.canLay0=true
 | .none,_=>by simp [PyData.canLay0]
 | .int _,_=>by simp [PyData.canLay0]
 | .list xs,h=>by simp only [PyData.canLay0];exact plain_lays xs (by simpa [aas] using h)
 | .tuple xs,h=>by simp only [PyData.canLay0];exact plain_lays xs (by simpa [aas] using h)
 | .bool _,h=>by simp [aas] at h
 | .str _,h=>by simp [aas] at h
 | .dict _,h=>by simp [aas] at h
theorem plain_lays:∀ (ds:List PyData),plainDs ds=true->PyData.canLayAll0 ds=true
 | [],_=>by simp [PyData.canLayAll0]
 | x :: xs,h=>by
  have h':aas x=true/\plainDs xs=true:=by simpa [plainDs] using h
  simp only [PyData.canLayAll0,ada x h'.1,plain_lays xs h'.2,Bool.and_self]
end
mutual
theorem ag6:∀ (d e:PyData),aas d=true->aas e=true->(PyData.eqv d e=true ↔ d=e)
 | .none,e,_,h=>by cases e <;> simp_all [aas,PyData.eqv]
 | .int i,e,_,h=>by cases e <;> simp_all [aas,PyData.eqv]
 | .list xs,e,g,h=>by
  cases e with
  | list ys=>simp only [PyData.eqv,PyData.list.injEq];exact eqvAll_plain xs ys (by simpa [aas] using g) (by simpa [aas] using h)
  | _=>simp_all [aas,PyData.eqv]
 | .tuple xs,e,g,h=>by
  cases e with
  | tuple ys=>simp only [PyData.eqv,PyData.tuple.injEq];exact eqvAll_plain xs ys (by simpa [aas] using g) (by simpa [aas] using h)
  | _=>simp_all [aas,PyData.eqv]
 | .bool _,_,h,_=>by simp [aas] at h
 | .str _,_,h,_=>by simp [aas] at h
 | .dict _,_,h,_=>by simp [aas] at h
theorem eqvAll_plain:∀ (ds es:List PyData),plainDs ds=true->plainDs es=true->(PyData.eqvAll ds es=true ↔ ds=es)
 | [],[],_,_=>by simp [PyData.eqvAll]
 | [],_ :: _,_,_=>by simp [PyData.eqvAll]
 | _ :: _,[],_,_=>by simp [PyData.eqvAll]
 | x :: xs,y :: ys,g,h=>by
  have g':aas x=true/\plainDs xs=true:=by simpa [plainDs] using g
  have h':aas y=true/\plainDs ys=true:=by simpa [plainDs] using h
  simp only [PyData.eqvAll,aG3,List.cons.injEq,ag6 x y g'.1 h'.1,eqvAll_plain xs ys g'.2 h'.2]
end
theorem afm (ds:List PyData):plainDs ds=true ↔ ∀ d∈ds,aas d=true:=by
 induction ds with
 | nil=>simp [plainDs]
 | cons d ds ih=>simp [plainDs,ih]
def rEqD:R2:=fun x y H Q=>∃ d e,Rep H x d/\Rep H y e/\aas d=true/\aas e=true/\d.depth<=60/\Q (.bl (PyData.eqv d e)) H
def rNeD:R2:=fun x y H Q=>∃ d e,Rep H x d/\Rep H y e/\aas d=true/\aas e=true/\d.depth<=60/\Q (.bl (!PyData.eqv d e)) H
section
variable {X:Cx}
theorem ajd (i:X.A.units+64 < cLine):OpR X (compareOp .Eq) rEqD:=by
 intro pins s σ H x y v u Q I b c h
 obtain ⟨d,e,a,re,hd,f,hz,q⟩:=h
 obtain ⟨as,g⟩:=a.reads I b
 obtain ⟨bs,rb⟩:=re.reads I c
 refine SeqAt.compareEq_reads g rb (ada _ hd) (ada _ f) ?_ ⟨.bl _,H,I,rfl,q⟩
 have:=Nat.min_le_left d.depth e.depth
 lia
theorem aea (i:X.A.units+64 < cLine):OpR X (compareOp .NotEq) rNeD:=by
 intro pins s σ H x y v u Q I b c h
 obtain ⟨d,e,a,re,hd,f,hz,q⟩:=h
 obtain ⟨as,g⟩:=a.reads I b
 obtain ⟨bs,rb⟩:=re.reads I c
 refine SeqAt.compareNe_reads g rb (ada _ hd) (ada _ f) ?_ ⟨.bl _,H,I,rfl,q⟩
 have:=Nat.min_le_left d.depth e.depth
 lia
def rInD (neg:Bool):R2:=fun x y H Q=>∃ d es,Rep H x d/\(Rep H y (.list es)\/Rep H y (.tuple es))/\aas d=true/\plainDs es=true/\d.depth<=60/\Q (.bl (if neg then !es.any (fun z=>PyData.eqv z d) else es.any (fun z=>PyData.eqv z d))) H
theorem ak6 (i:X.A.units+64 < cLine):OpR X (compareOp .NotIn) (rInD true):=by
 intro pins s σ H x y v u Q I g a h
 obtain ⟨d,es,f,re,hd,b,hz,q⟩:=h
 obtain ⟨as,c⟩:=f.reads I g
 have hm:=Nat.min_le_right (PyData.depthAll es) d.depth
 rcases re with re | re
 ·obtain ⟨bs,rb⟩:=re.reads I a
  exact SeqAt.notIn_list_reads rb c (plain_lays _ b) (ada _ hd) (by lia) ⟨.bl _,H,I,rfl,q⟩
 ·obtain ⟨bs,rb⟩:=re.reads I a
  exact SeqAt.notIn_tuple_reads rb c (plain_lays _ b) (ada _ hd) (by lia) ⟨.bl _,H,I,rfl,q⟩
def rIsi (K:Frag):List V->Hp->VK->Prop:=fun xs H Q=>∃ (x:V) (T:String) (t:Value) (b:Bool),xs=[x,.ty T]/\TyOf K H x t/\kitOne K t (.type T)=some b/\Q (.bl b) H
theorem af7:abd X (.builtin "isinstance") (rIsi X.K):=by
 intro pins s σ H xs us Q I r h
 obtain ⟨x,T,t,b,rfl,ty,e,q⟩:=h
 obtain ⟨u,c,rfl,d,a⟩:=aqg r
 cases a
 exact ar2 I d ty e fun f=>⟨.bl b,H,I.tok _,rfl,q⟩
end
end L2
namespace HT
open PySem PyProof.Rows
section
open PySem.SeqAt
open PySem.AutoSeq1 (wpAny_loadPart')
open PySem.MeetsSeq PySem.MeetsSeq2 PySem.MeetsSeq3
end
section
variable {prog:Program} {w:World} {A:Around} {E:Value->Shared->Prop} {s:Shared}
end
end HT
namespace L2
open PySem PySem.Spec PyProof.Rows
section
variable {X:Cx}
end
end L2
namespace HT
open PySem PyProof.Rows
theorem aka (val:Nat->Int):∀ k,argBest (fun i j=>decide (val i > val j)) k<=k/\∀ i,i<=k->val i<=val (argBest (fun i j=>decide (val i > val j)) k)
 | 0 => ⟨Nat.le_refl _, fun i hi => by have:i=0 := by lia
                                       subst this;exact Int.le_refl _⟩
 | k+1=>by
  obtain ⟨b,a⟩:=aka val k
  unfold argBest
  by_cases hc:val (k+1) > val (argBest (fun i j=>decide (val i > val j)) k)
  ·rw [aE7 (aD6 hc)]
   refine ⟨aA6 _,fun i hi=>?_⟩
   by_cases e:i=k+1
   ·subst e;exact Int.le_refl _
   ·have:=a i (by lia)
    exact Int.le_trans this (Int.le_of_lt hc)
  ·rw [aE8 (by simpa using hc)]
   refine ⟨by lia,fun i hi=>?_⟩
   by_cases e:i=k+1
   ·subst e;lia
   ·exact a i (by lia)
theorem akb (val:Nat->Int):∀ k,argBest (fun i j=>decide (val i < val j)) k<=k/\∀ i,i<=k->val (argBest (fun i j=>decide (val i < val j)) k)<=val i
 | 0 => ⟨Nat.le_refl _, fun i hi => by have:i=0 := by lia
                                       subst this;exact Int.le_refl _⟩
 | k+1=>by
  obtain ⟨b,a⟩:=akb val k
  unfold argBest
  by_cases hc:val (k+1) < val (argBest (fun i j=>decide (val i < val j)) k)
  ·rw [aE7 (aD6 hc)]
   refine ⟨aA6 _,fun i hi=>?_⟩
   by_cases e:i=k+1
   ·subst e;exact Int.le_refl _
   ·have:=a i (by lia)
    exact Int.le_trans (Int.le_of_lt hc) this
  ·rw [aE8 (by simpa using hc)]
   refine ⟨by lia,fun i hi=>?_⟩
   by_cases e:i=k+1
   ·subst e;lia
   ·exact a i (by lia)
def val (ns:List Int) (i:Nat):Int:=(ns[i]?).getD 0
theorem ads {us:List Value} {ns:List Int} (hi:IntsAre us ns) (i:Nat) (v:Value) (h:us.toArray[i]?=some v):∃ t,v=.int (val ns i) t:=by
 induction hi generalizing i with
 | nil=>simp at h
 | cons n t r ih =>
  cases i with
  | zero=>simp at h;subst h;exact ⟨t,by simp [val]⟩
  | succ i =>
   obtain ⟨t',e⟩:=ih i (by simpa using h)
   exact ⟨t',by simpa [val] using e⟩
theorem ahw {ns:List Int} {i:Nat} (h:i < ns.length):val ns i∈ns:=by
 unfold val
 rw [aA0 h]
 exact List.getElem_mem h
theorem aje {ns:List Int} {x:Int} (h:x∈ns):∃ i,i < ns.length/\val ns i=x:=by
 obtain ⟨i,hi,e⟩:=aG8.mp h
 exact ⟨i,hi,by unfold val;rw [aA0 hi];exact e⟩
section
variable {prog:Program} {w:World} {A:Around} {E:Value->Shared->Prop} {s:Shared}
theorem max_list {l:Addr} {us:List Value} {ns:List Int} {Q:Value->Shared->Prop} (hh:A.handled=none) (c:s.heap.IsList l us.toArray) (hi:IntsAre us ns) (g:ns ≠ [])
  (h:∀ m t h' f,m∈ns->(∀ x∈ns,x<=m)->(∀ b o,s.heap.get? b=some o->h'.get? b=some o)->Q (.int m t) { s with heap:=h',toks:=f }) :
  wpAny (model prog w) A (call (.builtin "max") [.ref l]) Q E s:=by
 have a:l < s.heap.objs.size:=by obtain ⟨_,e,_⟩:=c;exact aI3 e
 have hz:us.length=ns.length:=hi.length
 have y:0 < ns.length:=aF1.mpr g
 refine call_max_walk (aJ3 c ?_)
 refine ⟨_,[s.heap.objs.size,l],_,_,_,_,_,rfl,Walks.list (A:=A.in1) hh _ l (aB5 a) us.toArray,⟨⟨_,aI4 _ rfl,rfl,rfl⟩,c.push _⟩,fun b hb=>?_,by simp;lia,CmpOf.ints_gt (val ns) (fun i v=>ads hi i v),fun v h' f q n=>?_⟩
 ·show b < (s.heap.push _).objs.size
  rw [aJ0]
  rcases aA8.mp hb with rfl | hb
  ·exact aH8 _
  ·rcases aA8.mp hb with rfl | hb
   ·exact aF0 a
   ·cases hb
 ·obtain ⟨t,e⟩:=ads hi _ _ q
  obtain ⟨b1,j⟩:=aka (val ns) (us.toArray.size - 1)
  have d:us.toArray.size=ns.length:=by simp [hz]
  rw [d] at b1 j
  subst e
  refine h _ t h' f (ahw (by rw [d];lia)) (fun x r=>?_) fun b o e=>?_
  ·obtain ⟨i,p,e⟩:=aje r
   have:=j i (by lia)
   rw [e] at this
   rw [d]
   exact this
  ·refine n b o (fun hm=>?_) (aI2 _ e)
   rcases aA8.mp hm with u | hm
   ·exact absurd (u ▸ aI3 e) (aF6 _)
   ·cases hm
theorem min_list {l:Addr} {us:List Value} {ns:List Int} {Q:Value->Shared->Prop} (hh:A.handled=none) (c:s.heap.IsList l us.toArray) (hi:IntsAre us ns) (g:ns ≠ [])
  (h:∀ m t h' f,m∈ns->(∀ x∈ns,m<=x)->(∀ b o,s.heap.get? b=some o->h'.get? b=some o)->Q (.int m t) { s with heap:=h',toks:=f }) :
  wpAny (model prog w) A (call (.builtin "min") [.ref l]) Q E s:=by
 have a:l < s.heap.objs.size:=by obtain ⟨_,e,_⟩:=c;exact aI3 e
 have hz:us.length=ns.length:=hi.length
 have y:0 < ns.length:=aF1.mpr g
 refine call_min_walk (aJ3 c ?_)
 refine ⟨_,[s.heap.objs.size,l],_,_,_,_,_,rfl,Walks.list (A:=A.in1) hh _ l (aB5 a) us.toArray,⟨⟨_,aI4 _ rfl,rfl,rfl⟩,c.push _⟩,fun b hb=>?_,by simp;lia,CmpOf.ints_lt (val ns) (fun i v=>ads hi i v),fun v h' f q n=>?_⟩
 ·show b < (s.heap.push _).objs.size
  rw [aJ0]
  rcases aA8.mp hb with rfl | hb
  ·exact aH8 _
  ·rcases aA8.mp hb with rfl | hb
   ·exact aF0 a
   ·cases hb
 ·obtain ⟨t,e⟩:=ads hi _ _ q
  obtain ⟨b1,j⟩:=akb (val ns) (us.toArray.size - 1)
  have d:us.toArray.size=ns.length:=by simp [hz]
  rw [d] at b1 j
  subst e
  refine h _ t h' f (ahw (by rw [d];lia)) (fun x r=>?_) fun b o e=>?_
  ·obtain ⟨i,p,e⟩:=aje r
   have:=j i (by lia)
   rw [e] at this
   rw [d]
   exact this
  ·refine n b o (fun hm=>?_) (aI2 _ e)
   rcases aA8.mp hm with u | hm
   ·exact absurd (u ▸ aI3 e) (aF6 _)
   ·cases hm
theorem max_tup {l:Addr} {us:List Value} {ns:List Int} {Q:Value->Shared->Prop} (hh:A.handled=none) (f:s.heap.IsTuple l us.toArray) (hi:IntsAre us ns) (j:ns ≠ [])
  (h:∀ m t h' d,m∈ns->(∀ x∈ns,x<=m)->(∀ b o,s.heap.get? b=some o->h'.get? b=some o)->Q (.int m t) { s with heap:=h',toks:=d }) :
  wpAny (model prog w) A.in1 (pyIter (.ref l)) (fun it a=>∃ I fp r n P St p,it=.ref I/\Walks prog w A.in1 I fp r n P St/\St 0 a.heap/\(∀ b∈fp,b < a.heap.objs.size)/\0 < n/\CmpOf prog w A.in1 .Gt P p /\
   ∀ v h' d,P (argBest p (n - 1)) v->(∀ b o,b ∉ r->a.heap.get? b=some o->h'.get? b=some o)->Q v { a with heap:=h',toks:=d }) E s:=by
 have c:l < s.heap.objs.size:=by obtain ⟨_,e,_⟩:=f;exact aI3 e
 have hz:us.length=ns.length:=hi.length
 have D:0 < ns.length:=aF1.mpr j
 refine wpAny_pyIter_tuple f ?_
 refine ⟨_,[s.heap.objs.size,l],[_],_,_,_,_,rfl,Walks.tuple (A:=A.in1) hh _ l (aB5 c) us.toArray,⟨⟨_,aI4 _ rfl,rfl,rfl⟩,f.push _⟩,fun b hb=>?_,by simp;lia,CmpOf.ints_gt (val ns) (fun i v=>ads hi i v),fun v h' d z u=>?_⟩
 ·show b < (s.heap.push _).objs.size
  rw [aJ0]
  rcases aA8.mp hb with rfl | hb
  ·exact aH8 _
  ·rcases aA8.mp hb with rfl | hb
   ·exact aF0 c
   ·cases hb
 ·obtain ⟨t,e⟩:=ads hi _ _ z
  obtain ⟨b1,q⟩:=aka (val ns) (us.toArray.size - 1)
  have g:us.toArray.size=ns.length:=by simp [hz]
  rw [g] at b1 q
  subst e
  refine h _ t h' d (ahw (by rw [g];lia)) (fun x B=>?_) fun b o e=>?_
  ·obtain ⟨i,y,e⟩:=aje B
   have:=q i (by lia)
   rw [e] at this
   rw [g]
   exact this
  ·refine u b o (fun hm=>?_) (aI2 _ e)
   rcases aA8.mp hm with C | hm
   ·exact absurd (C ▸ aI3 e) (aF6 _)
   ·cases hm
theorem min_tup {l:Addr} {us:List Value} {ns:List Int} {Q:Value->Shared->Prop} (hh:A.handled=none) (f:s.heap.IsTuple l us.toArray) (hi:IntsAre us ns) (j:ns ≠ [])
  (h:∀ m t h' d,m∈ns->(∀ x∈ns,m<=x)->(∀ b o,s.heap.get? b=some o->h'.get? b=some o)->Q (.int m t) { s with heap:=h',toks:=d }) :
  wpAny (model prog w) A.in1 (pyIter (.ref l)) (fun it a=>∃ I fp r n P St p,it=.ref I/\Walks prog w A.in1 I fp r n P St/\St 0 a.heap/\(∀ b∈fp,b < a.heap.objs.size)/\0 < n/\CmpOf prog w A.in1 .Lt P p /\
   ∀ v h' d,P (argBest p (n - 1)) v->(∀ b o,b ∉ r->a.heap.get? b=some o->h'.get? b=some o)->Q v { a with heap:=h',toks:=d }) E s:=by
 have c:l < s.heap.objs.size:=by obtain ⟨_,e,_⟩:=f;exact aI3 e
 have hz:us.length=ns.length:=hi.length
 have D:0 < ns.length:=aF1.mpr j
 refine wpAny_pyIter_tuple f ?_
 refine ⟨_,[s.heap.objs.size,l],[_],_,_,_,_,rfl,Walks.tuple (A:=A.in1) hh _ l (aB5 c) us.toArray,⟨⟨_,aI4 _ rfl,rfl,rfl⟩,f.push _⟩,fun b hb=>?_,by simp;lia,CmpOf.ints_lt (val ns) (fun i v=>ads hi i v),fun v h' d z u=>?_⟩
 ·show b < (s.heap.push _).objs.size
  rw [aJ0]
  rcases aA8.mp hb with rfl | hb
  ·exact aH8 _
  ·rcases aA8.mp hb with rfl | hb
   ·exact aF0 c
   ·cases hb
 ·obtain ⟨t,e⟩:=ads hi _ _ z
  obtain ⟨b1,q⟩:=akb (val ns) (us.toArray.size - 1)
  have g:us.toArray.size=ns.length:=by simp [hz]
  rw [g] at b1 q
  subst e
  refine h _ t h' d (ahw (by rw [g];lia)) (fun x B=>?_) fun b o e=>?_
  ·obtain ⟨i,y,e⟩:=aje B
   have:=q i (by lia)
   rw [e] at this
   rw [g]
   exact this
  ·refine u b o (fun hm=>?_) (aI2 _ e)
   rcases aA8.mp hm with C | hm
   ·exact absurd (C ▸ aI3 e) (aF6 _)
   ·cases hm
end
end HT
namespace L2
open PySem PySem.Spec PyProof.Rows
section
variable {X:Cx}
def aeh (ns:List Int) (m:Int):Prop:=m∈ns/\∀ x∈ns,x<=m
def aqu (ns:List Int) (m:Int):Prop:=m∈ns/\∀ x∈ns,m<=x
def af8 (K:Frag):List V->Hp->VK->Prop:=fun xs H Q=>∃ (a:Addr) (ns:List Int),xs=[.ref a]/\(SqL K H a (ns.map V.int)\/SqT K H a (ns.map V.int))/\ns ≠ []/\∀ m,aeh ns m->Q (.int m) H
def al8 (K:Frag):List V->Hp->VK->Prop:=fun xs H Q=>∃ (a:Addr) (ns:List Int),xs=[.ref a]/\(SqL K H a (ns.map V.int)\/SqT K H a (ns.map V.int))/\ns ≠ []/\∀ m,aqu ns m->Q (.int m) H
theorem afd (j:X.calm=true):abd X (.builtin "max") (af8 X.K):=by
 intro pins s σ H xs us Q I r h
 obtain ⟨a,ns,rfl,ha,b,q⟩:=h
 obtain ⟨u,rfl,n⟩:=ac0 r
 cases n
 rcases ha with ha | ha
 ·obtain ⟨its,d,f,_⟩:=I.list ha
  have i:IntsAre its.toArray.toList ns:=acb d
  exact HT.max_list (I.ok.hd j) f.isList (by simpa using i) b fun m t h' l g c kp=>⟨.int m,H,I.kept kp,⟨_,rfl⟩,q m ⟨g,c⟩⟩
 ·obtain ⟨its,d,f,_⟩:=I.tuple ha
  have i:IntsAre its.toArray.toList ns:=acb d
  refine call_max_walk (HT.max_tup (I.ok.hd j) f (by simpa using i) b fun m t h' l g c kp=>⟨.int m,H,I.kept kp,⟨_,rfl⟩,q m ⟨g,c⟩⟩)
theorem asm (j:X.calm=true):abd X (.builtin "min") (al8 X.K):=by
 intro pins s σ H xs us Q I r h
 obtain ⟨a,ns,rfl,ha,b,q⟩:=h
 obtain ⟨u,rfl,n⟩:=ac0 r
 cases n
 rcases ha with ha | ha
 ·obtain ⟨its,d,f,_⟩:=I.list ha
  have i:IntsAre its.toArray.toList ns:=acb d
  exact HT.min_list (I.ok.hd j) f.isList (by simpa using i) b fun m t h' l g c kp=>⟨.int m,H,I.kept kp,⟨_,rfl⟩,q m ⟨g,c⟩⟩
 ·obtain ⟨its,d,f,_⟩:=I.tuple ha
  have i:IntsAre its.toArray.toList ns:=acb d
  refine call_min_walk (HT.min_tup (I.ok.hd j) f (by simpa using i) b fun m t h' l g c kp=>⟨.int m,H,I.kept kp,⟨_,rfl⟩,q m ⟨g,c⟩⟩)
end
def tTru (K:Frag) (ta:TE):TT:=fun σ H Q=>ta σ H fun x H'=>∃ k,TruV K x H' k/\Q k H'
def rIsN:R2:=fun x y H Q=>y=.non/\Q (.bl (decide (x=.non))) H
def awj:R2:=fun x y H Q=>y=.non/\Q (.bl (!decide (x=.non))) H
section
variable {X:Cx} {a:Expr} {ta:TE}
theorem az0 (ha:PE X a ta) (b:∀ whole,isTrue a X.env whole=(do let v ← whole;standAt a.pos;holding [v] (truthy v)):=by intro _;rfl):PT X a (tTru X.K ta):=at9 ha b
def adi (K:Frag):R2:=fun x y H Q=>rIxL K x y H Q\/rIxT K x y H Q
theorem aaq:IxR X (adi X.K):=ix_list.or azi
theorem axn {i j n:Int} {c d:Nat} {f p2 a:Pos} (h:i ^ j.toNat=n) (b:CPow i j):PE X (.BinOp (.Constant (.int i) c f) .Pow (.Constant (.int j) d p2) a) (tC (.int n)):=by
 intro pins s σ H Q I q
 subst h
 exact aav aze aad aad pins s σ H Q I ⟨i,j,rfl,rfl,b,q⟩
theorem apa:OpR X (compareOp .Is) rIsN:=azf
theorem aih:OpR X (compareOp .IsNot) awj:=awv
end
section
variable {σ:St} {H:Hp} {D:Ends} {K:Frag}
theorem af9 {a:Addr} {xs:List V} {i:Int} {v:V} {Q:VK} (ha:H a=some (.lst xs)) (b:atI xs i=some v) (h:Q v H):adi K (.ref a) (.int i) H Q:=.inl (azs ha b h)
theorem auv {a:Addr} {xs:List V} {i:Int} {v:V} {Q:VK} (ha:H a=some (.tup xs)) (b:atI xs i=some v) (h:Q v H):adi K (.ref a) (.int i) H Q:=.inr (azt ha b h)
theorem auw {a:Addr} {xs:List V} {i:Int} {v:V} {Q:VK} (ha:SqL K H a xs) (b:atI xs i=some v) (h:Q v H):adi K (.ref a) (.int i) H Q:=.inl (azx ha b h)
theorem acd {A B:Prop} (h:A):if true=true then A else B:=by rw [aE7 rfl];exact h
theorem adb {A B:Prop} (h:B):if false=true then A else B:=by rw [aE8 aA9];exact h
theorem akc {A B:Prop} (h:B):if (!true)=true then A else B:=by rw [aE8 (by decide)];exact h
theorem akd {A B:Prop} (h:A):if (!false)=true then A else B:=by rw [aE7 (by decide)];exact h
theorem aux {c:Prop} [Decidable c] {A B:Prop} (a:c) (h:B):if (!decide c)=true then A else B:=by rw [aD6 a];exact akc h
theorem auy {c:Prop} [Decidable c] {A B:Prop} (a:¬ c) (h:A):if (!decide c)=true then A else B:=by rw [aD5 a];exact akd h
theorem aii {K:Frag}:kitOne K (.type "NoneType") (.type "int")=some false:=by first | rfl | decide
theorem ah3 {K:Frag}:kitOne K (.type "NoneType") (.type "bool")=some false:=by first | rfl | decide
theorem ag7 {K:Frag}:kitOne K (.type "NoneType") (.type "tuple")=some false:=by first | rfl | decide
theorem ah4 {K:Frag}:kitOne K (.type "NoneType") (.type "list")=some false:=by first | rfl | decide
theorem aij {K:Frag}:kitOne K (.type "NoneType") (.type "str")=some false:=by first | rfl | decide
theorem ah5 {K:Frag}:kitOne K (.type "NoneType") (.type "dict")=some false:=by first | rfl | decide
theorem amy {K:Frag}:kitOne K (.type "bool") (.type "int")=some true:=by first | rfl | decide
theorem alj {K:Frag}:kitOne K (.type "bool") (.type "bool")=some true:=by first | rfl | decide
theorem ake {K:Frag}:kitOne K (.type "bool") (.type "tuple")=some false:=by first | rfl | decide
theorem alk {K:Frag}:kitOne K (.type "bool") (.type "list")=some false:=by first | rfl | decide
theorem amz {K:Frag}:kitOne K (.type "bool") (.type "str")=some false:=by first | rfl | decide
theorem alm {K:Frag}:kitOne K (.type "bool") (.type "dict")=some false:=by first | rfl | decide
theorem aol {K:Frag}:kitOne K (.type "int") (.type "int")=some true:=by first | rfl | decide
theorem am0 {K:Frag}:kitOne K (.type "int") (.type "bool")=some false:=by first | rfl | decide
theorem aln {K:Frag}:kitOne K (.type "int") (.type "tuple")=some false:=by first | rfl | decide
theorem am1 {K:Frag}:kitOne K (.type "int") (.type "list")=some false:=by first | rfl | decide
theorem aom {K:Frag}:kitOne K (.type "int") (.type "str")=some false:=by first | rfl | decide
theorem am2 {K:Frag}:kitOne K (.type "int") (.type "dict")=some false:=by first | rfl | decide
theorem aon {K:Frag}:kitOne K (.type "str") (.type "int")=some false:=by first | rfl | decide
theorem am3 {K:Frag}:kitOne K (.type "str") (.type "bool")=some false:=by first | rfl | decide
theorem alo {K:Frag}:kitOne K (.type "str") (.type "tuple")=some false:=by first | rfl | decide
theorem am4 {K:Frag}:kitOne K (.type "str") (.type "list")=some false:=by first | rfl | decide
theorem aoo {K:Frag}:kitOne K (.type "str") (.type "str")=some true:=by first | rfl | decide
theorem am5 {K:Frag}:kitOne K (.type "str") (.type "dict")=some false:=by first | rfl | decide
theorem am6 {K:Frag}:kitOne K (.type "list") (.type "int")=some false:=by first | rfl | decide
theorem alp {K:Frag}:kitOne K (.type "list") (.type "bool")=some false:=by first | rfl | decide
theorem akf {K:Frag}:kitOne K (.type "list") (.type "tuple")=some false:=by first | rfl | decide
theorem alq {K:Frag}:kitOne K (.type "list") (.type "list")=some true:=by first | rfl | decide
theorem am7 {K:Frag}:kitOne K (.type "list") (.type "str")=some false:=by first | rfl | decide
theorem alr {K:Frag}:kitOne K (.type "list") (.type "dict")=some false:=by first | rfl | decide
theorem als {K:Frag}:kitOne K (.type "tuple") (.type "int")=some false:=by first | rfl | decide
theorem akg {K:Frag}:kitOne K (.type "tuple") (.type "bool")=some false:=by first | rfl | decide
theorem ajf {K:Frag}:kitOne K (.type "tuple") (.type "tuple")=some true:=by first | rfl | decide
theorem akh {K:Frag}:kitOne K (.type "tuple") (.type "list")=some false:=by first | rfl | decide
theorem alt {K:Frag}:kitOne K (.type "tuple") (.type "str")=some false:=by first | rfl | decide
theorem aki {K:Frag}:kitOne K (.type "tuple") (.type "dict")=some false:=by first | rfl | decide
theorem am8 {K:Frag}:kitOne K (.type "dict") (.type "int")=some false:=by first | rfl | decide
theorem alu {K:Frag}:kitOne K (.type "dict") (.type "bool")=some false:=by first | rfl | decide
theorem akj {K:Frag}:kitOne K (.type "dict") (.type "tuple")=some false:=by first | rfl | decide
theorem alv {K:Frag}:kitOne K (.type "dict") (.type "list")=some false:=by first | rfl | decide
theorem am9 {K:Frag}:kitOne K (.type "dict") (.type "str")=some false:=by first | rfl | decide
theorem alw {K:Frag}:kitOne K (.type "dict") (.type "dict")=some true:=by first | rfl | decide
end
end L2
namespace L2
open PySem
section
variable {σ:St} {H:Hp} {K:Frag}
theorem abf {p:Addr} {o:HO} (a:H p=none):Same H (upd H p o):=fun b u e=>by rw [aae (aan e a)];exact e
theorem Same.at {H H':Hp} {b:Addr} {o:HO} (s:Same H H') (h:H b=some o):H' b=some o:=s b o h
end
section
variable {σ:St} {H:Hp} {K:Frag}
abbrev NewL (Q:VK):List V->Hp->Prop:=fun xs H1=>xs.length<=sizeLine/\∀ p,H1 p=none->Q (.ref p) (upd H1 p (.lst xs))
theorem axo {t:TA} {Q:VK} (h:t σ H (NewL Q)):tLst t σ H Q:=h
end
end L2
namespace Gr
inductive Walk (T:Int->Int->Prop) (u:Int):Nat->Int->Prop
 | refl:Walk T u 0 u
 | step {k:Nat} {v w:Int}:Walk T u k v->T v w->Walk T u (k+1) w
def Dist (T:Int->Int->Prop) (u v:Int) (d:Nat):Prop:=Walk T u d v/\∀ k,Walk T u k v->d<=k
theorem Dist.uniq {T:Int->Int->Prop} {u v:Int} {d e:Nat} (h:Dist T u v d) (g:Dist T u v e):d=e:=Nat.le_antisymm (h.2 _ g.1) (g.2 _ h.1)
theorem Dist.self (T:Int->Int->Prop) (u:Int):Dist T u u 0:=⟨.refl,fun _ _=>aF2 _⟩
theorem Dist.of_walk {T:Int->Int->Prop} {u v:Int} {k:Nat} (h:Walk T u k v):∃ d,d<=k/\Dist T u v d:=by
 induction k using Nat.strongRecOn with
 | ind k ih =>
  by_cases hx:∃ j,j < k/\Walk T u j v
  ·obtain ⟨j,a,w⟩:=hx
   obtain ⟨d,hd,e⟩:=ih j a w
   exact ⟨d,by lia,e⟩
  ·refine ⟨k,aA6 _,h,fun j w=>?_⟩
   by_cases a:j < k
   ·exact absurd ⟨j,a,w⟩ hx
   ·lia
theorem Dist.pred {T:Int->Int->Prop} {u w:Int} {d:Nat} (h:Dist T u w (d+1)):∃ v,T v w/\Dist T u v d:=by
 obtain ⟨b,hm⟩:=h
 cases b with
 | step hv ht =>
  rename_i v
  refine ⟨v,ht,hv,fun k a=>?_⟩
  have:=hm (k+1) (.step a ht)
  lia
theorem Dist.next {T:Int->Int->Prop} {u v w:Int} {d:Nat} (h:Dist T u v d) (t:T v w):∃ e,e<=d+1/\Dist T u w e:=Dist.of_walk (.step h.1 t)
structure Bfs (T:Int->Int->Prop) (a:Int) (line:List Int) (ds:List Nat) (at_:Nat):Prop where
 len:ds.length=line.length
 fst:line[0]?=some a
 nd:line.Nodup
 le:at_<=line.length
 dist:∀ (i:Nat) v d,line[i]?=some v->ds[i]?=some d->Dist T a v d
 mono:∀ (i j:Nat) d e,i<=j->ds[i]?=some d->ds[j]?=some e->d<=e
 near:∀ (i j:Nat) d e,at_<=i->ds[i]?=some d->ds[j]?=some e->e<=d+1
 done:∀ (i:Nat) v w,i < at_->line[i]?=some v->T v w->w∈line
end Gr
namespace L2
open PySem PySem.Spec PyProof.Rows
section
variable {σ:St} {H:Hp} {D:Ends} {K:Frag}
end
end L2
namespace L2
open PySem
end L2
namespace HT
open PySem PyProof.Rows
theorem ajg (ns:List Int):∀ k,k<=ns.length->preSum (val ns) k=(ns.take k).sum
 | 0,_=>by simp [preSum]
 | k+1,h=>by
  have a:=ajg ns k (by lia)
  have e:ns.take (k+1)=ns.take k ++ [ns[k]]:=by rw [aG6,aA0 (by lia)];rfl
  rw [e,List.sum_append]
  unfold preSum
  rw [a]
  unfold val
  rw [aA0 (by lia)]
  simp
section
variable {prog:Program} {w:World} {A:Around} {E:Value->Shared->Prop} {s:Shared}
theorem sum_list {l:Addr} {us:List Value} {ns:List Int} {Q:Value->Shared->Prop} (hh:A.handled=none) (c:s.heap.IsList l us.toArray) (hi:IntsAre us ns)
  (h:∀ t h' d,(∀ b o,s.heap.get? b=some o->h'.get? b=some o)->Q (.int ns.sum t) { s with heap:=h',toks:=d }) :
  wpAny (model prog w) A (call (.builtin "sum") [.ref l]) Q E s:=by
 have a:l < s.heap.objs.size:=by obtain ⟨_,e,_⟩:=c;exact aI3 e
 have hz:us.length=ns.length:=hi.length
 refine call_sum_walkG (aJ3 c ?_)
 refine ⟨_,[s.heap.objs.size,l],_,_,_,_,val ns,rfl,Walks.list (A:=A.in1) hh _ l (aB5 a) us.toArray,⟨⟨_,aI4 _ rfl,rfl,rfl⟩,c.push _⟩,fun b hb=>?_,fun i v=>ads hi i v,fun h' d t' f=>?_⟩
 ·show b < (s.heap.push _).objs.size
  rw [aJ0]
  rcases aA8.mp hb with rfl | hb
  ·exact aH8 _
  ·rcases aA8.mp hb with rfl | hb
   ·exact aF0 a
   ·cases hb
 ·have g:us.toArray.size=ns.length:=by simp [hz]
  rw [g,ajg ns _ (aA6 _),aG0]
  refine h t' h' d fun b o e=>?_
  refine f b o (fun hm=>?_) (aI2 _ e)
  rcases aA8.mp hm with j | hm
  ·exact absurd (j ▸ aI3 e) (aF6 _)
  ·cases hm
end
end HT
namespace L2
open PySem PySem.Spec PyProof.Rows
section
variable {X:Cx}
def aqv (K:Frag):List V->Hp->VK->Prop:=fun xs H Q=>∃ (a:Addr) (ns:List Int),xs=[.ref a]/\SqL K H a (ns.map V.int)/\Q (.int ns.sum) H
theorem ak7 (c:X.calm=true):abd X (.builtin "sum") (aqv X.K):=by
 intro pins s σ H xs us Q I r h
 obtain ⟨a,ns,rfl,ha,q⟩:=h
 obtain ⟨u,rfl,f⟩:=ac0 r
 cases f
 obtain ⟨its,b,d,_⟩:=I.list ha
 have g:IntsAre its.toArray.toList ns:=acb b
 exact HT.sum_list (I.ok.hd c) d.isList (by simpa using g) fun t h' i kp=>⟨.int _,H,I.kept kp,⟨_,rfl⟩,q⟩
end
section
variable {X:Cx} {pins:List (Addr × Obj)} {σ:St} {H:Hp} {s:Shared} {A:Around} {E:Value->Shared->Prop} {Q:Value->Shared->Prop} {b:Bool}
end
section
variable {X:Cx}
end
end L2
namespace HT
open PySem PyProof.Rows L2
def LtAt (A:Around) (s:Shared) (y x:Value) (b:Bool):Prop :=
 ∀ (prog:Program) (w:World) (E:Value->Shared->Prop) (Q:Value->Shared->Prop),Q (.bool b) s->wpAny (model prog w) A (richCompare .Lt y x) Q E s
section
open PySem.SeqAt
open PySem.AutoSeq1 (wpAny_loadPart')
open PySem.MeetsSeq PySem.MeetsSeq2 PySem.MeetsSeq3
inductive Its (A:Around) (s:Shared):List Value->List Value->Bool->Prop
 | nn:Its A s [] [] false
 | nc {x:Value} {ys:List Value}:Its A s [] (x :: ys) true
 | cn {x:Value} {xs:List Value}:Its A s (x :: xs) [] false
 | eq {x y:Value} {xs ys:List Value} {b:Bool}:EqAt A s x y true->Its A s xs ys b->Its A s (x :: xs) (y :: ys) b
 | ne {x y:Value} {xs ys:List Value} {b:Bool}:EqAt A s x y false->LtAt A s x y b->Its A s (x :: xs) (y :: ys) b
end
section
variable {A:Around} {s:Shared}
end
end HT
namespace L2
open PySem PySem.Spec PyProof.Rows
section
variable {X:Cx}
end
end L2
namespace L2
open PySem
end L2
namespace TS
open PySem PyProof.Rows HT
theorem apb:∀ x y:List Int,HT.lexLt x y=true->HT.lexLt y x=false
 | [],[],h=>by simp [HT.lexLt] at h
 | [],_ :: _,_=>rfl
 | _ :: _,[],h=>by simp [HT.lexLt] at h
 | a :: x,b :: y,h=>by
  rw [aeg] at h ⊢
  by_cases e:a=b
  ·subst e
   rw [aE7 rfl] at h ⊢
   exact apb x y h
  ·rw [aE8 e] at h
   rw [aE8 (fun z=>e z.symm)]
   have:=of_decide_eq_true h
   exact aD5 (by lia)
theorem asn:∀ x y z:List Int,HT.lexLt y x=false->HT.lexLt z y=false->HT.lexLt z x=false
 | _,[],[],h,_=>h
 | [],[],_ :: _,_,_=>rfl
 | _ :: _,[],_ :: _,h,_=>by simp [HT.lexLt] at h
 | _,_ :: _,[],_,h=>by simp [HT.lexLt] at h
 | [],_ :: _,_ :: _,_,_=>rfl
 | a :: x,b :: y,c :: z,h,g=>by
  rw [aeg] at h g ⊢
  by_cases e:b=a
  ·subst e
   rw [aE7 rfl] at h
   by_cases e2:c=b
   ·subst e2
    rw [aE7 rfl] at g ⊢
    exact asn x y z h g
   ·rw [aE8 e2] at g ⊢
    exact g
  ·rw [aE8 e] at h
   have h':=of_decide_eq_false h
   by_cases e2:c=b
   ·subst e2
    rw [aE8 e]
    exact h
   ·rw [aE8 e2] at g
    have g':=of_decide_eq_false g
    rw [aE8 (by lia)]
    exact aD5 (by lia)
def TI (h:Heap) (a:Addr) (ns:List Int):Prop:=∃ o xs n,h.get? a=some o/\o.cls=.type "tuple"/\o.data=.seq xs n/\IntsAre xs.toList ns
def kfV (kf:Addr->List Int):Value->List Int
 | .ref a=>kf a
 | _=>[]
section
variable {prog:Program} {w:World} {A:Around} {E:Value->Shared->Prop} {s:Shared}
theorem ah9 {fin:Bool} {Q:Bool->Shared->Prop}:∀ {xs ys:List Value} {ns c:List Int} (i:Nat),IntsAre xs ns->IntsAre ys c->(ns.length < c.length->fin=true)->(c.length<=ns.length->fin=false)->Q (HT.lexLt ns c) s ->
  PySem.W.KatLex prog w A true fin Q (xs.zip ys) i s
 | _,_,_,_,i,.nil,.nil,_,h2,q=>by
  rw [h2 (aA6 _)];exact q
 | _,_,_,_,i,.nil,.cons b u r,h1,_,q=>by
  rw [h1 (by simp)];exact q
 | _,_,_,_,i,.cons a t r,.nil,_,h2,q=>by
  rw [List.zip_nil_right,h2 (by simp)];exact q
 | _,_,_,_,i,.cons a t r,.cons b u r2,h1,h2,q=>by
  rw [List.zip_cons_cons]
  refine PySem.W.kat_cons (SeqAt.EqAt.int_int a t b u prog w _ _ ?_)
  rw [aeg] at q
  by_cases e:a=b
  ·subst e
   rw [aE7 rfl] at q
   rw [show (a == a)=true by simp]
   exact PySem.W.kat_yes (ah9 (i+1) r r2 (fun z=>h1 (by simpa using z)) (fun z=>h2 (by simpa using z)) q)
  ·rw [aE8 e] at q
   rw [show (a == b)=false by simpa using e]
   refine PySem.W.kat_no ?_
   by_cases hi:i=0
   ·subst hi
    exact oneLt_int q
   ·rw [show (true && i == 0)=false by simpa using hi]
    exact PySem.W.kat_one _ _ (PyProof.Rows.lt_int q)
def tS (h:Heap) (kf:Addr->List Int) (x:Keyed):Prop:=x.1=x.2/\∃ a,x.1=.ref a/\TI h a (kf a)
def tR (kf:Addr->List Int) (x y:Keyed):Bool:=HT.lexLt (kfV kf x.1) (kfV kf y.1)
theorem cmp_tups (h:Addr->List Int):Cmp (model prog w) A E s (tuples' true) (tS s.heap h) (tR h):=by
 refine ⟨fun x y m v Q st l q=>?_,fun x y _ _=>apb _ _,fun x y z _ _ _=>asn _ _ _⟩
 obtain ⟨I,H⟩:=x
 obtain ⟨C,G⟩:=y
 obtain ⟨_,a,i,o,xs,n,r,e2,p,d⟩:=m
 obtain ⟨_,b,j,o',ys,D,B,F,u,g⟩:=v
 dsimp only at i j
 subst i j
 rw [lt'_eq]
 refine wpS_bind (wpS_get ?_)
 rw [l]
 refine wpS_bind (wpS_lift (wpAny_attempt (PySem.W.kat_lt r p B u (ah9 0 d g (fun z=>?_) (fun z=>?_) ⟨rfl,?_⟩))))
 ·have f:=d.length;have c:=g.length
  simp at f c
  exact aD6 (by lia)
 ·have f:=d.length;have c:=g.length
  simp at f c
  exact aD5 (by lia)
 ·exact wpS_pure q
theorem aqw {vs:List Value} {ps:List Keyed} (h:ps.Perm (vs.zip vs)):(∀ p∈ps,p.1=p.2/\p.1∈vs)/\(ps.map (·.2)).Perm vs:=by
 refine ⟨fun p a=>mem_zip_self (h.mem_iff.mp a),?_⟩
 have b:=h.map (fun p=>p.2)
 have e:(vs.zip vs).map (fun p=>p.2)=vs:=List.map_snd_zip (aA6 _)
 rwa [e] at b
theorem agr {a:Addr} {vs:List Value} {n:Nat} {P:PySem.Fin->Shared->Prop} (j:s.heap.get? a=some (seqObj "list" vs.toArray n)) (c:vs.length<=sizeLine)
  (m:2<=vs.length->∀ h',(∀ b o,b ≠ a->s.heap.get? b=some o->h'.get? b=some o)->∃ κ S R,(∀ (Q:SortKind->Shared->Prop),Q κ { s with heap:=h' }->wpAny (model prog w) A (keyKind' vs.toArray) Q E { s with heap:=h' })/\Cmp (model prog w) A E { s with heap:=h' } κ S R/\(∀ v∈vs,S (v,v)) /\
   ∀ out:List Value,out.Perm vs->out.Pairwise (fun x y=>R (y,y) (x,x)=false)->P (.done (.ret .none)) { s with heap:=sortedHeap s.heap a vs out.toArray })
  (G:vs.length < 2->P (.done (.ret .none)) { s with heap:=sortedHeap s.heap a vs vs.toArray }) :
  wpAny (model prog w) A (Builtin.«list.sort» ⟨[.ref a],[]⟩) P E s:=by
 rw [list_sort_plain]
 have ha:a < s.heap.objs.size:=aI3 j
 refine aI0 (listItems_at j rfl ?_)
 refine aI0 (listUpdate_at j rfl ?_ (by rw [aB1];exact c) (aF2 _))
 obtain ⟨q,f⟩:∃ q,(s.heap.update a (Obj.mapSeq fun _ => #[])).get? a=some (seqObj "list" #[] q):=⟨_,get?_update_seq j (fun _ => #[])⟩
 refine aI0 (seqEpoch_at f rfl ?_)
 refine aI0 (wpAny_newTuple ?_ (by show vs.length<=_;exact c))
 refine aI0 (wpAny_newList ?_ (aF2 _))
 refine aI5 ?_
 have d:(((s.heap.update a (Obj.mapSeq fun _ => #[])).push (seqObj "tuple" vs.toArray 0)).push (seqObj "list" #[] 0)).get? a=some (seqObj "list" #[] q):=by
  rw [Heap.get?_push_ne _ _ _ (by rw [size_push',Heap.size_update];exact aB5 (aF0 ha)),Heap.get?_push_ne _ _ _ (by rw [Heap.size_update];exact aB5 ha)]
  exact f
 show wpAny (model prog w) A _ P E { s with heap:=((s.heap.update a (Obj.mapSeq fun _ => #[])).push (seqObj "tuple" vs.toArray 0)).push (seqObj "list" #[] 0) }
 dsimp only
 have hsz:vs.toArray.size=vs.length:=by simp
 have kp:∀ b o,b ≠ a->s.heap.get? b=some o->(((s.heap.update a (Obj.mapSeq fun _ => #[])).push (seqObj "tuple" vs.toArray 0)).push (seqObj "list" #[] 0)).get? b=some o:=fun b o hb e=>by
  refine aI2 _ (aI2 _ ?_)
  rw [Heap.get?_update_ne _ _ _ _ hb];exact e
 by_cases h2:vs.toArray.size < 2
 ·rw [aE7 h2,aE7 h2]
  refine aI0 (aI1 ?_)
  rw [StateT.run_pure]
  refine aI0 (aI1 ?_)
  dsimp only
  have r:(arrOf (SortSt.mk' general' (vs.toArray.zip vs.toArray) #[] 7 none)).map (·.2)=vs.toArray:=by
   show (vs.toArray.zip vs.toArray).map (·.2)=vs.toArray
   apply Array.toList_inj.mp
   rw [Array.toList_map,Array.toList_zip]
   exact List.map_snd_zip (aA6 _)
  rw [r]
  refine aI0 (seqEpoch_at d rfl ?_)
  refine aI0 (listUpdate_at d rfl ?_ (aF2 _) (by rw [aB1];exact Nat.le_succ_of_le c))
  simp only [bne_self_eq_false,Bool.false_eq_true,if_false]
  exact aI1 (G (by lia))
 ·rw [aE8 h2,aE8 h2]
  obtain ⟨κ,S,R,D,C,B,i⟩:=m (by lia) _ kp
  refine aI0 (D _ ?_)
  refine aI0 (aI7 (axm C (a0:=vs.toArray.zip vs.toArray) (st:=SortSt.mk' κ (vs.toArray.zip vs.toArray) #[] 7 none) (Q:=fun _ st'=>failedOf st'=none/\(arrOf st').toList.Perm (vs.zip vs)/\Srt R (arrOf st').toList) (fun x p=>?_) rfl rfl rfl rfl fun st' H K u=>⟨H,by simpa using K,u⟩) ?_ fun _ _ e=>e)
  ·have:x∈vs.zip vs:=by simpa using p
   obtain ⟨g,h⟩:=mem_zip_self this
   obtain ⟨L,J⟩:=x
   dsimp only at g h
   subst g
   exact B _ h
  rintro ⟨⟨⟩,st'⟩ u ⟨rfl,hf,F,I⟩
  dsimp only
  obtain ⟨g,h⟩:=aqw F
  have r:(arrOf st').map (·.2)=(((arrOf st').toList.map (·.2)).toArray):=by
   apply Array.toList_inj.mp
   simp
  rw [r]
  have l:((arrOf st').toList.map (·.2)).length=vs.length:=h.length_eq
  refine aI0 (seqEpoch_at d rfl ?_)
  refine aI0 (listUpdate_at d rfl ?_ (aF2 _) (by rw [aB1,l];exact Nat.le_succ_of_le c))
  rw [hf]
  simp only [bne_self_eq_false,Bool.false_eq_true,if_false]
  refine aI1 (i _ h ?_)
  rw [aF3]
  refine aH2 ?_ I
  intro x y p N M
  have ex:=(g x p).1
  have z:=(g y N).1
  obtain ⟨L,J⟩:=x
  obtain ⟨O,T⟩:=y
  dsimp only at ex z
  subst ex z
  exact M
theorem sorted_any {l:Addr} {vs:List Value} {Q:Value->Shared->Prop} (p:s.heap.IsList l vs.toArray) (a:vs.length<=sizeLine)
  (g:2<=vs.length->∀ h',(∀ b o,s.heap.get? b=some o->h'.get? b=some o)->∃ κ S R,(∀ (Q:SortKind->Shared->Prop),Q κ { s with heap:=h' }->wpAny (model prog w) A.in1.in1 (keyKind' vs.toArray) Q E { s with heap:=h' })/\Cmp (model prog w) A.in1.in1 E { s with heap:=h' } κ S R/\(∀ v∈vs,S (v,v)) /\
   ∀ out:List Value,out.Perm vs->out.Pairwise (fun x y=>R (y,y) (x,x)=false)->Q (.ref (s.heap.objs.size+1)) { s with heap:=sortedAll s.heap vs out.toArray })
  (n:vs.length < 2->Q (.ref (s.heap.objs.size+1)) { s with heap:=sortedAll s.heap vs vs.toArray }) :
  wpAny (model prog w) A (call (.builtin "sorted") [.ref l]) Q E s:=by
 refine Calls.call_function_entry kind_sorted plain_sorted entry_sorted (args_sorted1 _) ?_
 unfold Builtin.«sorted»
 refine aI0 (m:=checkCount "sorted" 1 1 _) (aI1 ?_)
 refine aI0 (collect_list p ?_ a)
 refine aI0 (wpAny_newList ?_ a)
 have hsz:((s.heap.push (seqObj "list" #[] 0)).update s.heap.objs.size (Obj.mapSeq (· ++ vs.toArray))).objs.size=s.heap.objs.size+1:=by
  rw [Heap.size_update,size_push']
 have d:(((s.heap.push (seqObj "list" #[] 0)).update s.heap.objs.size (Obj.mapSeq (· ++ vs.toArray))).push (seqObj "list" vs.toArray 0)).get? (s.heap.objs.size+1)=some (seqObj "list" vs.toArray 0):=by
  rw [← hsz];exact aI4 _ rfl
 have keep:∀ b o,s.heap.get? b=some o->(((s.heap.push (seqObj "list" #[] 0)).update s.heap.objs.size (Obj.mapSeq (· ++ vs.toArray))).push (seqObj "list" vs.toArray 0)).get? b=some o:=fun b o q=>by
  have c:b < s.heap.objs.size:=aI3 q
  rw [Heap.get?_push_ne _ _ _ (by rw [hsz];exact aB5 (aF0 c)),Heap.get?_update_ne _ _ _ _ (aB5 c),Heap.get?_push_ne _ _ _ (aB5 c)]
  exact q
 show wpAny _ _ _ _ _ { s with heap:=((s.heap.push (seqObj "list" #[] 0)).update s.heap.objs.size (Obj.mapSeq (· ++ vs.toArray))).push (seqObj "list" vs.toArray 0) }
 rw [hsz]
 refine aI0 (aI5 (aJ1 slot_list_sort ⟨_,d,rfl⟩ entry_list_sort ?body (args_list_sort _)))
 case body =>
  refine agr (s:={ s with heap:=((s.heap.push (seqObj "list" #[] 0)).update s.heap.objs.size (Obj.mapSeq (· ++ vs.toArray))).push (seqObj "list" vs.toArray 0) }) d a (fun h h' kp=>?_) fun c=>?_
  ·obtain ⟨κ,S,R,j,C,i,f⟩:=g h h' fun b o e=>kp b o (aB5 (aF0 (aI3 e))) (keep b o e)
   exact ⟨κ,S,R,j,C,i,fun out r u=>⟨_,rfl,aI1 ⟨_,rfl,f out r u⟩⟩⟩
  ·exact ⟨_,rfl,aI1 ⟨_,rfl,n c⟩⟩
end
end TS
namespace L2
open PySem PySem.Spec PyProof.Rows
def toI:V->Int
 | .int i=>i
 | _=>0
def kH (H:Hp):V->List Int
 | .ref t=>match H t with
  | some (.tup xs)=>xs.map toI
  | _=>[]
 | _=>[]
theorem axp (ns:List Int):(ns.map V.int).map toI=ns:=by
 rw [aD8]
 have:(toI ∘ V.int)=id:=by funext i;rfl
 rw [this,List.map_id]
theorem al9 {H:Hp} {t:Addr} {ns:List Int} (h:H t=some (.tup (ns.map V.int))):kH H (.ref t)=ns:=by
 simp only [kH,h];exact axp ns
def TupI (H:Hp) (v:V):Prop:=∃ t ns,v=.ref t/\H t=some (.tup (ns.map V.int))/\ns ≠ []
def adt:Value->V
 | .ref a => .ref a
 | _ => .non
theorem ag8:∀ {us:List Value},(∀ u∈us,∃ a,u=.ref a)->Vals (us.map adt) us
 | [],_ => .nil
 | u :: us,h=>by
  obtain ⟨a,e⟩:=h u aB7
  subst e
  exact .cons rfl (ag8 fun v b=>h v (aB4 _ b))
theorem ag9 {H:Hp}:∀ {vs:List V} {us:List Value},Vals vs us->(∀ v∈vs,TupI H v)->(∀ u∈us,∃ a,u=.ref a)/\us.map adt=vs
 | _,_,.nil,_=>⟨fun u f=>(by cases f),rfl⟩
 | v :: vs,u :: us,.cons r t,h=>by
  obtain ⟨a,ns,rfl,_,_⟩:=h v aB7
  cases r
  obtain ⟨g,c⟩:=ag9 t fun v d=>h v (aB4 _ d)
  refine ⟨fun x b=>?_,by rw [aD0,c];rfl⟩
  rcases aA8.mp b with rfl | b
  ·exact ⟨_,rfl⟩
  ·exact g x b
section
variable {X:Cx}
def ajh (K:Frag):List V->Hp->VK->Prop:=fun xs H Q=>∃ (a:Addr) (vs:List V),xs=[.ref a]/\SqL K H a vs/\(∀ v∈vs,TupI H v) /\
 ∀ (vs':List V) (p:Addr),vs'.Perm vs->vs'.Pairwise (fun x y=>HT.lexLt (kH H y) (kH H x)=false)->H p=none->Q (.ref p) (upd H p (.lst vs'))
theorem aik {H:Hp} {pins:List (Addr × Obj)} {σ:St} {s:Shared} (I:Inv X pins σ H s) {h':Heap} (kp:∀ b o,s.heap.get? b=some o->h'.get? b=some o):∀ {vs:List V} {us:List Value},Vals vs us->(∀ v∈vs,TupI H v) ->
  (∃ fs,PySem.W.KatTups h' us fs/\fs.length=us.length/\∀ f∈fs,∃ i t,f=.int i t)/\∀ u∈us,∃ a,u=.ref a/\TS.TI h' a (kH H (.ref a))
 | _,_,.nil,_=>⟨⟨[],trivial,rfl,fun f hf=>by cases hf⟩,fun u q=>by cases q⟩
 | v :: vs,u :: us,.cons r t,h=>by
  obtain ⟨a,ns,rfl,e,j⟩:=h v aB7
  cases r
  obtain ⟨⟨fs,C,B,z⟩,A⟩:=aik I kp t fun v E=>h v (aB4 _ E)
  obtain ⟨_,its,D,o,p,e2,n,m⟩:=(show ObjOk X.prog X.w H s.heap a (.tup (ns.map V.int)) from I.hok a _ e)
  have hi:IntsAre its ns:=by simpa using (acb D:IntsAre its.toArray.toList ns)
  have F:TS.TI h' a (kH H (.ref a)):=⟨o,its.toArray,n,kp _ _ p,e2,m,by rw [al9 e];simpa using hi⟩
  obtain ⟨f,hf,i,d,y⟩:∃ f,its.toArray[0]?=some f/\∃ i t,f=.int i t:=by
   cases hi with
   | nil=>exact absurd rfl j
   | cons i d _=>exact ⟨_,by simp,i,d,rfl⟩
  refine ⟨⟨f :: fs,PySem.W.KatTups.cons (kp _ _ p) e2 m hf C,by simp [B],fun g l=>?_⟩,fun x c=>?_⟩
  ·rcases aA8.mp l with rfl | l
   ·exact ⟨i,d,y⟩
   ·exact z g l
  ·rcases aA8.mp c with rfl | c
   ·exact ⟨a,rfl,F⟩
   ·exact A x c
theorem anb {α:Type} {R : α->α->Prop}:∀ {l:List α},l.length < 2->l.Pairwise R
 | [],_=>List.Pairwise.nil
 | [_],_=>List.pairwise_singleton _ _
 | _ :: _ :: _,h=>absurd h (by simp)
theorem aei:abd X (.builtin "sorted") (ajh X.K):=by
 intro pins s σ H xs us Q I r h
 obtain ⟨a,vs,rfl,ha,p,q⟩:=h
 obtain ⟨u,rfl,J⟩:=ac0 r
 cases J
 obtain ⟨its,j,G,hz⟩:=I.list ha
 obtain ⟨b1,A⟩:=ag9 j p
 have c:its.length<=sizeLine:=by rw [← j.length];exact hz
 have f:H (s.heap.objs.size+1)=none:=I.hok.fresh (Nat.le_succ _)
 have fin:∀ out:List Value,out.Perm its->(out.map adt).Pairwise (fun x y=>HT.lexLt (kH H y) (kH H x)=false)->EP X pins σ Q (.ref (s.heap.objs.size+1)) { s with heap:=sortedAll s.heap its out.toArray }:=by
  intro out d l
  obtain ⟨e,L⟩:=sortedAll_at s.heap its out.toArray
  have g:Vals (out.map adt) out:=ag8 fun u w=>b1 u (d.mem_iff.mp w)
  refine ⟨.ref (s.heap.objs.size+1),_,I.laid (t':=s.toks) (o:=.lst (out.map adt)) (fun b S q=>sortedAll_old q) (Nat.le_succ _) ?_,rfl,q _ _ ?_ l f⟩
  ·refine ⟨by rw [aA3,d.length_eq];exact c,out,e,g,by rw [L]⟩
  ·rw [← A];exact d.map adt
 refine TS.sorted_any G.isList c (fun E h' kp=>?_) fun m=>?_
 ·obtain ⟨⟨fs,C,P,z⟩,B⟩:=aik I kp j p
  have n:(Value.type "int" != Value.type "tuple")=true:=by rfl
  refine ⟨tuples' true,TS.tS h' (fun a=>kH H (.ref a)),TS.tR (fun a=>kH H (.ref a)),fun Q' M=>?_,TS.cmp_tups (s:={ s with heap:=h' }) (fun a=>kH H (.ref a)),fun v g=>?_,fun out d l=>fin out d ?_⟩
  ·refine PySem.W.kat_kind (T:=.type "int") (s:={ s with heap:=h' }) C (by lia) (fun v g=>?_) (by rfl) ?_
   ·obtain ⟨i,t,rfl⟩:=z v g
    exact .now
   ·rw [n];exact M
  ·obtain ⟨a,e,F⟩:=B v g
   exact ⟨rfl,a,e,F⟩
  ·rw [aF3]
   refine aH2 ?_ l
   intro x y D O N
   obtain ⟨U,rfl⟩:=b1 x (d.mem_iff.mp D)
   obtain ⟨R,rfl⟩:=b1 y (d.mem_iff.mp O)
   exact N
 ·refine fin its (List.Perm.refl _) ?_
  exact anb (by rw [aA3];exact m)
end
end L2
namespace HT
open PySem PySem.Spec PyProof.Rows L2
section
variable {prog:Program} {w:World} {A:Around} {kw:List (Str × Value)} {R:Result->Shared->Prop} {I S:Addr} {fp wr:List Addr} {n:Nat} {P:Nat->Value->Prop} {St:Nat->Heap->Prop} {Hd:Heap->Prop}
end
section
variable {prog:Program} {w:World} {A:Around} {E:Value->Shared->Prop} {s:Shared}
end
end HT
namespace L2
open PySem PySem.Spec PyProof.Rows
section
variable {X:Cx} {x:Str} {p pos kpos:Pos} {e en:Expr} {t:TA}
end
end L2
namespace HT
open PySem PySem.Spec PyProof.Rows
section
variable {prog:Program} {w:World} {A:Around} {E:Value->Shared->Prop} {s:Shared}
end
end HT
namespace L2
open PySem PySem.Spec PyProof.Rows
section
variable {X:Cx}
end
end L2
namespace VL
open PySem PySem.Spec L2
def kD:Key->PyData
 | .inl i => .int i
 | .inr x => .str x
mutual
inductive Rp (G:Hp):V->PyData->Prop
 | non:Rp G .non .none
 | bl (b:Bool):Rp G (.bl b) (.bool b)
 | int (i:Int):Rp G (.int i) (.int i)
 | str (x:Str):Rp G (.str x) (.str x)
 | lst {a:Addr} {xs:List V} {ds:List PyData}:G a=some (.lst xs)->Rps G xs ds->Rp G (.ref a) (.list ds)
 | tup {a:Addr} {xs:List V} {ds:List PyData}:G a=some (.tup xs)->Rps G xs ds->Rp G (.ref a) (.tuple ds)
 | dk {a:Addr} {kvs:List (Key × V)} {es:List (Key × PyData)} {ds:List (PyData × PyData)}:G a=some (.dK kvs)->RpK G kvs es->ds=es.map (fun p=>(kD p.1,p.2))->Rp G (.ref a) (.dict ds)
 | dt {a:Addr} {kvs:List (List Key × V)} {es:List (List Key × PyData)} {ds:List (PyData × PyData)}:G a=some (.dT kvs)->RpT G kvs es->ds=es.map (fun p=>(.tuple (p.1.map kD),p.2))->Rp G (.ref a) (.dict ds)
inductive Rps (G:Hp):List V->List PyData->Prop
 | nil:Rps G [] []
 | cons {v:V} {vs:List V} {d:PyData} {ds:List PyData}:Rp G v d->Rps G vs ds->Rps G (v :: vs) (d :: ds)
inductive RpK (G:Hp):List (Key × V)->List (Key × PyData)->Prop
 | nil:RpK G [] []
 | cons {k:Key} {v:V} {d:PyData} {r:List (Key × V)} {s:List (Key × PyData)}:Rp G v d->RpK G r s->RpK G ((k,v) :: r) ((k,d) :: s)
inductive RpT (G:Hp):List (List Key × V)->List (List Key × PyData)->Prop
 | nil:RpT G [] []
 | cons {k:List Key} {v:V} {d:PyData} {r:List (List Key × V)} {s:List (List Key × PyData)}:Rp G v d->RpT G r s->RpT G ((k,v) :: r) ((k,d) :: s)
end
mutual
theorem Rp.same {G G':Hp} (s:Same G G'):∀ {v:V} {d:PyData},Rp G v d->Rp G' v d
 | _,_,.non => .non
 | _,_,.bl b => .bl b
 | _,_,.int i => .int i
 | _,_,.str x => .str x
 | _,_,.lst h r => .lst (s _ _ h) (Rps.same s r)
 | _,_,.tup h r => .tup (s _ _ h) (Rps.same s r)
 | _,_,.dk h r e => .dk (s _ _ h) (RpK.same s r) e
 | _,_,.dt h r e => .dt (s _ _ h) (RpT.same s r) e
theorem Rps.same {G G':Hp} (s:Same G G'):∀ {vs:List V} {ds:List PyData},Rps G vs ds->Rps G' vs ds
 | _,_,.nil => .nil
 | _,_,.cons r t => .cons (Rp.same s r) (Rps.same s t)
theorem RpK.same {G G':Hp} (s:Same G G'):∀ {vs:List (Key × V)} {ds:List (Key × PyData)},RpK G vs ds->RpK G' vs ds
 | _,_,.nil => .nil
 | _,_,.cons r t => .cons (Rp.same s r) (RpK.same s t)
theorem RpT.same {G G':Hp} (s:Same G G'):∀ {vs:List (List Key × V)} {ds:List (List Key × PyData)},RpT G vs ds->RpT G' vs ds
 | _,_,.nil => .nil
 | _,_,.cons r t => .cons (Rp.same s r) (RpT.same s t)
end
theorem Rps.length {G:Hp}:∀ {vs:List V} {ds:List PyData},Rps G vs ds->vs.length=ds.length
 | _,_,.nil=>rfl
 | _,_,.cons _ t=>by simp [Rps.length t]
theorem Rps.get {G:Hp}:∀ {vs:List V} {ds:List PyData} {i:Nat} {d:PyData},Rps G vs ds->ds[i]?=some d->∃ v,vs[i]?=some v/\Rp G v d
 | _,_,_,_,.nil,e=>by simp at e
 | _,_,0,_,.cons r _,e=>by simp at e;subst e;exact ⟨_,rfl,r⟩
 | _,_,i+1,d,.cons _ t,e=>by
  obtain ⟨u,b,a⟩:=Rps.get (i:=i) (d:=d) t (by simpa using e)
  exact ⟨u,by simpa using b,a⟩
theorem Rps.append {G:Hp}:∀ {vs a:List V} {ds es:List PyData},Rps G vs ds->Rps G a es->Rps G (vs ++ a) (ds ++ es)
 | _,_,_,_,.nil,s=>s
 | _,_,_,_,.cons r t,s => .cons r (Rps.append t s)
theorem Rps.set {G:Hp} {v:V} {d:PyData} (h:Rp G v d):∀ {vs:List V} {ds:List PyData} (i:Nat),Rps G vs ds->Rps G (vs.set i v) (ds.set i d)
 | _,_,_,.nil => .nil
 | _,_,0,.cons _ t => .cons h t
 | _,_,i+1,.cons r t => .cons r (Rps.set h i t)
theorem Rps.erase {G:Hp}:∀ {vs:List V} {ds:List PyData} (i:Nat),Rps G vs ds->Rps G (vs.eraseIdx i) (ds.eraseIdx i)
 | _,_,_,.nil => .nil
 | _,_,0,.cons _ t=>t
 | _,_,i+1,.cons r t => .cons r (Rps.erase i t)
theorem Rps.rep {G:Hp} {vs:List V} {ds:List PyData} (h:Rps G vs ds):∀ (k:Nat),Rps G (List.replicate k vs).flatten (List.replicate k ds).flatten
 | 0 => .nil
 | k+1=>by
  rw [aG5,aG5,List.flatten_cons,List.flatten_cons]
  exact h.append (Rps.rep h k)
theorem Rps.ints {G:Hp}:∀ (ns:List Int),Rps G (ns.map V.int) (ns.map PyData.int)
 | [] => .nil
 | n :: ns => .cons (.int n) (Rps.ints ns)
theorem Rps.ints_inv {G:Hp}:∀ {ns:List Int} {vs:List V},Rps G vs (ns.map PyData.int)->vs=ns.map V.int
 | [],_,.nil=>rfl
 | n :: ns,_,.cons r t=>by
  cases r
  rw [Rps.ints_inv t];rfl
mutual
theorem Rp.rep {G:Hp}:∀ {v:V} {d:PyData},Rp G v d->aas d=true->Rep G v d
 | _,_,.non,_ => .non
 | _,_,.bl b,_ => .bl b
 | _,_,.int i,_ => .int i
 | _,_,.str x,_ => .str x
 | _,_,.lst h r,p => .lst h (Rps.reps r (by simpa [aas] using p))
 | _,_,.tup h r,p => .tup h (Rps.reps r (by simpa [aas] using p))
 | _,_,.dk h r e,p=>by simp [aas] at p
 | _,_,.dt h r e,p=>by simp [aas] at p
theorem Rps.reps {G:Hp}:∀ {vs:List V} {ds:List PyData},Rps G vs ds->plainDs ds=true->Reps G vs ds
 | _,_,.nil,_ => .nil
 | _,_,.cons r t,p=>by
  simp only [plainDs,aG3] at p
  exact .cons (Rp.rep r p.1) (Rps.reps t p.2)
end
structure Own where
 P:Hp->Hp->V->(Addr->Prop)->Prop
 mono:∀ {G H G' H':Hp} {v:V} {F:Addr->Prop},P G H v F->Same G G'->(∀ a o,F a->H a=some o->H' a=some o)->P G' H' v F
 dom:∀ {G H:Hp} {v:V} {F:Addr->Prop},P G H v F->∀ a,F a->∃ o,H a=some o
inductive Sl where
 | st (d:PyData) | own (A:Own) | io (A:Own) | scr (ns:List Int)
abbrev En:=List (Option Sl)
structure Bs where
 K:Frag
 G:Hp
 H:Hp
 R:Hp
 S:St
 F:Nat->Addr->Prop
def SlOk (B:Bs) (G H:Hp) (i:Nat) (v:V) (F:Addr->Prop):Sl->Prop
 | .st d=>Rp G v d/\∀ a,¬ F a
 | .own A=>A.P G H v F/\∀ a,F a->B.H a=none
 | .io A=>A.P G H v F/\(∀ a,F a->B.F i a\/B.H a=none)/\B.S[i]?=some (some v)
 | .scr ns=>(∃ a,v=.ref a/\SqL B.K G a (ns.map V.int))/\∀ a,¬ F a
def FT (G H:Hp):Prop:=∀ (a:Addr) (ks:List Key),H a=some (.tup (ks.map kV))->G a=some (.tup (ks.map kV))
structure VI (B:Bs) (G H:Hp) (σ:St) (env:En) (F:Nat->Addr->Prop):Prop where
 gh:Same G H
 g0:Same B.G G
 gn:∀ a o,G a=some o->B.G a=some o\/B.H a=none
 rs:Same B.R H
 rb:Same B.R B.H
 bh:∀ a o,B.H a=some o->∃ o',H a=some o'
 fg:∀ i a,F i a->G a=none
 fr:∀ i a,F i a->B.R a=none
 fd:∀ i j a,F i a->F j a->i=j
 fo:∀ i a,F i a->∃ o,H a=some o
 sl:∀ i s,env[i]?=some (some s)->∃ v,σ[i]?=some (some v)/\SlOk B G H i v (F i) s
 ln : σ.length=env.length
 ft:FT G H
def RsOk (G H:Hp) (v:V) (F:Addr->Prop):Sl->Prop
 | .st d=>Rp G v d/\∀ a,¬ F a
 | .own A=>A.P G H v F
 | _=>False
structure RsX (B:Bs) (G H:Hp) (v:V) (Fv:Addr->Prop) (s:Sl) (F:Nat->Addr->Prop):Prop where
 ok:RsOk G H v Fv s
 fb:∀ a,Fv a->B.H a=none
 fg:∀ a,Fv a->G a=none
 fo:∀ a,Fv a->∃ o,H a=some o
 fd:∀ j a,Fv a->¬ F j a
structure Out (G H:Hp) (v:V) (G' H':Hp) (s:Sl) (Fv:Addr->Prop):Prop where
 gg:Same G G'
 gh:Same G' H'
 hh:Same H H'
 gn:∀ a o,G' a=some o->G a=some o\/H a=none
 fn:∀ a,Fv a->H a=none
 fg:∀ a,Fv a->G' a=none
 fo:∀ a,Fv a->∃ o,H' a=some o
 ok:RsOk G' H' v Fv s
 ft:FT G H->FT G' H'
theorem aqx {α:Type} {o:Option α} (h:o ≠ none):∃ x,o=some x:=by
 cases o with
 | none=>exact absurd rfl h
 | some x=>exact ⟨x,rfl⟩
theorem SlOk.mono {B:Bs} {G H G' H':Hp} {i:Nat} {v:V} {F:Addr->Prop} {s:Sl} (h:SlOk B G H i v F s) (g:Same G G') (hh:∀ a o,F a->H a=some o->H' a=some o):SlOk B G' H' i v F s:=by
 cases s with
 | st d=>exact ⟨h.1.same g,h.2⟩
 | own A=>exact ⟨A.mono h.1 g hh,h.2⟩
 | io A=>exact ⟨A.mono h.1 g hh,h.2⟩
 | scr ns =>
  obtain ⟨⟨a,e,q⟩,n⟩:=h
  exact ⟨⟨a,e,g.seq q⟩,n⟩
section
variable {B:Bs} {G H G' H':Hp} {σ:St} {env:En} {F:Nat->Addr->Prop} {v:V} {s:Sl} {Fv:Addr->Prop}
theorem VI.no_r (I:VI B G H σ env F) {a:Addr} (h:H a=none):B.R a=none:=by
 cases e:B.R a with
 | none=>rfl
 | some o=>rw [I.rs a o e] at h;cases h
theorem VI.no_b (I:VI B G H σ env F) {a:Addr} (h:H a=none):B.H a=none:=by
 cases e:B.H a with
 | none=>rfl
 | some o=>obtain ⟨o',b⟩:=I.bh a o e;rw [b] at h;cases h
theorem VI.no_g (I:VI B G H σ env F) {a:Addr} (h:H a=none):G a=none:=by
 cases e:G a with
 | none=>rfl
 | some o=>rw [I.gh a o e] at h;cases h
theorem VI.no_f (I:VI B G H σ env F) {a:Addr} (h:H a=none) (i:Nat):¬ F i a:=fun z=>by
 obtain ⟨o,e⟩:=I.fo i a z;rw [e] at h;cases h
theorem VI.grow (I:VI B G H σ env F) (gg:Same G G') (gh:Same G' H') (hh:Same H H') (gn:∀ a o,G' a=some o->G a=some o\/H a=none) (ft:FT G' H'):VI B G' H' σ env F where
 gh:=gh
 g0:=I.g0.trans gg
 gn:=fun a o e=>by
  rcases gn a o e with e | e
  ·exact I.gn a o e
  ·exact .inr (I.no_b e)
 rs:=I.rs.trans hh
 rb:=I.rb
 bh:=fun a o e=>by obtain ⟨o',c⟩:=I.bh a o e;exact ⟨o',hh _ _ c⟩
 fg:=fun i a z=>by
  cases e:G' a with
  | none=>rfl
  | some o =>
   rcases gn a o e with e | e
   ·rw [I.fg i a z] at e;cases e
   ·exact absurd z (I.no_f e i)
 fr:=I.fr
 fd:=I.fd
 fo:=fun i a z=>by obtain ⟨o,e⟩:=I.fo i a z;exact ⟨o,hh _ _ e⟩
 sl:=fun i s e=>by
  obtain ⟨v,b,e2⟩:=I.sl i s e
  exact ⟨v,b,e2.mono gg fun a o _ q=>hh _ _ q⟩
 ln:=I.ln
 ft:=ft
theorem VI.out (I:VI B G H σ env F) (o:Out G H v G' H' s Fv):VI B G' H' σ env F/\RsX B G' H' v Fv s F :=
 ⟨I.grow o.gg o.gh o.hh o.gn (o.ft I.ft),o.ok,fun a z=>I.no_b (o.fn a z),o.fg,o.fo,fun j a z y=>I.no_f (o.fn a z) j y⟩
theorem VI.b_r (I:VI B G H σ env F) {a:Addr} (h:B.H a=none):B.R a=none:=by
 cases e:B.R a with
 | none=>rfl
 | some o=>rw [I.rb a o e] at h;cases h
def putF (F:Nat->Addr->Prop) (i:Nat) (Fv:Addr->Prop):Nat->Addr->Prop:=fun j a=>if j=i then Fv a else F j a
theorem putF_same {i:Nat} {a:Addr}:putF F i Fv i a ↔ Fv a:=by unfold putF;rw [aE7 rfl]
theorem afx {i:Nat}:putF F i Fv i=Fv:=by funext a;unfold putF;rw [aE7 rfl]
theorem aa8 {i j:Nat} (h:j ≠ i):putF F i Fv j=F j:=by funext a;unfold putF;rw [aE8 h]
theorem VI.slot (I:VI B G H σ env F) (i:Nat) (o:Option V) (os:Option Sl) (fg:∀ a,Fv a->G a=none) (fr:∀ a,Fv a->B.R a=none) (fo:∀ a,Fv a->∃ o,H a=some o) (fd:∀ j a,j ≠ i->Fv a->¬ F j a)
  (ok:∀ s,os=some s->∃ v,o=some v/\SlOk B G H i v Fv s):VI B G H (σ.set i o) (env.set i os) (putF F i Fv) where
 gh:=I.gh
 g0:=I.g0
 gn:=I.gn
 rs:=I.rs
 rb:=I.rb
 bh:=I.bh
 fg:=fun j a z=>by
  by_cases h:j=i
  ·subst h;exact fg a (putF_same.mp z)
  ·rw [aa8 h] at z;exact I.fg j a z
 fr:=fun j a z=>by
  by_cases h:j=i
  ·subst h;exact fr a (putF_same.mp z)
  ·rw [aa8 h] at z;exact I.fr j a z
 fd:=fun j k a y z=>by
  by_cases h:j=i
  ·by_cases g:k=i
   ·rw [h,g]
   ·subst h;rw [aa8 g] at z;exact absurd z (fd k a g (putF_same.mp y))
  ·by_cases g:k=i
   ·subst g;rw [aa8 h] at y;exact absurd y (fd j a h (putF_same.mp z))
   ·rw [aa8 h] at y;rw [aa8 g] at z;exact I.fd j k a y z
 fo:=fun j a z=>by
  by_cases h:j=i
  ·subst h;exact fo a (putF_same.mp z)
  ·rw [aa8 h] at z;exact I.fo j a z
 sl:=fun j t e=>by
  by_cases h:j=i
  ·subst h
   rw [aD1,aE7 rfl] at e
   by_cases hl:j < env.length
   ·rw [aE7 hl] at e
    obtain ⟨v,b,q⟩:=ok t (aC5 e)
    refine ⟨v,by rw [aD1,aE7 rfl,aE7 (by rw [I.ln];exact hl),b],?_⟩
    rw [afx];exact q
   ·rw [aE8 hl] at e;cases e
  ·rw [aD1,aE8 (fun z=>h z.symm)] at e
   obtain ⟨v,b,q⟩:=I.sl j t e
   refine ⟨v,by rw [aD1,aE8 (fun z=>h z.symm)];exact b,?_⟩
   rw [aa8 h];exact q
 ln:=by simp [I.ln]
 ft:=I.ft
theorem VI.store (I:VI B G H σ env F) (r:RsX B G H v Fv s F) (i:Nat):VI B G H (σ.set i (some v)) (env.set i (some s)) (putF F i Fv):=by
 refine I.slot i (some v) (some s) r.fg (fun a z=>I.b_r (r.fb a z)) r.fo (fun j a _ z=>r.fd j a z) fun t e=>?_
 cases e
 refine ⟨v,rfl,?_⟩
 have:=r.ok
 cases s with
 | st d=>exact this
 | own A=>exact ⟨this,r.fb⟩
 | io A=>exact this.elim
 | scr ns=>exact this.elim
theorem VI.drop (I:VI B G H σ env F) (i:Nat):VI B G H σ (env.set i none) (putF F i fun _=>False):=by
 have:=I.slot (Fv:=fun _=>False) i ((σ[i]?).getD none) none (fun a z=>z.elim) (fun a z=>z.elim) (fun a z=>z.elim) (fun j a _ z=>z.elim) (fun s e=>by cases e)
 rwa [show σ.set i ((σ[i]?).getD none) = σ from ?_] at this
 apply aF4
 intro j
 rw [aD1]
 by_cases h:i=j
 ·subst h
  rw [aE7 rfl]
  by_cases hl:i < σ.length
  ·rw [aE7 hl,aA0 hl];rfl
  ·rw [aE8 hl,aE9.mpr (by lia)]
 ·rw [aE8 h]
theorem VI.change {A:Own} (I:VI B G H σ env F) (i:Nat) {H2:Hp} {F2:Addr->Prop} {os os':Sl} (e:env[i]?=some (some os)) (g : σ[i]?=some (some v))
  (keep:∀ a o,¬ F i a->H a=some o->H2 a=some o) (n:∀ a o,H a=some o->∃ o',H2 a=some o') (c:∀ a,F2 a->(F i a\/H a=none)/\∃ o,H2 a=some o) (l:A.P G H2 v F2) (M:FT G H2)
  (E:(os'=.own A/\∃ d,os=.own d)\/(os'=.io A/\∃ d,os=.io d)):VI B G H2 σ (env.set i (some os')) (putF F i F2):=by
 obtain ⟨Q,f,q⟩:=I.sl i os e
 rw [g] at f;cases f
 have p:∀ j a,j ≠ i->F j a->¬ F i a:=fun j a b y z=>b (I.fd j i a y z)
 have w:∀ a,F2 a->G a=none:=fun a z=>by
  rcases (c a z).1 with y | y
  ·exact I.fg i a y
  ·exact I.no_g y
 have J:VI B G H2 σ (env.set i none) (putF F i fun _=>False):=by
  have D:=I.drop i
  refine ⟨fun a o x=>keep a o (fun z=>by rw [I.fg i a z] at x;cases x) (I.gh a o x),D.g0,D.gn,fun a o x=>keep a o (fun z=>by rw [I.fr i a z] at x;cases x) (I.rs a o x),D.rb,fun a o x=>?_,D.fg,D.fr,D.fd,fun j a z=>?_,fun j s x=>?_,D.ln,M⟩
  ·obtain ⟨o',N⟩:=I.bh a o x
   exact n a o' N
  ·obtain ⟨o,x⟩:=D.fo j a z
   exact n a o x
  ·obtain ⟨u,C,r⟩:=D.sl j s x
   refine ⟨u,C,r.mono (Same.refl G) fun a o z y=>?_⟩
   by_cases b:j=i
   ·subst b;exact (putF_same.mp z).elim
   ·rw [aa8 b] at z
    exact keep a o (p j a b z) y
 have m:=J.slot (Fv:=F2) i (some v) (some os') w (fun a z=>by
   rcases (c a z).1 with y | y
   ·exact I.fr i a y
   ·exact I.no_r y) (fun a z=>(c a z).2) (fun j a b z y=>by
   rw [aa8 b] at y
   rcases (c a z).1 with x | x
   ·exact p j a b y x
   ·exact I.no_f x j y) fun t O=>by
   cases O
   refine ⟨v,rfl,?_⟩
   rcases E with ⟨rfl,d,rfl⟩ | ⟨rfl,d,rfl⟩
   ·refine ⟨l,fun a z=>?_⟩
    rcases (c a z).1 with y | y
    ·exact q.2 a y
    ·exact I.no_b y
   ·refine ⟨l,fun a z=>?_,q.2.2⟩
    rcases (c a z).1 with y | y
    ·exact q.2.1 a y
    ·exact .inr (I.no_b y)
 have L : σ.set i (some v) = σ:=by
  apply aF4
  intro j
  rw [aD1]
  by_cases h:i=j
  ·subst h
   rw [aE7 rfl,g,aE7 (aA1.mp g).1]
  ·rw [aE8 h]
 have e2:(env.set i none).set i (some os')=env.set i (some os'):=by simp
 have K:putF (putF F i fun _=>False) i F2=putF F i F2:=by
  funext j a
  by_cases h:j=i
  ·subst h;rw [afx,afx]
  ·rw [aa8 h,aa8 h,aa8 h]
 rw [L,e2,K] at m
 exact m
end
open Classical in
def jn (G H:Hp) (F:Addr->Prop):Hp:=fun a=>if F a then H a else G a
theorem adu {G H:Hp} {F:Addr->Prop} {a:Addr} (h:F a):jn G H F a=H a:=aE7 h
theorem aji {G H:Hp} {F:Addr->Prop} {a:Addr} (h:¬ F a):jn G H F a=G a:=aE8 h
theorem abl {G H:Hp} {F:Addr->Prop} (h:∀ a,F a->G a=none):Same G (jn G H F):=fun a o e=>by
 rw [aji (fun z=>by rw [h a z] at e;cases e)];exact e
theorem ama {G H:Hp} {F:Addr->Prop} (h:Same G H):Same (jn G H F) H:=fun a o e=>by
 by_cases z:F a
 ·rw [adu z] at e;exact e
 ·rw [aji z] at e;exact h a o e
def Frz (A:Own) (d:PyData):Prop:=∀ (G H:Hp) (v:V) (F:Addr->Prop),A.P G H v F->(∀ a,F a->G a=none)->Same G H->Rp (jn G H F) v d
def FQ:Sl->(PyData->Prop)->Prop
 | .st d,R=>R d
 | .own A,R=>∃ d,Frz A d/\R d
 | _,_=>False
def OL (ds:List PyData):Own where
 P:=fun G H v F=>∃ a vs,v=.ref a/\H a=some (.lst vs)/\Rps G vs ds/\∀ b,F b ↔ b=a
 mono:=fun ⟨a,vs,e,h,r,f⟩ g hh=>⟨a,vs,e,hh a _ ((f a).mpr rfl) h,r.same g,f⟩
 dom:=fun ⟨a,vs,e,h,r,f⟩ b z=>by rw [(f b).mp z];exact ⟨_,h⟩
def OD (es:List (Key × PyData)):Own where
 P:=fun G H v F=>∃ a kvs,v=.ref a/\H a=some (.dK kvs)/\RpK G kvs es/\∀ b,F b ↔ b=a
 mono:=fun ⟨a,vs,e,h,r,f⟩ g hh=>⟨a,vs,e,hh a _ ((f a).mpr rfl) h,r.same g,f⟩
 dom:=fun ⟨a,vs,e,h,r,f⟩ b z=>by rw [(f b).mp z];exact ⟨_,h⟩
def OT (es:List (List Key × PyData)):Own where
 P:=fun G H v F=>∃ a kvs,v=.ref a/\H a=some (.dT kvs)/\RpT G kvs es/\∀ b,F b ↔ b=a
 mono:=fun ⟨a,vs,e,h,r,f⟩ g hh=>⟨a,vs,e,hh a _ ((f a).mpr rfl) h,r.same g,f⟩
 dom:=fun ⟨a,vs,e,h,r,f⟩ b z=>by rw [(f b).mp z];exact ⟨_,h⟩
theorem adg {ds:List PyData}:Frz (OL ds) (.list ds):=fun G H v F ⟨a,vs,e,h,r,f⟩ n g=>by
 subst e
 exact .lst (by rw [adu ((f a).mpr rfl)];exact h) (r.same (abl n))
theorem az1 {es:List (Key × PyData)}:Frz (OD es) (.dict (es.map fun p=>(kD p.1,p.2))):=fun G H v F ⟨a,vs,e,h,r,f⟩ n g=>by
 subst e
 exact .dk (by rw [adu ((f a).mpr rfl)];exact h) (r.same (abl n)) rfl
theorem ajj {d:PyData} {R:PyData->Prop} (h:R d):FQ (.st d) R:=h
theorem adj {ds:List PyData} {R:PyData->Prop} (h:R (.list ds)):FQ (.own (OL ds)) R:=⟨_,adg,h⟩
section
variable {B:Bs} {G H G' H':Hp} {σ:St} {env:En} {F:Nat->Addr->Prop} {v:V} {s:Sl} {Fv:Addr->Prop}
theorem VI.freeze (I:VI B G H σ env F) (fb:∀ a,Fv a->B.H a=none) (fd:∀ j a,Fv a->¬ F j a) (fg:∀ a,Fv a->G a=none):VI B (jn G H Fv) H σ env F where
 gh:=ama I.gh
 g0:=I.g0.trans (abl fg)
 gn:=fun a o e=>by
  by_cases z:Fv a
  ·exact .inr (fb a z)
  ·rw [aji z] at e;exact I.gn a o e
 rs:=I.rs
 rb:=I.rb
 bh:=I.bh
 fg:=fun i a z=>by
  rw [aji (fun y=>fd i a y z)];exact I.fg i a z
 fr:=I.fr
 fd:=I.fd
 fo:=I.fo
 sl:=fun i s e=>by
  obtain ⟨v,c,e2⟩:=I.sl i s e
  exact ⟨v,c,e2.mono (abl fg) fun a o _ q=>q⟩
 ln:=I.ln
 ft:=fun a b e=>abl fg _ _ (I.ft a b e)
theorem VI.frz {A:Own} {d:PyData} {i:Nat} (I:VI B G H σ env F) (e:env[i]?=some (some (.own A))) (f:Frz A d) :
  ∃ v,σ[i]?=some (some v)/\Rp (jn G H (F i)) v d/\Same G (jn G H (F i))/\VI B (jn G H (F i)) H σ (env.set i (some (.st d))) (putF F i fun _=>False):=by
 obtain ⟨v,b,q⟩:=I.sl i _ e
 have c:=f G H v (F i) q.1 (I.fg i) I.gh
 refine ⟨v,b,c,abl (I.fg i),?_⟩
 have D:=(I.drop i).freeze (Fv:=F i) q.2 (fun j a z y=>by
  by_cases h:j=i
  ·subst h;exact (putF_same.mp y).elim
  ·rw [aa8 h] at y;exact h (I.fd j i a y z)) (I.fg i)
 have J:=D.slot (Fv:=fun _=>False) i (some v) (some (.st d)) (fun a z=>z.elim) (fun a z=>z.elim) (fun a z=>z.elim) (fun j a _ z=>z.elim) (fun t m=>by cases m;exact ⟨v,rfl,c,fun a z=>z⟩)
 have l : σ.set i (some v) = σ:=by
  apply aF4
  intro j
  rw [aD1]
  by_cases h:i=j
  ·subst h
   rw [aE7 rfl,b,aE7 (aA1.mp b).1]
  ·rw [aE8 h]
 have g:putF (putF F i fun _=>False) i (fun _=>False)=putF F i fun _=>False:=by
  funext j a
  by_cases h:j=i
  ·subst h;rw [afx,afx]
  ·rw [aa8 h,aa8 h]
 rw [l,g,List.set_set] at J
 exact J
theorem Out.refl {d:PyData} (g:Same G H) (r:Rp G v d):Out G H v G H (.st d) (fun _=>False):=⟨Same.refl _,g,Same.refl _,fun a o e => .inl e,fun a z=>z.elim,fun a z=>z.elim,fun a z=>z.elim,⟨r,fun a z=>z⟩,fun t=>t⟩
theorem axq {p:Addr} {o:HO} (g:Same G H) (h:H p=none):Same (upd G p o) (upd H p o):=fun a u e=>by
 by_cases z:a=p
 ·subst z;rw [aah] at e ⊢;exact e
 ·rw [aae z] at e ⊢;exact g a u e
theorem aa6 {p:Addr} (g:Same G H) (h:H p=none):G p=none:=by
 cases e:G p with
 | none=>rfl
 | some o=>rw [g p o e] at h;cases h
theorem Out.newT {p:Addr} {xs:List V} {ds:List PyData} (g:Same G H) (h:H p=none) (r:Rps G xs ds):Out G H (.ref p) (upd G p (.tup xs)) (upd H p (.tup xs)) (.st (.tuple ds)) (fun _=>False) where
 gg:=abf (aa6 g h)
 gh:=axq g h
 hh:=abf h
 gn:=fun a o e=>by
  by_cases z:a=p
  ·subst z;exact .inr h
  ·rw [aae z] at e;exact .inl e
 fn:=fun a z=>z.elim
 fg:=fun a z=>z.elim
 fo:=fun a z=>z.elim
 ok:=⟨.tup aah (r.same (abf (aa6 g h))),fun a z=>z⟩
 ft:=fun t a b e=>by
  by_cases z:a=p
  ·subst z;rw [aah] at e ⊢;exact e
  ·rw [aae z] at e ⊢;exact t a b e
theorem Out.newO {p:Addr} {o:HO} {A:Own} (g:Same G H) (h:H p=none) (b:∀ xs,o ≠ .tup xs) (r:A.P G (upd H p o) (.ref p) (· = p)):Out G H (.ref p) G (upd H p o) (.own A) (· = p) where
 gg:=Same.refl _
 gh:=g.trans (abf h)
 hh:=abf h
 gn:=fun a o e => .inl e
 fn:=fun a z=>by rw [z];exact h
 fg:=fun a z=>by rw [z];exact aa6 g h
 fo:=fun a z=>by rw [z];exact ⟨_,aah⟩
 ok:=r
 ft:=fun t a c e=>by
  by_cases z:a=p
  ·subst z;rw [aah] at e;exact absurd (aC5 e) (b _)
  ·rw [aae z] at e;exact t a c e
theorem Out.newL {p:Addr} {xs:List V} {ds:List PyData} (g:Same G H) (h:H p=none) (r:Rps G xs ds):Out G H (.ref p) G (upd H p (.lst xs)) (.own (OL ds)) (· = p) :=
 .newO g h (fun _ z=>nomatch z) ⟨p,xs,rfl,aah,r,fun b=>Iff.rfl⟩
theorem Out.newD {p:Addr} {xs:List (Key × V)} {ds:List (Key × PyData)} (g:Same G H) (h:H p=none) (r:RpK G xs ds):Out G H (.ref p) G (upd H p (.dK xs)) (.own (OD ds)) (· = p) :=
 .newO g h (fun _ z=>nomatch z) ⟨p,xs,rfl,aah,r,fun b=>Iff.rfl⟩
theorem Out.newDT {p:Addr} {xs:List (List Key × V)} {ds:List (List Key × PyData)} (g:Same G H) (h:H p=none) (r:RpT G xs ds):Out G H (.ref p) G (upd H p (.dT xs)) (.own (OT ds)) (· = p) :=
 .newO g h (fun _ z=>nomatch z) ⟨p,xs,rfl,aah,r,fun b=>Iff.rfl⟩
end
def EvO (B:Bs) (te:TE) (env:En) (Q':Sl->En->Prop):Prop:=∀ (σ:St) (G H:Hp) (F:Nat->Addr->Prop) (Q:VK),VI B G H σ env F ->
 (∀ v G' H' F' Fv s env',VI B G' H' σ env' F'->Same G G'->RsX B G' H' v Fv s F'->Q' s env'->Q v H')->te σ H Q
def Ev (B:Bs) (te:TE) (env:En) (Q':PyData->En->Prop):Prop:=∀ (σ:St) (G H:Hp) (F:Nat->Addr->Prop) (Q:VK),VI B G H σ env F ->
 (∀ v G' H' F' d env',VI B G' H' σ env' F'->Same G G'->Rp G' v d->Q' d env'->Q v H')->te σ H Q
def EvT (B:Bs) (tt:TT) (env:En) (Q':Bool->En->Prop):Prop:=∀ (σ:St) (G H:Hp) (F:Nat->Addr->Prop) (Q:Bool->Hp->Prop),VI B G H σ env F ->
 (∀ b G' H' F' env',VI B G' H' σ env' F'->Same G G'->Q' b env'->Q b H')->tt σ H Q
def EvA (B:Bs) (ta:TA) (env:En) (Q':List PyData->En->Prop):Prop:=∀ (σ:St) (G H:Hp) (F:Nat->Addr->Prop) (Q:List V->Hp->Prop),VI B G H σ env F ->
 (∀ vs G' H' F' ds env',VI B G' H' σ env' F'->Same G G'->Rps G' vs ds->Q' ds env'->Q vs H')->ta σ H Q
structure ItOk (G:Hp) (J:It) (ds:List PyData):Prop where
 go:∀ i G' H',Same G G'->Same G' H'->i < ds.length->J.go i H'
 stop:∀ i G' H',Same G G'->Same G' H'->i=ds.length->J.stop i H'
 yld:∀ i G' H' x H'' d,Same G G'->Same G' H'->FT G' H'->ds[i]?=some d->J.yld i H' x H''->∃ G'',Out G' H' x G'' H'' (.st d) (fun _=>False)
def EvI (B:Bs) (ti:TI) (env:En) (Q':List PyData->En->Prop):Prop:=∀ (σ:St) (G H:Hp) (F:Nat->Addr->Prop) (R:It->Hp->Prop),VI B G H σ env F ->
 (∀ J G' H' F' ds env',VI B G' H' σ env' F'->Same G G'->ItOk G' J ds->Q' ds env'->R J H')->ti σ H R
def EvG (B:Bs) (g:TG) (s:Sl) (env:En) (Q':En->Prop):Prop:=∀ (σ:St) (G H:Hp) (F:Nat->Addr->Prop) (v:V) (Fv:Addr->Prop) (Q:St->Hp->Prop),VI B G H σ env F->RsX B G H v Fv s F ->
 (∀ σ' G' H' F' env',VI B G' H' σ' env' F'->Same G G'->Q' env'->Q σ' H')->g v σ H Q
def EvGs (B:Bs) (g:TGs) (ds:List PyData) (env:En) (Q':En->Prop):Prop:=∀ (σ:St) (G H:Hp) (F:Nat->Addr->Prop) (vs:List V) (Q:St->Hp->Prop),VI B G H σ env F->Rps G vs ds ->
 (∀ σ' G' H' F' env',VI B G' H' σ' env' F'->Same G G'->Q' env'->Q σ' H')->g vs σ H Q
structure VEnds where
 nx:En->Prop
 rt:Sl->En->Prop
 bk:En->Prop:=fun _=>False
 ct:En->Prop:=fun _=>False
structure RelE (B:Bs) (G:Hp) (D:Ends) (D':VEnds):Prop where
 nx:∀ σ G' H F env,VI B G' H σ env F->Same G G'->D'.nx env->D.nx σ H
 rt:∀ σ G' H F env v Fv s,VI B G' H σ env F->Same G G'->RsX B G' H v Fv s F->D'.rt s env->D.rt v H
 bk:∀ σ G' H F env,VI B G' H σ env F->Same G G'->D'.bk env->D.bk σ H
 ct:∀ σ G' H F env,VI B G' H σ env F->Same G G'->D'.ct env->D.ct σ H
def EvS (B:Bs) (ts:TS) (D':VEnds) (env:En):Prop:=∀ (σ:St) (G H:Hp) (F:Nat->Addr->Prop) (D:Ends),VI B G H σ env F->RelE B G D D'->ts D σ H
theorem RelE.later {B:Bs} {G G':Hp} {D:Ends} {D':VEnds} (r:RelE B G D D') (g:Same G G'):RelE B G' D D' :=
 ⟨fun σ a H F env I q=>r.nx σ a H F env I (g.trans q),fun σ a H F env v Fv s I q=>r.rt σ a H F env v Fv s I (g.trans q),fun σ a H F env I q=>r.bk σ a H F env I (g.trans q),fun σ a H F env I q=>r.ct σ a H F env I (g.trans q)⟩
section
variable {B:Bs} {env:En} {Q':PyData->En->Prop} {QO:Sl->En->Prop} {QT:Bool->En->Prop} {QA:List PyData->En->Prop} {te ta tb:TE}
theorem ae2 {G H:Hp} {v:V} {d:PyData} {F:Nat->Addr->Prop} (r:Rp G v d):RsX B G H v (fun _=>False) (.st d) F:=⟨⟨r,fun a z=>z⟩,fun a z=>z.elim,fun a z=>z.elim,fun a z=>z.elim,fun j a z=>z.elim⟩
theorem aa7 (h:Ev B te env fun d e=>QO (.st d) e):EvO B te env QO:=fun σ G H F Q I k =>
 h σ G H F Q I fun v G' H' F' d a b g r q=>k v G' H' F' _ (.st d) a b g (ae2 r) q
theorem abo (h:EvO B te env fun s e=>FQ s fun d=>Q' d e):Ev B te env Q':=fun σ G H F Q I k =>
 h σ G H F Q I fun v G' H' F' Fv s a b g r q=>by
  cases s with
  | st d=>exact k v G' H' F' d a b g r.ok.1 q
  | own A =>
   obtain ⟨d,f,q⟩:=q
   exact k v _ H' F' d a (b.freeze r.fb r.fd r.fg) (g.trans (abl r.fg)) (f G' H' v Fv r.ok r.fg b.gh) q
  | io A=>exact q.elim
  | scr ns=>exact q.elim
theorem az2 {i:Nat} {d:PyData} (e:env[i]?=some (some (.st d))) (q:Q' d env):Ev B (tVar i) env Q':=fun σ G H F Q I k=>by
 obtain ⟨v,a,r⟩:=I.sl i _ e
 exact ⟨v,a,k v G H F d env I (Same.refl _) r.1 q⟩
theorem axr {i:Nat} {A:Own} {d:PyData} (e:env[i]?=some (some (.own A))) (f:Frz A d) (q:Q' d (env.set i (some (.st d)))):Ev B (tVar i) env Q':=fun σ G H F Q I k=>by
 obtain ⟨v,a,r,g,J⟩:=I.frz e f
 exact ⟨v,a,k v _ H _ d _ J g r q⟩
theorem auz {i:Nat} {A:Own} (e:env[i]?=some (some (.own A))) (q:QO (.own A) (env.set i none)):EvO B (tVar i) env QO:=fun σ G H F Q I k=>by
 obtain ⟨v,b,r⟩:=I.sl i _ e
 refine ⟨v,b,k v G H _ (F i) (.own A) _ (I.drop i) (Same.refl _) ⟨r.1,r.2,I.fg i,I.fo i,fun j a z y=>?_⟩ q⟩
 by_cases h:j=i
 ·subst h;exact putF_same.mp y
 ·rw [aa8 h] at y;exact h (I.fd j i a y z)
theorem az3 {i:Int} (q:Q' (.int i) env):Ev B (tC (.int i)) env Q':=fun σ G H F Q I k=>k _ G H F _ env I (Same.refl _) (.int i) q
theorem a1v {b:Bool} (q:Q' (.bool b) env):Ev B (tC (.bl b)) env Q':=fun σ G H F Q I k=>k _ G H F _ env I (Same.refl _) (.bl b) q
theorem az4 (q:Q' .none env):Ev B (tC .non) env Q':=fun σ G H F Q I k=>k _ G H F _ env I (Same.refl _) .non q
def Op2 (r:R2) (x y:PyData) (R:Sl->Prop):Prop:=∀ (G H:Hp) (vx vy:V) (Q:VK),Same G H->Rp G vx x->Rp G vy y->(∀ v G' H' s Fv,Out G H v G' H' s Fv->R s->Q v H')->r vx vy H Q
def Op1 (r:V->Hp->VK->Prop) (x:PyData) (R:Sl->Prop):Prop:=∀ (G H:Hp) (vx:V) (Q:VK),Same G H->Rp G vx x->(∀ v G' H' s Fv,Out G H v G' H' s Fv->R s->Q v H')->r vx H Q
def OpA (r:List V->Hp->VK->Prop) (ds:List PyData) (R:Sl->Prop):Prop:=∀ (G H:Hp) (vs:List V) (Q:VK),Same G H->Rps G vs ds->(∀ v G' H' s Fv,Out G H v G' H' s Fv->R s->Q v H')->r vs H Q
theorem anc {r:R2} (h:Ev B ta env fun x c=>Ev B tb c fun y e2=>Op2 r x y fun s=>QO s e2):EvO B (tOp r ta tb) env QO:=fun σ G H F Q I k =>
 h σ G H F _ I fun q f p d x c z w l m=>m σ f p d _ z fun i j H2 F2 y e2 a b n A =>
  A j H2 q i Q a.gh (l.same b) n fun v u H3 s Fv o g=>k v u H3 F2 Fv s e2 (a.out o).1 (w.trans (b.trans o.gg)) (a.out o).2 g
theorem awk {r:R2} (h:Ev B ta env fun x a=>Ev B tb a fun y e2=>Op2 r x y fun s=>FQ s fun d=>Q' d e2):Ev B (tOp r ta tb) env Q':=abo (anc h)
theorem az5 {r:V->Hp->VK->Prop} (h:Ev B ta env fun x a=>Op1 r x fun s=>QO s a):EvO B (tUn r ta) env QO:=fun σ G H F Q I k =>
 h σ G H F _ I fun l d j c x a b n g i=>i d j l Q b.gh g fun v m H3 s Fv o f=>k v m H3 c Fv s a (b.out o).1 (n.trans o.gg) (b.out o).2 f
theorem a1w {r:V->Hp->VK->Prop} (h:Ev B ta env fun x a=>Op1 r x fun s=>FQ s fun d=>Q' d a):Ev B (tUn r ta) env Q':=abo (az5 h)
theorem apc (q:QA [] env):EvA B tNil env QA:=fun σ G H F Q I k=>k [] G H F [] env I (Same.refl _) .nil q
theorem ane {tr:TA} (h:Ev B ta env fun x b=>EvA B tr b fun xs e2=>QA (x :: xs) e2):EvA B (aa5 ta tr) env QA:=fun σ G H F Q I k =>
 h σ G H F _ I fun q d l c x b n m g i=>i σ d l c _ n fun vs f H2 F2 ds e2 o a j p=>k _ f H2 F2 _ e2 o (m.trans a) (.cons (g.same a) j) p
theorem aso {r:List V->Hp->VK->Prop} {t:TA} (h:EvA B t env fun ds a=>OpA r ds fun s=>QO s a):EvO B (tCB r t) env QO:=fun σ G H F Q I k =>
 h σ G H F _ I fun vs d j c ds a b m g i=>i d j vs Q b.gh g fun v l H3 s Fv o f=>k v l H3 c Fv s a (b.out o).1 (m.trans o.gg) (b.out o).2 f
theorem a1x {r:List V->Hp->VK->Prop} {t:TA} (h:EvA B t env fun ds a=>OpA r ds fun s=>FQ s fun d=>Q' d a):Ev B (tCB r t) env Q':=abo (aso h)
theorem apd {t:TA} (h:EvA B t env fun ds a=>ds.length<=1000/\QO (.st (.tuple ds)) a):EvO B (tTup t) env QO:=fun σ G H F Q I k =>
 h σ G H F _ I fun vs j l f ds a b i c d=>⟨by rw [c.length];exact aF7 (ae8 d.1),fun p g=>by
  have o:=Out.newT b.gh g c
  exact k _ _ _ f _ _ a (b.out o).1 (i.trans o.gg) (b.out o).2 d.2⟩
theorem az6 {t:TA} (h:EvA B t env fun ds a=>ds.length<=1000/\Q' (.tuple ds) a):Ev B (tTup t) env Q':=abo (apd h)
theorem ape {t:TA} (h:EvA B t env fun ds a=>ds.length<=1000/\QO (.own (OL ds)) a):EvO B (tLst t) env QO:=fun σ G H F Q I k =>
 h σ G H F _ I fun vs j l f ds a b i c d=>⟨by rw [c.length];exact aF7 (ae8 d.1),fun p g=>by
  have o:=Out.newL b.gh g c
  exact k _ _ _ f _ _ a (b.out o).1 (i.trans o.gg) (b.out o).2 d.2⟩
theorem az7 {t:TA} (h:EvA B t env fun ds a=>ds.length<=1000/\Q' (.list ds) a):Ev B (tLst t) env Q':=abo (ape fun σ G H F Q I k=>h σ G H F Q I fun vs G' H' F' ds a b g r q=>k vs G' H' F' ds a b g r ⟨q.1,adj q.2⟩)
theorem ail (h:Ev B te env fun x a=>∃ b,x=.bool b/\QT b a):EvT B (al2 te) env QT:=fun σ G H F Q I k =>
 h σ G H F _ I fun v d i c x a l j g f=>by
  obtain ⟨b,e,q⟩:=f
  subst e
  cases g
  exact ⟨b,rfl,k b d i c a l j q⟩
theorem a1y (h:Ev B te env fun x a=>∃ b,x=.bool b/\QT b a):EvT B (tB te) env QT:=ail h
theorem x_bl {b:Bool} {R:Bool->Prop} (h:R b):∃ c,PyData.bool b=.bool c/\R c:=⟨b,rfl,h⟩
theorem axs {t u:TT} (h:EvT B t env fun c a=>if c=true then EvT B u a QT else QT false a):EvT B (tAnd t u) env QT:=fun σ G H F Q I k =>
 h σ G H F _ I fun b f g d a j i q=>by
  cases b with
  | true=>rw [aE7 rfl] at q ⊢;exact q σ f g d Q j fun c m H2 F2 e2 n l o=>k c m H2 F2 e2 n (i.trans l) o
  | false=>rw [aE8 aA9] at q ⊢;exact k false f g d a j i q
theorem az8 {t u:TT} (h:EvT B t env fun c a=>if c=true then QT true a else EvT B u a QT):EvT B (tOr t u) env QT:=fun σ G H F Q I k =>
 h σ G H F _ I fun b f g d a j i q=>by
  cases b with
  | false=>rw [aE8 aA9] at q ⊢;exact q σ f g d Q j fun c m H2 F2 e2 n l o=>k c m H2 F2 e2 n (i.trans l) o
  | true=>rw [aE7 rfl] at q ⊢;exact k true f g d a j i q
theorem apf {t:TT} (h:EvT B t env fun c a=>QT (!c) a):EvT B (tNot t) env QT:=fun σ G H F Q I k =>
 h σ G H F _ I fun b g d f a j i q=>k (!b) g d f a j i q
theorem akk (q:QT true env):EvT B tYes env QT:=fun σ G H F Q I k=>k true G H F env I (Same.refl _) q
def TruD:PyData->Bool->Prop
 | .bool b,k=>k=b
 | .list ds,k=>k = !ds.isEmpty
 | _,_=>False
theorem axt {K:Frag} (h:Ev B te env fun x a=>∃ b,TruD x b/\QT b a):EvT B (tTru K te) env QT:=fun σ G H F Q I k =>
 h σ G H F _ I fun v g i f x a d j m l=>by
  obtain ⟨b,e,q⟩:=l
  cases m with
  | bl c=>cases e;exact ⟨_,rfl,k _ g i f a d j q⟩
  | lst ha rs =>
   refine ⟨b,.inl ⟨_,SqL.of (d.gh _ _ ha),?_⟩,k _ g i f a d j q⟩
   have n:b = !_:=e
   rw [n]
   cases rs <;> rfl
  | _=>exact e.elim
theorem axu (h:Ev B ta env fun x a=>∃ b,x=.bool b/\if b=true then Ev B tb a Q' else Q' (.bool false) a):Ev B (ap9 ta tb) env Q':=fun σ G H F Q I k =>
 h σ G H F _ I fun v f g c x a j i o l=>by
  obtain ⟨b,e,q⟩:=l
  subst e
  cases o
  refine ⟨b,rfl,?_⟩
  cases b with
  | true=>rw [aE7 rfl] at q ⊢;exact q σ f g c Q j fun v n H2 F2 d e2 r m p s=>k v n H2 F2 d e2 r (i.trans m) p s
  | false=>rw [aE8 aA9] at q ⊢;exact k _ f g c _ a j i (.bl false) q
theorem az9 (h:Ev B ta env fun x a=>∃ b,x=.bool b/\if b=true then Q' (.bool true) a else Ev B tb a Q'):Ev B (tOrV ta tb) env Q':=fun σ G H F Q I k =>
 h σ G H F _ I fun v f g c x a j i o l=>by
  obtain ⟨b,e,q⟩:=l
  subst e
  cases o
  refine ⟨b,rfl,?_⟩
  cases b with
  | false=>rw [aE8 aA9] at q ⊢;exact q σ f g c Q j fun v n H2 F2 d e2 r m p s=>k v n H2 F2 d e2 r (i.trans m) p s
  | true=>rw [aE7 rfl] at q ⊢;exact k _ f g c _ a j i (.bl true) q
theorem axv (h:Ev B ta env fun x a=>∃ b,x=.bool b/\Q' (.bool (!b)) a):Ev B (aqa ta) env Q':=fun σ G H F Q I k =>
 h σ G H F _ I fun v d i c x a l j g f=>by
  obtain ⟨b,e,q⟩:=f
  subst e
  cases g
  exact ⟨b,rfl,k _ d i c _ a l j (.bl _) q⟩
theorem a1z {t:TT} (h:EvT B t env fun c g=>if c=true then Ev B ta g Q' else Ev B tb g Q'):Ev B (tIf t ta tb) env Q':=fun σ G H F Q I k =>
 h σ G H F _ I fun b n o m g r p q=>by
  cases b with
  | true=>rw [aE7 rfl] at q ⊢;exact q σ n o m Q r fun v f H2 F2 d e2 j a i l=>k v f H2 F2 d e2 j (p.trans a) i l
  | false=>rw [aE8 aA9] at q ⊢;exact q σ n o m Q r fun v f H2 F2 d e2 j a i l=>k v f H2 F2 d e2 j (p.trans a) i l
theorem au0 {r N:R2} {O:TE} (h:Ev B ta env fun x E=>Ev B tb E fun y e2=>Op2 r x y fun s=>∃ b,s=.st (.bool b)/\if b=true then Ev B O e2 fun z e3=>Op2 N y z fun s'=>FQ s' fun d=>Q' d e3 else Q' (.bool false) e2):Ev B (aix r N ta tb O) env Q':=fun σ G H F Q I k =>
 h σ G H F _ I fun v1 U H1 T x E I1 R r1 q1=>q1 σ U H1 T _ I1 fun C Z H2 F2 y e2 S g M q2 =>
  q2 Z H2 v1 C _ S.gh (r1.same g) M fun v P H3 s Fv o X=>by
   obtain ⟨b,es,a⟩:=X
   have L:=(S.out o).1
   have l:=o.ok
   subst es
   obtain ⟨l,_⟩:=l
   cases l
   refine ⟨b,rfl,?_⟩
   cases b with
   | false=>rw [aE8 aA9] at a ⊢;exact k _ P H3 F2 _ e2 L (R.trans (g.trans o.gg)) (.bl _) a
   | true =>
    rw [aE7 rfl] at a ⊢
    refine a σ P H3 F2 _ L fun W G4 Y D z u w K r4 q4=>q4 G4 Y C W Q w.gh (M.same (o.gg.trans K)) r4 fun i p j s5 n m c=>?_
    have J:=w.out m
    have gg:=R.trans (g.trans (o.gg.trans (K.trans m.gg)))
    cases s5 with
    | st d=>exact k i p j D d u J.1 gg m.ok.1 c
    | own A =>
     obtain ⟨d,f,q⟩:=c
     exact k i _ j D d u (J.1.freeze J.2.fb J.2.fd J.2.fg) (gg.trans (abl J.2.fg)) (f p j i n J.2.ok J.2.fg J.1.gh) q
    | io A=>exact c.elim
    | scr ns=>exact c.elim
end
section
variable {B:Bs} {env:En} {D':VEnds} {t u tb:TS} {te:TE} {g:TG} {c:TT} {QE:En->Prop}
theorem apg (h:EvS B t { D' with nx:=fun e=>EvS B u D' e } env):EvS B (tSeq t u) D' env:=fun σ G H F D I r =>
 h σ G H F { D with nx:=u D } I ⟨fun σ G' H F env a g q=>q σ G' H F D a (r.later g),r.rt,r.bk,r.ct⟩
theorem au1 (h:D'.nx env):EvS B aqb D' env:=fun σ G H F D I r=>r.nx σ G H F env I (Same.refl _) h
theorem axw (h:EvO B te env fun s e=>EvG B g s e D'.nx):EvS B (tAsg te g) D' env:=fun σ G H F D I r =>
 h σ G H F _ I fun v c l b Fv s q n m j i=>i σ c l b v Fv D.nx n j fun a f H2 F2 e2 o d p=>r.nx a f H2 F2 e2 o (m.trans d) p
theorem abq {i:Nat} {s:Sl} (h:QE (env.set i (some s))):EvG B (abw i) s env QE:=fun σ G H F v Fv Q I x k=>k _ G H _ _ (I.store x i) (Same.refl _) h
theorem au2 (h:QE env):EvGs B gNil [] env QE:=fun σ G H F vs Q I x k=>by cases x;exact ⟨rfl,k σ G H F env I (Same.refl _) h⟩
theorem asp {c:TGs} {d:PyData} {ds:List PyData} (h:EvG B g (.st d) env fun e=>EvGs B c ds e QE):EvGs B (av9 g c) (d :: ds) env QE:=fun σ G H F vs Q I x k=>by
 cases x with
 | cons r rs =>
  refine ⟨_,_,rfl,h σ G H F _ _ _ I (ae2 r) fun b j o i u p f n=>n b j o i _ Q p (rs.same f) fun a m H2 F2 e2 q l s=>k a m H2 F2 e2 q (f.trans l) s⟩
theorem axx {K:Frag} {n:Nat} {a:TGs} {ds:List PyData} (b:ds.length=n) (h:EvGs B a ds env QE):EvG B (gTup K n a) (.st (.tuple ds)) env QE:=fun σ G H F v Fv Q I x k=>by
 obtain ⟨r,_⟩:=x.ok
 cases r with
 | tup ha rs=>exact ⟨_,_,rfl,SqT.of (I.gh _ _ ha),by rw [rs.length,b],h σ G H F _ Q I rs k⟩
theorem aph (h:EvO B te env fun s e=>D'.rt s e):EvS B (tRet te) D' env:=fun σ G H F D I r =>
 h σ G H F _ I fun v b g a Fv s d j i f c=>r.rt σ b g a d v Fv s j i f c
theorem anf (h:EvO B te env fun _ e=>D'.nx e):EvS B (aqc te) D' env:=fun σ G H F D I r =>
 h σ G H F _ I fun v b f a Fv s d i g j c=>r.nx σ b f a d i g c
theorem asq (h:EvT B c env fun b e=>if b=true then EvS B t D' e else EvS B u D' e):EvS B (tIfS c t u) D' env:=fun σ G H F D I r =>
 h σ G H F _ I fun b f a d j i g q=>by
  cases b with
  | true=>rw [aE7 rfl] at q ⊢;exact q σ f a d D i (r.later g)
  | false=>rw [aE8 aA9] at q ⊢;exact q σ f a d D i (r.later g)
def ForV (B:Bs) (g:TG) (tb:TS) (D':VEnds) (ds:List PyData) (e1:En):Prop:=∃ J:Nat->En->Prop,J 0 e1/\(∀ i d e,ds[i]?=some d->J i e->EvG B g (.st d) e fun e2=>EvS B tb { D' with nx:=J (i+1),ct:=J (i+1),bk:=D'.nx } e2)/\∀ e,J ds.length e->D'.nx e
theorem axy {E:TI} (h:EvI B E env fun ds w=>ForV B g tb D' ds w):EvS B (tFor E g tb) D' env:=fun σ G H F D I r =>
 h σ G H F _ I fun J v H1 O ds w I1 A it Q=>by
  obtain ⟨L,j0,js,jd⟩:=Q
  refine ⟨fun i m σ H=>m=ds.length - i/\i<=ds.length/\∃ d F2 e2,VI B d H σ e2 F2/\Same v d/\L i e2,⟨ds.length,by simp,aF2 _,v,O,w,I1,Same.refl _,j0⟩,?_⟩
  rintro i m σ H ⟨rfl,hi,d,F2,e2,n,p,N⟩
  by_cases hlt:i < ds.length
  ·refine .inr ⟨it.go i d H p n.gh hlt,fun σ H=>∃ s T K,VI B s H σ K T/\Same v s/\L (i+1) K,fun a0 H' h'=>⟨ds.length - (i+1),by lia,rfl,hlt,h'⟩,fun x H' y=>?_⟩
   obtain ⟨s,o⟩:=it.yld i d H x H' _ p n.gh n.ft (aA0 hlt) y
   have M:=n.out o
   refine js i _ e2 (aA0 hlt) N σ s H' F2 x _ _ M.1 M.2 fun u S R X e4 P Y Z=>?_
   have gg:=p.trans (o.gg.trans Y)
   refine Z u S R X _ P ⟨fun a b q l j f c z=>⟨b,l,j,f,gg.trans c,z⟩,fun a b q l j W C U f c=>r.rt a b q l j W C U f (A.trans (gg.trans c)),fun a b q l j f c=>r.nx a b q l j f (A.trans (gg.trans c)),fun a b q l j f c z=>⟨b,l,j,f,gg.trans c,z⟩⟩
  ·have e:i=ds.length:=by lia
   subst e
   exact .inl ⟨it.stop _ d H p n.gh rfl,r.nx σ d H F2 e2 n (A.trans p) (jd e2 N)⟩
theorem aha (J:Nat->En->Prop) (u:∃ m,J m env) (h:∀ m e,J m e->EvT B c e fun b z=>if b=true then EvS B tb { D' with nx:=fun e2=>∃ d,d < m/\J d e2,ct:=fun e2=>∃ d,d < m/\J d e2,bk:=D'.nx } z else D'.nx z):EvS B (arp c tb) D' env:=fun σ G H F D I r=>by
 obtain ⟨L,u⟩:=u
 refine ⟨fun m σ H=>∃ q F2 e2,VI B q H σ e2 F2/\Same G q/\J m e2,⟨L,G,F,env,I,Same.refl _,u⟩,?_⟩
 rintro m σ H ⟨q,F2,e2,U,K,T⟩
 refine h m e2 T σ q H F2 _ U fun b C H3 y O A P p=>?_
 have gg:=K.trans P
 cases b with
 | false=>rw [aE8 aA9] at p ⊢;exact r.nx σ C H3 y O A gg p
 | true =>
  rw [aE7 rfl] at p ⊢
  refine ⟨fun σ H=>∃ s v o,VI B s H σ o v/\Same G s/\∃ d,d < m/\J d o,fun S H' ⟨s,v,o,E,Q,d,hm,R⟩=>⟨d,hm,s,v,o,E,Q,R⟩,?_⟩
  exact p σ C H3 y _ A ⟨fun a f n l j i g w=>⟨f,l,j,i,gg.trans g,w⟩,fun a f n l j N x M i g=>r.rt a f n l j N x M i (gg.trans g),fun a f n l j i g=>r.nx a f n l j i (gg.trans g),fun a f n l j i g w=>⟨f,l,j,i,gg.trans g,w⟩⟩
variable {QI:List PyData->En->Prop}
theorem au3 {K:Frag} (h:Ev B te env fun d e=>∃ ds,d=.list ds/\QI ds e):EvI B (awb K te) env QI:=fun σ G H F R I k =>
 h σ G H F _ I fun v f q c d n b s l j=>by
  obtain ⟨ds,o,m⟩:=j
  subst o
  cases l with
  | @lst a vs ds ha rs =>
   refine ⟨a,rfl,⟨vs,SqL.of (b.gh _ _ ha)⟩,k _ f q c ds n b s ⟨fun i G' H' g h hi=>?_,fun i G' H' g h hi=>?_,fun i G' H' x H'' d g h ft hd y=>?_⟩ m⟩
   ·have:i < vs.length:=by rw [rs.length];exact hi
    exact ⟨vs,vs[i],SqL.of (h _ _ (g _ _ ha)),aA0 this⟩
   ·exact ⟨vs,SqL.of (h _ _ (g _ _ ha)),by rw [rs.length];exact Nat.le_of_eq hi.symm⟩
   ·obtain ⟨e,y⟩:=y
    subst e
    obtain ⟨v,r,p⟩:=rs.get hd
    have:=y vs (SqL.of (h _ _ (g _ _ ha)))
    rw [r] at this
    cases this
    exact ⟨G',Out.refl h (p.same g)⟩
theorem a0a {ds:List PyData} {R:List PyData->Prop} (h:R ds):∃ xs,PyData.list ds=.list xs/\R xs:=⟨ds,rfl,h⟩
def rngD (lo:Int) (n:Nat):List PyData:=(List.range n).map fun (i:Nat) => .int (lo+(i:Int))
theorem acy {lo:Int} {n:Nat}:(rngD lo n).length=n:=by simp [rngD]
theorem aim {lo:Int} {n i:Nat} {d:PyData} (h:(rngD lo n)[i]?=some d):i < n/\d=.int (lo+(i:Int)):=by
 unfold rngD at h
 rw [aA5] at h
 have hi:i < n:=by
  have:=(aA1 (l:=(List.range n).map fun (i:Nat)=>PyData.int (lo+(i:Int)))).mp (by rw [aA5];exact h)
  obtain ⟨q,_⟩:=this
  simpa using q
 rw [aA0 (by simpa using hi)] at h
 simp at h
 exact ⟨hi,h.symm⟩
theorem asr {G:Hp} {lo:Int} {n:Nat}:ItOk G (Itr lo n) (rngD lo n):=by
 refine ⟨fun i G' H' g h hi=>?_,fun i G' H' g h hi=>?_,fun i G' H' x H'' d g h ft hd y=>?_⟩
 ·rw [acy] at hi;exact hi
 ·rw [acy] at hi;exact Nat.le_of_eq hi.symm
 ·obtain ⟨e,y⟩:=y
  subst e y
  rw [(aim hd).2]
  exact ⟨G',Out.refl h (.int _)⟩
def amb (ds:List PyData) (R:List PyData->Prop):Prop:=∃ j:Int,ds=[.int j]/\-(2 ^ 62)<=j/\j < 2 ^ 62/\R (rngD 0 j.toNat)
def amc (ds:List PyData) (R:List PyData->Prop):Prop:=∃ i j:Int,ds=[.int i,.int j]/\(-(2 ^ 62)<=i/\i < 2 ^ 62/\-(2 ^ 62)<=j/\j < 2 ^ 62)/\R (rngD i (j - i).toNat)
theorem au4 {a:TA} (h:EvA B a env fun ds e=>amb ds fun xs=>QI xs e):EvI B (aqe a) env QI:=fun σ G H F R I k =>
 h σ G H F _ I fun vs c n b ds l p o g d=>by
  obtain ⟨j,m,b1,f,i⟩:=d
  subst m
  obtain rfl:vs=[V.int j]:=Rps.ints_inv (ns:=[j]) g
  exact ⟨j,rfl,b1,f,k _ c n b _ l p o asr i⟩
theorem au5 {a:TA} (h:EvA B a env fun ds e=>amc ds fun xs=>QI xs e):EvI B (awc a) env QI:=fun σ G H F R I k =>
 h σ G H F _ I fun vs c n b ds l p o f d=>by
  obtain ⟨i,j,m,b1,g⟩:=d
  subst m
  obtain rfl:vs=[V.int i,V.int j]:=Rps.ints_inv (ns:=[i,j]) f
  exact ⟨i,j,rfl,b1,k _ c n b _ l p o asr g⟩
theorem a0b {j:Int} {R:List PyData->Prop} (b : -4611686018427387904<=j) (a:j < 4611686018427387904) (h:R (rngD 0 j.toNat)):amb [.int j] R:=⟨j,rfl,by lia,by lia,h⟩
theorem a0c {a b:Int} {R:List PyData->Prop} (c : -4611686018427387904<=a/\a < 4611686018427387904/\-4611686018427387904<=b/\b < 4611686018427387904) (h:R (rngD a (b - a).toNat)):amc [.int a,.int b] R:=⟨a,b,rfl,by lia,h⟩
theorem ab5 {lo:Int} {n:Nat} (J:Nat->En->Prop) (a:J 0 env) (b:∀ i e,i < n->J i e->EvG B g (.st (.int (lo+(i:Int)))) e fun e2=>EvS B tb { D' with nx:=J (i+1),ct:=J (i+1),bk:=D'.nx } e2) (hd:∀ e,J n e->D'.nx e):ForV B g tb D' (rngD lo n) env :=
 ⟨J,a,fun i d e h j=>by obtain ⟨hi,rfl⟩:=aim h;exact b i e hi j,fun e j=>hd e (by rw [acy] at j;exact j)⟩
theorem adm {α:Type} {f : α->PyData} {xs:List α} (J:Nat->En->Prop) (a:J 0 env) (b:∀ i x e,xs[i]?=some x->J i e->EvG B g (.st (f x)) e fun e2=>EvS B tb { D' with nx:=J (i+1),ct:=J (i+1),bk:=D'.nx } e2) (hd:∀ e,J xs.length e->D'.nx e):ForV B g tb D' (xs.map f) env :=
 ⟨J,a,fun i d e h j=>by
  rw [aA5] at h
  cases hx:xs[i]? with
  | none=>rw [hx] at h;cases h
  | some x=>rw [hx] at h;cases h;exact b i x e hx j,fun e j=>hd e (by rw [aA3] at j;exact j)⟩
end
theorem ang {B:Bs} {a b:TS} {D':VEnds} {env:En} (h:∀ c:TS,c=b->EvS B a { D' with nx:=fun e=>EvS B c D' e } env):EvS B (tSeq a b) D' env:=apg (h b rfl)
theorem akl {B:Bs} {c b:TS} {D':VEnds} {env:En} (e:c=b) (h:EvS B b D' env):EvS B c D' env:=by rw [e];exact h
@[elab_as_elim] theorem exS1 {c:Type} {σ:Type} {f : c->σ} {p : c->Prop} {a : σ->Prop} (s : σ) (h:∃ b,s=f b/\p b) (k:∀ b,p b->a (f b)):a s:=by
 obtain ⟨b,e,h⟩:=h
 rw [e];exact k _ h
@[elab_as_elim] theorem exS2 {d:Type} {g:Type} {σ:Type} {f : d->g->σ} {p : d->g->Prop} {a : σ->Prop} (s : σ) (h:∃ c b,s=f c b/\p c b) (k:∀ c b,p c b->a (f c b)):a s:=by
 obtain ⟨c,b,e,h⟩:=h
 rw [e];exact k _ _ h
@[elab_as_elim] theorem exS3 {g:Type} {j:Type} {i:Type} {σ:Type} {f : g->j->i->σ} {p : g->j->i->Prop} {a : σ->Prop} (s : σ) (h:∃ d b c,s=f d b c/\p d b c) (k:∀ d b c,p d b c->a (f d b c)):a s:=by
 obtain ⟨d,b,c,e,h⟩:=h
 rw [e];exact k _ _ _ h
@[elab_as_elim] theorem exE3 {g:Type} {j:Type} {i:Type} {σ:Type} {f : g->j->i->σ} {a : σ->Prop} (s : σ) (h:∃ d b c,s=f d b c) (k:∀ d b c,a (f d b c)):a s:=by
 obtain ⟨d,b,c,e⟩:=h
 rw [e];exact k _ _ _
@[elab_as_elim] theorem exS4 {i:Type} {l:Type} {j:Type} {m:Type} {σ:Type} {f : i->l->j->m->σ} {p : i->l->j->m->Prop} {a : σ->Prop} (s : σ) (h:∃ d c b g,s=f d c b g/\p d c b g) (k:∀ d c b g,p d c b g->a (f d c b g)):a s:=by
 obtain ⟨d,c,b,g,e,h⟩:=h
 rw [e];exact k _ _ _ _ h
@[elab_as_elim] theorem exS5 {j:Type} {n:Type} {l:Type} {o:Type} {m:Type} {σ:Type} {f : j->n->l->o->m->σ} {p : j->n->l->o->m->Prop} {a : σ->Prop} (s : σ) (h:∃ d c b i g,s=f d c b i g/\p d c b i g) (k:∀ d c b i g,p d c b i g->a (f d c b i g)):a s:=by
 obtain ⟨d,c,b,i,g,e,h⟩:=h
 rw [e];exact k _ _ _ _ _ h
@[elab_as_elim] theorem exS6 {l:Type} {q:Type} {o:Type} {n:Type} {m:Type} {r:Type} {σ:Type} {f : l->q->o->n->m->r->σ} {p : l->q->o->n->m->r->Prop} {a : σ->Prop} (s : σ) (h:∃ b i g c d j,s=f b i g c d j/\p b i g c d j) (k:∀ b i g c d j,p b i g c d j->a (f b i g c d j)):a s:=by
 obtain ⟨b,i,g,c,d,j,e,h⟩:=h
 rw [e];exact k _ _ _ _ _ _ h
@[elab_as_elim] theorem exS7 {m:Type} {u:Type} {q:Type} {o:Type} {n:Type} {v:Type} {r:Type} {σ:Type} {f : m->u->q->o->n->v->r->σ} {p : m->u->q->o->n->v->r->Prop} {a : σ->Prop} (s : σ) (h:∃ b i g c d l j,s=f b i g c d l j/\p b i g c d l j) (k:∀ b i g c d l j,p b i g c d l j->a (f b i g c d l j)):a s:=by
 obtain ⟨b,i,g,c,d,l,j,e,h⟩:=h
 rw [e];exact k _ _ _ _ _ _ _ h
@[elab_as_elim] theorem exE7 {m:Type} {r:Type} {p:Type} {o:Type} {n:Type} {u:Type} {q:Type} {σ:Type} {f : m->r->p->o->n->u->q->σ} {a : σ->Prop} (s : σ) (h:∃ b i g c d l j,s=f b i g c d l j) (k:∀ b i g c d l j,a (f b i g c d l j)):a s:=by
 obtain ⟨b,i,g,c,d,l,j,e⟩:=h
 rw [e];exact k _ _ _ _ _ _ _
@[elab_as_elim] theorem exS8 {n:Type} {w:Type} {u:Type} {r:Type} {o:Type} {x:Type} {v:Type} {q:Type} {σ:Type} {f : n->w->u->r->o->x->v->q->σ} {p : n->w->u->r->o->x->v->q->Prop} {a : σ->Prop} (s : σ) (h:∃ b i g c d m j l,s=f b i g c d m j l/\p b i g c d m j l) (k:∀ b i g c d m j l,p b i g c d m j l->a (f b i g c d m j l)):a s:=by
 obtain ⟨b,i,g,c,d,m,j,l,e,h⟩:=h
 rw [e];exact k _ _ _ _ _ _ _ _ h
theorem big {n:Nat} (h:n<=1000000):n < sizeLine:=Nat.lt_of_le_of_lt h (by decide)
section
variable {B B1:Bs} {G H G' H':Hp} {σ σI:St} {env envI:En} {F F':Nat->Addr->Prop} {v:V} {s:Sl} {Fv:Addr->Prop} {inv:Nat->Option Nat}
open Classical in
def acm (H:Hp) (F:Nat->Addr->Prop) (inv:Nat->Option Nat):Hp:=fun a=>if ∃ i j,inv i=some j/\F i a then none else H a
theorem aga {i j:Nat} {a:Addr} (h:inv i=some j) (f:F i a):acm H F inv a=none:=aE7 ⟨i,j,h,f⟩
theorem agb {a:Addr} (h:∀ i j,inv i=some j->¬ F i a):acm H F inv a=H a:=aE8 fun ⟨i,j,x,y⟩=>h i j x y
theorem adv:Same (acm H F inv) H:=fun a o e=>by
 unfold acm at e
 split at e
 ·cases e
 ·exact e
theorem VI.enter (I:VI B G H σ env F) (inj:∀ i b j,inv i=some j->inv b=some j->i=b) (ln : σI.length=envI.length)
  (sl:∀ j s,envI[j]?=some (some s)->∃ v,σI[j]?=some (some v)/\((∃ d,s=.st d/\Rp G v d/\∀ i,inv i ≠ some j)\/(∃ ns a,s=.scr ns/\v=.ref a/\SqL B.K G a (ns.map V.int)/\∀ i,inv i ≠ some j) ∨
   ∃ i A,inv i=some j/\s=.io A/\σ[i]?=some (some v)/\(env[i]?=some (some (.own A))\/env[i]?=some (some (.io A))))) :
  VI ⟨B.K,G,H,acm H F inv,σI,fun j a=>∃ i,inv i=some j/\F i a⟩ G H σI envI (fun j a=>∃ i,inv i=some j/\F i a) where
 gh:=I.gh
 g0:=Same.refl _
 gn:=fun a o e => .inl e
 rs:=adv
 rb:=adv
 bh:=fun a o e=>⟨o,e⟩
 fg:=fun j a ⟨i,_,z⟩=>I.fg i a z
 fr:=fun j a ⟨i,h,z⟩=>aga h z
 fd:=fun j k a ⟨i,h,z⟩ ⟨b,h',m⟩=>by
  have:=I.fd i b a z m
  subst this
  rw [h] at h';cases h';rfl
 fo:=fun j a ⟨i,h,z⟩=>I.fo i a z
 sl:=fun j s e=>by
  obtain ⟨v,l,q⟩:=sl j s e
  refine ⟨v,l,?_⟩
  rcases q with ⟨d,rfl,r,n⟩ | ⟨ns,a,rfl,rfl,q,n⟩ | ⟨i,A,hi,rfl,g,f⟩
  ·exact ⟨r,fun a ⟨i,h,_⟩=>n i h⟩
  ·exact ⟨⟨a,rfl,q⟩,fun a ⟨i,h,_⟩=>n i h⟩
  ·refine ⟨?_,fun a z => .inl z,l⟩
   have u:(fun a=>∃ b,inv b=some j/\F b a)=F i:=by
    funext a
    exact propext ⟨fun ⟨b,h,z⟩=>by rw [inj i b j hi h];exact z,fun z=>⟨i,hi,z⟩⟩
   show A.P G H v (fun a=>∃ b,inv b=some j/\F b a)
   rw [u]
   rcases f with f | f
   ·obtain ⟨p,c,e2⟩:=I.sl i _ f
    rw [g] at c;cases c;exact e2.1
   ·obtain ⟨p,c,e2⟩:=I.sl i _ f
    rw [g] at c;cases c;exact e2.1
 ln:=ln
 ft:=I.ft
theorem VI.leave (I:VI B G H σ env F) (inj:∀ i m j,inv i=some j->inv m=some j->i=m) (p:B1.G=G) (g:B1.H=H) (D:∀ a o,H a=some o->(∀ i j,inv i=some j->¬ F i a)->B1.R a=some o)
  (N:∀ i j,inv i=some j->∀ a,B1.F j a->F i a) (M:∀ i j,inv i=some j->B1.S[j]? = σ[i]?) (J:VI B1 G' H' σI envI F') (io:∀ i j,inv i=some j->∃ A',envI[j]?=some (some (.io A'))) {env2:En} (L:env2.length=env.length)
  (w:∀ i s,env2[i]?=some (some s)->(inv i=none/\env[i]?=some (some s))\/∃ j A A',inv i=some j/\envI[j]?=some (some (.io A'))/\((env[i]?=some (some (.own A))/\s=.own A')\/(env[i]?=some (some (.io A))/\s=.io A'))) :
  VI B G' H' σ env2 (fun i a=>match inv i with | some j=>F' j a | none=>F i a):=by
 have c:∀ a o,G' a=some o->G a=some o\/H a=none:=fun a o e=>by
  have:=J.gn a o e
  rw [p,g] at this;exact this
 have fi:∀ i j a,inv i=some j->F' j a->F i a\/H a=none:=fun i j a hi z=>by
  obtain ⟨A',e⟩:=io i j hi
  obtain ⟨v,_,q⟩:=J.sl j _ e
  rcases q.2.1 a z with y | y
  ·exact .inl (N i j hi a y)
  ·rw [g] at y;exact .inr y
 have kp:∀ a o,H a=some o->(∀ i j,inv i=some j->¬ F i a)->H' a=some o:=fun a o e n=>J.rs a o (D a o e n)
 refine ⟨J.gh,I.g0.trans (p ▸ J.g0),fun a o e=>?_,fun a o e=>?_,I.rb,fun a o e=>?_,fun i a z=>?_,fun i a z=>?_,fun i k a y z=>?_,fun i a z=>?_,fun i t e=>?_,by rw [L];exact I.ln,J.ft⟩
 ·rcases c a o e with e | e
  ·exact I.gn a o e
  ·exact .inr (I.no_b e)
 ·refine kp a o (I.rs a o e) fun i j _ z=>?_
  rw [I.fr i a z] at e;cases e
 ·obtain ⟨E,d⟩:=I.bh a o e
  exact J.bh a E (by rw [g];exact d)
 ·cases hi:inv i with
  | some j=>rw [hi] at z;exact J.fg j a z
  | none =>
   rw [hi] at z
   cases e:G' a with
   | none=>rfl
   | some o =>
    rcases c a o e with e | e
    ·rw [I.fg i a z] at e;cases e
    ·exact absurd z (I.no_f e i)
 ·cases hi:inv i with
  | some j =>
   rw [hi] at z
   rcases fi i j a hi z with y | y
   ·exact I.fr i a y
   ·exact I.no_r y
  | none=>rw [hi] at z;exact I.fr i a z
 ·cases hi:inv i with
  | some j =>
   rw [hi] at y
   cases hk:inv k with
   | some l =>
    rw [hk] at z
    have:=J.fd j l a y z
    subst this
    exact inj i k j hi hk
   | none =>
    rw [hk] at z
    rcases fi i j a hi y with x | x
    ·exact I.fd i k a x z
    ·exact absurd z (I.no_f x k)
  | none =>
   rw [hi] at y
   cases hk:inv k with
   | some l =>
    rw [hk] at z
    rcases fi k l a hk z with x | x
    ·exact I.fd i k a y x
    ·exact absurd y (I.no_f x i)
   | none=>rw [hk] at z;exact I.fd i k a y z
 ·cases hi:inv i with
  | some j=>rw [hi] at z;exact J.fo j a z
  | none =>
   rw [hi] at z
   obtain ⟨o,e⟩:=I.fo i a z
   exact J.bh a o (by rw [g];exact e)
 ·rcases w i t e with ⟨hi,d⟩ | ⟨j,A,A',hi,d,e2⟩
  ·obtain ⟨v,u,q⟩:=I.sl i t d
   refine ⟨v,u,?_⟩
   simp only [hi]
   refine q.mono (p ▸ J.g0) fun a o z y=>kp a o y fun m O b C=>?_
   have:=I.fd i m a z C
   subst this
   rw [hi] at b;cases b
  ·obtain ⟨v,u,q⟩:=J.sl j _ d
   have r : σ[i]?=some (some v):=by rw [← M i j hi];exact q.2.2
   refine ⟨v,r,?_⟩
   simp only [hi]
   rcases e2 with ⟨e2,rfl⟩ | ⟨e2,rfl⟩
   ·obtain ⟨K,_,h⟩:=I.sl i _ e2
    refine ⟨q.1,fun a z=>?_⟩
    rcases fi i j a hi z with y | y
    ·exact h.2 a y
    ·exact I.no_b y
   ·obtain ⟨K,f,h⟩:=I.sl i _ e2
    rw [r] at f;cases f
    refine ⟨q.1,fun a z=>?_,h.2.2⟩
    rcases fi i j a hi z with y | y
    ·exact h.2.1 a y
    ·exact .inr (I.no_b y)
theorem RsX.leave (I:VI B G H σ env F) (b:B1.H=H) (r:RsX B1 G' H' v Fv s F'):RsX B G' H' v Fv s (fun i a=>match inv i with | some j=>F' j a | none=>F i a):=by
 have hn:∀ a,Fv a->H a=none:=fun a z=>b ▸ r.fb a z
 refine ⟨r.ok,fun a z=>I.no_b (hn a z),r.fg,r.fo,fun i a z y=>?_⟩
 cases hi:inv i with
 | some j=>rw [hi] at y;exact r.fd j a z y
 | none=>rw [hi] at y;exact I.no_f (hn a z) i y
end
abbrev VP:=List Sl->(Sl->Prop)->Prop
abbrev VIo:=Own->List Sl->(Own->Sl->Prop)->Prop
def noF:Nat->Addr->Prop:=fun _ _=>False
def bsP (K:Frag) (G H:Hp) (vs:List V):Bs:=⟨K,G,H,H,vs.map some,noF⟩
def awl (K:Frag) (G:Hp):V->Sl->Prop
 | v,.st d=>Rp G v d
 | v,.scr ns=>∃ a,v=.ref a/\SqL K G a (ns.map V.int)
 | _,_=>False
inductive ArgsOk (K:Frag) (G:Hp):List V->List Sl->Prop
 | nil:ArgsOk K G [] []
 | cons {v:V} {s:Sl} {vs:List V} {ss:List Sl}:awl K G v s->ArgsOk K G vs ss->ArgsOk K G (v :: vs) (s :: ss)
theorem ArgsOk.length {K:Frag} {G:Hp}:∀ {vs:List V} {ss:List Sl},ArgsOk K G vs ss->vs.length=ss.length
 | _,_,.nil=>rfl
 | _,_,.cons _ t=>by simp [ArgsOk.length t]
theorem ArgsOk.get {K:Frag} {G:Hp}:∀ {vs:List V} {ss:List Sl} {i:Nat} {s:Sl},ArgsOk K G vs ss->ss[i]?=some s->∃ v,vs[i]?=some v/\awl K G v s
 | _,_,_,_,.nil,e=>by simp at e
 | _,_,0,_,.cons r _,e=>by simp at e;subst e;exact ⟨_,rfl,r⟩
 | _,_,i+1,s,.cons _ t,e=>by
  obtain ⟨u,a,b⟩:=ArgsOk.get (i:=i) (s:=s) t (by simpa using e)
  exact ⟨u,by simpa using a,b⟩
theorem ArgsOk.of {K:Frag} {G:Hp}:∀ {vs:List V} {ds:List PyData},Rps G vs ds->ArgsOk K G vs (ds.map Sl.st)
 | _,_,.nil => .nil
 | _,_,.cons r t => .cons r (ArgsOk.of t)
theorem api {α:Type} {xs:List α} {n i:Nat} {s : α} (e:(xs.map some ++ List.replicate n none)[i]?=some (some s)):xs[i]?=some s:=by
 by_cases h:i < xs.length
 ·rw [aC2 (by simpa using h),aA5] at e
  rw [aA0 h] at e ⊢
  simpa using e
 ·rw [aC7 (by simpa using h),aG9] at e
  split at e <;> cases e
theorem apj {α:Type} {xs:List α} {n i:Nat} {s : α} (e:xs[i]?=some s):(xs.map some ++ List.replicate n none)[i]?=some (some s):=by
 have h:i < xs.length:=(aA1.mp e).1
 rw [aC2 (by simpa using h),aA5,e];rfl
def spP (K:Frag) (f:VP):Sp:=fun vs H Q _=>∃ G ss Q',Same G H/\FT G H/\ArgsOk K G vs ss/\f ss Q'/\∀ s,Q' s->∀ v G' H' Fv,Out G H v G' H' s Fv->Q v H'
structure OutI (G H R:Hp) (F0:Addr->Prop) (v0:V) (A':Own) (s:Sl) (v:V) (G' H':Hp) (F' Fv:Addr->Prop):Prop where
 gg:Same G G'
 gh:Same G' H'
 ft:FT G' H'
 gn:∀ a o,G' a=some o->G a=some o\/H a=none
 rs:Same R H'
 bh:∀ a o,H a=some o->∃ o',H' a=some o'
 ap:A'.P G' H' v0 F'
 fi:∀ a,F' a->F0 a\/H a=none
 fg:∀ a,F' a->G' a=none
 ok:RsOk G' H' v Fv s
 fv:∀ a,Fv a->H a=none/\G' a=none/\(∃ o,H' a=some o)/\¬ F' a
def spI (K:Frag) (f:VIo):Sp:=fun vs H Q _=>∃ v0 vr G R A ss F0 Q',vs=v0 :: vr/\Same G H/\FT G H/\Same R H/\A.P G H v0 F0/\(∀ a,F0 a->G a=none)/\(∀ a,F0 a->R a=none)/\ArgsOk K G vr ss /\
 f A ss Q'/\∀ A' s,Q' A' s->∀ v G' H' F' Fv,OutI G H R F0 v0 A' s v G' H' F' Fv->Q v H'
theorem abr {K:Frag} {f:VP} {b:TS} {N:List Str} {vs:List V} {H:Hp} {Q:VK} {E:XK} (h:spP K f vs H Q E)
  (hb:∀ ss Q',f ss Q'->∀ B,B.K=K->EvS B b { nx:=fun _=>Q' (.st .none),rt:=fun s _=>Q' s } (ss.map some ++ List.replicate (N.length - ss.length) none)):b { nx:=fun _ H'=>Q .non H',rt:=Q } (L2.start N vs) H:=by
 obtain ⟨G,ss,Q',gh,ft,l,hf,c⟩:=h
 have fin:∀ {σ G' H' F env v Fv s},VI (bsP K G H vs) G' H' σ env F->RsX (bsP K G H vs) G' H' v Fv s F->Out G H v G' H' s Fv:=fun I r =>
  ⟨I.g0,I.gh,I.rs,I.gn,r.fb,r.fg,r.fo,r.ok,fun _=>I.ft⟩
 refine hb ss _ hf (bsP K G H vs) rfl (L2.start N vs) G H noF _ ?_ ⟨fun σ G' H' F env I g q=>c _ q _ _ _ _ (fin I (ae2 .non)),fun σ G' H' F env v Fv s I g r q=>c _ q v G' H' Fv (fin I r),fun _ _ _ _ _ _ _ q=>q,fun _ _ _ _ _ _ _ q=>q⟩
 refine ⟨gh,Same.refl _,fun a o e => .inl e,Same.refl _,Same.refl _,fun a o e=>⟨o,e⟩,fun i a z=>z.elim,fun i a z=>z.elim,fun i j a z=>z.elim,fun i a z=>z.elim,fun i s e=>?_,?_,ft⟩
 ·obtain ⟨v,m,q⟩:=l.get (api e)
  refine ⟨v,by unfold L2.start;exact apj m,?_⟩
  cases s with
  | st d=>exact ⟨q,fun a z=>z⟩
  | scr ns=>exact ⟨q,fun a z=>z⟩
  | own A=>exact q.elim
  | io A=>exact q.elim
 ·unfold L2.start;simp [l.length]
theorem ac5 {K:Frag} {f:VIo} {n:TS} {N:List Str} {vs:List V} {H:Hp} {Q:VK} {E:XK} (h:spI K f vs H Q E)
  (hb:∀ A ss Q',f A ss Q'->∀ B,B.K=K->EvS B n { nx:=fun e=>∃ A',e[0]?=some (some (.io A'))/\Q' A' (.st .none),rt:=fun s e=>∃ A',e[0]?=some (some (.io A'))/\Q' A' s } (some (.io A) :: (ss.map some ++ List.replicate (N.length - (ss.length+1)) none))):n { nx:=fun _ H'=>Q .non H',rt:=Q } (L2.start N vs) H:=by
 obtain ⟨v0,b,G,R,A,ss,F0,Q',rfl,gh,ft,p,ap,fg,fr,c,hf,u⟩:=h
 have M:(v0 :: b).length=ss.length+1:=by simp [c.length]
 refine hb A ss _ hf ⟨K,G,H,R,(v0 :: b).map some,fun i a=>i=0/\F0 a⟩ rfl (L2.start N (v0 :: b)) G H (fun i a=>i=0/\F0 a) _ ?_ ?_
 ·refine ⟨gh,Same.refl _,fun a o e => .inl e,p,p,fun a o e=>⟨o,e⟩,fun i a z=>fg a z.2,fun i a z=>fr a z.2,fun i j a z y=>by rw [z.1,y.1],fun i a z=>A.dom ap a z.2,fun i s e=>?_,?_,ft⟩
  ·cases i with
   | zero =>
    simp at e
    subst e
    refine ⟨v0,rfl,?_,fun a z => .inl z,rfl⟩
    have:(fun a=>0=0/\F0 a)=F0:=by funext a;simp
    rw [this];exact ap
   | succ i =>
    have D:(ss.map some ++ List.replicate (N.length - (ss.length+1)) none)[i]?=some (some s):=by simpa using e
    obtain ⟨v,C,q⟩:=c.get (api D)
    refine ⟨v,?_,?_⟩
    ·unfold L2.start;exact apj (by simpa using C)
    ·cases s with
     | st d=>exact ⟨q,fun a z=>by cases z.1⟩
     | scr ns=>exact ⟨q,fun a z=>by cases z.1⟩
     | own A=>exact q.elim
     | io A=>exact q.elim
  ·unfold L2.start;simp [c.length]
 ·have fin:∀ σ G' H' F env v Fv s,VI ⟨K,G,H,R,(v0 :: b).map some,fun i a=>i=0/\F0 a⟩ G' H' σ env F->RsX ⟨K,G,H,R,(v0 :: b).map some,fun i a=>i=0/\F0 a⟩ G' H' v Fv s F->(∃ A',env[0]?=some (some (.io A'))/\Q' A' s)->Q v H':=by
   intro σ G' H' F env v Fv s I r ⟨A',e,q⟩
   obtain ⟨m,w,L,J,x⟩:=I.sl 0 _ e
   have:m=v0:=by
    have l:((v0 :: b).map some)[0]?=some (some m):=x
    simpa using l.symm
   subst this
   exact u A' s q v G' H' (F 0) Fv ⟨I.g0,I.gh,I.ft,I.gn,I.rs,I.bh,L,fun a z=>by
    rcases J a z with y | y
    ·exact .inl y.2
    ·exact .inr y,I.fg 0,r.ok,fun a z=>⟨r.fb a z,r.fg a z,r.fo a z,r.fd 0 a z⟩⟩
  refine ⟨fun σ G' H' F env I g q=>fin σ G' H' F env .non _ (.st .none) I (ae2 .non) q,fun σ G' H' F env v Fv s I g r q=>fin σ G' H' F env v Fv s I r q,fun _ _ _ _ _ _ _ q=>q,fun _ _ _ _ _ _ _ q=>q⟩
section
variable {B:Bs} {env:En} {Q':PyData->En->Prop} {QO:Sl->En->Prop} {K:Frag} {E:XK}
theorem ak8 {f:VP} {t:TA} (h:EvA B t env fun ds b=>f (ds.map Sl.st) fun s=>QO s b):EvO B (abx (spP K f) [] E t) env QO:=fun σ G H F Q I k=>by
 unfold abx
 simp only [aE4]
 exact h σ G H F _ I fun vs d l c ds b a j g i=>⟨d,_,_,a.gh,a.ft,ArgsOk.of g,i,fun s q v G' H' Fv o=>k v G' H' c Fv s b (a.out o).1 (j.trans o.gg) (a.out o).2 q⟩
theorem au6 {f:VP} {t:TA} (h:EvA B t env fun ds a=>f (ds.map Sl.st) fun s=>FQ s fun d=>Q' d a):Ev B (abx (spP K f) [] E t) env Q':=abo (ak8 h)
theorem ass {f:VP} {t:TA} {i:Nat} {ns:List Int} (e:env[i]?=some (some (.scr ns))) (r:B.K=K) (h:EvA B t env fun ds c=>f (.scr ns :: ds.map Sl.st) fun s=>QO s c):EvO B (abx (spP K f) [] E (aa5 (tVar i) t)) env QO:=fun σ G H F Q I k=>by
 subst r
 unfold abx
 simp only [aE4]
 obtain ⟨v0,u,⟨a,p,l⟩,_⟩:=I.sl i _ e
 refine ⟨v0,u,h σ G H F _ I fun vs g w j ds c b d m n=>⟨g,_,_,b.gh,b.ft,.cons (s:=.scr ns) ⟨a,p,d.seq l⟩ (ArgsOk.of m),n,fun s q v G' H' Fv o=>k v G' H' j Fv s c (b.out o).1 (d.trans o.gg) (b.out o).2 q⟩⟩
def reS:Sl->Own->Sl
 | .io _,A => .io A
 | _,A => .own A
theorem ahb {f:VIo} {t:TA} {i:Nat} (S:∃ s,env[i]?=some (some s)) (h:EvA B t env fun ds w=>∃ s0 A,w[i]?=some (some s0)/\(s0=.own A\/s0=.io A)/\f A (ds.map Sl.st) fun A' s=>QO s (w.set i (some (reS s0 A')))):EvO B (abx (spI K f) [] E (aa5 (tVar i) t)) env QO:=fun σ G H F Q I k=>by
 unfold abx
 simp only [aE4]
 obtain ⟨s,e⟩:=S
 obtain ⟨v0,N,_⟩:=I.sl i _ e
 refine ⟨v0,N,h σ G H F _ I fun vs M p m ds w r U R ⟨s0,A,D,O,T⟩=>?_⟩
 obtain ⟨Y,C,q⟩:=r.sl i _ D
 rw [N] at C;cases C
 have ap:A.P M p v0 (m i):=by
  rcases O with rfl | rfl
  ·exact q.1
  ·exact q.1
 let inv:Nat->Option Nat:=fun j=>if j=i then some 0 else none
 have d:inv i=some 0:=aE7 rfl
 have g:∀ j,j ≠ i->inv j=none:=fun j h=>aE8 h
 have c:∀ j l,inv j=some l->j=i/\l=0:=fun j l h=>by
  by_cases hj:j=i
  ·subst hj;rw [d] at h;cases h;exact ⟨rfl,rfl⟩
  ·rw [g j hj] at h;cases h
 refine ⟨v0,vs,M,acm p m inv,A,_,m i,_,rfl,r.gh,r.ft,adv,ap,r.fg i,fun a z=>aga d z,ArgsOk.of R,T,fun A' s q v G' H' F' Fv o=>?_⟩
 have hi:i < w.length:=(aA1.mp D).1
 have J:VI ⟨K,M,p,acm p m inv,[some v0],fun j a=>j=0/\m i a⟩ G' H' [some v0] [some (.io A')] (fun j a=>j=0/\F' a):=by
  refine ⟨o.gh,o.gg,o.gn,o.rs,adv,o.bh,fun j a z=>o.fg a z.2,fun j a z=>?_,fun j l a y z=>by rw [y.1,z.1],fun j a z=>A'.dom o.ap a z.2,fun j s e=>?_,rfl,o.ft⟩
  ·rcases o.fi a z.2 with y | y
   ·exact aga d y
   ·cases e:acm p m inv a with
    | none=>exact e
    | some u=>rw [adv a u e] at y;cases y
  ·cases j with
   | zero =>
    simp at e
    subst e
    refine ⟨v0,rfl,?_,fun a z=>?_,rfl⟩
    ·have:(fun a=>0=0/\F' a)=F':=by funext a;simp
     rw [this];exact o.ap
    ·rcases o.fi a z.2 with y | y
     ·exact .inl ⟨rfl,y⟩
     ·exact .inr y
   | succ j=>simp at e
 have L:=r.leave (inv:=inv) (env2:=w.set i (some (reS s0 A'))) (fun a b j ha hb=>by rw [(c a j ha).1,(c b j hb).1]) rfl rfl (fun a u e n=>by show acm p m inv a=_;rw [agb n];exact e)
  (fun a j ha x z=>by rw [(c a j ha).1];exact z.2) (fun a j ha=>by rw [(c a j ha).1,(c a j ha).2,N];rfl) J (fun a j ha=>⟨A',by rw [(c a j ha).2];rfl⟩) (by simp) fun j W e=>by
   by_cases hj:j=i
   ·subst hj
    rw [aD1,aE7 rfl,aE7 hi] at e
    cases e
    refine .inr ⟨0,A,A',d,rfl,?_⟩
    rcases O with rfl | rfl
    ·exact .inl ⟨D,rfl⟩
    ·exact .inr ⟨D,rfl⟩
   ·rw [aD1,aE8 (fun z=>hj z.symm)] at e
    exact .inl ⟨g j hj,e⟩
 have X:RsX ⟨K,M,p,acm p m inv,[some v0],fun j a=>j=0/\m i a⟩ G' H' v Fv s (fun j a=>j=0/\F' a):=⟨o.ok,fun a z=>(o.fv a z).1,fun a z=>(o.fv a z).2.1,fun a z=>(o.fv a z).2.2.1,fun j a z y=>(o.fv a z).2.2.2 y.2⟩
 exact k v G' H' _ Fv s _ L (U.trans o.gg) (X.leave (inv:=inv) r rfl) q
end
def ajk:Option Sl->Option Sl
 | some (.own A)=>some (.io A)
 | s=>s
def aaz (src:List (Option Nat)) (env:En):En:=src.map fun o=>match o with | some j=>ajk ((env[j]?).getD none) | none=>none
def isIo:Option Sl->Bool
 | some (.io _)=>true
 | _=>false
def idxE (i:Nat):List (Option Nat)->Nat->Option Nat
 | [],_=>none
 | o :: r,k=>if o=some i then some k else idxE i r (k+1)
def ahx (src:List (Option Nat)) (e:En) (i:Nat) (s:Option Sl):Option Sl :=
 match s with
 | some (.own A)=>(match idxE i src 0 with | some j=>(match e[j]? with | some (some (.io A'))=>some (.own A') | _=>none) | none=>some (.own A))
 | some (.io A)=>(match idxE i src 0 with | some j=>(match e[j]? with | some (some (.io A'))=>some (.io A') | _=>none) | none=>some (.io A))
 | s=>s
def afy (src:List (Option Nat)) (e:En):Nat->En->En
 | _,[]=>[]
 | k,s :: r=>ahx src e k s :: afy src e (k+1) r
def ajl (src:List (Option Nat)) (e1 e:En):En:=afy src e 0 e1
theorem agc (src:List (Option Nat)) (e:En):∀ (k:Nat) (l:En) (i:Nat),(afy src e k l)[i]?=(l[i]?).map (ahx src e (k+i))
 | _,[],i=>by simp [afy]
 | k,s :: r,0=>by simp [afy]
 | k,s :: r,i+1=>by
  have:=agc src e (k+1) r i
  simp only [afy,aH3,this]
  rw [show k+1+i=k+(i+1) by lia]
theorem afe {i:Nat}:∀ {src:List (Option Nat)} {k j:Nat},idxE i src k=some j->k<=j/\src[j - k]?=some (some i)
 | [],_,_,h=>by cases h
 | o :: r,k,j,h=>by
  unfold idxE at h
  by_cases e:o=some i
  ·rw [aE7 e] at h;cases h
   exact ⟨aA6 _,by simp [e]⟩
  ·rw [aE8 e] at h
   obtain ⟨b,a⟩:=afe h
   refine ⟨by lia,?_⟩
   rw [show j - k=(j - (k+1))+1 by lia]
   simpa using a
theorem ak9 {i:Nat}:∀ {src:List (Option Nat)} {k:Nat},idxE i src k=none->∀ j:Nat,src[j]? ≠ some (some i)
 | [],_,_,j=>by simp
 | o :: r,k,h,j=>by
  unfold idxE at h
  by_cases e:o=some i
  ·rw [aE7 e] at h;cases h
  ·rw [aE8 e] at h
   cases j with
   | zero=>simpa using e
   | succ j=>simpa using ak9 h j
theorem anh:∀ (src:List (Option Nat)),(src.filterMap id).Nodup->∀ j a i:Nat,src[j]?=some (some i)->src[a]?=some (some i)->j=a
 | [],_,j,_,_,h,_=>by simp at h
 | none :: r,h,j,a,i,h1,h2=>by
  cases j with
  | zero=>simp at h1
  | succ j =>
   cases a with
   | zero=>simp at h2
   | succ a=>rw [anh r (by simpa using h) j a i (by simpa using h1) (by simpa using h2)]
 | some x :: r,h,j,a,i,h1,h2=>by
  have h':=aH6.mp (show (x :: r.filterMap id).Nodup by simpa using h)
  have c:∀ k,r[k]?=some (some x)->False:=fun k d=>h'.1 (List.mem_filterMap.mpr ⟨some x,aA2 d,rfl⟩)
  cases j with
  | zero =>
   have b:x=i:=by simpa using h1
   subst b
   cases a with
   | zero=>rfl
   | succ a=>exact (c a (by simpa using h2)).elim
  | succ j =>
   cases a with
   | zero =>
    have b:x=i:=by simpa using h2
    subst b
    exact (c j (by simpa using h1)).elim
   | succ a=>rw [anh r h'.2 j a i (by simpa using h1) (by simpa using h2)]
def ahy:Option Sl->Bool
 | some (.own _)=>true
 | _=>false
def ioLe:En->En->Prop
 | a :: r,b :: s=>(isIo a=isIo b/\ahy b=false)/\ioLe r s
 | [],[]=>True
 | _,_=>False
theorem ani {x:Option Sl} (h:isIo x=true):∃ A,x=some (.io A):=by
 cases x with
 | none=>simp [isIo] at h
 | some y =>
  cases y with
  | io A=>exact ⟨A,rfl⟩
  | _=>simp [isIo] at h
theorem ioLe.get:∀ {a b:En} {j:Nat} {x:Option Sl},ioLe a b->a[j]?=some x->isIo x=true->∃ A,b[j]?=some (some (.io A))
 | [],_,_,_,_,e,_=>by simp at e
 | x :: r,[],_,_,h,_,_=>h.elim
 | x :: r,y :: s,0,z,h,e,p=>by
  simp at e;subst e
  have:=h.1.1
  rw [p] at this
  obtain ⟨A,q⟩:=ani this.symm
  exact ⟨A,by simp [q]⟩
 | x :: r,y :: s,j+1,z,h,e,p=>by
  obtain ⟨A,q⟩:=ioLe.get (j:=j) h.2 (by simpa using e) p
  exact ⟨A,by simpa using q⟩
theorem ioLe.got:∀ {a b:En} {j:Nat} {x:Option Sl},ioLe a b->b[j]?=some x->(isIo x=true->∃ A,a[j]?=some (some (.io A)))/\ahy x=false
 | [],[],_,_,_,e=>by simp at e
 | [],_ :: _,_,_,h,e=>h.elim
 | x :: r,[],_,_,h,_=>h.elim
 | x :: r,y :: s,0,z,h,e=>by
  simp at e;subst e
  refine ⟨fun p=>?_,h.1.2⟩
  have:=h.1.1
  rw [p] at this
  obtain ⟨A,q⟩:=ani this
  exact ⟨A,by simp [q]⟩
 | x :: r,y :: s,j+1,z,h,e=>by
  obtain ⟨p,q⟩:=ioLe.got (j:=j) (x:=z) h.2 (by simpa using e)
  exact ⟨fun t=>by obtain ⟨A,u⟩:=p t;exact ⟨A,by simpa using u⟩,q⟩
section
variable {B:Bs} {G H:Hp} {σ:St} {env:En} {F:Nat->Addr->Prop}
theorem VI.aside (I:VI B G H σ env F) {p:Addr} {o:HO} (b:∀ xs,o ≠ .tup xs) (f:G p=none) (hf:∀ j,¬ F j p) (hb:B.H p=none):VI B G (upd H p o) σ env F where
 gh:=fun a u e=>by rw [aae (aan e f)];exact I.gh a u e
 g0:=I.g0
 gn:=I.gn
 rs:=fun a u e=>by rw [aae (aan e (I.b_r hb))];exact I.rs a u e
 rb:=I.rb
 bh:=fun a u e=>by rw [aae (aan e hb)];exact I.bh a u e
 fg:=I.fg
 fr:=I.fr
 fd:=I.fd
 fo:=fun j a z=>by rw [aae (fun e:a=p=>hf j (e ▸ z))];exact I.fo j a z
 sl:=fun i s e=>by
  obtain ⟨v,d,q⟩:=I.sl i s e
  exact ⟨v,d,q.mono (Same.refl _) fun a u z y=>by rw [aae (fun e:a=p=>hf i (e ▸ z))];exact y⟩
 ln:=I.ln
 ft:=fun a c e=>by
  by_cases z:a=p
  ·subst z;rw [aah] at e;exact absurd (aC5 e) (b _)
  ·rw [aae z] at e;exact I.ft a c e
def LcV (K:Frag) (src:List (Option Nat)) (g:TG) (tif:TT) (te:TE) (ds:List PyData) (e1:En) (R:List PyData->En->Prop):Prop:=∃ J:Nat->List PyData->En->Prop,J 0 [] (aaz src e1)/\(∀ i ys e,J i ys e->ioLe (aaz src e1) e) /\
 (∀ i d ys e,ds[i]?=some d->J i ys e->∀ B':Bs,B'.K=K->EvG B' g (.st d) e fun e2=>EvT B' tif e2 fun b e3=>if b=true then Ev B' te e3 fun y e4=>ys.length<=999999/\J (i+1) (ys ++ [y]) e4 else J (i+1) ys e3)/\∀ ys e,J ds.length ys e->R ys (ajl src e1 e)
theorem ala {src:List (Option Nat)} {j:Nat} {s:Sl} (h:(aaz src env)[j]?=some (some s)):∃ i t,src[j]?=some (some i)/\env[i]?=some (some t)/\ajk (some t)=some s:=by
 unfold aaz at h
 rw [aA5] at h
 cases e:src[j]? with
 | none=>rw [e] at h;cases h
 | some o =>
  rw [e] at h
  cases o with
  | none=>cases h
  | some i =>
   simp only [aH4,Option.some.injEq] at h
   cases e2:env[i]? with
   | none=>rw [e2] at h;cases h
   | some o2 =>
    rw [e2] at h
    cases o2 with
    | none=>cases h
    | some t=>exact ⟨i,t,rfl,e2,h⟩
theorem au7 {src:List (Option Nat)} {i j:Nat} {v:V} (h:src[j]?=some (some i)) (a : σ[i]?=some (some v)):(pick src σ)[j]?=some (some v):=by
 unfold pick
 rw [aA5,h]
 simp [a]
theorem ast {src:List (Option Nat)} {wi:TI} {g:TG} {b4:TT} {te:TE} {QO:Sl->En->Prop} (nd:(src.filterMap id).Nodup) (h:EvI B wi env fun ds U=>LcV B.K src g b4 te ds U fun ys e2=>QO (.own (OL ys)) e2):EvO B (tLC src wi g b4 te) env QO:=fun σ G H F Q I k=>by
 refine h σ G H F _ I fun J G1 H1 F1 ds U I1 g1 it ⟨Jv,j0,a8,js,jd⟩ p T=>?_
 let M:Nat->Bool:=fun i=>match U[i]? with | some (some (.own _))=>true | some (some (.io _))=>true | _=>false
 let inv:Nat->Option Nat:=fun i=>if M i=true then idxE i src 0 else none
 have D:∀ i j,inv i=some j->src[j]?=some (some i)/\M i=true:=fun i j hi=>by
  by_cases hm:M i=true
  ·have f:idxE i src 0=some j:=by simpa [inv,hm] using hi
   have:=(afe f).2
   exact ⟨by simpa using this,hm⟩
  ·simp [inv,hm] at hi
 have Z:∀ i j,src[j]?=some (some i)->M i=true->inv i=some j:=fun i j X hm=>by
  have e0:inv i=idxE i src 0:=by simp [inv,hm]
  cases e:idxE i src 0 with
  | none=>exact absurd X (ak9 e j)
  | some j' =>
   have:=(afe e).2
   rw [e0,e,anh src nd j j' i X (by simpa using this)]
 have inj:∀ i c j,inv i=some j->inv c=some j->i=c:=fun i c j Y C=>by
  have a:=(D i j Y).1
  rw [(D c j C).1] at a
  simpa using a.symm
 have b1:∀ i,M i=true->∃ A,U[i]?=some (some (.own A))\/U[i]?=some (some (.io A)):=fun i hm=>by
  cases e:U[i]? with
  | none=>simp [M,e] at hm
  | some o =>
   cases o with
   | none=>simp [M,e] at hm
   | some s =>
    cases s with
    | own A=>exact ⟨A,.inl rfl⟩
    | io A=>exact ⟨A,.inr rfl⟩
    | st d=>simp [M,e] at hm
    | scr ns=>simp [M,e] at hm
 have b3:∀ i ys e,Jv i ys e->∀ c j,inv c=some j->∃ A,e[j]?=some (some (.io A)):=fun i ys e hj c j hi=>by
  obtain ⟨X,hm⟩:=D c j hi
  obtain ⟨A,N⟩:=b1 c hm
  refine (a8 i ys e hj).get (x:=some (.io A)) ?_ rfl
  unfold aaz
  rw [aA5,X]
  rcases N with N | N <;> simp [N,ajk]
 -- between two turns
 let Wv:Nat->List V->St->Hp->Prop:=fun i ys σI H=>∃ G2 F2 e env2 yd,VI B G2 H σ env2 F2/\Same G1 G2/\H p=some (.lst ys)/\Rps G2 ys yd/\G2 p=none/\(∀ j,¬ F2 j p)/\Jv i yd e/\σI.length=e.length/\env2.length=U.length /\
  (∀ j s,e[j]?=some (some s)->∃ v,σI[j]?=some (some v)/\((∃ d,s=.st d/\Rp G2 v d/\∀ i,inv i ≠ some j)\/(∃ ns a,s=.scr ns/\v=.ref a/\SqL B.K G2 a (ns.map V.int)/\∀ i,inv i ≠ some j) ∨
   ∃ i A,inv i=some j/\s=.io A/\σ[i]?=some (some v)/\(env2[i]?=some (some (.own A))\/env2[i]?=some (some (.io A))))) /\
  (∀ i,inv i=none->env2[i]?=U[i]?)/\(∀ i j,inv i=some j->∃ A0 A,e[j]?=some (some (.io A))/\((U[i]?=some (some (.own A0))/\env2[i]?=some (some (.own A)))\/(U[i]?=some (some (.io A0))/\env2[i]?=some (some (.io A)))))
 have hb:B.H p=none:=I1.no_b T
 refine ⟨fun i m ys σI H=>m=ds.length - i/\i<=ds.length/\Wv i ys σI H,⟨ds.length,by simp,aF2 _,?_⟩,?_⟩
 ·refine ⟨G1,F1,aaz src U,U,[],I1.aside (fun _ z=>nomatch z) (I1.no_g T) (I1.no_f T) hb,Same.refl _,aah,.nil,I1.no_g T,I1.no_f T,j0,by simp [pick,aaz],rfl,fun j s e=>?_,fun _ _=>rfl,fun i j hi=>?_⟩
  ·obtain ⟨i,t,X,ht,hp⟩:=ala e
   obtain ⟨v,hv,q⟩:=I1.sl i t ht
   refine ⟨v,au7 X hv,?_⟩
   cases t with
   | st d =>
    cases hp
    refine .inl ⟨d,rfl,q.1,fun c f=>?_⟩
    have a:=(D c j f).1
    rw [X] at a
    have:i=c:=by simpa using a
    subst this
    have:=(D i j f).2
    simp [M,ht] at this
   | scr ns =>
    cases hp
    obtain ⟨⟨a,ea,sq⟩,_⟩:=q
    refine .inr (.inl ⟨ns,a,rfl,ea,sq,fun c f=>?_⟩)
    have a:=(D c j f).1
    rw [X] at a
    have:i=c:=by simpa using a
    subst this
    have:=(D i j f).2
    simp [M,ht] at this
   | own A=>cases hp;exact .inr (.inr ⟨i,A,Z i j X (by simp [M,ht]),rfl,hv,.inl ht⟩)
   | io A=>cases hp;exact .inr (.inr ⟨i,A,Z i j X (by simp [M,ht]),rfl,hv,.inr ht⟩)
  ·obtain ⟨X,hm⟩:=D i j hi
   obtain ⟨A,N⟩:=b1 i hm
   refine ⟨A,A,?_,?_⟩
   ·unfold aaz
    rw [aA5,X]
    rcases N with N | N <;> simp [N,ajk]
   ·rcases N with N | N
    ·exact .inl ⟨N,N⟩
    ·exact .inr ⟨N,N⟩
 ·rintro i m ys σI H2 ⟨rfl,hi,G2,F2,e,env2,yd,I2,g2,a3,ry,ga,fa,jv,ln,b5,sl,un,mv⟩
  refine ⟨a3,?_⟩
  by_cases hlt:i < ds.length
  ·refine .inr ⟨it.go i G2 H2 g2 I2.gh hlt,Wv (i+1),fun a4 c2 H' hw=>⟨ds.length - (i+1),by lia,rfl,hlt,hw⟩,fun x H3 y=>?_⟩
   obtain ⟨G3,o⟩:=it.yld i G2 H2 x H3 _ g2 I2.gh I2.ft (aA0 hlt) y
   obtain ⟨I3,X3⟩:=I2.out o
   have a6:=o.hh _ _ a3
   have a9:=fa
   have c1:G3 p=none:=by
    cases e':G3 p with
    | none=>rfl
    | some u =>
     rcases o.gn p u e' with q | q
     ·rw [ga] at q;cases q
     ·rw [a3] at q;cases q
   have b7:∀ j s,e[j]?=some (some s)->∃ v,σI[j]?=some (some v)/\((∃ d,s=.st d/\Rp G3 v d/\∀ i,inv i ≠ some j)\/(∃ ns a,s=.scr ns/\v=.ref a/\SqL B.K G3 a (ns.map V.int)/\∀ i,inv i ≠ some j) ∨
     ∃ i A,inv i=some j/\s=.io A/\σ[i]?=some (some v)/\(env2[i]?=some (some (.own A))\/env2[i]?=some (some (.io A)))):=fun j s es=>by
    obtain ⟨v,hv,q⟩:=sl j s es
    refine ⟨v,hv,?_⟩
    rcases q with ⟨d,a7,r,n⟩ | ⟨ns,a,a7,b9,r,n⟩ | q
    ·exact .inl ⟨d,a7,r.same o.gg,n⟩
    ·exact .inr (.inl ⟨ns,a,a7,b9,o.gg.seq r,n⟩)
    ·exact .inr (.inr q)
   have E3:=I3.enter (inv:=inv) (σI:=σI) (envI:=e) inj ln b7
   -- back from the turn
   have fin:∀ (S:St) (G4 H4:Hp) (F4:Nat->Addr->Prop) (e4:En) (a0:List PyData) (a4:List V) (o4:HO),VI ⟨B.K,G3,H3,acm H3 F2 inv,σI,fun j a=>∃ i,inv i=some j/\F2 i a⟩ G4 H4 S e4 F4->Jv (i+1) a0 e4->Rps G4 a4 a0 ->
     Wv (i+1) a4 S (upd H4 p (.lst a4))/\H4 p=some (.lst ys):=by
    intro S G4 H4 F4 e4 a0 a4 o4 I4 j4 r4
    have a2:=b3 (i+1) a0 e4 j4
    have b6:H4 p=some (.lst ys):=I4.rs p _ (by show acm H3 F2 inv p=_;rw [agb (fun c _ _=>a9 c)];exact a6)
    have b2:G4 p=none:=by
     cases e':G4 p with
     | none=>rfl
     | some u =>
      rcases I4.gn p u e' with q | q
      ·change G3 p=_ at q;rw [c1] at q;cases q
      ·change H3 p=_ at q;rw [a6] at q;cases q
    -- the slots of the outer frame
    let E:En:=(List.range env2.length).map fun c=>match inv c with
     | some j=>(match env2[c]?,e4[j]? with | some (some (.own _)),some (some (.io A))=>some (.own A) | some (some (.io _)),some (some (.io A))=>some (.io A) | _,_=>none)
     | none=>(env2[c]?).getD none
    have P:∀ c,c < env2.length->E[c]?=some (match inv c with
     | some j=>(match env2[c]?,e4[j]? with | some (some (.own _)),some (some (.io A))=>some (.own A) | some (some (.io _)),some (some (.io A))=>some (.io A) | _,_=>none)
     | none=>(env2[c]?).getD none):=fun c hl=>by
     simp only [E,aA5]
     rw [aA0 (by simpa using hl)]
     simp
    have L:=I3.leave (inv:=inv) (env2:=E) inj rfl rfl (fun a u q n=>by show acm H3 F2 inv a=_;rw [agb n];exact q) (fun c j f a z=>by obtain ⟨W,Y,C⟩:=z;rw [inj c W j f Y];exact C)
     (fun c j f=>by
      obtain ⟨A0,A,Y,C⟩:=mv c j f
      obtain ⟨v,hv,q⟩:=sl j _ Y
      rcases q with ⟨d,q,_⟩ | ⟨ns,a,q,_⟩ | ⟨W,b8,q1,q2,q3,_⟩
      ·cases q
      ·cases q
      ·rw [inj c W j f q1]
       show σI[j]?=_
       rw [hv,q3]) I4 a2 (by simp [E]) (fun c s es=>by
      have hl:c < env2.length:=by
       have:=(aA1.mp es).1
       simpa [E] using this
      rw [P c hl] at es
      cases f:inv c with
      | none =>
       refine .inl ⟨rfl,?_⟩
       rw [f] at es
       simp only [Option.some.injEq] at es
       cases q:env2[c]? with
       | none=>rw [q] at es;cases es
       | some u=>rw [q] at es;simp at es;rw [es]
      | some j =>
       rw [f] at es
       obtain ⟨A',R⟩:=a2 c j f
       obtain ⟨A0,A,Y,C⟩:=mv c j f
       simp only [R] at es
       rcases C with ⟨_,C⟩ | ⟨_,C⟩
       ·rw [C] at es
        simp only [Option.some.injEq] at es
        exact .inr ⟨j,A,A',rfl,R,.inl ⟨C,es.symm⟩⟩
       ·rw [C] at es
        simp only [Option.some.injEq] at es
        exact .inr ⟨j,A,A',rfl,R,.inr ⟨C,es.symm⟩⟩)
    have b0:∀ j,¬ (match inv j with | some j=>F4 j p | none=>F2 j p):=fun j z=>by
     cases hj:inv j with
     | none=>rw [hj] at z;exact a9 j z
     | some l =>
      rw [hj] at z
      obtain ⟨A',R⟩:=a2 j l hj
      obtain ⟨v,_,q⟩:=I4.sl l _ R
      rcases q.2.1 p z with ⟨W,_,q⟩ | q
      ·exact a9 W q
      ·change H3 p=_ at q;rw [a6] at q;cases q
    refine ⟨⟨G4,_,e4,E,a0,L.aside (fun _ z=>nomatch z) b2 b0 hb,g2.trans (o.gg.trans I4.g0),aah,r4,b2,b0,j4,I4.ln,by simp [E,b5],fun j s es=>?_,fun c f=>?_,fun c j f=>?_⟩,b6⟩
    ·obtain ⟨v,hv,q⟩:=I4.sl j s es
     refine ⟨v,hv,?_⟩
     have a1:(∀ A,s ≠ .io A)->∀ c,inv c ≠ some j:=fun hn c f=>by
      obtain ⟨A,N⟩:=a2 c j f
      rw [es] at N
      exact hn A (by simpa using N)
     cases s with
     | st d=>exact .inl ⟨d,rfl,q.1,a1 (by intro A z;cases z)⟩
     | scr ns =>
      obtain ⟨⟨a,ea,sq⟩,_⟩:=q
      exact .inr (.inl ⟨ns,a,rfl,ea,sq,a1 (by intro A z;cases z)⟩)
     | own A =>
      have:=((a8 _ _ _ j4).got es).2
      simp [ahy] at this
     | io A =>
      obtain ⟨A0,h0⟩:=((a8 _ _ _ j4).got es).1 rfl
      obtain ⟨c,t,X,ht,hp⟩:=ala h0
      have hm:M c=true:=by
       cases t with
       | own A=>simp [M,ht]
       | io A=>simp [M,ht]
       | st d=>cases hp
       | scr ns=>cases hp
      have f:=Z c j X hm
      obtain ⟨B0,A1,Y,C⟩:=mv c j f
      have hl:c < env2.length:=by
       rcases C with ⟨_,C⟩ | ⟨_,C⟩ <;> exact (aA1.mp C).1
      refine .inr (.inr ⟨c,A,f,rfl,?_,?_⟩)
      ·have hS : σI[j]?=some (some v):=q.2.2
       obtain ⟨v',c0,q'⟩:=sl j _ Y
       rcases q' with ⟨d,q',_⟩ | ⟨ns,a,q',_⟩ | ⟨W,b8,q1,q2,q3,_⟩
       ·cases q'
       ·cases q'
       ·rw [inj c W j f q1,q3,← c0,hS]
      ·rw [P c hl,f]
       simp only [es]
       rcases C with ⟨_,C⟩ | ⟨_,C⟩
       ·rw [C];exact .inl rfl
       ·rw [C];exact .inr rfl
    ·by_cases hl:c < env2.length
     ·rw [P c hl,f]
      simp only
      rw [← un c f]
      rw [aA0 hl];rfl
     ·rw [aE9.mpr (by simp [E];lia),← un c f,aE9.mpr (by lia)]
    ·obtain ⟨A',R⟩:=a2 c j f
     obtain ⟨A0,A,Y,C⟩:=mv c j f
     have hl:c < env2.length:=by
      rcases C with ⟨_,C⟩ | ⟨_,C⟩ <;> exact (aA1.mp C).1
     refine ⟨A0,A',R,?_⟩
     rw [P c hl,f]
     simp only [R]
     rcases C with ⟨h3,C⟩ | ⟨h3,C⟩
     ·rw [C];exact .inl ⟨h3,rfl⟩
     ·rw [C];exact .inr ⟨h3,rfl⟩
   have hd:ds[i]?=some ds[i]:=aA0 hlt
   refine js i _ yd e hd jv ⟨B.K,G3,H3,acm H3 F2 inv,σI,fun j a=>∃ i,inv i=some j/\F2 i a⟩ rfl σI G3 H3 _ x _ _ E3 (ae2 o.ok.1) fun S G4 H4 F4 e4 I4 g4 q4=>?_
   refine q4 S G4 H4 F4 _ I4 fun b G5 H5 F5 e5 I5 g5 q5=>?_
   cases b with
   | false =>
    rw [aE8 aA9] at q5 ⊢
    obtain ⟨w,ac⟩:=fin S G5 H5 F5 e5 yd ys (.lst ys) I5 q5 (ry.same (o.gg.trans (g4.trans g5)))
    have:upd H5 p (.lst ys)=H5:=by
     funext b
     unfold upd
     split
     ·rename_i hb';rw [hb'];exact ac.symm
     ·rfl
    rw [this] at w
    exact w
   | true =>
    rw [aE7 rfl] at q5 ⊢
    refine q5 S G5 H5 F5 _ I5 fun y G6 H6 F6 d6 e6 I6 g6 r6 q6=>?_
    obtain ⟨w,ac⟩:=fin S G6 H6 F6 e6 (yd ++ [d6]) (ys ++ [y]) (.lst ys) I6 q6.2 ((ry.same (o.gg.trans (g4.trans (g5.trans g6)))).append (.cons r6 .nil))
    exact ⟨ac,by rw [ry.length];exact big (by have:=q6.1;lia),w⟩
  ·have ei:i=ds.length:=by lia
   subst ei
   refine .inl ⟨it.stop _ G2 H2 g2 I2.gh rfl,?_⟩
   have q:=jd yd e jv
   have eb:ajl src U e=env2:=by
    apply aF4
    intro c
    unfold ajl
    rw [agc,Nat.zero_add]
    have O:M c=false->env2[c]?=U[c]?:=fun hm=>un c (by simp [inv,hm])
    cases e2:U[c]? with
    | none =>
     rw [O (by simp [M,e2]),e2];rfl
    | some o =>
     cases o with
     | none=>rw [O (by simp [M,e2]),e2];rfl
     | some t =>
      have a5:∀ A,(t=.own A\/t=.io A)->M c=true:=fun A h=>by rcases h with rfl | rfl <;> simp [M,e2]
      cases t with
      | st d=>rw [O (by simp [M,e2]),e2];rfl
      | scr ns=>rw [O (by simp [M,e2]),e2];rfl
      | own A =>
       have hm:=a5 A (.inl rfl)
       simp only [aH4,ahx]
       cases e3:idxE c src 0 with
       | none =>
        have:inv c=none:=by simp [inv,e3]
        rw [un c this,e2]
       | some j =>
        have f:inv c=some j:=by simp [inv,hm,e3]
        obtain ⟨A0,A1,Y,C⟩:=mv c j f
        simp only [Y]
        rcases C with ⟨h3,C⟩ | ⟨h3,C⟩
        ·rw [C]
        ·rw [e2] at h3;cases h3
      | io A =>
       have hm:=a5 A (.inr rfl)
       simp only [aH4,ahx]
       cases e3:idxE c src 0 with
       | none =>
        have:inv c=none:=by simp [inv,e3]
        rw [un c this,e2]
       | some j =>
        have f:inv c=some j:=by simp [inv,hm,e3]
        obtain ⟨A0,A1,Y,C⟩:=mv c j f
        simp only [Y]
        rcases C with ⟨h3,C⟩ | ⟨h3,C⟩
        ·rw [e2] at h3;cases h3
        ·rw [C]
   rw [eb] at q
   refine k (.ref p) G2 H2 F2 (· = p) (.own (OL yd)) env2 I2 (g1.trans g2) ⟨⟨p,ys,rfl,a3,ry,fun b=>Iff.rfl⟩,fun a z=>by rw [z];exact hb,fun a z=>by rw [z];exact ga,fun a z=>by rw [z];exact ⟨_,a3⟩,fun j a z=>by rw [z];exact fa j⟩ q
end
def noIo (e:En):Bool:=e.all fun s => !isIo s
theorem au8 {e:En} {j:Nat} {x:Option Sl} (h:noIo e=true) (a:e[j]?=some x):isIo x=false:=by
 have:=aE6.mp h x (aA2 a)
 simpa using this
theorem akm {src:List (Option Nat)} {b e:En} (h:noIo (aaz src b)=true):ajl src b e=b:=by
 apply aF4
 intro i
 unfold ajl
 rw [agc,Nat.zero_add]
 cases e2:b[i]? with
 | none=>rfl
 | some o =>
  have a:∀ A,(o=some (.own A)\/o=some (.io A))->idxE i src 0=none:=fun A c=>by
   cases e3:idxE i src 0 with
   | none=>rfl
   | some j =>
    have f:=(afe e3).2
    have:(aaz src b)[j]?=some (some (.io A)):=by
     unfold aaz
     rw [aA5,show src[j]?=some (some i) by simpa using f]
     rcases c with rfl | rfl <;> simp [e2,ajk]
    have:=au8 h this
    simp [isIo] at this
  cases o with
  | none=>rfl
  | some t =>
   cases t with
   | st d=>rfl
   | scr ns=>rfl
   | own A=>simp only [aH4,ahx,a A (.inl rfl)]
   | io A=>simp only [aH4,ahx,a A (.inr rfl)]
def stO:Option PyData->Option Sl:=Option.map Sl.st
theorem isIo_stO {o:Option PyData}:isIo (stO o)=false:=by cases o <;> rfl
theorem ahc {o:Option PyData}:ahy (stO o)=false:=by cases o <;> rfl
theorem afn {src:List (Option Nat)} {b:En}:∀ x∈aaz src b,ahy x=false:=by
 intro x a
 unfold aaz at a
 obtain ⟨o,_,rfl⟩:=aB6.mp a
 cases o with
 | none=>rfl
 | some j =>
  dsimp only
  cases (b[j]?).getD none with
  | none=>rfl
  | some t=>cases t <;> rfl
theorem aff:∀ {e:En},(∀ x∈e,ahy x=false)->ioLe e e
 | [],_=>True.intro
 | x :: r,h=>⟨⟨rfl,h x aB7⟩,aff fun y a=>h y (aB4 _ a)⟩
section
variable {B:Bs} {env:En} {g:TG} {tif:TT} {te:TE} {K:Frag} {src:List (Option Nat)} {ds:List PyData} {e1:En} {R:List PyData->En->Prop}
theorem au9 (f:PyData->PyData) (p:PyData->Bool) (l:noIo (aaz src e1)=true) (C:ds.length<=999999)
  (h:∀ d∈ds,∀ a:Bs,a.K=K->EvT a tif (some (.st d) :: aaz src e1) fun b m=>b=p d/\m=some (.st d) :: aaz src e1/\(b=true->Ev a te (some (.st d) :: aaz src e1) fun y g=>y=f d/\g=some (.st d) :: aaz src e1))
  (A:R ((ds.filter p).map f) e1):LcV K (none :: src) (abw 0) tif te ds e1 R:=by
 have c:noIo (aaz (none :: src) e1)=true:=by
  show ((none :: aaz src e1).all fun s => !isIo s)=true
  rw [List.all_cons]
  exact (aG3 _ _).mpr ⟨rfl,l⟩
 refine ⟨fun i ys e=>ys=((ds.take i).filter p).map f/\∃ o,e=stO o :: aaz src e1,⟨by simp,none,rfl⟩,?_,?_,?_⟩
 ·rintro i ys e ⟨_,o,rfl⟩
  exact ⟨⟨isIo_stO.symm,ahc⟩,aff afn⟩
 ·rintro i d ys e hd ⟨rfl,o,rfl⟩ a u
  have hi:i < ds.length:=(aA1.mp hd).1
  have q:ds.take (i+1)=ds.take i ++ [d]:=by rw [aG6,hd];rfl
  refine abq ?_
  show EvT a tif (some (.st d) :: aaz src e1) _
  intro σ G H F Q I k
  refine h d (aA2 hd) a u σ G H F Q I fun b G' H' F' m j g' ⟨hb,w,x⟩=>k b G' H' F' m j g' ?_
  subst w
  by_cases hp:b=true
  ·rw [aE7 hp]
   intro σ G H F Q I k
   refine x hp σ G H F Q I fun v G' H' F' d' g j g' r ⟨z,n⟩=>k v G' H' F' d' g j g' r ?_
   subst z n
   refine ⟨?_,?_,some d,rfl⟩
   ·have:=List.length_filter_le p (ds.take i)
    simp only [aA3]
    have B:(ds.take i).length<=i:=by simp;lia
    lia
   ·rw [q,List.filter_append,aD9]
    have:p d=true:=by rw [← hb];exact hp
    simp [this]
  ·rw [aE8 hp]
   refine ⟨?_,some d,rfl⟩
   rw [q,List.filter_append,aD9]
   have:p d=false:=by rw [← hb];simpa using hp
   simp [this]
 ·rintro ys e ⟨rfl,o,rfl⟩
  rw [akm c,aG0]
  exact A
theorem aqy {α:Type} (xs:List α):xs.filter (fun _=>true)=xs:=by simp
theorem apk (f:PyData->PyData) (b:noIo (aaz src e1)=true) (j:ds.length<=999999)
  (h:∀ d∈ds,∀ a:Bs,a.K=K->Ev a te (some (.st d) :: aaz src e1) fun y c=>y=f d/\c=some (.st d) :: aaz src e1)
  (i:R (ds.map f) e1):LcV K (none :: src) (abw 0) tYes te ds e1 R :=
 au9 f (fun _=>true) b j (fun d hd a g=>akk ⟨rfl,rfl,fun _=>h d hd a g⟩) (by rw [aqy];exact i)
end
section
variable {R:Sl->Prop}
theorem axz {g:Int->Int->Int} {i j:Int} (h:R (.st (.int (g i j)))):Op2 (rI0 fun i j => .int (g i j)) (.int i) (.int j) R:=fun G H c d Q gh a b k=>by
 cases a;cases b
 exact ⟨i,j,rfl,rfl,k _ _ _ _ _ (Out.refl gh (.int _)) h⟩
theorem ax0 {g:Int->Int->Bool} {i j:Int} (h:R (.st (.bool (g i j)))):Op2 (rI0 fun i j => .bl (g i j)) (.int i) (.int j) R:=fun G H c d Q gh a b k=>by
 cases a;cases b
 exact ⟨i,j,rfl,rfl,k _ _ _ _ _ (Out.refl gh (.bl _)) h⟩
theorem a0d {C:Int->Int->Prop} {g:Int->Int->Int} {i j:Int} (a:C i j) (h:R (.st (.int (g i j)))):Op2 (rI C fun i j => .int (g i j)) (.int i) (.int j) R:=fun G H d f Q gh b c k=>by
 cases b;cases c
 exact ⟨i,j,rfl,rfl,a,k _ _ _ _ _ (Out.refl gh (.int _)) h⟩
theorem a0e {g:Int->Int} {i:Int} (h:R (.st (.int (g i)))):Op1 (rU fun i => .int (g i)) (.int i) R:=fun G H b Q gh a k=>by
 cases a
 exact ⟨i,rfl,k _ _ _ _ _ (Out.refl gh (.int _)) h⟩
theorem ax1 {i j:Int} (h:R (.st (.bool (decide (i=j))))):Op2 rEq (.int i) (.int j) R:=fun G H c d Q gh a b k=>by
 cases a;cases b
 exact ase (k _ _ _ _ _ (Out.refl gh (.bl _)) h)
theorem ax2 {i j:Int} (h:R (.st (.bool (!decide (i=j))))):Op2 rNe (.int i) (.int j) R:=fun G H c d Q gh a b k=>by
 cases a;cases b
 exact azr (k _ _ _ _ _ (Out.refl gh (.bl _)) h)
theorem ahz {x y:PyData} (b:aas x=true) (a:aas y=true) (hd:x.depth<=60) (h:R (.st (.bool (PyData.eqv x y)))):Op2 rEqD x y R:=fun G H f g Q gh c d k =>
 ⟨x,y,(c.rep b).same gh,(d.rep a).same gh,b,a,hd,k _ _ _ _ _ (Out.refl gh (.bl _)) h⟩
theorem adc {x y:PyData} (b:aas x=true) (a:aas y=true) (hd:x.depth<=60) (h:R (.st (.bool (!PyData.eqv x y)))):Op2 rNeD x y R:=fun G H f g Q gh c d k =>
 ⟨x,y,(c.rep b).same gh,(d.rep a).same gh,b,a,hd,k _ _ _ _ _ (Out.refl gh (.bl _)) h⟩
theorem apl {a:Bool} {x:PyData} {es:List PyData} (c:aas x=true) (b:plainDs es=true) (hd:x.depth<=60) (h:R (.st (.bool (if a then !es.any (fun z=>PyData.eqv z x) else es.any (fun z=>PyData.eqv z x))))):Op2 (rInD a) x (.list es) R:=fun G H g i Q gh d f k =>
 ⟨x,es,(d.rep c).same gh,.inl ((f.rep (by simpa [aas] using b)).same gh),c,b,hd,k _ _ _ _ _ (Out.refl gh (.bl _)) h⟩
theorem Rps.at {G:Hp} {vs:List V} {ds:List PyData} {i:Int} {d:PyData} (r:Rps G vs ds) (h:atI ds i=some d):∃ v,atI vs i=some v/\Rp G v d:=by
 unfold atI at h ⊢
 rw [r.length]
 cases e:ixN ds.length i with
 | none=>rw [e] at h;cases h
 | some j =>
  rw [e] at h
  exact r.get h
theorem ax3 {K:Frag} {ds:List PyData} {i:Int} {d:PyData} (hd:atI ds i=some d) (h:R (.st d)):Op2 (adi K) (.list ds) (.int i) R:=fun G H g j Q gh b c k=>by
 cases c
 cases b with
 | lst ha rs =>
  obtain ⟨v,a,f⟩:=rs.at hd
  exact af9 (gh _ _ ha) a (k _ _ _ _ _ (Out.refl gh f) h)
theorem ax4 {K:Frag} {ds:List PyData} {i:Int} {d:PyData} (hd:atI ds i=some d) (h:R (.st d)):Op2 (adi K) (.tuple ds) (.int i) R:=fun G H g j Q gh b c k=>by
 cases c
 cases b with
 | tup ha rs =>
  obtain ⟨v,a,f⟩:=rs.at hd
  exact auv (gh _ _ ha) a (k _ _ _ _ _ (Out.refl gh f) h)
def isNone:PyData->Bool
 | .none=>true
 | _=>false
theorem apm {G:Hp} {v:V} {x:PyData} (r:Rp G v x):decide (v=.non)=isNone x:=by cases r <;> rfl
theorem ax5 {x:PyData} (h:R (.st (.bool (isNone x)))):Op2 rIsN x .none R:=fun G H c d Q gh a b k=>by
 cases b
 refine ⟨rfl,?_⟩
 rw [apm a]
 exact k _ _ _ _ _ (Out.refl gh (.bl _)) h
theorem ava {x:PyData} (h:R (.st (.bool (!isNone x)))):Op2 awj x .none R:=fun G H c d Q gh a b k=>by
 cases b
 refine ⟨rfl,?_⟩
 rw [apm a]
 exact k _ _ _ _ _ (Out.refl gh (.bl _)) h
theorem ax6 {xs ys:List PyData} (d:xs.length+ys.length<=1000000) (h:R (.own (OL (xs ++ ys)))):Op2 rCat (.list xs) (.list ys) R:=fun G H f g Q gh b c k=>by
 cases b with
 | lst ha ra =>
  cases c with
  | lst hb rb =>
   refine azv (gh _ _ ha) (gh _ _ hb) ?_ fun p a=>k _ _ _ _ _ (Out.newL gh a (ra.append rb)) h
   rw [ra.length,rb.length];exact aF7 (big d)
theorem ax7 {xs:List PyData} {n:Int} (d : -(2 ^ 63)<=n) (a:n < 2 ^ 63) (g:xs.length * n.toNat<=1000000) (h:R (.own (OL (List.replicate n.toNat xs).flatten))):Op2 rRep (.list xs) (.int n) R:=fun G H i j Q gh c f k=>by
 cases f
 cases c with
 | lst ha ra =>
  refine ⟨_,n,_,rfl,rfl,gh _ _ ha,d,a,?_,fun p b=>k _ _ _ _ _ (Out.newL gh b (ra.rep _)) h⟩
  rw [ra.length];exact aF7 (big g)
theorem avb {K:Frag} {xs:List PyData} (h:R (.st (.int xs.length))):OpA (rLen K) [.list xs] R:=fun G H vs Q gh rs k=>by
 cases rs with
 | cons r t =>
  cases t
  cases r with
  | lst ha ra =>
   refine ao2 (gh _ _ ha) ?_
   rw [ra.length]
   exact k _ _ _ _ _ (Out.refl gh (.int _)) h
theorem avc {K:Frag} {xs:List PyData} (h:R (.st (.int xs.length))):OpA (rLen K) [.tuple xs] R:=fun G H vs Q gh rs k=>by
 cases rs with
 | cons r t =>
  cases t
  cases r with
  | tup ha ra =>
   refine axe (gh _ _ ha) ?_
   rw [ra.length]
   exact k _ _ _ _ _ (Out.refl gh (.int _)) h
theorem avd {i j:Int} (h:R (.st (.int (if j > i then j else i)))):OpA al5 [.int i,.int j] R:=fun G H vs Q gh rs k=>by
 obtain rfl:vs=[V.int i,V.int j]:=Rps.ints_inv (ns:=[i,j]) rs
 exact ao3 (k _ _ _ _ _ (Out.refl gh (.int _)) h)
theorem ave {i j:Int} (h:R (.st (.int (if j < i then j else i)))):OpA al6 [.int i,.int j] R:=fun G H vs Q gh rs k=>by
 obtain rfl:vs=[V.int i,V.int j]:=Rps.ints_inv (ns:=[i,j]) rs
 exact ao4 (k _ _ _ _ _ (Out.refl gh (.int _)) h)
theorem ain {K:Frag} {ns:List Int} (a:ns ≠ []) (h:∀ m,aeh ns m->R (.st (.int m))):OpA (af8 K) [.list (ns.map .int)] R:=fun G H vs Q gh rs k=>by
 cases rs with
 | cons r t =>
  cases t
  cases r with
  | lst ha ra =>
   have:=Rps.ints_inv ra
   subst this
   exact ⟨_,ns,rfl,.inl (SqL.of (gh _ _ ha)),a,fun m hm=>k _ _ _ _ _ (Out.refl gh (.int _)) (h m hm)⟩
theorem avf {K:Frag} {ns:List Int} {ds:List PyData} (e:ds=ns.map .int) (a:ns ≠ []) (h:∀ m,aeh ns m->R (.st (.int m))):OpA (af8 K) [.tuple ds] R:=fun G H vs Q gh rs k=>by
 subst e
 cases rs with
 | cons r t =>
  cases t
  cases r with
  | tup ha ra =>
   have:=Rps.ints_inv ra
   subst this
   exact ⟨_,ns,rfl,.inr (SqT.of (gh _ _ ha)),a,fun m hm=>k _ _ _ _ _ (Out.refl gh (.int _)) (h m hm)⟩
theorem avg {K:Frag} {ns:List Int} {ds:List PyData} (e:ds=ns.map .int) (a:ns ≠ []) (h:∀ m,aqu ns m->R (.st (.int m))):OpA (al8 K) [.tuple ds] R:=fun G H vs Q gh rs k=>by
 subst e
 cases rs with
 | cons r t =>
  cases t
  cases r with
  | tup ha ra =>
   have:=Rps.ints_inv ra
   subst this
   exact ⟨_,ns,rfl,.inr (SqT.of (gh _ _ ha)),a,fun m hm=>k _ _ _ _ _ (Out.refl gh (.int _)) (h m hm)⟩
theorem apn {K:Frag} {ns:List Int} {ds:List PyData} (e:ds=ns.map .int) (h:R (.st (.int ns.sum))):OpA (aqv K) [.list ds] R:=fun G H vs Q gh rs k=>by
 subst e
 cases rs with
 | cons r t =>
  cases t
  cases r with
  | lst ha ra =>
   have:=Rps.ints_inv ra
   subst this
   exact ⟨_,ns,rfl,SqL.of (gh _ _ ha),k _ _ _ _ _ (Out.refl gh (.int _)) h⟩
end
section
variable {B:Bs} {env:En} {QO:Sl->En->Prop} {Q':PyData->En->Prop} {te tl th:TE} {K:Frag}
end
def agd:PyData->Bool
 | .none | .bool _ | .int _ | .str _=>true
 | _=>false
theorem akn {G G':Hp} {v:V} {d:PyData} (r:Rp G v d) (h:agd d=true):Rp G' v d:=by
 cases r with
 | non=>exact .non
 | bl b=>exact .bl b
 | int i=>exact .int i
 | str x=>exact .str x
 | _=>simp [agd] at h
def Has (env:En) (i:Nat) (A:Own):Prop:=env[i]?=some (some (.own A))\/env[i]?=some (some (.io A))
section
variable {B:Bs} {env:En} {QO:Sl->En->Prop} {Q':PyData->En->Prop} {QT:Bool->En->Prop} {QE:En->Prop} {te ta tb tk:TE} {K:Frag} {i:Nat}
theorem VI.has {G H:Hp} {σ:St} {F:Nat->Addr->Prop} {A:Own} (I:VI B G H σ env F) (h:Has env i A):∃ v,σ[i]?=some (some v)/\A.P G H v (F i):=by
 rcases h with h | h
 ·obtain ⟨v,a,q⟩:=I.sl i _ h;exact ⟨v,a,q.1⟩
 ·obtain ⟨v,a,q⟩:=I.sl i _ h;exact ⟨v,a,q.1⟩
theorem VI.moment {G c d H H3:Hp} {σ:St} {F:Nat->Addr->Prop} {v:V} {s:Sl} {Fv:Addr->Prop} (I:VI B G H σ env F) (j:Same G c) (o:Out c H v d H3 s Fv):∃ g,Same G g/\VI B g H3 σ env F:=by
 refine ⟨fun a=>if H a=none then d a else G a,fun a u e=>?_,I.grow (fun a u e=>?_) (fun a u e=>?_) o.hh (fun a u e=>?_) fun a b e=>?_⟩
 ·show (if H a=none then d a else G a)=some u;rw [aE8 (by rw [I.gh a u e];simp)];exact e
 ·rw [aE8 (by rw [I.gh a u e];simp)];exact e
 ·by_cases h:H a=none
  ·rw [aE7 h] at e;exact o.gh a u e
  ·rw [aE8 h] at e;exact o.hh _ _ (I.gh a u e)
 ·by_cases h:H a=none
  ·exact .inr h
  ·rw [aE8 h] at e;exact .inl e
 ·have i:FT c H:=fun a b e=>j _ _ (I.ft a b e)
  by_cases h:H a=none
  ·rw [aE7 h];exact o.ft i a b e
  ·rw [aE8 h]
   obtain ⟨u,f⟩:=aqx h
   have:=o.hh _ _ f
   rw [e] at this
   exact I.ft a b (by rw [f,← this])
theorem a0f {r:R2} {g:Own} (p:Has env i g) (h:Ev B tb env fun y e2=>∃ A dx,Has e2 i A/\Frz A dx/\Op2 r dx y fun s=>∃ d,s=.st d/\agd d=true/\Q' d e2):Ev B (tOp r (tVar i) tb) env Q':=fun σ G H F Q I k=>by
 obtain ⟨v,c,_⟩:=I.has p
 refine ⟨v,c,h σ G H F _ I fun u m H2 F2 y e2 a j E ⟨A,dx,C,D,x⟩=>?_⟩
 obtain ⟨J,b,ap⟩:=a.has C
 rw [c] at b;cases b
 refine x (jn m H2 (F2 i)) H2 v u Q (ama a.gh) (D _ _ _ _ ap (a.fg i) a.gh) (E.same (abl (a.fg i))) fun w K H3 s Fv o ⟨d,es,q,l⟩=>?_
 subst es
 obtain ⟨n,z,f⟩:=a.moment (abl (a.fg i)) o
 exact k w n H3 F2 d e2 f (j.trans z) (akn o.ok.1 q) l
theorem a0g {r:List V->Hp->VK->Prop} {A:Own} {dx:PyData} (j:Has env i A) (l:Frz A dx) (h:OpA r [dx] fun s=>∃ d,s=.st d/\agd d=true/\Q' d env):Ev B (tCB r (aa5 (tVar i) tNil)) env Q':=fun σ G H F Q I k=>by
 obtain ⟨v,m,ap⟩:=I.has j
 refine ⟨v,m,h (jn G H (F i)) H [v] Q (ama I.gh) (.cons (l _ _ _ _ ap (I.fg i) I.gh) .nil) fun w n H3 s Fv o ⟨d,es,f,b⟩=>?_⟩
 subst es
 obtain ⟨c,g,a⟩:=I.moment (abl (I.fg i)) o
 exact k w c H3 F d env a g (akn o.ok.1 f) b
theorem x_sc {d:PyData} {R:PyData->Prop} (a:agd d=true) (h:R d):∃ d',Sl.st d=.st d'/\agd d'=true/\R d':=⟨d,rfl,a,h⟩
theorem a0h {g:List PyData} (p:Has env i (OL g)) (h:Ev B tb env fun y e2=>∃ ds k d,Has e2 i (OL ds)/\y=.int k/\atI ds k=some d/\Q' d e2):Ev B (tOp (adi K) (tVar i) tb) env Q':=fun σ G H F Q I k=>by
 obtain ⟨v,l,_⟩:=I.has p
 refine ⟨v,l,h σ G H F _ I fun u o H2 F2 y e2 m n x ⟨ds,j,d,s,A,c,q⟩=>?_⟩
 subst A
 cases x
 obtain ⟨C,b,a,vs,r,ha,rs,_⟩:=m.has s
 rw [l] at b;cases b
 subst r
 obtain ⟨w,z,f⟩:=rs.at c
 exact af9 ha z (k w o H2 F2 d e2 m n f q)
theorem VI.upd1 {G H:Hp} {σ:St} {F:Nat->Addr->Prop} {s:Sl} {A A':Own} {a:Addr} {o:HO} (I:VI B G H σ env F) (e:env[i]?=some (some s)) (g:s=.own A\/s=.io A) (j : σ[i]?=some (some (.ref a))) (hf:∀ b,F i b ↔ b=a) (f:A'.P G (upd H a o) (.ref a) (· = a)) (d:∀ xs,o ≠ .tup xs:=by intro _ z;cases z) :
  VI B G (upd H a o) σ (env.set i (some (reS s A'))) (putF F i (· = a)):=by
 refine I.change (A:=A') i e j (fun b u hb c=>by rw [aae (fun z=>hb ((hf b).mpr z))];exact c) (fun b u c=>?_) (fun b z=>⟨.inl ((hf b).mpr z),by rw [z];exact ⟨_,aah⟩⟩) f (fun b h e=>?_) ?_
 ·by_cases z:b=a
  ·rw [z];exact ⟨_,aah⟩
  ·rw [aae z];exact ⟨u,c⟩
 ·by_cases z:b=a
  ·subst z;rw [aah] at e;exact absurd (aC5 e) (d _)
  ·rw [aae z] at e;exact I.ft b h e
 ·rcases g with rfl | rfl
  ·exact .inl ⟨rfl,A,rfl⟩
  ·exact .inr ⟨rfl,A,rfl⟩
theorem asu {l:List PyData} (r:Has env i (OL l)) (h:Ev B te env fun y e2=>∃ s ds,e2[i]?=some (some s)/\(s=.own (OL ds)\/s=.io (OL ds))/\ds.length<=999999/\Q' .none (e2.set i (some (reS s (OL (ds ++ [y])))))):Ev B (tBM K "list" aem (tVar i) (aa5 te tNil)) env Q':=fun σ G H F Q I k=>by
 obtain ⟨v,g,a,vs,x,ha,rs,_⟩:=I.has r
 subst x
 refine ⟨_,g,.inl ⟨rfl,_,SqL.of ha⟩,h σ G H F _ I fun u p H2 F2 y e2 n o A ⟨s,ds,es,m,C,q⟩=>?_⟩
 have z:Has e2 i (OL ds):=by rcases m with rfl | rfl;exact .inl es;exact .inr es
 obtain ⟨D,d,E,w,j,f,c,hf⟩:=n.has z
 rw [g] at d;cases d;cases j
 refine afc f (by rw [c.length];exact big (by lia)) ?_
 exact k _ p _ _ _ _ (n.upd1 (A':=OL (ds ++ [y])) es m g hf ⟨a,_,rfl,aah,c.append (.cons A .nil),fun b=>Iff.rfl⟩) o .non q
theorem aqz {a:List PyData} (j:Has env i (OL a)) (h:Ev B te env fun y e2=>∃ ds,e2[i]?=some (some (.own (OL ds)))/\ds.length<=999999/\Q' .none (e2.set i (some (.own (OL (ds ++ [y])))))):Ev B (tBM K "list" aem (tVar i) (aa5 te tNil)) env Q' :=
 asu j fun σ G H F Q I k=>h σ G H F Q I fun v G' H' F' d e c g r ⟨ds,f,b,q⟩=>k v G' H' F' d e c g r ⟨_,ds,f,.inl rfl,b,q⟩
theorem aq0 {m:List PyData} (p:Has env i (OL m)) (h:Ev B te env fun y e2=>∃ ds ys,y=.list ys/\e2[i]?=some (some (.own (OL ds)))/\ds.length+ys.length<=1000000/\Q' .none (e2.set i (some (.own (OL (ds ++ ys)))))):Ev B (tBM K "list" aj3 (tVar i) (aa5 te tNil)) env Q':=fun σ G H F Q I k=>by
 obtain ⟨v,g,a,vs,w,ha,rs,_⟩:=I.has p
 subst w
 refine ⟨_,g,.inl ⟨rfl,_,SqL.of ha⟩,h σ G H F _ I fun u o H2 F2 y e2 l n x ⟨ds,ys,z,es,r,q⟩=>?_⟩
 subst z
 cases x with
 | lst hb rb =>
  obtain ⟨A,d,C,s,j,f,c,hf⟩:=l.has (.inl es)
  rw [g] at d;cases d;cases j
  refine asf f (l.gh _ _ hb) (by rw [c.length,rb.length];exact aF7 (big r)) ?_
  exact k _ o _ _ _ _ (l.upd1 (A':=OL (ds ++ ys)) es (.inl rfl) g hf ⟨a,_,rfl,aah,c.append rb,fun b=>Iff.rfl⟩) n .non q
theorem anj {p:List PyData} (D:Has env i (OL p)) (h:Ev B te env fun y e2=>∃ s ds j n d,y=.int j/\e2[i]?=some (some s)/\(s=.own (OL ds)\/s=.io (OL ds))/\-(2 ^ 63)<=j/\j < 2 ^ 63/\seqIndex? j ds.length=some n/\ds[n]?=some d/\Q' d (e2.set i (some (reS s (OL (ds.eraseIdx n)))))):Ev B (tBM K "list" ai0 (tVar i) (aa5 te tNil)) env Q':=fun σ G H F Q I k=>by
 obtain ⟨v,m,a,vs,J,ha,rs,_⟩:=I.has D
 subst J
 refine ⟨_,m,.inl ⟨rfl,_,SqL.of ha⟩,h σ G H F _ I fun u C H2 F2 y e2 x z M ⟨s,ds,j,n,d,O,es,r,b1,A,hn,hd,q⟩=>?_⟩
 subst O
 cases M
 have L:Has e2 i (OL ds):=by rcases r with rfl | rfl;exact .inl es;exact .inr es
 obtain ⟨P,f,R,E,o,g,c,hf⟩:=x.has L
 rw [m] at f;cases f;cases o
 obtain ⟨w,N,l⟩:=c.get hd
 refine amt g b1 A (by rw [c.length];exact hn) N ?_
 exact k _ C _ _ _ _ (x.upd1 (A':=OL (ds.eraseIdx n)) es r m hf ⟨a,_,rfl,aah,c.erase n,fun b=>Iff.rfl⟩) z l q
theorem avh {d:PyData} {o:List PyData} (A:Has env i (OL o)) (h:Ev B tk env fun y e2=>∃ s ds k j,y=.int k/\e2[i]?=some (some s)/\(s=.own (OL ds)\/s=.io (OL ds))/\ixN ds.length k=some j/\QE (e2.set i (some (reS s (OL (ds.set j d)))))):EvG B (gSub (tVar i) tk aqn) (.st d) env QE:=fun σ G H F v Fv Q I x k=>by
 obtain ⟨L,_⟩:=x.ok
 obtain ⟨P,l,a,vs,E,ha,rs,_⟩:=I.has A
 subst E
 refine ⟨_,l,h σ G H F _ I fun u z H2 F2 y e2 w p K ⟨s,ds,n,j,M,es,r,D,q⟩=>?_⟩
 subst M
 cases K
 have J:Has e2 i (OL ds):=by rcases r with rfl | rfl;exact .inl es;exact .inr es
 obtain ⟨N,f,O,C,m,g,c,hf⟩:=w.has J
 rw [l] at f;cases f;cases m
 refine ao1 g (by rw [c.length];exact D) ?_
 exact k _ z _ _ _ (w.upd1 (A':=OL (ds.set j d)) es r l hf ⟨a,_,rfl,aah,c.set (L.same p) j,fun b=>Iff.rfl⟩) p q
theorem apo {t:TS} {D':VEnds} {A:Own} {d:PyData} (i:Nat) (e:env[i]?=some (some (.own A))) (f:Frz A d) (h:EvS B t D' (env.set i (some (.st d)))):EvS B t D' env:=fun σ G H F D I r=>by
 obtain ⟨v,b,a,g,J⟩:=I.frz e f
 exact h σ _ H _ D J (r.later g)
end
def tyD:PyData->String
 | .none => "NoneType" | .bool _ => "bool" | .int _ => "int" | .str _ => "str" | .list _ => "list" | .tuple _ => "tuple" | .dict _ => "dict"
def aen (T:String):Prop:=T = "int"\/T = "bool"\/T = "tuple"\/T = "list"\/T = "str"\/T = "dict"
def isiD (T:String) (d:PyData):Bool:=tyD d == T || (T == "int" && tyD d == "bool")
theorem a10 {K:Frag} {H:Hp} {v:V} {d:PyData} (r:Rp H v d):TyOf K H v (.type (tyD d)):=by
 cases r with
 | non=>exact .non
 | bl b=>exact .bl b
 | int i=>exact .int i
 | str x=>exact .str x
 | lst h _=>exact .lst h
 | tup h _=>exact .tup h
 | dk h _ _=>exact .dK h
 | dt h _ _=>exact .dT h
theorem a11 {K:Frag} {T:String} (h:aen T) (d:PyData):kitOne K (.type (tyD d)) (.type T)=some (isiD T d):=by
 rcases h with rfl | rfl | rfl | rfl | rfl | rfl
 ·cases d with
  | none=>exact aii
  | bool _=>exact amy
  | int _=>exact aol
  | str _=>exact aon
  | list _=>exact am6
  | tuple _=>exact als
  | dict _=>exact am8
 ·cases d with
  | none=>exact ah3
  | bool _=>exact alj
  | int _=>exact am0
  | str _=>exact am3
  | list _=>exact alp
  | tuple _=>exact akg
  | dict _=>exact alu
 ·cases d with
  | none=>exact ag7
  | bool _=>exact ake
  | int _=>exact aln
  | str _=>exact alo
  | list _=>exact akf
  | tuple _=>exact ajf
  | dict _=>exact akj
 ·cases d with
  | none=>exact ah4
  | bool _=>exact alk
  | int _=>exact am1
  | str _=>exact am4
  | list _=>exact alq
  | tuple _=>exact akh
  | dict _=>exact alv
 ·cases d with
  | none=>exact aij
  | bool _=>exact amz
  | int _=>exact aom
  | str _=>exact aoo
  | list _=>exact am7
  | tuple _=>exact alt
  | dict _=>exact am9
 ·cases d with
  | none=>exact ah5
  | bool _=>exact alm
  | int _=>exact am2
  | str _=>exact am5
  | list _=>exact alr
  | tuple _=>exact aki
  | dict _=>exact alw
section
variable {B:Bs} {env:En} {QO:Sl->En->Prop} {Q':PyData->En->Prop} {QT:Bool->En->Prop} {QE:En->Prop} {te ta tb tk:TE} {K:Frag} {i:Nat}
theorem a0i {T:String} (l:aen T) (h:Ev B te env fun d e=>Q' (.bool (isiD T d)) e):Ev B (tCB (rIsi K) (aa5 te (aa5 (tC (.ty T)) tNil))) env Q':=fun σ G H F Q I k =>
 h σ G H F _ I fun v c j b d i a m f g=>⟨v,T,_,_,rfl,a10 (f.same a.gh),a11 l d,k _ c j b _ i a m (.bl _) g⟩
theorem a0j:aen "int":=.inl rfl
theorem ax8:aen "bool":=.inr (.inl rfl)
theorem avi:aen "tuple":=.inr (.inr (.inl rfl))
theorem ax9:aen "list":=.inr (.inr (.inr (.inl rfl)))
theorem avj {A:Own} {D':VEnds} (e:env[i]?=some (some (.own A))) (q:D'.rt (.own A) (env.set i none)):EvS B (tRet (tVar i)) D' env:=aph (auz e q)
theorem a12 {n m:Nat} {P:Prop} (h:n<=m) (q:P):n<=m/\P:=⟨h,q⟩
theorem a0k {ds:List PyData} {e2:En} {R:List PyData->Prop} (e:e2[i]?=some (some (.own (OL ds)))) (a:ds.length<=999999) (q:R ds):∃ ds,e2[i]?=some (some (.own (OL ds)))/\ds.length<=999999/\R ds:=⟨ds,e,a,q⟩
theorem a13 {ds:List PyData} {d:PyData} {k:Int} {e2:En} {R:PyData->Prop} (b:Has e2 i (OL ds)) (h:atI ds k=some d) (q:R d):∃ ds a d,Has e2 i (OL ds)/\PyData.int k=.int a/\atI ds a=some d/\R d:=⟨ds,k,d,b,rfl,h,q⟩
theorem aq1 {ds:List PyData} {k:Int} {j:Nat} {e2:En} {R:Sl->List PyData->Nat->Prop} (e:e2[i]?=some (some (.own (OL ds)))) (b:ixN ds.length k=some j) (q:R (.own (OL ds)) ds j):∃ s ds a j,PyData.int k=.int a/\e2[i]?=some (some s)/\(s=.own (OL ds)\/s=.io (OL ds))/\ixN ds.length a=some j/\R s ds j:=⟨_,ds,k,j,rfl,e,.inl rfl,b,q⟩
theorem a14 {A:Own} {dx:PyData} {e2:En} {P:PyData->Prop} (a:Has e2 i A) (b:Frz A dx) (q:P dx):∃ A dx,Has e2 i A/\Frz A dx/\P dx:=⟨A,dx,a,b,q⟩
theorem x_rt {A:Own} {e2:En} {R:Own->Prop} (e:e2[0]?=some (some (.io A))) (q:R A):∃ A',e2[0]?=some (some (.io A'))/\R A':=⟨A,e,q⟩
theorem x_st {b:Bool} {R:Bool->Prop} (h:R b):∃ c,Sl.st (.bool b)=.st (.bool c)/\R c:=⟨b,rfl,h⟩
theorem avk {ds:List PyData} {R:Bool->Prop} (h:R (!ds.isEmpty)):∃ k,TruD (.list ds) k/\R k:=⟨_,rfl,h⟩
theorem lenP {f:VP} {n:Nat} {vs:List V} {H:Hp} {Q:VK} {E:XK} (h:spP K f vs H Q E) (hf:∀ ss Q',f ss Q'->ss.length=n):vs.length=n:=by
 obtain ⟨G,ss,Q',_,_,a,q,_⟩:=h
 rw [a.length];exact hf ss Q' q
theorem lenI {f:VIo} {n:Nat} {vs:List V} {H:Hp} {Q:VK} {E:XK} (h:spI K f vs H Q E) (hf:∀ A ss Q',f A ss Q'->ss.length+1=n):vs.length=n:=by
 obtain ⟨v0,b,G,R,A,ss,F0,Q',rfl,_,_,_,_,_,_,a,q,_⟩:=h
 rw [aE0,a.length];exact hf A ss Q' q
theorem ajm {f:VIo} {t:TA} {E:XK} {A:Own} (d:env[i]?=some (some (.io A))) (h:EvA B t env fun ds a=>a[i]?=some (some (.io A))/\f A (ds.map Sl.st) fun A' s=>QO s (a.set i (some (.io A')))):EvO B (abx (spI K f) [] E (aa5 (tVar i) t)) env QO :=
 ahb ⟨_,d⟩ fun σ G H F Q I k=>h σ G H F Q I fun vs G' H' F' ds a b g r ⟨c,q⟩=>k vs G' H' F' ds a b g r ⟨_,A,c,.inr rfl,q⟩
theorem ajn {f:VIo} {t:TA} {E:XK} {A:Own} (d:env[i]?=some (some (.own A))) (h:EvA B t env fun ds a=>a[i]?=some (some (.own A))/\f A (ds.map Sl.st) fun A' s=>QO s (a.set i (some (.own A')))):EvO B (abx (spI K f) [] E (aa5 (tVar i) t)) env QO :=
 ahb ⟨_,d⟩ fun σ G H F Q I k=>h σ G H F Q I fun vs G' H' F' ds a b g r ⟨c,q⟩=>k vs G' H' F' ds a b g r ⟨_,A,c,.inl rfl,q⟩
theorem alb {f:VIo} {t:TA} {E:XK} {A:Own} (b:env[i]?=some (some (.io A))) (h:EvA B t env fun ds a=>a[i]?=some (some (.io A))/\f A (ds.map Sl.st) fun A' s=>FQ s fun d=>Q' d (a.set i (some (.io A')))):Ev B (abx (spI K f) [] E (aa5 (tVar i) t)) env Q':=abo (ajm b h)
theorem asv {f:VIo} {t:TA} {E:XK} {A:Own} (b:env[i]?=some (some (.own A))) (h:EvA B t env fun ds a=>a[i]?=some (some (.own A))/\f A (ds.map Sl.st) fun A' s=>FQ s fun d=>Q' d (a.set i (some (.own A')))):Ev B (abx (spI K f) [] E (aa5 (tVar i) t)) env Q':=abo (ajn b h)
theorem a15 {P Q:Prop} (h:P) (q:Q):P/\Q:=⟨h,q⟩
theorem a16 {src:List (Option Nat)} {j:TI} {g:TG} {f:TT} (nd:(src.filterMap id).Nodup) (h:EvI B j env fun ds i=>LcV B.K src g f te ds i fun ys e2=>Q' (.list ys) e2):Ev B (tLC src j g f te) env Q':=abo (ast nd fun σ G H F R I k=>h σ G H F R I fun J G' H' F' ds i l g' it ⟨m,a,b,c,d⟩=>k J G' H' F' ds i l g' it ⟨m,a,b,c,fun ys e q=>adj (d ys e q)⟩)
end
end VL
namespace VL
open PySem L2
section
variable {B:Bs} {QE:En->Prop} {Q':PyData->En->Prop} {s:Sl} {r:En} {A:Own} {d:PyData} {x0 x1 x2 x3 x4 x5 x6 x7 x8 x9 x10 x11 x12 x13 x14 x15 x16 x17 x18 x19 x20 x21 x22 x23 x24 x25:Option Sl}
theorem a0l (h:QE (x0 :: some s :: r)):EvG B (abw 1) s (x0 :: x1 :: r) QE:=abq h
theorem a0m (h:QE (x0 :: x1 :: some s :: r)):EvG B (abw 2) s (x0 :: x1 :: x2 :: r) QE:=abq h
theorem a0n (h:QE (x0 :: x1 :: x2 :: some s :: r)):EvG B (abw 3) s (x0 :: x1 :: x2 :: x3 :: r) QE:=abq h
theorem a0o (h:QE (x0 :: x1 :: x2 :: x3 :: some s :: r)):EvG B (abw 4) s (x0 :: x1 :: x2 :: x3 :: x4 :: r) QE:=abq h
theorem a0p (h:QE (x0 :: x1 :: x2 :: x3 :: x4 :: some s :: r)):EvG B (abw 5) s (x0 :: x1 :: x2 :: x3 :: x4 :: x5 :: r) QE:=abq h
theorem a0q (h:QE (x0 :: x1 :: x2 :: x3 :: x4 :: x5 :: some s :: r)):EvG B (abw 6) s (x0 :: x1 :: x2 :: x3 :: x4 :: x5 :: x6 :: r) QE:=abq h
theorem a0r (h:QE (x0 :: x1 :: x2 :: x3 :: x4 :: x5 :: x6 :: some s :: r)):EvG B (abw 7) s (x0 :: x1 :: x2 :: x3 :: x4 :: x5 :: x6 :: x7 :: r) QE:=abq h
theorem a0s (h:QE (x0 :: x1 :: x2 :: x3 :: x4 :: x5 :: x6 :: x7 :: some s :: r)):EvG B (abw 8) s (x0 :: x1 :: x2 :: x3 :: x4 :: x5 :: x6 :: x7 :: x8 :: r) QE:=abq h
theorem a0t (h:QE (x0 :: x1 :: x2 :: x3 :: x4 :: x5 :: x6 :: x7 :: x8 :: some s :: r)):EvG B (abw 9) s (x0 :: x1 :: x2 :: x3 :: x4 :: x5 :: x6 :: x7 :: x8 :: x9 :: r) QE:=abq h
end
end VL
namespace Gr
structure Ring (T:Int->Int->Prop) (a:Int) (k:Nat) (far:Int->Option Nat) (edge:List Int):Prop where
 lab:∀ v d,far v=some d ↔ (Dist T a v d/\d<=k)
 edg:∀ v,v∈edge ↔ Dist T a v k
structure Mid (T:Int->Int->Prop) (k:Nat) (far0:Int->Option Nat) (edge:List Int) (done:Int->Prop) (far:Int->Option Nat) (beyond:List Int):Prop where
 old:∀ v d,far0 v=some d->far v=some d
 new:∀ v,v∈beyond ↔ (far0 v=none/\far v ≠ none)
 val:∀ v d,far0 v=none->far v=some d->d=k+1/\∃ u,u∈edge/\T u v
 dn:∀ u w,done u->T u w->far w ≠ none
def label (far:Int->Option Nat) (w:Int) (d:Nat):Int->Option Nat:=fun v=>if v=w then some d else far v
theorem label_same {far:Int->Option Nat} {w:Int} {d:Nat}:label far w d w=some d:=aE7 rfl
theorem label_ne {far:Int->Option Nat} {w v:Int} {d:Nat} (h:v ≠ w):label far w d v=far v:=aE8 h
variable {T:Int->Int->Prop} {a:Int} {k:Nat} {far0 far:Int->Option Nat} {edge beyond:List Int} {done:Int->Prop}
theorem Ring.start:Ring T a 0 (label (fun _=>none) a 0) [a]:=by
 refine ⟨fun v d=>?_,fun v=>?_⟩
 ·by_cases h:v=a
  ·subst h
   rw [label_same]
   constructor
   ·intro e;cases e;exact ⟨Dist.self T v,aA6 _⟩
   ·rintro ⟨h,_⟩;rw [h.uniq (Dist.self T v)]
  ·rw [label_ne h]
   constructor
   ·intro e;cases e
   ·rintro ⟨b,c⟩
    have:d=0:=by lia
    subst this
    cases b.1
    exact absurd rfl h
 ·simp only [aC1]
  constructor
  ·rintro rfl;exact Dist.self T v
  ·intro h;cases h.1;rfl
theorem Mid.start:Mid T k far0 edge (fun _=>False) far0 [] :=
 ⟨fun v d h=>h,fun v=>⟨fun h=>by simp at h,fun h=>absurd h.1 h.2⟩,fun v d h g=>(by rw [h] at g;cases g),fun u w h=>h.elim⟩
theorem Mid.add (m:Mid T k far0 edge done far beyond) {u w:Int} (f:u∈edge) (t:T u w) (a:far w=none):Mid T k far0 edge done (label far w (k+1)) (beyond ++ [w]):=by
 have b:far0 w=none:=by
  cases e:far0 w with
  | none=>rfl
  | some d=>rw [m.old w d e] at a;cases a
 refine ⟨fun v d h=>?_,fun v=>?_,fun v d h g=>?_,fun x y c i=>?_⟩
 ·rw [label_ne (by rintro rfl;rw [b] at h;cases h)];exact m.old v d h
 ·by_cases hv:v=w
  ·subst hv
   simp [label_same,b]
  ·rw [label_ne hv]
   simp only [aA7,aC1,hv,or_false]
   exact m.new v
 ·by_cases hv:v=w
  ·subst hv
   rw [label_same] at g
   cases g
   exact ⟨rfl,u,f,t⟩
  ·rw [label_ne hv] at g
   exact m.val v d h g
 ·by_cases hv:y=w
  ·subst hv;rw [label_same];simp
  ·rw [label_ne hv];exact m.dn x y c i
theorem Mid.did (m:Mid T k far0 edge done far beyond) {u:Int} (h:∀ w,T u w->far w ≠ none):Mid T k far0 edge (fun x=>done x\/x=u) far beyond :=
 ⟨m.old,m.new,m.val,fun x w a t=>by rcases a with a | rfl;exact m.dn x w a t;exact h w t⟩
theorem Mid.imp {a:Int->Prop} (m:Mid T k far0 edge done far beyond) (h:∀ u,a u->done u):Mid T k far0 edge a far beyond :=
 ⟨m.old,m.new,m.val,fun x w b t=>m.dn x w (h x b) t⟩
theorem Ring.next (r:Ring T a k far0 edge) (m:Mid T k far0 edge done far beyond) (hd:∀ u∈edge,done u):Ring T a (k+1) far beyond:=by
 have g:∀ v,far0 v=none->far v ≠ none->Dist T a v (k+1):=fun v f b=>by
  cases e:far v with
  | none=>exact absurd e b
  | some d =>
   obtain ⟨rfl,u,j,t⟩:=m.val v d f e
   obtain ⟨l,p,h⟩:=((r.edg u).mp j).next t
   by_cases i:l<=k
   ·rw [(r.lab v l).mpr ⟨h,i⟩] at f;cases f
   ·have:l=k+1:=by lia
    rw [← this];exact h
 have c:∀ v,Dist T a v (k+1)->far0 v=none/\far v ≠ none:=fun v h=>by
  refine ⟨?_,?_⟩
  ·cases e:far0 v with
   | none=>rfl
   | some d =>
    obtain ⟨b,n⟩:=(r.lab v d).mp e
    have:=b.uniq h
    lia
  ·obtain ⟨u,t,j⟩:=h.pred
   exact m.dn u v (hd u ((r.edg u).mpr j)) t
 refine ⟨fun v d=>?_,fun v=>⟨fun h=>?_,fun h=>(m.new v).mpr (c v h)⟩⟩
 ·constructor
  ·intro e
   cases e0:far0 v with
   | some d0 =>
    rw [m.old v d0 e0] at e
    cases e
    obtain ⟨b,n⟩:=(r.lab v d).mp e0
    exact ⟨b,by lia⟩
   | none =>
    have i:=(m.val v d e0 e).1
    subst i
    exact ⟨g v e0 (by rw [e];simp),aA6 _⟩
  ·rintro ⟨h,i⟩
   by_cases hd':d<=k
   ·exact m.old v d ((r.lab v d).mpr ⟨h,hd'⟩)
   ·have o:d=k+1:=by lia
    subst o
    obtain ⟨f,b⟩:=c v h
    cases e:far v with
    | none=>exact absurd e b
    | some d=>rw [(m.val v d f e).1]
 ·obtain ⟨f,b⟩:=(m.new v).mp h
  exact g v f b
theorem Dist.down {v:Int}:∀ {d:Nat},Dist T a v d->∀ j,j<=d->∃ u,Dist T a u j
 | 0,h,j,hj=>⟨v,by rw [show j=0 by lia];exact h⟩
 | d+1,h,j,hj=>by
  by_cases e:j=d+1
  ·rw [e];exact ⟨v,h⟩
  ·obtain ⟨u,_,b⟩:=h.pred
   exact Dist.down b j (by lia)
def farO (T:Int->Int->Prop) (a v:Int):Option Nat:=open Classical in if h:∃ d,Dist T a v d then some (Classical.choose h) else none
theorem farO_some {v:Int} {d:Nat}:farO T a v=some d ↔ Dist T a v d:=by
 unfold farO
 constructor
 ·intro h
  split at h
  ·rename_i b
   cases h
   exact Classical.choose_spec b
  ·cases h
 ·intro h
  have b:∃ d,Dist T a v d:=⟨d,h⟩
  rw [dif_pos b,(Classical.choose_spec b).uniq h]
theorem farO_none {v:Int}:farO T a v=none ↔ ∀ d,¬ Dist T a v d:=by
 constructor
 ·intro h d hd
  rw [farO_some.mpr hd] at h;cases h
 ·intro h
  cases e:farO T a v with
  | none=>rfl
  | some d=>exact absurd (farO_some.mp e) (h d)
theorem apq {v:Int} {o:Option Nat} (h:∀ d,o=some d ↔ Dist T a v d):o=farO T a v:=by
 cases o with
 | some d=>exact (farO_some.mpr ((h d).mp rfl)).symm
 | none=>exact (farO_none.mpr fun d hd=>by cases (h d).mpr hd).symm
theorem Ring.fin (r:Ring T a k far0 []) (v:Int):far0 v=farO T a v:=by
 refine apq fun d=>?_
 rw [r.lab]
 refine ⟨fun h=>h.1,fun h=>⟨h,?_⟩⟩
 apply aD3
 intro c
 obtain ⟨u,b⟩:=h.down k (by lia)
 have:=(r.edg u).mpr b
 simp at this
theorem Walk.app {u v w:Int} {i j:Nat} (h:Walk T u i v) (g:Walk T v j w):Walk T u (i+j) w:=by
 induction g with
 | refl=>exact h
 | step _ t ih=>exact .step ih t
theorem Walk.rev (a:∀ u v,T u v->T v u) {u v:Int} {i:Nat} (h:Walk T u i v):Walk T v i u:=by
 induction h with
 | refl=>exact .refl
 | @step j x y _ t ih =>
  have:=(Walk.step (T:=T) (u:=y) .refl (a _ _ t)).app ih
  rw [Nat.add_comm] at this
  exact this
theorem Dist.rev (a:∀ u v,T u v->T v u) {u v:Int} {d:Nat} (h:Dist T u v d):Dist T v u d:=⟨h.1.rev a,fun k w=>h.2 k (w.rev a)⟩
theorem farO_comm (a:∀ u v,T u v->T v u) (u v:Int):farO T u v=farO T v u:=apq fun d=>by
 rw [farO_some];exact ⟨fun h=>h.rev a,fun h=>h.rev a⟩
theorem farO_self:farO T a a=some 0:=farO_some.mpr (Dist.self T a)
end Gr
namespace VL
open PySem PySem.Spec L2
theorem nodup_ix {α:Type} {xs:List α} (h:xs.Nodup) {i j:Nat} (hi:i < xs.length) (a:j < xs.length) (e:xs[i]=xs[j]):i=j:=by
 have p:=aF9.mp h
 rcases Nat.lt_trichotomy i j with q | q | q
 ·exact absurd e (p i j hi a q)
 ·exact q
 ·exact absurd e.symm (p j i a hi q)
def OLL (dss:List (List PyData)):Own where
 P:=fun G H v F=>∃ (a:Addr) (as:List Addr),v=.ref a/\H a=some (.lst (as.map V.ref))/\as.Nodup/\a ∉ as/\as.length=dss.length/\(∀ (i:Nat) b ds,as[i]?=some b->dss[i]?=some ds->∃ vs,H b=some (.lst vs)/\Rps G vs ds)/\∀ b,F b ↔ b=a\/b∈as
 mono:=fun ⟨a,as,e,h,n1,n2,l,r,f⟩ g hh=>⟨a,as,e,hh a _ ((f a).mpr (.inl rfl)) h,n1,n2,l,fun i b ds hb hd=>by
  obtain ⟨vs,h1,h2⟩:=r i b ds hb hd
  exact ⟨vs,hh b _ ((f b).mpr (.inr (aA2 hb))) h1,h2.same g⟩,f⟩
 dom:=fun ⟨a,as,e,h,n1,n2,l,r,f⟩ b z=>by
  rcases (f b).mp z with rfl | z
  ·exact ⟨_,h⟩
  ·obtain ⟨i,hi,e⟩:=aG8.mp z
   have hb:as[i]?=some b:=by rw [aA0 hi,e]
   obtain ⟨vs,h1,_⟩:=r i b _ hb (aA0 (by rw [← l];exact hi))
   exact ⟨_,h1⟩
theorem ank {G:Hp}:∀ {vs:List V} {ds:List PyData},vs.length=ds.length->(∀ (i:Nat) v d,vs[i]?=some v->ds[i]?=some d->Rp G v d)->Rps G vs ds
 | [],[],_,_ => .nil
 | [],_ :: _,h,_=>by simp at h
 | _ :: _,[],h,_=>by simp at h
 | v :: vs,d :: ds,h,k => .cons (k 0 v d rfl rfl) (ank (by simpa using h) fun i v d b a=>k (i+1) v d (by simpa using b) (by simpa using a))
theorem ako {c:List (List PyData)}:Frz (OLL c) (.list (c.map .list)):=fun G H v F ⟨a,as,e,h,q,p,l,r,f⟩ n g=>by
 subst e
 refine .lst (by rw [adu ((f a).mpr (.inl rfl))];exact h) (ank (by simp [l]) fun i u d j hd=>?_)
 rw [aA5] at j hd
 cases hb:as[i]? with
 | none=>rw [hb] at j;cases j
 | some b =>
  cases hds:c[i]? with
  | none=>rw [hds] at hd;cases hd
  | some ds =>
   rw [hb] at j;rw [hds] at hd
   cases j;cases hd
   obtain ⟨vs,o,m⟩:=r i b ds hb hds
   exact .lst (by rw [adu ((f b).mpr (.inr (aA2 hb)))];exact o) (m.same (abl n))
section
variable {B:Bs} {env:En} {QO:Sl->En->Prop} {Q':PyData->En->Prop} {D':VEnds} {K:Frag} {i:Nat}
theorem a0u {a:List (List PyData)} {R:PyData->Prop} (h:R (.list (a.map .list))):FQ (.own (OLL a)) R:=⟨_,ako,h⟩
theorem aya {src:List (Option Nat)} {wi:TI} {j:Nat} (h:EvI B wi env fun ds O=>ds.length<=1000000/\QO (.own (OLL (List.replicate ds.length []))) O):EvO B (tLC src wi (abw j) tYes (tLst tNil)) env QO:=fun σ G H F Q I k=>by
 refine h σ G H F _ I fun J Y L F1 ds O s g1 it ⟨a0,q⟩ c d=>?_
 let W:Nat->List V->Hp->Prop:=fun n ys H=>∃ (as:List Addr) (g:Hp),ys=as.map V.ref/\as.length=n/\as.Nodup/\c ∉ as/\(∀ b∈as,L b=none/\g b=none/\H b=some (.lst []))/\H c=some (.lst ys)/\g c=none/\Same Y g/\Same g H/\Same L H/\(∀ a o,g a=some o->Y a=some o\/L a=none)/\FT g H
 refine ⟨fun n m ys σI H=>m=ds.length - n/\n<=ds.length/\W n ys H,⟨ds.length,by simp,aF2 _,[],Y,rfl,rfl,List.nodup_nil,by simp,fun b hb=>by simp at hb,aah,s.no_g d,Same.refl _,s.gh.trans (abf d),abf d,fun a o e => .inl e,fun a T e=>?_⟩,?_⟩
 ·by_cases z:a=c
  ·subst z;rw [aah] at e;cases e
  ·rw [aae z] at e;exact s.ft a T e
 rintro n m ys σI H2 ⟨rfl,hn,as,g,rfl,S,nd,na,all,f,X,A,l,r,D,v⟩
 refine ⟨f,?_⟩
 by_cases hlt:n < ds.length
 ·refine .inr ⟨it.go n g H2 A l hlt,fun E Z H'=>W (n+1) E H',fun E Z H' hw=>⟨ds.length - (n+1),by lia,rfl,hlt,hw⟩,fun x H3 y=>?_⟩
  obtain ⟨M,o⟩:=it.yld n g H2 x H3 _ A l v (aA0 hlt) y
  refine ahu (aja (acd (asd (ae0 ⟨by decide,fun p C=>?_⟩))))
  have n2:H2 p=none:=aa6 o.hh C
  have n1:L p=none:=aa6 r n2
  have P:p ≠ c:=(aan (o.hh _ _ f) C).symm
  have K:p ∉ as:=fun z=>by
   have:=o.hh _ _ (all p z).2.2
   rw [this] at C;cases C
  refine ⟨by rw [aae P.symm];exact o.hh _ _ f,by rw [aA3,S];exact big (by lia),as ++ [p],M,by simp,by simp [S],?_,?_,fun b hb=>?_,aah,?_,A.trans o.gg,fun a u e=>?_,fun a u e=>?_,fun a u e=>?_,fun a T e=>?_⟩
  ·rw [aE2]
   exact ⟨nd,by simp,fun x hx y hy=>by simp at hy;subst hy;intro e;subst e;exact K hx⟩
  ·intro z
   rcases aA7.mp z with z | z
   ·exact na z
   ·exact P (aC1.mp z).symm
  ·have gb:∀ b,g b=none->(∃ u,H2 b=some u)->M b=none:=fun b N z_=>by
    obtain ⟨u,R⟩:=z_
    cases e:M b with
    | none=>rfl
    | some w =>
     rcases o.gn b w e with e | e
     ·rw [N] at e;cases e
     ·rw [R] at e;cases e
   rcases aA7.mp hb with hb | hb
   ·obtain ⟨N,R,h3⟩:=all b hb
    refine ⟨N,gb b R ⟨_,h3⟩,?_⟩
    rw [aae (fun z:b=c=>na (by rw [← z];exact hb)),aae (fun z:b=p=>K (by rw [← z];exact hb))]
    exact o.hh _ _ h3
   ·have e:b=p:=by simpa using hb
    subst e
    exact ⟨n1,aa6 o.gh C,by rw [aae P,aah]⟩
  ·cases e:M c with
   | none=>rfl
   | some w =>
    rcases o.gn c w e with e | e
    ·rw [X] at e;cases e
    ·rw [f] at e;cases e
  ·have ap:a ≠ p:=aan (o.gh a u e) C
   have U:a ≠ c:=by
    rintro rfl
    rcases o.gn _ u e with e | e
    ·rw [X] at e;cases e
    ·rw [f] at e;cases e
   rw [aae U,aae ap];exact o.gh a u e
  ·have ap:a ≠ p:=aan e n1
   have U:a ≠ c:=aan e d
   rw [aae U,aae ap];exact o.hh _ _ (r a u e)
  ·rcases o.gn a u e with e | e
   ·exact D a u e
   ·exact .inr (aa6 r e)
  ·by_cases z:a=c
   ·subst z;rw [aah] at e;cases e
   ·rw [aae z] at e
    by_cases y:a=p
    ·subst y;rw [aah] at e;cases e
    ·rw [aae y] at e;exact o.ft v a T e
 ·have e:n=ds.length:=by lia
  subst e
  refine .inl ⟨it.stop _ g H2 A l rfl,?_⟩
  have I2:=s.grow A l r D v
  refine k (.ref c) g H2 F1 (fun b=>b=c\/b∈as) (.own (OLL (List.replicate ds.length []))) O I2 (g1.trans A) ⟨⟨c,as,rfl,f,nd,na,by simp [S],fun i b a1 hb hd=>?_,fun b=>Iff.rfl⟩,fun b z=>?_,fun b z=>?_,fun b z=>?_,fun j b z y=>?_⟩ q
  ·rw [aG9] at hd
   split at hd
   ·cases hd;exact ⟨[],(all b (aA2 hb)).2.2,.nil⟩
   ·cases hd
  ·rcases z with rfl | z
   ·exact s.no_b d
   ·exact s.no_b (all b z).1
  ·rcases z with rfl | z
   ·exact X
   ·exact (all b z).2.1
  ·rcases z with rfl | z
   ·exact ⟨_,f⟩
   ·exact ⟨_,(all b z).2.2⟩
  ·rcases z with rfl | z
   ·exact s.no_f d j y
   ·exact s.no_f (all b z).1 j y
theorem ajo {d:List (List PyData)} {l j n:Nat} {k:Int} {y:PyData} {ds:List PyData} (e:env[i]?=some (some (.own (OLL d)))) (ek:env[l]?=some (some (.st (.int k)))) (W:env[j]?=some (some (.st y)))
  (hk:ixN d.length k=some n) (hd:d[n]?=some ds) (hl:ds.length<=999999) (q:Q' .none (env.set i (some (.own (OLL (d.set n (ds ++ [y]))))))):Ev B (tBM K "list" aem (tOp (adi K) (tVar i) (tVar l)) (aa5 (tVar j) tNil)) env Q':=fun σ G H F Q I P=>by
 obtain ⟨v,N,⟨a,as,rfl,h,O,M,ln,r,f⟩,_⟩:=I.sl i _ e
 obtain ⟨vk,u,U,_⟩:=I.sl l _ ek
 obtain ⟨Z,D,ry,_⟩:=I.sl j _ W
 cases U
 have hn:n < d.length:=(aA1.mp hd).1
 have hb:as[n]?=some (as[n]'(by lia)):=aA0 _
 generalize as[n]'(by lia)=b at hb
 have s:b∈as:=aA2 hb
 obtain ⟨vs,L,E⟩:=r n b ds hb hd
 have w:atI (as.map V.ref) k=some (.ref b):=by
  unfold atI
  rw [aA3,ln,hk]
  simp [hb]
 refine ⟨_,N,_,u,af9 h w ⟨.inl ⟨rfl,_,SqL.of L⟩,_,D,afc L (by rw [E.length];exact big (by lia)) ?_⟩⟩
 have x:a ≠ b:=fun z=>M (z ▸ s)
 have J:=I.change (A:=OLL (d.set n (ds ++ [y]))) (H2:=upd H b (.lst (vs ++ [Z]))) (F2:=F i) (os':=.own (OLL (d.set n (ds ++ [y])))) i e N (fun c o p C=>by rw [aae (fun z:c=b=>p ((f c).mpr (.inr (by rw [z];exact s))))];exact C)
  (fun c o C=>by
   by_cases z:c=b
   ·rw [z];exact ⟨_,aah⟩
   ·rw [aae z];exact ⟨o,C⟩)
  (fun c z=>⟨.inl z,by
   by_cases y:c=b
   ·rw [y];exact ⟨_,aah⟩
   ·rw [aae y];exact I.fo i c z⟩) ?_ (fun c S e=>by
   by_cases z:c=b
   ·subst z;rw [aah] at e;cases e
   ·rw [aae z] at e;exact I.ft c S e) (.inl ⟨rfl,_,rfl⟩)
 ·exact P _ G _ _ _ _ J (Same.refl _) .non q
 ·refine ⟨a,as,rfl,by rw [aae x];exact h,O,M,by simp [ln],fun m c es p g=>?_,f⟩
  by_cases hm:m=n
  ·subst hm
   rw [hb] at p;cases p
   rw [aD1,aE7 rfl,aE7 hn] at g
   cases g
   exact ⟨_,aah,E.append (.cons ry .nil)⟩
  ·rw [aD1,aE8 (fun z=>hm z.symm)] at g
   obtain ⟨us,R,X⟩:=r m c es p g
   refine ⟨us,?_,X⟩
   rw [aae]
   ·exact R
   ·rintro rfl
    have i1:=(aA1.mp hb)
    have i2:=(aA1.mp p)
    obtain ⟨Y,T⟩:=i1
    obtain ⟨l2,e2⟩:=i2
    exact hm (nodup_ix O l2 Y (e2.trans T.symm))
end
@[reducible] def prD (p:Int × Int):PyData:=.tuple [.int p.1,.int p.2]
@[reducible] def webD (n:Int) (es:List (Int × Int)):PyData:=.tuple [.int n,.list (es.map prD)]
def Tied (es:List (Int × Int)) (u v:Int):Prop:=(u,v)∈es\/(v,u)∈es
theorem Tied.symm {es:List (Int × Int)} {u v:Int} (h:Tied es u v):Tied es v u:=h.elim .inr .inl
def InN (n:Int) (es:List (Int × Int)):Prop:=∀ p∈es,0<=p.1/\p.1 < n/\0<=p.2/\p.2 < n
theorem Tied.in {n:Int} {es:List (Int × Int)} {u v:Int} (hi:InN n es) (h:Tied es u v):(0<=u/\u < n)/\0<=v/\v < n:=by
 rcases h with h | h
 ·have:=hi _ h;exact ⟨⟨this.1,this.2.1⟩,this.2.2⟩
 ·have:=hi _ h;exact ⟨⟨this.2.2.1,this.2.2.2⟩,this.1,this.2.1⟩
theorem Tied.snoc {es:List (Int × Int)} {i:Nat} {a b:Int} (h:es[i]?=some (a,b)) (u v:Int):Tied (es.take (i+1)) u v ↔ (Tied (es.take i) u v\/(u=a/\v=b))\/(u=b/\v=a):=by
 have e:es.take (i+1)=es.take i ++ [(a,b)]:=by rw [aG6,h];rfl
 unfold Tied
 rw [e]
 simp only [aA7,aC1,Prod.mk.injEq]
 constructor
 ·rintro ((h | ⟨rfl,rfl⟩) | (h | ⟨rfl,rfl⟩))
  ·exact .inl (.inl (.inl h))
  ·exact .inl (.inr ⟨rfl,rfl⟩)
  ·exact .inl (.inl (.inr h))
  ·exact .inr ⟨rfl,rfl⟩
 ·rintro (((h | h) | ⟨rfl,rfl⟩) | ⟨rfl,rfl⟩)
  ·exact .inl (.inl h)
  ·exact .inr (.inl h)
  ·exact .inl (.inr ⟨rfl,rfl⟩)
  ·exact .inr (.inr ⟨rfl,rfl⟩)
def TiedL (n:Int) (T:Int->Int->Prop) (tl:List (List Int)):Prop:=(tl.length:Int)=n/\∀ (i:Nat) ws,tl[i]?=some ws->∀ w,w∈ws ↔ T i w
def oD:Option Nat->PyData
 | none => .none
 | some d => .int d
def lab (n:Nat) (far:Int->Option Nat):List PyData:=(List.range n).map fun (i:Nat)=>oD (far (i:Int))
theorem ade {n:Nat} {far:Int->Option Nat}:(lab n far).length=n:=by simp [lab]
theorem aeo {n:Nat} {far:Int->Option Nat} {i:Nat} (h:i < n):(lab n far)[i]?=some (oD (far i)):=by
 unfold lab
 rw [aA5,aA0 (by simpa using h)]
 simp
theorem anl {n:Nat} {far:Int->Option Nat} {v:Int} (a:0<=v) (h:v < n):atI (lab n far) v=some (oD (far v)):=by
 have:=ael (xs:=lab n far) (j:=v.toNat) (aeo (by lia))
 rwa [show ((v.toNat:Nat):Int)=v by lia] at this
theorem ajp {n:Nat} {v:Int} (a:0<=v) (h:v < n):ixN n v=some v.toNat:=by
 unfold ixN;rw [aE7 a,aE7 h]
theorem apr {n:Nat} {far:Int->Option Nat} {v:Int} {d:Nat} (a:0<=v) (h:v < n):(lab n far).set v.toNat (.int d)=lab n (Gr.label far v d):=by
 apply aF4
 intro i
 rw [aD1]
 by_cases e:v.toNat=i
 ·rw [aE7 e,aE7 (by rw [ade];lia),aeo (by lia)]
  have:(i:Int)=v:=by lia
  rw [this,Gr.label_same];rfl
 ·rw [aE8 e]
  by_cases hi:i < n
  ·rw [aeo hi,aeo hi,Gr.label_ne (by lia)]
  ·rw [aE9.mpr (by rw [ade];lia),aE9.mpr (by rw [ade];lia)]
theorem asw {n:Nat} {f g:Int->Option Nat} (h:∀ v,0<=v->v < (n:Int)->f v=g v):lab n f=lab n g:=by
 unfold lab
 apply aE3
 intro i hi
 rw [h i (by lia) (by have:=aB8.mp hi;lia)]
theorem ayb {o:Option Nat}:isNone (oD o)=o.isNone:=by cases o <;> rfl
theorem ajq {α:Type} {f : α->PyData} {xs:List α} {i:Int} {x : α} (h:atI xs i=some x):atI (xs.map f) i=some (f x):=by
 unfold atI at h ⊢
 rw [aA3]
 cases e:ixN xs.length i with
 | none=>rw [e] at h;cases h
 | some j=>rw [e] at h;simp at h ⊢;exact ⟨_,h,rfl⟩
theorem adk {α:Type} {xs:List α} {i:Int} {x : α} (a:0<=i) (h:xs[i.toNat]?=some x):atI xs i=some x:=by
 have:=ael (xs:=xs) (j:=i.toNat) h
 rwa [show ((i.toNat:Nat):Int)=i by lia] at this
@[reducible] def tlD (tl:List (List Int)):List (List PyData):=tl.map fun ws=>ws.map .int
theorem TiedL.get {n:Int} {T:Int->Int->Prop} {tl:List (List Int)} (h:TiedL n T tl) {v:Int} (d:0<=v) (c:v < n):∃ b,tl[v.toNat]?=some b/\∀ w,w∈b ↔ T v w:=by
 have a:v.toNat < tl.length:=by have:=h.1;lia
 refine ⟨tl[v.toNat],aA0 a,fun w=>?_⟩
 rw [h.2 _ _ (aA0 a) w,show ((v.toNat:Nat):Int)=v by lia]
theorem aep {tl:List (List Int)} {i:Nat} {a:List Int} (h:tl[i]?=some a):(tlD tl)[i]?=some (a.map .int):=by
 rw [aA5,h];rfl
theorem TiedL.put {n:Int} {T:Int->Int->Prop} {tl:List (List Int)} (h:TiedL n T tl) {v q:Int} {c:List Int} (j:0<=v) (g:v < n) (d:tl[v.toNat]?=some c):TiedL n (fun a b=>T a b\/(a=v/\b=q)) (tl.set v.toNat (c ++ [q])):=by
 refine ⟨by rw [List.length_set];exact h.1,fun i us hi w=>?_⟩
 rw [aD1] at hi
 by_cases e:v.toNat=i
 ·rw [aE7 e] at hi
  have l:v.toNat < tl.length:=(aA1.mp d).1
  rw [aE7 (by lia)] at hi
  cases hi
  have f:(i:Int)=v:=by lia
  rw [aA7,aC1,h.2 i c (by rw [← e];exact d) w,f]
  simp
 ·rw [aE8 e] at hi
  rw [h.2 i us hi w]
  exact ⟨.inl,fun z=>z.elim id fun z=>by lia⟩
theorem ah0 {tl:List (List Int)} {i:Nat} {a:List Int}:(tlD tl).set i (a.map .int)=tlD (tl.set i a):=by
 unfold tlD;rw [List.map_set]
theorem TiedL.iff {n:Int} {T a:Int->Int->Prop} {tl:List (List Int)} (h:TiedL n T tl) (e:∀ u v,T u v ↔ a u v):TiedL n a tl:=⟨h.1,fun i b hi w=>(h.2 i b hi w).trans (e _ _)⟩
end VL
namespace VL
open PySem L2
def cnt (far:Int->Option Nat):Nat->Nat
 | 0=>0
 | n+1=>cnt far n+(if far (n:Int)=none then 1 else 0)
theorem ags {far:Int->Option Nat} {w:Int} {d:Nat}:∀ {n:Nat},(w:Int) ≥ n->cnt (Gr.label far w d) n=cnt far n
 | 0,_=>rfl
 | n+1,h=>by
  unfold cnt
  rw [ags (by lia),Gr.label_ne (by lia)]
theorem aeb {far:Int->Option Nat} {w:Int} {d:Nat} (b:0<=w) (a:far w=none):∀ {n:Nat},w < (n:Int)->cnt (Gr.label far w d) n+1=cnt far n
 | 0,h=>by lia
 | n+1,h=>by
  unfold cnt
  by_cases e:w=n
  ·subst e
   rw [ags (by lia),Gr.label_same,a];simp
  ·rw [Gr.label_ne (by lia)]
   have:=aeb b a (n:=n) (d:=d) (by lia)
   lia
theorem ayc (n:Nat):(List.replicate n [PyData.none]).flatten=lab n (fun _=>none):=by
 apply aF4
 intro i
 by_cases hi:i < n
 ·rw [aeo hi]
  have:(List.replicate n [PyData.none]).flatten=List.replicate n PyData.none:=by
   clear hi
   induction n with
   | zero=>rfl
   | succ n ih=>rw [aG5,List.flatten_cons,ih,aG5];rfl
  rw [this,aG9,aE7 hi];rfl
 ·rw [aE9.mpr (by rw [ao0];simp;lia),aE9.mpr (by rw [ade];lia)]
theorem aop {α:Type} {f : α->PyData} {xs:List α}:(xs.map f).isEmpty=xs.isEmpty:=by cases xs <;> rfl
theorem ab8 {xs:List Int} {j:Nat} {u w:Int} (a:xs[j]?=some u) (hm:w∈xs.take (j+1)):w∈xs.take j\/w=u:=by
 rw [aG6,a] at hm
 rcases aA7.mp hm with q | q
 ·exact .inl q
 ·exact .inr (by simpa using q)
theorem asx {n:Nat} {far:Int->Option Nat}:plainDs (lab n far)=true:=by
 rw [afm]
 intro d hd
 obtain ⟨i,_,rfl⟩:=aB6.mp hd
 cases far (i:Int) <;> rfl
theorem ayd {n:Nat} {far:Int->Option Nat}:((lab n far).any fun z=>PyData.eqv z .none)=true ↔ ∃ v:Int,0<=v/\v < n/\far v=none:=by
 rw [List.any_eq_true]
 constructor
 ·rintro ⟨d,hd,e⟩
  obtain ⟨i,hi,rfl⟩:=aB6.mp hd
  refine ⟨i,by lia,by have:=aB8.mp hi;lia,?_⟩
  cases h:far (i:Int) with
  | none=>rfl
  | some d=>rw [h] at e;simp [oD,PyData.eqv] at e
 ·rintro ⟨v,b,a,h⟩
  refine ⟨oD (far v),?_,by rw [h];rfl⟩
  have:=aeo (far:=far) (show v.toNat < n by lia)
  rw [show ((v.toNat:Nat):Int)=v by lia] at this
  exact aA2 this
def Joined (n:Int) (es:List (Int × Int)):Prop:=∀ v,0<=v->v < n->∃ d,Gr.Dist (Tied es) 0 v d
end VL
namespace DI
open PySem PySem.W
def Raw (h:Heap) (d:Addr) (es:Array DictEntry) (ep:Nat):Prop:=∃ o,h.get? d=some o/\o.ExactDict/\o.data=.dict es ep
theorem Raw.keep {h h':Heap} {d:Addr} {es:Array DictEntry} {a:Nat} (r:Raw h d es a) (k:∀ o,h.get? d=some o->h'.get? d=some o):Raw h' d es a:=let ⟨o,e,x⟩:=r;⟨o,k o e,x⟩
theorem Raw.ty {s:Shared} {d:Addr} {es:Array DictEntry} {a:Nat} (r:Raw s.heap d es a):s.TypeIs (.ref d) "dict":=let ⟨o,e,x,_⟩:=r;⟨o,e,x.1⟩
section
variable {prog:Program} {w:World} {A:Around} {E:Value->Shared->Prop} {s:Shared} {d it:Addr} {es:Array DictEntry} {ep i:Nat}
theorem avl {Q:Value->Shared->Prop} (hd:(d == sysModules)=false) (r:Raw s.heap d es ep)
  (c:Q (.ref s.heap.objs.size) { s with heap:=s.heap.push { cls:=.type "dict_keyiterator",data:=.fields #[.ref d,.int 0 0,.int es.size 0,.int ep 0] } }):wpAny (model prog w) A (pyIter (.ref d)) Q E s:=by
 obtain ⟨o,b,f,a⟩:=id r
 refine wpAny_pyIter_slot r.ty PySem.F.slot_dict_iter (aJ1 PySem.F.slot_dict_iter r.ty PySem.F.entry_dict_iter ?body (PySem.F.args_dict_iter_1 _))
 case body =>
  unfold Builtin.«dict.__iter__»
  refine aI0 ?slot
  case slot =>
   unfold Builtin.Dict.dictSlotNone
   refine aI0 (wpAny_notOrdered_dict r.ty ?pl)
   case pl =>
    show wpAny _ _ (pure (Value.ref d)) _ _ s
    refine aI1 ?rest
    case rest =>
     show wpAny _ _ (Builtin.Dict.showsAll d >>= _) _ _ s
     unfold Builtin.Dict.showsAll
     rw [aE8 (by rw [hd];exact aA9)]
     refine aI0 (aI1 (aI0 (wpAny_dictEntries b a (aI0 (wpAny_dictEpoch b a (aI0 (aI8 (aI1 ⟨_,rfl,"dict_keyiterator",_,⟨_,aI4 _ rfl,rfl⟩,PySem.F.slot_dict_keyiterator_next.lookup,?fin⟩))))))))
     case fin=>simpa [rawInt] using c
theorem avm {Q:Option Value->Shared->Prop} (a:s.heap.IsKeyIter it d i es.size ep) (r:Raw s.heap d es ep) (hi:i < es.size)
  (v:∀ h',h'.IsKeyIter it d (i+1) es.size ep->Heap.SameBut it s.heap h'->Q (some es[i].key) { s with heap:=h' }):wpAny (model prog w) A (pyNext (.ref it)) Q E s:=by
 obtain ⟨o,q,u,hd⟩:=id a
 obtain ⟨od,n,x,p⟩:=r
 unfold pyNext
 refine aI0 (wpAny_attempt (wpAny_callSpecial?_slot (name:=Str.ofString "__next__") a.typeIs PySem.F.slot_dict_keyiterator_next (aJ1 PySem.F.slot_dict_keyiterator_next a.typeIs PySem.F.entry_dict_keyiterator_next ?b (PySem.F.args_dict_keyiterator_next_1 _))))
 case b =>
  refine aI0 (aI1 (aI0 (aI0 ?c)))
  case c =>
   first | refine aI0 (wpAny_typeNameOfWhole_keyiter a.typeIs (aI1 (aI0 (wpAny_fieldsOf q hd ?e)))) | refine aI0 (wpAny_typeNameOf_keyiter a.typeIs (aI1 (aI0 (wpAny_fieldsOf q hd ?e))))
   case e =>
    simp only [show Builtin.Dict_items.ownsTuple "dict_keyiterator" = false by decide,Bool.false_eq_true,if_false]
    show wpAny _ _ (if (Value.ref d == Value.none)=true then _ else _) _ _ s;rw [aE8 (show ¬ ((Value.ref d == Value.none)=true) from aA9)]
    refine aI0 (aI1 (aI0 (wpAny_dictEntries n p ?f)))
    case f =>
     rw [aE8 (by simp)];refine aI0 (aI1 (aI0 (wpAny_dictEpoch n p ?g)))
     case g =>
      rw [aE8 (by simp)];refine aI1 ?h
      case h =>
       simp only [show ¬ ((i:Int) < 0) by lia,if_false,Int.toNat_natCast,aA4 hi];refine aI0 ?j
       case j =>
        first | refine aI0 (wpAny_typeNameOfWhole_keyiter a.typeIs (aI1 (aI0 (wpAny_isOneOf_keyiter a.typeIs ?k)))) | refine aI0 (wpAny_typeNameOf_keyiter a.typeIs (aI1 (aI0 (wpAny_isOneOf_keyiter a.typeIs ?k))))
        case k =>
         show wpAny _ _ (setField (.ref it) 1 (rawInt ((i:Int)+1)) >>= _) _ _ s;refine aI0 (wpAny_setField q hd (by simp) ?l)
         case l =>
          have nx:(s.heap.update it (Obj.mapFields (·.setIfInBounds 1 (rawInt ((i:Int)+1))))).IsKeyIter it d (i+1) es.size ep:=⟨_,Heap.get?_update_self _ q (Obj.isFreed_of_fields (Obj.data_mapFields hd _)),(Obj.cls_mapFields ..).trans u,by rw [Obj.data_mapFields hd];simp [rawInt]⟩
          refine aI0 (aI5 (aI0 (wpAny_isOneOf_keyiter (s:={ s with heap:=s.heap.update it (Obj.mapFields (·.setIfInBounds 1 (rawInt ((i:Int)+1)))) }) nx.typeIs ?m)))
          case m=>show wpAny _ _ (pure es[i].key) _ _ _;exact aI1 (aI1 ⟨_,rfl,aI1 (v _ nx (Heap.SameBut.update ..))⟩)
theorem aye {Q:Option Value->Shared->Prop} (hh:A.handled=none) (i:s.heap.IsKeyIter it d es.size es.size ep) (r:Raw s.heap d es ep) (v:∀ h',Heap.ExtBut it s.heap h'->Q none { s with heap:=h' }):wpAny (model prog w) A (pyNext (.ref it)) Q E s:=by
 obtain ⟨o,u,y,hd⟩:=id i
 obtain ⟨od,n,x,p⟩:=r
 unfold pyNext
 refine aI0 (wpAny_attempt (wpAny_callSpecial?_slot (name:=Str.ofString "__next__") i.typeIs PySem.F.slot_dict_keyiterator_next (aJ1 PySem.F.slot_dict_keyiterator_next i.typeIs PySem.F.entry_dict_keyiterator_next ?b (PySem.F.args_dict_keyiterator_next_1 _))))
 case b =>
  refine aI0 (aI1 (aI0 (aI0 ?c)))
  case c =>
   first | refine aI0 (wpAny_typeNameOfWhole_keyiter i.typeIs (aI1 (aI0 (wpAny_fieldsOf u hd ?e)))) | refine aI0 (wpAny_typeNameOf_keyiter i.typeIs (aI1 (aI0 (wpAny_fieldsOf u hd ?e))))
   case e =>
    simp only [show Builtin.Dict_items.ownsTuple "dict_keyiterator" = false by decide,Bool.false_eq_true,if_false]
    show wpAny _ _ (if (Value.ref d == Value.none)=true then _ else _) _ _ s;rw [aE8 (show ¬ ((Value.ref d == Value.none)=true) from aA9)]
    refine aI0 (aI1 (aI0 (wpAny_dictEntries n p ?f)))
    case f =>
     rw [aE8 (by simp)];refine aI0 (aI1 (aI0 (wpAny_dictEpoch n p ?g)))
     case g =>
      rw [aE8 (by simp)];refine aI1 ?h
      case h =>
       simp only [show ¬ ((es.size:Int) < 0) by lia,if_false,Int.toNat_natCast,Array.getElem?_eq_none (aA6 es.size)];refine aI0 ?j
       case j =>
        first | refine aI0 (wpAny_typeNameOfWhole_keyiter i.typeIs (aI1 ?k)) | refine aI0 (wpAny_typeNameOf_keyiter i.typeIs (aI1 ?k))
        case k =>
         show wpAny _ _ (setField (.ref it) 0 .none >>= _) _ _ s;refine aI0 (wpAny_setField u hd (by simp) ?l)
         case l =>
          show wpAny _ _ (newExc (.type "StopIteration") [] >>= _) _ _ _;refine aI0 ?m
          case m =>
           simp only [newExc,newTuple];refine aI0 (aI8 ?zz2 (by size_fits))
           case zz2 =>
            refine aI0 (m:=firstArgMember _ _) (wpAny_of_eq (a:=Value.none) (by first | rfl | (simp only [firstArgMember];rfl)) (aI8 ?zz1 (by size_fits)))
            case zz1 =>
             simp only [raiseNew];refine aI0 (wpAny_handled ?q)
             case q =>
              rw [show A.in1.handled=none from hh];refine aI0 (aI1 (wpAny_throw ?u1))
              case u1=>refine aI0 (wpAny_isInstance (T:="StopIteration") (b:=true) ⟨_,aI4 _ rfl,rfl⟩ isSubtype_stop ?u2);exact aI1 (v _ (((Heap.SameBut.update ..).extBut.push _).push _))
end
theorem walks {prog:Program} {w:World} {A:Around} (hh:A.handled=none) (I d:Addr) (c:d ≠ I) (es:Array DictEntry) (g:Nat) :
  Walks prog w A I [I,d] [I] es.size (fun i v=>(es[i]?).map (·.key)=some v) (fun i h=>h.IsKeyIter I d i es.size g/\Raw h d es g) where
 sub:=fun b hb=>by simp at hb;simp [hb]
 frame:=fun _ _ _ st f=>⟨st.1.at fun o e=>f I (by simp) o e,st.2.keep fun o e=>f d (by simp) o e⟩
 item:=fun i s Q E hi st a=>avm st.1 st.2 hi fun h' nx sb=>a _ h' s.toks (by rw [aA4 hi];rfl) ⟨nx,st.2.keep fun o e=>sb.extBut d o c e⟩ fun b o hb e=>sb.extBut b o (fun z=>hb (by simp [z])) e
 done:=fun s Q E st a=>aye hh st.1 st.2 fun h' j=>a h' s.toks fun b o hb e=>j b o (fun z=>hb (by simp [z])) e
 self:=fun _ _ _ _ st a=>wpAny_pyIter_keyiter st.1 a
end DI
namespace DI
open PySem PySem.W PyProof.Rows
section
variable {prog:Program} {w:World} {A:Around} {E:Value->Shared->Prop} {s:Shared}
theorem src (d:Addr) (es:Array DictEntry) (a:Nat) (hd:(d == sysModules)=false):KdlSrc prog w "dict" d d es.size (fun i v=>(es[i]?).map (·.key)=some v) (fun h=>Raw h d es a) where
 type:=fun s r=>r.ty
 there:=fun h r=>let ⟨o,e,_⟩:=r;⟨aI3 e,aI3 e⟩
 keep:=fun h h' r k=>r.keep fun o e=>k d (.inl rfl) o e
 notList:=by decide
 notTuple:=by decide
 hint:=fun A E s Q r q=>kdl_hint_dict r.ty q
 iter:=fun A s hh r=>⟨{ cls:=.type "dict_keyiterator",data:=.fields #[.ref d,.int 0 0,.int es.size 0,.int a 0] },fun i h=>h.IsKeyIter s.heap.objs.size d i es.size a/\Raw h d es a,fun E Q q=>avl hd r q,
  walks hh s.heap.objs.size d (by obtain ⟨o,e,_⟩:=r;exact aB5 (aI3 e)) es a,⟨_,aI4 _ rfl,rfl,rfl⟩,r.keep fun o e=>aI2 _ e⟩
theorem collect_src {T:String} {r d:Addr} {n:Nat} {P:Nat->Value->Prop} {j:Heap->Prop} {Q:List Value->Shared->Prop} (K:KdlSrc prog w T r d n P j) (hh:A.handled=none) (hok:j s.heap) (hn:n<=sizeLine)
  (p:∀ h' i (f:Array Value),(∀ b o,s.heap.get? b=some o->h'.get? b=some o)->s.heap.objs.size<=h'.objs.size->ItemsOf P f n->Q f.toList { s with heap:=h',toks:=i }):wpAny (model prog w) A (collect (.ref r)) Q E s:=by
 unfold collect
 refine aI0 (wpAny_runValue (aJ4 PySem.F.entry_proto_collect ?a1))
 case a1 =>
  rw [aI9 PySem.F.plain_proto_collect _];show wpAny _ A.in1 (newList [] >>= fun l=>again (.builtin "list.__iadd__" ⟨[l,.ref r],[]⟩)) _ _ s
  refine aI0 (aI8 (aI1 ⟨plainId_quiet PySem.F.plain_list_iadd _,aJ4 PySem.F.entry_list_iadd ?a2⟩))
  case a2 =>
   rw [aI9 PySem.F.plain_list_iadd _];show wpAny _ A.in1 (Builtin.List.listExtendWith (.ref s.heap.objs.size) (.ref r) (.ref s.heap.objs.size)) _ _ _
   have m:(s.heap.push { cls:=.type "list",data:=.seq ([]:List Value).toArray }).get? s.heap.objs.size=some { cls:=.type "list",data:=.seq #[] 0 }:=aI4 _ rfl
   obtain ⟨x,q⟩:=K.there _ hok
   refine kdl_extend (R:=wants (fun v u=>wpAny (model prog w) A (match v with | .ref a=>(do match (← load a).data with | .seq xs _=>pure xs.toList | _=>unsupported "internal:collect") | _=>unsupported "internal:collect") Q E u) E) (s:={ s with heap:=s.heap.push { cls:=.type "list",data:=.seq ([]:List Value).toArray } }) K hh (K.keep _ _ hok fun b _ o e=>aI2 _ e) s.heap.objs.size (Nat.ne_of_gt x) (Nat.ne_of_gt q) _ 0 m (fun h' i f c k h g=>?a3) hn
   case a3 =>
    show wpAny (model prog w) A _ Q E _
    refine aI0 (wpAny_load h ?a4)
    case a4=>exact aI1 (p h' i f (fun b o e=>k b o (aB5 (aI3 e)) (aI2 _ e)) (aF7 (aI3 h)) g)
end
end DI
namespace TS
open PySem PySem.W PyProof.Rows
section
variable {prog:Program} {w:World} {A:Around} {E:Value->Shared->Prop} {s:Shared}
theorem sorted_gen {l:Addr} {Ok:List Value->Prop} {Q:Value->Shared->Prop}
  (j:∀ (D:List Value->Shared->Prop),(∀ vs h d,(∀ b o,s.heap.get? b=some o->h.get? b=some o)->s.heap.objs.size<=h.objs.size->Ok vs->D vs { s with heap:=h,toks:=d })->wpAny (model prog w) A.in1 (collect (.ref l)) D E s)
  (c:∀ vs,Ok vs->vs.length<=sizeLine)
  (p:∀ vs,Ok vs->2<=vs.length->∀ h' d,(∀ b o,s.heap.get? b=some o->h'.get? b=some o)->∃ κ S R,(∀ (Q:SortKind->Shared->Prop),Q κ { s with heap:=h',toks:=d }->wpAny (model prog w) A.in1.in1 (keyKind' vs.toArray) Q E { s with heap:=h',toks:=d }) /\
   Cmp (model prog w) A.in1.in1 E { s with heap:=h',toks:=d } κ S R/\(∀ v∈vs,S (v,v))/\∀ out:List Value,out.Perm vs->out.Pairwise (fun x y=>R (y,y) (x,x)=false) ->
    ∀ a h' d e,(∀ b o,s.heap.get? b=some o->h'.get? b=some o)->s.heap.objs.size<=a->h'.get? a=some (seqObj "list" out.toArray e)->Q (.ref a) { s with heap:=h',toks:=d })
  (h:∀ vs,Ok vs->vs.length < 2->∀ a h' d e,(∀ b o,s.heap.get? b=some o->h'.get? b=some o)->s.heap.objs.size<=a->h'.get? a=some (seqObj "list" vs.toArray e)->Q (.ref a) { s with heap:=h',toks:=d }) :
  wpAny (model prog w) A (call (.builtin "sorted") [.ref l]) Q E s:=by
 refine Calls.call_function_entry kind_sorted plain_sorted entry_sorted (args_sorted1 _) ?_
 unfold Builtin.«sorted»
 refine aI0 (m:=checkCount "sorted" 1 1 _) (aI1 (aI0 (j _ fun vs g d kp hsz z=>?_)))
 have c:=c vs z
 refine aI0 (wpAny_newList ?_ c)
 have f:(g.push (seqObj "list" vs.toArray 0)).get? g.objs.size=some (seqObj "list" vs.toArray 0):=aI4 _ rfl
 have keep:∀ b o,s.heap.get? b=some o->(g.push (seqObj "list" vs.toArray 0)).get? b=some o:=fun b o q=>aI2 _ (kp b o q)
 refine aI0 (aI5 (aJ1 slot_list_sort ⟨_,f,rfl⟩ entry_list_sort ?body (args_list_sort _)))
 case body =>
  have fin:∀ out:List Value,∃ e,(sortedHeap (g.push (seqObj "list" vs.toArray 0)) g.objs.size vs out.toArray).get? g.objs.size=some (seqObj "list" out.toArray e):=fun out=>sortedHeap_at (n:=0) f
  have old:∀ (out:List Value) b o,s.heap.get? b=some o->(sortedHeap (g.push (seqObj "list" vs.toArray 0)) g.objs.size vs out.toArray).get? b=some o:=fun out b o e=>by
   have lt:=aI3 (kp b o e)
   rw [sortedHeap_old (aB5 lt) (by rw [size_push'];exact aF0 lt)];exact keep b o e
  refine agr (s:={ s with heap:=g.push (seqObj "list" vs.toArray 0),toks:=d }) f c (fun u h' G=>?_) fun r=>?_
  ·obtain ⟨κ,S,R,H,C,F,i⟩:=p vs z u h' d fun b o e=>G b o (aB5 (aI3 (kp b o e))) (keep b o e)
   refine ⟨κ,S,R,H,C,F,fun out I J=>⟨_,rfl,aI1 ⟨_,rfl,?_⟩⟩⟩
   obtain ⟨e,B⟩:=fin out
   exact i out I J _ _ _ e (old out) hsz B
  ·obtain ⟨e,B⟩:=fin vs
   exact ⟨_,rfl,aI1 ⟨_,rfl,h vs z r _ _ _ e (old vs) hsz B⟩⟩
end
end TS
namespace L2
open PySem PySem.Spec PyProof.Rows
section
variable {X:Cx} {pins:List (Addr × Obj)} {σ:St} {H:Hp} {s:Shared} {h':Heap}
end
section
variable {X:Cx} {elts:List Expr} {k:Nat} {tpos:Pos}
end
section
variable {X:Cx} {elts:List Expr} {k:Nat} {tpos:Pos}
end
theorem akp:∀ {xs:List V} {us:List Value},xs.length=us.length->(∀ (i:Nat) v u,xs[i]?=some v->us[i]?=some u->RelV v u)->Vals xs us
 | [],[],_,_ => .nil
 | [],_ :: _,h,_=>by simp at h
 | _ :: _,[],h,_=>by simp at h
 | x :: xs,u :: us,h,k => .cons (k 0 x u rfl rfl) (akp (by simpa using h) fun i v w b a=>k (i+1) v w (by simpa using b) (by simpa using a))
theorem aoq (prog:Program) (w:World) (A:Around) {bs:List Bool} {us:List Value} (r:Vals (bs.map V.bl) us):TruthOf prog w A (fun i v=>us.toArray[i]?=some v) (fun i=>bs.getD i false):=by
 intro i v s Q E c h
 have b:us[i]?=some v:=by simpa using c
 have hi:i < us.length:=(aA1.mp b).1
 have hb:i < bs.length:=by have:=r.length;simp at this;lia
 obtain ⟨u,a,d⟩:=r.get (i:=i) (x:=.bl bs[i]) (by simp [hb])
 rw [b] at a;cases a
 cases (show v=Value.bool bs[i] from d)
 have e:bs.getD i false=bs[i]:=by simp [List.getD,hb]
 have h':Q (bs.getD i false) s:=h
 rw [e] at h'
 exact aJ2 h'
section
variable {X:Cx}
theorem asz (bs:List Bool):((List.range bs.length).all fun i=>bs.getD i false)=bs.all id:=by
 rw [aH0,aE6,aE6]
 constructor
 ·intro h b hb
  obtain ⟨i,hi,e⟩:=aG8.mp hb
  have:=h i (aB8.mpr hi)
  simp [List.getD,hi,e] at this
  exact this
 ·intro h i hi
  have a:=aB8.mp hi
  have:=h bs[i] (List.getElem_mem a)
  simp [List.getD,a];exact this
def rAll (K:Frag):List V->Hp->VK->Prop:=fun xs H Q=>∃ (a:Addr) (bs:List Bool),xs=[.ref a]/\SqL K H a (bs.map V.bl)/\Q (.bl (bs.all id)) H
theorem alc (g:X.calm=true):abd X (.builtin "all") (rAll X.K):=by
 intro pins s σ H xs us Q I r h
 obtain ⟨a,bs,rfl,ha,q⟩:=h
 obtain ⟨u,rfl,i⟩:=ac0 r
 cases i
 obtain ⟨its,d,c,_⟩:=I.list ha
 have f:a < s.heap.objs.size:=by obtain ⟨o,n,e,_⟩:=c;exact aI3 e
 have hz:its.toArray.size=bs.length:=by have:=d.length;simp at this;simp [this]
 refine call_all_walk (aJ3 c.isList ⟨_,[s.heap.objs.size,a],_,_,_,_,_,rfl,Walks.list (A:=X.A.in1) (I.ok.hd g) _ a (aB5 f) its.toArray,⟨⟨_,aI4 _ rfl,rfl,rfl⟩,c.isList.push _⟩,aoq _ _ _ d,fun j l kp=>?_⟩)
 rw [hz,asz]
 refine ⟨.bl _,H,I.kept fun b o e=>kp b o (fun z=>?_) (aI2 _ e),rfl,q⟩
 exact absurd (aI3 e) (by rw [aC1.mp z];exact aF6 _)
def anm (K:Frag):List V->Hp->VK->Prop:=fun xs H Q=>∃ p ys,xs=[.ref p]/\(SqL K H p ys\/SqT K H p ys)/\∀ l,H l=none->Q (.ref l) (upd H l (.lst ys))
theorem age:abd X (.type "list") (anm X.K):=amj
def ajr (ta:TA):TE:=fun σ H Q=>ta σ H fun vs H1=>∃ j:Int,vs=[.int j]/\0<=j/\j<=1000000/\∀ l,H1 l=none->Q (.ref l) (upd H1 l (.lst ((List.range j.toNat).map fun (i:Nat)=>V.int (i:Int))))
theorem ann {a:Expr} {z:TA} {M p2 x d:Pos} (N:Gl X "list") (hm:X.mg "list" = none) (p:Gl X "range") (r:X.mg "range" = none) (K:X.calm=true) (ha:PA X [a] z) (J:starEach [a] X.env=[(false,eval a X.env)]:=by rfl)
  (l:starEach [.Call (.Name "range" p2) [a] [] d] X.env=[(false,eval (.Call (.Name "range" p2) [a] [] d) X.env)]:=by rfl):PE X (.Call (.Name "list" M) [.Call (.Name "range" p2) [a] [] d] [] x) (ajr z):=by
 intro pins s σ H Q I h
 refine Call_ (aeq I N hm afw (PyProof.Rows.callWith_type1 ?_ l rfl))
 rw [l]
 refine Calls.spliced_cons (Call_ (aeq I p r boot_range (PyProof.Rows.callWith_type1 (thn (ha d pins s σ H _ I h) fun us s1 ⟨vs,S,y,D,j,G,T,R,q⟩=>?_) J rfl)))
 subst G
 obtain ⟨u,rfl,t,rfl⟩:=ac0 D
 refine call_range_1 (Calls.spliced_nil ?_)
 have O:IsRange (s1.heap.push { cls:=.type "range",data:=.fields #[.int 0 s1.toks,.int j t,.int 1 (s1.toks+1)] }) s1.heap.objs.size 0 j 1 s1.toks t (s1.toks+1):=aI4 _ rfl
 have hn:Builtin.Range.rangeSize 0 j 1=((j.toNat:Nat):Int):=by rw [rangeSize_one];split <;> lia
 refine call_list_range (s:={ s1 with heap:=s1.heap.push { cls:=.type "range",data:=.fields #[.int 0 s1.toks,.int j t,.int 1 (s1.toks+1)] },toks:=s1.toks+1+1 }) (y.ok.hd K) O (small_one (by lia) (by lia) (by lia) (by lia)) hn (by lia) fun B L m c kp A items=>?_
 have F:∀ b o,s1.heap.get? b=some o->B.get? b=some o:=fun b o e=>kp b o (aI2 _ e)
 have f:s1.heap.objs.size<=(s1.heap.push { cls:=.type "range",data:=.fields #[.int 0 s1.toks,.int j t,.int 1 (s1.toks+1)] }).objs.size:=by rw [aJ0];exact Nat.le_succ _
 refine ⟨.ref _,_,y.laid (t':=L) (o:=.lst ((List.range j.toNat).map fun (i:Nat)=>V.int (i:Int))) F f ?_,rfl,q _ (y.hok.fresh f)⟩
 refine ⟨by rw [aA3,List.length_range];exact aF7 (VL.big (by lia)),m.toList,c,?_,by simpa using A⟩
 obtain ⟨E,w⟩:=items
 refine akp (by simp [E]) fun i v u n C=>?_
 have g:m[i]?=some u:=by simpa using C
 obtain ⟨t',P⟩:=w i u g
 rw [aA5] at n
 have hi:i < j.toNat:=by
  have:=(Array.getElem?_eq_some_iff.mp g).1
  lia
 rw [aA0 (by simpa using hi)] at n
 simp at n
 subst n
 exact ⟨t',by rw [P];simp⟩
end
section
variable {X:Cx} {pins:List (Addr × Obj)} {σ:St} {H:Hp} {s:Shared}
end
section
variable {X:Cx} {tg:Expr}
def ah1:List V->Hp->VK->Prop:=fun xs H Q=>∃ (a:Addr) (kvs:List (List Key × V)) (kss:List (List Int)),xs=[.ref a]/\H a=some (.dT kvs)/\kvs.map (·.1)=kss.map (fun ns=>ns.map Sum.inl)/\(∀ ns∈kss,ns ≠ []) /\
 ∀ (vs:List V) (p:Addr),(∀ v∈vs,TupI H v)->(vs.map (kH H)).Perm kss->vs.Pairwise (fun x y=>HT.lexLt (kH H y) (kH H x)=false)->H p=none->Q (.ref p) (upd H p (.lst vs))
theorem aps {H:Hp}:∀ {kvs:List (List Key × V)} {xs:List (List Key × Addr × Value)} {a:List (List Int)},KT H kvs xs->kvs.map (·.1)=a.map (fun ns=>ns.map Sum.inl)->(∀ ns∈a,ns ≠ []) ->
  (∀ v∈xs.map (fun q=>V.ref q.2.1),TupI H v)/\(xs.map (fun q=>V.ref q.2.1)).map (kH H)=a
 | _,_,[],.nil,_,_=>⟨fun v b=>by simp at b,rfl⟩
 | _,_,_ :: _,.nil,h,_=>by simp at h
 | _,_,[],.cons _ _,h,_=>by simp at h
 | p :: kvs,q :: xs,ns :: a,.cons r t,h,hn=>by
  simp only [aD0,List.cons.injEq] at h
  obtain ⟨f,c⟩:=aps t h.2 fun d hm=>hn d (aB4 _ hm)
  have e:H q.2.1=some (.tup (ns.map V.int)):=by
   rw [r.2.1,h.1,aD8];rfl
  refine ⟨fun v b=>?_,?_⟩
  ·rcases aA8.mp b with rfl | b
   ·exact ⟨_,ns,rfl,e,hn ns aB7⟩
   ·exact f v b
  ·rw [aD0,aD0,al9 e,c]
theorem afo (U:X.calm=true):abd X (.builtin "sorted") ah1:=by
 intro pins s σ H xs us Q I r h
 obtain ⟨a,kvs,a1,rfl,hH,hk,C,q⟩:=h
 obtain ⟨u,rfl,ru⟩:=ac0 r
 cases ru
 obtain ⟨z,y,ys,n,o,es,ep,R,m,S,M,h5⟩:=(show ObjOk X.prog X.w H s.heap a (.dT kvs) from I.hok a _ hH)
 obtain ⟨D,Z⟩:=aps n hk C
 have hz:es.size=ys.length:=by
  have Y:es.toList.length=ys.length:=by rw [M];simp
  simpa using Y
 have f:ys.length<=sizeLine:=by have:=Paired.length n;lia
 let c:List Value:=ys.map fun q => .ref q.2.1
 have L:Vals (ys.map fun q=>V.ref q.2.1) c:=akp (by simp [c]) fun i v u d B=>by
  rw [aA5] at d B
  cases e:ys[i]? with
  | none=>rw [e] at d;cases d
  | some q=>rw [e] at d B;cases d;cases B;rfl
 obtain ⟨b1,N⟩:=ag9 L D
 have fin:∀ out:List Value,out.Perm c->(out.map adt).Pairwise (fun x y=>HT.lexLt (kH H y) (kH H x)=false)->∀ p m j e,(∀ b o,s.heap.get? b=some o->m.get? b=some o)->s.heap.objs.size<=p->m.get? p=some (seqObj "list" out.toArray e)->EP X pins σ Q (.ref p) { s with heap:=m,toks:=j }:=by
  intro out g E p m j e kp hsz he
  have d:Vals (out.map adt) out:=ag8 fun u B=>b1 u (g.mem_iff.mp B)
  refine ⟨.ref p,_,I.laid (t':=j) (o:=.lst (out.map adt)) kp hsz ?_,rfl,q _ _ (fun v J=>?_) ?_ E (I.hok.fresh hsz)⟩
  ·refine ⟨by rw [aA3,g.length_eq];simp [c];exact f,out,e,d,by rw [he]⟩
  ·have:=(g.map adt).mem_iff.mp J
   rw [N] at this;exact D v this
  ·have:=(g.map adt).map (kH H)
   rw [N,Z] at this;exact this
 refine TS.sorted_gen (Ok:=fun vs=>vs=c) (fun Qc G=>DI.collect_src (DI.src a es ep y) (I.ok.hd U) ⟨o,R,m,S⟩ (by lia) fun h' j l kp hsz items=>G _ h' j kp hsz ?_) (fun vs e=>by subst e;simp [c];exact f) (fun vs e a0 h' j kp=>?_) fun vs e F=>?_
 ·obtain ⟨i1,i2⟩:=items
  apply aF4
  intro i
  simp only [c,aA5]
  by_cases hi:i < ys.length
  ·have ha:l[i]?=some l[i]:=aA4 (by lia)
   have:(es[i]?).map (·.key)=some l[i]:=i2 i _ ha
   have O:es[i]?=some es[i]:=aA4 (by lia)
   rw [O] at this
   have K:es.toList[i]?=some es[i]:=by rw [aD4];exact O
   rw [M,aA5,aA0 hi] at K
   rw [aA0 hi]
   simp at this K
   rw [aD4,ha,← this,← K];rfl
  ·rw [aE9.mpr (by simp;lia),aE9.mpr (by lia)];rfl
 ·subst e
  obtain ⟨⟨fs,k1,k2,P⟩,k4⟩:=aik I kp L D
  have A:(Value.type "int" != Value.type "tuple")=true:=by rfl
  refine ⟨tuples' true,TS.tS h' (fun a=>kH H (.ref a)),TS.tR (fun a=>kH H (.ref a)),fun Q' G=>?_,TS.cmp_tups (s:={ s with heap:=h',toks:=j }) (fun a=>kH H (.ref a)),fun v d=>?_,fun out g E=>fin out g ?_⟩
  ·refine PySem.W.kat_kind (T:=.type "int") (s:={ s with heap:=h',toks:=j }) k1 (by lia) (fun v d=>?_) (by rfl) ?_
   ·obtain ⟨i,t,rfl⟩:=P v d
    exact .now
   ·rw [A];exact G
  ·obtain ⟨a,e,ht⟩:=k4 v d
   exact ⟨rfl,a,e,ht⟩
  ·rw [aF3]
   refine aH2 ?_ E
   intro x y hx hy hr
   obtain ⟨ax,rfl⟩:=b1 x (g.mem_iff.mp hx)
   obtain ⟨ay,rfl⟩:=b1 y (g.mem_iff.mp hy)
   exact hr
 ·subst e
  exact fin c (List.Perm.refl _) (anb (by rw [aA3];exact F))
end
end L2
namespace VL
open PySem PySem.Spec L2
section
variable {B:Bs} {env:En} {QI:List PyData->En->Prop} {QO:Sl->En->Prop} {Q':PyData->En->Prop} {K:Frag} {i:Nat} {ta:TA}
theorem RpT.len {G:Hp}:∀ {kvs:List (List Key × V)} {es:List (List Key × PyData)},RpT G kvs es->kvs.length=es.length/\kvs.map (·.1)=es.map (·.1)
 | _,_,.nil=>⟨rfl,rfl⟩
 | _,_,.cons _ t=>by
  obtain ⟨b,a⟩:=RpT.len t
  exact ⟨by simp [b],by simp [a]⟩
@[reducible] def tkD (ks:List Key):PyData:=.tuple (ks.map kD)
@[reducible] def tiD (ns:List Int):PyData:=.tuple (ns.map .int)
def lexS (pss:List (List Int)):Prop:=pss.Pairwise fun x y=>HT.lexLt y x=false
theorem aio {G H:Hp} (ft:FT G H):∀ {vs:List V},(∀ v∈vs,TupI H v)->Rps G vs ((vs.map (kH H)).map tiD)
 | [],_ => .nil
 | v :: vs,h=>by
  obtain ⟨t,ns,rfl,e,_⟩:=h v aB7
  rw [aD0,aD0,al9 e]
  have:(ns.map V.int)=(ns.map (fun i=>(Sum.inl i:Key))).map kV:=by rw [aD8];rfl
  refine .cons (.tup ?_ (Rps.ints ns)) (aio ft fun u a=>h u (aB4 _ a))
  rw [this];exact ft t _ (by rw [← this];exact e)
theorem aia {G H:Hp} (gh:Same G H):∀ {vs:List V} {pss:List (List Int)},Rps G vs (pss.map tiD)->(∀ ns∈pss,ns ≠ [])->(∀ v∈vs,TupI H v)/\vs.map (kH H)=pss
 | _,[],.nil,_=>⟨fun v c=>by simp at c,rfl⟩
 | v :: vs,ns :: pss,.cons r t,hn=>by
  obtain ⟨f,b⟩:=aia gh t fun d hm=>hn d (aB4 _ hm)
  cases r with
  | tup h rs =>
   have:=Rps.ints_inv rs
   subst this
   have e:=gh _ _ h
   refine ⟨fun u a=>?_,by rw [aD0,al9 e,b]⟩
   rcases aA8.mp a with rfl | a
   ·exact ⟨_,ns,rfl,e,hn ns aB7⟩
   ·exact f u a
theorem as0 {pss:List (List Int)} (hn:∀ ns∈pss,ns ≠ []) (h:EvA B ta env fun ds e=>ds=[.list (pss.map tiD)]/\∀ b:List (List Int),b.Perm pss->lexS b->QO (.own (OL (b.map tiD))) e):EvO B (tCB (ajh K) ta) env QO:=fun σ G H F Q I k =>
 h σ G H F _ I fun vs A g i ds w c z m j=>by
  obtain ⟨x,u⟩:=j
  subst x
  cases m with
  | cons r t =>
   cases t
   cases r with
   | @lst a us _ ha rs =>
    obtain ⟨f,q⟩:=aia c.gh rs hn
    refine ⟨a,us,rfl,SqL.of (c.gh _ _ ha),f,fun l p d s hf=>?_⟩
    have n:∀ v∈l,TupI g v:=fun v y=>f v (d.mem_iff.mp y)
    have o:=Out.newL c.gh hf (aio c.ft n)
    refine k _ _ _ i _ _ w (c.out o).1 (z.trans o.gg) (c.out o).2 (u _ ?_ ?_)
    ·have:=d.map (kH g);rw [q] at this;exact this
    ·unfold lexS;rw [aF3];exact s
theorem aq2 {es:List (List Key × PyData)} {b:List (List Int)} (l:Has env i (OT es)) (f:es.map (·.1)=b.map (fun ns=>ns.map Sum.inl)) (hn:∀ ns∈b,ns ≠ []) (q:∀ c:List (List Int),c.Perm b->lexS c->QO (.own (OL (c.map tiD))) env):EvO B (tCB ah1 (aa5 (tVar i) tNil)) env QO:=fun σ G H F Q I k=>by
 obtain ⟨v,m,a,kvs,rfl,ha,rt,hf⟩:=I.has l
 obtain ⟨s,n⟩:=RpT.len rt
 refine ⟨_,m,a,kvs,b,rfl,ha,by rw [n,f],hn,fun r p h g j d=>?_⟩
 have o:=Out.newL I.gh d (aio I.ft h)
 refine k _ _ _ F _ _ env (I.out o).1 o.gg (I.out o).2 (q _ g ?_)
 unfold lexS;rw [aF3];exact j
end
section
variable {B:Bs} {env:En} {QO:Sl->En->Prop} {Q':PyData->En->Prop} {K:Frag} {i:Nat} {ta:TA} {R:Sl->Prop}
theorem Rps.bools_inv {G:Hp}:∀ {bs:List Bool} {vs:List V},Rps G vs (bs.map PyData.bool)->vs=bs.map V.bl
 | [],_,.nil=>rfl
 | b :: bs,_,.cons r t=>by
  cases r
  rw [Rps.bools_inv t];rfl
theorem apt {bs:List Bool} (h:R (.st (.bool (bs.all id)))):OpA (rAll K) [.list (bs.map .bool)] R:=fun G H vs Q gh rs k=>by
 cases rs with
 | cons r t =>
  cases t
  cases r with
  | lst ha ra =>
   have:=Rps.bools_inv ra
   subst this
   exact ⟨_,bs,rfl,SqL.of (gh _ _ ha),k _ _ _ _ _ (Out.refl gh (.bl _)) h⟩
theorem avn {ds:List PyData} (h:R (.own (OL ds))):OpA (anm K) [.list ds] R:=fun G H vs Q gh rs k=>by
 cases rs with
 | cons r t =>
  cases t
  cases r with
  | lst ha ra=>exact ⟨_,_,rfl,.inl (SqL.of (gh _ _ ha)),fun p a=>k _ _ _ _ _ (Out.newL gh a ra) h⟩
theorem as4 {G:Hp} (n:Nat):Rps G ((List.range n).map fun (i:Nat)=>V.int (i:Int)) (rngD 0 n):=by
 unfold rngD
 refine ank (by simp) fun i v d a hd=>?_
 rw [aA5] at a hd
 cases e:(List.range n)[i]? with
 | none=>rw [e] at a;cases a
 | some m=>rw [e] at a hd;cases a;cases hd;show Rp G (.int (m:Int)) (.int (0+(m:Int)));rw [Int.zero_add];exact .int _
theorem ald (h:EvA B ta env fun ds e=>∃ j:Int,ds=[.int j]/\0<=j/\j<=1000000/\QO (.own (OL (rngD 0 j.toNat))) e):EvO B (ajr ta) env QO:=fun σ G H F Q I k =>
 h σ G H F _ I fun vs r s b ds l a n f c=>by
  obtain ⟨j,m,q,d,i⟩:=c
  subst m
  obtain rfl:vs=[V.int j]:=Rps.ints_inv (ns:=[j]) f
  refine ⟨j,rfl,q,d,fun p g=>?_⟩
  have o:=Out.newL a.gh g (as4 j.toNat)
  exact k _ _ _ b _ _ l (a.out o).1 (n.trans o.gg) (a.out o).2 i
theorem avo (h:EvA B ta env fun ds e=>∃ j:Int,ds=[.int j]/\0<=j/\j<=1000000/\Q' (.list (rngD 0 j.toNat)) e):Ev B (ajr ta) env Q':=abo (ald fun σ G H F Q I k=>h σ G H F Q I fun vs G' H' F' ds f d g r ⟨j,a,b,c,q⟩=>k vs G' H' F' ds f d g r ⟨j,a,b,c,adj q⟩)
end
section
variable {κ:Type} [DecidableEq κ] {α:Type}
def valD (es:List (κ × α)) (k : κ):Option α:=(es.find? fun e=>decide (e.1=k)).map (·.2)
def putD (es:List (κ × α)) (k : κ) (d : α):List (κ × α):=if (es.any fun e=>decide (e.1=k))=true then es.map (fun e=>if e.1=k then (e.1,d) else e) else es ++ [(k,d)]
end
theorem RpK.val {G:Hp} {k:Key}:∀ {kvs:List (Key × V)} {es:List (Key × PyData)},RpK G kvs es->(valD es k=none->valV kvs k=none)/\∀ d,valD es k=some d->∃ v,valV kvs k=some v/\Rp G v d
 | _,_,.nil=>⟨fun _=>rfl,fun d h=>by cases h⟩
 | _,_,.cons (k:=k') r t=>by
  obtain ⟨f,a⟩:=RpK.val (k:=k) t
  by_cases e:k'=k
  ·refine ⟨fun h=>by simp [valD,e] at h,fun d h=>?_⟩
   simp [valD,e] at h
   subst h
   exact ⟨_,by simp [valV,e],r⟩
  ·refine ⟨fun h=>?_,fun d h=>?_⟩
   ·simp [valV,e];simp [valD,e] at h
    have:=f (by simp [valD];exact h)
    simpa [valV] using this
   ·obtain ⟨v,c,b⟩:=a d (by simpa [valD,e] using h)
    exact ⟨v,by simpa [valV,e] using c,b⟩
theorem RpK.any {G:Hp} {k:Key}:∀ {kvs:List (Key × V)} {es:List (Key × PyData)},RpK G kvs es->(kvs.any fun e=>decide (e.1=k))=es.any fun e=>decide (e.1=k)
 | _,_,.nil=>rfl
 | _,_,.cons r t=>by simp [RpK.any t]
theorem RpK.map {G:Hp} {k:Key} {v:V} {d:PyData} (h:Rp G v d):∀ {kvs:List (Key × V)} {es:List (Key × PyData)},RpK G kvs es->RpK G (kvs.map fun e=>if e.1=k then (e.1,v) else e) (es.map fun e=>if e.1=k then (e.1,d) else e)
 | _,_,.nil => .nil
 | _,_,.cons (k:=k') r t=>by
  by_cases e:k'=k
  ·simp only [aD0,e,if_true];exact .cons h (RpK.map h t)
  ·simp only [aD0,e,if_false];exact .cons r (RpK.map h t)
theorem RpK.append {G:Hp}:∀ {a b:List (Key × V)} {c d:List (Key × PyData)},RpK G a c->RpK G b d->RpK G (a ++ b) (c ++ d)
 | _,_,_,_,.nil,s=>s
 | _,_,_,_,.cons r t,s => .cons r (RpK.append t s)
theorem RpK.put {G:Hp} {k:Key} {v:V} {d:PyData} (h:Rp G v d) {kvs:List (Key × V)} {es:List (Key × PyData)} (r:RpK G kvs es):RpK G (putK kvs k v) (putD es k d):=by
 unfold putK putD
 rw [r.any]
 split
 ·exact r.map h
 ·exact r.append (.cons h .nil)
theorem RpT.any {G:Hp} {k:List Key}:∀ {kvs:List (List Key × V)} {es:List (List Key × PyData)},RpT G kvs es->(kvs.any fun e=>decide (e.1=k))=es.any fun e=>decide (e.1=k)
 | _,_,.nil=>rfl
 | _,_,.cons r t=>by simp [RpT.any t]
theorem RpT.map {G:Hp} {k:List Key} {v:V} {d:PyData} (h:Rp G v d):∀ {kvs:List (List Key × V)} {es:List (List Key × PyData)},RpT G kvs es->RpT G (kvs.map fun e=>if e.1=k then (e.1,v) else e) (es.map fun e=>if e.1=k then (e.1,d) else e)
 | _,_,.nil => .nil
 | _,_,.cons (k:=k') r t=>by
  by_cases e:k'=k
  ·simp only [aD0,e,if_true];exact .cons h (RpT.map h t)
  ·simp only [aD0,e,if_false];exact .cons r (RpT.map h t)
theorem RpT.append {G:Hp}:∀ {a b:List (List Key × V)} {c d:List (List Key × PyData)},RpT G a c->RpT G b d->RpT G (a ++ b) (c ++ d)
 | _,_,_,_,.nil,s=>s
 | _,_,_,_,.cons r t,s => .cons r (RpT.append t s)
theorem RpT.put {G:Hp} {k:List Key} {v:V} {d:PyData} (h:Rp G v d) {kvs:List (List Key × V)} {es:List (List Key × PyData)} (r:RpT G kvs es):RpT G (putK kvs k v) (putD es k d):=by
 unfold putK putD
 rw [r.any]
 split
 ·exact r.map h
 ·exact r.append (.cons h .nil)
theorem RpK.length {G:Hp}:∀ {kvs:List (Key × V)} {es:List (Key × PyData)},RpK G kvs es->kvs.length=es.length
 | _,_,.nil=>rfl
 | _,_,.cons _ t=>by simp [RpK.length t]
theorem ajs {G:Hp} {v:V} {k:Key} (r:Rp G v (kD k)):v=kV k:=by
 cases k with
 | inl i=>cases r;rfl
 | inr x=>cases r;rfl
theorem ano {G:Hp}:∀ {a:List Key} {vs:List V},Rps G vs (a.map kD)->vs=a.map kV
 | [],_,.nil=>rfl
 | k :: a,_,.cons r t=>by rw [ajs r,ano t];rfl
section
variable {B:Bs} {env:En} {QO:Sl->En->Prop} {Q':PyData->En->Prop} {D':VEnds} {i:Nat} {te ty tv td:TE}
theorem as6 (q:QO (.own (OT [])) env):EvO B amn env QO:=fun σ G H F Q I k p a=>by
 have o:=Out.newDT (ds:=[]) I.gh a .nil
 exact k _ _ _ F _ _ env (I.out o).1 o.gg (I.out o).2 q
theorem as7 {es0:List (List Key × PyData)} (h:Ev B tv env fun d m=>Has m i (OT es0)/\Ev B ty m fun y e2=>∃ es j,e2[i]?=some (some (.own (OT es)))/\y=tkD j/\es.length<=999999/\D'.nx (e2.set i (some (.own (OT (putD es j d)))))):EvS B (ai6 (tVar i) ty tv) D' env:=fun σ G H F D I r =>
 h σ G H F _ I fun v x L w d m u M C z=>by
  obtain ⟨E,J⟩:=z
  obtain ⟨v0,n,a,kvs,rfl,ha,rt,_⟩:=u.has E
  refine ⟨_,n,J σ x L w _ u fun P A H2 F2 y e2 p q K ⟨es,j,g,O,Q,N⟩=>?_⟩
  subst O
  obtain ⟨R,f,⟨S,s,o,l,c,hf⟩,hb⟩:=p.sl i _ g
  rw [n] at f;cases f;cases o
  cases K with
  | tup hk rs =>
   have:=ano rs
   subst this
   refine ⟨a,_,rfl,DPut.t l (p.gh _ _ hk) (by rw [(RpT.len c).1];exact big (by lia)),?_⟩
   exact r.nx σ A _ _ _ (p.upd1 (A':=OT (putD es j d)) g (.inl rfl) n hf ⟨a,_,rfl,aah,c.put (C.same q),fun b=>Iff.rfl⟩) (M.trans q) N
theorem as8 {es0:List (Key × PyData)} (h:Ev B tv env fun d l=>Has l i (OD es0)/\Ev B ty l fun y e2=>∃ es k,e2[i]?=some (some (.own (OD es)))/\y=kD k/\es.length<=999999/\D'.nx (e2.set i (some (.own (OD (putD es k d)))))):EvS B (ai6 (tVar i) ty tv) D' env:=fun σ G H F D I r =>
 h σ G H F _ I fun v w L u d l q M A x=>by
  obtain ⟨C,E⟩:=x
  obtain ⟨v0,m,a,kvs,rfl,ha,rt,_⟩:=q.has C
  refine ⟨_,m,E σ w L u _ q fun P z H2 F2 y e2 s o K ⟨es,J,g,O,Q,N⟩=>?_⟩
  subst O
  obtain ⟨R,f,⟨S,p,n,j,c,hf⟩,hb⟩:=s.sl i _ g
  rw [m] at f;cases f;cases n
  have:=ajs K
  subst this
  refine ⟨a,_,rfl,DPut.k j (by rw [c.length];exact big (by lia)),?_⟩
  exact r.nx σ z _ _ _ (s.upd1 (A':=OD (putD es J d)) g (.inl rfl) m hf ⟨a,_,rfl,aah,c.put (A.same o),fun b=>Iff.rfl⟩) (M.trans o) N
theorem aq3 {es0:List (Key × PyData)} (h:Ev B ty env fun y e2=>∃ es k,Has e2 i (OD es)/\y=kD k/\Q' (.bool (!(valD es k).isSome)) e2):Ev B (afs ty (tVar i)) env Q':=fun σ G H F Q I k =>
 h σ G H F _ I fun u j H2 F2 y e2 c g o f=>by
  obtain ⟨es,b,n,s,q⟩:=f
  subst s
  obtain ⟨v,p,a,kvs,rfl,ha,rt,_⟩:=c.has n
  have:=ajs o
  subst this
  refine ⟨_,p,a,_,rfl,DGet.k ha,?_⟩
  have e:(valV kvs b).isSome=(valD es b).isSome:=by
   obtain ⟨r,m⟩:=rt.val (k:=b)
   cases hd:valD es b with
   | none=>rw [r hd];rfl
   | some d=>obtain ⟨v,l,_⟩:=m d hd;rw [l];rfl
  rw [e]
  exact k _ j H2 F2 _ e2 c g (.bl _) q
end
section
variable {B:Bs} {env:En} {QO:Sl->En->Prop} {Q':PyData->En->Prop} {QE:En->Prop} {D':VEnds} {K:Frag} {i:Nat} {ta:TA}
theorem ayf {j:Int} {R:Int->Prop} (b:0<=j) (a:j<=1000000) (h:R j):∃ i:Int,[PyData.int j]=[.int i]/\0<=i/\i<=1000000/\R i:=⟨j,rfl,b,a,h⟩
theorem x_dT {es:List (List Key × PyData)} {a b:Int} {e2:En} {R:List (List Key × PyData)->List Key->Prop} (e:e2[i]?=some (some (.own (OT es)))) (d:es.length<=999999) (q:R es [.inl a,.inl b]):∃ es c,e2[i]?=some (some (.own (OT es)))/\PyData.tuple [.int a,.int b]=tkD c/\es.length<=999999/\R es c:=⟨es,_,e,rfl,d,q⟩
theorem x_dK {es:List (Key × PyData)} {a:Int} {e2:En} {R:List (Key × PyData)->Key->Prop} (e:e2[i]?=some (some (.own (OD es)))) (b:es.length<=999999) (q:R es (.inl a)):∃ es k,e2[i]?=some (some (.own (OD es)))/\PyData.int a=kD k/\es.length<=999999/\R es k:=⟨es,_,e,rfl,b,q⟩
theorem x_dN {es:List (Key × PyData)} {a:Int} {e2:En} {R:List (Key × PyData)->Key->Prop} (e:Has e2 i (OD es)) (q:R es (.inl a)):∃ es k,Has e2 i (OD es)/\PyData.int a=kD k/\R es k:=⟨es,_,e,rfl,q⟩
end
def ltP (p q:Int × Int):Prop:=p.1 < q.1\/(p.1=q.1/\p.2 < q.2)
@[reducible] def p2 (p:Int × Int):List Int:=[p.1,p.2]
theorem lex2 (p q:Int × Int):HT.lexLt (p2 p) (p2 q)=true ↔ ltP p q:=by
 obtain ⟨a,b⟩:=p
 obtain ⟨c,d⟩:=q
 simp [p2,HT.lexLt,ltP]
 split <;> lia
theorem ajt {a:List (List Int)} {ps:List (Int × Int)} (h:a.Perm (ps.map p2)):∃ qs:List (Int × Int),a=qs.map p2/\qs.Perm ps:=by
 refine ⟨a.map fun l=>(l.getD 0 0,l.getD 1 0),?_,?_⟩
 ·rw [aD8]
  symm
  conv=>rhs;rw [← List.map_id a]
  apply aE3
  intro l b
  obtain ⟨p,_,rfl⟩:=aB6.mp (h.mem_iff.mp b)
  rfl
 ·have:=h.map fun l=>(l.getD 0 0,l.getD 1 0)
  rw [aD8] at this
  have e:((fun l:List Int=>(l.getD 0 0,l.getD 1 0)) ∘ p2)=id:=by funext p;rfl
  rw [e,List.map_id] at this
  exact this
def Rise (es:List (Int × Int)):Prop:=es.Pairwise ltP
theorem ah2 (p:Int × Int):¬ ltP p p:=by unfold ltP;lia
theorem ayg (p q:Int × Int):ltP p q\/p=q\/ltP q p:=by
 obtain ⟨a,b⟩:=p
 obtain ⟨c,d⟩:=q
 unfold ltP
 simp only [Prod.mk.injEq]
 lia
theorem as9 {p q r:Int × Int} (h:ltP p q) (g:ltP q r):ltP p r:=by unfold ltP at *;lia
theorem afz {qs ps:List (Int × Int)} (c:qs.Perm ps) (hn:ps.Nodup) (b:lexS (qs.map p2)):Rise qs:=by
 have a:qs.Nodup:=c.nodup_iff.mpr hn
 unfold lexS at b
 rw [aF3] at b
 unfold Rise
 refine (List.Pairwise.and b a).imp fun {p q} h=>?_
 have d:¬ ltP q p:=fun z=>by rw [(lex2 q p).mpr z] at h;exact absurd h.1 (by simp)
 rcases ayg p q with z | z | z
 ·exact z
 ·exact absurd z h.2
 ·exact absurd z d
theorem Rise.eq:∀ {as bs:List (Int × Int)},Rise as->Rise bs->(∀ p,p∈as ↔ p∈bs)->as=bs
 | [],[],_,_,_=>rfl
 | [],b :: _,_,_,h=>by have:=(h b).mpr aB7;simp at this
 | a :: _,[],_,_,h=>by have:=(h a).mp aB7;simp at this
 | a :: as,b :: bs,ha,hb,h=>by
  obtain ⟨d,i⟩:=List.pairwise_cons.mp ha
  obtain ⟨c,g⟩:=List.pairwise_cons.mp hb
  have e:a=b:=by
   rcases aA8.mp ((h a).mp aB7) with e | e
   ·exact e
   ·rcases aA8.mp ((h b).mpr aB7) with e2 | e2
    ·exact e2.symm
    ·exact absurd (as9 (d b e2) (c a e)) (ah2 a)
  subst e
  have:=Rise.eq i g fun p=>by
   have f:=h p
   simp only [aA8] at f
   constructor
   ·intro m
    rcases f.mp (.inr m) with e | e
    ·subst e;exact absurd (d p m) (ah2 p)
    ·exact e
   ·intro m
    rcases f.mpr (.inr m) with e | e
    ·subst e;exact absurd (c p m) (ah2 p)
    ·exact e
  rw [this]
structure WebOk (n:Int) (es:List (Int × Int)):Prop where
 lo:1<=n
 hi:n<=60
 inn:∀ p∈es,0<=p.1/\p.1 < p.2/\p.2 < n
 rise:Rise es
def kE (ps:List (Int × Int)):List (List Key × PyData):=ps.map fun p=>([Sum.inl p.1,Sum.inl p.2],.bool true)
def addP (ps:List (Int × Int)) (p:Int × Int):List (Int × Int):=if p∈ps then ps else ps ++ [p]
theorem aec {ps:List (Int × Int)}:(kE ps).length=ps.length:=by simp [kE]
theorem ahd (ps:List (Int × Int)) (a b:Int):putD (kE ps) [Sum.inl a,Sum.inl b] (.bool true)=kE (addP ps (a,b)):=by
 have c:((kE ps).any fun e=>decide (e.1=[Sum.inl a,Sum.inl b]))=decide ((a,b)∈ps):=by
  rw [aH0,List.any_eq_true,decide_eq_true_iff]
  constructor
  ·rintro ⟨e,d,h⟩
   obtain ⟨p,f,rfl⟩:=aB6.mp d
   simp at h
   obtain ⟨g,p2⟩:=p
   simp at h
   rw [← h.1,← h.2];exact f
  ·intro h
   exact ⟨_,aB6.mpr ⟨(a,b),h,rfl⟩,by simp⟩
 unfold putD
 rw [c]
 unfold addP
 by_cases h:(a,b)∈ps
 ·rw [aE7 (by simpa using h),aE7 h]
  unfold kE
  rw [aD8]
  apply aE3
  intro p _
  simp only [Function.comp]
  split <;> rfl
 ·rw [aE8 (by simpa using h),aE8 h]
  simp [kE]
theorem addP_mem {ps:List (Int × Int)} {p q:Int × Int}:q∈addP ps p ↔ q∈ps\/q=p:=by
 unfold addP
 split
 ·rename_i h
  exact ⟨.inl,fun z=>z.elim id fun e=>e ▸ h⟩
 ·simp
theorem aju {ps:List (Int × Int)} {p:Int × Int} (h:ps.Nodup):(addP ps p).Nodup:=by
 unfold addP
 split
 ·exact h
 ·rename_i hn
  rw [aE2]
  exact ⟨h,by simp,fun x b y a=>by simp at a;subst a;rintro rfl;exact hn b⟩
theorem ae3 {ps:List (Int × Int)} {p:Int × Int}:(addP ps p).length<=ps.length+1:=by
 unfold addP;split <;> simp
theorem ayh (ps:List (Int × Int)):(kE ps).map (·.1)=(ps.map p2).map (fun ns=>ns.map Sum.inl):=by
 unfold kE;rw [aD8,aD8];rfl
theorem a0v:([]:List (List Key × PyData))=kE []:=rfl
theorem anp (ps:List (Int × Int)):(ps.map p2).map tiD=ps.map prD:=by rw [aD8];rfl
theorem awm {ps:List (Int × Int)}:∀ ns∈ps.map p2,ns ≠ []:=fun ns h=>by
 obtain ⟨p,_,rfl⟩:=aB6.mp h
 simp
section
variable {B:Bs} {env:En} {QO:Sl->En->Prop} {K:Frag} {i:Nat} {ta:TA}
theorem afg {ps:List (Int × Int)} (h:EvA B ta env fun ds e=>ds=[.list (ps.map prD)]/\∀ qs:List (Int × Int),qs.Perm ps->lexS (qs.map p2)->QO (.own (OL (qs.map prD))) e):EvO B (tCB (ajh K) ta) env QO :=
 as0 (pss:=ps.map p2) awm fun σ G H F Q I k=>h σ G H F Q I fun vs G' H' F' ds e a g r ⟨c,q⟩=>k vs G' H' F' ds e a g r ⟨by rw [anp];exact c,fun f b d=>by
  obtain ⟨qs,rfl,i⟩:=ajt b
  rw [anp];exact q qs i d⟩
theorem agf {ps:List (Int × Int)} (c:Has env i (OT (kE ps))) (q:∀ qs:List (Int × Int),qs.Perm ps->lexS (qs.map p2)->QO (.own (OL (qs.map prD))) env):EvO B (tCB ah1 (aa5 (tVar i) tNil)) env QO :=
 aq2 c (ayh ps) awm fun d a f=>by
  obtain ⟨qs,rfl,b⟩:=ajt a
  rw [anp];exact q qs b f
end
def OW (d:PyData) (ds:List PyData):Own where
 P:=fun G H v F=>∃ t l u vs,v=.ref t/\H t=some (.tup [u,.ref l])/\Rp G u d/\H l=some (.lst vs)/\Rps G vs ds/\∀ b,F b ↔ b=t\/b=l
 mono:=fun ⟨t,l,u,vs,e,h1,r1,h2,r2,f⟩ g hh=>⟨t,l,u,vs,e,hh t _ ((f t).mpr (.inl rfl)) h1,r1.same g,hh l _ ((f l).mpr (.inr rfl)) h2,r2.same g,f⟩
 dom:=fun ⟨t,l,u,vs,e,h1,r1,h2,r2,f⟩ b z=>by
  rcases (f b).mp z with rfl | rfl
  ·exact ⟨_,h1⟩
  ·exact ⟨_,h2⟩
theorem ahe {d:PyData} {ds:List PyData}:Frz (OW d ds) (.tuple [d,.list ds]):=fun G H v F ⟨t,l,u,vs,e,c,b,a,h,f⟩ n g=>by
 subst e
 exact .tup (by rw [adu ((f t).mpr (.inl rfl))];exact c) (.cons (b.same (abl n)) (.cons (.lst (by rw [adu ((f l).mpr (.inr rfl))];exact a) (h.same (abl n))) .nil))
theorem afh {d:PyData} {ds:List PyData} {R:PyData->Prop} (h:R (.tuple [d,.list ds])):FQ (.own (OW d ds)) R:=⟨_,ahe,h⟩
section
variable {B:Bs} {env:En} {QO:Sl->En->Prop} {Q':PyData->En->Prop} {K:Frag} {i j:Nat} {ta te:TE}
theorem anq {u:V} {l:Addr} {a:List Key}:HO.tup [u,.ref l] ≠ .tup (a.map kV):=by
 intro z
 injection z with z
 match a,z with
 | [],z=>cases z
 | [_],z=>cases z
 | [_,k],z =>
  simp at z
  cases k <;> simp [kV] at z
 | _ :: _ :: _ :: _,z=>simp at z
theorem avp {s:List PyData} (N:env[j]?=some (some (.own (OL s)))) (h:Ev B ta env fun d g=>∃ ds,g[j]?=some (some (.own (OL ds)))/\QO (.own (OW d ds)) (g.set j none)):EvO B (tTup (aa5 ta (aa5 (tVar j) tNil))) env QO:=fun σ G H F Q I k =>
 h σ G H F _ I fun v u K i d g c M A x=>by
  obtain ⟨ds,C,q⟩:=x
  obtain ⟨w,L,⟨l,vs,rfl,n,rs,hf⟩,hb⟩:=c.sl j _ C
  refine ⟨_,L,⟨by show (2:Nat)<=sizeLine;decide,fun p f=>?_⟩⟩
  have r:i j l:=(hf l).mpr rfl
  have pl:p ≠ l:=(aan n f).symm
  have D:=c.drop j
  have y:∀ m a,(a=p\/a=l)->¬ putF i j (fun _=>False) m a:=fun m a ha z=>by
   by_cases hm:m=j
   ·subst hm;exact putF_same.mp z
   ·rw [aa8 hm] at z
    rcases ha with rfl | rfl
    ·exact c.no_f f m z
    ·exact hm (c.fd m j a z r)
  have J:VI B u (upd K p (.tup [v,.ref l])) σ (g.set j none) (putF i j fun _=>False):=D.grow (Same.refl _) (c.gh.trans (abf f)) (abf f) (fun a o e => .inl e) fun a E e=>by
   by_cases z:a=p
   ·subst z;rw [aah] at e;exact absurd (aC5 e) anq
   ·rw [aae z] at e;exact c.ft a E e
  refine k _ u _ _ (fun a=>a=p\/a=l) (.own (OW d ds)) _ J M ⟨⟨p,l,v,vs,rfl,aah,A,by rw [aae pl.symm];exact n,rs,fun b=>Iff.rfl⟩,fun a z=>?_,fun a z=>?_,fun a z=>?_,fun m a z=>y m a z⟩ q
  ·rcases z with rfl | rfl
   ·exact c.no_b f
   ·exact hb a r
  ·rcases z with rfl | rfl
   ·exact c.no_g f
   ·exact c.fg j a r
  ·rcases z with rfl | rfl
   ·exact ⟨_,aah⟩
   ·exact ⟨_,by rw [aae pl.symm];exact n⟩
theorem x_ow {ds:List PyData} {a:En} {R:List PyData->Prop} (e:a[j]?=some (some (.own (OL ds)))) (q:R ds):∃ ds,a[j]?=some (some (.own (OL ds)))/\R ds:=⟨ds,e,q⟩
end
section
variable {B:Bs} {env:En} {Q':PyData->En->Prop} {D':VEnds} {i:Nat} {ty tv:TE}
theorem aq4 {a:List (List Key × PyData)} (f:env[i]?=some (some (.own (OT a)))) (h:Ev B tv env fun d c=>Has c i (OT a)/\Ev B ty c fun y e2=>∃ es b,e2[i]?=some (some (.own (OT es)))/\y=tkD b/\es.length<=999999/\D'.nx (e2.set i (some (.own (OT (putD es b d)))))):EvS B (ai6 (tVar i) ty tv) D' env:=as7 h
theorem aq5 {a:List (Key × PyData)} (c:env[i]?=some (some (.own (OD a)))) (h:Ev B tv env fun d b=>Has b i (OD a)/\Ev B ty b fun y e2=>∃ es k,e2[i]?=some (some (.own (OD es)))/\y=kD k/\es.length<=999999/\D'.nx (e2.set i (some (.own (OD (putD es k d)))))):EvS B (ai6 (tVar i) ty tv) D' env:=as8 h
theorem aor {a:List (Key × PyData)} (b:Has env i (OD a)) (h:Ev B ty env fun y e2=>∃ es k,Has e2 i (OD es)/\y=kD k/\Q' (.bool (!(valD es k).isSome)) e2):Ev B (afs ty (tVar i)) env Q':=aq3 (es0:=[]) h
end
section
variable {R:Sl->Prop} {K:Frag}
theorem ayi {p q:Int × Int} (h:R (.st (.bool (HT.lexLt (p2 p) (p2 q))))):Op2 (rLtT K) (prD p) (prD q) R:=fun G H d f Q gh b c k=>by
 cases b with
 | tup ha ra =>
  cases c with
  | tup hb rb =>
   have a:=Rps.ints_inv (ns:=p2 p) ra
   have e2:=Rps.ints_inv (ns:=p2 q) rb
   subst a e2
   exact ⟨_,_,p2 p,p2 q,rfl,rfl,SqT.of (gh _ _ ha),SqT.of (gh _ _ hb),k _ _ _ _ _ (Out.refl gh (.bl _)) h⟩
end
theorem ata (p:Int × Int):aas (prD p)=true:=rfl
theorem agg (ps:List (Int × Int)):plainDs (ps.map prD)=true:=by
 rw [afm]
 intro d hd
 obtain ⟨p,_,rfl⟩:=aB6.mp hd
 rfl
theorem apu (p q:Int × Int):PyData.eqv (prD p) (prD q)=decide (p=q):=by
 rw [aH0,ag6 _ _ rfl rfl,decide_eq_true_iff]
 constructor
 ·intro h
  simp [prD] at h
  exact Prod.ext h.1 h.2
 ·rintro rfl;rfl
theorem ayj (ps:List (Int × Int)) (q:Int × Int):((ps.map prD).any fun z=>PyData.eqv z (prD q))=decide (q∈ps):=by
 rw [aH0,List.any_eq_true,decide_eq_true_iff]
 constructor
 ·rintro ⟨d,hd,e⟩
  obtain ⟨p,a,rfl⟩:=aB6.mp hd
  rw [apu] at e
  rw [← of_decide_eq_true e];exact a
 ·intro h
  exact ⟨prD q,aB6.mpr ⟨q,h,rfl⟩,by rw [apu];exact aD6 rfl⟩
theorem ad4 {ds:List PyData} {m:Nat} (h:∀ d∈ds,d.depth<=m):PyData.depthAll ds<=m:=by
 induction ds with
 | nil=>simp [PyData.depthAll]
 | cons d ds ih =>
  simp only [PyData.depthAll]
  exact Nat.max_le.mpr ⟨h d aB7,ih fun e a=>h e (aB4 _ a)⟩
theorem ahf (p:Int × Int):(prD p).depth<=1:=by simp [prD,PyData.depth,PyData.depthAll]
theorem acj {d:PyData} (h:aas d=true):PyData.eqv d d=true:=(ag6 d d h h).mpr rfl
end VL
namespace VL
theorem anr {α:Type} (R : α->α->Prop) (tr:∀ {a b c},R a b->R b c->R a c) {xs:List α}:xs.Pairwise R ↔ ∀ i (h:i+1 < xs.length),R (xs[i]'(by lia)) xs[i+1]:=by
 constructor
 ·intro h i hi
  exact aF9.mp h i (i+1) (by lia) hi (by lia)
 ·intro h
  rw [aF9]
  intro i j hi d f
  induction j with
  | zero=>lia
  | succ j ih =>
   by_cases e:i=j
   ·subst e;exact h i d
   ·exact tr (ih (by lia) (by lia)) (h j d)
end VL
namespace VL
open PySem PySem.Spec L2
section
variable {B:Bs} {env:En} {Q':PyData->En->Prop} {K:Frag} {E:XK} {i:Nat}
theorem avq {f:VP} {t:TA} {r:Own} (y:Has env i r) (h:EvA B t env fun ds g=>∃ A d,Has g i A/\Frz A d/\f (.st d :: ds.map Sl.st) fun s=>∃ d',s=.st d'/\agd d'=true/\Q' d' g):Ev B (abx (spP K f) [] E (aa5 (tVar i) t)) env Q':=fun σ G H F Q I k=>by
 unfold abx
 simp only [aE4]
 obtain ⟨v,m,_⟩:=I.has y
 refine ⟨v,m,h σ G H F _ I fun vs p l j ds g b N w ⟨A,d,L,M,z⟩=>?_⟩
 obtain ⟨O,c,ap⟩:=b.has L
 rw [m] at c;cases c
 have js:=abl (H:=l) (b.fg i)
 refine ⟨jn p l (j i),_,_,ama b.gh,fun a D e=>js _ _ (b.ft a D e),.cons (s:=.st d) (M _ _ _ _ ap (b.fg i) b.gh) (ArgsOk.of (w.same js)),z,fun s q u G' H' Fv o=>?_⟩
 obtain ⟨d',rfl,C,q⟩:=q
 obtain ⟨x,J,n⟩:=b.moment js o
 exact k u x H' j d' g n (N.trans J) (akn o.ok.1 C) q
end
end VL
namespace VL
open PySem L2
theorem a17 {B:Bs} {t:TS} {D':VEnds} {e:En} (h:EvS B t D' e):EvS B t D' e:=h
theorem a18 {B:Bs} {g:TG} {s:Sl} {e:En} {Q:En->Prop} (h:EvG B g s e Q):EvG B g s e Q:=h
theorem a0w {B:Bs} {g:TGs} {s:List PyData} {e:En} {Q:En->Prop} (h:EvGs B g s e Q):EvGs B g s e Q:=h
theorem g_Ev {B:Bs} {t:TE} {e:En} {Q:PyData->En->Prop} (h:Ev B t e Q):Ev B t e Q:=h
theorem a19 {B:Bs} {t:TE} {e:En} {Q:Sl->En->Prop} (h:EvO B t e Q):EvO B t e Q:=h
theorem a2c {B:Bs} {t:TT} {e:En} {Q:Bool->En->Prop} (h:EvT B t e Q):EvT B t e Q:=h
theorem a2d {B:Bs} {t:TA} {e:En} {Q:List PyData->En->Prop} (h:EvA B t e Q):EvA B t e Q:=h
theorem a2e {B:Bs} {t:TI} {e:En} {Q:List PyData->En->Prop} (h:EvI B t e Q):EvI B t e Q:=h
theorem a2f {r:R2} {x y:PyData} {R:Sl->Prop} (h:Op2 r x y R):Op2 r x y R:=h
theorem a2g {r:V->Hp->VK->Prop} {x:PyData} {R:Sl->Prop} (h:Op1 r x R):Op1 r x R:=h
theorem a2h {r:List V->Hp->VK->Prop} {x:List PyData} {R:Sl->Prop} (h:OpA r x R):OpA r x R:=h
theorem g_FQ {s:Sl} {R:PyData->Prop} (h:FQ s R):FQ s R:=h
theorem ayk {ds:List PyData} {R:List PyData->Prop} (h:amb ds R):amb ds R:=h
theorem ayl {ds:List PyData} {R:List PyData->Prop} (h:amc ds R):amc ds R:=h
structure PsOk (n:Int) (ps:List (Int × Int)):Prop where
 nd:ps.Nodup
 inn:∀ p∈ps,0<=p.1/\p.1 < p.2/\p.2 < n
theorem PsOk.nil (n:Int):PsOk n []:=⟨List.nodup_nil,fun p a=>by simp at a⟩
theorem PsOk.add {n a b:Int} {ps:List (Int × Int)} (h:PsOk n ps) (g:0<=a) (f:a < b) (c:b < n):PsOk n (addP ps (a,b)) :=
 ⟨aju h.nd,fun p d=>by
  rcases addP_mem.mp d with q | q
  ·exact h.inn p q
  ·subst q;exact ⟨g,f,c⟩⟩
def Tr (n:Int) (ps:List (Int × Int)):Prop:=∀ k,1<=k->k < n->∃ h,0<=h/\h < k/\(h,k)∈ps
def Conn (n:Int) (T:Int->Int->Prop):Prop:=∀ u v,0<=u->u < n->0<=v->v < n->∃ k,Gr.Walk T u k v
theorem Joined.conn {n:Int} {es:List (Int × Int)} (h:Joined n es):Conn n (Tied es):=fun u v f b v0 c=>by
 obtain ⟨d,hd⟩:=h u f b
 obtain ⟨e,a⟩:=h v v0 c
 exact ⟨d+e,(hd.1.rev fun _ _ t=>t.symm).app a.1⟩
def Order (n:Int) (row:List Int):Prop:=row.Perm ((List.range n.toNat).map fun (i:Nat)=>(i:Int))
theorem Order.len {n:Int} {row:List Int} (h:Order n row):row.length=n.toNat:=by have:=h.length_eq;simpa using this
theorem Order.nodup {n:Int} {row:List Int} (h:Order n row):row.Nodup:=by
 refine h.nodup_iff.mpr ?_
 unfold List.Nodup
 rw [aF3]
 exact List.nodup_range.imp fun {a b} c e=>c (by lia)
theorem Order.mem {n:Int} {row:List Int} (h:Order n row) {v:Int}:v∈row ↔ 0<=v/\v < n:=by
 rw [h.mem_iff,aB6]
 constructor
 ·rintro ⟨i,hi,rfl⟩
  have:=aB8.mp hi
  lia
 ·rintro ⟨b,a⟩
  exact ⟨v.toNat,aB8.mpr (by lia),by lia⟩
theorem Order.get {n:Int} {row:List Int} (h:Order n row) {a:Int} (b:0<=a) (d:a < n):∃ x,row[a.toNat]?=some x/\atI row a=some x/\0<=x/\x < n:=by
 have c:a.toNat < row.length:=by rw [h.len];lia
 have e:row[a.toNat]?=some row[a.toNat]:=aA0 c
 have:=h.mem.mp (aA2 e)
 exact ⟨_,e,adk b e,this.1,this.2⟩
theorem Order.inj {n:Int} {row:List Int} (h:Order n row) {a b x:Int} (a0:0<=a) (b0:0<=b) (ha:row[a.toNat]?=some x) (hb:row[b.toNat]?=some x):a=b:=by
 obtain ⟨f,d⟩:=aA1.mp ha
 obtain ⟨c,e2⟩:=aA1.mp hb
 have:=nodup_ix h.nodup f c (d.trans e2.symm)
 lia
theorem Order.id (n:Int):Order n ((List.range n.toNat).map fun (i:Nat)=>(i:Int)):=List.Perm.refl _
def abb (row:List Int) (a:Int):Int:=row.getD a.toNat 0
def reP (row:List Int) (p:Int × Int):Int × Int:=if abb row p.1 < abb row p.2 then (abb row p.1,abb row p.2) else (abb row p.2,abb row p.1)
theorem Order.at {n:Int} {row:List Int} (h:Order n row) {a:Int} (f:0<=a) (d:a < n):row[a.toNat]?=some (abb row a)/\0<=abb row a/\abb row a < n:=by
 obtain ⟨x,e,_,c,b⟩:=h.get f d
 have:abb row a=x:=by unfold abb;rw [aD2,e];rfl
 rw [this];exact ⟨e,c,b⟩
theorem Order.ne {n:Int} {row:List Int} (h:Order n row) {a b:Int} (a0:0<=a) (a1:a < n) (b0:0<=b) (b1:b < n) (c:a ≠ b):abb row a ≠ abb row b:=fun e=>by
 have d:=(h.at a0 a1).1
 have f:=(h.at b0 b1).1
 rw [e] at d
 exact c (h.inj a0 b0 d f)
theorem PsOk.re {n:Int} {ps:List (Int × Int)} {row:List Int} (h:PsOk n ps) (o:Order n row):PsOk n (ps.map (reP row)):=by
 have inn:∀ p∈ps,0<=(reP row p).1/\(reP row p).1 < (reP row p).2/\(reP row p).2 < n:=fun p c=>by
  obtain ⟨p0,u,p2⟩:=h.inn p c
  have a:=o.at p0 (by lia)
  have b:=o.at (a:=p.2) (by lia) p2
  have ne:=o.ne p0 (by lia) (by lia) p2 (by lia)
  unfold reP
  split <;> dsimp only <;> lia
 refine ⟨?_,fun q g=>by obtain ⟨p,c,rfl⟩:=aB6.mp g;exact inn p c⟩
 unfold List.Nodup
 rw [aF3]
 refine aH2 ?_ h.nd
 intro p q c g f e
 apply f
 obtain ⟨p0,u,p2⟩:=h.inn p c
 obtain ⟨m,v,s⟩:=h.inn q g
 have inj:∀ a b,0<=a->a < n->0<=b->b < n->abb row a=abb row b->a=b:=fun a b a0 a1 b0 b1 e=>by
  apply aD3
  intro d
  exact o.ne a0 a1 b0 b1 d e
 have j:=inj p.1 q.1 p0 (by lia) m (by lia)
 have l:=inj p.2 q.2 (by lia) p2 (by lia) s
 have r:=inj p.1 q.2 p0 (by lia) (by lia) s
 have i:=inj p.2 q.1 (by lia) p2 m (by lia)
 unfold reP at e
 split at e <;> split at e <;> simp only [Prod.mk.injEq] at e
 ·exact Prod.ext (j e.1) (l e.2)
 ·have:=r e.1;have:=i e.2;lia
 ·have:=i e.1;have:=r e.2;lia
 ·exact Prod.ext (j e.2) (l e.1)
theorem erase_perm {α:Type}:∀ {l:List α} {k:Nat} {x : α},l[k]?=some x->(x :: l.eraseIdx k).Perm l
 | [],_,_,h=>by simp at h
 | a :: l,0,x,h=>by simp at h;subst h;exact List.Perm.refl _
 | a :: l,k+1,x,h=>by
  have b:=erase_perm (l:=l) (k:=k) (x:=x) (by simpa using h)
  exact (List.Perm.swap a x _).trans (b.cons a)
theorem aq6 {n:Int} {row left:List Int} {k:Nat} {x:Int} (h:Order n (row ++ left)) (a:left[k]?=some x):Order n ((row ++ [x]) ++ left.eraseIdx k):=by
 refine List.Perm.trans ?_ h
 rw [aB3]
 refine List.Perm.append_left row ?_
 exact erase_perm a
section
variable {B:Bs} {env:En} {g:TG} {tif:TT} {te:TE} {K:Frag} {src:List (Option Nat)} {ds:List PyData} {e1:En} {R:List PyData->En->Prop}
end
theorem aym (n:Nat):rngD 0 n=((List.range n).map fun (i:Nat)=>(i:Int)).map PyData.int:=by simp [rngD]
theorem avr {B:Bs} {t:TS} {D':VEnds} {env:En} (J:En->Prop) (h:EvS B t { D' with nx:=J } env) (k:∀ e,J e->D'.nx e):EvS B t D' env:=fun σ G H F D I r=>h σ G H F D I ⟨fun σ G' H F env a g q=>r.nx _ _ _ _ _ a g (k _ q),r.rt,r.bk,r.ct⟩
theorem acz {B:Bs} {g:TG} {A:Own} {d:PyData} {env:En} {b:En->Prop} (f:Frz A d) (h:EvG B g (.st d) env b):EvG B g (.own A) env b:=fun σ G H F v Fv Q I x k =>
 h σ _ H F v _ Q (I.freeze x.fb x.fd x.fg) (ae2 (f G H v Fv x.ok x.fg I.gh)) fun a G' H' F' i c g' q=>k a G' H' F' i c ((abl x.fg).trans g') q
theorem cutR {R X:Prop} (h:R->X) (r:R):X:=h r
end VL
namespace VL
open PySem PySem.Spec L2
def Sls (K:Frag) (G:Hp) (σ:St) (e:En):Prop:=∀ (j:Nat) (s:Sl),e[j]?=some (some s)->∃ v,σ[j]?=some (some v)/\((∃ d,s=.st d/\Rp G v d)\/∃ (ns:List Int) (a:Addr),s=.scr ns/\v=.ref a/\SqL K G a (ns.map V.int))
section
variable {B:Bs} {env:En}
end
section
variable {B:Bs} {env:En} {Q':PyData->En->Prop} {QO:Sl->En->Prop} {c:TT} {ta tb:TE}
theorem ayn (h:EvT B c env fun b e=>if b=true then EvO B ta e QO else EvO B tb e QO):EvO B (tIf c ta tb) env QO:=fun σ G H F Q I k =>
 h σ G H F _ I fun b i j f n m l q=>by
  cases b with
  | true=>rw [aE7 rfl] at q ⊢;exact q σ i j f Q m fun v G' H' F' Fv d e a g r z=>k v G' H' F' Fv d e a (l.trans g) r z
  | false=>rw [aE8 aA9] at q ⊢;exact q σ i j f Q m fun v G' H' F' Fv d e a g r z=>k v G' H' F' Fv d e a (l.trans g) r z
end
end VL
namespace VL
open PySem PySem.Spec L2 PyProof.Rows
end VL
namespace VL
open PySem PySem.Spec L2
section
variable {B:Bs} {env:En} {QO:Sl->En->Prop} {i:Nat}
theorem atb {k c:Int} (e:env[i]?=some (some (.st (.int k)))) (q:QO (.own (OD [(.inl k,.int c)])) env):EvO B (awh [(tVar i,tC (.int c))]) env QO:=fun σ G H F Q I a p d=>by
 obtain ⟨v,f,r⟩:=I.sl i _ e
 obtain ⟨r,_⟩:=r
 cases r
 refine ⟨_,f,aah,[(.inl k,.int c)],rfl,by simp,?_⟩
 have o:=Out.newD (ds:=[(.inl k,.int c)]) (xs:=[(.inl k,.int c)]) I.gh d (.cons (.int c) .nil)
 have g:upd (upd H p (.dK [])) p (.dK (afu [] [(Sum.inl k,V.int c)]))=upd H p (.dK [(.inl k,.int c)]):=by
  funext b
  unfold upd
  split <;> rfl
 rw [g]
 exact a _ _ _ F _ _ env (I.out o).1 o.gg (I.out o).2 q
end
section
variable {X:Cx}
end
section
variable {R:Sl->Prop}
end
end VL
namespace L2
open PySem PySem.Spec PyProof.Rows
def isV (k:Int):Value->Bool
 | .int a _=>decide (a=k)
 | _=>false
theorem ans {ns:List Int} {us:List Value} (r:Vals (ns.map V.int) us) (k:Int):∀ i (h:i < us.length) (h':i < ns.length),isV k us[i]=decide (ns[i]=k):=by
 induction ns generalizing us with
 | nil=>intro i h h';simp at h'
 | cons n ns ih =>
  rw [aD0] at r
  cases r with
  | cons r1 r2 =>
   obtain ⟨t,e⟩:=r1
   subst e
   intro i h h'
   cases i with
   | zero=>rfl
   | succ i=>exact ih r2 i (by simpa using h) (by simpa using h')
theorem aq7 {ns:List Int} {us:List Value} (r:Vals (ns.map V.int) us) (k:Int) (t:Tok):∀ y∈us,MeetsSeq.EqGives y (.int k t) (isV k y):=by
 induction ns generalizing us with
 | nil=>rw [List.map_nil] at r;cases r;intro y a;simp at a
 | cons n ns ih =>
  rw [aD0] at r
  cases r with
  | cons r1 r2 =>
   obtain ⟨u,e⟩:=r1
   subst e
   intro y a
   rcases aA8.mp a with rfl | a
   ·exact MeetsSeq.EqGives.int n k u t
   ·exact ih r2 y a
section
variable {X:Cx}
def atc:V->List V->Hp->VK->Prop:=fun x vs H Q=>∃ (l:Addr) (ns:List Int) (k:Int) (j:Nat),x=.ref l/\vs=[.int k]/\H l=some (.lst (ns.map V.int))/\ns[j]?=some k/\(∀ m,m < j->ns[m]? ≠ some k)/\Q (.int j) H
theorem ant:MtM X "list.index" atc:=by
 intro pins s σ H x vs v us Q I g w h
 obtain ⟨l,ns,k,j,rfl,rfl,p,o,c,q⟩:=h
 cases g
 obtain ⟨u,rfl,A⟩:=w.one
 obtain ⟨t,rfl⟩:=A
 obtain ⟨z,its,n,r,i,e⟩:=I.lstM p
 rw [aA3] at i z
 obtain ⟨b,f⟩:=aA1.mp o
 have hz:sizeLine < 2 ^ 62:=by decide
 refine call_meets F.slot_list_index ⟨_,e,rfl⟩ F.entry_list_index (F.args_list_index_2 _ _)
  (MeetsSeq.list_index l its.toArray n (.int k t) (isV k) (fun y B=>aq7 r k t y (by simpa using B)) j (by rw [aB1];lia) (by lia) ?_ (fun m hm d=>?_)) ⟨e,?_⟩
 ·rw [List.getElem_toArray,ans r k j (by lia) b,aD6 f]
 ·have a:m < ns.length:=by lia
  rw [List.getElem_toArray,ans r k m (by lia) a]
  exact aD5 fun e=>c m d (by rw [aA0 a,e])
 ·exact ⟨.int j,H,I.tok _,⟨_,rfl⟩,q⟩
variable {e est:Expr} {te:TE} {ts:TO} {pos p2:Pos}
end
end L2
namespace VL
open PySem PySem.Spec L2
section
variable {B:Bs} {env:En} {QO:Sl->En->Prop} {Q':PyData->En->Prop} {te tl:TE} {ts:TO} {K:Frag} {i:Nat}
theorem avs (h:Ev B tl env fun x f=>∃ ns:List Int,x=.list (ns.map .int)/\Ev B te f fun y e2=>∃ (k:Int) (j:Nat),y=.int k/\ns[j]?=some k/\(∀ m,m < j->ns[m]? ≠ some k)/\Q' (.int j) e2):Ev B (tBM K "list" atc tl (aa5 te tNil)) env Q':=fun σ G H F Q I k =>
 h σ G H F _ I fun v o E n d f g J s p=>by
  obtain ⟨ns,D,A⟩:=p
  subst D
  cases s with
  | @lst a vs _ ha rs =>
   have z:vs=ns.map V.int:=rs.ints_inv
   subst z
   refine ⟨.inl ⟨rfl,_,SqL.of (g.gh _ _ ha)⟩,A σ o E n _ g fun u r H2 F2 y e2 i b C ⟨c,j,L,w,l,q⟩=>?_⟩
   subst L
   cases C
   exact ⟨a,ns,c,j,rfl,rfl,i.gh _ _ (b _ _ ha),w,l,k _ r H2 F2 _ e2 i (J.trans b) (.int _) q⟩
end
structure But (n:Int) (es rem:List (Int × Int)):Prop where
 rise:Rise es
 inn:∀ p∈es,0<=p.1/\p.1 < p.2/\p.2 < n
 all:∀ p:Int × Int,0<=p.1->p.1 < p.2->p.2 < n->p∈es\/p∈rem
end VL
namespace PopT
open PySem PyProof.Rows
section
variable {prog:Program} {w:World} {K:Type} [DecidableEq K] {knd:HeapKind prog w K} {A:Around} {E:Value->Shared->Prop} {s:Shared}
theorem anu {d a:Addr} {xs:List (K × Addr × Value)} {k:K} {j:Nat} {p:Addr × Value} {Q:Option DictEntry->Shared->Prop} (v:knd.room A) (b:knd.is s.heap k a) (hm:s.heap.DictOfH knd d xs) (m:xs[j]?=some (k,p))
  (z:∀ e h',e.val=p.2->h'.DictOfH knd d (xs.eraseIdx j)->Heap.SameBut d s.heap h'->Q (some e) { s with heap:=h',toks:=s.toks+knd.draws k })
  (hsz:xs.length<=sizeLine):wpAny (model prog w) A (Builtin.Dict.takeOut d (.ref a)) Q E s:=by
 obtain ⟨o,es,G,c,D,hd,g,h,hn⟩:=hm
 unfold Builtin.Dict.takeOut
 try with_reducible refine aI5 ?_
 refine aI0 (knd.pyHash v b ?_)
 refine aI0 (wpAny_dictFind_heap (s:={ s with toks:=s.toks+knd.draws k }) v b c hd g h hn (fun r=>absurd m (r j p)) ?_)
 intro i q hi
 have n:i=j:=by
  have y:(xs.map (·.1))[i]?=some k:=by rw [aA5,hi];rfl
  have e2:(xs.map (·.1))[j]?=some k:=by rw [aA5,m];rfl
  have H:=(aA1.mp y).1
  have I:=(aA1.mp e2).1
  exact (List.getElem?_inj H hn).mp (y.trans e2.symm)
 subst n
 have u:es.size<=sizeLine:=by have e:=size_of_entries g;lia
 refine aI0 (wpAny_dictEntries (s:={ s with toks:=s.toks+knd.draws k }) c hd ?_)
 rw [entry_at g i,m]
 refine aI0 (wpAny_updateDictKeys (hz:=u) (s:={ s with toks:=s.toks+knd.draws k }) c hd (aI1 (z _ _ rfl ⟨_,_,G+1,Heap.get?_update_self _ c (Obj.isFreed_of_dict (Obj.data_mapDictKeys hd _)),
  D.mapDictKeys _,Obj.data_mapDictKeys hd _,?_,?_,?_⟩ (Heap.SameBut.update ..))))
 ·have B:∀ {α β:Type} (f : α->β) (l:List α) (k:Nat),(l.map f).eraseIdx k=(l.eraseIdx k).map f:=by
   intro α β f l
   induction l with
   | nil=>intro k;rfl
   | cons a l ih =>
    intro k
    cases k with
    | zero=>rfl
    | succ k=>simp [ih k]
  rw [← B,← g]
  obtain ⟨l⟩:=es
  have C:i < l.length:=by
   have:=(aA1.mp m).1
   have e:=size_of_entries g
   simp at e;lia
  simp [Array.eraseIdxIfInBounds,C]
 ·intro x F
  exact knd.keeps (h x ((List.eraseIdx_sublist xs i).mem F)) c hd (Heap.SameBut.update ..)
 ·exact hn.sublist ((List.eraseIdx_sublist xs i).map _)
theorem meetsH_dict_pop {d a:Addr} (kp:keyPart (.ref a)=none) :
  MeetsIn prog w (Builtin.«dict.pop» ⟨[.ref d,.ref a],[]⟩) (fun A R s=>knd.room A.in1/\∃ k xs j p,knd.is s.heap k a/\s.heap.DictOfH knd d xs/\xs.length<=sizeLine/\xs[j]?=some (k,p) /\
   ∀ h',h'.DictOfH knd d (xs.eraseIdx j)->Heap.SameBut d s.heap h'->R (.ok (.ret p.2)) { s with heap:=h',toks:=s.toks+knd.draws k }) :=
 .of_wp fun A R s r=>by
  obtain ⟨n,k,xs,j,p,b,hm,hsz,m,h⟩:=r
  have g:=hm
  obtain ⟨o,es,z,u,y,hd,v,x,hn⟩:=g
  have i:es.isEmpty=false:=by
   have e:=size_of_entries v
   have:=(aA1.mp m).1
   cases q:es.isEmpty with
   | false=>rfl
   | true=>have:=Array.isEmpty_iff.mp q;rw [this] at e;simp at e;lia
  unfold Builtin.«dict.pop»
  refine aI0 ?_
  unfold Builtin.Dict.keyAndDefault
  refine aI0 (wpAny_notOrdered_dict hm.typeIs ?_)
  show wpAny _ _ (pure (d,Value.ref a,none)) _ _ s
  refine aI1 ?_
  simp only [kp,Option.isSome_none,Bool.false_eq_true,if_false]
  refine aI0 (wpAny_dictEntries u hd ?_)
  refine aI0 (aI1 ?_)
  simp only [i,Bool.false_eq_true,if_false]
  refine aI0 (anu n b hm m (fun e h' c f l=>?_) hsz)
  simp only [Option.isNone_some,Bool.false_eq_true,if_false]
  exact aI0 (wpAny_letGo (aI1 ⟨e.val,rfl,by rw [c];exact h h' f l⟩))
end
end PopT
namespace L2
open PySem PySem.Spec PySem.W PyProof.Rows
theorem KT.at {H:Hp} {kvs:List (List Key × V)} {xs:List (List Key × Addr × Value)} (r:KT H kvs xs):∀ {j:Nat} {k:List Key} {v:V},kvs[j]?=some (k,v)->∃ p:Addr × Value,xs[j]?=some (k,p)/\RelV v p.2:=by
 induction r with
 | nil=>intro j k v e;simp at e
 | @cons p q ps qs hq t ih =>
  intro j k v e
  cases j with
  | zero =>
   have e:p=(k,v):=by simpa using e
   subst e
   exact ⟨q.2,by rw [List.getElem?_cons_zero,show k=q.1 from hq.1],hq.2.2⟩
  | succ j=>exact ih (by simpa using e)
theorem KT.erase {H:Hp} {kvs:List (List Key × V)} {xs:List (List Key × Addr × Value)} (r:KT H kvs xs):∀ (j:Nat),KT H (kvs.eraseIdx j) (xs.eraseIdx j):=by
 induction r with
 | nil=>intro j;exact .nil
 | @cons p q ps qs hq t ih =>
  intro j
  cases j with
  | zero=>exact t
  | succ j=>exact .cons hq (ih j)
section
variable {X:Cx} {pins:List (Addr × Obj)} {σ:St} {H:Hp} {s:Shared} {a b:Addr} {A:Around} {E:Value->Shared->Prop}
theorem a0x {kvs:List (List Key × V)} {k:List Key} {j:Nat} {v:V} {Q:Value->Shared->Prop} (o:A.units+1 < cLine) (I:Inv X pins σ H s) (e:H a=some (.dT kvs)) (G:H b=some (.tup (k.map kV))) (l:kvs[j]?=some (k,v))
  (h:∀ g i,Inv X pins σ (upd H a (.dT (kvs.eraseIdx j))) i->RelV v g->Q g i):wpAny (model X.prog X.w) A (call (.builtin "dict.pop") [.ref a,.ref b]) Q E s:=by
 obtain ⟨z,hd,xs,d,dd⟩:=ai5 I.hok e
 have hz:xs.length<=sizeLine:=by rw [← Paired.length d];exact z
 obtain ⟨p,x,J⟩:=KT.at d l
 refine call_meetsIn PySem.F.slot_dict_pop dd.typeIs PySem.F.entry_dict_pop (PySem.F.args_dict_pop_2 _ _) (PopT.meetsH_dict_pop (knd:=tupleKind (aba X.prog X.w)) rfl)
  ⟨tupleKind_room_in1 o,k,xs,j,p,afr I.hok G,dd,hz,x,fun h' f y=>h p.2 _ ?_ J⟩
 obtain ⟨q,es,B,n,r,C,D,_,u⟩:=f
 refine aht I (by rw [e];exact True.intro) y ⟨q,n⟩ ⟨aC9 (List.length_eraseIdx_le kvs j) z,hd,_,(KT.erase d j).keeps fun c ys m=>?_,q,es,B,n,r,C,D,u⟩
 rw [aae (ahp m e (fun z=>nomatch z))]
 exact m
end
def atd (td ty:TE):TE:=fun σ H Q=>td σ H fun x H1=>∃ a,x=.ref a/\IsD H1 a/\ty σ H1 fun y H2=>∃ kvs k j v b,H2 a=some (.dT kvs)/\y=.ref b/\H2 b=some (.tup (k.map kV))/\kvs[j]?=some (k,v)/\Q v (upd H2 a (.dT (kvs.eraseIdx j)))
section
variable {X:Cx} {o e f:Expr} {apos cpos:Pos} {td ty tx:TE}
theorem avt (g:X.A.units+1 < cLine) (z:PE X o td) (E:PE X e ty) (m:M1 X o "pop" apos e cpos):PE X (.Call (.Attribute o "pop" apos) [e] [] cpos) (atd td ty):=by
 intro pins s σ H Q I h
 refine wpAny_Call_method m.base m.few m.line PySem.F.plainAttrs_dict PySem.F.slot_dict_pop PySem.F.type_dict_pop (thn (z pins s σ H _ I h) fun u s1 ⟨x,D,f,i,a,ex,d,q⟩=>?_)
 subst ex
 obtain rfl:u=Value.ref a:=i
 obtain ⟨w,p,_⟩:=azl f d
 refine ⟨w,p,?_⟩
 rw [m.trees]
 refine Calls.callWith_builtin rfl (Calls.evalArgs_plain (Calls.spliced_cons (thn (E pins s1 σ D _ f q) fun L s2 ⟨y,H2,G,n,kvs,k,j,v,b,r,K,C,l,J⟩=>Calls.spliced_nil ?_)))
 subst K
 obtain rfl:L=Value.ref b:=n
 exact a0x g G r C l fun M N B c=>⟨v,_,B,c,J⟩
end
end L2
namespace DNe
open PySem PyProof.Rows
theorem dict_ne_some (l b:Addr) (es:Array DictEntry) (n f:Nat) (dd a:Option Addr) (sl c:Array (Option Value)) (i:(l == sysModules)=false) (m:(b == sysModules)=false) (j:(es.size != 0)=true) :
  Meets (Builtin.«dict.__ne__» ⟨[.ref l,.ref b],[]⟩)
   (fun _ R s=>s.heap.get? l=some { cls:=.type "dict",dict:=dd,data:=.dict es n,slots:=sl }/\s.heap.get? b=some { cls:=.type "dict",dict:=a,data:=.dict #[] f,slots:=c } /\
    R (.ok (.ret (.bool true))) s) :=
 .of_wp fun prog w A R s h=>by
  obtain ⟨p,g,d,r,os⟩:=s;obtain ⟨q,hb,h⟩:=h
  have o:=PySem.F.sub_dict_dict
  wp_walk
  exact ⟨_,rfl,h⟩
theorem ate {prog:Program} {w:World} {A:Around} {E:Value->Shared->Prop} {s:Shared} {Q:Bool->Shared->Prop} {id:String} {l b:Addr} {o g:Obj} {n i:Nat} (c:(l == sysModules)=false) (d:(b == sysModules)=false)
  (f:s.heap.get? l=some o) (hd:o.data=.dict #[] n) (hb:s.heap.get? b=some g) (a:g.data=.dict #[] i) (h:Q true s):wpAny (model prog w) A (Builtin.Dict.samePairs id l b) Q E s:=by
 unfold Builtin.Dict.samePairs Builtin.Dict.showsAll
 rw [c,d]
 simp only [Bool.false_eq_true,if_false]
 refine aI0 (aI1 (aI0 (aI1 ?_)))
 refine aI0 (wpAny_dictEntries f hd (aI0 (wpAny_dictEntries hb a ?_)))
 simp only [bne_self_eq_false,Bool.false_eq_true,if_false]
 refine aI0 (wpAny_dictEpoch f hd ?_)
 rw [Std.Legacy.Range.forIn_eq_forIn_range']
 simp only [Std.Legacy.Range.size]
 exact aI0 (aI1 (aI1 h))
theorem dict_ne_none (l b:Addr) (n j:Nat) (dd c:Option Addr) (sl f:Array (Option Value)) (a:(l == sysModules)=false) (i:(b == sysModules)=false) :
  Meets (Builtin.«dict.__ne__» ⟨[.ref l,.ref b],[]⟩)
   (fun _ R s=>s.heap.get? l=some { cls:=.type "dict",dict:=dd,data:=.dict #[] n,slots:=sl }/\s.heap.get? b=some { cls:=.type "dict",dict:=c,data:=.dict #[] j,slots:=f } /\
    R (.ok (.ret (.bool false))) s) :=
 .of_wp fun prog w A R s h=>by
  obtain ⟨p,g,d,q,os⟩:=s;obtain ⟨m,hb,h⟩:=h
  have o:=PySem.F.sub_dict_dict
  wp_walk using ate a i m rfl hb rfl
  exact ⟨_,rfl,h⟩
end DNe
namespace L2
open PySem PySem.Spec PySem.W PyProof.Rows
def rNeE:R2:=fun x y H Q=>∃ a b kvs,x=.ref a/\y=.ref b/\H a=some (.dT kvs)/\H b=some (.dT [])/\Q (.bl (!kvs.isEmpty)) H
theorem a0y {X:Cx} (S:X.A.units+64 < cLine):OpR X (compareOp .NotEq) rNeE:=by
 intro pins s σ H x y v u Q I N O h
 obtain ⟨a,b,kvs,rfl,rfl,P,R,q⟩:=h
 obtain rfl:v=Value.ref a:=N
 obtain rfl:u=Value.ref b:=O
 obtain ⟨_,g,xs,p,⟨cls,dd,data,sl⟩,es,D,n,K,C,r,_,_⟩:=ai5 I.hok P
 obtain ⟨_,j,ys,d,⟨i,c,w,f⟩,fs,m,o,L,E,G,_,_⟩:=ai5 I.hok R
 cases d
 have hf:fs = #[]:=by
  obtain ⟨l⟩:=fs
  simp at G
  rw [G]
 subst hf
 have J:cls=.type "dict":=K.1
 have M:i=.type "dict":=L.1
 simp only at C E
 subst J M C E
 have hn:Value.bool true ≠ Value.notImplemented:=fun x=>nomatch x
 have z:Value.bool false ≠ Value.notImplemented:=fun x=>nomatch x
 cases p with
 | nil =>
  have B:es = #[]:=by
   obtain ⟨l⟩:=es
   simp at r
   rw [r]
  subst B
  exact richCompare_meets_room (op:=.NotEq) ⟨_,n,rfl⟩ ⟨_,o,rfl⟩ PySem.F.slot_dict_ne PySem.F.entry_dict_ne (PySem.F.args_dict_ne_2 _ _) (DNe.dict_ne_none a b D m dd c sl f g j)
   ⟨n,o,show Value.bool false ≠ Value.notImplemented/\_ from ⟨z,⟨.bl false,H,I,rfl,q⟩⟩⟩ (by lia)
 | cons hq t =>
  have B:(es.size != 0)=true:=by
   have:=congrArg List.length r
   simp at this
   simp [this]
  exact richCompare_meets_room (op:=.NotEq) ⟨_,n,rfl⟩ ⟨_,o,rfl⟩ PySem.F.slot_dict_ne PySem.F.entry_dict_ne (PySem.F.args_dict_ne_2 _ _) (DNe.dict_ne_some a b es D m dd c sl f g j B)
   ⟨n,o,show Value.bool true ≠ Value.notImplemented/\_ from ⟨hn,⟨.bl true,H,I,rfl,q⟩⟩⟩ (by lia)
end L2
namespace DNe
open PySem PyProof.Rows
theorem anv (l:Addr) (es:Array DictEntry) (n:Nat) (dd:Option Addr) (sl:Array (Option Value)) (a:(l == sysModules)=false) :
  Meets (Builtin.«dict.__len__» ⟨[.ref l],[]⟩)
   (fun _ R s=>s.heap.get? l=some { cls:=.type "dict",dict:=dd,data:=.dict es n,slots:=sl }/\R (.ok (.ret (.int (es.size:Int) s.toks))) { s with toks:=s.toks+1 }) :=
 .of_wp fun prog w A R s h=>by
  obtain ⟨b,g,d,f,os⟩:=s;obtain ⟨c,h⟩:=h
  wp_walk
  exact ⟨_,rfl,h⟩
section
variable {prog:Program} {w:World} {A:Around} {E:Value->Shared->Prop} {s:Shared}
theorem call_len_raw {d:Addr} {es:Array DictEntry} {n:Nat} {dd:Option Addr} {sl:Array (Option Value)} {Q:Value->Shared->Prop} (hd:(d == sysModules)=false) (a:s.heap.get? d=some { cls:=.type "dict",dict:=dd,data:=.dict es n,slots:=sl }) (c:(es.size:Int) < 2 ^ 63)
  (h:Q (.int (es.size:Int) (s.toks+1)) { s with toks:=s.toks+1+1 }):wpAny (model prog w) A (call (.builtin "len") [.ref d]) Q E s:=by
 have b:s.TypeIs (.ref d) "dict":=⟨_,a,rfl⟩
 refine Calls.call_function_entry kind_len plain_len entry_len (args_len1 _) ?_
 unfold Builtin.«len»
 refine aI0 (m:=oneArg "len" _) (aI1 ?_)
 refine aI0 (m:=callSpecial? (.ref d) (Str.ofString "__len__")) (wpAny_callSpecial?_slot (name:=Str.ofString "__len__") b PySem.F.slot_dict_len
  (call_meets PySem.F.slot_dict_len b PySem.F.entry_dict_len (PySem.F.args_dict_len_1 _) (anv d es n dd sl hd) ⟨a,?_⟩))
 show wpAny _ _ _ _ _ { s with toks:=s.toks+1 }
 refine aI0 (aI5 (aI1 ?_))
 refine aI0 (wpAny_letGo ?_)
 show wpAny _ _ (if (es.size:Int) < 0 then _ else _) _ _ _
 rw [aE8 (by lia)]
 show wpAny _ _ (if (es.size:Int) ≥ 2 ^ 63 then _ else _) _ _ _
 rw [aE8 (by lia)]
 exact aI0 (wpAny_mkInt (aI1 ⟨_,rfl,h⟩))
end
end DNe
namespace L2
open PySem PySem.Spec PySem.W PyProof.Rows
def awo:List V->Hp->VK->Prop:=fun xs H Q=>∃ a kvs,xs=[V.ref a]/\H a=some (.dT kvs)/\Q (.int kvs.length) H
theorem atf {X:Cx}:abd X (.builtin "len") awo:=by
 intro pins s σ H xs us Q I r h
 obtain ⟨a,kvs,rfl,ha,q⟩:=h
 obtain ⟨u,rfl,l⟩:=ac0 r
 cases l
 obtain ⟨z,hd,ys,b,⟨cls,dd,data,sl⟩,es,m,i,f,c,g,_,_⟩:=ai5 I.hok ha
 have d:cls=.type "dict":=f.1
 simp only at c
 subst d c
 have j:es.size=kvs.length:=by
  have:=congrArg List.length g
  simp at this
  rw [this];exact (Paired.length b).symm
 refine DNe.call_len_raw hd i (by rw [sizeLine_eq] at z;lia) ?_
 rw [j]
 exact ⟨.int kvs.length,H,(I.tok _).tok _,⟨_,rfl⟩,q⟩
end L2
namespace VL
open PySem PySem.Spec L2
section
variable {B:Bs} {env:En} {Q':PyData->En->Prop} {QO:Sl->En->Prop} {i:Nat} {ty:TE}
theorem RpT.at {G:Hp}:∀ {kvs:List (List Key × V)} {es:List (List Key × PyData)},RpT G kvs es->∀ {j:Nat} {a:List Key} {d:PyData},es[j]?=some (a,d)->∃ v,kvs[j]?=some (a,v)/\Rp G v d
 | _,_,.nil,j,a,d,e=>by simp at e
 | _,_,.cons (k:=k) (v:=v) (d:=d0) h t,0,a,d,e=>by
  have e:(k,d0)=(a,d):=by simpa using e
  cases e
  exact ⟨v,rfl,h⟩
 | _,_,.cons h t,j+1,a,d,e=>by
  obtain ⟨v,b,r⟩:=RpT.at t (j:=j) (by simpa using e)
  exact ⟨v,by simpa using b,r⟩
theorem RpT.erase {G:Hp}:∀ {kvs:List (List Key × V)} {es:List (List Key × PyData)},RpT G kvs es->∀ (j:Nat),RpT G (kvs.eraseIdx j) (es.eraseIdx j)
 | _,_,.nil,_ => .nil
 | _,_,.cons _ t,0=>t
 | _,_,.cons h t,j+1 => .cons h (RpT.erase t j)
theorem avu {es0:List (List Key × PyData)} (x:Has env i (OT es0)) (h:Ev B ty env fun y e2=>∃ es m j d,e2[i]?=some (some (.own (OT es)))/\y=tkD m/\es[j]?=some (m,d)/\Q' d (e2.set i (some (.own (OT (es.eraseIdx j)))))):Ev B (atd (tVar i) ty) env Q':=fun σ G H F Q I k=>by
 obtain ⟨v,o,a,kvs,C,ha,rt,_⟩:=I.has x
 subst C
 refine ⟨_,o,a,rfl,.inr ⟨kvs,.inl ha⟩,h σ G H F _ I fun u w H2 F2 y e2 r s E ⟨es,m,j,d,l,K,A,q⟩=>?_⟩
 subst K
 obtain ⟨L,g,⟨M,f,p,n,c,hf⟩,hb⟩:=r.sl i _ l
 rw [o] at g;cases g;cases p
 cases E with
 | @tup b vs ds hk rs =>
  have:=ano rs
  subst this
  obtain ⟨D,z,J⟩:=RpT.at c A
  refine ⟨f,m,j,D,b,n,rfl,r.gh _ _ hk,z,?_⟩
  exact k _ w _ _ _ _ (r.upd1 (A':=OT (es.eraseIdx j)) l (.inl rfl) o hf ⟨a,_,rfl,aah,RpT.erase c j,fun b=>Iff.rfl⟩) s J q
theorem a0z {es:List (List Key × PyData)} (d:Has env i (OT es)) (q:Q' (.bool (!es.isEmpty)) env):Ev B (tOp rNeE (tVar i) amn) env Q':=fun σ G H F Q I k=>by
 obtain ⟨v,f,a,kvs,c,ha,rt,_⟩:=I.has d
 subst c
 refine ⟨_,f,fun p b=>⟨a,p,kvs,rfl,rfl,by rw [aae (aan ha b)];exact ha,aah,?_⟩⟩
 have o:=Out.newDT (xs:=[]) (ds:=[]) I.gh b .nil
 have e:kvs.isEmpty=es.isEmpty:=by cases rt <;> rfl
 rw [e]
 exact k _ G _ F _ env (I.out o).1 (Same.refl _) (.bl _) q
theorem ayo {es:List (List Key × PyData)} (d:Has env i (OT es)) (q:Q' (.int es.length) env):Ev B (tCB awo (aa5 (tVar i) tNil)) env Q':=fun σ G H F Q I k=>by
 obtain ⟨v,b,a,kvs,c,ha,rt,_⟩:=I.has d
 subst c
 refine ⟨_,b,a,kvs,rfl,ha,?_⟩
 rw [(RpT.len rt).1]
 exact k _ G H F _ env I (Same.refl _) (.int _) q
@[reducible] def ace (es:List (Key × PyData)):PyData:=.dict (es.map fun p=>(kD p.1,p.2))
theorem ayp {a b:Key} (h:kD a=kD b):a=b:=by
 cases a <;> cases b <;> simp [kD] at h <;> rw [h]
theorem atg:∀ {es fs:List (Key × PyData)},es.map (fun p=>(kD p.1,p.2))=fs.map (fun p=>(kD p.1,p.2))->es=fs
 | [],[],_=>rfl
 | [],_ :: _,h=>by simp at h
 | _ :: _,[],h=>by simp at h
 | (a,x) :: es,(b,y) :: fs,h=>by
  simp only [aD0,List.cons.injEq,Prod.mk.injEq] at h
  rw [ayp h.1.1,h.1.2,atg h.2]
theorem apv {G:Hp} {v:V} {es:List (Key × PyData)} (r:Rp G v (ace es)) (b:es ≠ []):∃ a kvs,v=.ref a/\G a=some (.dK kvs)/\RpK G kvs es:=by
 cases r with
 | dk h rk e=>exact ⟨_,_,rfl,h,by rw [atg e];exact rk⟩
 | @dt a kvs es' ds h rt e =>
  cases es with
  | nil=>exact absurd rfl b
  | cons p es =>
   cases es' with
   | nil=>simp at e
   | cons q es' =>
    simp only [aD0,List.cons.injEq,Prod.mk.injEq] at e
    have:=e.1.1
    obtain ⟨k,x⟩:=p
    cases k <;> simp [kD] at this
theorem avv {g:TE} (h:Ev B g env fun x i=>Ev B ty i fun y e2=>∃ es k d,x=ace es/\es ≠ []/\y=kD k/\valD es k=some d/\Q' d e2):Ev B (al3 g ty) env Q':=fun σ G H F Q I o =>
 h σ G H F _ I fun v m A l x i J E r s=>s σ m A l _ J fun u p H2 F2 y e2 j f z n=>by
  obtain ⟨es,k,d,ex,c,K,C,q⟩:=n
  subst ex K
  obtain ⟨a,kvs,rfl,ha,L⟩:=apv (r.same f) c
  obtain ⟨w,D,b⟩:=(RpK.val L).2 d C
  have:=ajs z
  subst this
  exact ⟨a,w,rfl,.inl ⟨kvs,k,.inl (j.gh _ _ ha),rfl,D.symm⟩,o _ p H2 F2 _ e2 j (E.trans f) b q⟩
theorem aq8 {l:TE} (h:Ev B ty env fun y m=>Ev B l m fun x e2=>∃ es k,x=ace es/\es ≠ []/\y=kD k/\Q' (.bool (!(valD es k).isSome)) e2):Ev B (afs ty l) env Q':=fun σ G H F Q I i =>
 h σ G H F _ I fun v r E p y m K n z A=>A σ r E p _ K fun u j H2 F2 x e2 f g D s=>by
  obtain ⟨es,k,ex,c,L,q⟩:=s
  subst ex L
  obtain ⟨a,kvs,rfl,ha,o⟩:=apv D c
  have:=ajs z
  subst this
  have b:=f.gh _ _ ha
  cases hv:valD es k with
  | none =>
   rw [hv] at q
   exact ⟨a,none,rfl,.inl ⟨kvs,k,.inl b,rfl,((RpK.val o).1 hv).symm⟩,i _ j H2 F2 _ e2 f (n.trans g) (.bl _) q⟩
  | some d =>
   rw [hv] at q
   obtain ⟨w,J,C⟩:=(RpK.val o).2 d hv
   exact ⟨a,some w,rfl,.inl ⟨kvs,k,.inl b,rfl,J.symm⟩,i _ j H2 F2 _ e2 f (n.trans g) (.bl _) q⟩
end
section
variable {B:Bs} {env:En} {QO:Sl->En->Prop} {Q':PyData->En->Prop} {K:Frag} {i:Nat}
end
theorem ath {α:Type} {K:Frag} {src:List (Option Nat)} {a:En} {te:TE} {c:TT} {R:List PyData->En->Prop} {xs:List α} {f : α->PyData} (g : α->PyData) (p : α->Bool) (q:noIo (aaz src a)=true) (L:xs.length<=999999)
  (h:∀ x∈xs,∀ j:Bs,j.K=K->EvT j c (some (.st (f x)) :: aaz src a) fun b r=>b=p x/\r=some (.st (f x)) :: aaz src a/\(b=true->Ev j te (some (.st (f x)) :: aaz src a) fun y m=>y=g x/\m=some (.st (f x)) :: aaz src a))
  (E:R ((xs.filter p).map g) a):LcV K (none :: src) (abw 0) c te (xs.map f) a R:=by
 have l:noIo (aaz (none :: src) a)=true:=by
  show ((none :: aaz src a).all fun s => !isIo s)=true
  rw [List.all_cons]
  exact (aG3 _ _).mpr ⟨rfl,q⟩
 refine ⟨fun i ys e=>ys=((xs.take i).filter p).map g/\∃ o,e=stO o :: aaz src a,⟨by simp,none,rfl⟩,?_,?_,?_⟩
 ·rintro i ys e ⟨_,o,rfl⟩
  exact ⟨⟨isIo_stO.symm,ahc⟩,aff afn⟩
 ·rintro i d ys e hd ⟨rfl,o,rfl⟩ j B
  rw [aA5] at hd
  cases hx:xs[i]? with
  | none=>rw [hx] at hd;cases hd
  | some x =>
  rw [hx] at hd
  cases hd
  have hi:i < xs.length:=(aA1.mp hx).1
  have w:xs.take (i+1)=xs.take i ++ [x]:=by rw [aG6,hx];rfl
  refine abq ?_
  show EvT j c (some (.st (f x)) :: aaz src a) _
  intro σ G H F Q I k
  refine h x (aA2 hx) j B σ G H F Q I fun b G' H' F' r n g' ⟨hb,A,C⟩=>k b G' H' F' r n g' ?_
  subst A
  by_cases hp:b=true
  ·rw [aE7 hp]
   intro σ G H F Q I k
   refine C hp σ G H F Q I fun v G' H' F' d' m n g' z ⟨D,u⟩=>k v G' H' F' d' m n g' z ?_
   subst D u
   refine ⟨?_,?_,some _,rfl⟩
   ·have:=List.length_filter_le p (xs.take i)
    simp only [aA3]
    have J:(xs.take i).length<=i:=by simp;lia
    lia
   ·rw [w,List.filter_append,aD9]
    have:p x=true:=by rw [← hb];exact hp
    simp [this]
  ·rw [aE8 hp]
   refine ⟨?_,some _,rfl⟩
   rw [w,List.filter_append,aD9]
   have:p x=false:=by rw [← hb];simpa using hp
   simp [this]
 ·rintro ys e ⟨rfl,o,rfl⟩
  rw [akm l,aA3,aG0]
  exact E
section
variable {B:Bs} {env:En} {QO:Sl->En->Prop} {Q':PyData->En->Prop} {K:Frag} {i:Nat}
theorem anw {n i:TE} (h:Ev B n env fun d u=>EvO B i u fun s e2=>∃ ds,s=.own (OL ds)/\QO (.own (OW d ds)) e2):EvO B (tTup (aa5 n (aa5 i tNil))) env QO:=fun σ G H F Q I k =>
 h σ G H F _ I fun v C L A d u N M E y=>y σ C L A _ N fun w r H2 F2 Fv s e2 f j x D=>by
  obtain ⟨ds,es,q⟩:=D
  subst es
  obtain ⟨l,vs,rfl,g,rs,hf⟩:=x.ok
  refine ⟨show (2:Nat)<=sizeLine by rw [sizeLine_eq];decide,fun p c=>?_⟩
  have pl:p ≠ l:=(aan g c).symm
  have J:VI B r (upd H2 p (.tup [v,.ref l])) σ e2 F2:=f.grow (Same.refl _) (f.gh.trans (abf c)) (abf c) (fun a o e => .inl e) fun a K e=>by
   by_cases z:a=p
   ·subst z;rw [aah] at e;exact absurd (aC5 e) anq
   ·rw [aae z] at e;exact f.ft a K e
  refine k _ r _ _ (fun a=>a=p\/a=l) (.own (OW d ds)) _ J (M.trans j) ⟨⟨p,l,v,vs,rfl,aah,E.same j,by rw [aae pl.symm];exact g,rs,fun b=>Iff.rfl⟩,fun a z=>?_,fun a z=>?_,fun a z=>?_,fun m a z=>?_⟩ q
  ·rcases z with rfl | rfl
   ·exact f.no_b c
   ·exact x.fb a ((hf a).mpr rfl)
  ·rcases z with rfl | rfl
   ·exact f.no_g c
   ·exact x.fg a ((hf a).mpr rfl)
  ·rcases z with rfl | rfl
   ·exact ⟨_,aah⟩
   ·exact ⟨_,by rw [aae pl.symm];exact g⟩
  ·rcases z with rfl | rfl
   ·exact f.no_f c m
   ·exact x.fd m a ((hf a).mpr rfl)
end
section
variable {B:Bs} {env:En} {QO:Sl->En->Prop} {Q':PyData->En->Prop} {K:Frag} {E:XK} {i:Nat}
end
inductive RpF (G:Hp):List (Str × V)->List (Str × PyData)->Prop
 | nil:RpF G [] []
 | cons {x:Str} {u:V} {d:PyData} {us:List (Str × V)} {fs:List (Str × PyData)}:Rp G u d->RpF G us fs->RpF G ((x,u) :: us) ((x,d) :: fs)
def putP (x:Str) (d:PyData):List (Str × PyData)->List (Str × PyData)
 | []=>[(x,d)]
 | (y,e) :: fs=>if y=x then (y,d) :: fs else (y,e) :: putP x d fs
theorem RpF.same {G G':Hp} {us:List (Str × V)} {fs:List (Str × PyData)} (h:RpF G us fs) (g:Same G G'):RpF G' us fs:=by
 induction h with
 | nil=>exact .nil
 | cons r _ ih=>exact .cons (r.same g) ih
theorem RpF.get {G:Hp} {x:Str} {d:PyData} {us:List (Str × V)} {fs:List (Str × PyData)} (h:RpF G us fs) (e:fs.lookup x=some d):∃ u,us.lookup x=some u/\Rp G u d:=by
 induction h with
 | nil=>cases e
 | @cons y u d' us fs r _ ih =>
  rw [aG1] at e ⊢
  cases hx:x == y with
  | true=>rw [hx] at e;cases e;exact ⟨u,rfl,r⟩
  | false=>rw [hx] at e;exact ih e
theorem RpF.no {G:Hp} {x:Str} {us:List (Str × V)} {fs:List (Str × PyData)} (h:RpF G us fs) (e:fs.lookup x=none):us.lookup x=none:=by
 induction h with
 | nil=>rfl
 | @cons y u d' us fs r _ ih =>
  rw [aG1] at e ⊢
  cases hx:x == y with
  | true=>rw [hx] at e;cases e
  | false=>rw [hx] at e;exact ih e
theorem RpF.length {G:Hp} {us:List (Str × V)} {fs:List (Str × PyData)} (h:RpF G us fs):us.length=fs.length:=by
 induction h with
 | nil=>rfl
 | cons _ _ ih=>simp [ih]
theorem RpF.put {G:Hp} {x:Str} {u:V} {d:PyData} {us:List (Str × V)} {fs:List (Str × PyData)} (h:RpF G us fs) (r:Rp G u d):RpF G (L2.putF x u us) (putP x d fs):=by
 induction h with
 | nil=>exact .cons r .nil
 | @cons y u' d' us fs r' hh ih =>
  unfold L2.putF putP
  by_cases e:y=x
  ·rw [aE7 e,aE7 e];first | exact .cons r hh | (rw [e];exact .cons r hh)
  ·rw [aE8 e,aE8 e];exact .cons r' ih
def OI (C:Addr) (fs:List (Str × PyData)):Own where
 P:=fun G H v F=>∃ a dx us,v=.ref a/\H a=some (.ins C dx us)/\H dx=some (.own a)/\RpF G us fs/\∀ b,F b ↔ b=a\/b=dx
 mono:=fun ⟨a,dx,us,e,h1,h2,r,f⟩ g hh=>⟨a,dx,us,e,hh a _ ((f a).mpr (.inl rfl)) h1,hh dx _ ((f dx).mpr (.inr rfl)) h2,r.same g,f⟩
 dom:=fun ⟨a,dx,us,e,h1,h2,r,f⟩ b z=>by
  rcases (f b).mp z with rfl | rfl
  ·exact ⟨_,h1⟩
  ·exact ⟨_,h2⟩
section
variable {B:Bs} {env:En} {QO:Sl->En->Prop} {Q':PyData->En->Prop} {D':VEnds} {K:Frag} {C:Addr} {i:Nat} {fs:List (Str × PyData)} {x:Str} {tv:TE}
theorem ae4 {d:PyData} (h:Has env i (OI C fs)) (c:Cls K C) (n:NoAttr K C x) (hd:fs.lookup x=some d) (q:Q' d env):Ev B (tFld K (tVar i) x) env Q':=fun σ G H F Q I k=>by
 obtain ⟨v,j,a,dx,us,rfl,g,m,r,f⟩:=I.has h
 obtain ⟨u,b,l⟩:=r.get hd
 exact ⟨_,j,a,C,dx,us,u,rfl,g,c,n,b,k u G H F d env I (Same.refl _) l q⟩
theorem ayq (c:Cls K C) (n:NoAttr K C x) (h:EvO B tv env fun s g=>FQ s fun d=>∃ s0,g[i]?=some (some s0)/\(s0=.own (OI C fs)\/s0=.io (OI C fs))/\fs.length < 1000/\D'.nx (g.set i (some (reS s0 (OI C (putP x d fs)))))):EvS B (sFld K (tVar i) tv x) D' env:=fun σ G H F D I r =>
 abo (te:=tv) (Q':=fun d g=>∃ s0,g[i]?=some (some s0)/\(s0=.own (OI C fs)\/s0=.io (OI C fs))/\fs.length < 1000/\D'.nx (g.set i (some (reS s0 (OI C (putP x d fs)))))) h σ G H F _ I fun y O M u d g l W S R=>by
  obtain ⟨s0,o,L,T,q⟩:=R
  obtain ⟨v,N,j⟩:=l.sl i _ o
  have ap:(OI C fs).P O M v (u i):=by
   rcases L with rfl | rfl
   ·exact j.1
   ·exact j.1
  obtain ⟨a,dx,us,rfl,E,p,rf,f⟩:=ap
  refine ⟨_,N,a,C,dx,us,rfl,E,c,n,by rw [rf.length];exact T,?_⟩
  have Q:a ≠ dx:=ahp E p (by intro z;cases z)
  have J:=l.change (A:=OI C (putP x d fs)) (H2:=upd M a (.ins C dx (L2.putF x y us))) (F2:=u i) (os':=reS s0 (OI C (putP x d fs))) i o N (fun b w hb m=>by rw [aae (fun z:b=a=>hb ((f b).mpr (.inl z)))];exact m)
   (fun b w m=>by
    by_cases z:b=a
    ·rw [z];exact ⟨_,aah⟩
    ·rw [aae z];exact ⟨w,m⟩)
   (fun b z=>⟨.inl z,by
    by_cases y:b=a
    ·rw [y];exact ⟨_,aah⟩
    ·rw [aae y];exact l.fo i b z⟩) ⟨a,dx,_,rfl,aah,by rw [aae Q.symm];exact p,rf.put S,f⟩ (fun b U e=>by
    by_cases z:b=a
    ·subst z;rw [aah] at e;cases e
    ·rw [aae z] at e;exact l.ft b U e) (by
    rcases L with rfl | rfl
    ·exact .inl ⟨rfl,_,rfl⟩
    ·exact .inr ⟨rfl,_,rfl⟩)
  exact r.nx _ _ _ _ _ J W q
theorem ack {f:VIo} {t:TA} {E:XK} {m:Str} (c:Has env i (OI C fs)) (hm:fs.lookup m=none) (h:EvA B t env fun ds d=>∃ s0 A,d[i]?=some (some s0)/\(s0=.own A\/s0=.io A)/\f A (ds.map Sl.st) fun A' s=>QO s (d.set i (some (reS s0 A')))):EvO B (af3 C m (spI K f) [] E (tVar i) t) env QO:=fun σ G H F Q I k=>by
 obtain ⟨v,g,a,dx,us,rfl,j,n,r,p⟩:=I.has c
 have l:∃ s,env[i]?=some (some s):=by rcases c with e | e <;> exact ⟨_,e⟩
 have:=ahb (K:=K) (E:=E) l h σ G H F Q I k
 unfold abx at this
 simp only [aE4] at this
 obtain ⟨o,b,q⟩:=this
 rw [g] at b
 cases b
 unfold af3
 simp only [aE4]
 exact ⟨_,g,a,dx,us,rfl,j,r.no hm,q⟩
theorem abt {f:VIo} {t:TA} {E:XK} {m:Str} (b:Has env i (OI C fs)) (hm:fs.lookup m=none) (h:EvA B t env fun ds a=>∃ s0 A,a[i]?=some (some s0)/\(s0=.own A\/s0=.io A)/\f A (ds.map Sl.st) fun A' s=>FQ s fun d=>Q' d (a.set i (some (reS s0 A')))):Ev B (af3 C m (spI K f) [] E (tVar i) t) env Q':=abo (ack b hm h)
theorem agh {f:VIo} {t:TA} {E:XK} (O:B.K=K) (h:EvA B t env fun ds g=>f (OI C []) (ds.map Sl.st) fun A' s=>s=.st .none/\QO (.own A') g):EvO B (aql C (spI K f) [] E t) env QO:=fun σ G H F Q I k =>
 h σ G H F _ I fun vs p d u ds g i N A D=>by
  intro x dx nx c m
  simp only [aE4]
  have l:Same d (upd (upd d dx (.own x)) x (.ins C dx [])):=fun a o e=>by rw [aae (aan e nx),aae (aan e c)];exact e
  have n:FT p (upd (upd d dx (.own x)) x (.ins C dx [])):=fun a L e=>by
   by_cases z:a=x
   ·subst z;rw [aah] at e;cases e
   ·rw [aae z] at e
    by_cases z2:a=dx
    ·subst z2;rw [aah] at e;cases e
    ·rw [aae z2] at e;exact i.ft a L e
  refine ⟨.ref x,vs,p,d,OI C [],_,fun b=>b=x\/b=dx,_,rfl,i.gh.trans l,n,l,⟨x,dx,[],rfl,aah,by rw [aae m,aah],.nil,fun b=>Iff.rfl⟩,fun a z=>?_,fun a z=>?_,ArgsOk.of A,D,fun A' s ⟨es,q⟩ v G' H' F' Fv o=>?_⟩
  ·rcases z with rfl | rfl
   ·exact i.no_g nx
   ·exact i.no_g c
  ·rcases z with rfl | rfl
   ·exact nx
   ·exact c
  ·subst es
   have M:v=.non:=by
    obtain ⟨r,_⟩:=o.ok
    cases r
    rfl
   have hh:Same d H':=o.rs
   have J:=i.grow o.gg o.gh hh (fun a w e=>by
    rcases o.gn a w e with z | z
    ·exact .inl z
    ·refine .inr ?_
     cases g:d a with
     | none=>rfl
     | some w1=>rw [l a w1 g] at z;cases z) o.ft
   have hn:∀ a,F' a->d a=none:=fun a z=>by
    rcases o.fi a z with y | y
    ·rcases y with rfl | rfl
     ·exact nx
     ·exact c
    ·cases g:d a with
     | none=>rfl
     | some w1=>rw [l a w1 g] at y;cases y
   exact ⟨M,k (.ref x) G' H' u F' (.own A') g J (N.trans o.gg) ⟨o.ap,fun a z=>i.no_b (hn a z),fun a z=>o.fg a z,fun a z=>A'.dom o.ap a z,fun j a z=>i.no_f (hn a z) j⟩ q⟩
end
theorem agi {x:Str} {d:PyData}:List.lookup x [(x,d)]=some d:=by rw [aG1,beq_self_eq_true]
theorem abm {x m:Str} {d:PyData} (h:(m == x)=false):List.lookup m [(x,d)]=none:=by rw [aG1,h];rfl
theorem put1 {x:Str} {d e:PyData}:putP x e [(x,d)]=[(x,e)]:=by unfold putP;rw [aE7 rfl]
end VL
namespace L2
open PySem PySem.Spec
structure ObAt (K:Frag) (mg:Str->Option Value) (x:Str) (C:Addr):Prop where
 mgx:mg x=some (.ref C)
 cl:Cls K C
 mks:PySem.W.makesIn K C=true
 kp:keepIn K (.ref C)=true
structure MeAt (K:Frag) (C:Addr) (m qn:Str) (st:Stmt) (ps:List Str) (f:Addr) (fd:FuncData):Prop where
 fn:Fun K m qn st f fd
 me:Meth K C m f
 bd:Binds K fd ps []
structure MeOk (P:Program) (w:World) (K:Frag) (mg:Str->Option Value) (base:Heap) (C:Addr) (m:Str) (k:Nat) (ps:List Str) (sp:Sp) (f:Addr) (fd:FuncData):Prop where
 me:Meth K C m f
 ok:FnOk P w K mg base CX0 k f fd ps sp
 bd:Binds K fd ps []
def CanM (P:Program) (w:World) (K:Frag) (mg:Str->Option Value) (base:Heap) (C:Addr) (m:Str) (k:Nat) (ps:List Str) (sp:Sp):Prop:=∃ f fd,MeOk P w K mg base C m k ps sp f fd
theorem MeAt.can {P:Program} {w:World} {K:Frag} {mg:Str->Option Value} {base:Heap} {C:Addr} {m qn:Str} {st:Stmt} {k:Nat} {ps:List Str} {sp:Sp} {f:Addr} {fd:FuncData} (D:MeAt K C m qn st ps f fd) (ok:FnOk P w K mg base CX0 k f fd ps sp):CanM P w K mg base C m k ps sp:=⟨f,fd,D.me,ok,D.bd⟩
section
variable {X:Cx} {k j:Nat} {ps:List Str} {sp:Sp} {x m:Str} {p pos apos:Pos} {o e:Expr} {es:List Expr} {t:TA} {ta:TE} {C:Addr}
theorem acl {pl:Sem Bool} (F:CanM X.prog X.w X.K X.mg X.base C m k ps sp) (c:Cls X.K C) (g:Room j X.A) (d:PE X o ta) (ha:PA X (e :: es) t) (i:k<=j:=by decide)
  (a:starEach (e :: es) X.env=(false,eval e X.env) :: starEach es X.env:=by rfl) (b:(backTo pos (starEach es X.env)).any (·.1)=false:=by rfl)
  (h:eval (.Call (.Attribute o m apos) (e :: es) [] pos) X.env=(do
   let ov ← eval o X.env
   standAt apos.atName
   let (f,first) ← holding [ov] (getMethod ov m pl)
   callWith pos f first (backTo pos (starEach (e :: es) X.env)) (backToKw pos (keywordEach [] X.env))):=by rfl) :
  PE X (.Call (.Attribute o m apos) (e :: es) [] pos) (af3 C m sp [] E0 ta t):=by
 obtain ⟨f,fd,M⟩:=F
 exact aw0 d c M.me M.ok (g.mono i) M.bd .nil al4 ha a b h
theorem abh {pl:Sem Bool} (F:CanM X.prog X.w X.K X.mg X.base C m k ps sp) (c:Cls X.K C) (b:Room j X.A) (a:PE X o ta) (g:k<=j:=by decide)
  (d:eval (.Call (.Attribute o m apos) [] [] pos) X.env=(do
   let ov ← eval o X.env
   standAt apos.atName
   let (f,first) ← holding [ov] (getMethod ov m pl)
   callWith pos f first (backTo pos (starEach [] X.env)) (backToKw pos (keywordEach [] X.env))):=by rfl) :
  PE X (.Call (.Attribute o m apos) [] [] pos) (af3 C m sp [] E0 ta tNil):=by
 obtain ⟨f,fd,M⟩:=F
 exact auc a c M.me M.ok (b.mono g) M.bd .nil al4 d
theorem agj (F:CanM X.prog X.w X.K X.mg X.base C "__init__" k ps sp) (O:ObAt X.K X.mg x C) (g:Room j X.A) (ha:PA X (e :: es) t) (h:k+1<=j:=by decide) (d:Gl X x:=by rfl) (a:(x == ("__debug__" : Str))=false:=by decide)
  (c:starEach (e :: es) X.env=(false,eval e X.env) :: starEach es X.env:=by rfl) (b:(backTo pos (starEach es X.env)).any (·.1)=false:=by rfl) :
  PE X (.Call (.Name x p) (e :: es) [] pos) (aql C sp [] E0 t):=by
 obtain ⟨f,fd,M⟩:=F
 exact aw1 ⟨O.mks,M.me.at_,M.me.fn,O.kp⟩ M.ok (g.mono h) d O.mgx M.bd .nil al4 ha a c b
end
end L2
namespace L2
open PySem PySem.W PyProof.Rows
section
variable {X:Cx}
end
end L2
namespace VL
open PySem PySem.Spec L2
section
variable {B:Bs} {env:En} {Q':PyData->En->Prop} {R:Sl->Prop} {td:TE}
end
def OGW (C:Addr) (x:Str) (d:PyData) (ds:List PyData):Own where
 P:=fun G H v F=>∃ a dx t l u vs,v=.ref a/\H a=some (.ins C dx [(x,.ref t)])/\H dx=some (.own a)/\H t=some (.tup [u,.ref l])/\Rp G u d/\H l=some (.lst vs)/\Rps G vs ds/\∀ b,F b ↔ (b=a\/b=dx)\/(b=t\/b=l)
 mono:=fun ⟨a,dx,t,l,u,vs,e,h1,h2,h3,r3,h4,r4,f⟩ g hh=>⟨a,dx,t,l,u,vs,e,hh a _ ((f a).mpr (.inl (.inl rfl))) h1,hh dx _ ((f dx).mpr (.inl (.inr rfl))) h2,hh t _ ((f t).mpr (.inr (.inl rfl))) h3,r3.same g,hh l _ ((f l).mpr (.inr (.inr rfl))) h4,r4.same g,f⟩
 dom:=fun ⟨a,dx,t,l,u,vs,e,h1,h2,h3,r3,h4,r4,f⟩ b z=>by
  rcases (f b).mp z with (rfl | rfl) | (rfl | rfl)
  ·exact ⟨_,h1⟩
  ·exact ⟨_,h2⟩
  ·exact ⟨_,h3⟩
  ·exact ⟨_,h4⟩
def OAny:Own where
 P:=fun G H v F=>∀ b,F b->∃ o,H b=some o
 mono:=fun h g hh b z=>by
  obtain ⟨o,e⟩:=h b z
  exact ⟨o,hh b o z e⟩
 dom:=fun h b z=>h b z
theorem anx {σ:St} {i:Nat} {v:V} (a : σ[i]?=some (some v)) : σ.set i (some v) = σ:=by
 apply aF4
 intro j
 rw [aD1]
 by_cases h:i=j
 ·subst h
  rw [aE7 rfl,a,aE7 (aA1.mp a).1]
 ·rw [aE8 h]
section
variable {B:Bs} {env:En} {QO:Sl->En->Prop} {Q':PyData->En->Prop} {D':VEnds} {K:Frag} {C:Addr} {i:Nat} {x:Str} {tv:TE}
theorem avw (c:Cls K C) (n:NoAttr K C x) (h:EvO B tv env fun s Q=>∃ d ds s0,s=.own (OW d ds)/\Q[i]?=some (some s0)/\(s0=.own (OI C [])\/s0=.io (OI C []))/\D'.nx (Q.set i (some (reS s0 (OGW C x d ds))))):EvS B (sFld K (tVar i) tv x) D' env:=fun σ G H F D I r =>
 h σ G H F _ I fun y G1 E M Fv s Q m g1 o z_=>by
  obtain ⟨d,ds,s0,es,Y,O,q⟩:=z_
  subst es
  obtain ⟨v,T,g⟩:=m.sl i _ Y
  have ap:(OI C []).P G1 E v (M i):=by
   rcases O with rfl | rfl
   ·exact g.1
   ·exact g.1
  obtain ⟨a,dx,us,rfl,L,W,rf,f⟩:=ap
  cases rf
  obtain ⟨t,l,u,vs,rfl,X,r3,Z,r4,f'⟩:=o.ok
  refine ⟨_,T,a,C,dx,[],rfl,L,c,n,by decide,?_⟩
  have ad:a ≠ dx:=ahp L W (by intro z;cases z)
  have N:a ≠ t:=ahp L X (by intro z;cases z)
  have al:a ≠ l:=ahp L Z (by intro z;cases z)
  have p:∀ b w,E b=some w->∃ w',upd E a (.ins C dx [(x,.ref t)]) b=some w':=fun b w S=>by
   by_cases z:b=a
   ·rw [z];exact ⟨_,aah⟩
   ·rw [aae z];exact ⟨w,S⟩
  have J:=m.change (A:=OAny) (H2:=upd E a (.ins C dx [(x,.ref t)])) (F2:=M i) (os':=reS s0 OAny) i Y T (fun b w hb S=>by rw [aae (fun z:b=a=>hb ((f b).mpr (.inl z)))];exact S) p
   (fun b z=>⟨.inl z,by obtain ⟨w,e⟩:=m.fo i b z;exact p b w e⟩) (fun b z=>by obtain ⟨w,e⟩:=m.fo i b z;exact p b w e) (fun b ks e=>by
    by_cases z:b=a
    ·subst z;rw [aah] at e;cases e
    ·rw [aae z] at e;exact m.ft b ks e) (by
    rcases O with rfl | rfl
    ·exact .inl ⟨rfl,_,rfl⟩
    ·exact .inr ⟨rfl,_,rfl⟩)
  have J2:=J.slot (Fv:=fun b=>M i b\/Fv b) i (some (.ref a)) (some (reS s0 (OGW C x d ds))) (fun b z=>z.elim (m.fg i b) (o.fg b)) (fun b z=>z.elim (m.fr i b) fun z=>by
    cases e:B.R b with
    | none=>rfl
    | some w=>have:=m.rb b w e;rw [o.fb b z] at this;cases this) (fun b z=>z.elim (fun z=>by obtain ⟨w,e⟩:=m.fo i b z;exact p b w e) fun z=>by obtain ⟨w,e⟩:=o.fo b z;exact p b w e) (fun j b hj z U=>by
    rw [aa8 hj] at U
    rcases z with z | z
    ·exact hj (m.fd j i b U z)
    ·exact o.fd j b z U) (fun t' et=>by
    cases et
    have hp:(OGW C x d ds).P G1 (upd E a (.ins C dx [(x,.ref t)])) (.ref a) (fun b=>M i b\/Fv b):=⟨a,dx,t,l,u,vs,rfl,aah,by rw [aae ad.symm];exact W,by rw [aae N.symm];exact X,r3,by rw [aae al.symm];exact Z,r4,fun b=>or_congr (f b) (f' b)⟩
    refine ⟨_,rfl,?_⟩
    rcases O with rfl | rfl
    ·exact ⟨hp,fun b z=>z.elim (g.2 b) (o.fb b)⟩
    ·exact ⟨hp,fun b z=>z.elim (g.2.1 b) fun z => .inr (o.fb b z),g.2.2⟩)
  rw [anx T,List.set_set] at J2
  exact r.nx _ _ _ _ _ J2 g1 q
theorem agk {t:TS} {d:PyData} {ds:List PyData} (i:Nat) (e:env[i]?=some (some (.own (OGW C x d ds)))) (h:EvS B t D' (env.set i (some (.own (OI C [(x,.tuple [d,.list ds])]))))):EvS B t D' env:=fun σ G H F D I r=>by
 obtain ⟨v,s,⟨a,dx,g,l,u,vs,rfl,p,o,n,A,m,w,f⟩,hb⟩:=I.sl i _ e
 have ft:F i g:=(f g).mpr (.inr (.inl rfl))
 have L:F i l:=(f l).mpr (.inr (.inr rfl))
 have fi:∀ b,b=g\/b=l->F i b:=fun b z=>(f b).mpr (.inr z)
 have fo:∀ b,b=a\/b=dx->F i b:=fun b z=>(f b).mpr (.inl z)
 have js:Same G (jn G H fun b=>b=g\/b=l):=abl fun b z=>I.fg i b (fi b z)
 have q:=(I.drop i).freeze (Fv:=fun b=>b=g\/b=l) (fun b z=>hb b (fi b z)) (fun j b z y=>by
  by_cases c:j=i
  ·subst c;exact putF_same.mp y
  ·rw [aa8 c] at y;exact c (I.fd j i b y (fi b z))) (fun b z=>I.fg i b (fi b z))
 have E:∀ b,b=a\/b=dx->¬ (b=g\/b=l):=fun b z y=>by
  rcases z with rfl | rfl <;> rcases y with rfl | rfl
  ·rw [p] at n;cases n
  ·rw [p] at m;cases m
  ·rw [o] at n;cases n
  ·rw [o] at m;cases m
 have J:=q.slot (Fv:=fun b=>b=a\/b=dx) i (some (.ref a)) (some (.own (OI C [(x,.tuple [d,.list ds])]))) (fun b z=>by rw [aji (E b z)];exact I.fg i b (fo b z)) (fun b z=>I.fr i b (fo b z)) (fun b z=>I.fo i b (fo b z)) (fun j b c z y=>by
  rw [aa8 c] at y;exact c (I.fd j i b y (fo b z))) (fun t K=>by
  cases K
  refine ⟨_,rfl,⟨a,dx,_,rfl,p,o,.cons (.tup (by rw [adu (.inl rfl)];exact n) (.cons (A.same js) (.cons (.lst (by rw [adu (.inr rfl)];exact m) (w.same js)) .nil))) .nil,fun b=>Iff.rfl⟩,fun b z=>hb b (fo b z)⟩)
 rw [anx s,List.set_set] at J
 exact h σ _ H _ D J (r.later js)
end
end VL
namespace DictL
open PySem PyProof.Rows
theorem aej:entryFor table "dict.update.loop" = some Builtin.«dict.update.loop»:=entryFor_of_tree (by kernel_rfl)
theorem acf:plainId "dict.update.loop" = true:=by decide +kernel
section
variable {prog:Program} {w:World} {A:Around} {R:Result->Shared->Prop} {I:Addr} {fp wr:List Addr} {n:Nat} {P:Nat->Value->Prop} {St:Nat->Heap->Prop} {K:Type} [DecidableEq K] {knd:KeyKind prog w K}
theorem apw {M:Model} {E:Value->Shared->Prop} {s:Shared} {t:Addr} {k v:Value} {Q:List Value->Shared->Prop} {c:Value->Sem (List Value)} (b:s.heap.IsTuple t #[k,v]) (h:Q [k,v] s):wpAny M A ((Builtin.Dict.pairItems (.ref t)).tryCatch c) Q E s:=by
 obtain ⟨⟨cls,dd,data,sl⟩,i,a,m,hd⟩:=b
 simp only at a hd
 subst a hd
 refine wpAny_tryCatch ?_
 unfold Builtin.Dict.pairItems
 obtain ⟨f,g,d,j,os⟩:=s
 wp_walk
 exact h
theorem ati (W:Walks prog w A.in1 I fp wr n P St) (S:Addr) (m:S ∉ fp) (u:Nat->K) (D val:Nat->Value) (tup:Nat->Addr) (g:Nat->List (K × Value)) (Z:∀ i,g (i+1)=stored (g i) (u i) (val i)) (hz:∀ i,i<=n->(g i).length<=sizeLine)
  (hP:∀ i v,P i v->v=.ref (tup i)) (f:∀ i,i < n->tup i ≠ S/\tup i ∉ wr) (p:∀ i,i < n->knd.is (u i) (D i)=true) :
  ∀ (k i:Nat) (s:Shared),n - i=k->i<=n->St i s.heap->(∀ j,i<=j->j < n->s.heap.IsTuple (tup j) #[D j,val j])->s.heap.DictOf knd S (g i) ->
   (∀ h' B,h'.DictOf knd S (g n)->(∀ b o,b ≠ S->b ∉ wr->s.heap.get? b=some o->h'.get? b=some o)->R (.ok (.ret .none)) { s with heap:=h',toks:=B }) ->
   codeAny (model prog w) A (.builtin "dict.update.loop" ⟨[.ref S,.ref I,rawInt i,.none],[]⟩) R s:=by
 have q:S ∉ wr:=fun h=>m (W.sub _ h)
 intro k
 induction k with
 | zero =>
  intro i s E hi d Q F U
  have J:i=n:=by lia
  subst J
  refine aJ4 aej ?_
  rw [aI9 acf _]
  show wpAny _ A.in1 (pyNext (.ref I) >>= _) _ _ s
  refine aI0 (W.done s _ _ d fun h' B hm=>?_)
  dsimp only
  unfold Builtin.Dict.addKeywords
  refine aI0 (aI0 (aI1 (aI1 ?_)))
  refine aI1 ?_
  exact U h' B (by obtain ⟨o,es,L,c,r⟩:=F;exact ⟨o,es,L,hm S o q c,r⟩) fun b o _ hb e=>hm b o hb e
 | succ k ih =>
  intro i s E hi d Q F U
  have a:i < n:=by lia
  refine aJ4 aej ?_
  rw [aI9 acf _]
  show wpAny _ A.in1 (pyNext (.ref I) >>= _) _ _ s
  refine aI0 (W.item i s _ _ a d fun v h' B C x hm=>?_)
  have ev:=hP i v C
  subst ev
  dsimp only
  have X:h'.IsTuple (tup i) #[D i,val i]:=by
   obtain ⟨o,c,r⟩:=Q i (aA6 _) a
   exact ⟨o,hm _ o (f i a).2 c,r⟩
  have N:h'.DictOf knd S (g i):=by obtain ⟨o,es,L,c,r⟩:=F;exact ⟨o,es,L,hm S o q c,r⟩
  refine aI0 (aI5 ?_)
  refine aI0 (apw X ?_)
  dsimp only
  refine aI5 (wpAny_dictSet_pairs (p i a) N (fun Y O l=>?_) (hz i hi))
  have keep:∀ b o,b ≠ S->b ∉ wr->s.heap.get? b=some o->Y.get? b=some o:=fun b o b1 y e=>by rw [l.2 b b1];exact hm b o y e
  refine aI1 ⟨plainId_quiet acf _,ih (i+1) _ (by lia) a ?_ ?_ (by rw [Z];exact O) ?_⟩
  ·exact W.frame _ _ _ x fun b hb o e=>by rw [l.2 b (fun z:b=S=>m (by rw [← z];exact hb))];exact e
  ·intro j j1 T
   obtain ⟨o,c,r⟩:=Q j (by lia) T
   exact ⟨o,keep _ o (f j T).1 (f j T).2 c,r⟩
  ·intro h3 H M G
   exact U h3 H M fun b o b1 y e=>G b o b1 y (keep b o b1 y e)
end
section
variable {prog:Program} {w:World} {A:Around} {E:Value->Shared->Prop} {s:Shared}
theorem a00:typeLookup (.type "list") (Str.ofString "keys")=pure none:=by rw [typeLookup_type,builtinLookup_eq_fast];kernel_rfl
theorem apx {a:Addr} {xs:Array Value} {k:Nat} {Q:Option Value->Shared->Prop} (i:s.heap.get? a=some { cls:=.type "list",data:=.seq xs k }) (n:A.handled=none)
  (h:∀ h' j,(∀ b o,s.heap.get? b=some o->h'.get? b=some o)->Q none { s with heap:=h',toks:=j }):wpAny (model prog w) A (getAttr? (.ref a) (Str.ofString "keys")) Q E s:=by
 obtain ⟨m,g,d,j,os⟩:=s
 have l:∀ f,(⟨m,g,d,f,os⟩:Shared).TypeIs (.ref a) "list":=fun _=>⟨_,i,rfl⟩
 have q:=sub_AttributeError
 have p:=PySem.F.slot_list_getattribute.lookup
 have r:=PySem.F.slot_list_getattribute.bind (.ref a)
 have x:=am_list_getattr_none
 unfold getAttr? getAttrBy? getAttrBy
 repeat (any_goals (first | assumption | exact l _ | ((with_reducible show wpAny _ _ (call (Value.builtin "list.__getattribute__") _ _) _ _ _);refine call_meets PySem.F.slot_list_getattribute (l _) am_entry_list_getattribute (PySem.F.args_list_getattribute_2 _ _) (meets_getattribute_miss_list a xs k #[] (Str.ofString "keys") _ a00 (by decide +kernel) (by size_fits)) ⟨i,n,fun h' f e c=>?_⟩) | wp_step))
 obtain ⟨t',u,v⟩:=c.there
 show wpAny _ _ (getattributeRaised _ _ _ _ _ _ _) _ _ _
 unfold getattributeRaised
 repeat (any_goals (first | assumption | wp_step))
 exact h _ _ c.keeps
end
section
variable {prog:Program} {w:World} {A:Around} {E:Value->Shared->Prop} {s:Shared} {K:Type} [DecidableEq K] {knd:KeyKind prog w K}
theorem call_dict_list {l:Addr} {items:Array Value} {nl:Nat} {Q:Value->Shared->Prop} (f:Nat->K) (G val:Nat->Value) (tup:Nat->Addr) (m:Nat->List (K × Value)) (S:m 0=[]) (R:∀ i,m (i+1)=stored (m i) (f i) (val i)) (hz:∀ i,i<=items.size->(m i).length<=sizeLine)
  (hh:A.handled=none) (q:s.heap.get? l=some { cls:=.type "list",data:=.seq items nl }) (T:∀ i v,items[i]?=some v->v=Value.ref (tup i)) (O:∀ j,j < items.size->s.heap.IsTuple (tup j) #[G j,val j]) (y:∀ i,i < items.size->knd.is (f i) (G i)=true)
  (h:∀ (h':Heap) (M:Nat),h'.DictOf knd s.heap.objs.size (m items.size)->(∀ b o,s.heap.get? b=some o->h'.get? b=some o)->Q (.ref s.heap.objs.size) { s with heap:=h',toks:=M }) :
  wpAny (model prog w) A (call (.type "dict") [.ref l]) Q E s:=by
 refine callType_codes (Q₁:=fun obj c=>obj=.ref s.heap.objs.size/\c={ s with heap:=s.heap.push { cls:=.type "dict",data:=.dict #[] } }) F.kt_called_dict (F.kt_typeCall_dict_1 _) F.entry_dict_init (kt_code_dict_new (.ref l) ⟨rfl,rfl⟩) fun obj c u=>?_
 obtain ⟨rfl,rfl⟩:=u
 have N:(s.heap.push { cls:=.type "dict",data:=.dict #[] }).get? s.heap.objs.size=some { cls:=.type "dict",data:=.dict #[] }:=aI4 _ rfl
 refine ⟨⟨_,N,rfl⟩,F.args_dict_init_2 _ _,?_⟩
 have a:(s.heap.push { cls:=.type "dict",data:=.dict #[] }).get? l=some { cls:=.type "list",data:=.seq items nl }:=aI2 _ q
 have U:(Value.type "list" == Value.type "dict")=false:=by decide
 unfold Builtin.«dict.__init__» Builtin.Dict.updateCommon Builtin.Dict.updateFrom
 obtain ⟨n,g,d,M,os⟩:=s
 dsimp only at *
 generalize hPI:pyIter=PI
 generalize hGA:getAttr?=GA
 wp_walk
 subst hGA hPI
 refine apx (s:={ heap:=n.push { cls:=.type "dict",data:=.dict #[] },gens:=g,drawn:=d,toks:=M,os:=os }) a hh fun p I D=>?_
 rw [aE7 (show (none:Option Value).isNone=true from rfl)]
 refine aI0 (wpAny_rule ?_)
 have x:p.IsList l items:=⟨_,D _ _ a,rfl,nl,rfl⟩
 have z:l < n.objs.size:=aI3 q
 have B:=D _ _ N
 have hsz:n.objs.size < p.objs.size:=aI3 B
 refine aI0 (aJ3 (s:={ heap:=p,gens:=g,drawn:=d,toks:=I,os:=os }) x ?_)
 refine aI1 ⟨plainId_quiet acf _,?_⟩
 have C:l ≠ p.objs.size:=aB5 (Nat.lt_trans z hsz)
 have L:n.objs.size ∉ [p.objs.size,l]:=by
  simp only [aA8,List.not_mem_nil,or_false,not_or]
  exact ⟨aB5 hsz,Nat.ne_of_gt z⟩
 have tl:∀ j,j < items.size->tup j < n.objs.size:=fun j J=>let ⟨_,e,_⟩:=O j J;aI3 e
 refine ati (A:=A.in1) (knd:=knd) (Walks.list (A:=A.in1.in1) hh p.objs.size l C items) n.objs.size L f G val tup m R hz T (fun i hi=>⟨aB5 (tl i hi),by simp only [aC1];exact aB5 (Nat.lt_trans (tl i hi) hsz)⟩) y (items.size - 0) 0 _ (by lia) (aF2 _)
  ⟨⟨_,aI4 _ rfl,rfl,rfl⟩,x.push _⟩ (fun j _ J=>?_) ?_ fun h' H P kp=>?_
 ·obtain ⟨o,e,r⟩:=O j J
  exact ⟨o,aI2 _ (D _ _ (aI2 _ e)),r⟩
 ·rw [S]
  exact ⟨_,#[],0,aI2 _ B,⟨rfl,rfl,rfl⟩,rfl,fun e W=>by simp at W,.nil,List.nodup_nil⟩
 ·refine ⟨rfl,h h' H P fun b o e=>kp b o (aB5 (aI3 e)) (by simp only [aC1];exact aB5 (Nat.lt_trans (aI3 e) hsz)) (aI2 _ (D _ _ (aI2 _ e)))⟩
end
end DictL
namespace L2
open PySem PySem.W PyProof.Rows
def dkOf:List (Int × V)->List (Key × V):=fun kvs=>kvs.map fun p=>(.inl p.1,p.2)
def atj:List V->Hp->VK->Prop:=fun xs H Q=>∃ (a:Addr) (ts:List Addr) (kvs:List (Int × V)),xs=[.ref a]/\H a=some (.lst (ts.map V.ref))/\ts.length=kvs.length/\kvs.length < 4000/\(kvs.map (·.1)).Nodup /\
 (∀ (i:Nat) t kv,ts[i]?=some t->kvs[i]?=some kv->H t=some (.tup [.int kv.1,kv.2]))/\∀ p,H p=none->Q (.ref p) (upd H p (.dK (dkOf kvs)))
section
variable {K:Type} [DecidableEq K]
def kfOf (key:Nat->K) (val:Nat->Value):Nat->List (K × Value)
 | 0=>[]
 | i+1=>stored (kfOf key val i) (key i) (val i)
theorem anz (a:Nat->K) (val:Nat->Value):∀ i,(kfOf a val i).length<=i
 | 0=>aA6 _
 | i+1=>aC9 (stored_length_le _ _ _) (Nat.succ_le_succ (anz a val i))
theorem an0 {kvs:List (K × Value)} {k:K} (h:∀ p∈kvs,p.1 ≠ k):valueAt kvs k=none:=by
 unfold valueAt
 rw [Option.map_eq_none_iff,List.find?_eq_none]
 intro p a e
 exact h p a (by simpa using e)
theorem apy (a:Nat->K) (val:Nat->Value):∀ n,(∀ i j,i < n->j < n->i ≠ j->a i ≠ a j)->kfOf a val n=(List.range n).map fun i=>(a i,val i)
 | 0,_=>rfl
 | n+1,h=>by
  have b:=apy a val n fun i j hi d=>h i j (by lia) (by lia)
  show stored (kfOf a val n) (a n) (val n)=_
  rw [b,stored_absent,List.range_succ,aD9]
  ·rfl
  ·refine an0 fun p c=>?_
   obtain ⟨i,hi,rfl⟩:=aB6.mp c
   have:=aB8.mp hi
   exact h i n (by lia) (by lia) (by lia)
end
theorem atk {k:Nat->Key} {g:Nat->V} {g':Nat->Value}:∀ {l:List Nat},(∀ i∈l,RelV (g i) (g' i))->KV (l.map fun i=>(k i,g i)) (l.map fun i=>(k i,g' i))
 | [],_ => .nil
 | i :: l,h => .cons ⟨rfl,h i aB7⟩ (atk fun j a=>h j (aB4 _ a))
section
variable {X:Cx}
theorem aq9 (J:X.calm=true):abd X (.type "dict") atj:=by
 intro pins s σ H xs us Q I r h
 obtain ⟨a,b,kvs,rfl,ha,R,P,hn,N,q⟩:=h
 obtain ⟨u,rfl,B⟩:=ac0 r
 cases B
 obtain ⟨hz,its,nl,G,e⟩:=(show ObjOk X.prog X.w H s.heap a (.lst (b.map V.ref)) from I.hok a _ ha)
 have c:its.length=b.length:=by have:=G.length;rw [aA3] at this;lia
 have A:∀ i:Nat,∃ p:Value × Value,i < b.length->s.heap.IsTuple (b.getD i 0) #[p.1,p.2]/\(∃ t,p.1=.int ((kvs.getD i (0,.non)).1) t)/\RelV (kvs.getD i (0,.non)).2 p.2:=fun i=>by
  by_cases hi:i < b.length
  ·have x:b[i]?=some (b.getD i 0):=by rw [aD2,aA0 hi];rfl
   have e2:kvs[i]?=some (kvs.getD i (0,.non)):=by rw [aD2,aA0 (by lia)];rfl
   obtain ⟨_,L,l,p2⟩:=(show ObjOk X.prog X.w H s.heap _ (.tup _) from I.hok _ _ (N i _ _ x e2))
   cases l with
   | cons r1 l =>
    cases l with
    | cons l r3 =>
     cases r3
     exact ⟨(_,_),fun _=>⟨p2,r1,l⟩⟩
  ·exact ⟨(.none,.none),fun h=>absurd h hi⟩
 obtain ⟨f,hf⟩:=Classical.skolem.mp A
 have z:∀ i j,i < b.length->j < b.length->i ≠ j->(Sum.inl (kvs.getD i (0,.non)).1:Key) ≠ Sum.inl (kvs.getD j (0,.non)).1:=fun i j hi F n e=>by
  have e:=Sum.inl.inj e
  have g:=aF9.mp hn
  rw [aD2,aD2,aA0 (show i < kvs.length by lia),aA0 (show j < kvs.length by lia)] at e
  rcases Nat.lt_or_gt_of_ne n with d | d
  ·exact g i j (by rw [aA3];lia) (by rw [aA3];lia) d (by simpa using e)
  ·exact g j i (by rw [aA3];lia) (by rw [aA3];lia) d (by simpa using e.symm)
 refine DictL.call_dict_list (knd:=aba X.prog X.w) (items:=its.toArray) (nl:=nl) (fun i => .inl (kvs.getD i (0,.non)).1) (fun i=>(f i).1) (fun i=>(f i).2) (fun i=>b.getD i 0) (kfOf (fun i => .inl (kvs.getD i (0,.non)).1) fun i=>(f i).2) rfl (fun i=>rfl) (fun i hi=>aC9 (anz _ _ i) (aC9 hi (by rw [sizeLine_eq];simp;lia)))
  (I.ok.hd J) e (fun i v m=>?_) (fun j F=>(hf j (by simpa [c] using F)).1) (fun i hi=>?_) fun h' M E kp=>?_
 ·have m:its[i]?=some v:=by simpa using m
  have hi:=(aA1.mp m).1
  have x:(b.map V.ref)[i]?=some (.ref (b.getD i 0)):=by rw [aA5,aD2,aA0 (by lia)];rfl
  obtain ⟨u,D,B⟩:=G.get x
  rw [m] at D
  cases D
  exact B
 ·obtain ⟨_,⟨t,O⟩,_⟩:=hf i (by simpa [c] using hi)
  rw [O]
  exact ah6 _ _ _ _
 ·have y:h'.DictOf (aba X.prog X.w) s.heap.objs.size ((List.range b.length).map fun i=>(Sum.inl (kvs.getD i (0,.non)).1,(f i).2)):=by
   rw [show its.toArray.size=b.length by simp [c],apy _ _ _ z] at E
   exact E
  have C:KV (dkOf kvs) ((List.range b.length).map fun i=>((Sum.inl (kvs.getD i (0,.non)).1:Key),(f i).2)):=by
   have K:dkOf kvs=(List.range b.length).map fun i=>((Sum.inl (kvs.getD i (0,.non)).1:Key),(kvs.getD i (0,.non)).2):=by
    refine aF4 fun i=>?_
    unfold dkOf
    rw [aA5,aA5]
    by_cases hi:i < b.length
    ·rw [aD7 hi,aA0 (show i < kvs.length by lia),aH4,aH4,aD2,aA0 (show i < kvs.length by lia)]
     rfl
    ·rw [List.getElem?_eq_none (show kvs.length<=i by lia),List.getElem?_eq_none (show (List.range b.length).length<=i by rw [List.length_range];lia)]
     rfl
   rw [K]
   exact atk fun i hi=>(hf i (aB8.mp hi)).2.2
  refine ⟨.ref s.heap.objs.size,_,I.laid (t':=M) (o:=.dK (dkOf kvs)) kp (aA6 _) ?_,rfl,q _ (I.hok.fresh (aA6 _))⟩
  refine ⟨by unfold dkOf;rw [aA3,sizeLine_eq];lia,beq_eq_false_iff_ne.mpr (Ne.symm (aB5 I.big)),_,C,y⟩
end
end L2
namespace VL
open PySem PySem.Spec L2
def kvI {α:Type}:Nat->List α->List (Int × α)
 | _,[]=>[]
 | k,x :: xs=>((k:Int),x) :: kvI (k+1) xs
theorem apz {α:Type}:∀ (k:Nat) (xs:List α),(kvI k xs).length=xs.length
 | _,[]=>rfl
 | k,_ :: xs=>by rw [kvI,aE0,aE0,apz]
theorem ap0 {α:Type}:∀ (k:Nat) (xs:List α) (i:Nat),(kvI k xs)[i]?=xs[i]?.map fun x=>(((k+i:Nat):Int),x)
 | _,[],i=>by simp [kvI]
 | k,x :: xs,0=>by simp [kvI]
 | k,x :: xs,i+1=>by
  rw [kvI,aH3,aH3,ap0 (k+1) xs i,show k+1+i=k+(i+1) by lia]
theorem alf {α:Type}:∀ (k:Nat) (xs:List α),((kvI k xs).map (·.1)).Nodup/\∀ p∈kvI k xs,(k:Int)<=p.1
 | _,[]=>⟨List.nodup_nil,fun p a=>by simp [kvI] at a⟩
 | k,x :: xs=>by
  obtain ⟨c,b⟩:=alf (k+1) xs
  refine ⟨?_,fun p a=>?_⟩
  ·rw [kvI,aD0,aH6]
   refine ⟨fun hm=>?_,c⟩
   obtain ⟨p,a,e⟩:=aB6.mp hm
   have:=b p a
   simp only at e
   lia
  ·rw [kvI] at a
   rcases aA8.mp a with rfl | a
   ·exact Int.le_refl _
   ·have:=b p a;lia
theorem ap1:∀ (k:Nat) (xs:List V) (i:Nat),valV (dkOf (kvI k xs)) (.inl ((k+i:Nat):Int))=xs[i]?
 | _,[],i=>rfl
 | k,x :: xs,0=>by
  rw [kvI]
  exact af4 (p:=(Sum.inl (k:Int),x)) rfl
 | k,x :: xs,i+1=>by
  have e:¬ ((Sum.inl (k:Int):Key)=Sum.inl ((k+(i+1):Nat):Int)):=fun e=>by have:=Sum.inl.inj e;lia
  rw [kvI]
  show valV ((Sum.inl (k:Int),x) :: dkOf (kvI (k+1) xs)) _=_
  rw [af5 (p:=(Sum.inl (k:Int),x)) e,aH3,← ap1 (k+1) xs i,show k+1+i=k+(i+1) by lia]
@[reducible] def kvD (ds:List PyData):List (Key × PyData):=(kvI 0 ds).map fun p=>(.inl p.1,p.2)
theorem an1:∀ (k:Nat) (xs:List PyData) (i:Nat),valD ((kvI k xs).map fun p=>((.inl p.1:Key),p.2)) (.inl ((k+i:Nat):Int))=xs[i]?
 | _,[],i=>rfl
 | k,x :: xs,0=>by simp [kvI,valD]
 | k,x :: xs,i+1=>by
  have e:¬ ((k:Int)=((k+(i+1):Nat):Int)):=fun e=>by lia
  rw [kvI,aH3,← an1 (k+1) xs i,show k+1+i=k+(i+1) by lia]
  simp only [valD,aD0,List.find?_cons]
  rw [aD5 (fun z:(Sum.inl (k:Int):Key)=Sum.inl ((k+(i+1):Nat):Int)=>e (Sum.inl.inj z))]
theorem ayr {xs:List PyData} {i:Int} {d:PyData} (a:0<=i) (h:xs[i.toNat]?=some d):valD (kvD xs) (.inl i)=some d:=by
 have:=an1 0 xs i.toNat
 rw [show ((0+i.toNat:Nat):Int)=i by lia] at this
 exact this.trans h
theorem a01 {xs:List PyData} (h:xs ≠ []):kvD xs ≠ []:=by
 cases xs with
 | nil=>exact absurd rfl h
 | cons x xs=>exact List.cons_ne_nil _ _
def ODL (dss:List (List PyData)):Own where
 P:=fun G H v F=>∃ (a:Addr) (as:List Addr),v=.ref a/\H a=some (.dK (dkOf (kvI 0 (as.map V.ref))))/\as.Nodup/\a ∉ as/\as.length=dss.length/\(∀ (i:Nat) b ds,as[i]?=some b->dss[i]?=some ds->∃ vs,H b=some (.lst vs)/\Rps G vs ds)/\∀ b,F b ↔ b=a\/b∈as
 mono:=fun ⟨a,as,e,h,n1,n2,l,r,f⟩ g hh=>⟨a,as,e,hh a _ ((f a).mpr (.inl rfl)) h,n1,n2,l,fun i b ds hb hd=>by
  obtain ⟨vs,h1,h2⟩:=r i b ds hb hd
  exact ⟨vs,hh b _ ((f b).mpr (.inr (aA2 hb))) h1,h2.same g⟩,f⟩
 dom:=fun ⟨a,as,e,h,n1,n2,l,r,f⟩ b z=>by
  rcases (f b).mp z with rfl | z
  ·exact ⟨_,h⟩
  ·obtain ⟨i,hi,e⟩:=aG8.mp z
   have hb:as[i]?=some b:=by rw [aA0 hi,e]
   obtain ⟨vs,h1,_⟩:=r i b _ hb (aA0 (by rw [← l];exact hi))
   exact ⟨_,h1⟩
theorem atl {G:Hp}:∀ (k:Nat) {vs:List V} {ds:List PyData},vs.length=ds.length->(∀ (i:Nat) v d,vs[i]?=some v->ds[i]?=some d->Rp G v d)->RpK G (dkOf (kvI k vs)) ((kvI k ds).map fun p=>(.inl p.1,p.2))
 | _,[],[],_,_ => .nil
 | _,[],_ :: _,h,_=>by simp at h
 | _,_ :: _,[],h,_=>by simp at h
 | k,v :: vs,d :: ds,h,q => .cons (q 0 v d rfl rfl) (atl (k+1) (by simpa using h) fun i v d a b=>q (i+1) v d (by simpa using a) (by simpa using b))
theorem ays {c:List (List PyData)}:Frz (ODL c) (ace (kvD (c.map .list))):=fun G H v F ⟨a,as,e,h,q,p,l,r,f⟩ n g=>by
 subst e
 refine .dk (by rw [adu ((f a).mpr (.inl rfl))];exact h) (atl 0 (by simp [l]) fun i u d j hd=>?_) rfl
 rw [aA5] at j hd
 cases hb:as[i]? with
 | none=>rw [hb] at j;cases j
 | some b =>
  cases hds:c[i]? with
  | none=>rw [hds] at hd;cases hd
  | some ds =>
   rw [hb] at j;rw [hds] at hd
   cases j;cases hd
   obtain ⟨vs,o,m⟩:=r i b ds hb hds
   exact .lst (by rw [adu ((f b).mpr (.inr (aA2 hb)))];exact o) (m.same (abl n))
section
variable {B:Bs} {env:En} {QO:Sl->En->Prop} {Q':PyData->En->Prop} {D':VEnds} {K:Frag} {i:Nat}
theorem atm {src:List (Option Nat)} {wi:TI} (h:EvI B wi env fun ds e1=>∃ n:Nat,ds=rngD 0 n/\n<=3000/\QO (.own (ODL (List.replicate n []))) e1) :
  EvO B (tCB atj (aa5 (tLC (none :: src) wi (abw 0) tYes (tTup (aa5 (tVar 0) (aa5 (tLst tNil) tNil)))) tNil)) env QO:=fun σ G H F Q I k=>by
 refine h σ G H F _ I fun J G1 U F1 ds e1 X g1 it ⟨N,ed,a8,q⟩ d r=>?_
 subst ed
 have hL:(rngD 0 N).length=N:=acy
 let W:Nat->List V->St->Hp->Prop:=fun n ys σI H=>∃ (K as:List Addr) (s:Hp),ys=K.map V.ref/\K.length=n/\as.length=n/\as.Nodup/\d ∉ as/\0 < σI.length /\
  (∀ (i:Nat) t b,K[i]?=some t->as[i]?=some b->H t=some (.tup [.int (i:Int),.ref b]))/\(∀ t∈K,U t=none/\t ≠ d/\t ∉ as) /\
  (∀ b∈as,U b=none/\s b=none/\H b=some (.lst []))/\H d=some (.lst ys)/\s d=none/\Same G1 s/\Same s H/\Same U H/\(∀ a o,s a=some o->G1 a=some o\/U a=none)/\FT s H
 refine ⟨fun n m ys σI H=>m=N - n/\n<=N/\W n ys σI H,⟨N,by simp,aF2 _,[],[],G1,rfl,rfl,rfl,List.nodup_nil,by simp,by simp [pick],fun i t b h=>by simp at h,fun t E=>by simp at E,fun b hb=>by simp at hb,aah,X.no_g r,Same.refl _,X.gh.trans (abf r),abf r,fun a o e => .inl e,fun a ks e=>?_⟩,?_⟩
 ·by_cases z:a=d
  ·subst z;rw [aah] at e;cases e
  ·rw [aae z] at e;exact X.ft a ks e
 rintro n m ys σI H2 ⟨rfl,hn,K,as,s,rfl,hl,M,nd,na,a0,A,Y,all,l,ga,T,L,D,Z,R⟩
 refine ⟨l,?_⟩
 by_cases hlt:n < N
 ·refine .inr ⟨it.go n s H2 T L (by lia),fun a1 a2 H'=>W (n+1) a1 a2 H',fun a1 a2 H' hw=>⟨N - (n+1),by lia,rfl,hlt,hw⟩,fun x H3 y=>?_⟩
  obtain ⟨G3,o⟩:=it.yld n s H2 x H3 (.int (0+(n:Int))) T L R (by unfold rngD;rw [aA5,aD7 hlt];rfl) y
  have rx:=o.ok.1
  cases rx
  refine ahu (aja (acd (asc (afv (ams (v:=.int (0+(n:Int))) (by rw [aD1,aE7 rfl,aE7 a0]) (afv (asd (ae0 ⟨by decide,fun p g=>ae0 ⟨show (2:Nat)<=sizeLine by rw [sizeLine_eq];decide,fun t E=>?_⟩⟩))))))))
  have n2:H2 p=none:=aa6 o.hh g
  have n1:U p=none:=aa6 D n2
  have tp:t ≠ p:=fun e=>by rw [e,aah] at E;cases E
  rw [aae tp] at E
  have t2:H2 t=none:=aa6 o.hh E
  have t1:U t=none:=aa6 D t2
  have pa:p ≠ d:=(aan (o.hh _ _ l) g).symm
  have ta:t ≠ d:=(aan (o.hh _ _ l) E).symm
  have a7:p ∉ as:=fun z=>by
   have:=o.hh _ _ (all p z).2.2
   rw [this] at g;cases g
  have a4:t ∉ as:=fun z=>by
   have:=o.hh _ _ (all t z).2.2
   rw [this] at E;cases E
  have old:∀ a u,H2 a=some u->a ≠ d->upd (upd (upd H3 p (.lst [])) t (.tup [.int (0+(n:Int)),.ref p])) d (.lst (K.map V.ref ++ [.ref t])) a=some u:=fun a u e aa=>by
   have e3:=o.hh _ _ e
   rw [aae aa,aae (aan e3 E),aae (aan e3 g)]
   exact e3
  have a3:∀ c∈K,∃ u,H2 c=some u:=fun c f=>by
   obtain ⟨i,hi,e⟩:=aG8.mp f
   have O:K[i]?=some c:=by rw [aA0 hi,e]
   exact ⟨_,A i c _ O (aA0 (by lia))⟩
  refine ⟨by rw [aae ta.symm,aae pa.symm];exact o.hh _ _ l,by rw [aA3,hl];exact big (by lia),K ++ [t],as ++ [p],G3,by simp,by simp [hl],by simp [M],?_,?_,by rw [List.length_set];exact a0,fun i c b f hb=>?_,fun c f=>?_,fun b hb=>?_,aah,?_,T.trans o.gg,fun a u e=>?_,fun a u e=>?_,fun a u e=>?_,fun a ks e=>?_⟩
  ·rw [aE2]
   exact ⟨nd,by simp,fun x hx y hy=>by simp at hy;subst hy;intro e;subst e;exact a7 hx⟩
  ·intro z
   rcases aA7.mp z with z | z
   ·exact na z
   ·exact pa (aC1.mp z).symm
  ·by_cases hi:i < n
   ·rw [aC2 (by lia)] at f hb
    have S:=A i c b f hb
    exact old c _ S (Y c (aA2 f)).2.1
   ·have a6:i=n:=by
     have:=(aA1.mp f).1
     simp at this
     lia
    subst a6
    rw [aC7 (by lia),hl,aH7] at f
    rw [aC7 (by lia),M,aH7] at hb
    cases f
    cases hb
    rw [aae ta,aah,Int.zero_add]
  ·rcases aA7.mp f with f | f
   ·obtain ⟨O,S,h3⟩:=Y c f
    refine ⟨O,S,fun z=>?_⟩
    rcases aA7.mp z with z | z
    ·exact h3 z
    ·have e:=aC1.mp z
     subst e
     obtain ⟨u,e⟩:=a3 c f
     rw [e] at n2;cases n2
   ·have e:=aC1.mp f
    subst e
    refine ⟨t1,ta,fun z=>?_⟩
    rcases aA7.mp z with z | z
    ·exact a4 z
    ·exact tp (aC1.mp z)
  ·have gb:∀ b,s b=none->(∃ u,H2 b=some u)->G3 b=none:=fun b O z_=>by
    obtain ⟨u,S⟩:=z_
    cases e:G3 b with
    | none=>rfl
    | some w =>
     rcases o.gn b w e with e | e
     ·rw [O] at e;cases e
     ·rw [S] at e;cases e
   rcases aA7.mp hb with hb | hb
   ·obtain ⟨O,S,h3⟩:=all b hb
    exact ⟨O,gb b S ⟨_,h3⟩,old b _ h3 (fun z:b=d=>na (by rw [← z];exact hb))⟩
   ·have e:b=p:=by simpa using hb
    subst e
    exact ⟨n1,aa6 o.gh g,by rw [aae pa,aae tp.symm,aah]⟩
  ·cases e:G3 d with
   | none=>rfl
   | some w =>
    rcases o.gn d w e with e | e
    ·rw [ga] at e;cases e
    ·rw [l] at e;cases e
  ·have ap:a ≠ p:=aan (o.gh a u e) g
   have a5:a ≠ t:=aan (o.gh a u e) E
   have aa:a ≠ d:=by
    rintro rfl
    rcases o.gn _ u e with e | e
    ·rw [ga] at e;cases e
    ·rw [l] at e;cases e
   rw [aae aa,aae a5,aae ap];exact o.gh a u e
  ·exact old a u (D a u e) (aan e r)
  ·rcases o.gn a u e with e | e
   ·exact Z a u e
   ·exact .inr (aa6 D e)
  ·by_cases z:a=d
   ·subst z;rw [aah] at e;cases e
   ·rw [aae z] at e
    by_cases y:a=t
    ·subst y
     rw [aah] at e
     exfalso
     have e:=HO.tup.inj (aC5 e)
     match ks,e with
     | [],e=>simp at e
     | [_],e=>simp at e
     | [_,.inl _],e=>simp [kV] at e
     | [_,.inr _],e=>simp [kV] at e
     | _ :: _ :: _ :: _,e=>simp at e
    ·rw [aae y] at e
     by_cases y:a=p
     ·subst y;rw [aah] at e;cases e
     ·rw [aae y] at e;exact o.ft R a ks e
 ·have e:n=N:=by lia
  subst e
  refine .inl ⟨it.stop _ s H2 T L hL.symm,?_⟩
  have P:=X.grow T L D Z R
  have ke:(kvI 0 (as.map V.ref)).length=n:=by rw [apz,aA3];exact M
  refine ae0 ⟨d,K,kvI 0 (as.map V.ref),rfl,l,by lia,by lia,(alf 0 _).1,fun i c kv f C=>?_,fun p g=>?_⟩
  ·rw [ap0,aA5] at C
   cases hb:as[i]? with
   | none=>rw [hb] at C;cases C
   | some b =>
    rw [hb] at C
    cases C
    rw [Nat.zero_add]
    exact A i c b f hb
  ·have J:=P.aside (p:=p) (o:=.dK (dkOf (kvI 0 (as.map V.ref)))) (fun _ z=>nomatch z) (P.no_g g) (fun j z=>P.no_f g j z) (P.no_b g)
   have pn:p ∉ as:=fun z=>by have:=(all p z).2.2;rw [this] at g;cases g
   refine k (.ref p) s _ F1 (fun b=>b=p\/b∈as) (.own (ODL (List.replicate n []))) e1 J (g1.trans T) ⟨⟨p,as,rfl,aah,nd,pn,by simp [M],fun i b a9 hb hd=>?_,fun b=>Iff.rfl⟩,fun b z=>?_,fun b z=>?_,fun b z=>?_,fun j b z y=>?_⟩ q
   ·rw [aG9] at hd
    split at hd
    ·cases hd
     have hm:=aA2 hb
     exact ⟨[],by rw [aae (fun z:b=p=>pn (z ▸ hm))];exact (all b hm).2.2,.nil⟩
    ·cases hd
   ·rcases z with rfl | z
    ·exact P.no_b g
    ·exact X.no_b (all b z).1
   ·rcases z with rfl | z
    ·exact P.no_g g
    ·exact (all b z).2.1
   ·rcases z with rfl | z
    ·exact ⟨_,aah⟩
    ·exact ⟨_,by rw [aae (fun e:b=p=>pn (e ▸ z))];exact (all b z).2.2⟩
   ·rcases z with rfl | z
    ·exact P.no_f g j y
    ·exact X.no_f (all b z).1 j y
theorem ajv {d:List (List PyData)} {l j n:Nat} {k:Int} {y:PyData} {ds:List PyData} (e:env[i]?=some (some (.own (ODL d)))) (ek:env[l]?=some (some (.st (.int k)))) (W:env[j]?=some (some (.st y)))
  (hk:(n:Int)=k) (hd:d[n]?=some ds) (hl:ds.length<=999999) (q:Q' .none (env.set i (some (.own (ODL (d.set n (ds ++ [y]))))))):Ev B (tBM K "list" aem (al3 (tVar i) (tVar l)) (aa5 (tVar j) tNil)) env Q':=fun σ G H F Q I P=>by
 obtain ⟨v,N,⟨a,as,rfl,h,O,M,ln,r,f⟩,_⟩:=I.sl i _ e
 obtain ⟨vk,u,U,_⟩:=I.sl l _ ek
 obtain ⟨Z,D,ry,_⟩:=I.sl j _ W
 cases U
 have hn:n < d.length:=(aA1.mp hd).1
 have hb:as[n]?=some (as[n]'(by lia)):=aA0 _
 generalize as[n]'(by lia)=b at hb
 have s:b∈as:=aA2 hb
 obtain ⟨vs,L,E⟩:=r n b ds hb hd
 have w:valV (dkOf (kvI 0 (as.map V.ref))) (.inl k)=some (.ref b):=by
  have:=ap1 0 (as.map V.ref) n
  rw [Nat.zero_add,hk,aA5,hb] at this
  exact this
 refine ⟨_,N,_,u,a,.ref b,rfl,.inl ⟨_,.inl k,.inl h,rfl,w.symm⟩,.inl ⟨rfl,_,SqL.of L⟩,_,D,afc L (by rw [E.length];exact big (by lia)) ?_⟩
 have x:a ≠ b:=fun z=>M (z ▸ s)
 have J:=I.change (A:=ODL (d.set n (ds ++ [y]))) (H2:=upd H b (.lst (vs ++ [Z]))) (F2:=F i) (os':=.own (ODL (d.set n (ds ++ [y])))) i e N (fun c o p C=>by rw [aae (fun z:c=b=>p ((f c).mpr (.inr (by rw [z];exact s))))];exact C)
  (fun c o C=>by
   by_cases z:c=b
   ·rw [z];exact ⟨_,aah⟩
   ·rw [aae z];exact ⟨o,C⟩)
  (fun c z=>⟨.inl z,by
   by_cases y:c=b
   ·rw [y];exact ⟨_,aah⟩
   ·rw [aae y];exact I.fo i c z⟩) ?_ (fun c S e=>by
   by_cases z:c=b
   ·subst z;rw [aah] at e;cases e
   ·rw [aae z] at e;exact I.ft c S e) (.inl ⟨rfl,_,rfl⟩)
 ·exact P _ G _ _ _ _ J (Same.refl _) .non q
 ·refine ⟨a,as,rfl,by rw [aae x];exact h,O,M,by simp [ln],fun m c es p g=>?_,f⟩
  by_cases hm:m=n
  ·subst hm
   rw [hb] at p;cases p
   rw [aD1,aE7 rfl,aE7 hn] at g
   cases g
   exact ⟨_,aah,E.append (.cons ry .nil)⟩
  ·rw [aD1,aE8 (fun z=>hm z.symm)] at g
   obtain ⟨us,R,X⟩:=r m c es p g
   refine ⟨us,?_,X⟩
   rw [aae]
   ·exact R
   ·rintro rfl
    have i1:=(aA1.mp hb)
    have i2:=(aA1.mp p)
    obtain ⟨Y,T⟩:=i1
    obtain ⟨l2,e2⟩:=i2
    exact hm (nodup_ix O l2 Y (e2.trans T.symm))
end
end VL
namespace DictL
open PySem PyProof.Rows
section
variable {prog:Program} {w:World} {A:Around} {R:Result->Shared->Prop} {I:Addr} {fp wr:List Addr} {n:Nat} {P:Nat->Value->Prop} {St:Nat->Heap->Prop} {K:Type} [DecidableEq K] {knd:HeapKind prog w K}
theorem ara (W:Walks prog w A.in1 I fp wr n P St) (S:Addr) (D:S ∉ fp) (hu:knd.room A.in1) (N:Heap) (p:Nat->K) (C:Nat->Addr) (val:Nat->Value) (tup:Nat->Addr) (f:Nat->List (K × Addr × Value)) (hk:∀ i,f (i+1)=storedH (f i) (p i) (C i) (val i)) (hz:∀ i,i<=n->(f i).length<=sizeLine)
  (hP:∀ i v,P i v->v=.ref (tup i)) (B:∀ i x,x∈f i->∃ j,j < i/\x.1=p j/\x.2.1=C j) (m:∀ i,i < n->tup i ≠ S/\tup i ∉ wr) (g:∀ h',(∀ b o,b ≠ S->b ∉ wr->N.get? b=some o->h'.get? b=some o)->∀ i,i < n->knd.is h' (p i) (C i)) :
  ∀ (k i:Nat) (s:Shared),n - i=k->i<=n->St i s.heap->(∀ b o,b ≠ S->b ∉ wr->N.get? b=some o->s.heap.get? b=some o)->(∀ j,i<=j->j < n->s.heap.IsTuple (tup j) #[.ref (C j),val j])->s.heap.DictOfH knd S (f i)->
   (∀ h' G,h'.DictOfH knd S (f n)->(∀ b o,b ≠ S->b ∉ wr->s.heap.get? b=some o->h'.get? b=some o)->R (.ok (.ret .none)) { s with heap:=h',toks:=G }) ->
   codeAny (model prog w) A (.builtin "dict.update.loop" ⟨[.ref S,.ref I,rawInt i,.none],[]⟩) R s:=by
 have U:S ∉ wr:=fun h=>D (W.sub _ h)
 have y:∀ (h h':Heap) (i:Nat),i<=n->(∀ b o,b ≠ S->b ∉ wr->N.get? b=some o->h'.get? b=some o)->h.DictOfH knd S (f i)->(∀ b o,b ∉ wr->h.get? b=some o->h'.get? b=some o)->h'.DictOfH knd S (f i):=fun h h' i hi c u hm=>by
  obtain ⟨o,es,ep,E,g1,g2,g3,_,g5⟩:=u
  refine ⟨o,es,ep,hm S o U E,g1,g2,g3,fun x hx=>?_,g5⟩
  obtain ⟨j,hj,e1,e2⟩:=B i x hx
  rw [e1,e2]
  exact g h' c j (by lia)
 intro k
 induction k with
 | zero =>
  intro i s J hi l c Y u hR
  have O:i=n:=by lia
  subst O
  refine aJ4 aej ?_
  rw [aI9 acf _]
  show wpAny _ A.in1 (pyNext (.ref I) >>= _) _ _ s
  refine aI0 (W.done s _ _ l fun h' G hm=>?_)
  dsimp only
  unfold Builtin.Dict.addKeywords
  refine aI0 (aI0 (aI1 (aI1 ?_)))
  refine aI1 ?_
  exact hR h' G (y _ _ _ (aA6 _) (fun b o b1 a e=>hm b o a (c b o b1 a e)) u hm) fun b o _ hb e=>hm b o hb e
 | succ k ih =>
  intro i s J hi l c Y u hR
  have d:i < n:=by lia
  refine aJ4 aej ?_
  rw [aI9 acf _]
  show wpAny _ A.in1 (pyNext (.ref I) >>= _) _ _ s
  refine aI0 (W.item i s _ _ d l fun v h' G H F hm=>?_)
  have ev:=hP i v H
  subst ev
  dsimp only
  have a0:h'.IsTuple (tup i) #[.ref (C i),val i]:=by
   obtain ⟨o,E,r⟩:=Y i (aA6 _) d
   exact ⟨o,hm _ o (m i d).2 E,r⟩
  have T:h'.DictOfH knd S (f i):=y _ _ _ hi (fun b o b1 a e=>hm b o a (c b o b1 a e)) u hm
  refine aI0 (aI5 ?_)
  refine aI0 (apw a0 ?_)
  dsimp only
  refine aI5 (wpAny_dictSet_heap hu (g h' (fun b o b1 a e=>hm b o a (c b o b1 a e)) i d) T (fun h2 X q=>?_) (hz i hi))
  have keep:∀ b o,b ≠ S->b ∉ wr->s.heap.get? b=some o->h2.get? b=some o:=fun b o b1 a e=>by rw [q.2 b b1];exact hm b o a e
  refine aI1 ⟨plainId_quiet acf _,ih (i+1) _ (by lia) d ?_ ?_ ?_ (by rw [hk];exact X) ?_⟩
  ·exact W.frame _ _ _ F fun b hb o e=>by rw [q.2 b (fun z:b=S=>D (by rw [← z];exact hb))];exact e
  ·exact fun b o b1 a e=>keep b o b1 a (c b o b1 a e)
  ·intro j j1 Z
   obtain ⟨o,E,r⟩:=Y j (by lia) Z
   exact ⟨o,keep _ o (m j Z).1 (m j Z).2 E,r⟩
  ·intro h3 M Q L
   exact hR h3 M Q fun b o b1 a e=>L b o b1 a (keep b o b1 a e)
theorem call_dict_listH {E:Value->Shared->Prop} {s:Shared} {l:Addr} {items:Array Value} {nl:Nat} {Q:Value->Shared->Prop} (S:knd.room A.in1.in1) (a:Nat->K) (z:Nat->Addr) (val:Nat->Value) (tup:Nat->Addr) (m:Nat->List (K × Addr × Value)) (X:m 0=[]) (U:∀ i,m (i+1)=storedH (m i) (a i) (z i) (val i)) (hz:∀ i,i<=items.size->(m i).length<=sizeLine) (y:∀ i x,x∈m i->∃ j,j < i/\x.1=a j/\x.2.1=z j)
  (hh:A.handled=none) (q:s.heap.get? l=some { cls:=.type "list",data:=.seq items nl }) (Y:∀ i v,items[i]?=some v->v=Value.ref (tup i)) (R:∀ j,j < items.size->s.heap.IsTuple (tup j) #[.ref (z j),val j]) (D:∀ h',(∀ b o,s.heap.get? b=some o->h'.get? b=some o)->∀ i,i < items.size->knd.is h' (a i) (z i))
  (h:∀ (h':Heap) (O:Nat),h'.DictOfH knd s.heap.objs.size (m items.size)->(∀ b o,s.heap.get? b=some o->h'.get? b=some o)->Q (.ref s.heap.objs.size) { s with heap:=h',toks:=O }) :
  wpAny (model prog w) A (call (.type "dict") [.ref l]) Q E s:=by
 refine callType_codes (Q₁:=fun obj f=>obj=.ref s.heap.objs.size/\f={ s with heap:=s.heap.push { cls:=.type "dict",data:=.dict #[] } }) F.kt_called_dict (F.kt_typeCall_dict_1 _) F.entry_dict_init (kt_code_dict_new (.ref l) ⟨rfl,rfl⟩) fun obj f u=>?_
 obtain ⟨rfl,rfl⟩:=u
 have P:(s.heap.push { cls:=.type "dict",data:=.dict #[] }).get? s.heap.objs.size=some { cls:=.type "dict",data:=.dict #[] }:=aI4 _ rfl
 refine ⟨⟨_,P,rfl⟩,F.args_dict_init_2 _ _,?_⟩
 have c:(s.heap.push { cls:=.type "dict",data:=.dict #[] }).get? l=some { cls:=.type "list",data:=.seq items nl }:=aI2 _ q
 have a0:(Value.type "list" == Value.type "dict")=false:=by decide
 unfold Builtin.«dict.__init__» Builtin.Dict.updateCommon Builtin.Dict.updateFrom
 obtain ⟨n,g,d,O,os⟩:=s
 dsimp only at *
 generalize hPI:pyIter=PI
 generalize hGA:getAttr?=GA
 wp_walk
 subst hGA hPI
 refine apx (s:={ heap:=n.push { cls:=.type "dict",data:=.dict #[] },gens:=g,drawn:=d,toks:=O,os:=os }) c hh fun p L B=>?_
 rw [aE7 (show (none:Option Value).isNone=true from rfl)]
 refine aI0 (wpAny_rule ?_)
 have C:p.IsList l items:=⟨_,B _ _ c,rfl,nl,rfl⟩
 have G:l < n.objs.size:=aI3 q
 have H:=B _ _ P
 have hsz:n.objs.size < p.objs.size:=aI3 H
 refine aI0 (aJ3 (s:={ heap:=p,gens:=g,drawn:=d,toks:=L,os:=os }) C ?_)
 refine aI1 ⟨plainId_quiet acf _,?_⟩
 have I:l ≠ p.objs.size:=aB5 (Nat.lt_trans G hsz)
 have N:n.objs.size ∉ [p.objs.size,l]:=by
  simp only [aA8,List.not_mem_nil,or_false,not_or]
  exact ⟨aB5 hsz,Nat.ne_of_gt G⟩
 have tl:∀ j,j < items.size->tup j < n.objs.size:=fun j M=>let ⟨_,e,_⟩:=R j M;aI3 e
 refine ara (A:=A.in1) (knd:=knd) (Walks.list (A:=A.in1.in1) hh p.objs.size l I items) n.objs.size N S n a z val tup m U hz Y y (fun i hi=>⟨aB5 (tl i hi),by simp only [aC1];exact aB5 (Nat.lt_trans (tl i hi) hsz)⟩)
  (fun h' W=>D h' fun b o e=>W b o (aB5 (aI3 e)) (by simp only [aC1];exact aB5 (Nat.lt_trans (aI3 e) hsz)) e) (items.size - 0) 0 _ (by lia) (aF2 _)
  ⟨⟨_,aI4 _ rfl,rfl,rfl⟩,C.push _⟩ (fun b o _ _ e=>aI2 _ (B _ _ (aI2 _ e))) (fun j _ M=>?_) ?_ fun h' J T kp=>?_
 ·obtain ⟨o,e,r⟩:=R j M
  exact ⟨o,aI2 _ (B _ _ (aI2 _ e)),r⟩
 ·rw [X]
  exact ⟨_,#[],0,aI2 _ H,⟨rfl,rfl,rfl⟩,rfl,rfl,fun x Z=>by simp at Z,List.nodup_nil⟩
 ·refine ⟨rfl,h h' J T fun b o e=>kp b o (aB5 (aI3 e)) (by simp only [aC1];exact aB5 (Nat.lt_trans (aI3 e) hsz)) (aI2 _ (B _ _ (aI2 _ e)))⟩
end
end DictL
namespace L2
open PySem PySem.W PyProof.Rows
def adw (kvs:List (List Key × Addr × V)):List (List Key × V):=kvs.foldl (fun acc kv=>putK acc kv.1 kv.2.2) []
def atn:List V->Hp->VK->Prop:=fun xs H Q=>∃ (a:Addr) (ts:List Addr) (kvs:List (List Key × Addr × V)),xs=[.ref a]/\H a=some (.lst (ts.map V.ref))/\ts.length=kvs.length/\kvs.length < 40000 /\
 (∀ (i:Nat) t kv,ts[i]?=some t->kvs[i]?=some kv->H t=some (.tup [.ref kv.2.1,kv.2.2])/\H kv.2.1=some (.tup (kv.1.map kV)))/\∀ p,H p=none->Q (.ref p) (upd H p (.dT (adw kvs)))
section
variable {K:Type} [DecidableEq K]
def kfH (key:Nat->K) (ka:Nat->Addr) (val:Nat->Value):Nat->List (K × Addr × Value)
 | 0=>[]
 | i+1=>storedH (kfH key ka val i) (key i) (ka i) (val i)
theorem arb (xs:List (K × Addr × Value)) (k:K) (a:Addr) (v:Value):(storedH xs k a v).length<=xs.length+1:=by
 unfold storedH
 split
 ·rw [aA3];lia
 ·simp
theorem akq (a:Nat->K) (b:Nat->Addr) (val:Nat->Value):∀ i,(kfH a b val i).length<=i
 | 0=>aA6 _
 | i+1=>aC9 (arb _ _ _ _) (Nat.succ_le_succ (akq a b val i))
theorem ap2 (a:Nat->K) (b:Nat->Addr) (val:Nat->Value):∀ i x,x∈kfH a b val i->∃ j,j < i/\x.1=a j/\x.2.1=b j
 | 0,x,h=>by cases h
 | i+1,x,h=>by
  have c:=ap2 a b val i
  change x∈storedH (kfH a b val i) (a i) (b i) (val i) at h
  unfold storedH at h
  split at h
  ·obtain ⟨y,f,rfl⟩:=aB6.mp h
   obtain ⟨j,g,d,e2⟩:=c y f
   refine ⟨j,by lia,?_⟩
   unfold putAt
   split
   ·exact ⟨d,e2⟩
   ·exact ⟨d,e2⟩
  ·rcases aA7.mp h with h | h
   ·obtain ⟨j,g,e⟩:=c x h
    exact ⟨j,by lia,e⟩
   ·have:x=(a i,b i,val i):=by simpa using h
    subst this
    exact ⟨i,by lia,rfl,rfl⟩
end
theorem aos {kvs:List (List Key × Addr × V)} {a:List Key × Addr × V}:adw (kvs ++ [a])=putK (adw kvs) a.1 a.2.2:=by unfold adw;rw [List.foldl_append];rfl
section
variable {X:Cx}
theorem arc (P:X.calm=true) (B:X.A.units+64 < cLine):abd X (.type "dict") atn:=by
 intro pins s σ H xs us Q I r h
 obtain ⟨a,c,kvs,rfl,ha,L,h4,E,q⟩:=h
 obtain ⟨u,rfl,G⟩:=ac0 r
 cases G
 obtain ⟨hz,its,nl,N,e⟩:=(show ObjOk X.prog X.w H s.heap a (.lst (c.map V.ref)) from I.hok a _ ha)
 have l:its.length=c.length:=by have:=N.length;rw [aA3] at this;lia
 have y:∀ {i},i < c.length->c[i]?=some (c.getD i 0):=fun {i} hi=>by rw [aD2,aA0 hi];rfl
 have x:∀ {i},i < c.length->kvs[i]?=some (kvs.getD i ([],0,.non)):=fun {i} hi=>by rw [aD2,aA0 (show i < kvs.length by lia)];rfl
 obtain ⟨d,g⟩:∃ d:Nat->List Key × Addr × V,d=fun i=>kvs.getD i ([],0,.non):=⟨_,rfl⟩
 have F:∀ i:Nat,∃ p:Value,i < c.length->s.heap.IsTuple (c.getD i 0) #[.ref (d i).2.1,p]/\RelV (d i).2.2 p:=fun i=>by
  by_cases hi:i < c.length
  ·obtain ⟨O,J⟩:=E i _ _ (y hi) (x hi)
   obtain ⟨_,R,m,p2⟩:=(show ObjOk X.prog X.w H s.heap _ (.tup _) from I.hok _ _ O)
   cases m with
   | cons r1 m =>
    cases m with
    | cons m r3 =>
     cases r3
     cases r1
     exact ⟨_,fun _=>⟨by rw [g];exact p2,by rw [g];exact m⟩⟩
  ·exact ⟨.none,fun h=>absurd h hi⟩
 obtain ⟨f,hf⟩:=Classical.skolem.mp F
 have D:∀ i,i<=c.length->KT H (adw (kvs.take i)) (kfH (fun i=>(d i).1) (fun i=>(d i).2.1) f i):=fun i=>by
  induction i with
  | zero=>intro _;exact .nil
  | succ i ih =>
   intro hi
   have et:kvs.take (i+1)=kvs.take i ++ [d i]:=by rw [aG6,x (by lia),g];rfl
   rw [et,aos]
   refine (ih (by lia)).put _ ?_ (hf i (by lia)).2
   rw [g]
   exact (E i _ _ (y (by lia)) (x (by lia))).2
 refine DictL.call_dict_listH (knd:=tupleKind (aba X.prog X.w)) (items:=its.toArray) (nl:=nl) (tupleKind_room_in1 (by show X.A.units+1+1 < cLine;lia)) (fun i=>(d i).1) (fun i=>(d i).2.1) f (fun i=>c.getD i 0) (kfH (fun i=>(d i).1) (fun i=>(d i).2.1) f) rfl (fun i=>rfl) (fun i hi=>aC9 (akq _ _ _ i) (aC9 hi (by rw [sizeLine_eq];simp;lia))) (ap2 _ _ _)
  (I.ok.hd P) e (fun i v z=>?_) (fun j Z=>(hf j (by simpa [l] using Z)).1) (fun h' kp i hi=>?_) fun h' tk K kp=>?_
 ·have z:its[i]?=some v:=by simpa using z
  have hi:=(aA1.mp z).1
  have S:(c.map V.ref)[i]?=some (.ref (c.getD i 0)):=by rw [aA5,y (by lia)];rfl
  obtain ⟨u,B,G⟩:=N.get S
  rw [z] at B
  cases B
  exact G
 ·have hi:i < c.length:=by simpa [l] using hi
  have J:=(E i _ _ (y hi) (x hi)).2
  rw [g]
  exact afr (I.hok.kept kp) J
 ·have hsz:its.toArray.size=c.length:=by simp [l]
  rw [hsz] at K
  have C:=D c.length (aA6 _)
  rw [L,aG0,← L] at C
  have n:=I.hok.fresh (a:=s.heap.objs.size) (aA6 _)
  refine ⟨.ref s.heap.objs.size,_,I.laid (t':=tk) (o:=.dT (adw kvs)) kp (aA6 _) ?_,rfl,q _ n⟩
  obtain ⟨T,es,ep,ho,b1,Y,U,_,W⟩:=K
  refine ⟨?_,beq_eq_false_iff_ne.mpr (Ne.symm (aB5 I.big)),_,C.keeps fun b ys M=>?_,T,es,ep,ho,b1,Y,U,W⟩
  ·have:=C.length
   rw [this,sizeLine_eq]
   exact aC9 (akq _ _ _ _) (by lia)
  ·rw [aae (aan M n)]
   exact M
end
end L2
namespace VL
open PySem PySem.Spec L2
theorem ap3 {G:Hp} {as:List Addr}:∀ {es:List (Int × Int)} {kvs:List (List Key × V)} {ps:List (Int × Int)},RpT G kvs (kE ps)->∀ (as:List Addr),as.length=es.length ->
  RpT G ((es.zip as).foldl (fun b x=>putK b [Sum.inl x.1.1,Sum.inl x.1.2] (.bl true)) kvs) (kE (es.foldl addP ps))
 | [],_,_,h,as,_=>by simpa using h
 | e :: es,kvs,ps,h,[],hl=>by simp at hl
 | e :: es,kvs,ps,h,a :: as,hl=>by
  rw [List.zip_cons_cons,List.foldl_cons,List.foldl_cons]
  refine ap3 (as:=as) ?_ as (by simpa using hl)
  obtain ⟨x,y⟩:=e
  rw [← ahd]
  exact h.put (.bl true)
section
variable {B:Bs} {env:En} {QO:Sl->En->Prop}
theorem ato {src:List (Option Nat)} {wi:TI} (h:EvI B wi env fun ds P=>∃ es:List (Int × Int),ds=es.map prD/\es.length<=30000/\QO (.own (OT (kE (es.foldl addP [])))) P) :
  EvO B (tCB atn (aa5 (tLC (none :: src) wi (abw 0) tYes (tTup (aa5 (tVar 0) (aa5 (tC (V.bl true)) tNil)))) tNil)) env QO:=fun σ G H F Q I k=>by
 refine h σ G H F _ I fun J G1 H1 F1 ds P I1 g1 it ⟨es,ed,a3,q⟩ f j=>?_
 subst ed
 have hL:(es.map prD).length=es.length:=aA3 ..
 let W:Nat->List V->St->Hp->Prop:=fun n ys σI H=>∃ (C as:List Addr) (s:Hp),ys=C.map V.ref/\C.length=n/\as.length=n/\0 < σI.length /\
  (∀ (i:Nat) t b p,C[i]?=some t->as[i]?=some b->es[i]?=some p->H t=some (.tup [.ref b,.bl true])/\s b=some (.tup [.int p.1,.int p.2]))/\(∀ t∈C,t ≠ f) /\
  H f=some (.lst ys)/\s f=none/\Same G1 s/\Same s H/\Same H1 H/\(∀ a o,s a=some o->G1 a=some o\/H1 a=none)/\FT s H
 refine ⟨fun n m ys σI H=>m=es.length - n/\n<=es.length/\W n ys σI H,⟨es.length,by simp,aF2 _,[],[],G1,rfl,rfl,rfl,by simp [pick],fun i t b p h=>by simp at h,fun t O=>by simp at O,aah,I1.no_g j,Same.refl _,I1.gh.trans (abf j),abf j,fun a o e => .inl e,fun a Z e=>?_⟩,?_⟩
 ·by_cases z:a=f
  ·subst z;rw [aah] at e;cases e
  ·rw [aae z] at e;exact I1.ft a Z e
 rintro n m ys σI H2 ⟨rfl,hn,C,as,s,rfl,hl,K,T,A,R,l,ga,N,r,M,S,D⟩
 refine ⟨l,?_⟩
 by_cases hlt:n < es.length
 ·refine .inr ⟨it.go n s H2 N r (by lia),fun U X H'=>W (n+1) U X H',fun U X H' hw=>⟨es.length - (n+1),by lia,rfl,hlt,hw⟩,fun x H3 y=>?_⟩
  obtain ⟨p,hp⟩:∃ p,es[n]?=some p:=⟨_,aA0 hlt⟩
  obtain ⟨G3,o⟩:=it.yld n s H2 x H3 (prD p) N r D (by rw [aA5,hp];rfl) y
  have rx:Rp G3 x (.tuple [.int p.1,.int p.2]):=o.ok.1
  cases rx with
  | @tup b vs ds' hb rs =>
  cases rs with
  | cons r1 rs =>
  cases rs with
  | cons r2 rs =>
  cases rs
  cases r1
  cases r2
  refine ahu (aja (acd (asc (afv (ams (v:=.ref b) (by rw [aD1,aE7 rfl,aE7 T]) (afv (go_c (ae0 ⟨show (2:Nat)<=sizeLine by rw [sizeLine_eq];decide,fun t O=>?_⟩))))))))
  have t2:H2 t=none:=aa6 o.hh O
  have ta:t ≠ f:=(aan (o.hh _ _ l) O).symm
  have old:∀ a u,H2 a=some u->a ≠ f->upd (upd H3 t (.tup [.ref b,.bl true])) f (.lst (C.map V.ref ++ [.ref t])) a=some u:=fun a u e aa=>by
   have Y:=o.hh _ _ e
   rw [aae aa,aae (aan Y O)]
   exact Y
  refine ⟨by rw [aae ta.symm];exact o.hh _ _ l,by rw [aA3,hl];exact big (by lia),C ++ [t],as ++ [b],G3,by simp,by simp [hl],by simp [K],by rw [List.length_set];exact T,fun i c d p' g hd L=>?_,fun c g=>?_,aah,?_,N.trans o.gg,fun a u e=>?_,fun a u e=>?_,fun a u e=>?_,fun a Z e=>?_⟩
  ·by_cases hi:i < n
   ·rw [aC2 (by lia)] at g hd
    obtain ⟨q1,q2⟩:=A i c d p' g hd L
    exact ⟨old c _ q1 (R c (aA2 g)),o.gg _ _ q2⟩
   ·have a2:i=n:=by
     have:=(aA1.mp g).1
     simp at this
     lia
    subst a2
    rw [aC7 (by lia),hl,aH7] at g
    rw [aC7 (by lia),K,aH7] at hd
    rw [hp] at L
    cases g
    cases hd
    cases L
    exact ⟨by rw [aae ta,aah],hb⟩
  ·rcases aA7.mp g with g | g
   ·exact R c g
   ·have e:=aC1.mp g
    subst e
    exact ta
  ·cases e:G3 f with
   | none=>rfl
   | some w =>
    rcases o.gn f w e with e | e
    ·rw [ga] at e;cases e
    ·rw [l] at e;cases e
  ·have a1:a ≠ t:=aan (o.gh a u e) O
   have aa:a ≠ f:=by
    rintro rfl
    rcases o.gn _ u e with e | e
    ·rw [ga] at e;cases e
    ·rw [l] at e;cases e
   rw [aae aa,aae a1];exact o.gh a u e
  ·exact old a u (M a u e) (aan e j)
  ·rcases o.gn a u e with e | e
   ·exact S a u e
   ·exact .inr (aa6 M e)
  ·by_cases z:a=f
   ·subst z;rw [aah] at e;cases e
   ·rw [aae z] at e
    by_cases y:a=t
    ·subst y
     rw [aah] at e
     exfalso
     have e:=HO.tup.inj (aC5 e)
     match Z,e with
     | [],e=>simp at e
     | .inl _ :: _,e=>simp [kV] at e
     | .inr _ :: _,e=>simp [kV] at e
    ·rw [aae y] at e;exact o.ft D a Z e
 ·have e:n=es.length:=by lia
  subst e
  refine .inl ⟨it.stop _ s H2 N r hL.symm,?_⟩
  have I2:=I1.grow N r M S D
  obtain ⟨kvs,hk⟩:∃ kvs:List (List Key × Addr × V),kvs=(es.zip as).map fun x=>([Sum.inl x.1.1,Sum.inl x.1.2],x.2,V.bl true):=⟨_,rfl⟩
  have a4:kvs.length=es.length:=by rw [hk,aA3,List.length_zip];lia
  have a0:adw kvs=(es.zip as).foldl (fun f x=>putK f [Sum.inl x.1.1,Sum.inl x.1.2] (.bl true)) []:=by
   unfold adw
   rw [hk,List.foldl_map]
  refine ae0 ⟨f,C,kvs,rfl,l,by lia,by lia,fun i t kv g E=>?_,fun p hp=>?_⟩
  ·rw [hk,aA5] at E
   have hi:=(aA1.mp g).1
   have P:es[i]?=some es[i]:=aA0 (by lia)
   have e2:as[i]?=some as[i]:=aA0 (by lia)
   have Y:(es.zip as)[i]?=some (es[i],as[i]):=by
    rw [aA0 (by rw [List.length_zip];lia)]
    simp
   rw [Y] at E
   cases E
   obtain ⟨q1,q2⟩:=A i t _ _ g e2 P
   exact ⟨q1,r _ _ q2⟩
  ·have o:=Out.newDT (xs:=adw kvs) (ds:=kE (es.foldl addP [])) I2.gh hp (by rw [a0];exact ap3 (as:=as) .nil as K)
   exact k _ _ _ F1 _ _ P (I2.out o).1 ((g1.trans N).trans o.gg) (I2.out o).2 q
end
end VL
namespace L2
open PySem PySem.W PyProof.Rows
section
variable {X:Cx}
end
end L2
namespace VL
open PySem PySem.Spec L2
section
variable {B:Bs} {env:En} {QO:Sl->En->Prop} {K:Frag} {i:Nat}
end
section
variable {B:Bs} {env:En} {QO:Sl->En->Prop} {Q':PyData->En->Prop} {K:Frag} {i j:Nat} {ta te:TE}
end
abbrev VJ:=List Sl->(En->Sl->Prop)->Prop
def ioO:Option Sl->Option Sl
 | some (.io A)=>some (.io A)
 | _=>none
def cutE:Nat->En->En
 | 0,_=>[]
 | n+1,[]=>none :: cutE n []
 | n+1,x :: xs=>ioO x :: cutE n xs
theorem afp:∀ (n:Nat) (e:En),(cutE n e).length=n
 | 0,_=>rfl
 | n+1,[]=>by unfold cutE;rw [aE0,afp n []]
 | n+1,_ :: xs=>by unfold cutE;rw [aE0,afp n xs]
theorem aip:∀ {n:Nat} {e:En} {i:Nat} {s:Sl},(cutE n e)[i]?=some (some s)->∃ A,s=.io A/\e[i]?=some (some (.io A))
 | 0,_,_,_,h=>by simp [cutE] at h
 | n+1,[],0,_,h=>by simp [cutE] at h
 | n+1,[],i+1,_,h=>by
  unfold cutE at h
  rw [aH3] at h
  obtain ⟨A,_,a⟩:=aip h
  simp at a
 | n+1,x :: xs,0,s,h=>by
  unfold cutE at h
  rw [List.getElem?_cons_zero] at h
  have h:=aC5 h
  match x,h with
  | some (.io A),h=>cases h;exact ⟨A,rfl,rfl⟩
  | some (.st _),h=>cases h
  | some (.own _),h=>cases h
  | some (.scr _),h=>cases h
  | none,h=>cases h
 | n+1,x :: xs,i+1,s,h=>by
  unfold cutE at h
  rw [aH3] at h
  rw [aH3]
  exact aip h
def spJ (K:Frag) (f:VJ):Sp:=fun vs H Q _=>∃ (B:Bs) (ss:List Sl) (Q':En->Sl->Prop),B.K=K/\B.S=vs.map some/\VI B B.G H (vs.map some) (ss.map some) B.F/\f ss Q' /\
 ∀ e s,Q' e s->∀ v G' H' F' Fv,VI B G' H' (vs.map some) e F'->RsX B G' H' v Fv s F'->Q v H'
theorem a02 {c:Prop} [Decidable c] {s:Sl} (e:(if c then some (none:Option Sl) else none)=some (some s)):False:=by
 split at e <;> cases e
theorem VI.pad {B:Bs} {G H:Hp} {σ:St} {env:En} {F:Nat->Addr->Prop} (I:VI B G H σ env F) (n:Nat):VI B G H (σ ++ List.replicate n none) (env ++ List.replicate n none) F :=
 ⟨I.gh,I.g0,I.gn,I.rs,I.rb,I.bh,I.fg,I.fr,I.fd,I.fo,fun i s e=>by
  by_cases h:i < env.length
  ·rw [aC2 h] at e
   obtain ⟨v,a,b⟩:=I.sl i s e
   exact ⟨v,by rw [aC2 (by rw [I.ln];exact h)];exact a,b⟩
  ·rw [aC7 (by lia),aG9] at e
   exact (a02 e).elim,by rw [aB0,aB0,I.ln];simp,I.ft⟩
theorem VI.cut {B:Bs} {G H:Hp} {σ:St} {env:En} {F:Nat->Addr->Prop} (I:VI B G H σ env F):VI B G H B.S (cutE B.S.length env) (fun i a=>(∃ A,(cutE B.S.length env)[i]?=some (some (.io A)))/\F i a) :=
 ⟨I.gh,I.g0,I.gn,I.rs,I.rb,I.bh,fun i a z=>I.fg i a z.2,fun i a z=>I.fr i a z.2,fun i j a y z=>I.fd i j a y.2 z.2,fun i a z=>I.fo i a z.2,fun i s e=>by
  obtain ⟨A,rfl,h⟩:=aip e
  obtain ⟨v,f,c,d,b⟩:=I.sl i _ h
  have:(fun a=>(∃ A,(cutE B.S.length env)[i]?=some (some (.io A)))/\F i a)=F i:=by
   funext a
   exact propext ⟨fun z=>z.2,fun z=>⟨⟨A,e⟩,z⟩⟩
  exact ⟨v,b,by rw [this];exact c,fun a z=>d a z.2,b⟩,(afp _ _).symm,I.ft⟩
theorem RsX.cut {B:Bs} {G H:Hp} {v:V} {Fv:Addr->Prop} {s:Sl} {F F2:Nat->Addr->Prop} (r:RsX B G H v Fv s F) (h:∀ i a,F2 i a->F i a):RsX B G H v Fv s F2:=⟨r.ok,r.fb,r.fg,r.fo,fun j a z y=>r.fd j a z (h j a y)⟩
theorem awp {K:Frag} {f:VJ} {d:TS} {N:List Str} {vs:List V} {H:Hp} {Q:VK} {E:XK} (h:spJ K f vs H Q E)
  (hb:∀ ss Q',f ss Q'->∀ B,B.K=K->EvS B d { nx:=fun e=>Q' (cutE ss.length e) (.st .none),rt:=fun s e=>Q' (cutE ss.length e) s } (ss.map some ++ List.replicate (N.length - ss.length) none)):d { nx:=fun _ H'=>Q .non H',rt:=Q } (L2.start N vs) H:=by
 obtain ⟨B,ss,Q',n,j,I,hf,m⟩:=h
 have l:vs.length=ss.length:=by have:=I.ln;simpa using this
 have c:B.S.length=ss.length:=by rw [j,aA3,l]
 have fin:∀ {σ G' H' F env v Fv s},VI B G' H' σ env F->RsX B G' H' v Fv s F->Q' (cutE ss.length env) s->Q v H':=fun {σ G' H' F env v Fv s} b r q=>by
  have J:=b.cut
  have X:=r.cut (F2:=fun i a=>(∃ A,(cutE B.S.length env)[i]?=some (some (.io A)))/\F i a) fun i a z=>z.2
  rw [c] at J X
  rw [j] at J
  exact m _ s q v G' H' _ Fv J X
 refine hb ss Q' hf B n (L2.start N vs) B.G H B.F _ ?_ ⟨fun σ G' H' F env b g q=>fin b (ae2 .non) q,fun σ G' H' F env v Fv s b g r q=>fin b r q,fun _ _ _ _ _ _ _ q=>q,fun _ _ _ _ _ _ _ q=>q⟩
 unfold L2.start
 rw [l]
 exact I.pad _
theorem lenJ {K:Frag} {f:VJ} {n:Nat} {vs:List V} {H:Hp} {Q:VK} {E:XK} (h:spJ K f vs H Q E) (hf:∀ ss Q',f ss Q'->ss.length=n):vs.length=n:=by
 obtain ⟨B,ss,Q',_,_,I,q,_⟩:=h
 have:=I.ln
 rw [aA3,aA3] at this
 rw [this];exact hf ss Q' q
inductive AJ where
 | pl (d:PyData)
 | rf (i:Nat)
def acn:List AJ->List Nat
 | []=>[]
 | .pl _ :: js=>acn js
 | .rf i :: js=>i :: acn js
def ArgJ (σ:St) (G:Hp):V->AJ->Prop
 | v,.pl d=>Rp G v d
 | v,.rf i => σ[i]?=some (some v)
inductive ArgsJ (σ:St) (G:Hp):List V->List AJ->Prop
 | nil:ArgsJ σ G [] []
 | cons {v:V} {j:AJ} {vs:List V} {js:List AJ}:ArgJ σ G v j->ArgsJ σ G vs js->ArgsJ σ G (v :: vs) (j :: js)
def EvJ (B:Bs) (ta:TA) (env:En) (Q':List AJ->En->Prop):Prop:=∀ (σ:St) (G H:Hp) (F:Nat->Addr->Prop) (Q:List V->Hp->Prop),VI B G H σ env F ->
 (∀ vs G' H' F' js env',VI B G' H' σ env' F'->Same G G'->ArgsJ σ G' vs js->Q' js env'->Q vs H')->ta σ H Q
inductive SlJ (e:En):List AJ->List Sl->Prop
 | nil:SlJ e [] []
 | pl {d:PyData} {js:List AJ} {ss:List Sl}:SlJ e js ss->SlJ e (.pl d :: js) (.st d :: ss)
 | rf {i:Nat} {A:Own} {js:List AJ} {ss:List Sl}:Has e i A->SlJ e js ss->SlJ e (.rf i :: js) (.io A :: ss)
inductive PutJ:En->List AJ->En->En->Prop
 | nil {e:En}:PutJ e [] [] e
 | pl {e r e2:En} {d:PyData} {x:Option Sl} {js:List AJ}:PutJ e js r e2->PutJ e (.pl d :: js) (x :: r) e2
 | rf {e r e2:En} {i:Nat} {s0:Sl} {A A':Own} {js:List AJ}:e[i]?=some (some s0)->(s0=.own A\/s0=.io A)->PutJ (e.set i (some (reS s0 A'))) js r e2->PutJ e (.rf i :: js) (some (.io A') :: r) e2
theorem ad0:∀ {js:List AJ} {j i:Nat},js[j]?=some (.rf i)->i∈acn js
 | [],_,_,h=>by simp at h
 | .pl _ :: js,0,_,h=>by simp at h
 | .rf k :: js,0,_,h=>by simp at h;simp [acn,h]
 | .pl _ :: js,j+1,_,h=>by rw [aH3] at h;exact ad0 (js:=js) h
 | .rf k :: js,j+1,_,h=>by rw [aH3] at h;exact aB4 _ (ad0 h)
theorem aiq:∀ {js:List AJ} {i:Nat},i∈acn js->∃ j:Nat,js[j]?=some (AJ.rf i)
 | [],_,h=>by simp [acn] at h
 | .pl _ :: js,i,h=>by
  obtain ⟨j,a⟩:=aiq (js:=js) h
  exact ⟨j+1,by rw [aH3];exact a⟩
 | .rf k :: js,i,h=>by
  rcases aA8.mp h with rfl | h
  ·exact ⟨0,rfl⟩
  ·obtain ⟨j,a⟩:=aiq (js:=js) h
   exact ⟨j+1,by rw [aH3];exact a⟩
theorem ahg:∀ {js:List AJ} {j a i:Nat},(acn js).Nodup->js[j]?=some (.rf i)->js[a]?=some (.rf i)->j=a
 | [],_,_,_,_,h,_=>by simp at h
 | x :: js,0,0,_,_,_,_=>rfl
 | .pl _ :: js,0,_+1,_,_,h,_=>by simp at h
 | .pl _ :: js,_+1,0,_,_,_,h=>by simp at h
 | .rf k :: js,0,a+1,i,n,h,h'=>by
  simp at h;subst h
  rw [aH3] at h'
  exact absurd (ad0 h') (aH6.mp n).1
 | .rf k :: js,j+1,0,i,n,h,h'=>by
  simp at h';subst h'
  rw [aH3] at h
  exact absurd (ad0 h) (aH6.mp n).1
 | .pl _ :: js,j+1,a+1,i,n,h,h'=>by
  rw [aH3] at h h'
  rw [ahg (js:=js) n h h']
 | .rf k :: js,j+1,a+1,i,n,h,h'=>by
  rw [aH3] at h h'
  rw [ahg (js:=js) (aH6.mp n).2 h h']
theorem PutJ.io {e r e2:En} {js:List AJ} (h:PutJ e js r e2):∀ {i j:Nat},js[j]?=some (.rf i)->∃ A',r[j]?=some (some (.io A')):=by
 induction h with
 | nil=>intro i j h;simp at h
 | pl _ ih =>
  intro i j h
  cases j with
  | zero=>simp at h
  | succ j=>rw [aH3] at h ⊢;exact ih h
 | rf _ _ _ ih =>
  intro i j h
  cases j with
  | zero=>exact ⟨_,rfl⟩
  | succ j=>rw [aH3] at h ⊢;exact ih h
theorem PutJ.length {e r e2:En} {js:List AJ} (h:PutJ e js r e2):e2.length=e.length:=by
 induction h with
 | nil=>rfl
 | pl _ ih=>exact ih
 | rf _ _ _ ih=>rw [ih,List.length_set]
theorem PutJ.at {e r e2:En} {js:List AJ} (h:PutJ e js r e2):(acn js).Nodup->∀ {i:Nat} {s:Sl},e2[i]?=some (some s)->(i ∉ acn js/\e[i]?=some (some s))\/∃ (j:Nat) (A A':Own),js[j]?=some (AJ.rf i)/\r[j]?=some (some (.io A'))/\((e[i]?=some (some (.own A))/\s=.own A')\/(e[i]?=some (some (.io A))/\s=.io A')):=by
 induction h with
 | nil=>intro _ i s h;exact .inl ⟨by simp [acn],h⟩
 | pl _ ih =>
  intro n i s h
  rcases ih n h with z | ⟨j,A,A',c,f,d⟩
  ·exact .inl z
  ·exact .inr ⟨j+1,A,A',by rw [aH3];exact c,by rw [aH3];exact f,d⟩
 | @rf e r e2 k s0 A A' js h0 hs _ ih =>
  intro n i s h
  have l:=aH6.mp n
  rcases ih l.2 h with ⟨m,b⟩ | ⟨j,o,g,c,f,d⟩
  ·rw [aD1] at b
   by_cases a:k=i
   ·subst a
    rw [aE7 rfl,aE7 (aA1.mp h0).1] at b
    cases b
    refine .inr ⟨0,A,A',rfl,rfl,?_⟩
    rcases hs with rfl | rfl
    ·exact .inl ⟨h0,rfl⟩
    ·exact .inr ⟨h0,rfl⟩
   ·rw [aE8 a] at b
    exact .inl ⟨fun z=>by
     rcases aA8.mp z with y | y
     ·exact a y.symm
     ·exact m y,b⟩
  ·have a:k ≠ i:=fun z=>l.1 (z ▸ ad0 c)
   rw [aD1,aE8 a] at d
   exact .inr ⟨j+1,o,g,by rw [aH3];exact c,by rw [aH3];exact f,d⟩
theorem SlJ.length {e:En} {js:List AJ} {ss:List Sl} (h:SlJ e js ss):ss.length=js.length:=by
 induction h with
 | nil=>rfl
 | pl _ ih=>simp [ih]
 | rf _ _ ih=>simp [ih]
theorem ArgsJ.length {σ:St} {G:Hp} {vs:List V} {js:List AJ} (h:ArgsJ σ G vs js):vs.length=js.length:=by
 induction h with
 | nil=>rfl
 | cons _ _ ih=>simp [ih]
theorem ArgsJ.get {σ:St} {G:Hp} {vs:List V} {js:List AJ} (h:ArgsJ σ G vs js):∀ {j:Nat} {x:AJ},js[j]?=some x->∃ v,vs[j]?=some v/\ArgJ σ G v x:=by
 induction h with
 | nil=>intro j x h;simp at h
 | cons q _ ih =>
  intro j x h
  cases j with
  | zero=>simp at h;subst h;exact ⟨_,rfl,q⟩
  | succ j=>rw [aH3] at h ⊢;exact ih h
theorem SlJ.get {e:En} {js:List AJ} {ss:List Sl} (h:SlJ e js ss):∀ {j:Nat} {s:Sl},ss[j]?=some s->(∃ d,js[j]?=some (AJ.pl d)/\s=.st d)\/∃ i A,js[j]?=some (AJ.rf i)/\s=.io A/\Has e i A:=by
 induction h with
 | nil=>intro j s h;simp at h
 | pl _ ih =>
  intro j s h
  cases j with
  | zero=>simp at h;exact .inl ⟨_,rfl,h.symm⟩
  | succ j=>rw [aH3] at h ⊢;exact ih h
 | rf q _ ih =>
  intro j s h
  cases j with
  | zero=>simp at h;exact .inr ⟨_,_,rfl,h.symm,q⟩
  | succ j=>rw [aH3] at h ⊢;exact ih h
section
variable {B:Bs} {env:En} {QO:Sl->En->Prop} {Q':PyData->En->Prop} {QJ:List AJ->En->Prop} {K:Frag} {E:XK} {t:TA} {te:TE} {i:Nat}
theorem af0 (q:QJ [] env):EvJ B tNil env QJ:=fun σ G H F Q I k=>k [] G H F [] env I (Same.refl _) .nil q
theorem air (h:Ev B te env fun x b=>EvJ B t b fun xs e2=>QJ (.pl x :: xs) e2):EvJ B (aa5 te t) env QJ:=fun σ G H F Q I k =>
 h σ G H F _ I fun r d m c x b o n g i=>i σ d m c _ o fun vs f H2 F2 js e2 p a l q=>k _ f H2 F2 _ e2 p (n.trans a) (.cons (j:=.pl x) (g.same a) l) q
theorem adq {s:Sl} (d:env[i]?=some (some s)) (h:EvJ B t env fun xs e2=>QJ (.rf i :: xs) e2):EvJ B (aa5 (tVar i) t) env QJ:=fun σ G H F Q I k=>by
 obtain ⟨v,a,_⟩:=I.sl i _ d
 exact ⟨v,a,h σ G H F _ I fun vs c H2 F2 js e2 g b f l=>k _ c H2 F2 _ e2 g b (.cons (j:=.rf i) a f) l⟩
theorem a03 {js:List AJ} (nd:(acn js).Nodup):∃ inv:Nat->Option Nat,(∀ i j,inv i=some j ↔ js[j]?=some (AJ.rf i))/\∀ i,inv i=none ↔ i ∉ acn js:=by
 have a:∀ i,∃ o:Option Nat,(∀ j,o=some j ↔ js[j]?=some (AJ.rf i))/\(o=none ↔ i ∉ acn js):=fun i=>by
  by_cases hh:i∈acn js
  ·obtain ⟨j,b⟩:=aiq hh
   exact ⟨some j,fun k=>⟨fun z=>by cases z;exact b,fun z=>congrArg some (ahg nd b z)⟩,⟨fun z=>(nomatch z),fun z=>absurd hh z⟩⟩
  ·exact ⟨none,fun k=>⟨fun z=>(nomatch z),fun z=>absurd (ad0 z) hh⟩,⟨fun _=>hh,fun _=>rfl⟩⟩
 exact ⟨fun i=>Classical.choose (a i),fun i j=>(Classical.choose_spec (a i)).1 j,fun i=>(Classical.choose_spec (a i)).2⟩
theorem ahh {f:VJ} (U:B.K=K) (h:EvJ B t env fun js w=>∃ ss,SlJ w js ss/\(acn js).Nodup/\f ss fun e s=>∃ e2,PutJ w js e e2/\QO s e2):EvO B (abx (spJ K f) [] E t) env QO:=fun σ G H F Q I k=>by
 subst U
 unfold abx
 simp only [aE4]
 refine h σ G H F _ I fun vs O C o js w D W a1 ⟨ss,M,nd,hf⟩=>?_
 obtain ⟨inv,c,R⟩:=a03 nd
 have inj:∀ i g j,inv i=some j->inv g=some j->i=g:=fun i g j x y=>by
  have x:=(c i j).mp x
  have y:=(c g j).mp y
  rw [x] at y
  cases y
  rfl
 have J:=D.enter (inv:=inv) (σI:=vs.map some) (envI:=ss.map some) inj (by rw [aA3,aA3,a1.length,M.length]) (fun j s e=>by
  rw [aA5] at e
  obtain ⟨S,Z,e2⟩:=Option.map_eq_some_iff.mp e
  cases e2
  rcases M.get Z with ⟨d,b,rfl⟩ | ⟨i,A,b,rfl,m⟩
  ·obtain ⟨v,l,q⟩:=a1.get b
   refine ⟨v,by rw [aA5,l];rfl,.inl ⟨d,rfl,q,fun i z=>?_⟩⟩
   rw [(c i j).mp z] at b
   cases b
  ·obtain ⟨v,l,q⟩:=a1.get b
   exact ⟨v,by rw [aA5,l];rfl,.inr (.inr ⟨i,A,(c i j).mpr b,rfl,q,m⟩)⟩)
 refine ⟨⟨B.K,O,C,acm C o inv,vs.map some,fun j a=>∃ i,inv i=some j/\o i a⟩,ss,_,rfl,rfl,J,hf,fun e s ⟨e2,r,q⟩ v G' H' F' Fv N X=>?_⟩
 have L:=D.leave (inv:=inv) (env2:=e2) inj rfl rfl (fun a u e n=>by show acm C o inv a=_;rw [agb n];exact e) (fun i j hi a z=>by
   obtain ⟨g,p,z⟩:=z
   rw [inj i g j hi p]
   exact z) (fun i j hi=>by
   obtain ⟨v,l,q⟩:=a1.get ((c i j).mp hi)
   show (vs.map some)[j]? = σ[i]?
   rw [aA5,l,q]
   rfl) N (fun i j hi=>r.io ((c i j).mp hi)) r.length (fun i S e=>by
   rcases r.at nd e with ⟨T,Y⟩ | ⟨j,A,A',b,m,P⟩
   ·exact .inl ⟨(R i).mpr T,Y⟩
   ·exact .inr ⟨j,A,A',(c i j).mpr b,m,P⟩)
 exact k v G' H' _ Fv s _ L (W.trans N.g0) (X.leave (inv:=inv) D rfl) q
theorem agl {f:VJ} (n:B.K=K) (h:EvJ B t env fun js c=>∃ ss,SlJ c js ss/\(acn js).Nodup/\f ss fun e s=>∃ e2,PutJ c js e e2/\FQ s fun d=>Q' d e2):Ev B (abx (spJ K f) [] E t) env Q':=abo (ahh n (by
 intro σ G H F Q I k
 exact h σ G H F Q I fun vs G' H' F' js b j g a ⟨ss,l,i,m⟩=>k vs G' H' F' js b j g a ⟨ss,l,i,m⟩))
end
section
variable {B:Bs} {env:En} {QO:Sl->En->Prop} {Q':PyData->En->Prop} {K:Frag} {E:XK} {i:Nat}
end
end VL
namespace G
open PySem L2 VL
def top (i:Nat):Stmt:=PySem.Challenge.pw_fewties_k45_whole_as_the_web_anew.main.body.getD i (.Pass ⟨0,0,0,0⟩)
abbrev s_is_whole:Stmt:=top 8
abbrev s_is_between:Stmt:=top 9
abbrev s_need_number:Stmt:=top 10
abbrev s_is_place:Stmt:=top 11
abbrev s_is_tie:Stmt:=top 12
abbrev s_are_ties:Stmt:=top 13
abbrev s_is_rising:Stmt:=top 14
abbrev s_tied_places:Stmt:=top 15
abbrev s_far_from:Stmt:=top 16
abbrev s_need_place:Stmt:=top 17
abbrev s_all_far:Stmt:=top 18
abbrev s_how_far:Stmt:=top 19
abbrev s_is_joined:Stmt:=top 20
abbrev s_need_joined:Stmt:=top 22
abbrev s_far_rows:Stmt:=top 23
abbrev s_most_far:Stmt:=top 24
abbrev s_farthest_two:Stmt:=top 25
abbrev s_with_ties:Stmt:=top 27
abbrev s_far_or_none:Stmt:=top 29
abbrev s_law_deck:Stmt:=top 32
abbrev s_law_draw:Stmt:=top 33
abbrev s_law_tied:Stmt:=top 34
abbrev s_law_fars:Stmt:=top 35
abbrev s_law_order:Stmt:=top 36
abbrev s_law_crowds:Stmt:=top 37
abbrev s_law_web:Stmt:=top 38
abbrev s_law_joined_web:Stmt:=top 39
abbrev s_law_deed:Stmt:=top 40
abbrev s_law_behind:Stmt:=top 41
abbrev s_law_done:Stmt:=top 42
abbrev s_law_same:Stmt:=top 43
abbrev s_law_step_right:Stmt:=top 44
abbrev s_law_grown:Stmt:=top 45
abbrev s_law_long:Stmt:=top 46
abbrev s_law:Stmt:=top 47
abbrev s_Grower____init__:Stmt:=ady (top 30) 0
abbrev s_Grower__put_place:Stmt:=ady (top 30) 1
abbrev s_Grower__put_tie:Stmt:=ady (top 30) 2
abbrev s_Grower__become:Stmt:=ady (top 30) 3
abbrev s_Grower__web:Stmt:=ady (top 30) 4
abbrev s_Grower__farthest:Stmt:=ady (top 30) 5
abbrev s_Grower__far:Stmt:=ady (top 30) 6
structure Txt (K:Frag) (mg:Str->Option Value):Prop where
 b_ValueError:mg "ValueError" = none
 b_all:mg "all" = none
 b_max:mg "max" = none
 b_sorted:mg "sorted" = none
 b_range:mg "range" = none
 b_dict:mg "dict" = none
 b_list:mg "list" = none
 b_isinstance:mg "isinstance" = none
 b_int:mg "int" = none
 b_len:mg "len" = none
 b_sum:mg "sum" = none
 b_min:mg "min" = none
 b_bool:mg "bool" = none
 b_tuple:mg "tuple" = none
 v_MOST_PLACES:∃ t,mg "MOST_PLACES" = some (.int 60 t)
 d_is_whole:∃ f fd,DefAt K mg "is_whole" s_is_whole ["thing"] f fd
 d_is_between:∃ f fd,DefAt K mg "is_between" s_is_between ["least","most","thing"] f fd
 d_need_number:∃ f fd,DefAt K mg "need_number" s_need_number ["least","most","thing"] f fd
 d_is_place:∃ f fd,DefAt K mg "is_place" s_is_place ["n","thing"] f fd
 d_is_tie:∃ f fd,DefAt K mg "is_tie" s_is_tie ["n","thing"] f fd
 d_are_ties:∃ f fd,DefAt K mg "are_ties" s_are_ties ["n","thing"] f fd
 d_is_rising:∃ f fd,DefAt K mg "is_rising" s_is_rising ["things"] f fd
 d_tied_places:∃ f fd,DefAt K mg "tied_places" s_tied_places ["web"] f fd
 d_far_from:∃ f fd,DefAt K mg "far_from" s_far_from ["tied","start"] f fd
 d_need_place:∃ f fd,DefAt K mg "need_place" s_need_place ["web","thing"] f fd
 d_all_far:∃ f fd,DefAt K mg "all_far" s_all_far ["web","a"] f fd
 d_how_far:∃ f fd,DefAt K mg "how_far" s_how_far ["web","a","b"] f fd
 d_is_joined:∃ f fd,DefAt K mg "is_joined" s_is_joined ["web"] f fd
 d_need_joined:∃ f fd,DefAt K mg "need_joined" s_need_joined ["web"] f fd
 d_far_rows:∃ f fd,DefAt K mg "far_rows" s_far_rows ["web"] f fd
 d_most_far:∃ f fd,DefAt K mg "most_far" s_most_far ["rows"] f fd
 d_farthest_two:∃ f fd,DefAt K mg "farthest_two" s_farthest_two ["web"] f fd
 d_with_ties:∃ f fd,DefAt K mg "with_ties" s_with_ties ["web","ties"] f fd
 d_far_or_none:∃ f fd,DefAt K mg "far_or_none" s_far_or_none ["web"] f fd
 d_law_deck:∃ f fd,DefAt K mg "_law_deck" s_law_deck ["script"] f fd
 d_law_draw:∃ f fd,DefAt K mg "_law_draw" s_law_draw ["deck","many"] f fd
 d_law_tied:∃ f fd,DefAt K mg "_law_tied" s_law_tied ["web"] f fd
 d_law_fars:∃ f fd,DefAt K mg "_law_fars" s_law_fars ["web"] f fd
 d_law_order:∃ f fd,DefAt K mg "_law_order" s_law_order ["deck","n"] f fd
 d_law_crowds:∃ f fd,DefAt K mg "_law_crowds" s_law_crowds ["deck"] f fd
 d_law_web:∃ f fd,DefAt K mg "_law_web" s_law_web ["deck"] f fd
 d_law_joined_web:∃ f fd,DefAt K mg "_law_joined_web" s_law_joined_web ["deck"] f fd
 d_law_deed:∃ f fd,DefAt K mg "_law_deed" s_law_deed ["deck","web"] f fd
 d_law_behind:∃ f fd,DefAt K mg "_law_behind" s_law_behind ["web","deed"] f fd
 d_law_done:∃ f fd,DefAt K mg "_law_done" s_law_done ["grower","deed"] f fd
 d_law_same:∃ f fd,DefAt K mg "_law_same" s_law_same ["deck","grower"] f fd
 d_law_step_right:∃ f fd,DefAt K mg "_law_step_right" s_law_step_right ["deck","grower","deed","last"] f fd
 d_law_grown:∃ f fd,DefAt K mg "_law_grown" s_law_grown ["deck","web"] f fd
 d_law_long:∃ f fd,DefAt K mg "_law_long" s_law_long ["deck"] f fd
 d_law:∃ f fd,DefAt K mg "law" s_law ["script"] f fd
 o_Grower:∃ C,ObAt K mg "Grower" C
 n_Grower_held:∀ C,mg "Grower" = some (.ref C)->NoAttr K C "held"
 m_Grower____init__:∀ C,mg "Grower" = some (.ref C)->∃ f fd,MeAt K C "__init__" "Grower.__init__" s_Grower____init__ ["self","web"] f fd
 m_Grower__put_place:∀ C,mg "Grower" = some (.ref C)->∃ f fd,MeAt K C "put_place" "Grower.put_place" s_Grower__put_place ["self","a"] f fd
 m_Grower__put_tie:∀ C,mg "Grower" = some (.ref C)->∃ f fd,MeAt K C "put_tie" "Grower.put_tie" s_Grower__put_tie ["self","a","b"] f fd
 m_Grower__become:∀ C,mg "Grower" = some (.ref C)->∃ f fd,MeAt K C "become" "Grower.become" s_Grower__become ["self","grown"] f fd
 m_Grower__web:∀ C,mg "Grower" = some (.ref C)->∃ f fd,MeAt K C "web" "Grower.web" s_Grower__web ["self"] f fd
 m_Grower__farthest:∀ C,mg "Grower" = some (.ref C)->∃ f fd,MeAt K C "farthest" "Grower.farthest" s_Grower__farthest ["self"] f fd
 m_Grower__far:∀ C,mg "Grower" = some (.ref C)->∃ f fd,MeAt K C "far" "Grower.far" s_Grower__far ["self","a","b"] f fd
local macro_rules | `(tactic| row_cond sc) => `(tactic| exact ⟨rfl,rfl,rfl,by decide +kernel,rfl,by decide +kernel,by decide +kernel⟩)
local macro_rules | `(tactic| row_cond gn) => `(tactic| first | (with_reducible first | refine evg_n0 ?_ | refine a0l ?_ | refine a0m ?_ | refine a0n ?_ | refine a0o ?_ | refine a0p ?_ | refine a0q ?_ | refine a0r ?_ | refine a0s ?_ | refine a0t ?_ | refine evg_n10 ?_ | refine evg_n11 ?_ | refine evg_n12 ?_ | refine evg_n13 ?_ | refine evg_n14 ?_ | refine evg_n15 ?_ | refine evg_n16 ?_ | refine evg_n17 ?_ | refine evg_n18 ?_ | refine evg_n19 ?_ | refine evg_n20 ?_ | refine evg_n21 ?_ | refine evg_n22 ?_ | refine evg_n23 ?_ | refine evg_n24 ?_ | refine evg_n25 ?_) | ((with_reducible refine abq ?_); dsimp only [List.set_cons_zero, List.set_cons_succ]))
local macro_rules | `(tactic| row_cond dc) => `(tactic| first | assumption | lia | (with_reducible rfl))
local macro_rules | `(tactic| row_cond ar) => `(tactic| first | assumption | (refine ⟨?_, ?_, ?_⟩ <;> decide) | (constructor <;> first | assumption | lia) | (show (0 : Int) < _; first | assumption | lia) | (left; constructor <;> first | assumption | lia) | (right; constructor <;> first | assumption | lia))
local macro_rules | `(tactic| row_cond hs) => `(tactic| first | exact Or.inl rfl | exact Or.inr rfl)
local macro_rules | `(tactic| row_cond fz) => `(tactic| first | exact adg | exact az1 | exact frz_OT | exact ahe | exact ako | assumption)
local macro_rules | `(tactic| row_cond le) => `(tactic| first | exact Nat.le_of_ble_eq_true rfl | assumption | lia | (simp only [List.length_append, List.length_map, List.length_cons, List.length_nil, List.length_set, List.length_replicate]; lia))
local macro_rules | `(tactic| row_cond ia) => `(tactic| first | assumption | exact at0 | exact at1 | exact at2 | exact rfl)
local macro_rules | `(tactic| row_cond ty) => `(tactic| first | exact a0j | exact ax8 | exact avi | exact ax9 | exact ty_str | exact ty_dict)
local macro_rules | `(tactic| row_cond sEvS) => `(tactic| first | (with_reducible refine ang (fun c_ hc_ => ?_)) | (with_reducible first | refine axw ?_ | refine asq ?_ | refine anf ?_) | ((with_reducible refine' avj ?h0 ?_); (case h0 => exact rfl)) | (with_reducible first | refine aph ?_ | refine axy ?_ | refine au1 ?_) | ((with_reducible refine' aq4 ?h0 ?_); (case h0 => exact rfl)) | ((with_reducible refine' aq5 ?h0 ?_); (case h0 => exact rfl)) | ((with_reducible refine' akl ?h0 ?_); (case h0 => assumption)))
local macro_rules | `(tactic| row_cond sEvG) => `(tactic| first | row_cond gn | ((with_reducible refine' axx ?h0 ?_); (case h0 => exact rfl)) | ((with_reducible refine' avh ?h0 ?_); (case h0 => row_cond hs)) | (with_reducible refine evg_st ?_))
local macro_rules | `(tactic| row_cond sEvGs) => `(tactic| first | (with_reducible first | refine asp ?_ | refine au2 ?_))
local macro_rules | `(tactic| row_cond sEv) => `(tactic| first | ((with_reducible refine' az2 ?h0 ?_); (case h0 => exact rfl)) | (with_reducible refine az3 ?_) | ((with_reducible refine' a0h ?h0 ?_); (case h0 => row_cond hs)) | ((with_reducible refine' a0f ?h0 ?_); (case h0 => row_cond hs)) | (with_reducible refine awk ?_) | ((with_reducible refine' a0i ?h0 ?_); (case h0 => row_cond ty)) | ((with_reducible refine' a0g ?h0 ?h1 ?_); (case h0 => row_cond hs); (case h1 => row_cond fz)) | ((with_reducible refine' alb ?h0 ?_); (case h0 => exact rfl)) | ((with_reducible refine' asv ?h0 ?_); (case h0 => exact rfl)) | (with_reducible refine au6 ?_) | ((with_reducible refine' axr ?h0 ?h1 ?_); (case h0 => exact rfl); (case h1 => row_cond fz); dsimp only [List.set_cons_zero, List.set_cons_succ]) | (with_reducible first | refine az6 ?_ | refine az7 ?_ | refine a1v ?_ | refine az4 ?_ | refine a1w ?_ | refine axu ?_ | refine az9 ?_ | refine axv ?_ | refine a1z ?_ | refine au0 ?_ | refine abo (te:=tCB (ajh _) _) ?_ | refine abo (te:=tCB ah1 _) ?_ | refine a1x ?_) | ((with_reducible refine' aqz ?h0 ?_); (case h0 => row_cond hs)) | ((with_reducible refine' aq0 ?h0 ?_); (case h0 => row_cond hs)) | ((with_reducible refine' anj ?h0 ?_); (case h0 => row_cond hs)) | ((with_reducible refine' aor ?h0 ?_); (case h0 => row_cond hs)) | (with_reducible refine avo ?_) | ((with_reducible refine' a16 ?h0 ?_); (case h0 => decide)) | (with_reducible first | refine avs ?_))
local macro_rules | `(tactic| row_cond sEvO) => `(tactic| first | (with_reducible first | refine anc (r:=rCat) ?_ | refine anc (r:=rRep) ?_ | refine aa7 (te:=tOp _ _ _) ?_ | refine aa7 (te:=tVar _) ?_ | refine aa7 (te:=tC _) ?_ | refine ape ?_) | ((with_reducible refine' avp ?h0 ?_); (case h0 => exact rfl)) | (with_reducible refine apd ?_) | ((with_reducible refine' ajm ?h0 ?_); (case h0 => exact rfl)) | ((with_reducible refine' ajn ?h0 ?_); (case h0 => exact rfl)) | ((with_reducible refine' ass ?h0 ?h1 ?_); (case h0 => exact rfl); (case h1 => assumption)) | (with_reducible first | refine ak8 ?_ | refine aya ?_) | ((with_reducible refine' ast ?h0 ?_); (case h0 => decide)) | (with_reducible first | refine ayn ?_) | (with_reducible first | refine as6 ?_ | refine ald ?_ | refine aso (r:=anm _) ?_ | refine aa7 (te:=tUn _ _) ?_ | refine aa7 (te:=tIf _ _ _) ?_ | refine aa7 (te:=ap9 _ _) ?_ | refine aa7 (te:=tOrV _ _) ?_ | refine aa7 (te:=aqa _) ?_ | refine aa7 (te:=aix _ _ _ _ _) ?_ | refine aa7 (te:=al3 _ _) ?_ | refine aa7 (te:=afs _ _) ?_ | refine aa7 (te:=tCB (rLen _) _) ?_ | refine aa7 (te:=tCB (rIsi _) _) ?_ | refine aa7 (te:=tCB al5 _) ?_ | refine aa7 (te:=tCB al6 _) ?_ | refine aa7 (te:=tCB aqo _) ?_ | refine aa7 (te:=tCB (af8 _) _) ?_ | refine aa7 (te:=tCB (al8 _) _) ?_ | refine aa7 (te:=tCB (aqv _) _) ?_ | refine aa7 (te:=tCB (rAll _) _) ?_ | refine aa7 (te:=tBM _ _ _ _ _) ?_))
local macro_rules | `(tactic| row_cond sEvT) => `(tactic| first | (with_reducible first | refine ail ?_ | refine a1y ?_ | refine axs ?_ | refine az8 ?_ | refine apf ?_ | refine akk ?_) | (with_reducible refine axt ?_))
local macro_rules | `(tactic| row_cond sEvA) => `(tactic| first | (with_reducible first | refine ane ?_ | refine apc ?_))
local macro_rules | `(tactic| row_cond sEvI) => `(tactic| first | (with_reducible first | refine au4 ?_ | refine au5 ?_ | refine evi_down ?_ | refine au3 ?_) | (with_reducible refine evi_tup ?_))
local macro_rules | `(tactic| row_cond sOp2) => `(tactic| first | (with_reducible first | refine axz ?_ | refine ax0 ?_) | ((with_reducible refine' a0d ?h0 ?_); (case h0 => row_cond ar)) | (with_reducible first | refine ax1 ?_ | refine ax2 ?_) | ((with_reducible refine' ax3 ?h0 ?_); (case h0 => row_cond ia)) | ((with_reducible refine' ax4 ?h0 ?_); (case h0 => row_cond ia)) | (with_reducible first | refine ax5 ?_ | refine ava ?_) | ((with_reducible refine' ax6 ?h0 ?_); (case h0 => row_cond le)))
local macro_rules | `(tactic| row_cond sOp1) => `(tactic| first | (with_reducible refine a0e ?_))
local macro_rules | `(tactic| row_cond sOpA) => `(tactic| first | (with_reducible first | refine avb ?_ | refine avc ?_ | refine avd ?_ | refine ave ?_ | refine avn ?_))
local macro_rules | `(tactic| row_cond sFQ) => `(tactic| first | (with_reducible first | refine ajj ?_ | refine adj ?_ | refine afh ?_))
local macro_rules | `(tactic| row_cond sRngA1) => `(tactic| first | ((with_reducible refine' a0b ?h0 ?h1 ?_); (case h0 => lia); (case h1 => lia)))
local macro_rules | `(tactic| row_cond sRngA2) => `(tactic| first | ((with_reducible refine' a0c ?h0 ?_); (case h0 => lia)))
local macro_rules | `(tactic| row_cond sRest) => `(tactic| first | (with_reducible first | refine x_bl ?_ | refine x_st ?_ | refine a0a ?_) | ((with_reducible refine' a13 ?h0 ?h1 ?_); (case h0 => row_cond hs); (case h1 => row_cond ia)) | ((with_reducible refine' a14 ?h0 ?h1 ?_); (case h0 => row_cond hs); (case h1 => row_cond fz)) | ((with_reducible refine' x_sc ?h0 ?_); (case h0 => exact rfl)) | ((with_reducible refine' a12 ?h0 ?_); (case h0 => row_cond le)) | (with_reducible first | refine acd ?_ | refine adb ?_ | refine akc ?_ | refine akd ?_) | ((with_reducible refine' aj5 ?h0 ?_); (case h0 => row_cond dc)) | ((with_reducible refine' aj6 ?h0 ?_); (case h0 => row_cond dc)) | ((with_reducible refine' aux ?h0 ?_); (case h0 => row_cond dc)) | ((with_reducible refine' auy ?h0 ?_); (case h0 => row_cond dc)) | ((with_reducible refine' a15 ?h0 ?_); (case h0 => first | exact rfl | row_cond hs)) | ((with_reducible refine' x_rt ?h0 ?_); (case h0 => exact rfl)) | ((with_reducible refine' a0k ?h0 ?h1 ?_); (case h0 => exact rfl); (case h1 => row_cond le); dsimp only [List.set_cons_zero, List.set_cons_succ]) | ((with_reducible refine' aq1 ?h0 ?h1 ?_); (case h0 => exact rfl); (case h1 => first | exact ixN0 | exact ixN1 | exact ixN2 | assumption); dsimp only [List.set_cons_zero, List.set_cons_succ, reS]) | (with_reducible first | refine avk ?_) | ((with_reducible refine' x_dT ?h0 ?h1 ?_); (case h0 => exact rfl); (case h1 => row_cond le); dsimp only [List.set_cons_zero, List.set_cons_succ]) | ((with_reducible refine' x_dK ?h0 ?h1 ?_); (case h0 => exact rfl); (case h1 => row_cond le); dsimp only [List.set_cons_zero, List.set_cons_succ]) | ((with_reducible refine' x_dN ?h0 ?_); (case h0 => row_cond hs)) | ((with_reducible refine' ayf ?h0 ?h1 ?_); (case h0 => lia); (case h1 => lia)) | ((with_reducible refine' x_ow ?h0 ?_); (case h0 => exact rfl); dsimp only [List.set_cons_zero, List.set_cons_succ]))
local macro_rules | `(tactic| row_cond st) => `(tactic| first | ((with_reducible refine a17 ?_); row_cond sEvS) | ((with_reducible refine a18 ?_); row_cond sEvG) | ((with_reducible refine a0w ?_); row_cond sEvGs) | ((with_reducible refine g_Ev ?_); row_cond sEv) | ((with_reducible refine a19 ?_); row_cond sEvO) | ((with_reducible refine a2c ?_); row_cond sEvT) | ((with_reducible refine a2d ?_); row_cond sEvA) | ((with_reducible refine a2e ?_); row_cond sEvI) | ((with_reducible refine g_EvOp ?_); row_cond sEvOp) | ((with_reducible refine a2f ?_); row_cond sOp2) | ((with_reducible refine a2g ?_); row_cond sOp1) | ((with_reducible refine a2h ?_); row_cond sOpA) | ((with_reducible refine g_FQ ?_); row_cond sFQ) | ((with_reducible refine ayk ?_); row_cond sRngA1) | ((with_reducible refine ayl ?_); row_cond sRngA2) | row_cond sRest)
local macro_rules | `(tactic| row_cond go) => `(tactic| repeat row_cond st)
local macro_rules | `(tactic| row_cond hnx) => `(tactic| first | assumption | (apply Ne.symm; assumption) | exact aan (by assumption) (by assumption) | exact (aan (by assumption) (by assumption)).symm)
local macro_rules | `(tactic| row_cond hhp) => `(tactic| first | assumption | exact aah | (rw [aae (by row_cond hnx)]; row_cond hhp) | ((refine' Same.at ?ss ?hh); (case ss => assumption); (case hh => row_cond hhp)))
local macro_rules | `(tactic| row_cond hix) => `(tactic| first | assumption | exact at0 | exact at1 | exact at2)
local macro_rules | `(tactic| row_cond hst) => `(tactic| first | (with_reducible first | refine azm ?_ | refine azn ?_ | refine ahu ?_ | refine a1p ?_ | refine go_c ?_ | refine a1s ?_ | refine go_U ?_ | refine ase ?_ | refine axc ?_ | refine a1q ?_ | refine azp ?_ | refine azq ?_ | refine azo ?_ | refine aw9 ?_ | refine axa ?_ | refine a1r ?_ | refine afv ?_ | refine ae0 ?_ | refine axd ?_ | refine ao3 ?_ | refine ao4 ?_ | refine axf ?_ | refine axb ?_ | refine axo ?_ | refine azu ?_ | refine azw ?_ | refine a1t ?_ | refine aum ?_ | refine aja ?_ | refine acd ?_ | refine adb ?_) | ((with_reducible refine' ams ?hv ?_); (case hv => exact rfl)) | ((with_reducible refine' af9 ?ha ?hv ?_); (case ha => row_cond hhp); (case hv => row_cond hix)) | ((with_reducible refine go_I ?hc ?_); (case hc => row_cond ar)) | ((with_reducible refine' ao2 ?ha ?_); (case ha => row_cond hhp)) | ((with_reducible refine' ao1 ?ha ?hj ?_); (case ha => row_cond hhp); (case hj => first | exact ixN0 | exact ixN1 | exact ixN2)) | ((with_reducible refine' azy ?ha ?_); (case ha => row_cond hhp)) | ((with_reducible refine' afc ?ha ?hl ?_); (case ha => row_cond hhp); (case hl => exact ae8 (by simp; lia))) | ((with_reducible refine' aj5 ?hc ?_); (case hc => row_cond dc)) | ((with_reducible refine' aj6 ?hc ?_); (case hc => row_cond dc)) | dsimp only [List.set_cons_zero, List.set_cons_succ])
local macro_rules | `(tactic| row_cond hgo) => `(tactic| repeat row_cond hst)
def isInt:PyData->Bool
 | .int _=>true
 | _=>false
def btwD (a b:Int):PyData->Bool
 | .int i=>decide (a<=i/\i<=b)
 | _=>false
def ayt:VP:=fun ss Q=>∃ d,ss=[.st d]/\Q (.st (.bool (isInt d)))
def atp:VP:=fun ss Q=>∃ (a b:Int) (d:PyData),ss=[.st (.int a),.st (.int b),.st d]/\Q (.st (.bool (btwD a b d)))
def ayu:VP:=fun ss Q=>∃ (n:Int) (d:PyData),ss=[.st (.int n),.st d]/\Q (.st (.bool (btwD 0 (n - 1) d)))
section
variable {P:Program} {w:World} {K:Frag} {mg:Str->Option Value} {base:Heap}
theorem sc_is_whole:FnScope ["thing"] ["thing"] (aai s_is_whole):=by row_cond sc
theorem an2 (T:Txt K mg):Can P w K mg base "is_whole" 1 ["thing"] (spP K (ayt)):=by
 obtain ⟨f,fd,D⟩:=T.d_is_whole
 obtain ⟨j,a⟩:=T.o_Grower
 have c:=a.mgx
 have l:=T.n_Grower_held _ c
 refine D.can (D.fn.ok sc_is_whole (fun vs H Q E h=>lenP h fun ss Q' q=>by obtain ⟨d,rfl,k⟩:=q;rfl) (fun cdv A outer s H vs Q E n h=>?_))
 have nd:=sc_is_whole.nd
 refine ⟨_,(aag (aao (aes (aal af7 (by rfl) T.b_isinstance adh (aaa (pv 0) (aaa (ahq (v:=.ty "int") rfl T.b_int asi rfl) aab))) (aer (azc (aal af7 (by rfl) T.b_isinstance adh (aaa (pv 0) (aaa (ahq (v:=.ty "bool") rfl T.b_bool axh rfl) aab)))))))),?_⟩
 refine abr h fun ss Q' q B m=>?_
 refine exS1 ss q fun d g=>?_
 have k:=g
 clear g q
 show EvS B _ _ [some (.st d)]
 row_cond go
 cases d with
 | int i => refine acd ?_; row_cond go; exact k
 | bool b => refine acd ?_; row_cond go; exact k
 | _=>refine adb ?_;exact k
theorem sc_is_between:FnScope ["least","most","thing"] ["least","most","thing"] (aai s_is_between):=by row_cond sc
theorem af1 (T:Txt K mg):Can P w K mg base "is_between" 2 ["least","most","thing"] (spP K (atp)):=by
 obtain ⟨f,fd,D⟩:=T.d_is_between
 obtain ⟨l,c⟩:=T.o_Grower
 have g:=c.mgx
 have n:=T.n_Grower_held _ g
 refine D.can (D.fn.ok sc_is_between (fun vs H Q E h=>lenP h fun ss Q' q=>by obtain ⟨a,b,d,rfl,k⟩:=q;rfl) (fun cdv A outer s H vs Q E o h=>?_))
 have nd:=sc_is_between.nd
 refine ⟨_,(aag (aao (aes (aaf (an2 T) o (aaa (pv 2) aab)) (aer (at7 al1 al1 (pv 0) (pv 2) (pv 1)))))),?_⟩
 refine abr h fun ss Q' q B p=>?_
 refine exS3 ss q fun a b d j=>?_
 have k:=j
 clear j q
 show EvS B _ _ [some (.st (.int a)),some (.st (.int b)),some (.st d)]
 row_cond go
 refine ⟨d,rfl,?_⟩
 row_cond go
 cases d with
 | int i =>
  refine acd ?_
  row_cond go
  refine ac6 (fun m=>?_) (fun m=>?_)
  ·row_cond go
   have e:decide (i<=b)=btwD a b (.int i):=by
    show _=decide (a<=i/\i<=b)
    rw [aH0];simp [m]
   rw [e];exact k
  ·have e:false=btwD a b (.int i):=by
    show _=decide (a<=i/\i<=b)
    exact (aD5 (fun z=>m z.1)).symm
   rw [e];exact k
 | _=>exact adb k
theorem sc_is_place:FnScope ["n","thing"] ["n","thing"] (aai s_is_place):=by row_cond sc
theorem ae5 (T:Txt K mg):Can P w K mg base "is_place" 3 ["n","thing"] (spP K (ayu)):=by
 obtain ⟨f,fd,D⟩:=T.d_is_place
 obtain ⟨g,a⟩:=T.o_Grower
 have b:=a.mgx
 have i:=T.n_Grower_held _ b
 refine D.can (D.fn.ok sc_is_place (fun vs H Q E h=>lenP h fun ss Q' q=>by obtain ⟨n,d,rfl,k⟩:=q;rfl) (fun cdv A outer s H vs Q E j h=>?_))
 have nd:=sc_is_place.nd
 refine ⟨_,(aag (aao (aaf (af1 T) j (aaa aad (aaa (aav aeu (pv 0) aad) (aaa (pv 1) aab)))))),?_⟩
 refine abr h fun ss Q' q B l=>?_
 refine exS2 ss q fun n d c=>?_
 have k:=c
 clear c q
 show EvS B _ _ [some (.st (.int n)),some (.st d)]
 row_cond go
 exact ⟨_,_,_,rfl,k⟩
def a04:VP:=fun ss Q=>∃ (n:Int) (es:List (Int × Int)),ss=[.st (webD n es)]/\0<=n/\n<=100/\InN n es/\es.length<=10000/\∀ tl,TiedL n (Tied es) tl->(∀ us∈tl,us.length<=20000)->Q (.own (OLL (tlD tl)))
theorem sc_tied_places:FnScope ["web","n","ties","tied","a","b"] ["web"] (aai s_tied_places):=by row_cond sc
theorem afi (T:Txt K mg):Can P w K mg base "tied_places" 1 ["web"] (spP K (a04)):=by
 obtain ⟨f,fd,D⟩:=T.d_tied_places
 obtain ⟨z,m⟩:=T.o_Grower
 have p:=m.mgx
 have I:=T.n_Grower_held _ p
 refine D.can (D.fn.ok sc_tied_places (fun vs H Q E h=>lenP h fun ss Q' q=>by obtain ⟨n,es,rfl,R,U,y,J,k⟩:=q;rfl) (fun cdv A outer s H vs Q E X h=>?_))
 have nd:=sc_tied_places.nd
 refine ⟨_,(aac (ab0 (pv 0) (aco rfl (aax (aam (i:=1) nd rfl (Or.inl rfl)) (aax (aam (i:=2) nd rfl (Or.inl rfl)) ab4))))
  (aac (amr (i:=3) nd rfl (Or.inl rfl) rfl (N:=["place"]) (src:=[none]) (by exact ab7 rfl rfl rfl rfl rfl rfl) (abg rfl T.b_range (aaa (pv 1) aab)) (fun _ _ _ _=>(aam (i:=0) (show List.Nodup (["place"]:List Str) by decide +kernel) rfl (Or.inl rfl) (hf:=Or.inr rfl))) (fun _ _ _ _=>acp) (fun _ _ _ _=>(aa2 aab)))
  (aac (abp aI6 rfl (ab6 (pv 2)) (aco rfl (aax (aam (i:=4) nd rfl (Or.inl rfl)) (aax (aam (i:=5) nd rfl (Or.inl rfl)) ab4)))
   (aac (abj (ac1 PySem.F.plainAttrs_list PySem.F.slot_list_append PySem.F.type_list_append ab2 (aap aaq (pv 3) (pv 4) (fun _ _=>rfl)) (aaa (pv 5) aab)))
    (aag (abj (ac1 PySem.F.plainAttrs_list PySem.F.slot_list_append PySem.F.type_list_append ab2 (aap aaq (pv 3) (pv 5) (fun _ _=>rfl)) (aaa (pv 4) aab))))))
  (aag (aao (pv 3)))))),?_⟩
 refine abr h fun ss Q' q B W=>?_
 refine exS2 ss q fun n es c=>?_
 have R:=c.1
 have U:=c.2.1
 have y:=c.2.2.1
 have J:=c.2.2.2.1
 have k:=c.2.2.2.2
 clear c q
 show EvS B _ _ [some (.st (webD n es)),none,none,none,none,none]
 row_cond go
 rw [acy]
 refine ⟨by lia,?_⟩
 row_cond go
 refine adm (fun i e=>∃ M G tl,e=[some (.st (webD n es)),some (.st (.int n)),some (.st (.list (es.map prD))),some (.own (OLL (tlD tl))),M,G]/\TiedL n (Tied (es.take i)) tl/\∀ d∈tl,d.length<=2 * i)
  ⟨none,none,List.replicate n.toNat [],by simp [tlD],⟨by simp;lia,fun i d hi w=>?_⟩,fun d S=>?_⟩ ?_ ?_
 ·rw [aG9] at hi
  split at hi
  ·cases hi;simp [Tied]
  ·cases hi
 ·have:=List.eq_of_mem_replicate S
  subst this;simp
 ·rintro i ⟨a,b⟩ e L o
  refine exS3 e o fun M G tl c=>?_
  have r:=c.1
  have l:=c.2
  clear c o
  have hi:i < es.length:=(aA1.mp L).1
  obtain ⟨a0,a1,b0,b1⟩:=y _ (aA2 L)
  dsimp only at a0 a1 b0 b1
  row_cond go
  obtain ⟨d,j,_⟩:=r.get a0 a1
  have O:=l d (aA2 j)
  refine ajo (n:=a.toNat) (ds:=d.map .int) rfl rfl rfl (by rw [aA3];exact ajp a0 (by rw [r.1];exact a1)) (aep j) (by rw [aA3];lia) ?_
  dsimp only [List.set_cons_zero,List.set_cons_succ]
  have C:=r.put (q:=b) a0 a1 j
  rw [show d.map PyData.int ++ [.int b]=(d ++ [b]).map .int by simp,ah0]
  have g:∀ us∈tl.set a.toNat (d ++ [b]),us.length<=2 * i+1:=fun us x=>by
   rcases List.mem_or_eq_of_mem_set x with h | h
   ·have:=l us h;lia
   ·subst h;simp;lia
  generalize tl.set a.toNat (d ++ [b])=tl2 at C g
  row_cond go
  obtain ⟨d,j,_⟩:=C.get b0 b1
  have O:=g d (aA2 j)
  refine ajo (n:=b.toNat) (ds:=d.map .int) rfl rfl rfl (by rw [aA3];exact ajp b0 (by rw [C.1];exact b1)) (aep j) (by rw [aA3];lia) ?_
  dsimp only [List.set_cons_zero,List.set_cons_succ]
  rw [show d.map PyData.int ++ [.int a]=(d ++ [a]).map .int by simp,ah0]
  refine ⟨_,_,_,rfl,(C.put (q:=a) b0 b1 j).iff fun u v=>(Tied.snoc L u v).symm,fun us x=>?_⟩
  rcases List.mem_or_eq_of_mem_set x with h | h
  ·have:=g us h;lia
  ·subst h;simp;lia
 ·rintro e o
  refine exS3 e o fun M G tl c=>?_
  have r:=c.1
  have l:=c.2
  clear c o
  rw [aG0] at r
  row_cond go
  exact k tl r fun us x=>by have:=l us x;lia
end
@[reducible] def tlV (tl:List (List Int)):PyData:=.list ((tlD tl).map .list)
def a2i:VP:=fun ss Q=>∃ (n a:Int) (T:Int->Int->Prop) (tl:List (List Int)),ss=[.st (tlV tl),.st (.int a)]/\n<=100/\TiedL n T tl/\(∀ u v,T u v->0<=v/\v < n)/\0<=a/\a < n/\Q (.own (OL (lab n.toNat (Gr.farO T a))))
section
variable {P:Program} {w:World} {K:Frag} {mg:Str->Option Value} {base:Heap}
theorem sc_far_from:FnScope ["tied","start","far","edge","beyond","place","other"] ["tied","start"] (aai s_far_from):=by row_cond sc
theorem ahi (T:Txt K mg):Can P w K mg base "far_from" 1 ["tied","start"] (spP K (a2i)):=by
 obtain ⟨f,fd,D⟩:=T.d_far_from
 obtain ⟨U,G⟩:=T.o_Grower
 have z:=G.mgx
 have Y:=T.n_Grower_held _ z
 refine D.can (D.fn.ok sc_far_from (fun vs H Q E h=>lenP h fun ss Q' q=>by obtain ⟨n,a,T,tl,rfl,n1,ht,hT,a0,a1,k⟩:=q;rfl) (fun cdv A outer s H vs Q E hr h=>?_))
 have nd:=sc_far_from.nd
 refine ⟨_,(aac (aak (i:=2) nd rfl (Or.inl rfl) (aav azk (aa2 (aaa acv aab)) (aal aa9 (by rfl) T.b_len abz (aaa (pv 0) aab))))
  (aac (ab0 aad (agx (pv 2) (pv 1) aey))
  (aac (aak (i:=3) nd rfl (Or.inl rfl) (aa2 (aaa (pv 1) aab)))
  (aac (aie aI6 (az0 (pv 3))
   (aac (aak (i:=4) nd rfl (Or.inl rfl) (aa2 aab))
    (aac (abp aI6 rfl (ab6 (pv 3)) (aam (i:=5) nd rfl (Or.inl rfl))
     (aag (abp aI6 rfl (ab6 (aap aaq (pv 0) (pv 5) (fun _ _=>rfl))) (aam (i:=6) nd rfl (Or.inl rfl))
       (aag (aa4 (aat apa (aap aaq (pv 2) (pv 6) (fun _ _=>rfl)) acv (aau _))
         (aac (ab0 (aav abc (aap aaq (pv 2) (pv 5) (fun _ _=>rfl)) aad) (agx (pv 2) (pv 6) aey))
          (aag (abj (ac1 PySem.F.plainAttrs_list PySem.F.slot_list_append PySem.F.type_list_append ab2 (pv 4) (aaa (pv 6) aab)))))
         aaw)))))
    (aag (aak (i:=3) nd rfl (Or.inl rfl) (pv 4))))))
  (aag (aao (pv 2))))))),?_⟩
 refine abr h fun ss Q' q B hK=>?_
 refine exS4 ss q fun n a T tl b=>?_
 have n1:=b.1
 have ht:=b.2.1
 have hT:=b.2.2.1
 have a0:=b.2.2.2.1
 have a1:=b.2.2.2.2.1
 have k:=b.2.2.2.2.2
 clear b q
 show EvS B _ _ [some (.st (tlV tl)),some (.st (.int a)),none,none,none,none,none]
 have hl:tl.length=n.toNat:=by have:=ht.1;lia
 row_cond go
 refine ax7 (by first | lia | (simp;done) | (simp;lia)) (by first | lia | (simp;done) | (simp;lia)) (by first | lia | (simp;done) | (simp;lia)) ?_
 simp only [aA3,hl]
 rw [show ((n.toNat:Nat):Int).toNat=n.toNat by lia,ayc]
 row_cond go
 refine aq1 (j:=a.toNat) rfl (by rw [ade];exact ajp a0 (by lia)) ?_
 dsimp only [List.set_cons_zero,List.set_cons_succ,reS]
 rw [show (PyData.int 0)=.int ((0:Nat):Int) from rfl,apr a0 (by lia)]
 row_cond go
 refine apo 3 rfl adg ?_
 dsimp only [List.set_cons_zero,List.set_cons_succ]
 refine aha (fun m e=>∃ v4 L y far edge r,e=[some (.st (tlV tl)),some (.st (.int a)),some (.own (OL (lab n.toNat far))),some (.st (.list (edge.map .int))),v4,L,y]/\Gr.Ring T a r far edge/\(∀ v∈edge,0<=v/\v < n)/\m=2 * cnt far n.toNat+(if edge=[] then 0 else 1))
  ⟨_,none,none,none,_,[a],0,rfl,Gr.Ring.start,fun v R=>by simp at R;subst R;exact ⟨a0,a1⟩,rfl⟩ ?_
 rintro m e l
 refine exS6 e l fun v4 L y far edge r b=>?_
 have W:=b.1
 have hb:=b.2.1
 have a4:=b.2.2
 clear b l
 subst a4
 row_cond go
 rw [aop]
 cases hedge:edge with
 | nil =>
  subst hedge
  refine adb ?_
  row_cond go
  rw [asw (g:=Gr.farO T a) fun v _ _=>W.fin v]
  exact k
 | cons e0 er =>
  refine acd ?_
  rw [← hedge]
  have Z:edge ≠ []:=by rw [hedge];simp
  row_cond go
  refine adm (fun i e=>∃ L y c beyond,e=[some (.st (tlV tl)),some (.st (.int a)),some (.own (OL (lab n.toNat c))),some (.st (.list (edge.map .int))),some (.own (OL (beyond.map .int))),L,y]/\Gr.Mid T r far edge (fun u=>u∈edge.take i) c beyond/\cnt c n.toNat+beyond.length=cnt far n.toNat/\∀ v∈beyond,0<=v/\v < n)
   ⟨L,y,far,[],rfl,Gr.Mid.start.imp fun u N=>by simp at N,rfl,fun v R=>by simp at R⟩ ?_ ?_
  ·rintro i p e hp l
   refine exS4 e l fun L y c beyond b=>?_
   have I:=b.1
   have J:=b.2.1
   have o:=b.2.2
   clear b l
   have M:=aA2 hp
   obtain ⟨p0,p1⟩:=hb p M
   obtain ⟨ws,a2,hw⟩:=ht.get p0 p1
   have a7:atI ((tlD tl).map PyData.list) p=some (.list (ws.map .int)):=ajq (f:=PyData.list) (adk p0 (aep a2))
   row_cond go
   have X:far p=some r:=(W.lab p r).mpr ⟨(W.edg p).mp M,aA6 _⟩
   refine adm (fun j e=>∃ y c beyond,e=[some (.st (tlV tl)),some (.st (.int a)),some (.own (OL (lab n.toNat c))),some (.st (.list (edge.map .int))),some (.own (OL (beyond.map .int))),some (.st (.int p)),y]/\Gr.Mid T r far edge (fun u=>u∈edge.take i) c beyond/\cnt c n.toNat+beyond.length=cnt far n.toNat/\(∀ v∈beyond,0<=v/\v < n)/\∀ x∈ws.take j,c x ≠ none)
    ⟨y,c,beyond,rfl,I,J,o,fun x O=>by simp at O⟩ ?_ ?_
   ·rintro j u e N l
    refine exS3 e l fun y c beyond b=>?_
    have I:=b.1
    have J:=b.2.1
    have o:=b.2.2.1
    have C:=b.2.2.2
    clear b l
    have tu:T p u:=(hw u).mp (aA2 N)
    obtain ⟨S,u1⟩:=hT _ _ tu
    have a6:atI (lab n.toNat c) u=some (oD (c u)):=anl S (by lia)
    have a9:atI (lab n.toNat c) p=some (.int (r:Int)):=by
     rw [anl p0 (by lia),I.old p r X];rfl
    row_cond go
    rw [ayb]
    cases hf:c u with
    | none =>
     refine acd ?_
     row_cond go
     refine aq1 (j:=u.toNat) rfl (by rw [ade];exact ajp S (by lia)) ?_
     dsimp only [List.set_cons_zero,List.set_cons_succ,reS]
     rw [show (PyData.int ((r:Int)+1))=.int ((r+1:Nat):Int) by simp,apr S (by lia)]
     have a8:=aeb (d:=r+1) S hf (n:=n.toNat) (by lia)
     have a3:beyond.length<=cnt far n.toNat:=by lia
     have a5:∀ m,cnt far m<=m:=fun m=>by
      induction m with
      | zero=>exact aA6 _
      | succ m ih=>unfold cnt;split <;> lia
     have:=a5 n.toNat
     row_cond go
     refine ⟨some (.st (.int u)),Gr.label c u (r+1),beyond ++ [u],by simp,I.add M tu hf,by simp;lia,fun v R=>?_,fun x O=>?_⟩
     ·rcases aA7.mp R with h | h
      ·exact o v h
      ·have:v=u:=by simpa using h
       subst this;exact ⟨S,u1⟩
     ·by_cases hx2:x=u
      ·subst hx2;rw [Gr.label_same];simp
      ·rw [Gr.label_ne hx2]
       rcases ab8 N O with h | h
       ·exact C x h
       ·exact absurd h hx2
    | some d =>
     refine adb ?_
     row_cond go
     refine ⟨_,c,beyond,rfl,I,J,o,fun x O=>?_⟩
     rcases ab8 N O with h | h
     ·exact C x h
     ·subst h;rw [hf];simp
   ·rintro e l
    refine exS3 e l fun y c beyond b=>?_
    have I:=b.1
    have J:=b.2.1
    have o:=b.2.2.1
    have C:=b.2.2.2
    clear b l
    rw [aG0] at C
    refine ⟨_,_,c,beyond,rfl,?_,J,o⟩
    refine (I.did (u:=p) fun x tx=>C x ((hw x).mpr tx)).imp fun x O=>?_
    exact ab8 hp O
  ·rintro e l
   refine exS4 e l fun L y c beyond b=>?_
   have I:=b.1
   have J:=b.2.1
   have o:=b.2.2
   clear b l
   row_cond go
   refine ⟨_,?_,_,_,_,c,beyond,r+1,rfl,W.next I fun u N=>by rw [aG0];exact N,o,rfl⟩
   rw [aE8 Z]
   cases beyond with
   | nil=>rw [aE7 rfl];simp at J;lia
   | cons b0 br=>rw [aE8 (by simp)];simp at J;lia
end
def aot:VP:=fun ss Q=>∃ (n a:Int) (es:List (Int × Int)),ss=[.st (webD n es),.st (.int a)]/\0<=a/\a < n/\Q (.st .none)
def avx:VP:=fun ss Q=>∃ (n a:Int) (es:List (Int × Int)),ss=[.st (webD n es),.st (.int a)]/\n<=100/\InN n es/\es.length<=10000/\0<=a/\a < n/\Q (.own (OL (lab n.toNat (Gr.farO (Tied es) a))))
def avy:VP:=fun ss Q=>∃ (n a b:Int) (es:List (Int × Int)),ss=[.st (webD n es),.st (.int a),.st (.int b)]/\n<=100/\InN n es/\es.length<=10000/\0<=a/\a < n/\0<=b/\b < n/\Q (.st (oD (Gr.farO (Tied es) a b)))
def avz:VP:=fun ss Q=>∃ (n:Int) (es:List (Int × Int)),ss=[.st (webD n es)]/\1<=n/\n<=100/\InN n es/\es.length<=10000/\∀ b:Bool,(b=true ↔ Joined n es)->Q (.st (.bool b))
section
variable {P:Program} {w:World} {K:Frag} {mg:Str->Option Value} {base:Heap}
theorem sc_need_place:FnScope ["web","thing"] ["web","thing"] (aai s_need_place):=by row_cond sc
theorem adf (T:Txt K mg):Can P w K mg base "need_place" 4 ["web","thing"] (spP K (aot)):=by
 obtain ⟨f,fd,D⟩:=T.d_need_place
 obtain ⟨g,b⟩:=T.o_Grower
 have c:=b.mgx
 have i:=T.n_Grower_held _ c
 refine D.can (D.fn.ok sc_need_place (fun vs H Q E h=>lenP h fun ss Q' q=>by obtain ⟨n,a,es,rfl,a0,a1,k⟩:=q;rfl) (fun cdv A outer s H vs Q E j h=>?_))
 have nd:=sc_need_place.nd
 refine ⟨_,(aag (aa4 (acw (aca (aaf (ae5 T) j (aaa (aap aaq (pv 0) aad (fun _ _=>rfl)) (aaa (pv 1) aab)))))
   (aag aet)
   aaw)),?_⟩
 refine abr h fun ss Q' q B l=>?_
 refine exS3 ss q fun n a es d=>?_
 have a0:=d.1
 have a1:=d.2.1
 have k:=d.2.2
 clear d q
 show EvS B _ _ [some (.st (webD n es)),some (.st (.int a))]
 row_cond go
 refine ⟨_,_,rfl,?_⟩
 row_cond go
 have e:btwD 0 (n - 1) (.int a)=true:=aD6 ⟨a0,by lia⟩
 rw [e]
 row_cond go
 exact k
theorem sc_all_far:FnScope ["web","a"] ["web","a"] (aai s_all_far):=by row_cond sc
theorem aib (T:Txt K mg):Can P w K mg base "all_far" 5 ["web","a"] (spP K (avx)):=by
 obtain ⟨f,fd,D⟩:=T.d_all_far
 obtain ⟨j,c⟩:=T.o_Grower
 have d:=c.mgx
 have l:=T.n_Grower_held _ d
 refine D.can (D.fn.ok sc_all_far (fun vs H Q E h=>lenP h fun ss Q' q=>by obtain ⟨n,a,es,rfl,o,g,i,a0,a1,k⟩:=q;rfl) (fun cdv A outer s H vs Q E m h=>?_))
 have nd:=sc_all_far.nd
 refine ⟨_,(aac (abj (aaf (adf T) m (aaa (pv 0) (aaa (pv 1) aab))))
  (aag (aao (aaf (ahi T) m (aaa (aaf (afi T) m (aaa (pv 0) aab)) (aaa (pv 1) aab)))))),?_⟩
 refine abr h fun ss Q' q B r=>?_
 refine exS3 ss q fun n a es b=>?_
 have o:=b.1
 have g:=b.2.1
 have i:=b.2.2.1
 have a0:=b.2.2.2.1
 have a1:=b.2.2.2.2.1
 have k:=b.2.2.2.2.2
 clear b q
 show EvS B _ _ [some (.st (webD n es)),some (.st (.int a))]
 row_cond go
 refine ⟨n,a,es,rfl,a0,a1,?_⟩
 row_cond go
 refine ⟨n,es,rfl,by lia,o,g,i,fun tl p _=>?_⟩
 refine a0u ?_
 row_cond go
 exact ⟨n,a,Tied es,tl,rfl,o,p,fun u v h=>(h.in g).2,a0,a1,k⟩
theorem sc_how_far:FnScope ["web","a","b"] ["web","a","b"] (aai s_how_far):=by row_cond sc
theorem aic (T:Txt K mg):Can P w K mg base "how_far" 6 ["web","a","b"] (spP K (avy)):=by
 obtain ⟨f,fd,D⟩:=T.d_how_far
 obtain ⟨l,d⟩:=T.o_Grower
 have g:=d.mgx
 have m:=T.n_Grower_held _ g
 refine D.can (D.fn.ok sc_how_far (fun vs H Q E h=>lenP h fun ss Q' q=>by obtain ⟨n,a,b,es,rfl,p,j,i,a0,a1,b0,b1,k⟩:=q;rfl) (fun cdv A outer s H vs Q E o h=>?_))
 have nd:=sc_how_far.nd
 refine ⟨_,(aac (abj (aaf (adf T) o (aaa (pv 0) (aaa (pv 1) aab))))
  (aac (abj (aaf (adf T) o (aaa (pv 0) (aaa (pv 2) aab))))
  (aag (aao (aap aaq (aaf (aib T) o (aaa (pv 0) (aaa (pv 1) aab))) (pv 2) (fun _ _=>rfl)))))),?_⟩
 refine abr h fun ss Q' q B u=>?_
 refine exS4 ss q fun n a b es c=>?_
 have p:=c.1
 have j:=c.2.1
 have i:=c.2.2.1
 have a0:=c.2.2.2.1
 have a1:=c.2.2.2.2.1
 have b0:=c.2.2.2.2.2.1
 have b1:=c.2.2.2.2.2.2.1
 have k:=c.2.2.2.2.2.2.2
 clear c q
 show EvS B _ _ [some (.st (webD n es)),some (.st (.int a)),some (.st (.int b))]
 row_cond go
 refine ⟨n,a,es,rfl,a0,a1,?_⟩
 row_cond go
 refine ⟨n,b,es,rfl,b0,b1,?_⟩
 row_cond go
 refine ⟨n,a,es,rfl,p,j,i,a0,a1,?_⟩
 have r:atI (lab n.toNat (Gr.farO (Tied es) a)) b=some (oD (Gr.farO (Tied es) a b)):=anl b0 (by lia)
 row_cond go
 exact k
theorem sc_is_joined:FnScope ["web"] ["web"] (aai s_is_joined):=by row_cond sc
theorem acx (T:Txt K mg):Can P w K mg base "is_joined" 6 ["web"] (spP K (avz)):=by
 obtain ⟨f,fd,D⟩:=T.d_is_joined
 obtain ⟨j,b⟩:=T.o_Grower
 have c:=b.mgx
 have l:=T.n_Grower_held _ c
 refine D.can (D.fn.ok sc_is_joined (fun vs H Q E h=>lenP h fun ss Q' q=>by obtain ⟨n,es,rfl,p,o,g,i,k⟩:=q;rfl) (fun cdv A outer s H vs Q E m h=>?_))
 have nd:=sc_is_joined.nd
 refine ⟨_,(aag (aao (ado (ak6 m.units) acv (aaf (aib T) m (aaa (pv 0) (aaa aad aab))) rfl))),?_⟩
 refine abr h fun ss Q' q B u=>?_
 refine exS2 ss q fun n es a=>?_
 have p:=a.1
 have o:=a.2.1
 have g:=a.2.2.1
 have i:=a.2.2.2.1
 have k:=a.2.2.2.2
 clear a q
 show EvS B _ _ [some (.st (webD n es))]
 row_cond go
 refine ⟨n,0,es,rfl,o,g,i,by lia,by lia,?_⟩
 row_cond go
 refine apl rfl asx (by simp [PyData.depth]) ?_
 row_cond go
 refine k _ ?_
 rw [aE7 rfl,Bool.not_eq_true',← Bool.not_eq_true,ayd]
 constructor
 ·intro h v v0 r
  cases e:Gr.farO (Tied es) 0 v with
  | some d=>exact ⟨d,Gr.farO_some.mp e⟩
  | none=>exact absurd ⟨v,v0,by lia,e⟩ h
 ·rintro h ⟨v,v0,r,e⟩
  obtain ⟨d,hd⟩:=h v v0 (by lia)
  exact Gr.farO_none.mp e d hd
end
def dsF (es:List (Int × Int)) (u v:Int):Int:=(((Gr.farO (Tied es) u v).getD 0:Nat):Int)
def rowD (n:Nat) (r:Int->Int):List PyData:=(List.range n).map fun (i:Nat) => .int (r (i:Int))
def matD (n:Nat) (m:Int->Int->Int):List PyData:=(List.range n).map fun (u:Nat) => .list (rowD n (m (u:Int)))
theorem a05 {n:Nat} {m:Int->Int->Int} {x:Int} (a:0<=x) (b:x < n):atI (matD n m) x=some (.list (rowD n (m x))):=by
 have:=ael (xs:=matD n m) (j:=x.toNat) (v:=.list (rowD n (m x))) (by
  unfold matD
  rw [aA5,aA0 (by simp;lia)]
  simp [Int.max_eq_left a])
 rwa [show ((x.toNat:Nat):Int)=x by lia] at this
theorem ais {n:Nat} {r:Int->Int}:rowD n r=((List.range n).map fun (i:Nat)=>r (i:Int)).map .int:=by simp [rowD]
theorem aek {n:Int} {es:List (Int × Int)} (c:Joined n es) {u v:Int} (g:0<=u) (a:u < n) (v0:0<=v) (f:v < n):∃ d,Gr.farO (Tied es) u v=some d:=by
 cases e:Gr.farO (Tied es) u v with
 | some d=>exact ⟨d,rfl⟩
 | none =>
  obtain ⟨k,b⟩:=c.conn u v g a v0 f
  obtain ⟨d,_,hd⟩:=Gr.Dist.of_walk b
  exact absurd hd (Gr.farO_none.mp e d)
theorem ayv {n:Int} {es:List (Int × Int)} (b:Joined n es) {u:Int} (c:0<=u) (a:u < n):lab n.toNat (Gr.farO (Tied es) u)=rowD n.toNat (dsF es u):=by
 unfold lab rowD
 refine aE3 fun i hi=>?_
 obtain ⟨d,e⟩:=aek b c a (show 0<=(i:Int) by lia) (by have:=aB8.mp hi;lia)
 simp only [dsF,e,oD,Option.getD_some]
theorem ae6 {α:Type} {K:Frag} {src:List (Option Nat)} {a:En} {te:TE} {R:List PyData->En->Prop} {xs:List α} {f : α->PyData} (g : α->PyData) (l:noIo (aaz src a)=true) (z:xs.length<=999999)
  (h:∀ x∈xs,∀ c:Bs,c.K=K->Ev c te (some (.st (f x)) :: aaz src a) fun y j=>y=g x/\j=some (.st (f x)) :: aaz src a)
  (u:R (xs.map g) a):LcV K (none :: src) (abw 0) tYes te (xs.map f) a R:=by
 have b:noIo (aaz (none :: src) a)=true:=by
  show ((none :: aaz src a).all fun s => !isIo s)=true
  rw [List.all_cons]
  exact (aG3 _ _).mpr ⟨rfl,l⟩
 refine ⟨fun i ys e=>ys=(xs.take i).map g/\∃ o,e=stO o :: aaz src a,⟨by simp,none,rfl⟩,?_,?_,?_⟩
 ·rintro i ys e ⟨_,o,rfl⟩
  exact ⟨⟨isIo_stO.symm,ahc⟩,aff afn⟩
 ·rintro i d ys e hd ⟨rfl,o,rfl⟩ c q
  rw [aA5] at hd
  cases hx:xs[i]? with
  | none=>rw [hx] at hd;cases hd
  | some x =>
   rw [hx] at hd
   cases hd
   have hi:i < xs.length:=(aA1.mp hx).1
   have w:xs.take (i+1)=xs.take i ++ [x]:=by rw [aG6,hx];rfl
   refine abq (akk ?_)
   rw [aE7 rfl]
   intro σ G H F Q I k
   refine h x (aA2 hx) c q σ G H F Q I fun v G' H' F' d' j n g' p ⟨r,m⟩=>k v G' H' F' d' j n g' p ?_
   subst r m
   refine ⟨by simp;lia,by rw [w];simp,some _,rfl⟩
 ·rintro ys e ⟨rfl,o,rfl⟩
  rw [akm b]
  simpa using u
theorem an3 {ns:List Int} {x y:Int} (h:aeh ns x) (g:aeh ns y):x=y:=Int.le_antisymm (g.2 x h.1) (h.2 y g.1)
theorem akr:∀ {ns:List Int},ns ≠ []->∃ x,aeh ns x
 | [a],_=>⟨a,by simp [aeh]⟩
 | a :: b :: r,_=>by
  obtain ⟨x,d,hm⟩:=akr (ns:=b :: r) (by simp)
  by_cases h:a<=x
  ·exact ⟨x,aB4 _ d,fun y c=>by
    rcases aA8.mp c with rfl | c
    ·exact h
    ·exact hm y c⟩
  ·exact ⟨a,aB7,fun y c=>by
    rcases aA8.mp c with rfl | c
    ·exact Int.le_refl _
    ·have:=hm y c;lia⟩
theorem ap4 {n:Nat} (b:1<=n) (m:Int->Int->Int):∃ a:Nat->Int,∀ u:Nat,aeh ((List.range n).map fun (i:Nat)=>m (u:Int) (i:Int)) (a u) :=
 ⟨fun u=>Classical.choose (akr (ns:=(List.range n).map fun (i:Nat)=>m (u:Int) (i:Int)) (by simp;lia)),fun u=>Classical.choose_spec (akr (ns:=(List.range n).map fun (i:Nat)=>m (u:Int) (i:Int)) (by simp;lia))⟩
def an4:VP:=fun ss Q=>∃ (n:Int) (es:List (Int × Int)),ss=[.st (webD n es)]/\1<=n/\n<=100/\InN n es/\es.length<=10000/\Joined n es/\Q (.st .none)
def atq:VP:=fun ss Q=>∃ (n:Int) (es:List (Int × Int)),ss=[.st (webD n es)]/\1<=n/\n<=100/\InN n es/\es.length<=10000/\Joined n es/\Q (.own (OL (matD n.toNat (dsF es))))
def ad5 (n:Nat) (m:Int->Int->Int) (x:Int):Prop:=(∃ u v:Int,0<=u/\u < n/\0<=v/\v < n/\m u v=x)/\∀ u v:Int,0<=u->u < n->0<=v->v < n->m u v<=x
def atr:VP:=fun ss Q=>∃ (n:Nat) (m:Int->Int->Int),ss=[.st (.list (matD n m))]/\1<=n/\n<=1000/\∀ x,ad5 n m x->Q (.st (.int x))
structure FreeAll (n:Int) (es fs:List (Int × Int)):Prop where
 mem:∀ p:Int × Int,p∈fs ↔ (0<=p.1/\p.1 < p.2/\p.2 < n/\p ∉ es)
 rise:Rise fs
section
variable {P:Program} {w:World} {K:Frag} {mg:Str->Option Value} {base:Heap}
theorem sc_need_joined:FnScope ["web"] ["web"] (aai s_need_joined):=by row_cond sc
theorem ajw (T:Txt K mg):Can P w K mg base "need_joined" 7 ["web"] (spP K (an4)):=by
 obtain ⟨f,fd,D⟩:=T.d_need_joined
 obtain ⟨j,c⟩:=T.o_Grower
 have d:=c.mgx
 have l:=T.n_Grower_held _ d
 refine D.can (D.fn.ok sc_need_joined (fun vs H Q E h=>lenP h fun ss Q' q=>by obtain ⟨n,es,rfl,m,p,g,i,o,k⟩:=q;rfl) (fun cdv A outer s H vs Q E r h=>?_))
 have nd:=sc_need_joined.nd
 refine ⟨_,(aag (aa4 (acw (aca (aaf (acx T) r (aaa (pv 0) aab))))
   (aag aet)
   aaw)),?_⟩
 refine abr h fun ss Q' q B u=>?_
 refine exS2 ss q fun n es a=>?_
 have m:=a.1
 have p:=a.2.1
 have g:=a.2.2.1
 have i:=a.2.2.2.1
 have o:=a.2.2.2.2.1
 have k:=a.2.2.2.2.2
 clear a q
 show EvS B _ _ [some (.st (webD n es))]
 row_cond go
 refine ⟨n,es,rfl,m,p,g,i,fun b hb=>?_⟩
 have:b=true:=hb.mpr o
 subst this
 row_cond go
 exact k
theorem sc_far_rows:FnScope ["web","tied"] ["web"] (aai s_far_rows):=by row_cond sc
theorem an5 (T:Txt K mg):Can P w K mg base "far_rows" 8 ["web"] (spP K (atq)):=by
 obtain ⟨f,fd,D⟩:=T.d_far_rows
 obtain ⟨j,b⟩:=T.o_Grower
 have c:=b.mgx
 have p:=T.n_Grower_held _ c
 refine D.can (D.fn.ok sc_far_rows (fun vs H Q E h=>lenP h fun ss Q' q=>by obtain ⟨n,es,rfl,y,l,d,g,r,k⟩:=q;rfl) (fun cdv A outer s H vs Q E x h=>?_))
 have nd:=sc_far_rows.nd
 refine ⟨_,(aac (abj (aaf (ajw T) x (aaa (pv 0) aab)))
  (aac (aak (i:=1) nd rfl (Or.inr rfl) (aaf (afi T) x (aaa (pv 0) aab)))
  (aag (aao (ad2 rfl (N:=["place","tied"]) (src:=[none,some 1]) (by exact ab7 rfl rfl rfl rfl rfl rfl) (abg rfl T.b_range (aaa (aal aa9 (by rfl) T.b_len abz (aaa (pv 1) aab)) aab)) (fun _ _ _ _=>(aam (i:=0) (show List.Nodup (["place","tied"]:List Str) by decide +kernel) rfl (Or.inl rfl) (hf:=Or.inr rfl))) (fun _ _ _ _=>acp) (fun _ _ _ _=>(aaf (ahi T) x (aaa (pv 1) (aaa (pv 0) aab))))))))),?_⟩
 refine abr h fun ss Q' q B I=>?_
 refine exS2 ss q fun n es a=>?_
 have y:=a.1
 have l:=a.2.1
 have d:=a.2.2.1
 have g:=a.2.2.2.1
 have r:=a.2.2.2.2.1
 have k:=a.2.2.2.2.2
 clear a q
 show EvS B _ _ [some (.st (webD n es)),none]
 row_cond go
 refine ⟨n,es,rfl,y,l,d,g,r,?_⟩
 row_cond go
 refine ⟨n,es,rfl,by lia,l,d,g,fun tl z _=>?_⟩
 refine acz ako ?_
 have F:tl.length=n.toNat:=by have:=z.1;lia
 have o:((tlD tl).map PyData.list).length=n.toNat:=by simp [tlD,F]
 row_cond go
 rw [o,show (((n.toNat:Nat):Int)).toNat=n.toNat by lia]
 unfold rngD
 refine ae6 (fun u:Nat => .list (rowD n.toNat (dsF es (u:Int)))) rfl (by simp;lia) (fun u C G J=>?_) ?_
 ·have m:(u:Int) < n:=by have:=aB8.mp C;lia
  row_cond go
  refine ⟨n,0+(u:Int),Tied es,tl,rfl,l,z,fun u v h=>(h.in d).2,by lia,by lia,adj ⟨?_,rfl⟩⟩
  rw [Int.zero_add,ayv r (by lia) m]
 ·row_cond go
  exact k
theorem sc_most_far:FnScope ["rows"] ["rows"] (aai s_most_far):=by row_cond sc
theorem an6 (T:Txt K mg):Can P w K mg base "most_far" 1 ["rows"] (spP K (atr)):=by
 obtain ⟨f,fd,D⟩:=T.d_most_far
 obtain ⟨g,a⟩:=T.o_Grower
 have b:=a.mgx
 have p:=T.n_Grower_held _ b
 refine D.can (D.fn.ok sc_most_far (fun vs H Q E h=>lenP h fun ss Q' q=>by obtain ⟨n,m,rfl,r,C,k⟩:=q;rfl) (fun cdv A outer s H vs Q E R h=>?_))
 have nd:=sc_most_far.nd
 refine ⟨_,(aag (aao (aal (afd rfl) (by rfl) T.b_max ac7 (aaa (ad2 rfl (N:=["row"]) (src:=[none]) (by exact ab7 rfl rfl rfl rfl rfl rfl) (ab6 (pv 0)) (fun _ _ _ _=>(aam (i:=0) (show List.Nodup (["row"]:List Str) by decide +kernel) rfl (Or.inl rfl) (hf:=Or.inr rfl))) (fun _ _ _ _=>acp) (fun _ _ _ _=>(aal (show abd _ (.builtin "max") (af8 K) from (afd rfl)) (by rfl) T.b_max ac7 (aaa (pv 0) aab)))) aab)))),?_⟩
 refine abr h fun ss Q' q B M=>?_
 refine exS2 ss q fun n m c=>?_
 have r:=c.1
 have C:=c.2.1
 have k:=c.2.2
 clear c q
 show EvS B _ _ [some (.st (.list (matD n m)))]
 obtain ⟨o,d⟩:=ap4 r m
 row_cond go
 unfold matD
 refine ae6 (fun u:Nat => .int (o u)) rfl (by simp;lia) (fun u G I O=>?_) ?_
 ·row_cond go
  rw [ais]
  exact ain (by simp;lia) fun x l=>⟨by rw [an3 l (d u)],rfl⟩
 ·row_cond go
  rw [show (List.range n).map (fun u:Nat=>PyData.int (o u))=((List.range n).map o).map .int by rw [aD8];rfl]
  refine ain (by simp;lia) fun x l=>?_
  row_cond go
  refine k x ⟨?_,fun u v L J v0 S=>?_⟩
  ·obtain ⟨i,hi,e⟩:=aB6.mp l.1
   obtain ⟨j,z,e2⟩:=aB6.mp (d i).1
   exact ⟨i,j,by lia,by have:=aB8.mp hi;lia,by lia,by have:=aB8.mp z;lia,e2.trans e⟩
  ·have y:=(d u.toNat).2 (m ((u.toNat:Nat):Int) ((v.toNat:Nat):Int)) (aB6.mpr ⟨v.toNat,aB8.mpr (by lia),rfl⟩)
   have F:=l.2 (o u.toNat) (aB6.mpr ⟨u.toNat,aB8.mpr (by lia),rfl⟩)
   rw [show ((u.toNat:Nat):Int)=u by lia,show ((v.toNat:Nat):Int)=v by lia] at y
   lia
end
structure FarOk (n:Int) (es:List (Int × Int)) (x a b:Int):Prop where
 top:ad5 n.toNat (dsF es) x
 a0:0<=a
 a1:a < n
 b0:0<=b
 b1:b < n
 eq:dsF es a b=x
 fst:∀ u v:Int,0<=u->u < n->0<=v->v < n->dsF es u v=x->a < u\/(a=u/\b<=v)
def ard:VP:=fun ss Q=>∃ (n:Int) (es:List (Int × Int)),ss=[.st (webD n es)]/\1<=n/\n<=100/\InN n es/\es.length<=10000/\Joined n es/\∀ x a b,FarOk n es x a b->Q (.st (.tuple [.int x,.int a,.int b]))
theorem an7 {ns:List Int} {k:Int} (h:k∈ns):∃ j:Nat,ns[j]?=some k/\∀ m:Nat,m < j->ns[m]? ≠ some k:=by
 induction ns with
 | nil=>simp at h
 | cons n ns ih =>
  by_cases e:n=k
  ·exact ⟨0,by rw [e];rfl,fun m hm=>by lia⟩
  ·obtain ⟨j,b,a⟩:=ih ((aA8.mp h).resolve_left fun z=>e z.symm)
   refine ⟨j+1,b,fun m hm=>?_⟩
   cases m with
   | zero=>simpa using e
   | succ m=>exact a m (by lia)
section
variable {P:Program} {w:World} {K:Frag} {mg:Str->Option Value} {base:Heap}
theorem sc_farthest_two:FnScope ["web","rows","far","a"] ["web"] (aai s_farthest_two):=by row_cond sc
theorem acu (T:Txt K mg):Can P w K mg base "farthest_two" 9 ["web"] (spP K (ard)):=by
 obtain ⟨f,fd,D⟩:=T.d_farthest_two
 obtain ⟨z,m⟩:=T.o_Grower
 have l:=m.mgx
 have M:=T.n_Grower_held _ l
 refine D.can (D.fn.ok sc_farthest_two (fun vs H Q E h=>lenP h fun ss Q' q=>by obtain ⟨n,es,rfl,Z,n1,o,p,hJ,k⟩:=q;rfl) (fun cdv A outer s H vs Q E hr h=>?_))
 have nd:=sc_farthest_two.nd
 refine ⟨_,(aac (aak (i:=1) nd rfl (Or.inl rfl) (aaf (an5 T) hr (aaa (pv 0) aab)))
  (aac (aak (i:=2) nd rfl (Or.inl rfl) (aaf (an6 T) hr (aaa (pv 1) aab)))
  (aac (aak (i:=3) nd rfl (Or.inl rfl) (ac1 PySem.F.plainAttrs_list PySem.F.slot_list_index PySem.F.type_list_index ant (ad2 rfl (N:=["row"]) (src:=[none]) (by exact ab7 rfl rfl rfl rfl rfl rfl) (ab6 (pv 1)) (fun _ _ _ _=>(aam (i:=0) (show List.Nodup (["row"]:List Str) by decide +kernel) rfl (Or.inl rfl) (hf:=Or.inr rfl))) (fun _ _ _ _=>acp) (fun _ _ _ _=>(aal (show abd _ (.builtin "max") (af8 K) from (afd rfl)) (by rfl) T.b_max ac7 (aaa (pv 0) aab)))) (aaa (pv 2) aab)))
  (aag (aao (aa3 (aaa (pv 2) (aaa (pv 3) (aaa (ac1 PySem.F.plainAttrs_list PySem.F.slot_list_index PySem.F.type_list_index ant (aap aaq (pv 1) (pv 3) (fun _ _=>rfl)) (aaa (pv 2) aab)) aab))))))))),?_⟩
 refine abr h fun ss Q' q B hK=>?_
 refine exS2 ss q fun n es c=>?_
 have Z:=c.1
 have n1:=c.2.1
 have o:=c.2.2.1
 have p:=c.2.2.2.1
 have hJ:=c.2.2.2.2.1
 have k:=c.2.2.2.2.2
 clear c q
 show EvS B _ _ [some (.st (webD n es)),none,none,none]
 have hn:1<=n.toNat:=by lia
 obtain ⟨G,d⟩:=ap4 hn (dsF es)
 row_cond go
 refine ⟨n,es,rfl,Z,n1,o,p,hJ,acz adg ?_⟩
 row_cond go
 refine ⟨n.toNat,dsF es,rfl,hn,by lia,fun x C=>?_⟩
 have J:x∈(List.range n.toNat).map G:=by
  obtain ⟨⟨u,v,L,u1,v0,v1,e⟩,g⟩:=C
  refine aB6.mpr ⟨u.toNat,aB8.mpr (by lia),?_⟩
  have I:=(d u.toNat).2 (dsF es ((u.toNat:Nat):Int) ((v.toNat:Nat):Int)) (aB6.mpr ⟨v.toNat,aB8.mpr (by lia),rfl⟩)
  rw [show ((u.toNat:Nat):Int)=u by lia,show ((v.toNat:Nat):Int)=v by lia,e] at I
  obtain ⟨j,W,e2⟩:=aB6.mp (d u.toNat).1
  have:=g u j L u1 (by lia) (by have:=aB8.mp W;lia)
  rw [show ((u.toNat:Nat):Int)=u by lia] at e2
  lia
 obtain ⟨a,ha,y⟩:=an7 J
 have R:a < n.toNat:=by have:=(aA1.mp ha).1;simpa using this
 have U:G a=x:=by
  rw [aA5,aD7 R] at ha
  simpa using ha
 have S:x∈(List.range n.toNat).map fun (i:Nat)=>dsF es (a:Int) (i:Int):=by rw [← U];exact (d a).1
 obtain ⟨b,hb,r⟩:=an7 S
 have Y:b < n.toNat:=by have:=(aA1.mp hb).1;simpa using this
 have X:dsF es (a:Int) (b:Int)=x:=by
  rw [aA5,aD7 Y] at hb
  simpa using hb
 have a0:atI (matD n.toNat (dsF es)) (a:Int)=some (.list (rowD n.toNat (dsF es (a:Int)))):=a05 (by lia) (by lia)
 row_cond go
 unfold matD
 refine ae6 (fun u:Nat => .int (G u)) rfl (by simp;lia) (fun u hu B' hB=>?_) ?_
 ·row_cond go
  rw [ais]
  exact ain (by simp;lia) fun x C=>⟨by rw [an3 C (d u)],rfl⟩
 ·refine ⟨(List.range n.toNat).map G,by rw [aD8];rfl,?_⟩
  row_cond go
  refine ⟨x,a,rfl,ha,y,?_⟩
  row_cond go
  refine ⟨(List.range n.toNat).map fun (i:Nat)=>dsF es (a:Int) (i:Int),by rw [ais],?_⟩
  row_cond go
  refine ⟨x,b,rfl,hb,r,?_⟩
  row_cond go
  refine k x a b ⟨C,by lia,by lia,by lia,by lia,X,fun u v L u1 v0 v1 e=>?_⟩
  have hu:(a:Int)<=u:=by
   apply aD3
   intro O
   refine y u.toNat (by lia) ?_
   rw [aA5,aD7 (by lia)]
   have I:=(d u.toNat).2 (dsF es ((u.toNat:Nat):Int) ((v.toNat:Nat):Int)) (aB6.mpr ⟨v.toNat,aB8.mpr (by lia),rfl⟩)
   rw [show ((u.toNat:Nat):Int)=u by lia,show ((v.toNat:Nat):Int)=v by lia,e] at I
   obtain ⟨j,W,e2⟩:=aB6.mp (d u.toNat).1
   have:=C.2 u j L (by lia) (by lia) (by have:=aB8.mp W;lia)
   rw [show ((u.toNat:Nat):Int)=u by lia] at e2
   simp only [aH4,Option.some.injEq]
   lia
  by_cases hau:(a:Int) < u
  ·exact .inl hau
  ·refine .inr ⟨by lia,?_⟩
   apply aD3
   intro O
   refine r v.toNat (by lia) ?_
   rw [aA5,aD7 (by lia)]
   simp only [aH4,Option.some.injEq]
   rw [show ((v.toNat:Nat):Int)=v by lia,show (a:Int)=u by lia]
   exact e
end
def acr (n:Int):PyData->Bool
 | .tuple [.int a,.int b]=>decide (0<=a/\a<=n - 1) && decide (0<=b/\b<=n - 1) && decide (a < b)
 | _=>false
def agm (n:Int):PyData->Bool
 | .list ds=>ds.all (acr n)
 | _=>false
def a2j:VP:=fun ss Q=>∃ (n:Int) (d:PyData),ss=[.st (.int n),.st d]/\Q (.st (.bool (acr n d)))
def a06:VP:=fun ss Q=>∃ (n:Int) (d:PyData),ss=[.st (.int n),.st d]/\(∀ ds,d=.list ds->ds.length<=100000)/\Q (.st (.bool (agm n d)))
def av0:VP:=fun ss Q=>∃ (ps:List (Int × Int)),ss=[.st (.list (ps.map prD))]/\ps.length<=100000/\∀ b:Bool,(b=true ↔ Rise ps)->Q (.st (.bool b))
structure PutOk (n:Int) (es fs:List (Int × Int)):Prop where
 inn:∀ p∈fs,0<=p.1/\p.1 < p.2/\p.2 < n
 nd:(es ++ fs).Nodup
def a07:VP:=fun ss Q=>∃ (n:Int) (es fs:List (Int × Int)),ss=[.st (webD n es),.st (.list (fs.map prD))]/\es.length<=10000/\fs.length<=10000/\PutOk n es fs/\∀ qs,Rise qs->qs.Perm (es ++ fs)->Q (.own (OW (.int n) (qs.map prD)))
section
variable {P:Program} {w:World} {K:Frag} {mg:Str->Option Value} {base:Heap}
theorem sc_is_tie:FnScope ["n","thing","a","b"] ["n","thing"] (aai s_is_tie):=by row_cond sc
theorem arf (T:Txt K mg):Can P w K mg base "is_tie" 4 ["n","thing"] (spP K (a2j)):=by
 obtain ⟨f,fd,D⟩:=T.d_is_tie
 obtain ⟨m,g⟩:=T.o_Grower
 have j:=g.mgx
 have p:=T.n_Grower_held _ j
 refine D.can (D.fn.ok sc_is_tie (fun vs H Q E h=>lenP h fun ss Q' q=>by obtain ⟨n,d,rfl,k⟩:=q;rfl) (fun cdv A outer s H vs Q E r h=>?_))
 have nd:=sc_is_tie.nd
 refine ⟨_,(aac (aa4 (PW.pt (aiv (acw (aca (aal af7 (by rfl) T.b_isinstance adh (aaa (pv 1) (aaa (ahq (v:=.ty "tuple") rfl T.b_tuple aun rfl) aab))))) (agw (aat alz (aal aa9 (by rfl) T.b_len abz (aaa (pv 1) aab)) aad (aau _)))))
   (aag (aao ab9))
   aaw)
  (aac (ab0 (pv 1) (aco rfl (aax (aam (i:=2) nd rfl (Or.inl rfl)) (aax (aam (i:=3) nd rfl (Or.inl rfl)) ab4))))
  (aag (aao (aes (aaf (ae5 T) r (aaa (pv 0) (aaa (pv 2) aab))) (aes (aaf (ae5 T) r (aaa (pv 0) (aaa (pv 3) aab))) (aer (ado al0 (pv 2) (pv 3) (aau _))))))))),?_⟩
 refine abr h fun ss Q' q B u=>?_
 refine exS2 ss q fun n d l=>?_
 have k:=l
 clear l q
 show EvS B _ _ [some (.st (.int n)),some (.st d),none,none]
 row_cond go
 cases d with
 | tuple xs =>
  refine akc ?_
  row_cond go
  rcases (show xs.length=2\/xs.length ≠ 2 by lia) with o | o
  ·match xs,o with
   | [x,y],_ =>
    row_cond go
    refine ⟨n,x,rfl,?_⟩
    row_cond go
    have c:acr n (.tuple [x,y])=(btwD 0 (n - 1) x && (btwD 0 (n - 1) y && match x,y with | .int a,.int b=>decide (a < b) | _,_=>false)):=by
     cases x <;> cases y <;> simp [acr,btwD,Bool.and_assoc]
    cases hx:btwD 0 (n - 1) x with
    | false =>
     rw [hx,Bool.false_and] at c
     refine adb ?_
     rw [← c];exact k
    | true =>
     refine acd ?_
     row_cond go
     refine ⟨n,y,rfl,?_⟩
     row_cond go
     cases hy:btwD 0 (n - 1) y with
     | false =>
      rw [hx,hy] at c
      refine adb ?_
      rw [show false=acr n (.tuple [x,y]) by rw [c];rfl];exact k
     | true =>
      refine acd ?_
      cases x with
      | int a =>
       cases y with
       | int b =>
        row_cond go
        rw [hx,hy] at c
        rw [show decide (a < b)=acr n (.tuple [.int a,.int b]) by rw [c];rfl];exact k
       | _=>simp [btwD] at hy
      | _=>simp [btwD] at hx
  ·row_cond go
   have:acr n (.tuple xs)=false:=by
    match xs,o with
    | [],_=>rfl
    | [x],_=>cases x <;> rfl
    | [_,_],h=>exact absurd rfl h
    | x :: y :: _ :: _,_=>cases x <;> cases y <;> rfl
   rw [← this];exact k
 | _ =>
  refine akd ?_
  row_cond go
  exact k
theorem sc_are_ties:FnScope ["n","thing"] ["n","thing"] (aai s_are_ties):=by row_cond sc
theorem an8 (T:Txt K mg):Can P w K mg base "are_ties" 5 ["n","thing"] (spP K (a06)):=by
 obtain ⟨f,fd,D⟩:=T.d_are_ties
 obtain ⟨g,a⟩:=T.o_Grower
 have b:=a.mgx
 have l:=T.n_Grower_held _ b
 refine D.can (D.fn.ok sc_are_ties (fun vs H Q E h=>lenP h fun ss Q' q=>by obtain ⟨n,d,rfl,j,k⟩:=q;rfl) (fun cdv A outer s H vs Q E m h=>?_))
 have nd:=sc_are_ties.nd
 refine ⟨_,(aag (aao (aes (aal af7 (by rfl) T.b_isinstance adh (aaa (pv 1) (aaa (ahq (v:=.ty "list") rfl T.b_list afw rfl) aab))) (aer (aal (alc rfl) (by rfl) T.b_all ash (aaa (ad2 rfl (N:=["tie","n"]) (src:=[none,some 0]) (by exact ab7 rfl rfl rfl rfl rfl rfl) (ab6 (pv 1)) (fun _ _ _ _=>(aam (i:=0) (show List.Nodup (["tie","n"]:List Str) by decide +kernel) rfl (Or.inl rfl) (hf:=Or.inr rfl))) (fun _ _ _ _=>acp) (fun _ _ _ _=>(aaf (arf T) m (aaa (pv 1) (aaa (pv 0) aab))))) aab)))))),?_⟩
 refine abr h fun ss Q' q B p=>?_
 refine exS2 ss q fun n d c=>?_
 have j:=c.1
 have k:=c.2
 clear c q
 show EvS B _ _ [some (.st (.int n)),some (.st d)]
 row_cond go
 cases d with
 | list ds =>
  have j:=j ds rfl
  refine acd ?_
  row_cond go
  refine apk (fun t => .bool (acr n t)) rfl (by lia) (fun t _ o r=>?_) ?_
  ·row_cond go
   exact ⟨n,t,rfl,rfl,rfl⟩
  ·row_cond go
   rw [show (ds.map fun t=>PyData.bool (acr n t))=(ds.map (acr n)).map .bool by rw [aD8];rfl]
   refine apt ?_
   row_cond go
   rw [show (ds.map (acr n)).all id=agm n (.list ds) by simp [agm,List.all_map]]
   exact k
 | _ =>
  refine adb ?_
  exact k
theorem sc_is_rising:FnScope ["things"] ["things"] (aai s_is_rising):=by row_cond sc
theorem alx (T:Txt K mg):Can P w K mg base "is_rising" 1 ["things"] (spP K (av0)):=by
 obtain ⟨f,fd,D⟩:=T.d_is_rising
 obtain ⟨l,a⟩:=T.o_Grower
 have b:=a.mgx
 have m:=T.n_Grower_held _ b
 refine D.can (D.fn.ok sc_is_rising (fun vs H Q E h=>lenP h fun ss Q' q=>by obtain ⟨ps,rfl,r,k⟩:=q;rfl) (fun cdv A outer s H vs Q E u h=>?_))
 have nd:=sc_is_rising.nd
 refine ⟨_,(aag (aao (aal (alc rfl) (by rfl) T.b_all ash (aaa (ad2 rfl (N:=["at","things"]) (src:=[none,some 0]) (by exact ab7 rfl rfl rfl rfl rfl rfl) (abg rfl T.b_range (aaa (aav aeu (aal aa9 (by rfl) T.b_len abz (aaa (pv 0) aab)) aad) aab)) (fun _ _ _ _=>(aam (i:=0) (show List.Nodup (["at","things"]:List Str) by decide +kernel) rfl (Or.inl rfl) (hf:=Or.inr rfl))) (fun _ _ _ _=>acp) (fun _ _ _ _=>(ado (show OpR _ (compareOp .Lt) (rLtT K) from azh u.units0) (aap (show IxR _ (adi K) from aaq) (pv 1) (pv 0) (fun _ _=>rfl)) (aap (show IxR _ (adi K) from aaq) (pv 1) (aav abc (pv 0) aad) (fun _ _=>rfl)) (aau _)))) aab)))),?_⟩
 refine abr h fun ss Q' q B x=>?_
 refine exS1 ss q fun ps c=>?_
 have r:=c.1
 have k:=c.2
 clear c q
 show EvS B _ _ [some (.st (.list (ps.map prD)))]
 row_cond go
 rw [aA3]
 row_cond go
 refine apk (fun d=>match d with | .int i => .bool (match ps[i.toNat]?,ps[i.toNat+1]? with | some p,some q=>HT.lexLt (p2 p) (p2 q) | _,_=>false) | _ => .none) rfl (by rw [acy];lia) (fun d hd v z=>?_) ?_
 ·obtain ⟨i,hi⟩:=List.mem_iff_getElem?.mp hd
  obtain ⟨hi,rfl⟩:=aim hi
  have o:i < ps.length:=by lia
  have n:i+1 < ps.length:=by lia
  have a1:atI (ps.map prD) (0+(i:Int))=some (prD ps[i]):=ajq (f:=prD) (adk (by lia) (by rw [show (0+(i:Int)).toNat=i by lia];exact aA0 o))
  have y:atI (ps.map prD) (0+(i:Int)+1)=some (prD ps[i+1]):=ajq (f:=prD) (adk (by lia) (by rw [show (0+(i:Int)+1).toNat=i+1 by lia];exact aA0 n))
  row_cond go
  refine ayi ?_
  row_cond go
  refine ⟨?_,rfl⟩
  simp [o,n]
 ·row_cond go
  have e:(rngD 0 ((ps.length:Int) - 1).toNat).map (fun d=>match d with | .int i=>PyData.bool (match ps[i.toNat]?,ps[i.toNat+1]? with | some p,some q=>HT.lexLt (p2 p) (p2 q) | _,_=>false) | _ => .none)=((List.range (ps.length - 1)).map fun i=>match ps[i]?,ps[i+1]? with | some p,some q=>HT.lexLt (p2 p) (p2 q) | _,_=>false).map .bool:=by
   unfold rngD
   rw [aD8,aD8,show ((ps.length:Int) - 1).toNat=ps.length - 1 by lia]
   apply aE3
   intro i _
   simp
  rw [e]
  refine apt ?_
  row_cond go
  refine k _ ?_
  rw [List.all_map,aE6]
  unfold Rise
  rw [anr ltP (fun h g=>as9 h g)]
  constructor
  ·intro h i hi
   have:=h i (aB8.mpr (by lia))
   simp [show i < ps.length by lia,hi] at this
   exact (lex2 _ _).mp this
  ·intro h i hi
   have j:i+1 < ps.length:=by have:=aB8.mp hi;lia
   have:=(lex2 _ _).mpr (h i j)
   simp [show i < ps.length by lia,j,this]
theorem sc_with_ties:FnScope ["web","ties","n","there","every"] ["web","ties"] (aai s_with_ties):=by row_cond sc
theorem agt (T:Txt K mg):Can P w K mg base "with_ties" 6 ["web","ties"] (spP K (a07)):=by
 obtain ⟨f,fd,D⟩:=T.d_with_ties
 obtain ⟨j,a⟩:=T.o_Grower
 have d:=a.mgx
 have m:=T.n_Grower_held _ d
 refine D.can (D.fn.ok sc_with_ties (fun vs H Q E h=>lenP h fun ss Q' q=>by obtain ⟨n,es,fs,rfl,x,v,o,k⟩:=q;rfl) (fun cdv A outer s H vs Q E l h=>?_))
 have nd:=sc_with_ties.nd
 refine ⟨_,(aac (ab0 (pv 0) (aco rfl (aax (aam (i:=2) nd rfl (Or.inl rfl)) (aax (aam (i:=3) nd rfl (Or.inl rfl)) ab4))))
  (aac (aa4 (acw (aca (aaf (an8 T) l (aaa (pv 2) (aaa (pv 1) aab)))))
   (aag aet)
   aaw)
  (aac (aak (i:=4) nd rfl (Or.inl rfl) (aal aei (by rfl) T.b_sorted ac8 (aaa (aav ai1 (pv 3) (pv 1)) aab)))
  (aac (aa4 (acw (aca (aaf (alx T) l (aaa (pv 4) aab))))
   (aag aet)
   aaw)
  (aag (aao (aa3 (aaa (pv 2) (aaa (pv 4) aab))))))))),?_⟩
 refine abr h fun ss Q' q B y=>?_
 refine exS3 ss q fun n es fs c=>?_
 have x:=c.1
 have v:=c.2.1
 have o:=c.2.2.1
 have k:=c.2.2.2
 clear c q
 show EvS B _ _ [some (.st (webD n es)),some (.st (.list (fs.map prD))),none,none,none]
 row_cond go
 refine ⟨n,_,rfl,fun ds e=>by cases e;rw [aA3];lia,?_⟩
 row_cond go
 have u:agm n (.list (fs.map prD))=true:=by
  show ((fs.map prD).all (acr n))=true
  rw [List.all_map,aE6]
  intro p g
  have:=o.inn p g
  simp [acr,prD];lia
 rw [u]
 row_cond go
 refine afg (ps:=es ++ fs) ?_
 row_cond go
 rw [← aD9]
 refine ⟨rfl,fun qs g r=>?_⟩
 have l:Rise qs:=afz g o.nd r
 refine abq ?_
 dsimp only [List.set_cons_zero,List.set_cons_succ]
 try refine' akl (by assumption) ?_
 refine apg (asq (apf (ail (avq (.inl rfl) (apc ⟨_,_,.inl rfl,adg,qs,rfl,by rw [g.length_eq,aB0];lia,fun b hb=>?_⟩)))))
 row_cond go
 rw [hb.mpr l]
 row_cond go
 exact k qs l g
end
def ats:VP:=fun ss Q=>∃ (a b c:Int),ss=[.st (.int a),.st (.int b),.st (.int c)]/\a<=c/\c<=b/\Q (.st .none)
section
variable {P:Program} {w:World} {K:Frag} {mg:Str->Option Value} {base:Heap}
theorem sc_need_number:FnScope ["least","most","thing"] ["least","most","thing"] (aai s_need_number):=by row_cond sc
theorem ajx (T:Txt K mg):Can P w K mg base "need_number" 3 ["least","most","thing"] (spP K (ats)):=by
 obtain ⟨f,fd,D⟩:=T.d_need_number
 obtain ⟨j,d⟩:=T.o_Grower
 have g:=d.mgx
 have l:=T.n_Grower_held _ g
 refine D.can (D.fn.ok sc_need_number (fun vs H Q E h=>lenP h fun ss Q' q=>by obtain ⟨a,b,c,rfl,n,m,k⟩:=q;rfl) (fun cdv A outer s H vs Q E o h=>?_))
 have nd:=sc_need_number.nd
 refine ⟨_,(aag (aa4 (acw (aca (aaf (af1 T) o (aaa (pv 0) (aaa (pv 1) (aaa (pv 2) aab))))))
   (aag aet)
   aaw)),?_⟩
 refine abr h fun ss Q' q B p=>?_
 refine exS3 ss q fun a b c i=>?_
 have n:=i.1
 have m:=i.2.1
 have k:=i.2.2
 clear i q
 show EvS B _ _ [some (.st (.int a)),some (.st (.int b)),some (.st (.int c))]
 row_cond go
 refine ⟨a,b,.int c,rfl,?_⟩
 have:btwD a b (.int c)=true:=by simp [btwD];lia
 rw [this]
 row_cond go
 exact k
end
def FarN (n:Int) (es:List (Int × Int)) (d:PyData):Prop:=(Joined n es/\∃ x,ad5 n.toNat (dsF es) x/\d=.int x)\/(¬ Joined n es/\d=.none)
structure GW (n:Int) (es:List (Int × Int)):Prop where
 lo:1<=n
 hi:n<=61
 inn:InN n es
 len:es.length<=4000
def att:VP:=fun ss Q=>∃ (n:Int) (es:List (Int × Int)),ss=[.st (webD n es)]/\GW n es/\∀ d,FarN n es d->Q (.st d)
abbrev gF (n:Int) (es:List (Int × Int)):List (Str × PyData):=[("held",webD n es)]
def ayw (mg:Str->Option Value):VIo:=fun A ss Q=>∃ (C:Addr) (n:Int) (es:List (Int × Int)),mg "Grower" = some (.ref C)/\A=OI C []/\ss=[.st (webD n es)]/\Q (OGW C "held" (.int n) (es.map prD)) (.st .none)
def av1 (mg:Str->Option Value):VIo:=fun A ss Q=>∃ (C:Addr) (n m:Int) (es qs:List (Int × Int)),mg "Grower" = some (.ref C)/\A=OI C (gF n es)/\ss=[.st (webD m qs)]/\GW n es/\GW m qs/\∀ d0 d1,FarN n es d0->FarN m qs d1->Q (OI C (gF m qs)) (.st (.tuple [d0,d1]))
def arh (mg:Str->Option Value):VIo:=fun A ss Q=>∃ (C:Addr) (n a:Int) (es:List (Int × Int)),mg "Grower" = some (.ref C)/\A=OI C (gF n es)/\ss=[.st (.int a)]/\GW n es/\n < 60/\PsOk n es/\es.length<=2500/\0<=a/\a < n/\∀ qs d0 d1,Rise qs->qs.Perm (es ++ [(a,n)])->FarN n es d0->FarN (n+1) qs d1->Q (OI C (gF (n+1) qs)) (.st (.tuple [d0,d1]))
def av2 (mg:Str->Option Value):VIo:=fun A ss Q=>∃ (C:Addr) (n a b:Int) (es:List (Int × Int)),mg "Grower" = some (.ref C)/\A=OI C (gF n es)/\ss=[.st (.int a),.st (.int b)]/\GW n es/\PutOk n es [(a,b)]/\es.length<=2500/\∀ qs d0 d1,Rise qs->qs.Perm (es ++ [(a,b)])->FarN n es d0->FarN n qs d1->Q (OI C (gF n qs)) (.st (.tuple [d0,d1]))
theorem atu {n m a b:Int} {es qs:List (Int × Int)} (h:GW n es) (hm:n<=m) (c:m<=61) (o:es.length<=2500) (j:0<=a) (i:a < m) (f:0<=b) (l:b < m) (d:qs.Perm (es ++ [(a,b)])):GW m qs :=
 ⟨by have:=h.lo;lia,c,fun p g=>by
  rcases aA7.mp (d.mem_iff.mp g) with z | z
  ·have:=h.inn p z
   exact ⟨by lia,by lia,by lia,by lia⟩
  ·cases aC1.mp z
   exact ⟨j,i,f,l⟩,by rw [d.length_eq,aB0];simp;lia⟩
section
variable {P:Program} {w:World} {K:Frag} {mg:Str->Option Value} {base:Heap}
theorem sc_far_or_none:FnScope ["web"] ["web"] (aai s_far_or_none):=by row_cond sc
theorem afj (T:Txt K mg):Can P w K mg base "far_or_none" 10 ["web"] (spP K (att)):=by
 obtain ⟨f,fd,D⟩:=T.d_far_or_none
 obtain ⟨l,c⟩:=T.o_Grower
 have d:=c.mgx
 have o:=T.n_Grower_held _ d
 refine D.can (D.fn.ok sc_far_or_none (fun vs H Q E h=>lenP h fun ss Q' q=>by obtain ⟨n,es,rfl,i,m⟩:=q;rfl) (fun cdv A outer s H vs Q E r h=>?_))
 have nd:=sc_far_or_none.nd
 refine ⟨_,(aag (aao (ame (aca (aaf (acx T) r (aaa (pv 0) aab))) (aap aaq (aaf (acu T) r (aaa (pv 0) aab)) aad (fun _ _=>rfl)) acv))),?_⟩
 refine abr h fun ss Q' q B y=>?_
 refine exS2 ss q fun n es g=>?_
 have i:=g.1
 have m:=g.2
 clear g q
 show EvS B _ _ [some (.st (webD n es))]
 have hn:=i.lo
 have u:=i.hi
 have j:=i.inn
 have p:=i.len
 row_cond go
 refine ⟨n,es,rfl,hn,by lia,j,by lia,fun b hb=>?_⟩
 cases b with
 | true =>
  row_cond go
  refine ⟨n,es,rfl,hn,by lia,j,by lia,hb.mp rfl,fun x a b v=>?_⟩
  row_cond go
  exact m _ (.inl ⟨hb.mp rfl,x,v.top,rfl⟩)
 | false =>
  row_cond go
  exact m _ (.inr ⟨fun z=>(by have:=hb.mpr z;cases this),rfl⟩)
theorem sc_Grower____init__:FnScope ["self","web","n","ties"] ["self","web"] (aai s_Grower____init__):=by row_cond sc
theorem ab1 (T:Txt K mg) {a:Addr} (b:mg "Grower" = some (.ref a)):CanM P w K mg base a "__init__" 1 ["self","web"] (spI K (ayw mg)):=by
 obtain ⟨f,fd,D⟩:=T.m_Grower____init__ _ b
 have d:ObAt K mg "Grower" a:=by
  obtain ⟨c,o⟩:=T.o_Grower
  have:=o.mgx.symm.trans b
  cases this
  exact o
 have g:=T.n_Grower_held _ b
 refine D.can (D.fn.ok sc_Grower____init__ (fun vs H Q E h=>lenI h fun A ss Q' q=>by obtain ⟨C,n,es,l,rfl,rfl,j⟩:=q;rfl) (fun cdv A outer s H vs Q E r h=>?_))
 have nd:=sc_Grower____init__.nd
 refine ⟨_,(aac (ab0 (pv 1) (aco rfl (aax (aam (i:=2) nd rfl (Or.inl rfl)) (aax (aam (i:=3) nd rfl (Or.inl rfl)) ab4))))
  (aag (ar1 (pv 0) (aa3 (aaa (pv 2) (aaa (adp age (by rfl) T.b_list afw (aaa (pv 3) aab)) aab))) rfl))),?_⟩
 refine ac5 h fun m ss Q' q B p=>?_
 obtain ⟨C,n,es,l,rfl,rfl,j⟩:=q
 show EvS B _ _ [some (.io (OI C [])),some (.st (webD n es)),none,none]
 obtain rfl:a=C:=by have:=b.symm.trans l;cases this;rfl
 repeat (first | (refine avw d.cl g ?_) | (refine anw ?_) | row_cond st)
 exact ⟨_,rfl,_,_,_,rfl,rfl,.inr rfl,_,rfl,j⟩
theorem sc_Grower__become:FnScope ["self","grown","before"] ["self","grown"] (aai s_Grower__become):=by row_cond sc
theorem aed (T:Txt K mg) {a:Addr} (b:mg "Grower" = some (.ref a)):CanM P w K mg base a "become" 11 ["self","grown"] (spI K (av1 mg)):=by
 obtain ⟨f,fd,D⟩:=T.m_Grower__become _ b
 have d:ObAt K mg "Grower" a:=by
  obtain ⟨c,o⟩:=T.o_Grower
  have:=o.mgx.symm.trans b
  cases this
  exact o
 have g:=T.n_Grower_held _ b
 refine D.can (D.fn.ok sc_Grower__become (fun vs H Q E h=>lenI h fun A ss Q' q=>by obtain ⟨C,n,m,es,qs,u,rfl,rfl,l,j,p⟩:=q;rfl) (fun cdv A outer s H vs Q E r h=>?_))
 have nd:=sc_Grower__become.nd
 refine ⟨_,(aac (aak (i:=2) nd rfl (Or.inl rfl) (aaf (afj T) r (aaa (aew (pv 0) rfl) aab)))
  (aac (ar1 (pv 0) (pv 1) rfl)
  (aag (aao (aa3 (aaa (pv 2) (aaa (aaf (afj T) r (aaa (pv 1) aab)) aab))))))),?_⟩
 refine ac5 h fun F ss Q' q B G=>?_
 obtain ⟨C,n,m,es,qs,u,rfl,rfl,l,j,p⟩:=q
 show EvS B _ _ [some (.io (OI C (gF n es))),some (.st (webD m qs)),none]
 obtain rfl:a=C:=by have:=b.symm.trans u;cases this;rfl
 repeat (first | (refine ae4 (.inr rfl) d.cl g agi ?_) | row_cond st)
 refine ⟨n,es,rfl,l,fun z y=>?_⟩
 repeat (first | (refine ayq (fs:=gF n es) d.cl g ?_) | row_cond st)
 refine ⟨_,rfl,.inr rfl,Nat.le_of_ble_eq_true rfl,?_⟩
 rw [put1]
 dsimp only [List.set_cons_zero,List.set_cons_succ,reS]
 row_cond go
 refine ⟨m,qs,rfl,j,fun v x=>?_⟩
 row_cond go
 exact p z v y x
theorem sc_Grower__put_place:FnScope ["self","a","n","ties"] ["self","a"] (aai s_Grower__put_place):=by row_cond sc
theorem af2 (T:Txt K mg) {d:Addr} (b:mg "Grower" = some (.ref d)):CanM P w K mg base d "put_place" 12 ["self","a"] (spI K (arh mg)):=by
 obtain ⟨f,fd,D⟩:=T.m_Grower__put_place _ b
 obtain ⟨l,j⟩:=T.v_MOST_PLACES
 have g:ObAt K mg "Grower" d:=by
  obtain ⟨c,o⟩:=T.o_Grower
  have:=o.mgx.symm.trans b
  cases this
  exact o
 have r:=T.n_Grower_held _ b
 refine D.can (D.fn.ok sc_Grower__put_place (fun vs H Q E h=>lenI h fun A ss Q' q=>by obtain ⟨C,n,a,es,O,rfl,rfl,G,z,I,M,a0,a1,L⟩:=q;rfl) (fun cdv A outer s H vs Q E u h=>?_))
 have nd:=sc_Grower__put_place.nd
 refine ⟨_,(aac (abj (aaf (adf T) u (aaa (aew (pv 0) rfl) (aaa (pv 1) aab))))
  (aac (ab0 (aew (pv 0) rfl) (aco rfl (aax (aam (i:=2) nd rfl (Or.inl rfl)) (aax (aam (i:=3) nd rfl (Or.inl rfl)) ab4))))
  (aac (abj (aaf (ajx T) u (aaa aad (aaa (aav aeu (awu (v:=.int 60) rfl j ⟨_,rfl⟩) aad) (aaa (pv 2) aab)))))
  (aag (aao (acl (aed T b) g.cl u (pv 0) (aaa (aaf (agt T) u (aaa (aa3 (aaa (aav abc (pv 2) aad) (aaa (pv 3) aab))) (aaa (aa2 (aaa (aa3 (aaa (pv 1) (aaa (pv 2) aab))) aab)) aab))) aab))))))),?_⟩
 refine ac5 h fun A0 ss Q' q B hK=>?_
 obtain ⟨C,n,a,es,O,rfl,rfl,G,z,I,M,a0,a1,L⟩:=q
 show EvS B _ _ [some (.io (OI C (gF n es))),some (.st (.int a)),none,none]
 obtain rfl:d=C:=by have:=b.symm.trans O;cases this;rfl
 have hn:=G.lo
 have F:PutOk (n+1) es [(a,n)]:=⟨fun p S=>by cases aC1.mp S;exact ⟨a0,a1,by simp only;lia⟩,aE2.mpr ⟨I.nd,by simp,fun x X y Z e=>by
  cases aC1.mp Z
  have:=I.inn x X
  rw [e] at this
  simp only at this
  lia⟩⟩
 repeat (first | (refine ae4 (.inr rfl) g.cl r agi ?_) | row_cond st)
 refine ⟨n,a,es,rfl,a0,a1,?_⟩
 repeat (first | (refine aa7 (ae4 (.inr rfl) g.cl r agi ?_)) | row_cond st)
 refine ⟨1,60 - 1,n,rfl,hn,by lia,?_⟩
 repeat (first | (refine ack (.inr rfl) (abm (by decide +kernel)) ?_) | row_cond st)
 refine ⟨n+1,es,[(a,n)],rfl,by lia,by simp,F,fun qs u N=>afh ?_⟩
 have J:=atu G (m:=n+1) (by lia) (by lia) M a0 (by lia) (by lia) (by lia) N
 row_cond go
 refine ⟨_,_,rfl,.inr rfl,d,n,n+1,es,qs,b,rfl,rfl,G,J,fun Y R W U=>?_⟩
 exact ⟨_,rfl,L qs Y R u N W U⟩
theorem sc_Grower__put_tie:FnScope ["self","a","b"] ["self","a","b"] (aai s_Grower__put_tie):=by row_cond sc
theorem adx (T:Txt K mg) {g:Addr} (d:mg "Grower" = some (.ref g)):CanM P w K mg base g "put_tie" 12 ["self","a","b"] (spI K (av2 mg)):=by
 obtain ⟨f,fd,D⟩:=T.m_Grower__put_tie _ d
 have i:ObAt K mg "Grower" g:=by
  obtain ⟨c,o⟩:=T.o_Grower
  have:=o.mgx.symm.trans d
  cases this
  exact o
 have p:=T.n_Grower_held _ d
 refine D.can (D.fn.ok sc_Grower__put_tie (fun vs H Q E h=>lenI h fun A ss Q' q=>by obtain ⟨C,n,a,b,es,y,rfl,rfl,r,j,z,x⟩:=q;rfl) (fun cdv A outer s H vs Q E u h=>?_))
 have nd:=sc_Grower__put_tie.nd
 refine ⟨_,(aag (aao (acl (aed T d) i.cl u (pv 0) (aaa (aaf (agt T) u (aaa (aew (pv 0) rfl) (aaa (aa2 (aaa (aa3 (aaa (pv 1) (aaa (pv 2) aab))) aab)) aab))) aab)))),?_⟩
 refine ac5 h fun N ss Q' q B O=>?_
 obtain ⟨C,n,a,b,es,y,rfl,rfl,r,j,z,x⟩:=q
 show EvS B _ _ [some (.io (OI C (gF n es))),some (.st (.int a)),some (.st (.int b))]
 obtain rfl:g=C:=by have:=d.symm.trans y;cases this;rfl
 have hn:=r.lo
 have L:=r.hi
 have l:=j.inn (a,b) (by simp)
 simp only at l
 repeat (first | (refine ae4 (.inr rfl) i.cl p agi ?_) | (refine ack (.inr rfl) (abm (by decide +kernel)) ?_) | row_cond st)
 refine ⟨n,es,[(a,b)],rfl,by lia,by simp,j,fun qs u F=>afh ?_⟩
 have v:=atu r (m:=n) (by lia) (by lia) z l.1 (by lia) (by lia) l.2.2 F
 row_cond go
 refine ⟨_,_,rfl,.inr rfl,g,n,n,es,qs,d,rfl,rfl,r,v,fun M G J I=>?_⟩
 exact ⟨_,rfl,x qs M G u F J I⟩
end
def a08 (mg:Str->Option Value):VIo:=fun A ss Q=>∃ (C:Addr) (n:Int) (es:List (Int × Int)),mg "Grower" = some (.ref C)/\A=OI C (gF n es)/\ss=[]/\es.length<=10000/\Q (OI C (gF n es)) (.own (OW (.int n) (es.map prD)))
def aou (mg:Str->Option Value):VIo:=fun A ss Q=>∃ (C:Addr) (n:Int) (es:List (Int × Int)),mg "Grower" = some (.ref C)/\A=OI C (gF n es)/\ss=[]/\GW n es/\Joined n es/\∀ x a b,FarOk n es x a b->Q (OI C (gF n es)) (.st (.tuple [.int x,.int a,.int b]))
def a09 (mg:Str->Option Value):VIo:=fun A ss Q=>∃ (C:Addr) (n a b:Int) (es:List (Int × Int)),mg "Grower" = some (.ref C)/\A=OI C (gF n es)/\ss=[.st (.int a),.st (.int b)]/\GW n es/\0<=a/\a < n/\0<=b/\b < n/\Q (OI C (gF n es)) (.st (oD (Gr.farO (Tied es) a b)))
section
variable {P:Program} {w:World} {K:Frag} {mg:Str->Option Value} {base:Heap}
theorem sc_Grower__web:FnScope ["self","n","ties"] ["self"] (aai s_Grower__web):=by row_cond sc
theorem abi (T:Txt K mg) {a:Addr} (b:mg "Grower" = some (.ref a)):CanM P w K mg base a "web" 1 ["self"] (spI K (a08 mg)):=by
 obtain ⟨f,fd,D⟩:=T.m_Grower__web _ b
 have d:ObAt K mg "Grower" a:=by
  obtain ⟨c,o⟩:=T.o_Grower
  have:=o.mgx.symm.trans b
  cases this
  exact o
 have g:=T.n_Grower_held _ b
 refine D.can (D.fn.ok sc_Grower__web (fun vs H Q E h=>lenI h fun A ss Q' q=>by obtain ⟨C,n,es,l,rfl,rfl,m,j⟩:=q;rfl) (fun cdv A outer s H vs Q E u h=>?_))
 have nd:=sc_Grower__web.nd
 refine ⟨_,(aac (ab0 (aew (pv 0) rfl) (aco rfl (aax (aam (i:=1) nd rfl (Or.inl rfl)) (aax (aam (i:=2) nd rfl (Or.inl rfl)) ab4))))
  (aag (aao (aa3 (aaa (pv 1) (aaa (adp age (by rfl) T.b_list afw (aaa (pv 2) aab)) aab)))))),?_⟩
 refine ac5 h fun p ss Q' q B r=>?_
 obtain ⟨C,n,es,l,rfl,rfl,m,j⟩:=q
 show EvS B _ _ [some (.io (OI C (gF n es))),none,none]
 obtain rfl:a=C:=by have:=b.symm.trans l;cases this;rfl
 repeat (first | (refine aa7 (ae4 (.inr rfl) d.cl g agi ?_)) | (refine anw ?_) | row_cond st)
 exact ⟨_,rfl,_,rfl,j⟩
theorem sc_Grower__farthest:FnScope ["self"] ["self"] (aai s_Grower__farthest):=by row_cond sc
theorem abe (T:Txt K mg) {d:Addr} (g:mg "Grower" = some (.ref d)):CanM P w K mg base d "farthest" 10 ["self"] (spI K (aou mg)):=by
 obtain ⟨f,fd,D⟩:=T.m_Grower__farthest _ g
 have i:ObAt K mg "Grower" d:=by
  obtain ⟨c,o⟩:=T.o_Grower
  have:=o.mgx.symm.trans g
  cases this
  exact o
 have j:=T.n_Grower_held _ g
 refine D.can (D.fn.ok sc_Grower__farthest (fun vs H Q E h=>lenI h fun A ss Q' q=>by obtain ⟨C,n,es,u,rfl,rfl,l,r,m⟩:=q;rfl) (fun cdv A outer s H vs Q E y h=>?_))
 have nd:=sc_Grower__farthest.nd
 refine ⟨_,(aag (aao (aaf (acu T) y (aaa (aew (pv 0) rfl) aab)))),?_⟩
 refine ac5 h fun F ss Q' q B G=>?_
 obtain ⟨C,n,es,u,rfl,rfl,l,r,m⟩:=q
 show EvS B _ _ [some (.io (OI C (gF n es)))]
 obtain rfl:d=C:=by have:=g.symm.trans u;cases this;rfl
 have hn:=l.lo
 have v:=l.hi
 have p:=l.len
 repeat (first | (refine ae4 (.inr rfl) i.cl j agi ?_) | row_cond st)
 refine ⟨n,es,rfl,hn,by lia,l.inn,by lia,r,fun x a b z=>?_⟩
 row_cond go
 exact m x a b z
theorem sc_Grower__far:FnScope ["self","a","b"] ["self","a","b"] (aai s_Grower__far):=by row_cond sc
theorem acg (T:Txt K mg) {d:Addr} (g:mg "Grower" = some (.ref d)):CanM P w K mg base d "far" 7 ["self","a","b"] (spI K (a09 mg)):=by
 obtain ⟨f,fd,D⟩:=T.m_Grower__far _ g
 have i:ObAt K mg "Grower" d:=by
  obtain ⟨c,o⟩:=T.o_Grower
  have:=o.mgx.symm.trans g
  cases this
  exact o
 have j:=T.n_Grower_held _ g
 refine D.can (D.fn.ok sc_Grower__far (fun vs H Q E h=>lenI h fun A ss Q' q=>by obtain ⟨C,n,a,b,es,r,rfl,rfl,l,a0,a1,b0,b1,m⟩:=q;rfl) (fun cdv A outer s H vs Q E v h=>?_))
 have nd:=sc_Grower__far.nd
 refine ⟨_,(aag (aao (aaf (aic T) v (aaa (aew (pv 0) rfl) (aaa (pv 1) (aaa (pv 2) aab)))))),?_⟩
 refine ac5 h fun x ss Q' q B y=>?_
 obtain ⟨C,n,a,b,es,r,rfl,rfl,l,a0,a1,b0,b1,m⟩:=q
 show EvS B _ _ [some (.io (OI C (gF n es))),some (.st (.int a)),some (.st (.int b))]
 obtain rfl:d=C:=by have:=g.symm.trans r;cases this;rfl
 have u:=l.hi
 have p:=l.len
 repeat (first | (refine ae4 (.inr rfl) i.cl j agi ?_) | row_cond st)
 refine ⟨n,a,b,es,rfl,by lia,l.inn,by lia,a0,a1,b0,b1,?_⟩
 exact ⟨_,rfl,m⟩
end
structure Dk (H:Hp) (d p:Addr) (i:Int) (qs:List Addr):Prop where
 dd:H d=some (.lst [.ref p,.int i])
 pp:H p=some (.lst (qs.map V.ref))
 ne:qs ≠ []
 le:qs.length<=63
 dp:d ≠ p
 dq:d ∉ qs
 pq:p ∉ qs
 ql:∀ q∈qs,∃ c f k:Int,H q=some (.lst [.int c,.int f,.int k])
def ap5:Sp:=fun vs H Q _=>∃ (d p:Addr) (i many:Int) (qs:List Addr),vs=[.ref d,.int many]/\Dk H d p i qs/\0 < many/\many < 1073741824 /\
 ∀ (r:Int) (H':Hp) (i':Int),0<=r->r < many->Dk H' d p i' qs->(∀ a,a ≠ d->a ∉ qs->H' a=H a)->Q (.int r) H'
theorem Dk.pick {H:Hp} {d p:Addr} {i:Int} {qs:List Addr} (h:Dk H d p i qs) (j:Int):∃ q,q∈qs/\atI (qs.map V.ref) (j % ((qs.map V.ref).length:Int))=some (.ref q):=by
 have c:0 < qs.length:=aF1.mpr h.ne
 have b:=Int.emod_nonneg j (show ((qs.map V.ref).length:Int) ≠ 0 by rw [aA3];lia)
 have a:=aE1 j (show (0:Int) < ((qs.map V.ref).length:Int) by rw [aA3];lia)
 generalize j % ((qs.map V.ref).length:Int)=m at b a
 have hm:m.toNat < qs.length:=by rw [aA3] at a;lia
 exact ⟨qs[m.toNat],List.getElem_mem _,adk b (by rw [aA5,aA0 hm];rfl)⟩
theorem Dk.put {H:Hp} {d p q:Addr} {i a:Int} {qs:List Addr} (h:Dk H d p i qs) (b:q∈qs) (c f k:Int):Dk (upd (upd H d (.lst [.ref p,.int a])) q (.lst [.int c,.int f,.int k])) d p a qs:=by
 have j:d ≠ q:=fun e=>h.dq (e ▸ b)
 have g:p ≠ q:=fun e=>h.pq (e ▸ b)
 refine ⟨by rw [aae j,aah],by rw [aae g,aae h.dp.symm];exact h.pp,h.ne,h.le,h.dp,h.dq,h.pq,fun z hz=>?_⟩
 by_cases e:z=q
 ·subst e;exact ⟨c,f,k,aah⟩
 ·rw [aae e,aae (show z ≠ d from fun e=>h.dq (e ▸ hz))];exact h.ql z hz
def ODk:Own where
 P:=fun _ H v F=>∃ d p i qs,v=.ref d/\Dk H d p i qs/\∀ b,F b ↔ b=d\/b=p\/b∈qs
 mono:=fun ⟨d,p,i,qs,e,h,f⟩ _ hh=>⟨d,p,i,qs,e,⟨hh d _ ((f d).mpr (.inl rfl)) h.dd,hh p _ ((f p).mpr (.inr (.inl rfl))) h.pp,h.ne,h.le,h.dp,h.dq,h.pq,fun q hq=>by
  obtain ⟨c,g,k,e⟩:=h.ql q hq
  exact ⟨c,g,k,hh q _ ((f q).mpr (.inr (.inr hq))) e⟩⟩,f⟩
 dom:=fun ⟨d,p,i,qs,e,h,f⟩ b z=>by
  rcases (f b).mp z with rfl | rfl | z
  ·exact ⟨_,h.dd⟩
  ·exact ⟨_,h.pp⟩
  ·obtain ⟨c,g,k,e⟩:=h.ql b z
   exact ⟨_,e⟩
theorem ayx {P:Program} {w:World} {K:Frag} {mg:Str->Option Value} {base:Heap} {x:Str} {k:Nat} {ps:List Str} {sp a:Sp} (c:Can P w K mg base x k ps sp) (h:∀ vs H Q E,a vs H Q E->sp vs H Q E):Can P w K mg base x k ps a:=by
 obtain ⟨f,fd,ok,m,kp,b⟩:=c
 exact ⟨f,fd,ok.imp h,m,kp,b⟩
def atv:VIo:=fun A ss Q=>∃ many:Int,A=ODk/\ss=[.st (.int many)]/\0 < many/\many < 1073741824/\∀ r:Int,0<=r->r < many->Q ODk (.st (.int r))
theorem ayy {K:Frag} {vs:List V} {H:Hp} {Q:VK} {E:XK} (h:spI K atv vs H Q E):ap5 vs H Q E:=by
 obtain ⟨v0,C,G,R,A,ss,F0,Q',rfl,gh,ft,u,ap,fg,fr,y,⟨many,rfl,rfl,v,l,k⟩,m⟩:=h
 obtain ⟨d,p,i,qs,rfl,n,j⟩:=ap
 cases y with
 | cons ha hr =>
  cases hr
  cases (show Rp G _ (.int many) from ha)
  refine ⟨d,p,i,many,qs,rfl,n,v,l,fun r H' q w s b B=>m ODk _ (k r w s) _ G H' F0 (fun _=>False) ?_⟩
  have out:∀ a,¬ F0 a->H' a=H a:=fun a z=>B a (fun e=>z ((j a).mpr (.inl e))) (fun e=>z ((j a).mpr (.inr (.inr e))))
  have g:∀ a,F0 a->(∃ o,H' a=some o)/\∀ xs,H' a ≠ some (.tup xs):=fun a z=>by
   rcases (j a).mp z with rfl | rfl | z
   ·rw [b.dd];exact ⟨⟨_,rfl⟩,fun xs e=>by cases e⟩
   ·rw [b.pp];exact ⟨⟨_,rfl⟩,fun xs e=>by cases e⟩
   ·obtain ⟨c,f,D,e⟩:=b.ql a z
    rw [e];exact ⟨⟨_,rfl⟩,fun xs e=>by cases e⟩
  refine ⟨Same.refl _,fun a o e=>?_,fun a x e=>?_,fun a o e => .inl e,fun a o e=>?_,fun a o e=>?_,⟨d,p,q,qs,rfl,b,j⟩,fun a z => .inl z,fg,⟨.int _,fun a z=>z⟩,fun a z=>z.elim⟩
  ·rw [out a fun z=>by rw [fg a z] at e;cases e];exact gh a o e
  ·by_cases z:F0 a
   ·exact absurd e ((g a z).2 _)
   ·rw [out a z] at e;exact ft a x e
  ·rw [out a fun z=>by rw [fr a z] at e;cases e];exact u a o e
  ·by_cases z:F0 a
   ·exact (g a z).1
   ·rw [out a z];exact ⟨o,e⟩
def atw:VP:=fun ss Q=>∃ ns:List Int,ss=[.scr ns]/\ns.length<=63/\Q (.own ODk)
theorem ap6 {K:Frag} {vs:List V} {H:Hp} {Q:VK} {E:XK} (h:spP K atw vs H Q E):∃ (a:Addr) (ns:List Int),vs=[.ref a]/\SqL K H a (ns.map V.int)/\ns.length<=63 /\
  ∀ (d p:Addr) (i:Int) (qs:List Addr) (H':Hp),Dk H' d p i qs->(∀ b,b=d\/b=p\/b∈qs->H b=none)->(∀ b,b ≠ d->b ≠ p->b ∉ qs->H' b=H b)->Q (.ref d) H':=by
 obtain ⟨G,ss,Q',gh,ft,s,⟨ns,rfl,hn,k⟩,n⟩:=h
 cases s with
 | cons ha hr =>
  cases hr
  obtain ⟨a,rfl,q⟩:=(show ∃ a,_=V.ref a/\SqL K G a (ns.map V.int) from ha)
  refine ⟨a,ns,rfl,gh.seq q,hn,fun d p i qs H' l j m=>n _ k _ G H' (fun b=>b=d\/b=p\/b∈qs) ?_⟩
  have hh:Same H H':=fun a o e=>by
   rw [m a (fun z=>by rw [j a (.inl z)] at e;cases e) (fun z=>by rw [j a (.inr (.inl z))] at e;cases e) (fun z=>by rw [j a (.inr (.inr z))] at e;cases e)];exact e
  have g:∀ a,a=d\/a=p\/a∈qs->(∃ o,H' a=some o)/\∀ xs,H' a ≠ some (.tup xs):=fun a z=>by
   rcases z with rfl | rfl | z
   ·rw [l.dd];exact ⟨⟨_,rfl⟩,fun xs e=>by cases e⟩
   ·rw [l.pp];exact ⟨⟨_,rfl⟩,fun xs e=>by cases e⟩
   ·obtain ⟨c,f,u,e⟩:=l.ql a z
    rw [e];exact ⟨⟨_,rfl⟩,fun xs e=>by cases e⟩
  refine ⟨Same.refl _,gh.trans hh,hh,fun a o e => .inl e,j,fun a z=>?_,fun a z=>(g a z).1,⟨d,p,i,qs,rfl,l,fun b=>Iff.rfl⟩,fun _ a r e=>?_⟩
  ·cases e:G a with
   | none=>rfl
   | some o=>have:=gh a o e;rw [j a z] at this;cases this
  ·by_cases z:a=d\/a=p\/a∈qs
   ·exact absurd e ((g a z).2 _)
   ·rw [m a (fun y=>z (.inl y)) (fun y=>z (.inr (.inl y))) (fun y=>z (.inr (.inr y)))] at e;exact ft a r e
section
variable {P:Program} {w:World} {K:Frag} {mg:Str->Option Value} {base:Heap}
theorem sc_law_draw:FnScope ["deck","many","pool","found","number"] ["deck","many"] (aai s_law_draw):=by row_cond sc
theorem agu (T:Txt K mg):Can P w K mg base "_law_draw" 1 ["deck","many"] ap5:=by
 obtain ⟨f,fd,D⟩:=T.d_law_draw
 refine D.can (D.fn.ok sc_law_draw (fun vs H Q E h=>by obtain ⟨d,p,i,many,qs,rfl,b,j,l,k⟩:=h;rfl) (fun cdv A outer s H vs Q E C h=>?_))
 obtain ⟨d,p,i,many,qs,rfl,b,j,l,k⟩:=h
 have nd:=sc_law_draw.nd
 refine ⟨_,(aac (aak (i:=2) nd rfl (Or.inl rfl) (aap aaq (aap aaq (pv 0) aad (fun _ _=>rfl)) (aav aev (aap aaq (pv 0) aad (fun _ _=>rfl)) (aal aa9 (by rfl) T.b_len abz (aaa (aap aaq (pv 0) aad (fun _ _=>rfl)) aab))) (fun _ _=>rfl)))
  (aac (ab0 (aav abc (aap aaq (pv 0) aad (fun _ _=>rfl)) aad) (agx (pv 0) aad aey))
  (aac (aa4 (PW.pt (ad6 (aat ad1 (aap aaq (pv 2) aad (fun _ _=>rfl)) aad (aau _)) (adn (aat aiw (aap aaq (pv 2) aad (fun _ _=>rfl)) aad (aau _)))))
   (aac (aak (i:=3) nd rfl (Or.inl rfl) (aav aev (aap aaq (pv 2) aad (fun _ _=>rfl)) (pv 1)))
    (aac (ab0 (aav aj0 (aap aaq (pv 2) aad (fun _ _=>rfl)) (pv 1)) (agx (pv 2) aad aey))
    (aag (aao (pv 3)))))
   aaw)
  (aac (ab0 (aav abc (aap aaq (pv 2) aad (fun _ _=>rfl)) aad) (agx (pv 2) aad aey))
  (aac (aak (i:=4) nd rfl (Or.inl rfl) (aav aev (aav abc (aav aev (aap aaq (pv 2) aad (fun _ _=>rfl)) aad) (aav agz aad (aap aaq (pv 2) aad (fun _ _=>rfl)))) aad))
  (aac (aak (i:=4) nd rfl (Or.inl rfl) (aav aev (aav agz (pv 4) (pv 4)) aad))
  (aac (aak (i:=4) nd rfl (Or.inl rfl) (aav aev (aav agz (pv 4) (aav abc (pv 4) aad)) aad))
  (aag (aao (aav aev (aav aj0 (pv 4) aad) (pv 1))))))))))),?_⟩
 show (_:TS) _ [some (.ref d),some (.int many),none,none,none] H
 obtain ⟨q,g,v⟩:=b.pick i
 obtain ⟨c,f,B,y⟩:=b.ql q g
 have r:=b.dd
 have o:=b.pp
 have x:(0:Int) < ((qs.map V.ref).length:Int):=by have:=aF1.mpr b.ne;rw [aA3];lia
 have z:q ≠ d:=fun e=>b.dq (e ▸ g)
 have fin:∀ (c f k:Int) (a:Addr),a ≠ d->a ∉ qs->upd (upd H d (.lst [.ref p,.int (i+1)])) q (.lst [.int c,.int f,.int k]) a=H a:=fun c f k a n m=>by
  rw [aae (show a ≠ q from fun e=>m (e ▸ g)),aae n]
 row_cond hgo
 refine ac6 (fun hf=>?_) (fun hf=>?_)
 ·row_cond hgo
  refine ac6 (fun u=>?_) (fun u=>?_)
  ·row_cond hgo
   exact k _ _ (i+1) (Int.emod_nonneg _ (by lia)) (aE1 _ j) (b.put g _ _ _) (fin _ _ _)
  ·row_cond hgo
   exact k _ _ (i+1) (Int.emod_nonneg _ (by lia)) (aE1 _ j) (b.put g _ _ _) (fin _ _ _)
 ·row_cond hgo
  exact k _ _ (i+1) (Int.emod_nonneg _ (by lia)) (aE1 _ j) (b.put g _ _ _) (fin _ _ _)
theorem aaj (T:Txt K mg):Can P w K mg base "_law_draw" 1 ["deck","many"] (spI K atv):=ayx (agu T) fun _ _ _ _ h=>ayy h
theorem sc_law_deck:FnScope ["script","pools","k","cell"] ["script"] (aai s_law_deck):=by row_cond sc
theorem an9 (T:Txt K mg):Can P w K mg base "_law_deck" 1 ["script"] (spP K atw):=by
 obtain ⟨f,fd,D⟩:=T.d_law_deck
 refine D.can (D.fn.ok sc_law_deck (fun vs H Q E h=>by obtain ⟨a,ns,rfl,C,hn,k⟩:=ap6 h;rfl) (fun cdv A outer s H vs Q E hr h=>?_))
 obtain ⟨a,ns,rfl,C,hn,k⟩:=ap6 h
 have nd:=sc_law_deck.nd
 refine ⟨_,(aac (aak (i:=1) nd rfl (Or.inl rfl) (aa2 aab))
  (aac (abp aI6 rfl (abg rfl T.b_range (aaa (aal (acs rfl) (by rfl) T.b_max ac7 (aaa aad (aaa (aal (act rfl) (by rfl) T.b_min ad8 (aaa aad (aaa (aal aa9 (by rfl) T.b_len abz (aaa (pv 0) aab)) aab))) aab))) aab)) (aam (i:=2) nd rfl (Or.inl rfl))
   (aac (aak (i:=3) nd rfl (Or.inl rfl) aad)
    (aac (aa4 (aat al0 (pv 2) (aal aa9 (by rfl) T.b_len abz (aaa (pv 0) aab)) (aau _))
     (aag (aak (i:=3) nd rfl (Or.inl rfl) (aap aaq (pv 0) (pv 2) (fun _ _=>rfl))))
     aaw)
    (aag (abj (ac1 PySem.F.plainAttrs_list PySem.F.slot_list_append PySem.F.type_list_append ab2 (pv 1) (aaa (aa2 (aaa (pv 3) (aaa (adp aqp (by rfl) T.b_int asi (aaa (ado a1n (pv 3) (axn (n:=1000000000000000000) (by decide) (by refine ⟨by decide,by decide,by decide⟩)) (aau _)) aab)) (aaa (aav agz aad (pv 2)) aab)))) aab)))))))
  (aag (aao (aa2 (aaa (pv 1) (aaa aad aab))))))),?_⟩
 show (_:TS) _ [some (.ref a),none,none,none] H
 row_cond hgo
 refine ⟨by show 0<=sizeLine;decide,fun p I=>?_⟩
 row_cond hgo
 refine ao6 ((abf I).seq C) ?_
 rw [aA3]
 row_cond hgo
 refine ao5 (by split <;> split <;> lia) (by split <;> split <;> lia) ?_
 refine art (fun i σ H2=>∃ (u r:Option V) (qs:List Addr),σ=[some (.ref a),some (.ref p),u,r]/\H2 p=some (.lst (qs.map V.ref))/\qs.length=i/\p ∉ qs/\(∀ q∈qs,H q=none/\∃ c f k:Int,H2 q=some (.lst [.int c,.int f,.int k]))/\∀ b,b ≠ p->b ∉ qs->H2 b=H b)
  ⟨_,_,[],rfl,aah,rfl,by simp,(fun q m=>nomatch m),fun b hb _=>aae hb⟩ ?_ ?_
 ·rintro i σ H2 hi ⟨u,r,qs,rfl,j,v,pq,m,B⟩
  have S:i < 63:=by
   revert hi
   split <;> split <;> lia
  have s2:Same H H2:=fun b o e=>by
   rw [B b (fun z=>by rw [z,I] at e;cases e) (fun z=>by rw [(m b z).1] at e;cases e)];exact e
  have fin:∀ (c f k:Int) (q:Addr) (u r:Option V),H2 q=none->∃ (R N:Option V) (l:List Addr),[some (V.ref a),some (.ref p),u,r]=[some (.ref a),some (.ref p),R,N]/\upd (upd H2 q (.lst [.int c,.int f,.int k])) p (.lst (qs.map V.ref ++ [.ref q])) p=some (.lst (l.map V.ref))/\l.length=i+1/\p ∉ l/\(∀ z∈l,H z=none/\∃ c' Z k':Int,upd (upd H2 q (.lst [.int c,.int f,.int k])) p (.lst (qs.map V.ref ++ [.ref q])) z=some (.lst [.int c',.int Z,.int k']))/\∀ b,b ≠ p->b ∉ l->upd (upd H2 q (.lst [.int c,.int f,.int k])) p (.lst (qs.map V.ref ++ [.ref q])) b=H b:=fun c f k q u r g=>by
   have G:q ≠ p:=fun e=>by rw [e,j] at g;cases g
   have O:H q=none:=by
    cases e:H q with
    | none=>rfl
    | some o=>rw [s2 q o e] at g;cases g
   refine ⟨u,r,qs ++ [q],rfl,by rw [aah,aD9];rfl,by simp [v],fun z=>?_,fun z hz=>?_,fun b hb x=>?_⟩
   ·rcases aA7.mp z with z | z
    ·exact pq z
    ·exact G (aC1.mp z).symm
   ·have W:z ≠ p:=fun e=>by
     subst e
     rcases aA7.mp hz with z | z
     ·exact pq z
     ·exact G (aC1.mp z).symm
    rw [aae W]
    by_cases zq:z=q
    ·subst zq;exact ⟨O,c,f,k,aah⟩
    ·rw [aae zq]
     exact m z ((aA7.mp hz).resolve_right fun y=>zq (aC1.mp y))
   ·rw [aae hb,aae (show b ≠ q from fun e=>x (aA7.mpr (.inr (aC1.mpr e))))]
    exact B b hb fun z=>x (aA7.mpr (.inl z))
  row_cond hgo
  refine ao6 (s2.seq C) ?_
  rw [aA3]
  row_cond hgo
  refine ac6 (fun Y=>?_) (fun Y=>?_)
  ·have J:i < ns.length:=by lia
   have M:atI (ns.map V.int) (0+(i:Int))=some (.int ns[i]):=adk (by lia) (by rw [aA5,show (0+(i:Int)).toNat=i by lia,aA0 J];rfl)
   row_cond hgo
   refine auw (s2.seq C) M ?_
   row_cond hgo
   refine ⟨by show 3<=sizeLine;decide,fun q g=>?_⟩
   have G:p ≠ q:=fun e=>by rw [← e,j] at g;cases g
   row_cond hgo
   exact fin _ _ _ q _ _ g
  ·row_cond hgo
   refine ⟨by show 3<=sizeLine;decide,fun q g=>?_⟩
   have G:p ≠ q:=fun e=>by rw [← e,j] at g;cases g
   row_cond hgo
   exact fin _ _ _ q _ _ g
 ·rintro σ H2 ⟨u,r,qs,rfl,j,v,pq,m,B⟩
  have s2:Same H H2:=fun b o e=>by
   rw [B b (fun z=>by rw [z,I] at e;cases e) (fun z=>by rw [(m b z).1] at e;cases e)];exact e
  row_cond hgo
  refine ⟨by show 2<=sizeLine;decide,fun d hd=>?_⟩
  have dp:d ≠ p:=fun e=>by rw [e,j] at hd;cases hd
  have dq:d ∉ qs:=fun z=>by obtain ⟨_,c,f,k,e⟩:=m d z;rw [e] at hd;cases hd
  have L:H d=none:=by
   cases e:H d with
   | none=>rfl
   | some o=>rw [s2 d o e] at hd;cases hd
  refine k d p 0 qs _ ⟨aah,by rw [aae dp.symm];exact j,?_,?_,dp,dq,pq,fun q z=>?_⟩ ?_ ?_
  ·intro e
   rw [e] at v
   revert v
   simp only [aH9]
   split <;> split <;> lia
  ·rw [v]
   split <;> split <;> lia
  ·rw [aae (show q ≠ d from fun e=>dq (e ▸ z))];exact (m q z).2
  ·rintro b (rfl | rfl | z)
   ·exact L
   ·exact I
   ·exact (m b z).1
  ·intro b b1 X U
   rw [aae b1];exact B b X U
end
theorem afk {α β:Type} (f : α->β):∀ (l:List α) (k:Nat),(l.map f).eraseIdx k=(l.eraseIdx k).map f
 | [],_=>rfl
 | _ :: _,0=>rfl
 | a :: l,k+1=>by simp [afk f l k]
theorem atx {j:Int} {n:Nat} (a:0<=j) (b:j < n):seqIndex? j n=some j.toNat:=by unfold seqIndex?;simp;lia
theorem Dk.frame {H H':Hp} {d p:Addr} {i:Int} {qs:List Addr} (h:Dk H d p i qs) (e:∀ a,a=d\/a=p\/a∈qs->H' a=H a):Dk H' d p i qs :=
 ⟨(e d (.inl rfl)).trans h.dd,(e p (.inr (.inl rfl))).trans h.pp,h.ne,h.le,h.dp,h.dq,h.pq,fun q b=>by rw [e q (.inr (.inr b))];exact h.ql q b⟩
def aoa:VIo:=fun A ss Q=>∃ n:Int,A=ODk/\ss=[.st (.int n)]/\0<=n/\n<=61/\∀ row:List Int,Order n row->Q ODk (.own (OL (row.map .int)))
theorem aob {K:Frag} {vs:List V} {H:Hp} {Q:VK} {E:XK} (h:spI K aoa vs H Q E):∃ (d p:Addr) (i n:Int) (qs:List Addr),vs=[.ref d,.int n]/\Dk H d p i qs/\0<=n/\n<=61 /\
  ∀ (row:List Int) (l:Addr) (H':Hp) (s:Int),Order n row->Dk H' d p s qs->H l=none->H' l=some (.lst (row.map V.int))->(∀ a o,a ≠ d->a ∉ qs->H a=some o->H' a=some o)->(∀ a xs,H' a=some (.tup xs)->H a=some (.tup xs))->Q (.ref l) H':=by
 obtain ⟨v0,L,G,R,A,ss,F0,Q',rfl,gh,ft,x,ap,fg,fr,C,⟨n,rfl,rfl,y,u,k⟩,v⟩:=h
 obtain ⟨d,p,i,qs,rfl,r,q⟩:=ap
 cases C with
 | cons ha hr =>
  cases hr
  cases (show Rp G _ (.int n) from ha)
  refine ⟨d,p,i,n,qs,rfl,r,y,u,fun row l H' s D j g m I F=>v ODk _ (k row D) _ G H' F0 (fun b=>b=l) ?_⟩
  have out:∀ a o,¬ F0 a->H a=some o->H' a=some o:=fun a o z=>I a o (fun e=>z ((q a).mpr (.inl e))) (fun e=>z ((q a).mpr (.inr (.inr e))))
  have J:G l=none:=by
   cases e:G l with
   | none=>rfl
   | some o=>rw [gh l o e] at g;cases g
  refine ⟨Same.refl _,fun a o e=>?_,fun a B e=>?_,fun a o e => .inl e,fun a o e=>?_,fun a o e=>?_,⟨d,p,s,qs,rfl,j,q⟩,fun a z => .inl z,fg,⟨l,row.map V.int,rfl,m,Rps.ints row,fun b=>Iff.rfl⟩,fun a z=>?_⟩
  ·exact out a o (fun z=>by rw [fg a z] at e;cases e) (gh a o e)
  ·exact ft a B (F a _ e)
  ·exact out a o (fun z=>by rw [fr a z] at e;cases e) (x a o e)
  ·by_cases z:F0 a
   ·rcases (q a).mp z with rfl | rfl | z
    ·exact ⟨_,j.dd⟩
    ·exact ⟨_,j.pp⟩
    ·obtain ⟨c,f,w,e⟩:=j.ql a z
     exact ⟨_,e⟩
   ·exact ⟨o,out a o z e⟩
  ·subst z
   refine ⟨g,J,⟨_,m⟩,fun z=>?_⟩
   rcases (q a).mp z with rfl | rfl | z
   ·rw [r.dd] at g;cases g
   ·rw [r.pp] at g;cases g
   ·obtain ⟨c,f,w,e⟩:=r.ql a z
    rw [e] at g;cases g
section
variable {P:Program} {w:World} {K:Frag} {mg:Str->Option Value} {base:Heap}
theorem sc_law_order:FnScope ["deck","n","left"] ["deck","n"] (aai s_law_order):=by row_cond sc
theorem agv (T:Txt K mg):Can P w K mg base "_law_order" 2 ["deck","n"] (spI K aoa):=by
 obtain ⟨f,fd,D⟩:=T.d_law_order
 refine D.can (D.fn.ok sc_law_order (fun vs H Q E h=>by obtain ⟨d,p,i,n,qs,rfl,I,Z,h2,k⟩:=aob h;rfl) (fun cdv A outer s H vs Q E hr h=>?_))
 obtain ⟨d,p,i,n,qs,rfl,I,Z,h2,k⟩:=aob h
 have nd:=sc_law_order.nd
 refine ⟨_,(aac (aak (i:=2) nd rfl (Or.inr rfl) (ann rfl T.b_list rfl T.b_range rfl (aaa (pv 1) aab)))
  (aag (aao (ad2 rfl (N:=["k","left","deck"]) (src:=[none,some 2,some 0]) (by exact ab7 rfl rfl rfl rfl rfl rfl) (abg rfl T.b_range (aaa (pv 1) aab)) (fun _ _ _ _=>(aam (i:=0) (show List.Nodup (["k","left","deck"]:List Str) by decide +kernel) rfl (Or.inl rfl) (hf:=Or.inr rfl))) (fun _ _ _ _=>acp) (fun _ _ _ _=>(show PE _ _ (tBM K "list" ai0 _ _) from (ac1 PySem.F.plainAttrs_list PySem.F.slot_list_pop PySem.F.type_list_pop aml (pv 1) (aaa (aaf (agu T) hr (aaa (pv 2) (aaa (aal (show abd _ (.builtin "len") (rLen K) from aa9) (by rfl) T.b_len abz (aaa (pv 1) aab)) aab))) aab)))))))),?_⟩
 show (_:TS) _ [some (.ref d),some (.int n),none] H
 row_cond hgo
 unfold ajr
 row_cond hgo
 refine ⟨n,rfl,Z,by lia,fun m hm=>?_⟩
 row_cond hgo
 refine ao5 (by lia) (by lia) ?_
 intro g b
 have J:∀ a,a=d\/a=p\/a∈qs->∃ o,H a=some o:=fun a z=>by
  rcases z with rfl | rfl | z
  ·exact ⟨_,I.dd⟩
  ·exact ⟨_,I.pp⟩
  ·obtain ⟨c,f,kk,e⟩:=I.ql a z
   exact ⟨_,e⟩
 have S:∀ a,a=d\/a=p\/a∈qs->a ≠ m:=fun a z e=>by
  obtain ⟨o,L⟩:=J a z
  rw [e,hm] at L;cases L
 have R:g ≠ m:=fun e=>by rw [e,aah] at b;cases b
 rw [aae R] at b
 have U:∀ a,a=d\/a=p\/a∈qs->a ≠ g:=fun a z e=>by
  obtain ⟨o,L⟩:=J a z
  rw [e,b] at L;cases L
 refine aul (fun j ys σ H2=>∃ (v:Option V) (row left:List Int) (G:Int),σ=[v,some (.ref m),some (.ref d)]/\ys=row.map V.int/\row.length=j/\Order n (row ++ left)/\H2 m=some (.lst (left.map V.int))/\H2 g=some (.lst ys)/\Dk H2 d p G qs/\∀ a,a ≠ d->a ∉ qs->a ≠ m->a ≠ g->H2 a=H a)
  ⟨_,[],(List.range n.toNat).map fun (i:Nat)=>(i:Int),i,rfl,rfl,rfl,?_,?_,aah,?_,?_⟩ (fun j ys σ H2 h=>by obtain ⟨v,row,left,G,_,_,_,_,_,e,_⟩:=h;exact e) ?_ ?_
 ·exact Order.id n
 ·rw [aae R.symm,aah,aD8];rfl
 ·exact I.frame fun a z=>by rw [aae (U a z),aae (S a z)]
 ·intro a _ _ a1 X
  rw [aae X,aae a1]
 ·rintro j ys σ H2 hj ⟨v,row,left,G,rfl,rfl,M,C,B,q,l,u⟩
  have O:left.length=n.toNat - j:=by have:=C.len;simp at this;lia
  have md:m ≠ d:=(S d (.inl rfl)).symm
  have mq:m ∉ qs:=fun z=>S m (.inr (.inr z)) rfl
  have ad:g ≠ d:=(U d (.inl rfl)).symm
  have aq:g ∉ qs:=fun z=>U g (.inr (.inr z)) rfl
  row_cond hgo
  refine ⟨d,p,G,_,qs,rfl,l,by rw [aA3];lia,by rw [aA3];lia,fun r H3 i3 r0 Y W x=>?_⟩
  rw [aA3] at Y
  row_cond hgo
  obtain ⟨y,hy⟩:∃ y,left[r.toNat]?=some y:=⟨_,aA0 (show r.toNat < left.length by lia)⟩
  refine amt (y:=.int y) ((x m md mq).trans B) (by lia) (by lia) (atx r0 (by rw [aA3];exact Y)) (by rw [aA5,hy];rfl) ?_
  refine ⟨by rw [aae R];exact (x g ad aq).trans q,ae8 (by simp;lia),_,row ++ [y],left.eraseIdx r.toNat,i3,rfl,by simp,by simp [M],aq6 C hy,?_,aah,?_,?_⟩
  ·rw [aae R.symm,aah,afk]
  ·exact W.frame fun a z=>by rw [aae (U a z),aae (S a z)]
  ·intro a b1 b2 b3 b4
   rw [aae b4,aae b3,x a b1 b2];exact u a b1 b2 b3 b4
 ·rintro ys σ H2 ⟨v,row,left,G,rfl,rfl,M,C,B,q,l,u⟩
  have O:left=[]:=by have:=C.len;simp at this;exact List.length_eq_zero_iff.mp (by lia)
  subst O
  rw [aE4] at C
  row_cond hgo
  refine k row g H2 G C l b q (fun a o a1 X e=>?_) fun a xs e=>?_
  ·rw [u a a1 X (fun z=>by rw [z,hm] at e;cases e) (fun z=>by rw [z,b] at e;cases e)];exact e
  ·rw [← u a (fun z=>?_) (fun z=>?_) (fun z=>?_) (fun z=>?_)]
   ·exact e
   ·rw [z,l.dd] at e;cases e
   ·obtain ⟨c,f,kk,e2⟩:=l.ql a z
    rw [e2] at e;cases e
   ·rw [z,B] at e;cases e
   ·rw [z,q] at e;cases e
end
def aty:VIo:=fun A ss Q=>A=ODk/\ss=[]/\∀ (n:Int) (es:List (Int × Int)),1<=n->n<=60->PsOk n es->es.length<=1900->Rise es->Q ODk (.st (webD n es))
def mmP (p:Int × Int):Int × Int:=if p.2 < p.1 then (p.2,p.1) else p
theorem a1c {p:Int × Int} {x y:Int} (b:aqu [p.1,p.2] x) (a:aeh [p.1,p.2] y):mmP p=(x,y):=by
 have a1:=b.2 p.1 (by simp)
 have h:=b.2 p.2 (by simp)
 have g:=a.2 p.1 (by simp)
 have f:=a.2 p.2 (by simp)
 have d:=b.1
 have c:=a.1
 simp only [aA8,List.not_mem_nil,or_false] at d c
 unfold mmP
 split
 ·exact Prod.ext (by show p.2=x;lia) (by show p.1=y;lia)
 ·exact Prod.ext (by lia) (by lia)
def ixR (row:List Int) (p:Int × Int):Int × Int:=(abb row p.1,abb row p.2)
theorem a2k {n:Int} {row:List Int} {c:List (Int × Int)} (f:Order n row) (h:PsOk n c):(c.map (ixR row)).map mmP=c.map (reP row):=by
 rw [aD8]
 refine aE3 fun p g=>?_
 have:=h.inn p g
 have d:=f.ne (a:=p.1) (b:=p.2) (by lia) (by lia) (by lia) (by lia) (by lia)
 show mmP (abb row p.1,abb row p.2)=reP row p
 unfold mmP reP
 by_cases h1:abb row p.1 < abb row p.2
 ·rw [aE8 (by simp only;lia),aE7 h1]
 ·rw [aE7 (by simp only;lia),aE8 h1]
theorem atz {n:Int} {ps qs:List (Int × Int)} (h:PsOk n ps) (g:PsOk n qs) (d:∀ p∈ps,∀ q∈qs,p ≠ q):PsOk n (ps ++ qs) :=
 ⟨aE2.mpr ⟨h.nd,g.nd,d⟩,fun p a=>by
  rcases aA7.mp a with z | z
  ·exact h.inn p z
  ·exact g.inn p z⟩
theorem at3 {l:List Int} (h:∀ x∈l,2<=x):0<=l.sum:=by
 induction l with
 | nil=>simp
 | cons a l ih =>
  have:=h a (by simp)
  have:=ih fun x b=>h x (by simp [b])
  simp;lia
theorem av3 {sz:List Int} (h:∀ x∈sz,2<=x) {i:Nat} {x:Int} (b:sz[i]?=some x):(sz.take (i+1)).sum=(sz.take i).sum+x/\(sz.take (i+1)).sum<=sz.sum/\0<=(sz.take i).sum:=by
 refine ⟨by rw [aG6,b];simp,?_,at3 fun y a=>h y (aB9 a)⟩
 have:=congrArg List.sum (aC0 (i+1) sz)
 rw [List.sum_append] at this
 have:=at3 fun y (a:y∈sz.drop (i+1))=>h y (aC3 a)
 lia
section
variable {P:Program} {w:World} {K:Frag} {mg:Str->Option Value} {base:Heap}
theorem sc_law_crowds:FnScope ["deck","sizes","n","row","ties","at","size","a","b"] ["deck"] (aai s_law_crowds):=by row_cond sc
theorem aks (T:Txt K mg):Can P w K mg base "_law_crowds" 3 ["deck"] (spI K (aty)):=by
 obtain ⟨f,fd,D⟩:=T.d_law_crowds
 obtain ⟨Y,I⟩:=T.o_Grower
 have v:=I.mgx
 have a1:=T.n_Grower_held _ v
 refine D.can (D.fn.ok sc_law_crowds (fun vs H Q E h=>lenI h fun A ss Q' q=>by obtain ⟨rfl,rfl,k⟩:=q;rfl) (fun cdv A outer s H vs Q E L h=>?_))
 have nd:=sc_law_crowds.nd
 refine ⟨_,(aac (aak (i:=1) nd rfl (Or.inl rfl) (aap aaq (aa2 (aaa (aa2 (aaa (aav abc aad (aaf (aaj T) L (aaa (pv 0) (aaa aad aab)))) aab)) (aaa (aa2 (aaa (aav abc aad (aaf (aaj T) L (aaa (pv 0) (aaa aad aab)))) (aaa (aav abc aad (aaf (aaj T) L (aaa (pv 0) (aaa aad aab)))) aab))) aab))) (aaf (aaj T) L (aaa (pv 0) (aaa aad aab))) (fun _ _=>rfl)))
  (aac (aak (i:=2) nd rfl (Or.inl rfl) (aav abc (aal (ak7 rfl) (by rfl) T.b_sum asg (aaa (pv 1) aab)) (aaf (aaj T) L (aaa (pv 0) (aaa (aav aeu aad (aal (ak7 rfl) (by rfl) T.b_sum asg (aaa (pv 1) aab))) aab)))))
  (aac (aak (i:=3) nd rfl (Or.inr rfl) (aaf (agv T) L (aaa (pv 0) (aaa (pv 2) aab))))
  (aac (aak (i:=4) nd rfl (Or.inl rfl) (aa2 aab))
  (aac (aak (i:=5) nd rfl (Or.inl rfl) aad)
  (aac (abp aI6 rfl (ab6 (pv 1)) (aam (i:=6) nd rfl (Or.inl rfl))
   (aac (abp aI6 rfl (ad7 rfl T.b_range (aaa (pv 5) (aaa (aav abc (pv 5) (pv 6)) aab))) (aam (i:=7) nd rfl (Or.inr rfl))
     (aag (abj (ac1 PySem.F.plainAttrs_list PySem.F.slot_list_extend PySem.F.type_list_extend ar4 (pv 4) (aaa (ad2 rfl (N:=["b","row","a"]) (src:=[none,some 3,some 7]) (by exact ab7 rfl rfl rfl rfl rfl rfl) (ad7 rfl T.b_range (aaa (aav abc (pv 7) aad) (aaa (aav abc (pv 5) (pv 6)) aab))) (fun _ _ _ _=>(aam (i:=0) (show List.Nodup (["b","row","a"]:List Str) by decide +kernel) rfl (Or.inl rfl) (hf:=Or.inr rfl))) (fun _ _ _ _=>acp) (fun _ _ _ _=>(aa3 (aaa (aap (show IxR _ (adi K) from aaq) (pv 1) (pv 2) (fun _ _=>rfl)) (aaa (aap (show IxR _ (adi K) from aaq) (pv 1) (pv 0) (fun _ _=>rfl)) aab))))) aab)))))
    (aag (aak (i:=5) nd rfl (Or.inl rfl) (aav abc (pv 5) (pv 6))))))
  (aac (abp aI6 rfl (ad7 rfl T.b_range (aaa (pv 5) (aaa (pv 2) aab))) (aam (i:=8) nd rfl (Or.inl rfl))
   (aag (aa4 (aat aiw (aaf (aaj T) L (aaa (pv 0) (aaa aad aab))) aad (aau _))
     (aag (abj (ac1 PySem.F.plainAttrs_list PySem.F.slot_list_append PySem.F.type_list_append ab2 (pv 4) (aaa (aa3 (aaa (aap aaq (pv 3) (aaf (aaj T) L (aaa (pv 0) (aaa (pv 8) aab))) (fun _ _=>rfl)) (aaa (aap aaq (pv 3) (pv 8) (fun _ _=>rfl)) aab))) aab))))
     aaw)))
  (aag (aao (aa3 (aaa (pv 2) (aaa (aal aei (by rfl) T.b_sorted ac8 (aaa (ad2 rfl (N:=["tie"]) (src:=[none]) (by exact ab7 rfl rfl rfl rfl rfl rfl) (ab6 (pv 4)) (fun _ _ _ _=>(aam (i:=0) (show List.Nodup (["tie"]:List Str) by decide +kernel) rfl (Or.inl rfl) (hf:=Or.inr rfl))) (fun _ _ _ _=>acp) (fun _ _ _ _=>(aa3 (aaa (aal (show abd _ (.builtin "min") (al8 K) from (asm rfl)) (by rfl) T.b_min ad8 (aaa (pv 0) aab)) (aaa (aal (show abd _ (.builtin "max") (af8 K) from (afd rfl)) (by rfl) T.b_max ac7 (aaa (pv 0) aab)) aab))))) aab)) aab)))))))))))),?_⟩
 refine ac5 h fun A0 ss Q' q B hK=>?_
 obtain ⟨rfl,rfl,k⟩:=q
 show EvS B _ _ [some (.io ODk),none,none,none,none,none,none,none,none]
 row_cond go
 refine ⟨11,rfl,rfl,by lia,by lia,fun r1 c3 c0=>?_⟩
 row_cond go
 refine ⟨15,rfl,rfl,by lia,by lia,fun r2 b2 b8=>?_⟩
 row_cond go
 refine ⟨15,rfl,rfl,by lia,by lia,fun r3 b9 c6=>?_⟩
 row_cond go
 refine ⟨2,rfl,rfl,by lia,by lia,fun r4 c2 b6=>?_⟩
 obtain ⟨sz,J,U,a8,a9⟩:∃ sz:List Int,atI [PyData.list [.int (12+r1)],.list [.int (2+r2),.int (2+r3)]] r4=some (.list (sz.map .int))/\(∀ x∈sz,2<=x)/\(2<=sz.sum/\sz.sum<=32)/\sz.length<=2:=by
  rcases (show r4=0\/r4=1 by lia) with rfl | rfl
  ·exact ⟨[12+r1],rfl,fun x S=>by simp at S;lia,by simp;lia,by simp⟩
  ·exact ⟨[2+r2,2+r3],rfl,fun x S=>by simp at S;lia,by simp;lia,by simp⟩
 row_cond go
 refine apn rfl ?_
 row_cond go
 refine apn rfl ?_
 row_cond go
 refine ⟨61 - sz.sum,rfl,rfl,by lia,by lia,fun r5 c4 b7=>?_⟩
 row_cond go
 refine ⟨sz.sum+r5,rfl,rfl,by lia,by lia,fun row O=>acz adg ?_⟩
 obtain ⟨n,hn,b5,a7⟩:∃ n,n=sz.sum+r5/\sz.sum<=n/\n<=60:=⟨_,rfl,by lia,by lia⟩
 rw [← hn] at O
 rw [← hn]
 have J:∀ j:Int,0<=j->j < n->∃ x,atI (row.map PyData.int) j=some (.int x)/\0<=x/\x < n/\x=abb row j:=fun j Z j1=>⟨abb row j,adk Z (by rw [aA5,(O.at Z j1).1];rfl),(O.at Z j1).2.1,(O.at Z j1).2.2,rfl⟩
 row_cond go
 refine adm (fun i e=>∃ M G C ps,e=[some (.io ODk),some (.st (.list (sz.map .int))),some (.st (.int n)),some (.st (.list (row.map .int))),some (.own (OL ((ps.map (ixR row)).map prD))),some (.st (.int (sz.take i).sum)),M,G,C]/\PsOk n ps/\(ps.length:Int)<=32 * (sz.take i).sum/\∀ p∈ps,p.2 < (sz.take i).sum) ⟨none,none,none,[],rfl,PsOk.nil n,by simp,fun p l=>by cases l⟩ ?_ ?_
 ·rintro i x e S g
  refine exS4 e g fun M G C ps d=>?_
  have o:=d.1
  have r:=d.2.1
  have m:=d.2.2
  clear d g
  have b1:=U x (aA2 S)
  obtain ⟨t1,t2,t3⟩:=av3 U S
  rw [t1] at t2
  rw [t1]
  generalize (sz.take i).sum=c at r t2 t3 m
  row_cond go
  refine ab5 (fun j e=>∃ G C ps,e=[some (.io ODk),some (.st (.list (sz.map .int))),some (.st (.int n)),some (.st (.list (row.map .int))),some (.own (OL ((ps.map (ixR row)).map prD))),some (.st (.int c)),some (.st (.int x)),G,C]/\PsOk n ps/\(ps.length:Int)<=32 * (c+j)/\∀ p∈ps,p.1 < c+(j:Int)/\p.2 < c+x) ⟨_,_,ps,rfl,o,by simpa using r,fun p l=>by have:=m p l;have:=o.inn p l;lia⟩ ?_ ?_
  ·clear o r m ps
   rintro j e hj g
   refine exS3 e g fun G C ps d=>?_
   have o:=d.1
   have r:=d.2.1
   have m:=d.2.2
   clear d g
   have c7:c+(j:Int) < c+x:=by lia
   obtain ⟨xa,ea,b0,b4,a2⟩:=J (c+(j:Int)) (by lia) (by lia)
   row_cond go
   unfold rngD
   refine ae6 (fun u:Nat=>prD (xa,abb row (c+(j:Int)+1+(u:Int)))) rfl (by simp;lia) (fun u R B' hB=>?_) ?_
   ·have X:=aB8.mp R
    have hb:=O.at (a:=c+(j:Int)+1+(u:Int)) (by lia) (by lia)
    have eb:atI (row.map PyData.int) (c+(j:Int)+1+(u:Int))=some (.int (abb row (c+(j:Int)+1+(u:Int)))):=adk (by lia) (by rw [aA5,hb.1];rfl)
    row_cond go
    rfl
   ·refine ⟨_,_,rfl,rfl,by simp;lia,?_⟩
    dsimp only [List.set_cons_zero,List.set_cons_succ]
    subst a2
    refine ⟨_,_,ps ++ (List.range (c+x - (c+(j:Int)+1)).toNat).map fun u:Nat=>(c+(j:Int),c+(j:Int)+1+(u:Int)),by simp only [aD9,aD8];rfl,atz o ⟨?_,fun p l=>?_⟩ fun p l q W e=>?_,by simp;lia,fun p l=>?_⟩
    ·exact aF3.mpr (List.nodup_range.imp fun {a b} h e=>h (by have:=congrArg Prod.snd e;simp only at this;lia))
    ·obtain ⟨u,R,rfl⟩:=aB6.mp l
     have X:=aB8.mp R
     exact ⟨by simp only;lia,by simp only;lia,by simp only;lia⟩
    ·obtain ⟨u,R,rfl⟩:=aB6.mp W
     have:=m p l
     rw [e] at this
     simp only at this
     lia
    ·rcases aA7.mp l with z | z
     ·have:=m p z
      lia
     ·obtain ⟨u,R,rfl⟩:=aB6.mp z
      have X:=aB8.mp R
      exact ⟨by simp only;lia,by simp only;lia⟩
  ·clear o r m ps
   rintro e g
   refine exS3 e g fun G C ps d=>?_
   have o:=d.1
   have r:=d.2.1
   have m:=d.2.2
   clear d g
   row_cond go
   exact ⟨_,_,_,ps,rfl,o,by lia,fun p l=>(m p l).2⟩
 ·rintro e g
  refine exS4 e g fun M G C ps d=>?_
  have o:=d.1
  have r:=d.2.1
  have m:=d.2.2
  clear d g
  rw [aG0] at r m ⊢
  row_cond go
  refine ab5 (fun j e=>∃ M G C ps,e=[some (.io ODk),some (.st (.list (sz.map .int))),some (.st (.int n)),some (.st (.list (row.map .int))),some (.own (OL ((ps.map (ixR row)).map prD))),some (.st (.int sz.sum)),M,G,C]/\PsOk n ps/\(ps.length:Int)<=1024+j/\∀ p∈ps,p.2 < sz.sum+(j:Int)) ⟨_,_,_,ps,rfl,o,by lia,fun p l=>by have:=m p l;lia⟩ ?_ ?_
  ·clear o r m ps
   rintro j e hj g
   refine exS4 e g fun M G C ps d=>?_
   have o:=d.1
   have r:=d.2.1
   have m:=d.2.2
   clear d g
   obtain ⟨xb,eb,b3,c8,a3⟩:=J (sz.sum+(j:Int)) (by lia) (by lia)
   row_cond go
   refine ⟨5,rfl,rfl,by lia,by lia,fun q qa qb=>?_⟩
   row_cond go
   refine ac6 (fun W=>?_) (fun W=>?_)
   ·row_cond go
    refine ⟨sz.sum+(j:Int),rfl,rfl,by lia,by lia,fun y ya yb=>?_⟩
    obtain ⟨xy,ey,c1,c5,a6⟩:=J y ya (by lia)
    row_cond go
    subst a6 a3
    refine ⟨_,_,_,ps ++ [(y,sz.sum+(j:Int))],by rw [aD9,aD9];rfl,atz o ⟨by simp,fun p l=>by cases aC1.mp l;exact ⟨by simp only;lia,by simp only;lia,by simp only;lia⟩⟩ fun p l q W e=>?_,by simp;lia,fun p l=>?_⟩
    ·cases aC1.mp W
     have:=m p l
     rw [e] at this
     simp only at this
     lia
    ·rcases aA7.mp l with z | z
     ·have:=m p z
      push_cast
      lia
     ·cases aC1.mp z
      simp only
      push_cast
      lia
   ·row_cond go
    exact ⟨_,_,_,ps,rfl,o,by push_cast;lia,fun p l=>by have:=m p l;push_cast;lia⟩
  ·clear o r m ps
   rintro e g
   refine exS4 e g fun M G C ps d=>?_
   have o:=d.1
   have r:=d.2.1
   have m:=d.2.2
   clear d g
   row_cond go
   refine afg (ps:=ps.map (reP row)) ?_
   row_cond go
   refine ae6 (xs:=ps.map (ixR row)) (fun p:Int × Int=>prD (mmP p)) rfl (by rw [aA3];lia) (fun p l B' hB=>?_) ?_
   ·row_cond go
    refine avg (ns:=[p.1,p.2]) rfl (by simp) fun m1 a0=>?_
    row_cond go
    refine avf (ns:=[p.1,p.2]) rfl (by simp) fun m2 a4=>?_
    row_cond go
    exact ⟨by rw [a1c a0 a4],rfl⟩
   ·row_cond go
    refine ⟨by rw [← a2k O o];simp only [aD8];rfl,fun qs l hs=>adj ?_⟩
    row_cond go
    have hR:=o.re O
    exact k n qs (by lia) a7 ⟨l.nodup_iff.mpr hR.nd,fun p a5=>hR.inn p (l.mem_iff.mp a5)⟩ (by rw [l.length_eq,aA3];lia) (afz l hR.nd hs)
end
section
variable {P:Program} {w:World} {K:Frag} {mg:Str->Option Value} {base:Heap}
theorem sc_law_web:FnScope ["deck","n","row","kind","ties","k","heads","head","a","b"] ["deck"] (aai s_law_web):=by row_cond sc
theorem afq (T:Txt K mg):Can P w K mg base "_law_web" 4 ["deck"] (spI K (aty)):=by
 obtain ⟨f,fd,D⟩:=T.d_law_web
 obtain ⟨S,z⟩:=T.o_Grower
 have y:=z.mgx
 have Z:=T.n_Grower_held _ y
 refine D.can (D.fn.ok sc_law_web (fun vs H Q E h=>lenI h fun A ss Q' q=>by obtain ⟨rfl,rfl,k⟩:=q;rfl) (fun cdv A outer s H vs Q E c h=>?_))
 have nd:=sc_law_web.nd
 refine ⟨_,(aac (aa4 (aat ad1 (aaf (aaj T) c (aaa (pv 0) (aaa aad aab))) aad (aau _))
   (aag (aao (aaf (aks T) c (aaa (pv 0) aab))))
   aaw)
  (aac (aak (i:=1) nd rfl (Or.inl rfl) (aav abc aad (aaf (aaj T) c (aaa (pv 0) (aaa (aap aaq (aa2 (aaa aad (aaa aad (aaa aad (aaa aad aab))))) (aaf (aaj T) c (aaa (pv 0) (aaa aad aab))) (fun _ _=>rfl)) aab)))))
  (aac (aak (i:=2) nd rfl (Or.inl rfl) (aap aaq (aa2 (aaa (ann rfl T.b_list rfl T.b_range rfl (aaa (pv 1) aab)) (aaa (aaf (agv T) c (aaa (pv 0) (aaa (pv 1) aab))) aab))) (aaf (aaj T) c (aaa (pv 0) (aaa aad aab))) (fun _ _=>rfl)))
  (aac (aak (i:=3) nd rfl (Or.inl rfl) (aaf (aaj T) c (aaa (pv 0) (aaa aad aab))))
  (aac (aak (i:=4) nd rfl (Or.inl rfl) amo)
  (aac (abp aI6 rfl (ad7 rfl T.b_range (aaa aad (aaa (pv 1) aab))) (aam (i:=5) nd rfl (Or.inl rfl))
   (aac (aak (i:=6) nd rfl (Or.inl rfl) (aa2 (aaa (aav aeu (pv 5) aad) (aaa (aaf (aaj T) c (aaa (pv 0) (aaa (pv 5) aab))) (aaa (aal (acs rfl) (by rfl) T.b_max ac7 (aaa aad (aaa (aav aeu (aav aeu (pv 5) aad) (aaf (aaj T) c (aaa (pv 0) (aaa aad aab)))) aab))) (aaa aad (aaa (aav aj0 (pv 5) aad) aab)))))))
    (aac (aak (i:=7) nd rfl (Or.inl rfl) (aap aaq (aav ai1 (pv 6) (aa2 (aaa (aaf (aaj T) c (aaa (pv 0) (aaa (aal (act rfl) (by rfl) T.b_min ad8 (aaa (pv 5) (aaa aad aab))) aab))) aab))) (pv 3) (fun _ _=>rfl)))
    (aag (aft (adr c) (pv 4) (aa3 (aaa (aal (act rfl) (by rfl) T.b_min ad8 (aaa (aap aaq (pv 2) (pv 5) (fun _ _=>rfl)) (aaa (aap aaq (pv 2) (pv 7) (fun _ _=>rfl)) aab))) (aaa (aal (acs rfl) (by rfl) T.b_max ac7 (aaa (aap aaq (pv 2) (pv 5) (fun _ _=>rfl)) (aaa (aap aaq (pv 2) (pv 7) (fun _ _=>rfl)) aab))) aab))) ab9 rfl)))))
  (aac (aa4 (PW.pt (ad6 (aat ad1 (aaf (aaj T) c (aaa (pv 0) (aaa aad aab))) aad (aau _)) (adn (aat aiw (pv 1) aad (aau _)))))
   (aag (aft (adr c) (pv 4) (aa3 (aaa (aal (act rfl) (by rfl) T.b_min ad8 (aaa (aap aaq (pv 2) aad (fun _ _=>rfl)) (aaa (aap aaq (pv 2) (awd aru aad) (fun _ _=>rfl)) aab))) (aaa (aal (acs rfl) (by rfl) T.b_max ac7 (aaa (aap aaq (pv 2) aad (fun _ _=>rfl)) (aaa (aap aaq (pv 2) (awd aru aad) (fun _ _=>rfl)) aab))) aab))) ab9 rfl))
   aaw)
  (aac (abp aI6 rfl (abg rfl T.b_range (aaa (aap aaq (aa2 (aaa aad (aaa (aaf (aaj T) c (aaa (pv 0) (aaa aad aab))) (aaa (aaf (aaj T) c (aaa (pv 0) (aaa (aav abc (pv 1) aad) aab))) (aaa (aaf (aaj T) c (aaa (pv 0) (aaa (aav agz aad (pv 1)) aab))) aab))))) (aaf (aaj T) c (aaa (pv 0) (aaa aad aab))) (fun _ _=>rfl)) aab)) (aam (i:=5) nd rfl (Or.inl rfl))
   (aac (aak (i:=8) nd rfl (Or.inl rfl) (aaf (aaj T) c (aaa (pv 0) (aaa (pv 1) aab))))
    (aac (aak (i:=9) nd rfl (Or.inl rfl) (aaf (aaj T) c (aaa (pv 0) (aaa (pv 1) aab))))
    (aag (aa4 (aat alz (pv 8) (pv 9) (aau _))
     (aag (aft (adr c) (pv 4) (aa3 (aaa (aal (act rfl) (by rfl) T.b_min ad8 (aaa (pv 8) (aaa (pv 9) aab))) (aaa (aal (acs rfl) (by rfl) T.b_max ac7 (aaa (pv 8) (aaa (pv 9) aab))) aab))) ab9 rfl))
     aaw)))))
  (aac (abp aI6 rfl (abg rfl T.b_range (aaa (aap aaq (aa2 (aaa aad (aaa aad (aaa (aaf (aaj T) c (aaa (pv 0) (aaa aad aab))) (aaa (aaf (aaj T) c (aaa (pv 0) (aaa (aav abc (pv 1) aad) aab))) aab))))) (aaf (aaj T) c (aaa (pv 0) (aaa aad aab))) (fun _ _=>rfl)) aab)) (aam (i:=5) nd rfl (Or.inl rfl))
   (aag (aa4 (aat (a0y c.units) (pv 4) amo (aau _))
     (aag (abj (avt (adr c) (pv 4) (aap aaq (aal (afo rfl) (by rfl) T.b_sorted ac8 (aaa (pv 4) aab)) (aaf (aaj T) c (aaa (pv 0) (aaa (aal atf (by rfl) T.b_len abz (aaa (pv 4) aab)) aab))) (fun _ _=>rfl)) ⟨rfl,rfl,rfl,rfl⟩)))
     aaw)))
  (aag (aao (aa3 (aaa (pv 1) (aaa (aal (afo rfl) (by rfl) T.b_sorted ac8 (aaa (pv 4) aab)) aab)))))))))))))),?_⟩
 refine ac5 h fun A0 ss Q' q B hK=>?_
 obtain ⟨rfl,rfl,k⟩:=q
 show EvS B _ _ [some (.io ODk),none,none,none,none,none,none,none,none,none]
 row_cond go
 refine ⟨8,rfl,rfl,by lia,by lia,fun r0 e6 f7=>?_⟩
 row_cond go
 refine ac6 (fun W=>?_) (fun W=>?_)
 ·row_cond go
  exact ⟨rfl,rfl,fun n es X n1 d C c=>⟨ODk,rfl,k n es X n1 d C c⟩⟩
 ·row_cond go
  refine ⟨4,rfl,rfl,by lia,by lia,fun M f2 e8=>?_⟩
  obtain ⟨R,c0,e1,c3⟩:∃ R:Int,atI [PyData.int 4,PyData.int 12,PyData.int 12,PyData.int 60] M=some (.int R)/\4<=R/\R<=60:=by
   rcases (show M=0\/M=1\/M=2\/M=3 by lia) with rfl | rfl | rfl | rfl
   ·exact ⟨4,rfl,by lia,by lia⟩
   ·exact ⟨12,rfl,by lia,by lia⟩
   ·exact ⟨12,rfl,by lia,by lia⟩
   ·exact ⟨60,rfl,by lia,by lia⟩
  row_cond go
  refine ⟨R,rfl,rfl,by lia,by lia,fun r2 d4 e5=>?_⟩
  row_cond go
  obtain ⟨n,hn,X,n1⟩:∃ n,1+r2=n/\1<=n/\n<=60:=⟨_,rfl,by lia,by lia⟩
  rw [hn]
  row_cond go
  refine ⟨n,rfl,rfl,by lia,by lia,fun I a9=>adj ?_⟩
  row_cond go
  refine ⟨2,rfl,rfl,by lia,by lia,fun r3 e7 g8=>?_⟩
  obtain ⟨row,b9,L⟩:∃ row:List Int,atI [PyData.list (rngD 0 n.toNat),PyData.list (I.map .int)] r3=some (.list (row.map .int))/\Order n row:=by
   rcases (show r3=0\/r3=1 by lia) with rfl | rfl
   ·exact ⟨(List.range n.toNat).map fun (i:Nat)=>(i:Int),by show some _=some _;rw [aym],Order.id n⟩
   ·exact ⟨I,rfl,a9⟩
  have F:∀ j:Int,0<=j->j < n->∃ x,atI (row.map PyData.int) j=some (.int x)/\0<=x/\x < n/\x=abb row j:=fun j U j1=>⟨abb row j,adk U (by rw [aA5,(L.at U j1).1];rfl),(L.at U j1).2.1,(L.at U j1).2.2,rfl⟩
  row_cond go
  refine ⟨6,rfl,rfl,by lia,by lia,fun kind ka kb=>?_⟩
  row_cond go
  rw [a0v]
  refine ab5 (fun i e=>∃ l g v u o ps,e=[some (.io ODk),some (.st (.int n)),some (.st (.list (row.map .int))),some (.st (.int kind)),some (.own (OT (kE ps))),l,g,v,u,o]/\PsOk n ps/\ps.length<=i) ⟨_,_,_,_,_,[],rfl,PsOk.nil n,aA6 _⟩ ?_ ?_
  ·rintro i e hi b
   refine exS6 e b fun l g v u o ps a=>?_
   have d:=a.1
   have C:=a.2
   clear a b
   have b5:1+(i:Int) < n:=by lia
   obtain ⟨xk,ek,d0,d8,a5⟩:=F (1+(i:Int)) (by lia) b5
   have J:(kE ps).length<=999999:=by rw [aec];lia
   row_cond go
   refine ⟨1+(i:Int),rfl,rfl,by lia,by lia,fun d1 f9 f3=>?_⟩
   row_cond go
   refine ⟨3,rfl,rfl,by lia,by lia,fun d2 g0 g7=>?_⟩
   iterate 16 row_cond st
   refine acz adg ?_
   row_cond go
   refine ⟨_,rfl,rfl,by split <;> lia,by split <;> lia,fun d3 f5 b7=>?_⟩
   have c7:d3 < 1+(i:Int):=by split at b7 <;> lia
   obtain ⟨hd,g3,b4,h1⟩:∃ hd:Int,atI ([PyData.int (1+(i:Int) - 1),PyData.int d1,PyData.int (if 1+(i:Int) - 1 - d2 > 0 then 1+(i:Int) - 1 - d2 else 0),PyData.int 0,PyData.int ((1+(i:Int)) / 2)] ++ [PyData.int d3]) kind=some (.int hd)/\0<=hd/\hd < 1+(i:Int):=by
    rcases (show kind=0\/kind=1\/kind=2\/kind=3\/kind=4\/kind=5 by lia) with rfl | rfl | rfl | rfl | rfl | rfl
    ·exact ⟨_,rfl,by lia,by lia⟩
    ·exact ⟨_,rfl,by lia,by lia⟩
    ·exact ⟨_,rfl,by split <;> lia,by split <;> lia⟩
    ·exact ⟨_,rfl,by lia,by lia⟩
    ·exact ⟨_,rfl,by lia,by lia⟩
    ·exact ⟨_,rfl,by lia,by lia⟩
   obtain ⟨xh,eh,e4,g4,Y⟩:=F hd b4 (by lia)
   have a0:xk ≠ xh:=by rw [a5,Y];exact L.ne (by lia) (by lia) (by lia) (by lia) (by lia)
   row_cond go
   rw [ahd]
   exact ⟨_,_,_,_,_,_,rfl,d.add (by split <;> lia) (by split <;> split <;> lia) (by split <;> lia),aC9 ae3 (by lia)⟩
  ·rintro e b
   refine exS6 e b fun l g v u o ps a=>?_
   have d:=a.1
   have C:=a.2
   clear a b
   have J:(kE ps).length<=999999:=by rw [aec];lia
   obtain ⟨x0,e0,f0,c9,a6⟩:=F 0 (by lia) (by lia)
   obtain ⟨xl,el,h0,f6,a7⟩:∃ x,atI (row.map PyData.int) (-1)=some (.int x)/\0<=x/\x < n/\x=abb row (n - 1):=by
    obtain ⟨x,ex,x0,x1,a8⟩:=F (n - 1) (by lia) (by lia)
    refine ⟨x,?_,x0,x1,a8⟩
    have hl:(row.map PyData.int).length=n.toNat:=by rw [aA3];exact L.len
    have h2:ixN n.toNat (-1)=some (n.toNat - 1):=by unfold ixN;rw [aE8 (by lia),aE7 (by lia)];congr 1;lia
    have h3:ixN n.toNat (n - 1)=some (n.toNat - 1):=by unfold ixN;rw [aE7 (by lia),aE7 (by lia)];congr 1;lia
    unfold atI at ex ⊢
    rw [hl,h3] at ex
    rw [hl,h2]
    exact ex
   refine' akl (by assumption) ?_
   refine ang (fun c_ e2=>?_)
   refine avr (fun e=>∃ ps,e=[some (.io ODk),some (.st (.int n)),some (.st (.list (row.map .int))),some (.st (.int kind)),some (.own (OT (kE ps))),l,g,v,u,o]/\PsOk n ps/\ps.length<=61) ?_ ?_
   ·row_cond go
    refine ⟨4,rfl,rfl,by lia,by lia,fun q qa qb=>?_⟩
    row_cond go
    refine ac6 (fun h=>?_) (fun h=>?_)
    ·row_cond go
     refine ac6 (fun h=>?_) (fun h=>?_)
     ·row_cond go
      rw [ahd]
      have a0:x0 ≠ xl:=by rw [a6,a7];exact L.ne (by lia) (by lia) (by lia) (by lia) (by lia)
      exact ⟨_,rfl,d.add (by split <;> lia) (by split <;> split <;> lia) (by split <;> lia),aC9 ae3 (by lia)⟩
     ·row_cond go
      exact ⟨ps,rfl,d,by lia⟩
    ·row_cond go
     exact ⟨ps,rfl,d,by lia⟩
   ·clear d C J ps
    rintro e b
    refine exS1 e b fun ps a=>?_
    have d:=a.1
    have C:=a.2
    clear a b
    row_cond go
    refine ⟨4,rfl,rfl,by lia,by lia,fun a1 d9 g6=>?_⟩
    row_cond go
    refine ⟨n+1,rfl,rfl,by lia,by lia,fun a2 c8 c5=>?_⟩
    row_cond go
    refine ⟨4 * n,rfl,rfl,by lia,by lia,fun a3 c1 e9=>?_⟩
    row_cond go
    refine ⟨4,rfl,rfl,by lia,by lia,fun N d5 c2=>?_⟩
    obtain ⟨m,em,m0,m1⟩:∃ m:Int,atI [PyData.int 0,PyData.int a1,PyData.int a2,PyData.int a3] N=some (.int m)/\0<=m/\m<=240:=by
     rcases (show N=0\/N=1\/N=2\/N=3 by lia) with rfl | rfl | rfl | rfl <;> exact ⟨_,rfl,by lia,by lia⟩
    row_cond go
    refine ab5 (fun i e=>∃ l g v u o ps,e=[some (.io ODk),some (.st (.int n)),some (.st (.list (row.map .int))),some (.st (.int kind)),some (.own (OT (kE ps))),l,g,v,u,o]/\PsOk n ps/\ps.length<=61+i) ⟨_,_,_,_,_,ps,rfl,d,C⟩ ?_ ?_
    ·rintro i e hi b
     refine exS6 e b fun l g v u o ps a=>?_
     have d:=a.1
     have C:=a.2
     clear a b
     have J:(kE ps).length<=999999:=by rw [aec];lia
     row_cond go
     refine ⟨n,rfl,rfl,by lia,by lia,fun ba e3 f8=>?_⟩
     row_cond go
     refine ⟨n,rfl,rfl,by lia,by lia,fun bb f1 g5=>?_⟩
     row_cond go
     refine axg (fun h=>?_) (fun h=>?_)
     ·row_cond go
      rw [ahd]
      exact ⟨_,_,_,_,_,_,rfl,d.add (by split <;> lia) (by split <;> split <;> lia) (by split <;> lia),aC9 ae3 (by lia)⟩
     ·row_cond go
      exact ⟨_,_,_,_,_,ps,rfl,d,by lia⟩
    ·rintro e b
     refine exS6 e b fun l g v u o ps a=>?_
     have d:=a.1
     have C:=a.2
     clear a b
     row_cond go
     refine ⟨6,rfl,rfl,by lia,by lia,fun b1 g1 c6=>?_⟩
     row_cond go
     refine ⟨n+1,rfl,rfl,by lia,by lia,fun b2 d7 c4=>?_⟩
     row_cond go
     refine ⟨4,rfl,rfl,by lia,by lia,fun O d6 g9=>?_⟩
     obtain ⟨m',h4,f4,g2⟩:∃ m:Int,atI [PyData.int 0,PyData.int 1,PyData.int b1,PyData.int b2] O=some (.int m)/\0<=m/\m<=61:=by
      rcases (show O=0\/O=1\/O=2\/O=3 by lia) with rfl | rfl | rfl | rfl <;> exact ⟨_,rfl,by lia,by lia⟩
     row_cond go
     have b6:ps.length<=301:=by lia
     refine ab5 (fun i e=>∃ l g v u o ps,e=[some (.io ODk),some (.st (.int n)),some (.st (.list (row.map .int))),some (.st (.int kind)),some (.own (OT (kE ps))),l,g,v,u,o]/\PsOk n ps/\ps.length<=301) ⟨_,_,_,_,_,ps,rfl,d,b6⟩ ?_ ?_
     ·rintro i e hi b
      refine exS6 e b fun l g v u o ps a=>?_
      have d:=a.1
      have C:=a.2
      clear a b
      iterate 3 row_cond st
      refine a0z (.inl rfl) ?_
      row_cond go
      cases hps:ps with
      | nil =>
       refine adb ?_
       row_cond go
       exact ⟨_,_,_,_,_,[],rfl,PsOk.nil n,by simp⟩
      | cons p0 pr =>
       have b8:0 < ps.length:=by rw [hps];simp
       rw [← hps]
       rw [aE7 (show (!(kE ps).isEmpty)=true by rw [hps];rfl)]
       refine anf (aa7 ?_)
       refine avu (.inl rfl) ?_
       refine awk ?_
       refine abo (agf (.inl rfl) fun qs G hs=>adj ?_)
       refine alb rfl ?_
       refine ane (ayo (.inl rfl) ?_)
       row_cond go
       rw [aec]
       refine ⟨_,rfl,rfl,by lia,by lia,fun r ra rb=>?_⟩
       obtain ⟨q,hq⟩:∃ q,qs[r.toNat]?=some q:=⟨_,aA0 (show r.toNat < qs.length by rw [G.length_eq];lia)⟩
       have eq:atI (qs.map prD) r=some (prD q):=adk ra (by rw [aA5,hq];rfl)
       obtain ⟨j,hj⟩:=List.getElem?_of_mem (G.mem_iff.mp (aA2 hq))
       row_cond go
       refine ⟨kE ps,[Sum.inl q.1,Sum.inl q.2],j,.bool true,rfl,rfl,by unfold kE;rw [aA5,hj];rfl,?_⟩
       dsimp only [List.set_cons_zero,List.set_cons_succ]
       row_cond go
       exact ⟨_,_,_,_,_,ps.eraseIdx j,by rw [show (kE ps).eraseIdx j=kE (ps.eraseIdx j) from afk _ _ _],⟨d.nd.sublist (List.eraseIdx_sublist ps j),fun p G=>d.inn p ((List.eraseIdx_sublist ps j).mem G)⟩,aC9 (List.length_eraseIdx_le ps j) C⟩
     ·rintro e b
      refine exS6 e b fun l g v u o ps a=>?_
      have d:=a.1
      have C:=a.2
      clear a b
      iterate 6 row_cond st
      refine abo (agf (.inl rfl) fun qs G hs=>adj ?_)
      row_cond go
      exact k n qs X n1 ⟨G.nodup_iff.mpr d.nd,fun p b0=>d.inn p (G.mem_iff.mp b0)⟩ (by rw [G.length_eq];lia) (afz G d.nd hs)
end
structure FarD (n:Int) (f:Int->Option Nat) (es:List (Key × PyData)):Prop where
 mem:∀ k d,(k,d)∈es->∃ (v:Int) (j:Nat),k=.inl v/\d=.int (j:Int)/\0<=v/\v < n/\f v=some j
 all:∀ (v:Int) (j:Nat),f v=some j->((.inl v:Key),PyData.int (j:Int))∈es
 nd:(es.map (·.1)).Nodup
 len:es.length+cnt f n.toNat=n.toNat
theorem FarD.val {n:Int} {f:Int->Option Nat} {es:List (Key × PyData)} (h:FarD n f es) (v:Int):valD es (.inl v)=(f v).map fun j => .int (j:Int):=by
 unfold valD
 cases e:es.find? fun e=>decide (e.1=(.inl v:Key)) with
 | none =>
  rw [List.find?_eq_none] at e
  cases hf:f v with
  | none=>rfl
  | some j=>exact absurd (aD6 rfl) (e _ (h.all v j hf))
 | some p =>
  obtain ⟨k,d⟩:=p
  have b:k=.inl v:=by simpa using List.find?_some e
  obtain ⟨u,j,a,c,_,_,g⟩:=h.mem k d (List.mem_of_find?_eq_some e)
  rw [b] at a
  cases a
  rw [g,c]
  rfl
theorem av4 (n:Nat):cnt (fun _=>none) n=n:=by
 induction n with
 | zero=>rfl
 | succ n ih=>unfold cnt;rw [ih,aE7 rfl]
theorem FarD.start {n a:Int} (a0:0<=a) (a1:a < n):FarD n (Gr.label (fun _=>none) a 0) [(.inl a,.int 0)]:=by
 refine ⟨fun k d hm=>?_,fun v j b=>?_,by simp,?_⟩
 ·have:(k,d)=((.inl a:Key),PyData.int 0):=by simpa using hm
  cases this
  exact ⟨a,0,rfl,rfl,a0,a1,Gr.label_same⟩
 ·by_cases e:v=a
  ·subst e
   rw [Gr.label_same] at b
   cases b
   exact aC1.mpr rfl
  ·rw [Gr.label_ne e] at b
   cases b
 ·have c:=aeb (far:=fun _=>none) (d:=0) a0 rfl (n:=n.toNat) (by lia)
  have f:=av4 n.toNat
  simp only [aE0,aH9]
  lia
theorem FarD.put {n v:Int} {f:Int->Option Nat} {es:List (Key × PyData)} {j:Nat} (h:FarD n f es) (v0:0<=v) (B:v < n) (r:f v=none):FarD n (Gr.label f v j) (putD es (.inl v) (.int (j:Int))):=by
 have a:∀ p∈es,p.1 ≠ (.inl v:Key):=fun p c e=>by
  obtain ⟨u,i,b,_,_,_,m⟩:=h.mem p.1 p.2 c
  rw [e] at b
  cases b
  rw [r] at m
  cases m
 have g:putD es (.inl v) (.int (j:Int))=es ++ [(.inl v,.int (j:Int))]:=by
  unfold putD
  rw [aE8]
  rw [List.any_eq_true]
  rintro ⟨p,c,e⟩
  exact a p c (by simpa using e)
 rw [g]
 refine ⟨fun k d hm=>?_,fun u i l=>?_,?_,?_⟩
 ·rcases aA7.mp hm with hm | hm
  ·obtain ⟨u,i,b,q,m,s,w⟩:=h.mem k d hm
   have o:u ≠ v:=fun e=>a (k,d) hm (by rw [← e];exact b)
   exact ⟨u,i,b,q,m,s,by rw [Gr.label_ne o];exact w⟩
  ·have:(k,d)=((.inl v:Key),PyData.int (j:Int)):=by simpa using hm
   cases this
   exact ⟨v,j,rfl,rfl,v0,B,Gr.label_same⟩
 ·by_cases e:u=v
  ·subst e
   rw [Gr.label_same] at l
   cases l
   exact aB2 _ (aC1.mpr rfl)
  ·rw [Gr.label_ne e] at l
   exact aC6 _ (h.all u i l)
 ·rw [aD9,aE2]
  refine ⟨h.nd,by simp,fun x z y A=>?_⟩
  obtain ⟨p,c,rfl⟩:=aB6.mp z
  have:y=.inl v:=by simpa using A
  rw [this]
  exact a p c
 ·have b:=aeb (d:=j) v0 r (n:=n.toNat) (by lia)
  have q:=h.len
  rw [aB0]
  simp only [aE0,aH9]
  lia
theorem FarD.ne {n:Int} {f:Int->Option Nat} {es:List (Key × PyData)} (h:FarD n f es) {v:Int} {j:Nat} (a:f v=some j):es ≠ []:=fun e=>by
 have:=h.all v j a
 rw [e] at this
 cases this
theorem FarD.congr {n:Int} {f g:Int->Option Nat} {es:List (Key × PyData)} (h:FarD n f es) (e:∀ v,f v=g v):FarD n g es:=by
 have:f=g:=funext e
 rw [← this]
 exact h
theorem awq:∀ (ns:List Int),aas (.list (ns.map .int))=true
 | []=>rfl
 | a :: ns=>by have:=awq ns;simp only [aas,aD0,plainDs] at *;simp [this]
theorem a1d (ns:List Int):(PyData.list (ns.map .int)).depth<=60:=by
 have:PyData.depthAll (ns.map .int)<=1:=ad4 fun d hd=>by
  obtain ⟨_,_,rfl⟩:=aB6.mp hd
  simp [PyData.depth]
 simp only [PyData.depth]
 lia
theorem ayz (ns:List Int):PyData.eqv (.list (ns.map .int)) (.list [])=ns.isEmpty:=by cases ns <;> rfl
structure FarsD (n:Int) (es:List (Int × Int)) (ess:List (List (Key × PyData))):Prop where
 len:(ess.length:Int)=n
 row:∀ (v:Int) fs,0<=v->ess[v.toNat]?=some fs->FarD n (Gr.farO (Tied es) v) fs
def ay0:VP:=fun ss Q=>∃ (n:Int) (es:List (Int × Int)),ss=[.st (webD n es)]/\0<=n/\n<=100/\InN n es/\es.length<=10000/\∀ tl,TiedL n (Tied es) tl->Q (.own (ODL (tlD tl)))
def ay1:VP:=fun ss Q=>∃ (n:Int) (es:List (Int × Int)),ss=[.st (webD n es)]/\1<=n/\n<=100/\InN n es/\es.length<=10000/\∀ ess,FarsD n es ess->Q (.own (OL (ess.map ace)))
section
variable {P:Program} {w:World} {K:Frag} {mg:Str->Option Value} {base:Heap}
theorem sc_law_tied:FnScope ["web","found","a","b"] ["web"] (aai s_law_tied):=by row_cond sc
theorem aoc (T:Txt K mg):Can P w K mg base "_law_tied" 1 ["web"] (spP K (ay0)):=by
 obtain ⟨f,fd,D⟩:=T.d_law_tied
 obtain ⟨x,l⟩:=T.o_Grower
 have p:=l.mgx
 have J:=T.n_Grower_held _ p
 refine D.can (D.fn.ok sc_law_tied (fun vs H Q E h=>lenP h fun ss Q' q=>by obtain ⟨n,es,rfl,S,W,r,L,k⟩:=q;rfl) (fun cdv A outer s H vs Q E O h=>?_))
 have nd:=sc_law_tied.nd
 refine ⟨_,(aac (aak (i:=1) nd rfl (Or.inl rfl) (adp (aq9 rfl) (by rfl) T.b_dict ao7 (aaa (ad2 rfl (N:=["place"]) (src:=[none]) (by exact ab7 rfl rfl rfl rfl rfl rfl) (abg rfl T.b_range (aaa (aap aaq (pv 0) aad (fun _ _=>rfl)) aab)) (fun _ _ _ _=>(aam (i:=0) (show List.Nodup (["place"]:List Str) by decide +kernel) rfl (Or.inl rfl) (hf:=Or.inr rfl))) (fun _ _ _ _=>acp) (fun _ _ _ _=>(aa3 (aaa (pv 0) (aaa (aa2 aab) aab))))) aab)))
  (aac (abp aI6 rfl (ab6 (aap aaq (pv 0) aad (fun _ _=>rfl))) (aco rfl (aax (aam (i:=2) nd rfl (Or.inl rfl)) (aax (aam (i:=3) nd rfl (Or.inl rfl)) ab4)))
   (aac (abj (ac1 PySem.F.plainAttrs_list PySem.F.slot_list_append PySem.F.type_list_append ab2 (aj4 (adr O) (pv 1) (pv 2) (fun _ _=>rfl)) (aaa (pv 3) aab)))
    (aag (abj (ac1 PySem.F.plainAttrs_list PySem.F.slot_list_append PySem.F.type_list_append ab2 (aj4 (adr O) (pv 1) (pv 3) (fun _ _=>rfl)) (aaa (pv 2) aab))))))
  (aag (aao (pv 1))))),?_⟩
 refine abr h fun ss Q' q B X=>?_
 refine exS2 ss q fun n es c=>?_
 have S:=c.1
 have W:=c.2.1
 have r:=c.2.2.1
 have L:=c.2.2.2.1
 have k:=c.2.2.2.2
 clear c q
 show EvS B _ _ [some (.st (webD n es)),none,none,none]
 row_cond go
 refine atm ?_
 row_cond go
 refine ⟨n.toNat,rfl,by lia,?_⟩
 row_cond go
 refine adm (fun i e=>∃ G z tl,e=[some (.st (webD n es)),some (.own (ODL (tlD tl))),G,z]/\TiedL n (Tied (es.take i)) tl/\∀ d∈tl,d.length<=2 * i)
  ⟨none,none,List.replicate n.toNat [],by simp [tlD],⟨by simp;lia,fun i d hi w=>?_⟩,fun d U=>?_⟩ ?_ ?_
 ·rw [aG9] at hi
  split at hi
  ·cases hi;simp [Tied]
  ·cases hi
 ·have:=List.eq_of_mem_replicate U
  subst this;simp
 ·rintro i ⟨a,b⟩ e M o
  refine exS3 e o fun G z tl c=>?_
  have y:=c.1
  have m:=c.2
  clear c o
  have hi:i < es.length:=(aA1.mp M).1
  obtain ⟨a0,a1,b0,b1⟩:=r _ (aA2 M)
  dsimp only at a0 a1 b0 b1
  row_cond go
  obtain ⟨d,j,_⟩:=y.get a0 a1
  have R:=m d (aA2 j)
  refine ajv (n:=a.toNat) (ds:=d.map .int) rfl rfl rfl (by lia) (aep j) (by rw [aA3];lia) ?_
  dsimp only [List.set_cons_zero,List.set_cons_succ]
  have I:=y.put (q:=b) a0 a1 j
  rw [show d.map PyData.int ++ [.int b]=(d ++ [b]).map .int by simp,ah0]
  have g:∀ us∈tl.set a.toNat (d ++ [b]),us.length<=2 * i+1:=fun us C=>by
   rcases List.mem_or_eq_of_mem_set C with h | h
   ·have:=m us h;lia
   ·subst h;simp;lia
  generalize tl.set a.toNat (d ++ [b])=tl2 at I g
  row_cond go
  obtain ⟨d,j,_⟩:=I.get b0 b1
  have R:=g d (aA2 j)
  refine ajv (n:=b.toNat) (ds:=d.map .int) rfl rfl rfl (by lia) (aep j) (by rw [aA3];lia) ?_
  dsimp only [List.set_cons_zero,List.set_cons_succ]
  rw [show d.map PyData.int ++ [.int a]=(d ++ [a]).map .int by simp,ah0]
  refine ⟨_,_,_,rfl,(I.put (q:=a) b0 b1 j).iff fun u v=>(Tied.snoc M u v).symm,fun us C=>?_⟩
  rcases List.mem_or_eq_of_mem_set C with h | h
  ·have:=g us h;lia
  ·subst h;simp;lia
 ·rintro e o
  refine exS3 e o fun G z tl c=>?_
  have y:=c.1
  have m:=c.2
  clear c o
  rw [aG0] at y
  row_cond go
  exact k tl y
theorem sc_law_fars:FnScope ["web","tied","table","place","found","ring","far","later","one","other"] ["web"] (aai s_law_fars):=by row_cond sc
theorem aod (T:Txt K mg):Can P w K mg base "_law_fars" 2 ["web"] (spP K (ay1)):=by
 obtain ⟨f,fd,D⟩:=T.d_law_fars
 obtain ⟨a5,J⟩:=T.o_Grower
 have C:=J.mgx
 have a6:=T.n_Grower_held _ C
 refine D.can (D.fn.ok sc_law_fars (fun vs H Q E h=>lenP h fun ss Q' q=>by obtain ⟨n,es,rfl,n0,n1,R,a2,k⟩:=q;rfl) (fun cdv A outer s H vs Q E hr h=>?_))
 have nd:=sc_law_fars.nd
 refine ⟨_,(aac (aak (i:=1) nd rfl (Or.inl rfl) (aaf (aoc T) hr (aaa (pv 0) aab)))
  (aac (aak (i:=2) nd rfl (Or.inl rfl) (aa2 aab))
  (aac (abp aI6 rfl (abg rfl T.b_range (aaa (aap aaq (pv 0) aad (fun _ _=>rfl)) aab)) (aam (i:=3) nd rfl (Or.inl rfl))
   (aac (aak (i:=4) nd rfl (Or.inl rfl) (aw6 (aui (pv 3) aad aw5) rfl rfl (by simp) (by decide)))
    (aac (aak (i:=5) nd rfl (Or.inl rfl) (aa2 (aaa (pv 3) aab)))
    (aac (aak (i:=6) nd rfl (Or.inl rfl) aad)
    (aac (aie aI6 (aat (aea hr.units) (pv 5) (aa2 aab) (aau _))
     (aac (aak (i:=6) nd rfl (Or.inl rfl) (aav abc (pv 6) aad))
      (aac (aak (i:=7) nd rfl (Or.inl rfl) (aa2 aab))
      (aac (abp aI6 rfl (ab6 (pv 5)) (aam (i:=8) nd rfl (Or.inl rfl))
       (aag (abp aI6 rfl (ab6 (aj4 (adr hr) (pv 1) (pv 8) (fun _ _=>rfl))) (aam (i:=9) nd rfl (Or.inl rfl))
         (aag (aa4 (aro (ak2 (adr hr) (pv 9) (pv 4)))
           (aac (aft (adr hr) (pv 4) (pv 9) (pv 6) rfl)
            (aag (abj (ac1 PySem.F.plainAttrs_list PySem.F.slot_list_append PySem.F.type_list_append ab2 (pv 7) (aaa (pv 9) aab)))))
           aaw)))))
      (aag (aak (i:=5) nd rfl (Or.inl rfl) (pv 7)))))))
    (aag (abj (ac1 PySem.F.plainAttrs_list PySem.F.slot_list_append PySem.F.type_list_append ab2 (pv 2) (aaa (pv 4) aab)))))))))
  (aag (aao (pv 2)))))),?_⟩
 refine abr h fun ss Q' q B hK=>?_
 refine exS2 ss q fun n es b=>?_
 have n0:=b.1
 have n1:=b.2.1
 have R:=b.2.2.1
 have a2:=b.2.2.2.1
 have k:=b.2.2.2.2
 clear b q
 show EvS B _ _ [some (.st (webD n es)),none,none,none,none,none,none,none,none,none]
 row_cond go
 refine ⟨n,es,rfl,by lia,n1,R,a2,fun tl ht=>acz ays ?_⟩
 have hT:∀ u v:Int,Tied es u v->0<=v/\v < n:=fun u v h=>(h.in R).2
 have a7:(tlD tl).map PyData.list ≠ []:=fun e=>by
  have:=ht.1
  have h2:=congrArg List.length e
  simp [tlD] at h2
  rw [h2] at this
  simp at this
  lia
 have Y:∀ p:Int,0<=p->p < n->∃ Z:List Int,valD (kvD ((tlD tl).map PyData.list)) (.inl p)=some (.list (Z.map .int))/\∀ u,u∈Z ↔ Tied es p u:=fun p p0 p1=>by
  obtain ⟨Z,U,hw⟩:=ht.get p0 p1
  exact ⟨Z,ayr p0 (by rw [aA5,aep U];rfl),hw⟩
 row_cond go
 refine ab5 (fun i e=>∃ ess v3 v4 v5 v6 v7 G y,e=[some (.st (webD n es)),some (.st (ace (kvD ((tlD tl).map PyData.list)))),some (.own (OL (List.map ace ess))),v3,v4,v5,v6,v7,G,y]/\ess.length=i/\∀ (v:Int) fs,0<=v->ess[v.toNat]?=some fs->FarD n (Gr.farO (Tied es) v) fs) ⟨[],_,_,_,_,_,_,_,rfl,rfl,fun v fs _ h=>by simp at h⟩ ?_ ?_
 ·rintro i e hi g
  refine exS8 e g fun ess v3 v4 v5 v6 v7 G y b=>?_
  have S:=b.1
  have L:=b.2
  clear b g
  obtain ⟨a,ha,a0,a1⟩:∃ a:Int,a=0+(i:Int)/\0<=a/\a < n:=⟨_,rfl,by lia,by lia⟩
  rw [← ha]
  row_cond go
  refine atb rfl ?_
  row_cond go
  refine apo 5 rfl adg ?_
  dsimp only [List.set_cons_zero,List.set_cons_succ]
  refine aha (fun m e=>∃ v7 G y far fe edge M,e=[some (.st (webD n es)),some (.st (ace (kvD ((tlD tl).map PyData.list)))),some (.own (OL (List.map ace ess))),some (.st (.int a)),some (.own (OD fe)),some (.st (.list (edge.map .int))),some (.st (.int ((M:Nat):Int))),v7,G,y]/\Gr.Ring (Tied es) a M far edge/\FarD n far fe/\(∀ v∈edge,0<=v/\v < n)/\m=2 * cnt far n.toNat+(if edge=[] then 0 else 1))
   ⟨_,_,_,_,_,_,[a],0,rfl,Gr.Ring.start,FarD.start a0 a1,fun v z=>by simp at z;subst z;exact ⟨a0,a1⟩,rfl⟩ ?_
  rintro m e g
  refine exS7 e g fun v7 G y far fe edge M b=>?_
  have hR:=b.1
  have hF:=b.2.1
  have hb:=b.2.2.1
  have a9:=b.2.2.2
  clear b g
  subst a9
  row_cond go
  refine adc (awq _) rfl (a1d _) ?_
  rw [ayz]
  cases hedge:edge with
  | nil =>
   subst hedge
   row_cond go
   rw [aE8 (show ¬ ((!([]:List Int).isEmpty)=true) from aA9)]
   row_cond go
   refine ⟨_,rfl,by rw [aA3];lia,?_⟩
   refine ⟨ess ++ [fe],_,_,_,_,_,_,_,by rw [aD9];rfl,by rw [aB0,S];rfl,fun v fs v0 z=>?_⟩
   by_cases hvi:v.toNat < i
   ·rw [aC2 (by lia)] at z
    exact L v fs v0 z
   ·have b3:=(aA1.mp z).1
    simp at b3
    have a8:v.toNat=i:=by lia
    rw [a8,aC7 (by lia),S,aH7] at z
    cases z
    rw [show v=a by lia]
    exact hF.congr hR.fin
  | cons e0 er =>
   rw [← hedge]
   have a4:edge ≠ []:=by rw [hedge];simp
   row_cond go
   rw [aE7 (show (!edge.isEmpty)=true by rw [hedge];rfl)]
   row_cond go
   refine adm (fun i e=>∃ G y c l beyond,e=[some (.st (webD n es)),some (.st (ace (kvD ((tlD tl).map PyData.list)))),some (.own (OL (List.map ace ess))),some (.st (.int a)),some (.own (OD l)),some (.st (.list (edge.map .int))),some (.st (.int ((M:Int)+1))),some (.own (OL (beyond.map .int))),G,y]/\Gr.Mid (Tied es) M far edge (fun u=>u∈edge.take i) c beyond/\FarD n c l/\cnt c n.toNat+beyond.length=cnt far n.toNat/\∀ v∈beyond,0<=v/\v < n)
    ⟨G,y,far,fe,[],rfl,Gr.Mid.start.imp fun u W=>by simp at W,hF,rfl,fun v z=>by simp at z⟩ ?_ ?_
   ·rintro i p e hp g
    refine exS5 e g fun G y c l beyond b=>?_
    have O:=b.1
    have o:=b.2.1
    have N:=b.2.2.1
    have r:=b.2.2.2
    clear b g
    have a3:=aA2 hp
    obtain ⟨p0,p1⟩:=hb p a3
    obtain ⟨Z,U,hw⟩:=Y p p0 p1
    row_cond go
    refine avv ?_
    row_cond go
    refine ⟨kvD ((tlD tl).map PyData.list),.inl p,_,rfl,a01 a7,rfl,U,?_⟩
    row_cond go
    refine adm (fun j e=>∃ y c l beyond,e=[some (.st (webD n es)),some (.st (ace (kvD ((tlD tl).map PyData.list)))),some (.own (OL (List.map ace ess))),some (.st (.int a)),some (.own (OD l)),some (.st (.list (edge.map .int))),some (.st (.int ((M:Int)+1))),some (.own (OL (beyond.map .int))),some (.st (.int p)),y]/\Gr.Mid (Tied es) M far edge (fun u=>u∈edge.take i) c beyond/\FarD n c l/\cnt c n.toNat+beyond.length=cnt far n.toNat/\(∀ v∈beyond,0<=v/\v < n)/\∀ x∈Z.take j,c x ≠ none)
     ⟨y,c,l,beyond,rfl,O,o,N,r,fun x X=>by simp at X⟩ ?_ ?_
    ·rintro j u e W g
     refine exS4 e g fun y c l beyond b=>?_
     have O:=b.1
     have o:=b.2.1
     have N:=b.2.2.1
     have r:=b.2.2.2.1
     have I:=b.2.2.2.2
     clear b g
     have tu:Tied es p u:=(hw u).mp (aA2 W)
     obtain ⟨u0,u1⟩:=hT _ _ tu
     have b1:=o.val u
     have b5:=o.len
     have b4:l.length<=999999:=by lia
     row_cond go
     rw [b1]
     cases hf:c u with
     | none =>
      rw [aE7 (show (!((none:Option Nat).map fun (j:Nat)=>PyData.int (j:Int)).isSome)=true from rfl)]
      have b6:=aeb (d:=M+1) u0 hf (n:=n.toNat) (by lia)
      have b2:∀ m,cnt far m<=m:=fun m=>by
       induction m with
       | zero=>exact aA6 _
       | succ m ih=>unfold cnt;split <;> lia
      have:=b2 n.toNat
      row_cond go
      refine ⟨some (.st (.int u)),Gr.label c u (M+1),_,beyond ++ [u],by simp,O.add a3 tu hf,o.put u0 u1 hf,by simp;lia,fun v z=>?_,fun x X=>?_⟩
      ·rcases aA7.mp z with h | h
       ·exact r v h
       ·have:v=u:=by simpa using h
        subst this;exact ⟨u0,u1⟩
      ·by_cases hx2:x=u
       ·subst hx2;rw [Gr.label_same];simp
       ·rw [Gr.label_ne hx2]
        rcases ab8 W X with h | h
        ·exact I x h
        ·exact absurd h hx2
     | some d =>
      rw [aE8 (show ¬ ((!((some d:Option Nat).map fun (j:Nat)=>PyData.int (j:Int)).isSome)=true) from aA9)]
      row_cond go
      refine ⟨_,c,l,beyond,rfl,O,o,N,r,fun x X=>?_⟩
      rcases ab8 W X with h | h
      ·exact I x h
      ·subst h;rw [hf];simp
    ·rintro e g
     refine exS4 e g fun y c l beyond b=>?_
     have O:=b.1
     have o:=b.2.1
     have N:=b.2.2.1
     have r:=b.2.2.2.1
     have I:=b.2.2.2.2
     clear b g
     rw [aG0] at I
     refine ⟨_,_,c,l,beyond,rfl,?_,o,N,r⟩
     refine (O.did (u:=p) fun x tx=>I x ((hw x).mpr tx)).imp fun x X=>?_
     exact ab8 hp X
   ·rintro e g
    refine exS5 e g fun G y c l beyond b=>?_
    have O:=b.1
    have o:=b.2.1
    have N:=b.2.2.1
    have r:=b.2.2.2
    clear b g
    row_cond go
    refine ⟨_,?_,_,_,_,c,l,beyond,M+1,rfl,hR.next O fun u W=>by rw [aG0];exact W,o,r,rfl⟩
    rw [aE8 a4]
    cases beyond with
    | nil=>rw [aE7 rfl];simp at N;lia
    | cons b0 br=>rw [aE8 (by simp)];simp at N;lia
 ·rintro e g
  refine exS8 e g fun ess v3 v4 v5 v6 v7 G y b=>?_
  have S:=b.1
  have L:=b.2
  clear b g
  row_cond go
  exact k ess ⟨by lia,L⟩
end
theorem addAll_mem {p:Int × Int}:∀ {es ps:List (Int × Int)},p∈es.foldl addP ps ↔ p∈ps\/p∈es
 | [],ps=>by simp
 | e :: es,ps=>by
  rw [List.foldl_cons,addAll_mem,addP_mem,aA8,or_assoc]
theorem ahj:∀ {es ps:List (Int × Int)},ps.Nodup->(es.foldl addP ps).Nodup
 | [],_,h=>h
 | e :: es,ps,h=>by
  rw [List.foldl_cons]
  exact ahj (aju h)
theorem ajy:∀ {es ps:List (Int × Int)},(es.foldl addP ps).length<=ps.length+es.length
 | [],_=>aA6 _
 | e :: es,ps=>by
  rw [List.foldl_cons,aE0]
  have a:=ajy (es:=es) (ps:=addP ps e)
  have b:=ae3 (ps:=ps) (p:=e)
  lia
theorem at4 {T U:Int->Int->Prop} (h:∀ u v,T u v->U u v) {a v:Int} {d:Nat} (w:Gr.Walk T a d v):Gr.Walk U a d v:=by
 induction w with
 | refl=>exact .refl
 | step _ t ih=>exact .step ih (h _ _ t)
def ay2:VIo:=fun A ss Q=>A=ODk/\ss=[]/\∀ (n:Int) (es:List (Int × Int)),1<=n->n<=60->PsOk n es->es.length<=1960->Joined n es->Q ODk (.st (webD n es))
section
variable {P:Program} {w:World} {K:Frag} {mg:Str->Option Value} {base:Heap}
theorem sc_law_joined_web:FnScope ["deck","n","ties","fars","more","place"] ["deck"] (aai s_law_joined_web):=by row_cond sc
theorem ahk (T:Txt K mg):Can P w K mg base "_law_joined_web" 5 ["deck"] (spI K (ay2)):=by
 obtain ⟨f,fd,D⟩:=T.d_law_joined_web
 obtain ⟨C,m⟩:=T.o_Grower
 have l:=m.mgx
 have L:=T.n_Grower_held _ l
 refine D.can (D.fn.ok sc_law_joined_web (fun vs H Q E h=>lenI h fun A ss Q' q=>by obtain ⟨rfl,rfl,k⟩:=q;rfl) (fun cdv A outer s H vs Q E r h=>?_))
 have nd:=sc_law_joined_web.nd
 refine ⟨_,(aac (ab0 (aaf (afq T) r (aaa (pv 0) aab)) (aco rfl (aax (aam (i:=1) nd rfl (Or.inl rfl)) (aax (aam (i:=2) nd rfl (Or.inl rfl)) ab4))))
  (aac (aak (i:=3) nd rfl (Or.inl rfl) (aaf (aod T) r (aaa (aa3 (aaa (pv 1) (aaa (pv 2) aab))) aab)))
  (aac (aak (i:=4) nd rfl (Or.inl rfl) (adp (arc rfl r.units) (by rfl) T.b_dict ao7 (aaa (ad2 rfl (N:=["tie"]) (src:=[none]) (by exact ab7 rfl rfl rfl rfl rfl rfl) (ab6 (pv 2)) (fun _ _ _ _=>(aam (i:=0) (show List.Nodup (["tie"]:List Str) by decide +kernel) rfl (Or.inl rfl) (hf:=Or.inr rfl))) (fun _ _ _ _=>acp) (fun _ _ _ _=>(aa3 (aaa (pv 0) (aaa ab9 aab))))) aab)))
  (aac (abp aI6 rfl (ad7 rfl T.b_range (aaa aad (aaa (pv 1) aab))) (aam (i:=5) nd rfl (Or.inl rfl))
   (aag (aa4 (aro (ak2 (adr r) (pv 5) (aap aaq (pv 3) aad (fun _ _=>rfl))))
     (aag (aft (adr r) (pv 4) (aa3 (aaa aad (aaa (pv 5) aab))) ab9 rfl))
     aaw)))
  (aag (aao (aa3 (aaa (pv 1) (aaa (aal (afo rfl) (by rfl) T.b_sorted ac8 (aaa (pv 4) aab)) aab))))))))),?_⟩
 refine ac5 h fun A0 ss Q' q B hK=>?_
 obtain ⟨rfl,rfl,k⟩:=q
 show EvS B _ _ [some (.io ODk),none,none,none,none,none]
 row_cond go
 refine ⟨rfl,rfl,fun n es U n1 o Y _=>?_⟩
 have M:InN n es:=fun p g=>by have:=o.inn p g;exact ⟨by lia,by lia,by lia,by lia⟩
 row_cond go
 refine ⟨n,es,rfl,U,by lia,M,by lia,fun ess G=>acz adg ?_⟩
 obtain ⟨fs,x⟩:∃ fs,ess[(0:Int).toNat]?=some fs:=⟨_,aA0 (by have:=G.len;simp;lia)⟩
 have W:=G.row 0 fs (by lia) x
 have Z:atI (ess.map ace) 0=some (ace fs):=ajq (f:=ace) (adk (by lia) x)
 have O:fs ≠ []:=W.ne (Gr.farO_self (T:=Tied es) (a:=0))
 row_cond go
 refine ato ?_
 row_cond go
 refine ⟨es,rfl,by lia,?_⟩
 row_cond go
 refine ab5 (fun i e=>∃ J ps,e=[some (.io ODk),some (.st (.int n)),some (.st (.list (es.map prD))),some (.st (.list (ess.map ace))),some (.own (OT (kE ps))),J]/\PsOk n ps/\ps.length<=1900+i/\(∀ p∈es,p∈ps)/\∀ v:Int,1<=v->v < 1+(i:Int)->Gr.farO (Tied es) 0 v=none->(0,v)∈ps)
  ⟨_,_,rfl,⟨ahj List.nodup_nil,fun p g=>o.inn p ((addAll_mem.mp g).resolve_left (by simp))⟩,by have:=ajy (es:=es) (ps:=[]);simp at this;lia,fun p g=>addAll_mem.mpr (.inr g),fun v h1 h2=>by lia⟩ ?_ ?_
 ·rintro i e hi j
  refine exS2 e j fun J ps b=>?_
  have z:=b.1
  have hL:=b.2.1
  have y:=b.2.2.1
  have c:=b.2.2.2
  clear b j
  have X:(kE ps).length<=999999:=by rw [aec];lia
  have S:1+(i:Int) < n:=by lia
  row_cond go
  refine aq8 ?_
  row_cond go
  refine ⟨fs,.inl (1+(i:Int)),rfl,O,rfl,?_⟩
  rw [W.val]
  row_cond go
  cases hf:Gr.farO (Tied es) 0 (1+(i:Int)) with
  | none =>
   refine acd ?_
   row_cond go
   rw [ahd]
   refine ⟨_,_,rfl,z.add (by lia) (by lia) S,by have:=ae3 (ps:=ps) (p:=(0,1+(i:Int)));lia,fun p g=>addP_mem.mpr (.inl (y p g)),fun v I v2 F=>addP_mem.mpr ?_⟩
   by_cases hvi:v=1+(i:Int)
   ·exact .inr (by rw [hvi])
   ·exact .inl (c v I (by lia) F)
  | some d =>
   refine adb ?_
   row_cond go
   refine ⟨_,_,rfl,z,by lia,y,fun v I v2 F=>?_⟩
   by_cases hvi:v=1+(i:Int)
   ·rw [hvi,hf] at F;cases F
   ·exact c v I (by lia) F
 ·rintro e j
  refine exS2 e j fun J ps b=>?_
  have z:=b.1
  have hL:=b.2.1
  have y:=b.2.2.1
  have c:=b.2.2.2
  clear b j
  iterate 6 row_cond st
  refine abo (agf (.inl rfl) fun qs g hs=>adj ?_)
  row_cond go
  have hT:∀ u v,Tied es u v->Tied qs u v:=fun u v h=>by
   rcases h with h | h
   ·exact .inl (g.mem_iff.mpr (y _ h))
   ·exact .inr (g.mem_iff.mpr (y _ h))
  refine k n qs U n1 ⟨g.nodup_iff.mpr z.nd,fun p R=>z.inn p (g.mem_iff.mp R)⟩ (by rw [g.length_eq];lia) fun v v0 I=>?_
  cases hf:Gr.farO (Tied es) 0 v with
  | some d =>
   obtain ⟨hw,_⟩:=Gr.farO_some.mp hf
   obtain ⟨d',_,hd⟩:=Gr.Dist.of_walk (at4 hT hw)
   exact ⟨d',hd⟩
  | none =>
   by_cases hv0:v=0
   ·rw [hv0];exact ⟨0,Gr.Dist.self _ _⟩
   ·have:=c v (by lia) (by lia) hf
    obtain ⟨d',_,hd⟩:=Gr.Dist.of_walk (.step .refl (show Tied qs 0 v from .inl (g.mem_iff.mpr this)))
    exact ⟨d',hd⟩
end
def ari (K:Frag):Sp:=fun vs H Q _=>∃ (a:Addr) (ns:List Int),vs=[.ref a]/\SqL K H a (ns.map V.int)/\ns.length<=63/\∀ H',Q (.bl true) H'
def awr:VP:=fun ss Q=>∃ ns:List Int,ss=[.scr ns]/\ns.length<=63/\Q (.st (.bool true))
theorem av5 {K:Frag} {vs:List V} {H:Hp} {Q:VK} {E:XK} (h:ari K vs H Q E):spP K awr vs H Q E:=by
 obtain ⟨a,ns,rfl,b,c,k⟩:=h
 refine ⟨H,[.scr ns],fun s=>s=.st (.bool true),Same.refl _,fun a d h=>h,.cons ⟨a,rfl,b⟩ .nil,⟨ns,rfl,c,rfl⟩,fun s e v G' H' Fv o=>?_⟩
 subst e
 have r:=o.ok.1
 cases r
 exact k _
structure DW (n:Int) (es:List (Int × Int)) (j:Nat):Prop where
 lo:1<=n
 hi:n<=60
 ps:PsOk n es
 len:es.length<=1900+j
theorem DW.gw {n:Int} {es:List (Int × Int)} {j:Nat} (h:DW n es j) (b:j<=100):GW n es:=⟨h.lo,by have:=h.hi;lia,fun p a=>by have:=h.ps.inn p a;exact ⟨by lia,by lia,by lia,by lia⟩,by have:=h.len;lia⟩
inductive Deed (n:Int) (es:List (Int × Int)):PyData->Int->Int × Int->Prop
 | place {a:Int}:0<=a->a < n->n < 60->Deed n es (.tuple [.int a]) (n+1) (a,n)
 | tie {s t:Int}:0<=s->s < t->t < n->(s,t) ∉ es->Deed n es (.tuple [.int s,.int t]) n (s,t)
theorem Deed.dw {n m:Int} {es qs:List (Int × Int)} {j:Nat} {d:PyData} {p:Int × Int} (h:DW n es j) (g:Deed n es d m p) (c:qs.Perm (es ++ [p])):DW m qs (j+1):=by
 have f:qs.length<=1900+(j+1):=by
  have:=h.len
  rw [c.length_eq,aB0]
  simp
  lia
 have a:(p ∉ es)/\(0<=p.1/\p.1 < p.2/\p.2 < m)/\n<=m/\m<=60:=by
  have:=h.hi
  cases g with
  | place a0 a1 hn=>exact ⟨fun z=>by have:=h.ps.inn _ z;simp only at this;lia,⟨a0,a1,by simp only;lia⟩,by lia,by lia⟩
  | tie s0 st tn hno=>exact ⟨hno,⟨s0,st,tn⟩,Int.le_refl _,this⟩
 refine ⟨by have:=h.lo;lia,a.2.2.2,⟨c.nodup_iff.mpr (aE2.mpr ⟨h.ps.nd,by simp,fun x i y l e=>by cases aC1.mp l;exact a.1 (e ▸ i)⟩),fun q b=>?_⟩,f⟩
 rcases aA7.mp (c.mem_iff.mp b) with z | z
 ·have:=h.ps.inn q z
  lia
 ·cases aC1.mp z
  exact a.2.1
def a1e:VIo:=fun A ss Q=>∃ (n:Int) (es:List (Int × Int)) (j:Nat),A=ODk/\ss=[.st (webD n es)]/\DW n es j/\j<=100/\Q ODk (.st .none)/\∀ d m p,Deed n es d m p->Q ODk (.st d)
def av6:VP:=fun ss Q=>∃ (n m:Int) (es:List (Int × Int)) (j:Nat) (d:PyData) (p:Int × Int),ss=[.st (webD n es),.st d]/\DW n es j/\j<=100/\Deed n es d m p/\∀ qs,Rise qs->qs.Perm (es ++ [p])->Q (.st (webD m qs))
def a1f (mg:Str->Option Value):VIo:=fun A ss Q=>∃ (C:Addr) (n m:Int) (es:List (Int × Int)) (j:Nat) (d:PyData) (p:Int × Int),mg "Grower" = some (.ref C)/\A=OI C (gF n es)/\ss=[.st d]/\DW n es j/\j<=100/\Deed n es d m p/\∀ qs d0 d1,Rise qs->qs.Perm (es ++ [p])->FarN n es d0->FarN m qs d1->Q (OI C (gF m qs)) (.st (.tuple [d0,d1]))
section
variable {P:Program} {w:World} {K:Frag} {mg:Str->Option Value} {base:Heap}
theorem sc_law_deed:FnScope ["deck","web","n","ties","a","free","b"] ["deck","web"] (aai s_law_deed):=by row_cond sc
theorem ahl (T:Txt K mg):Can P w K mg base "_law_deed" 2 ["deck","web"] (spI K (a1e)):=by
 obtain ⟨f,fd,D⟩:=T.d_law_deed
 obtain ⟨m,c⟩:=T.o_Grower
 have g:=c.mgx
 have C:=T.n_Grower_held _ g
 refine D.can (D.fn.ok sc_law_deed (fun vs H Q E h=>lenI h fun A ss Q' q=>by obtain ⟨n,es,j,rfl,rfl,p,U,I,v⟩:=q;rfl) (fun cdv A outer s H vs Q E l h=>?_))
 have nd:=sc_law_deed.nd
 refine ⟨_,(aac (ab0 (pv 1) (aco rfl (aax (aam (i:=2) nd rfl (Or.inl rfl)) (aax (aam (i:=3) nd rfl (Or.inr rfl)) ab4))))
  (aac (aak (i:=4) nd rfl (Or.inr rfl) (aaf (aaj T) l (aaa (pv 0) (aaa (pv 2) aab))))
  (aac (aa4 (PW.pt (ad6 (aat ad1 (aaf (aaj T) l (aaa (pv 0) (aaa aad aab))) aad (aau _)) (adn (aat al0 (pv 2) aad (aau _)))))
   (aag (aao (aa3 (aaa (pv 4) aab))))
   aaw)
  (aac (amr (i:=5) nd rfl (Or.inl rfl) rfl (N:=["b","a","ties"]) (src:=[none,some 4,some 3]) (by exact ab7 rfl rfl rfl rfl rfl rfl) (abg rfl T.b_range (aaa (pv 2) aab)) (fun _ _ _ _=>(aam (i:=0) (show List.Nodup (["b","a","ties"]:List Str) by decide +kernel) rfl (Or.inl rfl) (hf:=Or.inr rfl))) (fun _ _ _ _=>aw7 (PW.pt (ad6 (aat alz (pv 0) (pv 1) (aau _)) (adn (aat (ak6 l.units) (aa3 (aaa (aal (act rfl) (by rfl) T.b_min ad8 (aaa (pv 1) (aaa (pv 0) aab))) (aaa (aal (acs rfl) (by rfl) T.b_max ac7 (aaa (pv 1) (aaa (pv 0) aab))) aab))) (pv 2) rfl))))) (fun _ _ _ _=>(pv 0)))
  (aac (aa4 (aat (ajd l.units) (pv 5) (aa2 aab) (aau _))
   (aag (aao acv))
   aaw)
  (aac (aak (i:=6) nd rfl (Or.inl rfl) (aap aaq (pv 5) (aaf (aaj T) l (aaa (pv 0) (aaa (aal aa9 (by rfl) T.b_len abz (aaa (pv 5) aab)) aab))) (fun _ _=>rfl)))
  (aag (aao (aa3 (aaa (aal (act rfl) (by rfl) T.b_min ad8 (aaa (pv 4) (aaa (pv 6) aab))) (aaa (aal (acs rfl) (by rfl) T.b_max ac7 (aaa (pv 4) (aaa (pv 6) aab))) aab))))))))))),?_⟩
 refine ac5 h fun A0 ss Q' q B hK=>?_
 obtain ⟨n,es,j,rfl,rfl,p,U,I,v⟩:=q
 show EvS B _ _ [some (.io ODk),some (.st (webD n es)),none,none,none,none,none]
 have hn:=p.lo
 have X:=p.hi
 have L:=p.len
 row_cond go
 refine ⟨n,rfl,rfl,by lia,by lia,fun a a0 a1=>?_⟩
 row_cond go
 refine ⟨2,rfl,rfl,by lia,by lia,fun r r0 r1=>?_⟩
 row_cond go
 dsimp only [List.set_cons_zero,List.set_cons_succ]
 refine' cutR (R:=EvS B ?c1 ?d1 [some (.io ODk),some (.st (webD n es)),some (.st (.int n)),some (.st (.list (es.map prD))),some (.st (.int a)),none,none]) (fun R=>?K1) ?K2
 case K1 =>
  by_cases l:r=0
  ·by_cases hn0:n < 60
   ·row_cond go
    exact v _ _ _ (.place a0 a1 hn0)
   ·repeat (first | exact R | row_cond st)
  ·repeat (first | exact R | row_cond st)
 case K2 =>
  row_cond go
  unfold rngD
  refine ath (xs:=List.range n.toNat) (f:=fun i:Nat=>PyData.int (0+(i:Int))) (fun i:Nat=>PyData.int (i:Int)) (fun i:Nat=>decide ((i:Int) ≠ a) && !decide ((if (i:Int) < a then (i:Int) else a,if (i:Int) > a then (i:Int) else a)∈es)) rfl (by simp;lia) (fun i hi B' hB=>?_) ?_
  ·have W:=aB8.mp hi
   rw [Int.zero_add]
   by_cases hia:(i:Int)=a
   ·row_cond go
    exact ⟨by simp [hia],rfl,fun z=>nomatch z⟩
   ·row_cond go
    refine apl (ata (_,_)) (agg es) (aC9 (ahf (_,_)) (by decide)) ?_
    rw [aE7 rfl,show PyData.tuple [PyData.int (if (i:Int) < a then (i:Int) else a),PyData.int (if (i:Int) > a then (i:Int) else a)]=prD (if (i:Int) < a then (i:Int) else a,if (i:Int) > a then (i:Int) else a) from rfl,ayj]
    row_cond go
    refine ⟨by simp [hia],rfl,fun _=>?_⟩
    row_cond go
    exact rfl
  ·obtain ⟨fs,o,G⟩:∃ fs:List Nat,(List.range n.toNat).filter (fun i:Nat=>decide ((i:Int) ≠ a) && !decide ((if (i:Int) < a then (i:Int) else a,if (i:Int) > a then (i:Int) else a)∈es))=fs/\(∀ i∈fs,(i:Int) < n/\(i:Int) ≠ a/\(if (i:Int) < a then (i:Int) else a,if (i:Int) > a then (i:Int) else a) ∉ es):=⟨_,rfl,fun i hi=>by
    obtain ⟨S,u⟩:=List.mem_filter.mp hi
    have:=aB8.mp S
    simp only [aG3,decide_eq_true_eq,Bool.not_eq_true',decide_eq_false_iff_not] at u
    exact ⟨by lia,u.1,u.2⟩⟩
   have Y:fs.length<=60:=by
    rw [← o]
    exact aC9 (List.length_filter_le _ _) (by rw [List.length_range];lia)
   rw [o]
   refine acz adg ?_
   have F:aas (.list (fs.map fun i:Nat=>PyData.int (i:Int)))=true:=(afm _).mpr fun d hd=>by
    obtain ⟨x,_,rfl⟩:=aB6.mp hd
    rfl
   have y:(PyData.list (fs.map fun i:Nat=>PyData.int (i:Int))).depth<=60:=by
    have h:PyData.depthAll (fs.map fun i:Nat=>PyData.int (i:Int))<=1:=ad4 fun d hd=>by
     obtain ⟨x,_,rfl⟩:=aB6.mp hd
     simp [PyData.depth]
    simp only [PyData.depth]
    lia
   row_cond go
   refine ahz F rfl y ?_
   cases efs:fs with
   | nil =>
    rw [show PyData.eqv (.list (List.map (fun i:Nat=>PyData.int (i:Int)) [])) (.list [])=true from rfl]
    row_cond go
    exact I
   | cons f0 fr =>
    rw [← efs,show PyData.eqv (.list (fs.map fun i:Nat=>PyData.int (i:Int))) (.list [])=false by rw [efs];rfl]
    have J:0 < fs.length:=by rw [efs];simp
    row_cond go
    rw [aA3]
    refine ⟨(fs.length:Int),rfl,rfl,by lia,by lia,fun q Z q1=>?_⟩
    obtain ⟨b,hb⟩:∃ b,fs[q.toNat]?=some b:=⟨_,aA0 (show q.toNat < fs.length by lia)⟩
    have O:atI (fs.map fun i:Nat=>PyData.int (i:Int)) q=some (.int (b:Int)):=adk Z (by rw [aA5,hb];rfl)
    obtain ⟨b1,b2,M⟩:=G b (aA2 hb)
    row_cond go
    exact v _ n (if (b:Int) < a then (b:Int) else a,if (b:Int) > a then (b:Int) else a) (.tie (by split <;> lia) (by split <;> split <;> lia) (by split <;> lia) M)
theorem sc_law_behind:FnScope ["web","deed","n","ties"] ["web","deed"] (aai s_law_behind):=by row_cond sc
theorem akt (T:Txt K mg):Can P w K mg base "_law_behind" 1 ["web","deed"] (spP K (av6)):=by
 obtain ⟨f,fd,D⟩:=T.d_law_behind
 obtain ⟨l,b⟩:=T.o_Grower
 have g:=b.mgx
 have x:=T.n_Grower_held _ g
 refine D.can (D.fn.ok sc_law_behind (fun vs H Q E h=>lenP h fun ss Q' q=>by obtain ⟨n,m,es,j,d,p,rfl,u,C,hd,v⟩:=q;rfl) (fun cdv A outer s H vs Q E G h=>?_))
 have nd:=sc_law_behind.nd
 refine ⟨_,(aac (ab0 (pv 0) (aco rfl (aax (aam (i:=2) nd rfl (Or.inl rfl)) (aax (aam (i:=3) nd rfl (Or.inl rfl)) ab4))))
  (aac (aa4 (aat ad1 (aal aa9 (by rfl) T.b_len abz (aaa (pv 1) aab)) aad (aau _))
   (aag (aao (aa3 (aaa (aav abc (pv 2) aad) (aaa (aal aei (by rfl) T.b_sorted ac8 (aaa (aav ai1 (pv 3) (aa2 (aaa (aa3 (aaa (aap aaq (pv 1) aad (fun _ _=>rfl)) (aaa (pv 2) aab))) aab))) aab)) aab)))))
   aaw)
  (aag (aao (aa3 (aaa (pv 2) (aaa (aal aei (by rfl) T.b_sorted ac8 (aaa (aav ai1 (pv 3) (aa2 (aaa (pv 1) aab))) aab)) aab))))))),?_⟩
 refine abr h fun ss Q' q B F=>?_
 refine exS6 ss q fun n m es j d p c=>?_
 have u:=c.1
 have C:=c.2.1
 have hd:=c.2.2.1
 have v:=c.2.2.2
 clear c q
 show EvS B _ _ [some (.st (webD n es)),some (.st d),none,none]
 have z:=u.len
 have o:=(hd.dw u (List.Perm.refl _)).ps.nd
 cases hd with
 | @place a a0 a1 hn =>
  row_cond go
  rw [aD6 (show (([PyData.int a].length:Nat):Int)=1 from rfl)]
  repeat (first | (refine abo (afg (ps:=es ++ [(a,n)]) ?_)) | row_cond st)
  refine ⟨by rw [aD9];rfl,fun qs r y=>adj ?_⟩
  row_cond go
  exact v qs (afz r o y) r
 | @tie s t s0 h12 tn hno =>
  row_cond go
  rw [aD5 (show ¬ (([PyData.int s,PyData.int t].length:Nat):Int)=1 from show ¬ ((2:Nat):Int)=1 by decide)]
  repeat (first | (refine abo (afg (ps:=es ++ [(s,t)]) ?_)) | row_cond st)
  refine ⟨by rw [aD9];rfl,fun qs r y=>adj ?_⟩
  row_cond go
  exact v qs (afz r o y) r
theorem sc_law_done:FnScope ["grower","deed"] ["grower","deed"] (aai s_law_done):=by row_cond sc
theorem aoe (T:Txt K mg):Can P w K mg base "_law_done" 13 ["grower","deed"] (spI K (a1f mg)):=by
 obtain ⟨f,fd,D⟩:=T.d_law_done
 obtain ⟨g,c⟩:=T.o_Grower
 have b:=c.mgx
 have F:=T.n_Grower_held _ b
 refine D.can (D.fn.ok sc_law_done (fun vs H Q E h=>lenI h fun A ss Q' q=>by obtain ⟨C,n,m,es,j,d,p,M,rfl,rfl,l,L,hd,u⟩:=q;rfl) (fun cdv A outer s H vs Q E i h=>?_))
 have nd:=sc_law_done.nd
 refine ⟨_,(aac (aa4 (aat ad1 (aal aa9 (by rfl) T.b_len abz (aaa (pv 1) aab)) aad (aau _))
   (aag (aao (acl (af2 T b) c.cl i (pv 0) (aaa (aap aaq (pv 1) aad (fun _ _=>rfl)) aab))))
   aaw)
  (aag (aao (acl (adx T b) c.cl i (pv 0) (aaa (aap aaq (pv 1) aad (fun _ _=>rfl)) (aaa (aap aaq (pv 1) aad (fun _ _=>rfl)) aab)))))),?_⟩
 refine ac5 h fun R ss Q' q B S=>?_
 obtain ⟨C,n,m,es,j,d,p,M,rfl,rfl,l,L,hd,u⟩:=q
 show EvS B _ _ [some (.io (OI C (gF n es))),some (.st d)]
 obtain rfl:g=C:=by have:=b.symm.trans M;cases this;rfl
 have J:=l.gw L
 have I:=l.len
 cases hd with
 | @place a a0 a1 hn =>
  row_cond go
  rw [aD6 (show (([PyData.int a].length:Nat):Int)=1 from rfl)]
  repeat (first | (refine ack (.inr rfl) (abm (by decide +kernel)) ?_) | row_cond st)
  refine ⟨_,_,rfl,.inr rfl,g,n,a,es,b,rfl,rfl,J,hn,l.ps,by lia,a0,a1,fun qs G r i o z v=>?_⟩
  exact ⟨_,rfl,u qs G r i o z v⟩
 | @tie s t s0 h12 tn hno =>
  row_cond go
  rw [aD5 (show ¬ (([PyData.int s,PyData.int t].length:Nat):Int)=1 from show ¬ ((2:Nat):Int)=1 by decide)]
  repeat (first | (refine ack (.inr rfl) (abm (by decide +kernel)) ?_) | row_cond st)
  refine ⟨_,_,rfl,.inr rfl,g,n,s,t,es,b,rfl,rfl,J,⟨fun q o=>by cases aC1.mp o;exact ⟨s0,h12,tn⟩,aE2.mpr ⟨l.ps.nd,by simp,fun x N y O e=>by cases aC1.mp O;exact hno (e ▸ N)⟩⟩,by lia,fun qs G r i o z v=>?_⟩
  exact ⟨_,rfl,u qs G r i o z v⟩
end
theorem aof {n:Int} {es:List (Int × Int)} (b:Joined n es) {u v:Int} (f:0<=u) (a:u < n) (v0:0<=v) (c:v < n):0<=dsF es u v/\Gr.Dist (Tied es) u v (dsF es u v).toNat:=by
 obtain ⟨d,e⟩:=aek b f a v0 c
 simp only [dsF,e,Option.getD_some]
 exact ⟨by lia,by rw [show ((d:Nat):Int).toNat=d by lia];exact Gr.farO_some.mp e⟩
theorem a1g {es:List (Int × Int)} {u v:Int} {d:Nat} (h:Gr.Dist (Tied es) u v d):dsF es u v=d:=by
 simp only [dsF,Gr.farO_some.mpr h,Option.getD_some]
theorem at5 {es:List (Int × Int)} {a b u v:Int}:Tied (es ++ [(a,b)]) u v ↔ Tied es u v\/(u=a/\v=b)\/(u=b/\v=a):=by
 unfold Tied
 simp only [aA7,aC1,Prod.mk.injEq]
 constructor
 ·rintro ((h | h) | h | h)
  ·exact .inl (.inl h)
  ·exact .inr (.inl h)
  ·exact .inl (.inr h)
  ·exact .inr (.inr ⟨h.2,h.1⟩)
 ·rintro ((h | h) | h | h)
  ·exact .inl (.inl h)
  ·exact .inr (.inl h)
  ·exact .inl (.inr h)
  ·exact .inr (.inr ⟨h.2,h.1⟩)
theorem ahm {T a:Int->Int->Prop} (g:∀ u v,T u v->a u v) {u v:Int} {k:Nat} (w:Gr.Walk T u k v):Gr.Walk a u k v:=w.rec .refl fun _ t b => .step b (g _ _ t)
theorem agn (es:List (Int × Int)) (u:Int):dsF es u u=0:=by rw [a1g (Gr.Dist.self _ u)];rfl
theorem av7 (es:List (Int × Int)) (u v:Int):dsF es u v=dsF es v u:=by unfold dsF;rw [Gr.farO_comm fun _ _ t=>t.symm]
theorem webP (n:Int) (es:List (Int × Int)):aas (webD n es)=true:=by
 have:=agg es
 simp only [webD,aas,plainDs,this,Bool.and_self]
theorem arj (n:Int) (es:List (Int × Int)):(webD n es).depth<=60:=by
 have h:PyData.depthAll (es.map prD)<=1:=ad4 fun d hd=>by
  obtain ⟨p,_,rfl⟩:=aB6.mp hd
  exact ahf p
 simp only [webD,PyData.depth,PyData.depthAll]
 lia
theorem FarOk.uniq {n x a b o l j:Int} {es:List (Int × Int)} (h:FarOk n es x a b) (g:FarOk n es o l j):x=o/\a=l/\b=j:=by
 have e:x=o:=by
  obtain ⟨⟨u,v,r,p,v0,A,C⟩,q⟩:=h.top
  obtain ⟨⟨w,z,c,i,d,m,y⟩,f⟩:=g.top
  have s:=f u v r p v0 A
  have B:=q w z c i d m
  lia
 subst e
 have s:=h.fst l j g.a0 g.a1 g.b0 g.b1 g.eq
 have B:=g.fst a b h.a0 h.a1 h.b0 h.b1 h.eq
 lia
theorem FarN.uniq {n:Int} {es:List (Int × Int)} {d e:PyData} (h:FarN n es d) (g:FarN n es e):d=e:=by
 rcases h with ⟨j,x,A,rfl⟩ | ⟨j,rfl⟩ <;> rcases g with ⟨i,y,m,rfl⟩ | ⟨i,rfl⟩
 ·obtain ⟨⟨u,v,q,o,v0,z,C⟩,p⟩:=A
  obtain ⟨⟨r,w,a,f,b,l,s⟩,c⟩:=m
  have B:=c u v q o v0 z
  have D:=p r w a f b l
  rw [show x=y by lia]
 ·exact absurd j i
 ·exact absurd i j
 ·rfl
theorem FarN.plain {n:Int} {es:List (Int × Int)} {d:PyData} (h:FarN n es d):aas d=true/\d.depth=0/\isiD "bool" d=false:=by
 rcases h with ⟨_,x,_,rfl⟩ | ⟨_,rfl⟩
 ·exact ⟨rfl,by simp [PyData.depth],rfl⟩
 ·exact ⟨rfl,by simp [PyData.depth],rfl⟩
theorem aog {T U:Int->Int->Prop} {a v c w:Int} {s:Nat} (i:∀ d,Gr.Walk T a d v->∃ e,e+s<=d/\Gr.Walk U c e w) (m:∀ e,Gr.Walk U c e w->∃ d,d<=e+s/\Gr.Walk T a d v):Gr.farO T a v=(Gr.farO U c w).map (· + s):=by
 cases e:Gr.farO U c w with
 | none =>
  rw [Option.map_none]
  refine Gr.farO_none.mpr fun d hd=>?_
  obtain ⟨l,_,b⟩:=i d hd.1
  obtain ⟨d',_,g⟩:=Gr.Dist.of_walk b
  exact Gr.farO_none.mp e d' g
 | some k =>
  have h:=Gr.farO_some.mp e
  have f:∀ j,Gr.Walk T a j v->k+s<=j:=fun j n=>by
   obtain ⟨l,o,b⟩:=i j n
   have:=h.2 l b
   lia
  obtain ⟨d,hd,b⟩:=m k h.1
  have:=f d b
  obtain rfl:d=k+s:=by lia
  exact Gr.farO_some.mpr ⟨b,f⟩
section
variable {n a:Int} {es qs:List (Int × Int)}
theorem ahn (b:qs.Perm (es ++ [(a,n)])) {u v:Int}:Tied qs u v ↔ Tied es u v\/(u=a/\v=n)\/(u=n/\v=a):=by
 rw [← at5]
 unfold Tied
 rw [b.mem_iff,b.mem_iff]
theorem alg (c:InN n es) (a1:a < n) (g:qs.Perm (es ++ [(a,n)])) {u:Int} (i:u ≠ n) {d:Nat} {v:Int} (w:Gr.Walk (Tied qs) u d v):(v ≠ n->∃ e,e<=d/\Gr.Walk (Tied es) u e v)/\(v=n->∃ e,e+1<=d/\Gr.Walk (Tied es) u e a):=by
 induction w with
 | refl=>exact ⟨fun _=>⟨0,aA6 _,.refl⟩,fun z=>absurd z i⟩
 | @step k v w _ t ih =>
  rcases (ahn g).mp t with h | ⟨rfl,rfl⟩ | ⟨rfl,rfl⟩
  ·have j:=h.in c
   obtain ⟨e,f,b⟩:=ih.1 (by lia)
   exact ⟨fun _=>⟨e+1,by lia,.step b h⟩,fun z=>by lia⟩
  ·obtain ⟨e,f,b⟩:=ih.1 (by lia)
   exact ⟨fun z=>absurd rfl z,fun _=>⟨e,by lia,b⟩⟩
  ·obtain ⟨e,f,b⟩:=ih.2 rfl
   exact ⟨fun _=>⟨e,by lia,b⟩,fun z=>by lia⟩
theorem ap7 (b:qs.Perm (es ++ [(a,n)])) {u v:Int} {d:Nat} (w:Gr.Walk (Tied es) u d v):Gr.Walk (Tied qs) u d v:=ahm (fun x y t=>(ahn b).mpr (.inl t)) w
theorem ait (b:InN n es) (a1:a < n) (f:qs.Perm (es ++ [(a,n)])) {u v:Int} (i:u < n) (j:v < n):Gr.farO (Tied qs) u v=Gr.farO (Tied es) u v:=by
 have:=aog (T:=Tied qs) (U:=Tied es) (a:=u) (v:=v) (c:=u) (w:=v) (s:=0) (fun d w=>by
  obtain ⟨e,g,h⟩:=(alg b a1 f (by lia) w).1 (by lia)
  exact ⟨e,g,h⟩) (fun e w=>⟨e,aA6 _,ap7 f w⟩)
 rw [this]
 cases Gr.farO (Tied es) u v <;> rfl
theorem aiu (c:InN n es) (a1:a < n) (f:qs.Perm (es ++ [(a,n)])) {b:Int} (b1:b < n):Gr.farO (Tied qs) n b=(Gr.farO (Tied es) a b).map (· + 1):=by
 rw [Gr.farO_comm (fun _ _ t=>t.symm),Gr.farO_comm (T:=Tied es) (fun _ _ t=>t.symm)]
 exact aog (fun d w=>(alg c a1 f (by lia) w).2 rfl) fun e w=>⟨e+1,aA6 _,.step (ap7 f w) ((ahn f).mpr (.inr (.inl ⟨rfl,rfl⟩)))⟩
theorem aid (b:InN n es) (g:1<=n) (a0:0<=a) (a1:a < n) (c:qs.Perm (es ++ [(a,n)])) (f:Joined n es):Joined (n+1) qs:=fun v v0 h=>by
 by_cases hv:v < n
 ·obtain ⟨d,hd⟩:=f v v0 hv
  exact ⟨d,Gr.farO_some.mp (by rw [ait b a1 c (by lia) hv];exact Gr.farO_some.mpr hd)⟩
 ·obtain rfl:v=n:=by lia
  obtain ⟨d,e⟩:=aek f a0 a1 (Int.le_refl 0) (by lia)
  refine ⟨d+1,Gr.farO_some.mp ?_⟩
  rw [Gr.farO_comm (fun _ _ t=>t.symm),aiu b a1 c (by lia),e]
  rfl
theorem av8 (g:InN n es) (q:1<=n) (a0:0<=a) (a1:a < n) (l:qs.Perm (es ++ [(a,n)])) (o:Joined n es) {x y:Int} (h:ad5 n.toNat (dsF es) x) (m:ad5 (n+1).toNat (dsF qs) y):x<=y/\y<=x+1:=by
 have c:∀ u v:Int,u < n->v < n->dsF qs u v=dsF es u v:=fun u v i j=>by unfold dsF;rw [ait g a1 l i j]
 have new:∀ b:Int,0<=b->b < n->dsF qs n b=dsF es a b+1:=fun b b0 b1=>by
  obtain ⟨d,e⟩:=aek o a0 a1 b0 b1
  simp only [dsF,aiu g a1 l b1,e,aH4,Option.getD_some]
  lia
 have p:0<=x:=by
  have:=h.2 0 0 (by lia) (by lia) (by lia) (by lia)
  rw [agn] at this
  exact this
 constructor
 ·obtain ⟨⟨u,v,f,i,v0,j,e⟩,_⟩:=h
  have:=m.2 u v f (by lia) v0 (by lia)
  rw [c u v (by lia) (by lia)] at this
  lia
 ·obtain ⟨⟨u,v,f,i,v0,j,e⟩,_⟩:=m
  by_cases hu:u < n
  ·by_cases hv:v < n
   ·have:=h.2 u v f (by lia) v0 (by lia)
    rw [c u v hu hv] at e
    lia
   ·obtain rfl:v=n:=by lia
    rw [av7,new u f hu] at e
    have:=h.2 a u a0 (by lia) f (by lia)
    lia
  ·obtain rfl:u=n:=by lia
   by_cases hv:v < u
   ·rw [new v v0 hv] at e
    have:=h.2 a v a0 (by lia) v0 (by lia)
    lia
   ·obtain rfl:v=u:=by lia
    rw [agn] at e
    lia
theorem ap8 {p:Int × Int} (a:qs.Perm (es ++ [p])) {u v:Int} (t:Tied es u v):Tied qs u v:=t.imp (fun z=>a.mem_iff.mpr (aA7.mpr (.inl z))) fun z=>a.mem_iff.mpr (aA7.mpr (.inl z))
theorem ago {p:Int × Int} (g:1<=n) (b:qs.Perm (es ++ [p])) (f:Joined n es):Joined n qs:=fun v v0 c=>by
 obtain ⟨d,hd⟩:=f v v0 c
 obtain ⟨e,_,a⟩:=Gr.Dist.of_walk (ahm (fun _ _ t=>ap8 b t) hd.1)
 exact ⟨e,a⟩
theorem ay3 {p:Int × Int} (g:1<=n) (c:qs.Perm (es ++ [p])) (b:Joined n es) {x y:Int} (h:ad5 n.toNat (dsF es) x) (i:ad5 n.toNat (dsF qs) y):y<=x:=by
 obtain ⟨⟨u,v,a,j,v0,m,e⟩,_⟩:=i
 have f:=aof b a (by lia) v0 (by lia)
 have d:=aof (ago g c b) a (by lia) v0 (by lia)
 have l:=d.2.2 _ (ahm (fun _ _ t=>ap8 c t) f.2.1)
 have:=h.2 u v a (by lia) v0 (by lia)
 lia
end
def a1h (mg:Str->Option Value):VJ:=fun ss Q=>∃ (C:Addr) (n:Int) (es:List (Int × Int)),mg "Grower" = some (.ref C)/\ss=[.io ODk,.io (OI C (gF n es))]/\GW n es/\n<=60/\Q [some (.io ODk),some (.io (OI C (gF n es)))] (.st (.bool true))
section
variable {P:Program} {w:World} {K:Frag} {mg:Str->Option Value} {base:Heap}
theorem sc_law_same:FnScope ["deck","grower","web","other","turn","a","b"] ["deck","grower"] (aai s_law_same):=by row_cond sc
theorem ae7 (T:Txt K mg):Can P w K mg base "_law_same" 11 ["deck","grower"] (spJ K (a1h mg)):=by
 obtain ⟨f,fd,D⟩:=T.d_law_same
 obtain ⟨d,g⟩:=T.o_Grower
 have c:=g.mgx
 have J:=T.n_Grower_held _ c
 refine D.can (D.fn.ok sc_law_same (fun vs H Q E h=>lenJ h fun ss Q' q=>by obtain ⟨C,n,es,X,rfl,r,Y,G⟩:=q;rfl) (fun cdv A outer s H vs Q E j h=>?_))
 have nd:=sc_law_same.nd
 refine ⟨_,(aac (aak (i:=2) nd rfl (Or.inl rfl) (abh (abi T c) g.cl j (pv 1)))
  (aac (aak (i:=3) nd rfl (Or.inl rfl) (agj (ab1 T c) g j (aaa (pv 2) aab)))
  (aac (aa4 (aat (aea j.units) (abh (abi T c) g.cl j (pv 3)) (pv 2) (aau _))
   (aag (aao ab9))
   aaw)
  (aac (abp aI6 rfl (abg rfl T.b_range (aaa aad aab)) (aam (i:=4) nd rfl (Or.inl rfl))
   (aac (aak (i:=5) nd rfl (Or.inl rfl) (aaf (aaj T) j (aaa (pv 0) (aaa (aap aaq (pv 2) aad (fun _ _=>rfl)) aab))))
    (aac (aak (i:=6) nd rfl (Or.inl rfl) (aaf (aaj T) j (aaa (pv 0) (aaa (aap aaq (pv 2) aad (fun _ _=>rfl)) aab))))
    (aag (aa4 (PW.pt (aiv (aat (aea j.units) (acl (acg T c) g.cl j (pv 1) (aaa (pv 5) (aaa (pv 6) aab))) (aaf (aic T) j (aaa (pv 2) (aaa (pv 5) (aaa (pv 6) aab)))) (aau _)) (agw (aat (aea j.units) (acl (acg T c) g.cl j (pv 3) (aaa (pv 5) (aaa (pv 6) aab))) (acl (acg T c) g.cl j (pv 1) (aaa (pv 5) (aaa (pv 6) aab))) (aau _)))))
     (aag (aao ab9))
     aaw)))))
  (aac (aa4 (acw (aca (aaf (acx T) j (aaa (pv 2) aab))))
   (aag (aao ab9))
   aaw)
  (aag (aao (aes (ado (ajd j.units) (abh (abe T c) g.cl j (pv 1)) (aaf (acu T) j (aaa (pv 2) aab)) (aau _)) (aer (ado (ajd j.units) (abh (abe T c) g.cl j (pv 3)) (abh (abe T c) g.cl j (pv 1)) (aau _))))))))))),?_⟩
 refine awp h fun ss Q' q B hK=>?_
 obtain ⟨C,n,es,X,rfl,r,Y,G⟩:=q
 show EvS B _ _ [some (.io ODk),some (.io (OI C (gF n es))),none,none,none,none,none]
 obtain rfl:d=C:=by have:=c.symm.trans X;cases this;rfl
 have R:=r.lo
 have u:=r.inn
 have O:=r.len
 repeat (first | (refine ack (.inr rfl) (abm (by decide +kernel)) ?_) | row_cond st)
 refine ⟨_,_,rfl,.inr rfl,d,n,es,c,rfl,rfl,by lia,acz ahe ?_⟩
 dsimp only [List.set_cons_zero,List.set_cons_succ,reS]
 repeat (first | (refine agh (by assumption) ?_) | row_cond st)
 refine ⟨d,n,es,c,rfl,rfl,rfl,?_⟩
 repeat (first | (refine agk 3 rfl ?_;dsimp only [List.set_cons_zero,List.set_cons_succ]) | (refine abt (.inl rfl) (abm (by decide +kernel)) ?_) | row_cond st)
 refine ⟨_,_,rfl,.inl rfl,d,n,es,c,rfl,rfl,by lia,afh ?_⟩
 dsimp only [List.set_cons_zero,List.set_cons_succ,reS]
 row_cond go
 refine adc (webP n es) (webP n es) (arj n es) ?_
 rw [show PyData.tuple [PyData.int n,PyData.list (es.map prD)]=webD n es from rfl,acj (webP n es)]
 row_cond go
 refine ab5 (fun i e=>∃ L I F,e=[some (.io ODk),some (.io (OI d (gF n es))),some (.st (webD n es)),some (.own (OI d (gF n es))),L,I,F]) ⟨_,_,_,rfl⟩ ?_ ?_
 ·rintro i e hi p
  refine exE3 e p fun L I F=>?_
  clear p
  row_cond go
  refine ⟨n,rfl,rfl,by lia,by lia,fun a a0 a1=>?_⟩
  row_cond go
  refine ⟨n,rfl,rfl,by lia,by lia,fun b b0 b1=>?_⟩
  obtain ⟨o,y⟩:∃ o,Gr.farO (Tied es) a b=o:=⟨_,rfl⟩
  have l:aas (oD o)=true:=by cases o <;> rfl
  have v:(oD o).depth<=60:=by cases o <;> simp [oD,PyData.depth]
  repeat (first | (refine abt (.inr rfl) (abm (by decide +kernel)) ?_) | row_cond st)
  refine ⟨_,_,rfl,.inr rfl,d,n,a,b,es,c,rfl,rfl,r,a0,a1,b0,b1,?_⟩
  rw [y]
  dsimp only [List.set_cons_zero,List.set_cons_succ,reS]
  row_cond go
  refine ⟨n,a,b,es,rfl,by lia,u,by lia,a0,a1,b0,b1,?_⟩
  rw [y]
  row_cond go
  refine adc l l v ?_
  rw [acj l]
  repeat (first | (refine abt (i:=3) (.inl rfl) (abm (by decide +kernel)) ?_) | row_cond st)
  refine ⟨_,_,rfl,.inl rfl,d,n,a,b,es,c,rfl,rfl,r,a0,a1,b0,b1,?_⟩
  rw [y]
  dsimp only [List.set_cons_zero,List.set_cons_succ,reS]
  repeat (first | (refine abt (i:=1) (.inr rfl) (abm (by decide +kernel)) ?_) | row_cond st)
  refine ⟨_,_,rfl,.inr rfl,d,n,a,b,es,c,rfl,rfl,r,a0,a1,b0,b1,?_⟩
  rw [y]
  dsimp only [List.set_cons_zero,List.set_cons_succ,reS]
  row_cond go
  refine adc l l v ?_
  rw [acj l]
  row_cond go
  exact ⟨_,_,_,rfl⟩
 ·rintro e p
  refine exE3 e p fun L I F=>?_
  clear p
  row_cond go
  refine ⟨n,es,rfl,R,by lia,u,by lia,fun Z M=>?_⟩
  cases Z with
  | false =>
   row_cond go
   exact G
  | true =>
   have z:=M.mp rfl
   repeat (first | (refine abt (i:=1) (.inr rfl) (abm (by decide +kernel)) ?_) | row_cond st)
   refine ⟨_,_,rfl,.inr rfl,d,n,es,c,rfl,rfl,r,z,fun x a b N=>?_⟩
   dsimp only [List.set_cons_zero,List.set_cons_succ,reS]
   row_cond go
   refine ⟨n,es,rfl,R,by lia,u,by lia,z,fun W U S m=>?_⟩
   obtain ⟨rfl,rfl,rfl⟩:=N.uniq m
   row_cond go
   refine ahz rfl rfl (by simp [PyData.depth,PyData.depthAll]) ?_
   rw [acj rfl]
   repeat (first | (refine abt (i:=3) (.inl rfl) (abm (by decide +kernel)) ?_) | row_cond st)
   refine ⟨_,_,rfl,.inl rfl,d,n,es,c,rfl,rfl,r,z,fun W U S m=>?_⟩
   obtain ⟨rfl,rfl,rfl⟩:=N.uniq m
   dsimp only [List.set_cons_zero,List.set_cons_succ,reS]
   repeat (first | (refine abt (i:=1) (.inr rfl) (abm (by decide +kernel)) ?_) | row_cond st)
   refine ⟨_,_,rfl,.inr rfl,d,n,es,c,rfl,rfl,r,z,fun W U S m=>?_⟩
   obtain ⟨rfl,rfl,rfl⟩:=N.uniq m
   dsimp only [List.set_cons_zero,List.set_cons_succ,reS]
   row_cond go
   refine ahz rfl rfl (by simp [PyData.depth,PyData.depthAll]) ?_
   rw [acj rfl]
   row_cond go
   exact G
end
def a1i (mg:Str->Option Value):VJ:=fun ss Q=>∃ (C:Addr) (n m:Int) (es:List (Int × Int)) (j:Nat) (d:PyData) (p:Int × Int) (l:PyData),mg "Grower" = some (.ref C)/\ss=[.io ODk,.io (OI C (gF n es)),.st d,.st l]/\DW n es j/\j<=98/\Deed n es d m p/\FarN n es l/\∀ qs,Rise qs->qs.Perm (es ++ [p])->Q [some (.io ODk),some (.io (OI C (gF m qs))),none,none] (.st (.bool true))
theorem FarN.top {n x:Int} {es:List (Int × Int)} (h:FarN n es (.int x)):Joined n es/\ad5 n.toNat (dsF es) x:=by
 rcases h with ⟨b,y,a,e⟩ | ⟨_,e⟩
 ·cases e;exact ⟨b,a⟩
 ·cases e
theorem FarN.int {n:Int} {es:List (Int × Int)} {d:PyData} (h:FarN n es d) (a:Joined n es):∃ x,d=.int x:=by
 rcases h with ⟨_,y,_,e⟩ | ⟨z,_⟩
 ·exact ⟨y,e⟩
 ·exact absurd a z
section
variable {P:Program} {w:World} {K:Frag} {mg:Str->Option Value} {base:Heap}
theorem sc_law_step_right:FnScope ["deck","grower","deed","last","ahead","before","now","b","far"] ["deck","grower","deed","last"] (aai s_law_step_right):=by row_cond sc
theorem aee (T:Txt K mg):Can P w K mg base "_law_step_right" 14 ["deck","grower","deed","last"] (spJ K (a1i mg)):=by
 obtain ⟨f,fd,D⟩:=T.d_law_step_right
 obtain ⟨g,r⟩:=T.o_Grower
 have c:=r.mgx
 have W:=T.n_Grower_held _ c
 refine D.can (D.fn.ok sc_law_step_right (fun vs H Q E h=>lenJ h fun ss Q' q=>by obtain ⟨C,n,m,es,j,d,p,l,hC,rfl,G,hj,hd,L,N⟩:=q;rfl) (fun cdv A outer s H vs Q E u h=>?_))
 have nd:=sc_law_step_right.nd
 refine ⟨_,(aac (aak (i:=4) nd rfl (Or.inl rfl) (abh (abi T c) r.cl u (pv 1)))
  (aac (ab0 (aaf (aoe T) u (aaa (pv 1) (aaa (pv 2) aab))) (aco rfl (aax (aam (i:=5) nd rfl (Or.inl rfl)) (aax (aam (i:=6) nd rfl (Or.inl rfl)) ab4))))
  (aac (aa4 (PW.pt (aiv (aat (aea u.units) (pv 5) (pv 3) (aau _)) (agw (aat (aea u.units) (abh (abi T c) r.cl u (pv 1)) (aaf (akt T) u (aaa (pv 4) (aaa (pv 2) aab))) (aau _)))))
   (aag (aao ab9))
   aaw)
  (aac (aa4 (aat aih (pv 5) acv (aau _))
   (aac (aa4 (PW.pt (aiv (PW.pt (ad6 (aat ad1 (aal aa9 (by rfl) T.b_len abz (aaa (pv 2) aab)) aad (aau _)) (adn (aat aiw (pv 6) (pv 5) (aau _))))) (agw (PW.pt (ad6 (aat ad1 (aal aa9 (by rfl) T.b_len abz (aaa (pv 2) aab)) aad (aau _)) (adn (acw (at8 al1 al1 (pv 5) (pv 6) (aav abc (pv 5) aad)))))))))
     (aag (aao ab9))
     aaw)
    (aag (aa4 (aat alz (aap aaq (abh (abe T c) r.cl u (pv 1)) aad (fun _ _=>rfl)) (pv 6) (aau _))
     (aag (aao ab9))
     aaw)))
   aaw)
  (aac (aa4 (aat ad1 (aal aa9 (by rfl) T.b_len abz (aaa (pv 2) aab)) aad (aau _))
   (aac (aak (i:=7) nd rfl (Or.inl rfl) (aaf (aaj T) u (aaa (pv 0) (aaa (aap aaq (pv 4) aad (fun _ _=>rfl)) aab))))
    (aac (aak (i:=8) nd rfl (Or.inl rfl) (acl (acg T c) r.cl u (pv 1) (aaa (aap aaq (pv 2) aad (fun _ _=>rfl)) (aaa (pv 7) aab))))
    (aag (aa4 (aat (aea u.units) (acl (acg T c) r.cl u (pv 1) (aaa (aap aaq (pv 4) aad (fun _ _=>rfl)) (aaa (pv 7) aab))) (ame (aat apa (pv 8) acv (aau _)) acv (aav abc (pv 8) aad)) (aau _))
     (aag (aao ab9))
     aaw))))
   aaw)
  (aag (aao ab9))))))),?_⟩
 refine awp h fun ss Q' q B hK=>?_
 obtain ⟨C,n,m,es,j,d,p,l,hC,rfl,G,hj,hd,L,N⟩:=q
 show EvS B _ _ [some (.io ODk),some (.io (OI C (gF n es))),some (.st d),some (.st l),none,none,none,none,none]
 obtain rfl:g=C:=by have:=c.symm.trans hC;cases this;rfl
 obtain ⟨ds,rfl⟩:∃ ds,d=.tuple ds:=by
  cases hd
  ·exact ⟨_,rfl⟩
  ·exact ⟨_,rfl⟩
 have hG:=G.gw (show j<=100 by lia)
 have O:=G.lo
 have n6:=G.hi
 have F:=hG.inn
 have a4:=G.len
 repeat (first | (refine ack (.inr rfl) (abm (by decide +kernel)) ?_) | row_cond st)
 refine ⟨_,_,rfl,.inr rfl,g,n,es,c,rfl,rfl,by lia,acz ahe ?_⟩
 dsimp only [List.set_cons_zero,List.set_cons_succ,reS]
 row_cond go
 refine ⟨g,n,m,es,j,.tuple ds,p,c,rfl,rfl,G,by lia,hd,fun qs d0 d1 u v h0 U=>?_⟩
 obtain rfl:l=d0:=L.uniq h0
 have M:=hd.dw G v
 have J:=M.gw (show j+1<=100 by lia)
 have S:=M.len
 obtain ⟨p0,z0,b0⟩:=L.plain
 row_cond go
 refine adc p0 p0 (by lia) ?_
 rw [acj p0]
 repeat (first | (refine abt (i:=1) (.inr rfl) (abm (by decide +kernel)) ?_) | row_cond st)
 refine ⟨_,_,rfl,.inr rfl,g,m,qs,c,rfl,rfl,by lia,afh ?_⟩
 dsimp only [List.set_cons_zero,List.set_cons_succ,reS]
 row_cond go
 refine ⟨n,m,es,j,.tuple ds,p,rfl,G,by lia,hd,fun ts a2 Z=>?_⟩
 obtain rfl:qs=ts:=u.eq a2 fun x=>v.mem_iff.trans Z.mem_iff.symm
 row_cond go
 refine adc (webP m qs) (webP m qs) (arj m qs) ?_
 rw [show PyData.tuple [PyData.int m,PyData.list (qs.map prD)]=webD m qs from rfl,acj (webP m qs)]
 row_cond go
 rename_i c_ hc_
 refine' cutR (R:=EvS B c_ { nx:=fun e=>Q' (cutE 4 e) (.st .none),rt:=fun s e=>Q' (cutE 4 e) s } [some (.io ODk),some (.io (OI g (gF m qs))),some (.st (.tuple ds)),some (.st l),some (.st (webD n es)),some (.st l),some (.st d1),none,none]) (fun R=>?K1) ?K2
 case K1 =>
  by_cases hJ:Joined n es
  ·obtain ⟨x,rfl⟩:=L.int hJ
   have hx:=L.top.2
   rw [aE7 (show (!isNone (PyData.int x))=true from rfl)]
   have I:Joined m qs:=by
    cases hd with
    | place a0 a1 hn=>exact aid F O a0 a1 v hJ
    | tie s0 st tn hno=>exact ago O v hJ
   obtain ⟨y,rfl⟩:=U.int I
   have hy:=U.top.2
   row_cond st
   rename_i c2_ hc2_
   refine' cutR (R:=EvS B c2_ ?d2 [some (.io ODk),some (.io (OI g (gF m qs))),some (.st (.tuple ds)),some (.st (.int x)),some (.st (webD n es)),some (.st (.int x)),some (.st (.int y)),none,none]) (fun R2=>?L1) ?L2
   case L1 =>
    have hk:((ds.length:Int)=1/\x<=y/\y<=x+1)\/((ds.length:Int)=2/\y<=x):=by
     cases hd with
     | place a0 a1 hn=>exact .inl ⟨rfl,av8 F O a0 a1 v hJ hx hy⟩
     | tie s0 st tn hno=>exact .inr ⟨rfl,ay3 O v hJ hx hy⟩
    rcases hk with ⟨a3,Y,a5⟩ | ⟨a3,Y⟩
    ·repeat (first | exact R2 | row_cond st)
    ·repeat (first | exact R2 | row_cond st)
   case L2 =>
    repeat (first | (refine abt (i:=1) (.inr rfl) (abm (by decide +kernel)) ?_) | row_cond st)
    refine ⟨_,_,rfl,.inr rfl,g,m,qs,c,rfl,rfl,J,I,fun x' a' b' hF=>?_⟩
    have X:=FarN.uniq (.inl ⟨I,x',hF.top,rfl⟩) U
    cases X
    dsimp only [List.set_cons_zero,List.set_cons_succ,reS]
    repeat (first | exact R | row_cond st)
  ·rcases L with ⟨z,_⟩ | ⟨_,rfl⟩
   ·exact absurd z hJ
   ·rw [aE8 (show ¬ ((!isNone PyData.none)=true) from aA9)]
    repeat (first | exact R | row_cond st)
 case K2 =>
  cases hd with
  | @place a a0 a1 hn =>
   row_cond go
   rw [aD6 (show (([PyData.int a].length:Nat):Int)=1 from rfl)]
   row_cond go
   refine ⟨n,rfl,rfl,by lia,by lia,fun b b0 b1=>?_⟩
   obtain ⟨o,ho⟩:∃ o,Gr.farO (Tied es) a b=o:=⟨_,rfl⟩
   repeat (first | (refine ack (i:=1) (.inr rfl) (abm (by decide +kernel)) ?_) | row_cond st)
   refine ⟨_,_,rfl,.inr rfl,g,n+1,a,b,qs,c,rfl,rfl,J,a0,by lia,b0,by lia,?_⟩
   rw [ait F a1 v a1 b1,ho]
   dsimp only [List.set_cons_zero,List.set_cons_succ,reS]
   repeat (first | (refine abt (i:=1) (.inr rfl) (abm (by decide +kernel)) ?_) | row_cond st)
   refine ⟨_,_,rfl,.inr rfl,g,n+1,n,b,qs,c,rfl,rfl,J,by lia,by lia,b0,by lia,?_⟩
   rw [aiu F a1 v b1,ho]
   dsimp only [List.set_cons_zero,List.set_cons_succ,reS]
   cases o with
   | none =>
    row_cond go
    rw [aE7 (show isNone (oD none)=true from rfl),show oD (Option.map (fun x=>x+1) none)=PyData.none from rfl]
    row_cond go
    refine adc rfl rfl (by simp [PyData.depth]) ?_
    rw [acj rfl]
    row_cond go
    exact N qs u v
   | some k =>
    row_cond go
    rw [aE8 (show ¬ (isNone (oD (some k))=true) from aA9),show oD (Option.map (fun x=>x+1) (some k))=PyData.int ((k:Int)+1) from rfl,show oD (some k)=PyData.int (k:Int) from rfl]
    row_cond go
    refine adc rfl rfl (by simp [PyData.depth]) ?_
    rw [acj rfl]
    row_cond go
    exact N qs u v
  | @tie s t s0 st tn hno =>
   row_cond go
   rw [aD5 (show ¬ (([PyData.int s,PyData.int t].length:Nat):Int)=1 from show ¬ ((2:Nat):Int)=1 by decide)]
   row_cond go
   exact N qs u v
end
def ay4 (mg:Str->Option Value):VIo:=fun A ss Q=>∃ (n:Int) (es:List (Int × Int)),A=ODk/\ss=[.st (webD n es)]/\1<=n/\n<=60/\PsOk n es/\Rise es/\es.length<=1900/\Q ODk (.st (.bool true))
def a1j:VIo:=fun A ss Q=>A=ODk/\ss=[]/\Q ODk (.st (.bool true))
theorem erase_perm {α:Type}:∀ {l:List α} {i:Nat} {x : α},l[i]?=some x->(x :: l.eraseIdx i).Perm l
 | [],_,_,h=>by simp at h
 | y :: l,0,x,h=>by simp at h;subst h;exact List.Perm.refl _
 | y :: l,i+1,x,h=>by
  rw [aH3] at h
  rw [List.eraseIdx_cons_succ]
  exact (List.Perm.swap y x _).trans ((erase_perm h).cons y)
theorem aov (ps:List (Int × Int)):PyData.eqv (.list (ps.map prD)) (.list [])=ps.isEmpty:=by cases ps <;> rfl
theorem a1k (ps:List (Int × Int)):(PyData.list (ps.map prD)).depth<=60:=by
 have h:PyData.depthAll (ps.map prD)<=1:=ad4 fun d hd=>by
  obtain ⟨p,_,rfl⟩:=aB6.mp hd
  exact ahf p
 simp only [PyData.depth]
 lia
section
variable {P:Program} {w:World} {K:Frag} {mg:Str->Option Value} {base:Heap}
theorem sc_law_grown:FnScope ["deck","web","grower","left","a","b"] ["deck","web"] (aai s_law_grown):=by row_cond sc
theorem aly (T:Txt K mg):Can P w K mg base "_law_grown" 14 ["deck","web"] (spI K (ay4 mg)):=by
 obtain ⟨f,fd,D⟩:=T.d_law_grown
 obtain ⟨b,c⟩:=T.o_Grower
 have a:=c.mgx
 have L:=T.n_Grower_held _ a
 refine D.can (D.fn.ok sc_law_grown (fun vs H Q E h=>lenI h fun A ss Q' q=>by obtain ⟨n,es,rfl,rfl,Y,W,G,hR,hl,k⟩:=q;rfl) (fun cdv A outer s H vs Q E p h=>?_))
 have nd:=sc_law_grown.nd
 refine ⟨_,(aac (aak (i:=2) nd rfl (Or.inl rfl) (agj (ab1 T a) c p (aaa (aa3 (aaa (aap aaq (pv 1) aad (fun _ _=>rfl)) (aaa (aa2 aab) aab))) aab)))
  (aac (aak (i:=3) nd rfl (Or.inl rfl) (adp age (by rfl) T.b_list afw (aaa (aap aaq (pv 1) aad (fun _ _=>rfl)) aab)))
  (aac (aie aI6 (aat (aea p.units) (pv 3) (aa2 aab) (aau _))
   (aac (ab0 (ac1 PySem.F.plainAttrs_list PySem.F.slot_list_pop PySem.F.type_list_pop aml (pv 3) (aaa (aaf (aaj T) p (aaa (pv 0) (aaa (aal aa9 (by rfl) T.b_len abz (aaa (pv 3) aab)) aab))) aab)) (aco rfl (aax (aam (i:=4) nd rfl (Or.inl rfl)) (aax (aam (i:=5) nd rfl (Or.inl rfl)) ab4))))
    (aag (abj (acl (adx T a) c.cl p (pv 2) (aaa (pv 4) (aaa (pv 5) aab)))))))
  (aag (aao (aes (ado (ajd p.units) (abh (abi T a) c.cl p (pv 2)) (pv 1) (aau _)) (aer (aaf (ae7 T) p (aaa (pv 0) (aaa (pv 2) aab)))))))))),?_⟩
 refine ac5 h fun A0 ss Q' q B hK=>?_
 obtain ⟨n,es,rfl,rfl,Y,W,G,hR,hl,k⟩:=q
 show EvS B _ _ [some (.io ODk),some (.st (webD n es)),none,none,none,none]
 repeat (first | (refine agh (by assumption) ?_) | row_cond st)
 refine ⟨b,n,[],a,rfl,rfl,rfl,?_⟩
 repeat (first | (refine agk 2 rfl ?_;dsimp only [List.set_cons_zero,List.set_cons_succ]) | row_cond st)
 refine aha (fun m e=>∃ v4 Z us d,e=[some (.io ODk),some (.st (webD n es)),some (.own (OI b (gF n us))),some (.own (OL (d.map prD))),v4,Z]/\(us ++ d).Perm es/\Rise us/\d.length=m) ⟨_,_,_,[],es,rfl,List.Perm.refl _,List.Pairwise.nil,rfl⟩ ?_
 rintro m e v
 refine exS4 e v fun v4 Z us d g=>?_
 have o:=g.1
 have R:=g.2.1
 have J:=g.2.2
 clear g v
 subst J
 row_cond go
 refine adc (agg d) rfl (a1k d) ?_
 rw [aov]
 have a0:us.length+d.length<=1900:=by have:=o.length_eq;rw [aB0] at this;lia
 have C:InN n us:=fun q u=>by have:=G.inn q (o.mem_iff.mp (aA7.mpr (.inl u)));exact ⟨by lia,by lia,by lia,by lia⟩
 have X:GW n us:=⟨Y,by lia,C,by lia⟩
 by_cases hls:d=[]
 ·subst hls
  rw [aE4] at o
  obtain rfl:us=es:=R.eq hR fun x=>o.mem_iff
  rw [show ([]:List (Int × Int)).isEmpty=true from rfl]
  repeat (first | (refine abt (i:=2) (.inl rfl) (abm (by decide +kernel)) ?_) | row_cond st)
  refine ⟨_,_,rfl,.inl rfl,b,n,us,a,rfl,rfl,by lia,afh ?_⟩
  dsimp only [List.set_cons_zero,List.set_cons_succ,reS]
  row_cond go
  refine ahz (webP n us) (webP n us) (arj n us) ?_
  rw [show PyData.tuple [PyData.int n,PyData.list (us.map prD)]=webD n us from rfl,acj (webP n us)]
  repeat (first | (refine ahh (by assumption) ?_) | (refine agl (by assumption) ?_) | (refine adq (s:=.own _) rfl ?_) | (refine adq (s:=.io _) rfl ?_) | (refine af0 ?_) | row_cond st)
  refine ⟨_,.rf (.inr rfl) (.rf (.inl rfl) .nil),(by show List.Nodup [0,2];decide),b,n,us,a,rfl,X,W,?_⟩
  refine ⟨_,.rf rfl (.inr rfl) (.rf rfl (.inl rfl) .nil),?_⟩
  dsimp only [List.set_cons_zero,List.set_cons_succ,reS]
  row_cond go
  exact k
 ·have a1:0 < d.length:=aF1.mpr hls
  rw [show d.isEmpty=false by cases d with | nil=>exact absurd rfl hls | cons=>rfl]
  repeat (first | (refine aa7 (anj (.inl rfl) ?_)) | row_cond st)
  rw [aA3]
  refine ⟨(d.length:Int),rfl,rfl,by lia,by lia,fun r r0 r1=>?_⟩
  obtain ⟨q,u⟩:∃ q,d[r.toNat]?=some q:=⟨_,aA0 (by lia)⟩
  have l:(q :: d.eraseIdx r.toNat).Perm d:=erase_perm u
  have M:q∈es:=o.mem_iff.mp (aA7.mpr (.inr (aA2 u)))
  have S:=G.inn q M
  have j:=o.nodup_iff.mpr G.nd
  have O:q ∉ us:=fun z=>(aE2.mp j).2.2 q z q (aA2 u) rfl
  refine ajj ⟨_,d.map prD,r,r.toNat,prD q,rfl,rfl,.inl rfl,by lia,by lia,atx r0 (by rw [aA3];exact r1),by rw [aA5,u];rfl,?_⟩
  dsimp only [List.set_cons_zero,List.set_cons_succ,reS]
  repeat (first | (refine ack (i:=2) (.inl rfl) (abm (by decide +kernel)) ?_) | row_cond st)
  refine ⟨_,_,rfl,.inl rfl,b,n,q.1,q.2,us,a,rfl,rfl,X,⟨fun x N=>by cases aC1.mp N;exact S,aE2.mpr ⟨(aE2.mp j).1,by simp,fun x N y hy e=>by cases aC1.mp hy;exact O (by have h:x=q:=e;rw [← h];exact N)⟩⟩,by lia,fun ts d0 d1 U I _ _=>?_⟩
  dsimp only [List.set_cons_zero,List.set_cons_succ,reS]
  row_cond go
  refine ⟨(d.eraseIdx r.toNat).length,by have:=l.length_eq;rw [aE0] at this;lia,_,_,ts,d.eraseIdx r.toNat,by rw [afk],?_,U,rfl⟩
  have h1:(ts ++ d.eraseIdx r.toNat).Perm (us ++ [q] ++ d.eraseIdx r.toNat):=List.Perm.append_right _ I
  have h2:(us ++ [q] ++ d.eraseIdx r.toNat).Perm (us ++ d):=by
   rw [aB3]
   exact List.Perm.append_left _ l
  exact h1.trans (h2.trans o)
end
theorem ark:Joined 1 []:=fun v v0 a=>by
 obtain rfl:v=0:=by lia
 exact ⟨0,Gr.Dist.self _ _⟩
theorem ay5:ad5 (1:Int).toNat (dsF []) 0:=by
 refine ⟨⟨0,0,by lia,by decide,by lia,by decide,agn _ _⟩,fun u v f a v0 b=>?_⟩
 have d:u < 1:=a
 have c:v < 1:=b
 obtain rfl:u=0:=by lia
 obtain rfl:v=0:=by lia
 rw [agn]
 exact Int.le_refl 0
def a2l (n:Int) (es:List (Int × Int)) (d:PyData):Prop:=d=.none\/∃ m p,Deed n es d m p
theorem Deed.not {n m:Int} {es:List (Int × Int)} {d:PyData} {p:Int × Int} (h:Deed n es d m p):isNone d=false:=by cases h <;> rfl
theorem Deed.joined {n m:Int} {es qs:List (Int × Int)} {d:PyData} {p:Int × Int} (h:Deed n es d m p) (a:InN n es) (b:1<=n) (c:qs.Perm (es ++ [p])) (f:Joined n es):Joined m qs:=by
 cases h with
 | place a0 a1 hn=>exact aid a b a0 a1 c f
 | tie s0 st tn hno=>exact ago b c f
theorem Deed.up {n m:Int} {es:List (Int × Int)} {d:PyData} {p:Int × Int} (h:Deed n es d m p):m<=n+1:=by
 cases h <;> lia
section
variable {P:Program} {w:World} {K:Frag} {mg:Str->Option Value} {base:Heap}
theorem sc_law_long:FnScope ["deck","grower","last","k","web","deed"] ["deck"] (aai s_law_long):=by row_cond sc
theorem aoh (T:Txt K mg):Can P w K mg base "_law_long" 15 ["deck"] (spI K (a1j)):=by
 obtain ⟨f,fd,D⟩:=T.d_law_long
 obtain ⟨c,g⟩:=T.o_Grower
 have b:=g.mgx
 have G:=T.n_Grower_held _ b
 refine D.can (D.fn.ok sc_law_long (fun vs H Q E h=>lenI h fun A ss Q' q=>by obtain ⟨rfl,rfl,k⟩:=q;rfl) (fun cdv A outer s H vs Q E u h=>?_))
 have nd:=sc_law_long.nd
 refine ⟨_,(aac (aak (i:=1) nd rfl (Or.inl rfl) (agj (ab1 T b) g u (aaa (aa3 (aaa aad (aaa (aa2 aab) aab))) aab)))
  (aac (aak (i:=2) nd rfl (Or.inl rfl) aad)
  (aac (abp aI6 rfl (abg rfl T.b_range (aaa (aav abc aad (aaf (aaj T) u (aaa (pv 0) (aaa aad aab)))) aab)) (aam (i:=3) nd rfl (Or.inl rfl))
   (aac (aak (i:=4) nd rfl (Or.inl rfl) (abh (abi T b) g.cl u (pv 1)))
    (aac (aak (i:=5) nd rfl (Or.inl rfl) (aa3 (aaa (aaf (aaj T) u (aaa (pv 0) (aaa (aap aaq (pv 4) aad (fun _ _=>rfl)) aab))) aab)))
    (aac (aa4 (aat ad1 (aaf (aaj T) u (aaa (pv 0) (aaa aad aab))) aad (aau _))
     (aag (aak (i:=5) nd rfl (Or.inl rfl) (aaf (ahl T) u (aaa (pv 0) (aaa (pv 4) aab)))))
     aaw)
    (aac (aa4 (PW.pt (ad6 (aat aih (pv 5) acv (aau _)) (adn (acw (aca (aaf (aee T) u (aaa (pv 0) (aaa (pv 1) (aaa (pv 5) (aaa (pv 2) aab))))))))))
     (aag (aao ab9))
     aaw)
    (aag (aak (i:=2) nd rfl (Or.inl rfl) (aap aaq (abh (abe T b) g.cl u (pv 1)) aad (fun _ _=>rfl)))))))))
  (aag (aao (aaf (ae7 T) u (aaa (pv 0) (aaa (pv 1) aab)))))))),?_⟩
 refine ac5 h fun A0 ss Q' q B hK=>?_
 obtain ⟨rfl,rfl,k⟩:=q
 show EvS B _ _ [some (.io ODk),none,none,none,none,none]
 repeat (first | (refine agh (by assumption) ?_) | row_cond st)
 refine ⟨c,1,[],b,rfl,rfl,rfl,?_⟩
 repeat (first | (refine agk 1 rfl ?_;dsimp only [List.set_cons_zero,List.set_cons_succ]) | row_cond st)
 refine ⟨40,rfl,rfl,by lia,by lia,fun r r0 r1=>?_⟩
 row_cond go
 refine ab5 (fun i e=>∃ L S F n es x,e=[some (.io ODk),some (.own (OI c (gF n es))),some (.st (.int x)),L,S,F]/\DW n es i/\Joined n es/\n<=1+(i:Int)/\ad5 n.toNat (dsF es) x) ⟨_,_,_,1,[],0,rfl,⟨by lia,by lia,PsOk.nil 1,by simp⟩,ark,by lia,ay5⟩ ?_ ?_
 ·rintro i e hi o
  refine exS6 e o fun L S F n es x j=>?_
  have l:=j.1
  have y:=j.2.1
  have N:=j.2.2.1
  have X:=j.2.2.2
  clear j o
  have a3:i < 59:=by lia
  have Y:=l.lo
  have C:=l.gw (show i<=100 by lia)
  have W:=l.len
  repeat (first | (refine ack (i:=1) (.inl rfl) (abm (by decide +kernel)) ?_) | row_cond st)
  refine ⟨_,_,rfl,.inl rfl,c,n,es,b,rfl,rfl,by lia,acz ahe ?_⟩
  dsimp only [List.set_cons_zero,List.set_cons_succ,reS]
  row_cond go
  refine ⟨n,rfl,rfl,by lia,by lia,fun a a0 a1=>?_⟩
  row_cond go
  refine ⟨8,rfl,rfl,by lia,by lia,fun q q0 q1=>?_⟩
  row_cond go
  rename_i c_ hc_
  refine' cutR (R:=∀ d,a2l n es d->EvS B c_ ?d1 [some (.io ODk),some (.own (OI c (gF n es))),some (.st (.int x)),some (.st (.int (0+(i:Int)))),some (.st (webD n es)),some (.st d)]) (fun R=>?K1) ?K2
  case K1 =>
   refine ac6 (fun h=>?_) (fun h=>?_)
   ·row_cond go
    refine ⟨n,es,i,rfl,rfl,l,by lia,?_,fun d Z p hd=>?_⟩
    ·repeat (first | exact R _ (.inl rfl) | row_cond st)
    ·repeat (first | exact R _ (.inr ⟨Z,p,hd⟩) | row_cond st)
   ·repeat (first | exact R _ (.inr ⟨_,_,Deed.place a0 a1 (by lia)⟩) | row_cond st)
  case K2 =>
   intro d M
   rcases M with rfl | ⟨m,p,hd⟩
   ·row_cond go
    rw [aE8 (show ¬ ((!isNone PyData.none)=true) from aA9)]
    repeat (first | (refine abt (i:=1) (.inl rfl) (abm (by decide +kernel)) ?_) | row_cond st)
    refine ⟨_,_,rfl,.inl rfl,c,n,es,b,rfl,rfl,C,y,fun I a' b' J=>?_⟩
    dsimp only [List.set_cons_zero,List.set_cons_succ,reS]
    row_cond go
    exact ⟨_,_,_,n,es,I,rfl,⟨l.lo,l.hi,l.ps,by lia⟩,y,by lia,J.top⟩
   ·row_cond go
    rw [hd.not,aE7 (show (!false)=true from rfl)]
    repeat (first | (refine agl (by assumption) ?_) | (refine adq (s:=.own _) rfl ?_) | (refine adq (s:=.io _) rfl ?_) | (refine air ?_) | (refine af0 ?_) | row_cond st)
    refine ⟨_,.rf (.inr rfl) (.rf (.inl rfl) (.pl (.pl .nil))),(by show List.Nodup [0,1];decide),c,n,m,es,i,d,p,.int x,b,rfl,l,by lia,hd,.inl ⟨y,x,X,rfl⟩,fun qs u U=>?_⟩
    have z:=hd.dw l U
    have O:=z.gw (show i+1<=100 by lia)
    have v:=hd.joined C.inn Y U y
    have a2:=hd.up
    refine ⟨_,.rf rfl (.inr rfl) (.rf rfl (.inl rfl) (.pl (.pl .nil))),ajj ?_⟩
    dsimp only [List.set_cons_zero,List.set_cons_succ,reS]
    repeat (first | (refine abt (i:=1) (.inl rfl) (abm (by decide +kernel)) ?_) | row_cond st)
    refine ⟨_,_,rfl,.inl rfl,c,m,qs,b,rfl,rfl,O,v,fun I a' b' J=>?_⟩
    dsimp only [List.set_cons_zero,List.set_cons_succ,reS]
    row_cond go
    exact ⟨_,_,_,m,qs,I,rfl,z,v,by lia,J.top⟩
 ·rintro e o
  refine exS6 e o fun L S F n es x j=>?_
  have l:=j.1
  have y:=j.2.1
  have N:=j.2.2.1
  have X:=j.2.2.2
  clear j o
  have C:=l.gw (by lia)
  repeat (first | (refine ahh (by assumption) ?_) | (refine adq (s:=.own _) rfl ?_) | (refine adq (s:=.io _) rfl ?_) | (refine af0 ?_) | row_cond st)
  refine ⟨_,.rf (.inr rfl) (.rf (.inl rfl) .nil),(by show List.Nodup [0,1];decide),c,n,es,b,rfl,C,l.hi,?_⟩
  refine ⟨_,.rf rfl (.inr rfl) (.rf rfl (.inl rfl) .nil),?_⟩
  dsimp only [List.set_cons_zero,List.set_cons_succ,reS]
  row_cond go
  exact k
theorem sc_law:FnScope ["script","deck","k","web","grower","last","turn","deed","small"] ["script"] (aai s_law):=by row_cond sc
theorem ay6 (T:Txt K mg) {f:Addr} {fd:FuncData} (D:DefAt K mg "law" s_law ["script"] f fd):FnOk P w K mg base CX0 16 f fd ["script"] (spP K (awr)):=by
 obtain ⟨g,o⟩:=T.o_Grower
 have c:=o.mgx
 have a4:=T.n_Grower_held _ c
 refine D.fn.ok sc_law (fun vs H Q E h=>lenP h fun ss Q' q=>by obtain ⟨ns,rfl,Y,kk⟩:=q;rfl) (fun cdv A outer s H vs Q E y h=>?_)
 have nd:=sc_law.nd
 refine ⟨_,(aac (aak (i:=1) nd rfl (Or.inl rfl) (aaf (an9 T) y (aaa (pv 0) aab)))
  (aac (abp aI6 rfl (abg rfl T.b_range (aaa aad aab)) (aam (i:=2) nd rfl (Or.inl rfl))
   (aac (aak (i:=3) nd rfl (Or.inl rfl) (aap aaq (aa2 (aaa (aa3 (aaa aad (aaa (aa2 aab) aab))) (aaa (aaf (ahk T) y (aaa (pv 1) aab)) (aaa (aaf (afq T) y (aaa (pv 1) aab)) aab)))) (aaf (aaj T) y (aaa (pv 1) (aaa aad aab))) (fun _ _=>rfl)))
    (aac (aak (i:=4) nd rfl (Or.inl rfl) (agj (ab1 T c) o y (aaa (pv 3) aab)))
    (aac (aak (i:=5) nd rfl (Or.inl rfl) acv)
    (aac (aa4 (aca (aaf (acx T) y (aaa (pv 3) aab)))
     (aag (aak (i:=5) nd rfl (Or.inl rfl) (aap aaq (aaf (acu T) y (aaa (pv 3) aab)) aad (fun _ _=>rfl))))
     aaw)
    (aac (abp aI6 rfl (abg rfl T.b_range (aaa aad aab)) (aam (i:=6) nd rfl (Or.inl rfl))
     (aac (aak (i:=7) nd rfl (Or.inl rfl) (aaf (ahl T) y (aaa (pv 1) (aaa (abh (abi T c) o.cl y (pv 4)) aab))))
      (aag (aa4 (aat aih (pv 7) acv (aau _))
       (aac (aa4 (PW.pt (aiv (acw (aca (aaf (aee T) y (aaa (pv 1) (aaa (pv 4) (aaa (pv 7) (aaa (pv 5) aab))))))) (agw (acw (aca (aaf (ae7 T) y (aaa (pv 1) (aaa (pv 4) aab))))))))
         (aag (aao ab9))
         aaw)
        (aac (aak (i:=5) nd rfl (Or.inl rfl) acv)
        (aag (aa4 (aca (aaf (acx T) y (aaa (abh (abi T c) o.cl y (pv 4)) aab)))
         (aag (aak (i:=5) nd rfl (Or.inl rfl) (aap aaq (abh (abe T c) o.cl y (pv 4)) aad (fun _ _=>rfl))))
         aaw))))
       aaw))))
    (aac (aak (i:=8) nd rfl (Or.inl rfl) (aaf (afq T) y (aaa (pv 1) aab)))
    (aag (aa4 (PW.pt (ad6 (aat al0 (aal aa9 (by rfl) T.b_len abz (aaa (aap aaq (pv 8) aad (fun _ _=>rfl)) aab)) aad (aau _)) (adn (acw (aca (aaf (aly T) y (aaa (pv 1) (aaa (pv 8) aab))))))))
     (aag (aao ab9))
     aaw)))))))))
  (aag (aao (a1m (ado aiw (aaf (aaj T) y (aaa (pv 1) (aaa aad aab))) aad (aau _)) (aer (aaf (aoh T) y (aaa (pv 1) aab)))))))),?_⟩
 refine abr h fun ss Q' q B hK=>?_
 refine exS1 ss q fun ns v=>?_
 have Y:=v.1
 have kk:=v.2
 clear v q
 show EvS B _ _ [some (.scr ns),none,none,none,none,none,none,none,none]
 row_cond go
 refine ⟨ns,rfl,Y,?_⟩
 row_cond go
 refine ab5 (fun i e=>∃ v2 S v4 v5 L O N,e=[some (.scr ns),some (.own ODk),v2,S,v4,v5,L,O,N]) ⟨_,_,_,_,_,_,_,rfl⟩ ?_ ?_
 ·rintro i e hi u
  refine exE7 e u fun v2 S v4 v5 L O N=>?_
  clear u
  row_cond go
  refine ⟨rfl,rfl,fun n1 X a0 a1 aP aL aJ=>?_⟩
  row_cond go
  refine ⟨rfl,rfl,fun n2 Z b0 b1 bP bL _=>?_⟩
  row_cond go
  refine ⟨3,rfl,rfl,by lia,by lia,fun r r0 r1=>?_⟩
  obtain ⟨n,es,a5,C⟩:∃ n es,atI [PyData.tuple [.int 1,.list []],webD n1 X,webD n2 Z] r=some (webD n es)/\DW n es 60:=by
   rcases (show r=0\/r=1\/r=2 by lia) with rfl | rfl | rfl
   ·exact ⟨1,[],rfl,by lia,by lia,PsOk.nil 1,by simp⟩
   ·exact ⟨n1,X,rfl,a0,a1,aP,by lia⟩
   ·exact ⟨n2,Z,rfl,b0,b1,bP,by lia⟩
  have n0:=C.lo
  have n6:=C.hi
  have hG:=C.gw (show 60<=100 by lia)
  have I:=hG.inn
  have M:=C.len
  repeat (first | (refine agh (by assumption) ?_) | row_cond st)
  refine ⟨g,n,es,c,rfl,rfl,rfl,?_⟩
  repeat (first | (refine agk 4 rfl ?_;dsimp only [List.set_cons_zero,List.set_cons_succ]) | row_cond st)
  refine ⟨n,es,rfl,n0,by lia,I,by lia,fun bj G=>?_⟩
  rename_i c_ hc_
  refine' cutR (R:=∀ l,FarN n es l->EvS B c_ ?d1 [some (.scr ns),some (.own ODk),some (.st (.int (0+(i:Int)))),some (.st (webD n es)),some (.own (OI g (gF n es))),some (.st l),L,O,N]) (fun R=>?K1) ?K2
  case K1 =>
   cases bj with
   | true =>
    have J:=G.mp rfl
    row_cond go
    refine ⟨n,es,rfl,n0,by lia,I,by lia,J,fun x a b hF=>?_⟩
    repeat (first | exact R _ (.inl ⟨J,x,hF.top,rfl⟩) | row_cond st)
   | false =>
    have J:¬ Joined n es:=fun z=>by have:=G.mpr z;cases this
    repeat (first | exact R _ (.inr ⟨J,rfl⟩) | row_cond st)
  case K2 =>
   intro l W
   row_cond go
   refine ab5 (fun j e=>∃ S L O N n es l,e=[some (.scr ns),some (.own ODk),some (.st (.int (0+(i:Int)))),S,some (.own (OI g (gF n es))),some (.st l),L,O,N]/\DW n es (60+j)/\FarN n es l) ⟨_,_,_,_,n,es,l,rfl,C,W⟩ ?_ ?_
   ·clear W C hG I M a5 n0 n6 G l
    rintro j e hj u
    refine exS7 e u fun S L O N n es l v=>?_
    have C:=v.1
    have W:=v.2
    clear v u
    have a6:j < 9:=hj
    have n0:=C.lo
    have n6:=C.hi
    have hG:=C.gw (show 60+j<=100 by lia)
    have I:=hG.inn
    have M:=C.len
    repeat (first | (refine abt (i:=4) (.inl rfl) (abm (by decide +kernel)) ?_) | row_cond st)
    refine ⟨_,_,rfl,.inl rfl,g,n,es,c,rfl,rfl,by lia,afh ?_⟩
    dsimp only [List.set_cons_zero,List.set_cons_succ,reS]
    row_cond go
    refine ⟨n,es,60+j,rfl,rfl,C,by lia,?_,fun d m p hd=>?_⟩
    ·row_cond go
     rw [aE8 (show ¬ ((!isNone PyData.none)=true) from aA9)]
     row_cond go
     exact ⟨_,_,_,_,n,es,l,rfl,⟨C.lo,C.hi,C.ps,by lia⟩,W⟩
    ·row_cond go
     rw [hd.not,aE7 (show (!false)=true from rfl)]
     repeat (first | (refine agl (by assumption) ?_) | (refine adq (s:=.own _) rfl ?_) | (refine air ?_) | (refine af0 ?_) | row_cond st)
     refine ⟨_,.rf (.inl rfl) (.rf (.inl rfl) (.pl (.pl .nil))),(by show List.Nodup [1,4];decide),g,n,m,es,60+j,d,p,l,c,rfl,C,by lia,hd,W,fun qs y hq=>?_⟩
     have F:=hd.dw C hq
     have U:=F.gw (show 60+j+1<=100 by lia)
     refine ⟨_,.rf rfl (.inl rfl) (.rf rfl (.inl rfl) (.pl (.pl .nil))),ajj ?_⟩
     dsimp only [List.set_cons_zero,List.set_cons_succ,reS]
     repeat (first | (refine agl (by assumption) ?_) | (refine adq (s:=.own _) rfl ?_) | (refine air ?_) | (refine af0 ?_) | row_cond st)
     refine ⟨_,.rf (.inl rfl) (.rf (.inl rfl) .nil),(by show List.Nodup [1,4];decide),g,m,qs,c,rfl,U,F.hi,?_⟩
     refine ⟨_,.rf rfl (.inl rfl) (.rf rfl (.inl rfl) .nil),ajj ?_⟩
     dsimp only [List.set_cons_zero,List.set_cons_succ,reS]
     have a3:=F.len
     have m0:=F.lo
     have m6:=F.hi
     repeat (first | (refine abt (i:=4) (.inl rfl) (abm (by decide +kernel)) ?_) | row_cond st)
     refine ⟨_,_,rfl,.inl rfl,g,m,qs,c,rfl,rfl,by lia,afh ?_⟩
     dsimp only [List.set_cons_zero,List.set_cons_succ,reS]
     row_cond go
     refine ⟨m,qs,rfl,m0,by lia,U.inn,by lia,fun bj G=>?_⟩
     cases bj with
     | true =>
      have J:=G.mp rfl
      repeat (first | (refine abt (i:=4) (.inl rfl) (abm (by decide +kernel)) ?_) | row_cond st)
      refine ⟨_,_,rfl,.inl rfl,g,m,qs,c,rfl,rfl,U,J,fun x a b hF=>?_⟩
      dsimp only [List.set_cons_zero,List.set_cons_succ,reS]
      row_cond go
      exact ⟨_,_,_,_,m,qs,_,rfl,F,.inl ⟨J,x,hF.top,rfl⟩⟩
     | false =>
      have J:¬ Joined m qs:=fun z=>by have:=G.mpr z;cases this
      row_cond go
      exact ⟨_,_,_,_,m,qs,_,rfl,F,.inr ⟨J,rfl⟩⟩
   ·rintro e u
    refine exS7 e u fun S L O N n es l v=>?_
    have C:=v.1
    have W:=v.2
    clear v u
    row_cond go
    refine ⟨rfl,rfl,fun n3 a2 c0 c1 cP cL cR=>?_⟩
    row_cond go
    refine ac6 (fun h=>?_) (fun h=>?_)
    ·row_cond go
     refine ⟨n3,a2,rfl,rfl,c0,c1,cP,cR,cL,?_⟩
     row_cond go
     exact ⟨_,_,_,_,_,_,_,rfl⟩
    ·row_cond go
     exact ⟨_,_,_,_,_,_,_,rfl⟩
 ·rintro e u
  refine exE7 e u fun v2 S v4 v5 L O N=>?_
  clear u
  row_cond go
  refine ⟨8,rfl,rfl,by lia,by lia,fun r r0 r1=>?_⟩
  row_cond go
  refine ac6 (fun h=>?_) (fun h=>?_)
  ·exact kk
  ·row_cond go
   refine ⟨rfl,rfl,?_⟩
   row_cond go
   exact kk
theorem a1l (T:Txt K mg) {f:Addr} {fd:FuncData} (D:DefAt K mg "law" s_law ["script"] f fd):FnOk P w K mg base CX0 16 f fd ["script"] (ari K):=(ay6 T D).imp fun _ _ _ _ h=>av5 h
end
theorem len0 {α:Type} {us:List α} (h:us.length=0):us=[]:=aG4 h
theorem len1 {α:Type} {us:List α} (h:us.length=1):∃ a0,us=[a0]:=by
 cases us with
 | nil=>cases h
 | cons a us=>exact ⟨a,by rw [len0 (Nat.succ.inj h)]⟩
theorem len2 {α:Type} {us:List α} (h:us.length=2):∃ a0 a1,us=[a0,a1]:=by
 cases us with
 | nil=>cases h
 | cons a us=>obtain ⟨a1,e⟩:=len1 (Nat.succ.inj h);exact ⟨a,a1,by rw [e]⟩
theorem len3 {α:Type} {us:List α} (h:us.length=3):∃ a0 a1 b,us=[a0,a1,b]:=by
 cases us with
 | nil=>cases h
 | cons a us=>obtain ⟨a1,b,e⟩:=len2 (Nat.succ.inj h);exact ⟨a,a1,b,by rw [e]⟩
theorem len4 {α:Type} {us:List α} (h:us.length=4):∃ a0 a1 c b,us=[a0,a1,c,b]:=by
 cases us with
 | nil=>cases h
 | cons a us=>obtain ⟨a1,c,b,e⟩:=len3 (Nat.succ.inj h);exact ⟨a,a1,c,b,by rw [e]⟩
def Bnd (x:Str) (st:Stmt) (ps:List Str):Prop:=∀ (kV doc pm:Value) (an:Option Addr) (cdv ct:Value) (us:List Value),us.length=ps.length->bindArgs (fnOf x x (abn st) (abk st) (aai st) .none kV doc pm an cdv ct) ⟨us,[]⟩=pure (ps.zip us)
def FnIn (K:Frag) (x:Str) (st:Stmt):Prop:=∃ f oc od kV dc pm an cd ct sl,nsIn K mainGlobals x=some (some (.ref f))/\K.lookup f=some ⟨oc,od,.func (fnOf x x (abn st) (abk st) (aai st) .none kV dc pm an cd ct),sl⟩/\codeIn K cd x=true/\keepIn K (.ref f)=true
theorem fn_in {K:Frag} {x:Str} {st:Stmt} {f:Addr} {od an:Option Addr} {sl:Array (Option Value)} {oc kV d pm b ct:Value} (a:nsIn K mainGlobals x=some (some (.ref f))) (l:K.lookup f=some ⟨oc,od,.func (fnOf x x (abn st) (abk st) (aai st) .none kV d pm an b ct),sl⟩) (c:codeIn K b x=true) (k:keepIn K (.ref f)=true):FnIn K x st:=⟨f,oc,od,kV,d,pm,an,b,ct,sl,a,l,c,k⟩
theorem bnd1 {st:Stmt} {x:Str} {ps:List Str} (c:ps.length=1) (h:∀ (kV doc pm:Value) (an:Option Addr) (cdv ct:Value) (b:Value),bindArgs (fnOf x x (abn st) (abk st) (aai st) .none kV doc pm an cdv ct) ⟨[b],[]⟩=pure (ps.zip [b])):Bnd x st ps:=by
 intro kV doc pm an cdv ct us a
 rw [c] at a
 obtain ⟨_,rfl⟩:=len1 a
 exact h _ _ _ _ _ _ _
theorem bnd2 {st:Stmt} {x:Str} {ps:List Str} (d:ps.length=2) (h:∀ (kV doc pm:Value) (an:Option Addr) (cdv ct:Value) (c a:Value),bindArgs (fnOf x x (abn st) (abk st) (aai st) .none kV doc pm an cdv ct) ⟨[c,a],[]⟩=pure (ps.zip [c,a])):Bnd x st ps:=by
 intro kV doc pm an cdv ct us b
 rw [d] at b
 obtain ⟨_,_,rfl⟩:=len2 b
 exact h _ _ _ _ _ _ _ _
theorem bnd3 {st:Stmt} {x:Str} {ps:List Str} (f:ps.length=3) (h:∀ (kV doc pm:Value) (an:Option Addr) (cdv ct:Value) (d a b:Value),bindArgs (fnOf x x (abn st) (abk st) (aai st) .none kV doc pm an cdv ct) ⟨[d,a,b],[]⟩=pure (ps.zip [d,a,b])):Bnd x st ps:=by
 intro kV doc pm an cdv ct us c
 rw [f] at c
 obtain ⟨_,_,_,rfl⟩:=len3 c
 exact h _ _ _ _ _ _ _ _ _
theorem bnd4 {st:Stmt} {x:Str} {ps:List Str} (g:ps.length=4) (h:∀ (kV doc pm:Value) (an:Option Addr) (cdv ct:Value) (d a b f:Value),bindArgs (fnOf x x (abn st) (abk st) (aai st) .none kV doc pm an cdv ct) ⟨[d,a,b,f],[]⟩=pure (ps.zip [d,a,b,f])):Bnd x st ps:=by
 intro kV doc pm an cdv ct us c
 rw [g] at c
 obtain ⟨_,_,_,_,rfl⟩:=len4 c
 exact h _ _ _ _ _ _ _ _ _ _
theorem aay {K:Frag} {h:Heap} {mg:Str->Option Value} {x:Str} {st:Stmt} {ps:List Str} (X:K.In h) (G:h.Ns mainGlobals mg) (q:FnIn K x st)
  (hb:Bnd x st ps):∃ f fd,DefAt K mg x st ps f fd:=by
 obtain ⟨f,oc,od,kV,b,pm,an,d,ct,sl,a,l,c,k⟩:=q
 exact ⟨_,_,have F:=asa (st:=st) l c k;⟨F,mg_of X G a,F.binds hb⟩⟩
def MBnd (x y:Str) (st:Stmt) (ps:List Str):Prop:=∀ (kV doc pm:Value) (an:Option Addr) (cdv ct:Value) (us:List Value),us.length=ps.length->bindArgs (fnOf x y (abn st) (abk st) (aai st) .none kV doc pm an cdv ct) ⟨us,[]⟩=pure (ps.zip us)
def MeIn (K:Frag) (C:Addr) (x y:Str) (st:Stmt):Prop:=∃ f oc od kV dc pm an cd ct sl,PySem.W.findIn K (.ref C) x=some (some (.ref f))/\PySem.W.isFn K (.ref f)=true/\K.lookup f=some ⟨oc,od,.func (fnOf x y (abn st) (abk st) (aai st) .none kV dc pm an cd ct),sl⟩/\codeIn K cd y=true/\keepIn K (.ref f)=true
theorem me_in {K:Frag} {C:Addr} {x y:Str} {st:Stmt} {f:Addr} {od an:Option Addr} {sl:Array (Option Value)} {oc kV d pm b ct:Value} (a:PySem.W.findIn K (.ref C) x=some (some (.ref f))) (i:PySem.W.isFn K (.ref f)=true) (l:K.lookup f=some ⟨oc,od,.func (fnOf x y (abn st) (abk st) (aai st) .none kV d pm an b ct),sl⟩) (c:codeIn K b y=true) (k:keepIn K (.ref f)=true):MeIn K C x y st:=⟨f,oc,od,kV,d,pm,an,b,ct,sl,a,i,l,c,k⟩
theorem mbn1 {st:Stmt} {x y:Str} {ps:List Str} (c:ps.length=1) (h:∀ (kV doc pm:Value) (an:Option Addr) (cdv ct:Value) (b:Value),bindArgs (fnOf x y (abn st) (abk st) (aai st) .none kV doc pm an cdv ct) ⟨[b],[]⟩=pure (ps.zip [b])):MBnd x y st ps:=by
 intro kV doc pm an cdv ct us a
 rw [c] at a
 obtain ⟨_,rfl⟩:=len1 a
 exact h _ _ _ _ _ _ _
theorem mbn2 {st:Stmt} {x y:Str} {ps:List Str} (d:ps.length=2) (h:∀ (kV doc pm:Value) (an:Option Addr) (cdv ct:Value) (c a:Value),bindArgs (fnOf x y (abn st) (abk st) (aai st) .none kV doc pm an cdv ct) ⟨[c,a],[]⟩=pure (ps.zip [c,a])):MBnd x y st ps:=by
 intro kV doc pm an cdv ct us b
 rw [d] at b
 obtain ⟨_,_,rfl⟩:=len2 b
 exact h _ _ _ _ _ _ _ _
theorem mbn3 {st:Stmt} {x y:Str} {ps:List Str} (f:ps.length=3) (h:∀ (kV doc pm:Value) (an:Option Addr) (cdv ct:Value) (d a b:Value),bindArgs (fnOf x y (abn st) (abk st) (aai st) .none kV doc pm an cdv ct) ⟨[d,a,b],[]⟩=pure (ps.zip [d,a,b])):MBnd x y st ps:=by
 intro kV doc pm an cdv ct us c
 rw [f] at c
 obtain ⟨_,_,_,rfl⟩:=len3 c
 exact h _ _ _ _ _ _ _ _ _
theorem agp {K:Frag} {C:Addr} {x y:Str} {st:Stmt} {ps:List Str} (q:MeIn K C x y st) (hb:MBnd x y st ps):∃ f fd,MeAt K C x y st ps f fd:=by
 obtain ⟨f,oc,od,kV,b,pm,an,d,ct,sl,a,i,l,c,k⟩:=q
 exact ⟨_,_,have F:=asa (st:=st) l c k;⟨F,⟨a,i,k⟩,F.binds hb⟩⟩
theorem txt_mk {K:Frag} {h:Heap} {mg:Str->Option Value} (X:K.In h) (G:h.Ns mainGlobals mg)
  {j:Tok} {a:Addr} 
  (h0:FnIn K "is_whole" s_is_whole)
  (h1:FnIn K "is_between" s_is_between)
  (h2:FnIn K "need_number" s_need_number)
  (h3:FnIn K "is_place" s_is_place)
  (h4:FnIn K "is_tie" s_is_tie)
  (h5:FnIn K "are_ties" s_are_ties)
  (h6:FnIn K "is_rising" s_is_rising)
  (h7:FnIn K "tied_places" s_tied_places)
  (h8:FnIn K "far_from" s_far_from)
  (h9:FnIn K "need_place" s_need_place)
  (a3:FnIn K "all_far" s_all_far)
  (b5:FnIn K "how_far" s_how_far)
  (a7:FnIn K "is_joined" s_is_joined)
  (U:FnIn K "need_joined" s_need_joined)
  (b1:FnIn K "far_rows" s_far_rows)
  (Y:FnIn K "most_far" s_most_far)
  (Q:FnIn K "farthest_two" s_farthest_two)
  (b3:FnIn K "with_ties" s_with_ties)
  (R:FnIn K "far_or_none" s_far_or_none)
  (a5:FnIn K "_law_deck" s_law_deck)
  (O:FnIn K "_law_draw" s_law_draw)
  (b2:FnIn K "_law_tied" s_law_tied)
  (a2:FnIn K "_law_fars" s_law_fars)
  (T:FnIn K "_law_order" s_law_order)
  (a9:FnIn K "_law_crowds" s_law_crowds)
  (b4:FnIn K "_law_web" s_law_web)
  (a4:FnIn K "_law_joined_web" s_law_joined_web)
  (Z:FnIn K "_law_deed" s_law_deed)
  (a0:FnIn K "_law_behind" s_law_behind)
  (a6:FnIn K "_law_done" s_law_done)
  (a8:FnIn K "_law_same" s_law_same)
  (S:FnIn K "_law_step_right" s_law_step_right)
  (a1:FnIn K "_law_grown" s_law_grown)
  (P:FnIn K "_law_long" s_law_long)
  (b0:FnIn K "law" s_law)
  (r:nsIn K mainGlobals "ValueError" = some none)
  (M:nsIn K mainGlobals "all" = some none)
  (N:nsIn K mainGlobals "max" = some none)
  (z:nsIn K mainGlobals "sorted" = some none)
  (B:nsIn K mainGlobals "range" = some none)
  (F:nsIn K mainGlobals "dict" = some none)
  (D:nsIn K mainGlobals "list" = some none)
  (q:nsIn K mainGlobals "isinstance" = some none)
  (J:nsIn K mainGlobals "int" = some none)
  (I:nsIn K mainGlobals "len" = some none)
  (L:nsIn K mainGlobals "sum" = some none)
  (H:nsIn K mainGlobals "min" = some none)
  (E:nsIn K mainGlobals "bool" = some none)
  (A:nsIn K mainGlobals "tuple" = some none)
  (o:nsIn K mainGlobals "MOST_PLACES" = some (some (.int 60 j)))
  (b:nsIn K mainGlobals "Grower" = some (some (.ref a))) (v:PySem.W.plainGet K a Str.empty=true) (x:PySem.W.hasDictIn K a=true) (w:PySem.W.plainOver K a=true) (y:PySem.W.findIn K (.ref a) "__setattr__" = some (some (.builtin "object.__setattr__"))) (u:PySem.W.makesIn K a=true) (s:keepIn K (.ref a)=true)
  (m:PySem.W.findIn K (.ref a) "held" = some none)
  (d:MeIn K a "__init__" "Grower.__init__" s_Grower____init__)
  (c:MeIn K a "put_place" "Grower.put_place" s_Grower__put_place)
  (g:MeIn K a "put_tie" "Grower.put_tie" s_Grower__put_tie)
  (i:MeIn K a "become" "Grower.become" s_Grower__become)
  (n:MeIn K a "web" "Grower.web" s_Grower__web)
  (f:MeIn K a "farthest" "Grower.farthest" s_Grower__farthest)
  (l:MeIn K a "far" "Grower.far" s_Grower__far)
  : Txt K mg where
  o_Grower:=⟨_,mg_of X G b,⟨v,x,w,y⟩,u,s⟩
  n_Grower_held:=fun C p=>by rw [mg_of X G b] at p;cases p;exact m
  m_Grower____init__:=fun C p=>by rw [mg_of X G b] at p;cases p;exact agp d (mbn2 rfl fun _ _ _ _ _ _ _ _=>rfl)
  m_Grower__put_place:=fun C p=>by rw [mg_of X G b] at p;cases p;exact agp c (mbn2 rfl fun _ _ _ _ _ _ _ _=>rfl)
  m_Grower__put_tie:=fun C p=>by rw [mg_of X G b] at p;cases p;exact agp g (mbn3 rfl fun _ _ _ _ _ _ _ _ _=>rfl)
  m_Grower__become:=fun C p=>by rw [mg_of X G b] at p;cases p;exact agp i (mbn2 rfl fun _ _ _ _ _ _ _ _=>rfl)
  m_Grower__web:=fun C p=>by rw [mg_of X G b] at p;cases p;exact agp n (mbn1 rfl fun _ _ _ _ _ _ _=>rfl)
  m_Grower__farthest:=fun C p=>by rw [mg_of X G b] at p;cases p;exact agp f (mbn1 rfl fun _ _ _ _ _ _ _=>rfl)
  m_Grower__far:=fun C p=>by rw [mg_of X G b] at p;cases p;exact agp l (mbn3 rfl fun _ _ _ _ _ _ _ _ _=>rfl)
  b_ValueError:=mg_none_of X G r
  b_all:=mg_none_of X G M
  b_max:=mg_none_of X G N
  b_sorted:=mg_none_of X G z
  b_range:=mg_none_of X G B
  b_dict:=mg_none_of X G F
  b_list:=mg_none_of X G D
  b_isinstance:=mg_none_of X G q
  b_int:=mg_none_of X G J
  b_len:=mg_none_of X G I
  b_sum:=mg_none_of X G L
  b_min:=mg_none_of X G H
  b_bool:=mg_none_of X G E
  b_tuple:=mg_none_of X G A
  v_MOST_PLACES:=⟨_,mg_of X G o⟩
  d_is_whole:=aay X G h0 (bnd1 rfl fun _ _ _ _ _ _ _=>rfl)
  d_is_between:=aay X G h1 (bnd3 rfl fun _ _ _ _ _ _ _ _ _=>rfl)
  d_need_number:=aay X G h2 (bnd3 rfl fun _ _ _ _ _ _ _ _ _=>rfl)
  d_is_place:=aay X G h3 (bnd2 rfl fun _ _ _ _ _ _ _ _=>rfl)
  d_is_tie:=aay X G h4 (bnd2 rfl fun _ _ _ _ _ _ _ _=>rfl)
  d_are_ties:=aay X G h5 (bnd2 rfl fun _ _ _ _ _ _ _ _=>rfl)
  d_is_rising:=aay X G h6 (bnd1 rfl fun _ _ _ _ _ _ _=>rfl)
  d_tied_places:=aay X G h7 (bnd1 rfl fun _ _ _ _ _ _ _=>rfl)
  d_far_from:=aay X G h8 (bnd2 rfl fun _ _ _ _ _ _ _ _=>rfl)
  d_need_place:=aay X G h9 (bnd2 rfl fun _ _ _ _ _ _ _ _=>rfl)
  d_all_far:=aay X G a3 (bnd2 rfl fun _ _ _ _ _ _ _ _=>rfl)
  d_how_far:=aay X G b5 (bnd3 rfl fun _ _ _ _ _ _ _ _ _=>rfl)
  d_is_joined:=aay X G a7 (bnd1 rfl fun _ _ _ _ _ _ _=>rfl)
  d_need_joined:=aay X G U (bnd1 rfl fun _ _ _ _ _ _ _=>rfl)
  d_far_rows:=aay X G b1 (bnd1 rfl fun _ _ _ _ _ _ _=>rfl)
  d_most_far:=aay X G Y (bnd1 rfl fun _ _ _ _ _ _ _=>rfl)
  d_farthest_two:=aay X G Q (bnd1 rfl fun _ _ _ _ _ _ _=>rfl)
  d_with_ties:=aay X G b3 (bnd2 rfl fun _ _ _ _ _ _ _ _=>rfl)
  d_far_or_none:=aay X G R (bnd1 rfl fun _ _ _ _ _ _ _=>rfl)
  d_law_deck:=aay X G a5 (bnd1 rfl fun _ _ _ _ _ _ _=>rfl)
  d_law_draw:=aay X G O (bnd2 rfl fun _ _ _ _ _ _ _ _=>rfl)
  d_law_tied:=aay X G b2 (bnd1 rfl fun _ _ _ _ _ _ _=>rfl)
  d_law_fars:=aay X G a2 (bnd1 rfl fun _ _ _ _ _ _ _=>rfl)
  d_law_order:=aay X G T (bnd2 rfl fun _ _ _ _ _ _ _ _=>rfl)
  d_law_crowds:=aay X G a9 (bnd1 rfl fun _ _ _ _ _ _ _=>rfl)
  d_law_web:=aay X G b4 (bnd1 rfl fun _ _ _ _ _ _ _=>rfl)
  d_law_joined_web:=aay X G a4 (bnd1 rfl fun _ _ _ _ _ _ _=>rfl)
  d_law_deed:=aay X G Z (bnd2 rfl fun _ _ _ _ _ _ _ _=>rfl)
  d_law_behind:=aay X G a0 (bnd2 rfl fun _ _ _ _ _ _ _ _=>rfl)
  d_law_done:=aay X G a6 (bnd2 rfl fun _ _ _ _ _ _ _ _=>rfl)
  d_law_same:=aay X G a8 (bnd2 rfl fun _ _ _ _ _ _ _ _=>rfl)
  d_law_step_right:=aay X G S (bnd4 rfl fun _ _ _ _ _ _ _ _ _ _=>rfl)
  d_law_grown:=aay X G a1 (bnd2 rfl fun _ _ _ _ _ _ _ _=>rfl)
  d_law_long:=aay X G P (bnd1 rfl fun _ _ _ _ _ _ _=>rfl)
  d_law:=aay X G b0 (bnd1 rfl fun _ _ _ _ _ _ _=>rfl)
theorem walk {l:PySem.W.OpenLaw} {q:Program} {b:List Str} {r:(Str->Option Value)->Heap->Prop} {j:World->Heap->Prop} {d:DefRec} {K:Params->Frag} (hn:l.most=some 63) (c:d.params.defaults=[]) (g:d.name = "law")
  (p:∀ (w:World) (h:Heap),j w h->(K w.params).In h)
  (F:∀ (w:World) (mg:Str->Option Value) (h:Heap),(K w.params).In h->h.Ns mainGlobals mg->Txt (K w.params) mg) :
  PySem.W.WalkO q b r j l.row.toRowW d [] (fun f vs=>PySem.call f vs):=by
 refine L2.walk_of (n:=63) (k:=16) (x:="script") (CX:=fun _=>CX0) (sp:=fun w=>ari (K w.params)) hn (by decide) c ⟨rfl,by decide,by decide⟩ p (fun w mg C h X G e=>?_) (fun _ _ a ns y _ m=>⟨a,ns,rfl,m,y,fun _=>rfl⟩) fun _ _ _ _ _ z=>z
 have T:=F w mg h X G
 rw [g] at e
 obtain ⟨A,i,D⟩:=T.d_law
 have o:=e.symm.trans D.mgx
 cases o
 refine ⟨i,fun s u=>?_,fun base _ _=>?_⟩
 ·obtain ⟨oc,od,kV,doc,pm,an,cdv,ct,osl,rfl,B,v⟩:=D.fn.ex
  exact .of_eq rfl
 ·exact a1l T D
end G
end
theorem PySem.W.Fast.tw16706971412635762926 : True := trivial
theorem PySem.W.Fast.tw11401292750674810278 : True := trivial
theorem PySem.W.Fast.tw8541309587823580380 : True := trivial
theorem PySem.W.Fast.tw4954968792797853926 : True := trivial
theorem PySem.W.Fast.tw7956938824722716153 : True := trivial
theorem PySem.W.Fast.tw9798548670571818683 : True := trivial
theorem PySem.W.Fast.tw3997373372018144421 : True := trivial
theorem PySem.W.Fast.tw13519398631033921000 : True := trivial
theorem PySem.W.Fast.tw1888826003591771731 : True := trivial
theorem PySem.W.Fast.tw407212155153372922 : True := trivial
theorem PySem.W.Fast.tw7381914793518768675 : True := trivial
theorem PySem.W.Fast.tw5841018414801727579 : True := trivial
theorem PySem.W.Fast.tw482022119271915745 : True := trivial
theorem PySem.W.Fast.tw16305197867341923181 : True := trivial
theorem PySem.W.Fast.tw5677446125961537347 : True := trivial
theorem PySem.W.Fast.tw16620695712354338172 : True := trivial
theorem PySem.W.Fast.tw6756971701111023004 : True := trivial
theorem PySem.W.Fast.tw6287698999621614085 : True := trivial
theorem PySem.W.Fast.tw1994557028398178210 : True := trivial
theorem PySem.W.Fast.tw12765738069276889334 : True := trivial
theorem PySem.W.Fast.tw931298641852892390 : True := trivial
theorem PySem.W.Fast.tw9722022360089030091 : True := trivial
theorem PySem.W.Fast.tw3478792963134608434 : True := trivial
theorem PySem.W.Fast.tw7985828512643862368 : True := trivial
theorem PySem.W.Fast.tw12874591304200028134 : True := trivial
theorem PySem.W.Fast.tw5564108180960916652 : True := trivial
theorem PySem.W.Fast.tw13953380576590193536 : True := trivial
theorem PySem.W.Fast.tw3442005183008641032 : True := trivial
theorem PySem.W.Fast.tw10582936334295739212 : True := trivial
theorem PySem.W.Fast.tw4732950191299956766 : True := trivial
theorem PySem.W.Fast.tw6043784517700641337 : True := trivial
theorem PySem.W.Fast.tw18212486308650441743 : True := trivial
theorem PySem.W.Fast.tw12620757386490492210 : True := trivial
theorem PySem.W.Fast.tw4243636219187031362 : True := trivial
theorem PySem.W.Fast.tw995134057887599870 : True := trivial
theorem PySem.W.Fast.tw16136004437913916906 : True := trivial
theorem PySem.W.Fast.tw6003342883566084771 : True := trivial
theorem PySem.W.Fast.tw3167868478130931928 : True := trivial
theorem PySem.W.Fast.tw1007032268522719614 : True := trivial
theorem PySem.W.Fast.tw16516759607683726244 : True := trivial
theorem PySem.W.Fast.tw12675154910723632132 : True := trivial
theorem PySem.W.Fast.tw15060938173280350258 : True := trivial
theorem PySem.W.Fast.tw2312832437770944622 : True := trivial
theorem PySem.W.Fast.tw10018264643831800402 : True := trivial
theorem PySem.W.Fast.tw11253990514073927191 : True := trivial
theorem PySem.W.Fast.tw3942043174511816078 : True := trivial
theorem PySem.W.Fast.tw15508612884499011931 : True := trivial
theorem PySem.W.Fast.tw1750724877189024037 : True := trivial
theorem PySem.W.Fast.tw11575873802823948478 : True := trivial
theorem PySem.W.Fast.tw18013892399395249266 : True := trivial
theorem PySem.W.Fast.tw17499220881576150652 : True := trivial
theorem PySem.W.Fast.tw16005774290412845706 : True := trivial
theorem PySem.W.Fast.tw8863319142446516012 : True := trivial
theorem PySem.W.Fast.tw1475298887445850777 : True := trivial
theorem PySem.W.Fast.tw10618524394838465075 : True := trivial
theorem PySem.W.Fast.tw8201504656160464850 : True := trivial
theorem PySem.W.Fast.tw18170116673792989405 : True := trivial
theorem PySem.W.Fast.tw9717570392225524108 : True := trivial
theorem PySem.W.Fast.tw29009904053786224 : True := trivial
theorem PySem.W.Fast.tw7749534558023340681 : True := trivial
theorem PySem.W.Fast.tw6973206142118670279 : True := trivial
theorem PySem.W.Fast.tw4037496142807319005 : True := trivial
theorem PySem.W.Fast.tw14209093145525748299 : True := trivial
theorem PySem.W.Fast.tw11051202265332716047 : True := trivial
theorem PySem.W.Fast.tw8239858612717681188 : True := trivial
theorem PySem.W.Fast.tw11385734129839435724 : True := trivial
theorem PySem.W.Fast.tw15947449766728715197 : True := trivial
theorem PySem.W.Fast.tw17421124698750640135 : True := trivial
theorem PySem.W.Fast.tw11578480754684592996 : True := trivial
theorem PySem.W.Fast.tw3732471945791904666 : True := trivial
theorem PySem.W.Fast.tw6736275694180809354 : True := trivial
theorem PySem.W.Fast.tw347995717002171 : True := trivial
theorem PySem.W.Fast.tw4604959459668292641 : True := trivial
theorem PySem.W.Fast.tw8115022118730528125 : True := trivial
theorem PySem.W.Fast.tw3768542467349787051 : True := trivial
theorem PySem.W.Fast.tw10558302718884767243 : True := trivial
theorem PySem.W.Fast.tw8416180549453779075 : True := trivial
theorem PySem.W.Fast.tw3961933539158540371 : True := trivial
theorem PySem.W.Fast.tw9117153030435221431 : True := trivial
theorem PySem.W.Fast.tw9921923864074352144 : True := trivial
theorem PySem.W.Fast.tw13610721396644493837 : True := trivial
theorem PySem.W.Fast.tw12633565391054907700 : True := trivial
theorem PySem.W.Fast.tw7686628235990901768 : True := trivial
theorem PySem.W.Fast.tw10839048459529950196 : True := trivial
theorem PySem.W.Fast.tw11008080484946319628 : True := trivial
theorem PySem.W.Fast.tw709669532116746308 : True := trivial
theorem PySem.W.Fast.tw11260030477753046701 : True := trivial
theorem PySem.W.Fast.tw1640106012479324498 : True := trivial
theorem PySem.W.Fast.tw4621446980079239603 : True := trivial
theorem PySem.W.Fast.tw13782412083318912465 : True := trivial
theorem PySem.W.Fast.tw16555865058174171544 : True := trivial
theorem PySem.W.Fast.tw10699254941655143946 : True := trivial
theorem PySem.W.Fast.tw17579881708080394562 : True := trivial
theorem PySem.W.Fast.tw5575213679572474426 : True := trivial
theorem PySem.W.Fast.tw888556951379461605 : True := trivial
theorem PySem.W.Fast.tw1338118312688932606 : True := trivial
theorem PySem.W.Fast.tw6029628629133318490 : True := trivial
theorem PySem.W.Fast.tw3146480141855063030 : True := trivial
theorem PySem.W.Fast.tw11526580306835272434 : True := trivial
theorem PySem.W.Fast.tw1328151999678986065 : True := trivial
theorem PySem.W.Fast.tw15770225260065762673 : True := trivial
theorem PySem.W.Fast.tw12447339877609077584 : True := trivial
theorem PySem.W.Fast.tw11003689941617033301 : True := trivial
theorem PySem.W.Fast.tw860780298770068561 : True := trivial
theorem PySem.W.Fast.tw3311415053739864657 : True := trivial
theorem PySem.W.Fast.tw14799228739655024654 : True := trivial
theorem PySem.W.Fast.tw7940885571977263628 : True := trivial
theorem PySem.W.Fast.tw10351429908758229915 : True := trivial
theorem PySem.W.Fast.tw1128500312073308421 : True := trivial
theorem PySem.W.Fast.tw3648290836839375462 : True := trivial
theorem PySem.W.Fast.tw1999668394373698513 : True := trivial
theorem PySem.W.Fast.tw9194450526960959689 : True := trivial
theorem PySem.W.Fast.tw8525725112328452028 : True := trivial
theorem PySem.W.Fast.tw6475094437409038322 : True := trivial
theorem PySem.W.Fast.tw5913789766424668994 : True := trivial
theorem PySem.W.Fast.tw14521360513300294156 : True := trivial
theorem PySem.W.Fast.tw13260469988815429912 : True := trivial
theorem PySem.W.Fast.tw8029927608841820202 : True := trivial
theorem PySem.W.Fast.tw3438606156691573127 : True := trivial
theorem PySem.W.Fast.tw11175698092208892101 : True := trivial
theorem PySem.W.Fast.tw12641191984463930466 : True := trivial
theorem PySem.W.Fast.tw6080344327693551466 : True := trivial
theorem PySem.W.Fast.tw17584769737630776304 : True := trivial
theorem PySem.W.Fast.tw13374905831684185656 : True := trivial
theorem PySem.W.Fast.tw4740871248733521658 : True := trivial
theorem PySem.W.Fast.tw14426132552902178963 : True := trivial
theorem PySem.W.Fast.tw6100750671429732272 : True := trivial
theorem PySem.W.Fast.tw7246723766683848701 : True := trivial
theorem PySem.W.Fast.tw6018850121670680935 : True := trivial
theorem PySem.W.Fast.tw4557129597909868410 : True := trivial
theorem PySem.W.Fast.tw14558485348806864883 : True := trivial
theorem PySem.W.Fast.tw3638816512558209269 : True := trivial
theorem PySem.W.Fast.tw3373460687290801486 : True := trivial
theorem PySem.W.Fast.tw10091616726312668241 : True := trivial
theorem PySem.W.Fast.tw6068545734903437243 : True := trivial
theorem PySem.W.Fast.tw18030034420052723241 : True := trivial
theorem PySem.W.Fast.tw17866127876108079147 : True := trivial
theorem PySem.W.Fast.tw5067951606284176034 : True := trivial
theorem PySem.W.Fast.tw16943352404975473548 : True := trivial
theorem PySem.W.Fast.tw8248584387962734436 : True := trivial
theorem PySem.W.Fast.tw3799018106790332571 : True := trivial
theorem PySem.W.Fast.tw2701718020627340955 : True := trivial
theorem PySem.W.Fast.tw7544726679398848050 : True := trivial
theorem PySem.W.Fast.tw2384110920232606475 : True := trivial
theorem PySem.W.Fast.tw4963652519286223423 : True := trivial
theorem PySem.W.Fast.tw2413630831341120616 : True := trivial
theorem PySem.W.Fast.tw11847187470581938828 : True := trivial
theorem PySem.W.Fast.tw17470844463157772114 : True := trivial
theorem PySem.W.Fast.tw1236359104393744108 : True := trivial
theorem PySem.W.Fast.tw18200343886757027898 : True := trivial
theorem PySem.W.Fast.tw12459727627558263216 : True := trivial
theorem PySem.W.Fast.tw9649489678536760865 : True := trivial
theorem PySem.W.Fast.tw4759238713838039813 : True := trivial
theorem PySem.W.Fast.tw15130848286976331162 : True := trivial
theorem PySem.W.Fast.tw9325108024658652884 : True := trivial
theorem PySem.W.Fast.tw10207238627613289483 : True := trivial
theorem PySem.W.Fast.tw14126570150557494417 : True := trivial
theorem PySem.W.Fast.tw10135990758990895644 : True := trivial
theorem PySem.W.Fast.tw17216113542454906565 : True := trivial
theorem PySem.W.Fast.tw11847252278396620081 : True := trivial
theorem PySem.W.Fast.tw13381781831103811144 : True := trivial
theorem PySem.W.Fast.tw15671263012311922561 : True := trivial
theorem PySem.W.Fast.tw1534191195970128051 : True := trivial
theorem PySem.W.Fast.tw4800117408156752639 : True := trivial
theorem PySem.W.Fast.tw10028594152903584847 : True := trivial
theorem PySem.W.Fast.tw5371637857459068994 : True := trivial
theorem PySem.W.Fast.tw7056420351474741254 : True := trivial
theorem PySem.W.Fast.tw2288728806536833504 : True := trivial
theorem PySem.W.Fast.tw6494210856804547004 : True := trivial
theorem PySem.W.Fast.tw10130896185962448266 : True := trivial
theorem PySem.W.Fast.tw17805300329340717225 : True := trivial
theorem PySem.W.Fast.tw6416761402844161165 : True := trivial
theorem PySem.W.Fast.tw11189016296494125516 : True := trivial
theorem PySem.W.Fast.tw7631251192282586998 : True := trivial
theorem PySem.W.Fast.tw945739789721411569 : True := trivial
theorem PySem.W.Fast.tw2210733792123920717 : True := trivial
theorem PySem.W.Fast.tw13799268636600260909 : True := trivial
theorem PySem.W.Fast.tw8404025289146318380 : True := trivial
theorem PySem.W.Fast.tw4805953148200825047 : True := trivial
theorem PySem.W.Fast.tw9161486460520409043 : True := trivial
theorem PySem.W.Fast.tw5891061225201237777 : True := trivial
theorem PySem.W.Fast.tw4808383212843674692 : True := trivial
theorem PySem.W.Fast.tw16971538602265675374 : True := trivial
theorem PySem.W.Fast.tw2889372281759617080 : True := trivial
theorem PySem.W.Fast.tw12743386311456092032 : True := trivial
theorem PySem.W.Fast.tw17314145455358008016 : True := trivial
theorem PySem.W.Fast.tw9782657509773545227 : True := trivial
theorem PySem.W.Fast.tw14278154973295214993 : True := trivial
theorem PySem.W.Fast.tw8810354485209843634 : True := trivial
theorem PySem.W.Fast.tw17794291601449416688 : True := trivial
theorem PySem.W.Fast.tw10201813668167189779 : True := trivial
theorem PySem.W.Fast.tw2755178599896410234 : True := trivial
theorem PySem.W.Fast.tw18264807376468928855 : True := trivial
theorem PySem.W.Fast.tw1359865214020598732 : True := trivial
theorem PySem.W.Fast.tw5642259383934198981 : True := trivial
theorem PySem.W.Fast.tw5248071843521077720 : True := trivial
theorem PySem.W.Fast.tw17288302922338079921 : True := trivial
theorem PySem.W.Fast.tw2841129062431918283 : True := trivial
theorem PySem.W.Fast.tw17117765173603057639 : True := trivial
theorem PySem.W.Fast.tw12321884984085522291 : True := trivial
theorem PySem.W.Fast.tw13463755124669530650 : True := trivial
open PySem PySem.W PyProof.Rows
set_option maxRecDepth 100000 in
set_option maxHeartbeats 0 in
theorem PySem.Challenge.cw_fewties_k45_whole_as_the_web_anew_holds : PySem.Challenge.rw_fewties_k45_whole_as_the_web_anew.Holds := by
 w_on;o_law;k_head;(case hw=>w_witness2)
 k_fill
 refine G.walk (l:=PySem.Challenge.rw_fewties_k45_whole_as_the_web_anew) rfl rfl rfl (fun w h Y=>PySem.W.kIn_of Y) ?F
 case F =>
  intro w mg h KX GG
  refine' G.txt_mk KX GG ..
  all_goals try (refine' G.fn_in ?a_ ?l_ ?c_ ?k_;(case a_=>k_is);(case l_=>k_is);(case c_=>k_is);(case k_=>k_is))
  all_goals try k_is
  all_goals try (refine' G.me_in ?a_ ?i_ ?l_ ?c_ ?k_;(case a_=>k_is);(case i_=>k_is);(case l_=>k_is);(case c_=>k_is);(case k_=>k_is))
#print axioms PySem.Challenge.cw_fewties_k45_whole_as_the_web_anew_holds
