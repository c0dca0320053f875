import PyProof.Rows.All
import Wide.All
import OpenK.AllK
import Wide.FinOn
import PyProof.EqAt
import PyProof.EqKinds
import PyProof.TupleCall
import KE.KLam
import KE.KMinKey
import PyProof.NeData
import PyProof.P3In
import PyProof.WalkInts
import PyProof.Rows.SortWalk
import PyProof.SumWalkG
import PyProof.Rows.CallKwBuiltin
import KE.KDictList
import PyProof.WalksEnum
import PyProof.ZipIter
import PyProof.ConsumeWalk
import PyProof.ListRange
import PyProof.TupleOfSeq
import PyProof.Rows.RuleN_abs
import PyProof.ReprRoads
import KE.KDictOf
import PyProof.AttrMissHeap
import PySem.Challenge.RW_fewties_k01_what_is_a_web
open PySem.W (Frag kitOne mg_of nsIn mg_none_of excIn fnOf mroIn keepIn codeIn)
set_option Elab.async false
set_option linter.all false
set_option compiler.extract_closed false
set_option maxRecDepth 100000
set_option maxHeartbeats 4000000
noncomputable section
abbrev ay0:=@List.getElem?_eq_getElem
abbrev ay1:=@List.getElem?_eq_some_iff
abbrev ay2:=@List.mem_of_getElem?
abbrev ay3:=@List.length_map
abbrev ay4:=@Array.getElem?_eq_getElem
abbrev ay5:=@List.getElem?_map
abbrev ay6:=@Nat.le_refl
abbrev ay7:=@List.mem_append
abbrev ay8:=@List.mem_cons
abbrev ay9:=@Bool.false_ne_true
abbrev az0:=@List.length_append
abbrev az1:=@List.size_toArray
abbrev az2:=@List.mem_append_right
abbrev az3:=@List.append_assoc
abbrev az4:=@List.mem_cons_of_mem
abbrev az5:=@Nat.ne_of_lt
abbrev az6:=@List.mem_map
abbrev az7:=@List.mem_cons_self
abbrev az8:=@List.mem_range
abbrev az9:=@List.mem_of_mem_take
abbrev aA0:=@List.take_append_drop
abbrev aA1:=@List.mem_singleton
abbrev aA2:=@List.getElem?_append_left
abbrev aA3:=@List.mem_of_mem_drop
abbrev aA4:=@Nat.lt_of_lt_of_le
abbrev aA5:=@Option.some.inj
abbrev aA6:=@List.mem_append_left
abbrev aA7:=@List.getElem?_append_right
abbrev aA8:=@List.pairwise_append
abbrev aA9:=@Nat.le_trans
abbrev aB0:=@List.map_cons
abbrev aB1:=@List.getElem?_set
abbrev aB2:=@List.getD_eq_getElem?_getD
abbrev aB3:=@Array.getElem?_toList
abbrev aB4:=@decide_eq_false
abbrev aB5:=@decide_eq_true
abbrev aB6:=@List.map_map
abbrev aB7:=@List.map_append
abbrev aB8:=@List.length_cons
abbrev aB9:=@Int.emod_lt_of_pos
abbrev aC0:=@List.map_congr_left
abbrev aC1:=@List.append_nil
abbrev aC2:=@List.take_of_length_le
abbrev aC3:=@List.getElem_mem
abbrev aC4:=@List.all_eq_true
abbrev aC5:=@if_pos
abbrev aC6:=@if_neg
abbrev aC7:=@List.getElem?_eq_none_iff
abbrev aC8:=@Nat.lt_succ_of_lt
abbrev aC9:=@List.length_pos_iff
abbrev aD0:=@Nat.zero_le
abbrev aD1:=@List.pairwise_map
abbrev aD2:=@List.ext_getElem?
abbrev aD3:=@beq_iff_eq
abbrev aD4:=@Nat.lt_irrefl
abbrev aD5:=@Nat.le_of_lt
abbrev aD6:=@Array.toList_append
abbrev aD7:=@List.pairwise_iff_getElem
abbrev aD8:=@List.take_length
abbrev aD9:=@List.lookup_cons
abbrev aE0:=@List.length_take
abbrev aE1:=@Bool.and_eq_true
abbrev aE2:=@List.eq_nil_of_length_eq_zero
abbrev aE3:=@List.take_add_one
abbrev aE4:=@List.getElem?_take_of_lt
abbrev aE5:=@List.mem_iff_getElem
abbrev aE6:=@Bool.eq_iff_iff
abbrev aE7:=@Array.size_push
abbrev aE8:=@List.Pairwise.imp_of_mem
abbrev aE9:=@Option.map_some
abbrev aF0:=@List.getElem?_drop
abbrev aF1:=@List.nodup_cons
abbrev aF2:=@List.pairwise_cons
abbrev aF3:=@Nat.lt_succ_self
abbrev aF4:=@List.length_nil
open PySem PySem.Spec in
abbrev aF5:=@wpAny_bind
open PySem PySem.Spec in
abbrev aF6:=@wpAny_pure
open PySem PySem.Spec in
abbrev aF7:=@Heap.get?_push_of_some
open PySem PySem.Spec in
abbrev aF8:=@Heap.lt_size
open PySem PySem.Spec in
abbrev aF9:=@Heap.get?_push_size
open PySem PySem.Spec in
abbrev aG0:=@wpAny_holding
open PySem PySem.Spec in
abbrev aG1:=@PassesOwn.never
open PySem PySem.Spec in
abbrev aG2:=@wpAny_mono
open PySem PySem.Spec in
abbrev aG3:=@wpAny_newObj_type
open PySem PySem.Spec in
abbrev aG4:=@Around.under_plainId
open PySem PySem.Spec in
abbrev aG5:=@Heap.size_push
open PySem PySem.Spec in
abbrev aG6:=@wpAny_call_entry
open PySem PySem.Spec in
abbrev aG7:=@wpAny_truthy_bool
open PySem PySem.Spec in
abbrev aG8:=@wpAny_pyIter_list
namespace L2
open PySem PySem.Spec PyProof.Rows
abbrev Key:=Sum Int Str
def afv:Key->Value->Bool
 | .inl k,v=>Value.isInt k v
 | .inr x,v=>Value.isStrOf x v
def keyH (w:World):Key->Int
 | .inl k=>hashInt k
 | .inr x=>hashStr w x
theorem abj:∀ {k:Key} {v:Value},afv k v=true->(∃ i t,k=Sum.inl i/\v=Value.int i t)\/(∃ x t,k=Sum.inr x/\v=Value.str x t)
 | .inl i,v,h=>by
  obtain ⟨t,e⟩:=Value.isInt_shape (k:=i) (v:=v) h
  exact .inl ⟨i,t,rfl,e⟩
 | .inr x,v,h=>by
  obtain ⟨t,e⟩:=Value.isStrOf_shape (x:=x) (v:=v) h
  exact .inr ⟨x,t,rfl,e⟩
theorem aos (i:Int) (t:Tok):afv (.inl i) (.int i t)=true:=by simp [afv,Value.isInt]
theorem aot (x:Str) (t:Tok):afv (.inr x) (.str x t)=true:=by simp [afv,Value.isStrOf]
theorem avg (a b:Int):decide ((Sum.inl a:Key)=Sum.inl b)=(a == b):=by
 by_cases e:a=b
 ·subst e;simp
 ·have h:¬ (Sum.inl a:Key)=Sum.inl b:=fun q=>e (Sum.inl.inj q)
  rw [aB4 h]
  exact (beq_eq_false_iff_ne.mpr e).symm
theorem avh (a b:Str):decide ((Sum.inr a:Key)=Sum.inr b)=decide (a=b):=by
 by_cases e:a=b
 ·subst e;simp
 ·have h:¬ (Sum.inr a:Key)=Sum.inr b:=fun q=>e (Sum.inr.inj q)
  rw [aB4 h,aB4 e]
theorem avi (a:Int) (b:Str):decide ((Sum.inl a:Key)=Sum.inr b)=false:=aB4 (fun q=>nomatch q)
theorem avj (a:Str) (b:Int):decide ((Sum.inr a:Key)=Sum.inl b)=false:=aB4 (fun q=>nomatch q)
def abf (prog:Program) (w:World):PySem.KeyKind prog w Key where
 is:=afv
 hash:=keyH w
 inj:=fun v a b ha hb=>by
  rcases abj ha with ⟨i,t,rfl,rfl⟩ | ⟨x,t,rfl,rfl⟩
  ·rcases abj hb with ⟨j,u,rfl,e⟩ | ⟨y,u,rfl,e⟩
   ·injection e with e1 _;rw [e1]
   ·exact nomatch e
  ·rcases abj hb with ⟨j,u,rfl,e⟩ | ⟨y,u,rfl,e⟩
   ·exact nomatch e
   ·injection e with e1 _;rw [e1]
 byValue:=fun k v h=>by
  rcases abj h with ⟨i,t,rfl,rfl⟩ | ⟨x,t,rfl,rfl⟩ <;> rfl
 pyHash:=fun hv h=>by
  rcases abj hv with ⟨i,t,rfl,rfl⟩ | ⟨x,t,rfl,rfl⟩
  ·exact wpAny_pyHash_int h
  ·exact wpAny_pyHash_str h
 eqBool:=fun hu hv h=>by
  rcases abj hu with ⟨i,t,rfl,rfl⟩ | ⟨x,t,rfl,rfl⟩
  ·rcases abj hv with ⟨j,u,rfl,rfl⟩ | ⟨y,u,rfl,rfl⟩
   ·rw [avg] at h;exact wpAny_eqBool_int h
   ·rw [avi] at h;exact SeqAt.EqAt.int_str i t y u _ _ _ _ h
  ·rcases abj hv with ⟨j,u,rfl,rfl⟩ | ⟨y,u,rfl,rfl⟩
   ·rw [avj] at h;exact SeqAt.EqAt.str_int x t j u _ _ _ _ h
   ·rw [avh] at h;exact wpAny_eqBool_str h
 «strs»:=fun k x t v h=>by
  rcases abj h with ⟨i,u,rfl,e⟩ | ⟨y,u,rfl,e⟩
  ·exact nomatch e
  ·injection e with e1 _
   subst e1
   cases v <;> rfl
theorem al0 (prog:Program) (w:World) (i:Int) (t:Tok):(abf prog w).is (.inl i) (.int i t)=true:=aos i t
theorem al1 (prog:Program) (w:World) (x:Str) (t:Tok):(abf prog w).is (.inr x) (.str x t)=true:=aot x t
inductive V where
 | non | bl (b:Bool) | int (i:Int) | str (x:Str) | byt (b:Array UInt8) | flt (b:UInt64) | ref (a:Addr) | ty (n:String)
 deriving DecidableEq
def RelV:V->Value->Prop
 | .non,u=>u=Value.none
 | .bl b,u=>u=Value.bool b
 | .int i,u=>∃ t,u=Value.int i t
 | .str x,u=>∃ t,u=Value.str x t
 | .byt b,u=>∃ t,u=Value.bytes b t
 | .flt b,u=>∃ t,u=Value.float b t
 | .ref a,u=>u=Value.ref a
 | .ty n,u=>u=Value.type n
abbrev Vals:List V->List Value->Prop:=Paired RelV
theorem Vals.length {xs:List V} {us:List Value} (r:Vals xs us):xs.length=us.length:=Paired.length r
theorem Vals.get:∀ {xs:List V} {us:List Value} {i:Nat} {x:V},Vals xs us->xs[i]?=some x->∃ u,us[i]?=some u/\RelV x u
 | _,_,_,_,.nil,e=>by simp at e
 | _,_,0,_,.cons r _,e=>by simp at e;subst e;exact ⟨_,rfl,r⟩
 | _,_,i+1,x,.cons _ t,e=>by
  obtain ⟨u,b,a⟩:=Vals.get (i:=i) (x:=x) t (by simpa using e)
  exact ⟨u,by simpa using b,a⟩
theorem Vals.set {x:V} {u:Value} (r:RelV x u):∀ {xs:List V} {us:List Value} (i:Nat),Vals xs us->Vals (xs.set i x) (us.set i u)
 | _,_,_,.nil => .nil
 | _,_,0,.cons _ t => .cons r t
 | _,_,i+1,.cons q t => .cons q (Vals.set r i t)
theorem Vals.append:∀ {xs ys:List V} {us a:List Value},Vals xs us->Vals ys a->Vals (xs ++ ys) (us ++ a)
 | _,_,_,_,.nil,s=>s
 | _,_,_,_,.cons r t,s => .cons r (Vals.append t s)
theorem Vals.take:∀ {xs:List V} {us:List Value} (n:Nat),Vals xs us->Vals (xs.take n) (us.take n)
 | _,_,0,_ => .nil
 | _,_,_+1,.nil => .nil
 | _,_,n+1,.cons r t => .cons r (Vals.take n t)
theorem Vals.drop:∀ {xs:List V} {us:List Value} (n:Nat),Vals xs us->Vals (xs.drop n) (us.drop n)
 | _,_,0,r=>r
 | _,_,_+1,.nil => .nil
 | _,_,n+1,.cons _ t=>Vals.drop n t
def RelO:Option V->Option Value->Prop
 | some v,some u=>RelV v u
 | none,none=>True
 | _,_=>False
def KV {κ:Type}:List (κ × V)->List (κ × Value)->Prop:=Paired fun (p : κ × V) (q : κ × Value)=>p.1=q.1/\RelV p.2 q.2
def kV:Key->V
 | .inl i => .int i
 | .inr x => .str x
inductive HO where
 /-- a list -/
 | lst (xs:List V)
 /-- a tuple (never changes) -/
 | tup (xs:List V)
 /-- a dict whose keys are ints and texts; one whose keys are tuples of ints and texts (the empty one is both) -/
 | dK (kvs:List (Key × V)) | dT (kvs:List (List Key × V))
 /-- a set of ints: its members, its size -/
 | set (S:Int->Bool) (n:Nat)
 /-- an instance of the class at C, its dict at dx, its attributes -/
 | ins (C dx:Addr) (fs:List (Str × V))
 /-- the dict of the instance at x -/
 | own (x:Addr)
 /-- the dict of an exception -/
 | xd (fs:List (Str × V))
 /-- a bound method, f of x -/
 | met (f x:Addr)
 /-- a range object lo, lo + 1, .. below hi -/
 | rng (lo hi:Int)
 /-- a thing that is known to the object (the script; a dict while a loop walks it): read, never written while it is so -/
 | frz (o:Obj) (u:HO)
 /-- a code object's table -/
 | tbl (ps:Array Value)
 /-- any other thing, by what is true of its one object (a def of one's own: SetO a S n:=HO.ext fun h => ..) -/
 | ext (φ:Heap->Prop)
abbrev Hp:=Addr->Option HO
def upd (H:Hp) (a:Addr) (o:HO):Hp:=fun b=>if b=a then some o else H b
theorem aaf {H:Hp} {a:Addr} {o:HO}:upd H a o a=some o:=by unfold upd;rw [aC5 rfl]
theorem aad {H:Hp} {a b:Addr} {o:HO} (h:b ≠ a):upd H a o b=H b:=by unfold upd;rw [aC6 h]
theorem aso {H:Hp} {a b:Addr} {o u:HO} (h:H a=some o) (h':H b=some u) (d:o ≠ u):a ≠ b:=by
 intro e;subst e;rw [h] at h';exact d (aA5 h')
theorem aas {H:Hp} {a b:Addr} {o:HO} (h:H a=some o) (h':H b=none):a ≠ b:=by
 intro e;subst e;rw [h] at h';cases h'
section
variable (P:Program) (w:World)
def ObjOk (H:Hp) (h:Heap) (a:Addr):HO->Prop
 | .lst xs=>xs.length<=sizeLine/\∃ (its:List Value) (n:Nat),Vals xs its/\h.get? a=some { cls:=.type "list",data:=.seq its.toArray n }
 | .tup xs=>xs.length<=sizeLine/\∃ its:List Value,Vals xs its/\IsTup h a its.toArray
 | .dK kvs=>kvs.length<=sizeLine/\(a == sysModules)=false/\∃ vs,KV kvs vs/\h.DictOf (abf P w) a vs
 | .dT kvs=>kvs.length<=sizeLine/\(a == sysModules)=false/\∃ xs:List (List Key × Addr × Value),
   Paired (fun (p:List Key × V) (q:List Key × Addr × Value)=>p.1=q.1/\H q.2.1=some (.tup (p.1.map kV))/\RelV p.2 q.2.2) kvs xs /\
   ∃ o es ep,h.get? a=some o/\o.ExactDict/\o.data=.dict es ep/\es.toList=xs.map (entryOfKey (tupleKind (abf P w)))/\(xs.map (·.1)).Nodup
 | .set S n=>h.SetOf (intKind P w) a S n
 | .ins C dx fs=>H dx=some (.own a)/\fs.length<=1000/\dx ≠ a/\h.get? a=some (PySem.W.instObj C dx) /\
   ∃ mA,h.Ns1 dx mA/\(∀ f,RelO (fs.lookup f) (mA f))/\PySem.Within mA (fs.map (·.1))
 | .own _=>∃ o,h.get? a=some o
 | .xd fs=>∃ mA,h.Ns1 a mA/\∀ f,RelO (fs.lookup f) (mA f)
 | .rng lo hi=>∃ t u v,h.get? a=some { cls:=.type "range",data:=.fields #[.int lo t,.int hi u,.int 1 v] }
 | .frz o u=>h.get? a=some o/\ObjOk H h a u
 | .tbl gs=>∃ ps:Array Value,h.get? a=some { cls:=.none,data:=.fields ps }/\TriplesOk ps.toList/\∀ (pos:Pos) (cv:Value),codeAmong pos ps.toList=some cv->∃ c oc vs q t t',cv=.ref c/\H c=some (.own a)/\h.get? c=some oc/\oc.data=.fields vs/\vs[1]?=some (.str q t)/\gs[0]?=some (.str q t')
 | .met f x=>h.get? a=some (PySem.W.methodObj (.ref f) (.ref x))
 | .ext φ => φ h/\(∃ o,h.get? a=some o)/\∀ h1 h2:Heap,φ h1->(∀ o,h1.get? a=some o->h2.get? a=some o)->φ h2
def HOk (H:Hp) (h:Heap):Prop:=∀ a o,H a=some o->ObjOk P w H h a o
end
section
variable {P:Program} {w:World} {H H':Hp} {h h':Heap} {a:Addr} {o:HO}
theorem ObjOk.lt (x:ObjOk P w H h a o):a < h.objs.size:=by
 cases o with
 | lst xs=>obtain ⟨_,_,_,_,e⟩:=x;exact aF8 e
 | tup xs=>obtain ⟨_,_,_,p⟩:=x;exact p.lt
 | dK kvs=>obtain ⟨_,_,_,_,o,_,_,e,_⟩:=x;exact aF8 e
 | dT kvs=>obtain ⟨_,_,_,_,o,_,_,e,_⟩:=x;exact aF8 e
 | set S n=>obtain ⟨o,_,_,_,e,_⟩:=x;exact aF8 e
 | ins C dx fs=>obtain ⟨_,_,_,e,_⟩:=x;exact aF8 e
 | own y=>obtain ⟨_,e⟩:=x;exact aF8 e
 | xd fs=>obtain ⟨_,⟨_,_,_,e,_⟩,_⟩:=x;exact aF8 e
 | rng lo hi=>obtain ⟨_,_,_,e⟩:=x;exact aF8 e
 | frz ob u=>obtain ⟨e,_⟩:=x;exact aF8 e
 | tbl ps=>obtain ⟨_,e,_⟩:=x;exact aF8 e
 | met f y=>exact aF8 (show h.get? a=some _ from x)
 | ext φ=>obtain ⟨_,⟨_,e⟩,_⟩:=x;exact aF8 e
theorem Paired.mapP {α β:Type} {F G : α->β->Prop}:∀ {d:List α} {c:List β},Paired F d c->(∀ a b,F a b->G a b)->Paired G d c
 | _,_,.nil,_ => .nil
 | _,_,.cons r t,f => .cons (f _ _ r) (Paired.mapP t f)
theorem ObjOk.stay (x:ObjOk P w H h a o) (k:∀ b u,(b=a\/H b=some (.own a))->h.get? b=some u->h'.get? b=some u)
  (s:∀ b,H b=some (.own a)->H' b=some (.own a)) (D:∀ b xs,H b=some (.tup xs)->H' b=some (.tup xs)):ObjOk P w H' h' a o:=by
 induction o with
 | lst xs=>obtain ⟨z,its,n,r,e⟩:=x;exact ⟨z,its,n,r,k _ _ (.inl rfl) e⟩
 | tup xs=>obtain ⟨z,its,r,g,e,c⟩:=x;exact ⟨z,its,r,g,k _ _ (.inl rfl) e,c⟩
 | dK kvs=>obtain ⟨z,y,vs,r,g,es,i,e,c⟩:=x;exact ⟨z,y,vs,r,g,es,i,k _ _ (.inl rfl) e,c⟩
 | dT kvs =>
  obtain ⟨z,y,xs,r,g,es,i,e,c⟩:=x
  exact ⟨z,y,xs,Paired.mapP r fun p q z=>⟨z.1,D _ _ z.2.1,z.2.2⟩,g,es,i,k _ _ (.inl rfl) e,c⟩
 | set S n=>obtain ⟨g,es,i,t,e,c⟩:=x;exact ⟨g,es,i,t,k _ _ (.inl rfl) e,c⟩
 | ins C dx fs =>
  obtain ⟨d,z,ne,e,mA,⟨od,es,i,j,c⟩,r⟩:=x
  exact ⟨s _ d,z,ne,k _ _ (.inl rfl) e,mA,⟨od,es,i,k _ _ (.inr d) j,c⟩,r⟩
 | own y=>obtain ⟨g,e⟩:=x;exact ⟨g,k _ _ (.inl rfl) e⟩
 | xd fs=>obtain ⟨mA,⟨od,es,i,e,c⟩,r⟩:=x;exact ⟨mA,⟨od,es,i,k _ _ (.inl rfl) e,c⟩,r⟩
 | rng lo hi=>obtain ⟨t,u,v,e⟩:=x;exact ⟨t,u,v,k _ _ (.inl rfl) e⟩
 | frz g u ih=>obtain ⟨e,q⟩:=x;exact ⟨k _ _ (.inl rfl) e,ih q⟩
 | tbl ps =>
  obtain ⟨m,e,T,f⟩:=x
  exact ⟨m,k a _ (.inl rfl) e,T,fun l A z=>let ⟨c,oc,vs,q,t,t',E,j,B,r⟩:=f l A z;⟨c,oc,vs,q,t,t',E,s c j,k c oc (.inr j) B,r⟩⟩
 | met f y =>
  have e:h.get? a=some (PySem.W.methodObj (.ref f) (.ref y)):=x
  show h'.get? a=some (PySem.W.methodObj (.ref f) (.ref y))
  exact k a _ (.inl rfl) e
 | ext φ=>obtain ⟨p,⟨o,e⟩,st⟩:=x;exact ⟨st _ _ p fun o q=>k _ _ (.inl rfl) q,⟨o,k _ _ (.inl rfl) e⟩,st⟩
theorem HOk.lt (x:HOk P w H h) (e:H a=some o):a < h.objs.size:=(x a o e).lt
theorem HOk.fresh (x:HOk P w H h) (e:h.objs.size<=a):H a=none:=by
 cases q:H a with
 | none=>rfl
 | some u=>exact absurd (aA4 (x.lt q) e) (aD4 _)
theorem HOk.kept (x:HOk P w H h) (k:∀ b u,h.get? b=some u->h'.get? b=some u):HOk P w H h':=fun a o e =>
 (x a o e).stay (fun b u _ q=>k b u q) (fun _ q=>q) fun _ _ q=>q
theorem HOk.laid (x:HOk P w H h) (k:∀ b u,h.get? b=some u->h'.get? b=some u) (d:h.objs.size<=a) (new:ObjOk P w (upd H a o) h' a o):HOk P w (upd H a o) h':=fun b u e=>by
 have hn:=x.fresh d
 by_cases hb:b=a
 ·subst hb;rw [aaf] at e;cases e;exact new
 ·rw [aad hb] at e
  exact (x b u e).stay (fun c v _ q=>k c v q) (fun c q=>by rw [aad (aas q hn)];exact q) fun c xs q=>by rw [aad (aas q hn)];exact q
end
def Rd (H:Hp) (a:Addr) (u:HO):Prop:=H a=some u\/∃ o,H a=some (.frz o u)
theorem Rd.of {H:Hp} {a:Addr} {u:HO} (h:H a=some u):Rd H a u:=.inl h
theorem Rd.ok {P:Program} {w:World} {H:Hp} {h:Heap} {a:Addr} {u:HO} (r:Rd H a u) (x:HOk P w H h):ObjOk P w H h a u:=by
 rcases r with r | ⟨o,r⟩
 ·exact x a u r
 ·obtain ⟨_,q⟩:=x a _ r
  exact q
def Mut:Option HO->Prop
 | some (.lst _)=>True
 | some (.dK _)=>True
 | some (.dT _)=>True
 | some (.set _ _)=>True
 | some (.ins _ _ _)=>True
 | some (.ext _)=>True
 | _=>False
section
variable {P:Program} {w:World} {H:Hp} {h h':Heap} {x e:Addr} {o':HO}
theorem HOk.write (ok:HOk P w H h) (g:Mut (H x)) (l:e=x\/H e=some (.own x)) (k:∀ b u,b ≠ e->h.get? b=some u->h'.get? b=some u) (i:∃ u,h'.get? e=some u)
  (new:ObjOk P w (upd H x o') h' x o'):HOk P w (upd H x o') h':=fun b u q=>by
 have a:∀ c y,H c=some (.own y)->c ≠ x:=fun c y r z=>by subst z;rw [r] at g;exact g
 have d:∀ c xs,H c=some (.tup xs)->c ≠ x:=fun c xs r z=>by subst z;rw [r] at g;exact g
 by_cases hb:b=x
 ·subst hb;rw [aaf] at q;cases q;exact new
 ·rw [aad hb] at q
  by_cases hbe:b=e
  ·have j:H b=some (.own x):=by
    rcases l with z | z
    ·exact absurd (hbe.trans z) hb
    ·rw [hbe];exact z
   rw [q] at j;cases j
   obtain ⟨v,m⟩:=i
   exact ⟨v,by rw [hbe];exact m⟩
  ·refine (ok b u q).stay (fun c v f r=>k c v ?_ r) (fun c r=>by rw [aad (a c b r)];exact r) fun c xs r=>by rw [aad (d c xs r)];exact r
   rcases f with rfl | f
   ·exact hbe
   ·rintro rfl
    rcases l with z | z
    ·exact a c b f z
    ·rw [f] at z;cases z;exact hb rfl
end
structure Un (fs ex:List Addr) (H H':Hp) (h h':Heap):Prop where
 keep:∀ b o,h.get? b=some o->H b=none->b ∉ fs->b ∉ ex->h'.get? b=some o
 slot:∀ b o,h.get? b=some o->H b=none->b∈fs->b ∉ ex->∃ sl,h'.get? b=some { o with slots:=sl }
 free:∀ b o,h.get? b=some o->H b=none->b ∉ ex->H' b=none
 there:∀ b o,h.get? b=some o->b ∉ ex->∃ o',h'.get? b=some o'
 tups:∀ b xs,H b=some (.tup xs)->H' b=some (.tup xs)
 frzs:∀ b o u,H b=some (.frz o u)->H' b=some (.frz o u)
 tbls:∀ b ps,H b=some (.tbl ps)->∃ more,H' b=some (.tbl (ps ++ more))
section
variable {fs fs' ex ex':List Addr} {H H1 H2:Hp} {h h1 h2 h':Heap} {a x e:Addr} {o:HO}
theorem Un.any (u:Un fs ex H H1 h h1) {b:Addr} {a:Obj} (q:h.get? b=some a) (n:H b=none) (c:b ∉ ex):∃ sl,h1.get? b=some { a with slots:=sl }:=by
 by_cases hb:b∈fs
 ·exact u.slot b a q n hb c
 ·exact ⟨a.slots,u.keep b a q n hb c⟩
theorem Un.trans (a:Un fs ex H H1 h h1) (b:Un fs ex H1 H2 h1 h2):Un fs ex H H2 h h2 where
 keep:=fun c d q n i f=>b.keep c d (a.keep c d q n i f) (a.free c d q n f) i f
 slot:=fun c d q n i f=>by
  obtain ⟨sl,g⟩:=a.slot c d q n i f
  obtain ⟨l,j⟩:=b.slot c _ g (a.free c d q n f) i f
  exact ⟨l,j⟩
 free:=fun c d q n f=>by
  obtain ⟨o',g⟩:=a.there c d q f
  exact b.free c o' g (a.free c d q n f) f
 there:=fun c d q f=>by
  obtain ⟨o',g⟩:=a.there c d q f
  exact b.there c o' g f
 tups:=fun c xs q=>b.tups c xs (a.tups c xs q)
 frzs:=fun c d xs q=>b.frzs c d xs (a.frzs c d xs q)
 tbls:=fun c ps q=>by
  obtain ⟨m,g⟩:=a.tbls c ps q
  obtain ⟨o,j⟩:=b.tbls c _ g
  exact ⟨m ++ o,by rw [j,Array.append_assoc]⟩
theorem Un.kept (k:∀ b u,h.get? b=some u->h'.get? b=some u):Un fs ex H H h h' :=
 ⟨fun b a q _ _ _=>k b a q,fun b a q _ _ _=>⟨a.slots,k b a q⟩,fun _ _ _ n _=>n,fun b a q _=>⟨a,k b a q⟩,fun _ _ q=>q,fun _ _ _ q=>q,fun _ ps q=>⟨#[],by rw [q];simp⟩⟩
theorem Un.refl:Un fs ex H H h h:=Un.kept fun _ _ q=>q
theorem Un.laid (k:∀ b u,h.get? b=some u->h'.get? b=some u) (c:h.objs.size<=a) (hn:H a=none):Un fs ex H (upd H a o) h h' where
 keep:=fun b u q _ _ _=>k b u q
 slot:=fun b u q _ _ _=>⟨u.slots,k b u q⟩
 free:=fun b u q n _=>by rw [aad (az5 (aA4 (aF8 q) c))];exact n
 there:=fun b u q _=>⟨u,k b u q⟩
 tups:=fun b xs q=>by rw [aad (aas q hn)];exact q
 frzs:=fun b u xs q=>by rw [aad (aas q hn)];exact q
 tbls:=fun b ps q=>⟨#[],by rw [aad (aas q hn),q];simp⟩
theorem Un.write (a:Mut (H x)) (g:e=x\/H e=some (.own x)) (k:∀ b u,b ≠ e->h.get? b=some u->h'.get? b=some u) (c:∃ u,h'.get? e=some u):Un fs ex H (upd H x o) h h':=by
 have d:∀ b,H b=none->b ≠ x:=fun b n z=>by subst z;rw [n] at a;exact a
 have hb:∀ b,H b=none->b ≠ e:=fun b n z=>by
  subst z
  rcases g with r | r
  ·exact d b n r
  ·rw [n] at r;cases r
 have hm:∀ b u,H b=some u->¬ Mut (some u)->b ≠ x:=fun b u q f z=>by subst z;rw [q] at a;exact f a
 refine ⟨fun b u q n _ _=>k b u (hb b n) q,fun b u q n _ _=>⟨u.slots,k b u (hb b n) q⟩,fun b u q n _=>by rw [aad (d b n)];exact n,fun b u q _=>?_,
  fun b xs q=>by rw [aad (hm b _ q fun z=>z)];exact q,fun b u xs q=>by rw [aad (hm b _ q fun z=>z)];exact q,fun b ps q=>⟨#[],by rw [aad (hm b _ q fun z=>z),q];simp⟩⟩
 by_cases hbe:b=e
 ·subst hbe;exact c
 ·exact ⟨u,k b u hbe q⟩
theorem Un.mono (u:Un fs ex H H1 h h1) (hs:∀ b∈fs,b∈fs') (d:∀ b∈ex,b∈ex'):Un fs' ex' H H1 h h1 :=
 ⟨fun b c q n hb a=>u.keep b c q n (fun z=>hb (hs b z)) fun z=>a (d b z),fun _ _ q n _ a=>u.any q n fun z=>a (d _ z),fun b c q n a=>u.free b c q n fun z=>a (d b z),fun b c q a=>u.there b c q fun z=>a (d b z),u.tups,u.frzs,u.tbls⟩
end
def trk (h:Heap) (H:Hp):List Addr:=(List.range h.objs.size).filter fun a=>(H a).isSome
def hidT (h:Heap) (H:Hp):Heap:=PySem.W.hideAll h (trk h H)
theorem aou (h:Heap) (H:Hp):(hidT h H).objs.size=h.objs.size:=PySem.W.hideAll_size _ _
theorem aqo {h:Heap} {H:Hp} {b:Addr} {o:Obj} (e:h.get? b=some o) (n:H b=none):(hidT h H).get? b=some o :=
 PySem.W.hideAll_get _ e fun hm=>by
  have q:(H b).isSome=true:=(List.mem_filter.mp hm).2
  rw [n] at q;simp at q
theorem atf {h:Heap} {H:Hp} {b:Addr} {o:Obj} (e:(hidT h H).get? b=some o):h.get? b=some o/\H b=none:=by
 have a:h.get? b=some o:=PySem.W.of_hideAll (trk h H) e
 refine ⟨a,?_⟩
 cases q:H b with
 | none=>rfl
 | some x =>
  have hm:b∈trk h H:=List.mem_filter.mpr ⟨az8.mpr (aF8 a),by simp [q]⟩
  have z:(hidT h H).get? b=none:=PySem.W.hideAll_none (trk h H) hm
  rw [z] at e;cases e
def atg (g h:Heap) (L:Addr):List (Addr × Obj):=(List.range h.objs.size).filterMap fun a=>if a=L\/(g.get? a).isSome=true then none else (h.get? a).map fun o=>(a,o)
def rest (g h:Heap) (L d:Addr):List (Addr × Obj):=(atg g h L).filter fun p=>decide (p.1 ≠ d)
def lamN:Str:="best_few"
def lamQ:Str:="best_few.<locals>.<lambda>"
def asp (mg:Str->Option Value) (h:Heap):Prop:=∃ bm ob,mg "__builtins__" = some (.ref bm)/\bm ≠ builtinsNs/\h.get? bm=some ob/\ob.cls=.type "module"/\ob.dict=some builtinsNs/\ob.data=.plain
def TabsOk (K:Frag) (H:Hp):Prop:=∀ c P,PySem.W.tabIn K lamN=some (c,P)->∃ more,H P=some (.tbl (#[.str lamQ 0] ++ more))
structure Mod (K:Frag) (mg:Str->Option Value) (base:Heap):Prop where
 kin:K.In base
 glob:base.Ns mainGlobals mg
 blt:∃ mb,base.Ns builtinsNs mb/\∀ x:Str,x ≠ "__name__"->mb x=bootBuiltins x
 nolimit:base.NoLimit
 bmain:asp mg base
/-- the context: a def's body (or a comprehension's block) running. base: fixed through the whole law; s₀, H₀: the entry; outer: the frames whose slots others may change (a def's callers); stack: all frames that run;
  ex: iterators that were made ahead of the entry and are walked here (a comprehension's);fn: the names whose cells were made at the entry (a def: all;a comprehension's block: its own);calm: not within an except suite;pn: pins that every state bears;xe: what is wanted of an exception that leaves the code -/
structure Cx where
 prog:Program
 w:World
 K:Frag
 mg:Str->Option Value
 base:Heap
 A:Around
 N:List Str
 s₀:Shared
 H₀:Hp
 env:Env
 outer:List Env
 stack:List Env
 ex:List Addr
 fn:Str->Bool
 calm:Bool
 pn:List (Addr × Obj)
 xe:Value->Shared->Prop
def frs (l:List Env):List Addr:=l.filterMap (·.frame)
abbrev Cx.fs (X:Cx):List Addr:=frs X.outer
def Vis (sc:Scope) (x:Str):Prop:=sc.names.lookup x=some .local\/sc.names.lookup x=some .cell\/sc.names.lookup x=some .free
def Loc (sc:Scope) (x:Str):Prop:=sc.names.lookup x=some .local\/sc.names.lookup x=some .cell
def Look (env:Env) (h:Heap) (m:Str->Option Value) (x:Str) (u:Value):Prop :=
 (env.kindOf x=some .local/\m x=some u)\/((env.kindOf x=some .cell\/env.kindOf x=some .free)/\∃ c,env.cells.lookup x=some c/\h.IsCell c (some u))
structure Cx.Ok (X:Cx):Prop where
 mod:Mod X.K X.mg X.base
 kind:X.env.scope.kind=.function
 glob:X.env.globals=mainGlobals
 blt:X.env.builtins=builtinsNs
 above:X.s₀.heap.objs.size<=X.env.locals
 inj:∀ x y c,X.env.cells.lookup x=some c->X.env.cells.lookup y=some c->x=y
 has:∀ x,(X.env.kindOf x=some .cell\/X.env.kindOf x=some .free)->∃ c,X.env.cells.lookup x=some c
 cab:∀ x c,X.fn x=true->X.env.cells.lookup x=some c->X.s₀.heap.objs.size<=c
 hd:X.calm=true->X.A.handled=none
 frames:X.A.frames=some X.stack
 stk:X.stack=X.outer\/(X.stack=X.env :: X.outer/\X.env.frame=some X.env.locals)
 exf:∀ b∈X.ex,b ≠ X.env.locals/\∀ x c,X.env.cells.lookup x=some c->c ≠ b
 bs:∀ b o,X.base.get? b=some o->X.s₀.heap.get? b=some o/\X.H₀ b=none
 bsz:X.base.objs.size<=X.s₀.heap.objs.size
 noex:∀ b o,X.base.get? b=some o->b ∉ X.ex
 exfs:∀ b∈X.ex,b ∉ X.fs
 funs:X.s₀.heap.FunFrames X.base X.outer
 frf:∀ b∈X.fs,X.H₀ b=none
 tab:TabsOk X.K X.H₀
structure Inv (X:Cx) (pins:List (Addr × Obj)) (σ:List (Option V)) (H:Hp) (s:Shared):Prop where
 ok:X.Ok
 os:s.os=X.s₀.os
 bare:AllBare s.gens
 base:Un X.fs X.ex X.H₀ H X.s₀.heap s.heap
 loc:∃ m,s.heap.Ns X.env.locals m/\∀ (i:Nat) (x:Str) (v:V),X.N[i]?=some x->σ[i]?=some (some v)->Vis X.env.scope x->∃ u,RelV v u/\Look X.env s.heap m x u
 cell:∀ x c,X.env.cells.lookup x=some c->∃ v,s.heap.IsCell c v
 free:H X.env.locals=none
 freeC:∀ x c,X.env.cells.lookup x=some c->H c=none
 pin:∀ p∈X.pn ++ pins,s.heap.get? p.1=some p.2/\H p.1=none/\p.1 ≠ X.env.locals/\p.1 ∉ X.fs/\∀ v,p.2.data ≠ .cell v
 hok:HOk X.prog X.w H s.heap
 len : σ.length=X.N.length
section
variable {X:Cx} {pins:List (Addr × Obj)} {σ:List (Option V)} {H H':Hp} {s:Shared} {h':Heap}
theorem Cx.Ok.nofr (ok:X.Ok) {b:Addr} {o:Obj} (e:X.base.get? b=some o):b ∉ X.fs:=fun hb=>by
 have:=(ok.funs.mem hb).1
 rw [e] at this;cases this
theorem Inv.bs (I:Inv X pins σ H s):∀ b o,X.base.get? b=some o->s.heap.get? b=some o/\H b=none:=fun b o e =>
 ⟨I.base.keep b o (I.ok.bs b o e).1 (I.ok.bs b o e).2 (I.ok.nofr e) (I.ok.noex b o e),I.base.free b o (I.ok.bs b o e).1 (I.ok.bs b o e).2 (I.ok.noex b o e)⟩
theorem Inv.bk (I:Inv X pins σ H s):∀ b o,X.base.get? b=some o->s.heap.get? b=some o:=fun b o e=>(I.bs b o e).1
theorem Inv.mod (I:Inv X pins σ H s):Mod X.K X.mg X.base:=I.ok.mod
theorem Inv.kIn (I:Inv X pins σ H s):X.K.In s.heap:=I.ok.mod.kin.keeps I.bk
theorem Inv.fr (I:Inv X pins σ H s):∃ m,Fr X.base X.env.locals s.heap m :=
 let ⟨m,hn,_⟩:=I.loc
 ⟨m,hn,I.bk,aA9 I.ok.bsz I.ok.above⟩
theorem Inv.lt (I:Inv X pins σ H s):X.env.locals < s.heap.objs.size:=let ⟨_,hn,_⟩:=I.loc;hn.lt
theorem Inv.sz (I:Inv X pins σ H s):X.s₀.heap.objs.size<=s.heap.objs.size:=aA9 I.ok.above (aD5 I.lt)
theorem Inv.nofs (I:Inv X pins σ H s) {a:Addr} (h:s.heap.objs.size<=a):a ∉ X.fs:=fun hb=>by
 obtain ⟨_,o,b,_⟩:=I.ok.funs.mem hb
 exact absurd (aA4 (aF8 b) (aA9 I.sz h)) (aD4 _)
theorem Inv.cne (I:Inv X pins σ H s):∀ x c,X.env.cells.lookup x=some c->c ≠ X.env.locals:=fun x c e z=>by
 obtain ⟨v,o,d,hd⟩:=I.cell x c e
 obtain ⟨m,⟨o',es,f,a,b,_⟩,_⟩:=I.loc
 rw [z,a] at d;cases d;rw [b] at hd;cases hd
theorem Inv.funs (I:Inv X pins σ H s):s.heap.FunFrames X.base X.outer:=by
 have all:∀ (l:List Env),(∀ b∈frs l,b∈X.fs)->X.s₀.heap.FunFrames X.base l->s.heap.FunFrames X.base l:=by
  intro l
  induction l with
  | nil=>intro _ _;trivial
  | cons env r ih =>
   intro hs d
   obtain ⟨c,⟨L,o,hf,hn,f,hd⟩,g⟩:=d
   have a:L∈X.fs:=hs L (by unfold frs;rw [List.filterMap_cons,hf];exact az7)
   obtain ⟨sl,e⟩:=I.base.slot L o f (I.ok.frf L a) a fun z=>I.ok.exfs L z a
   exact ⟨c,⟨L,_,hf,hn,e,hd⟩,ih (fun b hb=>hs b (by unfold frs;rw [List.filterMap_cons,hf];exact az4 _ hb)) g⟩
 exact all X.outer (fun _ hb=>hb) I.ok.funs
theorem TabsOk.un {K:Frag} {fs ex:List Addr} {H H':Hp} {h h':Heap} (t:TabsOk K H) (u:Un fs ex H H' h h'):TabsOk K H':=fun c P e =>
 let ⟨m,q⟩:=t c P e
 let ⟨a,b⟩:=u.tbls P _ q
 ⟨m ++ a,by rw [b,Array.append_assoc]⟩
theorem Inv.tab (I:Inv X pins σ H s):TabsOk X.K H:=I.ok.tab.un I.base
theorem Inv.stack (I:Inv X pins σ H s):s.heap.FunFrames X.base X.stack:=by
 rcases I.ok.stk with e | ⟨e,hf⟩
 ·rw [e];exact I.funs
 ·rw [e]
  obtain ⟨m,hn,_⟩:=I.loc
  refine .cons (by rw [I.ok.kind];decide) hf hn ?_ I.funs
  exact Heap.get?_none_of_le (aA9 I.ok.bsz I.ok.above)
theorem Inv.stkSub (I:Inv X pins σ H s):∀ b∈frs X.stack,b∈X.env.locals :: X.fs:=fun b hb=>by
 rcases I.ok.stk with e | ⟨e,hf⟩
 ·rw [e] at hb;exact az4 _ hb
 ·rw [e] at hb
  unfold frs at hb
  rw [List.filterMap_cons,hf] at hb
  exact hb
theorem Inv.stkFree (I:Inv X pins σ H s):∀ b∈frs X.stack,H b=none:=fun b hb=>by
 rcases ay8.mp (I.stkSub b hb) with e | hb
 ·rw [e];exact I.free
 ·obtain ⟨_,o,a,_⟩:=I.ok.funs.mem hb
  exact I.base.free b o a (I.ok.frf b hb) fun z=>I.ok.exfs b z hb
theorem Inv.step {g':Array GenState} {t':Nat} {d':Drawn} {ch:List Addr} (I:Inv X pins σ H s)
  (h:∀ b∈ch,(b∈X.ex\/X.s₀.heap.objs.size<=b)/\b ≠ X.env.locals/\(∀ x c,X.env.cells.lookup x=some c->c ≠ b)/\∀ p∈X.pn ++ pins,p.1 ≠ b)
  (keep:∀ b o,b ≠ X.env.locals->b ∉ X.fs->b ∉ ch->s.heap.get? b=some o->H b=none->h'.get? b=some o)
  (slot:∀ b o,b ≠ X.env.locals->b∈X.fs->b ∉ ch->s.heap.get? b=some o->H b=none->∃ sl,h'.get? b=some { o with slots:=sl }) (free:∀ b o,b ∉ ch->s.heap.get? b=some o->H b=none->H' b=none)
  (there:∀ b o,b ∉ ch->s.heap.get? b=some o->∃ o',h'.get? b=some o')
  (tups:∀ b xs,H b=some (.tup xs)->H' b=some (.tup xs)) (frzs:∀ b o u,H b=some (.frz o u)->H' b=some (.frz o u)) (tbls:∀ b ps,H b=some (.tbl ps)->∃ more,H' b=some (.tbl (ps ++ more)))
  (ns:∀ m,s.heap.Ns X.env.locals m->h'.Ns X.env.locals m) (hok:HOk X.prog X.w H' h') (K:AllBare g') :
  Inv X pins σ H' { s with heap:=h',gens:=g',drawn:=d',toks:=t' }:=by
 have B:∀ b o,X.s₀.heap.get? b=some o->b ≠ X.env.locals:=fun b o e=>az5 (aA4 (aF8 e) I.ok.above)
 have j:∀ b o,X.s₀.heap.get? b=some o->b ∉ X.ex->b ∉ ch:=fun b o e a hb=>by
  rcases (h b hb).1 with z | z
  ·exact a z
  ·exact absurd (aA4 (aF8 e) z) (aD4 _)
 have f:∀ x c,X.env.cells.lookup x=some c->∀ v,s.heap.IsCell c v->h'.IsCell c v:=fun x c e v J=>by
  obtain ⟨o,A,hd⟩:=J
  have g:c ∉ ch:=fun z=>(h c z).2.2.1 x c e rfl
  by_cases hc:c∈X.fs
  ·obtain ⟨sl,q⟩:=slot c o (I.cne x c e) hc g A (I.freeC x c e)
   exact ⟨_,q,hd⟩
  ·exact ⟨o,keep c o (I.cne x c e) hc g A (I.freeC x c e),hd⟩
 refine ⟨I.ok,I.os,K,⟨fun b o e n hb a=>?_,fun b o e n hb a=>?_,fun b o e n a=>?_,fun b o e a=>?_,fun b xs e=>tups b xs (I.base.tups b xs e),fun b o xs e=>frzs b o xs (I.base.frzs b o xs e),fun b ps e=>?_⟩,?_,fun x c e=>?_,?_,fun x c e=>?_,fun p F=>?_,hok,I.len⟩
 ·exact keep b o (B b o e) hb (j b o e a) (I.base.keep b o e n hb a) (I.base.free b o e n a)
 ·obtain ⟨sl,y⟩:=I.base.slot b o e n hb a
  obtain ⟨D,C⟩:=slot b _ (B b o e) hb (j b o e a) y (I.base.free b o e n a)
  exact ⟨D,C⟩
 ·obtain ⟨o',y⟩:=I.base.there b o e a
  exact free b o' (j b o e a) y (I.base.free b o e n a)
 ·obtain ⟨o',y⟩:=I.base.there b o e a
  exact there b o' (j b o e a) y
 ·obtain ⟨M,y⟩:=I.base.tbls b ps e
  obtain ⟨N,C⟩:=tbls b _ y
  exact ⟨M ++ N,by rw [C,Array.append_assoc]⟩
 ·obtain ⟨m,hn,G⟩:=I.loc
  refine ⟨m,ns m hn,fun i x v y C L=>?_⟩
  obtain ⟨u,r,l⟩:=G i x v y C L
  refine ⟨u,r,?_⟩
  rcases l with l | ⟨k,c,e,z⟩
  ·exact .inl l
  ·exact .inr ⟨k,c,e,f x c e _ z⟩
 ·obtain ⟨v,z⟩:=I.cell x c e
  exact ⟨v,f x c e v z⟩
 ·obtain ⟨m,⟨o,_,_,A,_⟩,_⟩:=I.loc
  exact free _ o (fun z=>(h _ z).2.1 rfl) A I.free
 ·obtain ⟨v,o,A,hd⟩:=I.cell x c e
  exact free c o (fun z=>(h c z).2.2.1 x c e rfl) A (I.freeC x c e)
 ·obtain ⟨e,n,ne,E,d⟩:=I.pin p F
  have g:p.1 ∉ ch:=fun z=>(h p.1 z).2.2.2 p F rfl
  exact ⟨keep p.1 p.2 ne E g e n,free p.1 p.2 g e n,ne,E,d⟩
theorem Inv.un {t':Nat} (I:Inv X pins σ H s) (u:Un X.fs [] H H' s.heap h') (hok:HOk X.prog X.w H' h'):Inv X pins σ H' { s with heap:=h',toks:=t' }:=by
 obtain ⟨m,⟨o,es,i,f,r⟩,_⟩:=id I.loc
 obtain ⟨sl,h⟩:=u.any f I.free (by simp)
 exact I.step (g':=s.gens) (d':=s.drawn) (ch:=[]) (fun _ z=>nomatch z) (fun b o _ hb _ e n=>u.keep b o e n hb (by simp)) (fun b o _ hb _ e n=>u.slot b o e n hb (by simp)) (fun b o _ e n=>u.free b o e n (by simp)) (fun b o _ e=>u.there b o e (by simp)) u.tups u.frzs u.tbls (fun j hm=>by
  obtain ⟨o',c,d,a,g⟩:=hm
  rw [f] at a;cases a
  exact ⟨_,c,d,h,g⟩) hok I.bare
theorem Inv.call {g':Array GenState} {t':Nat} {d':Drawn} {ch:List Addr} (I:Inv X pins σ H s) (u:Un (frs X.stack) ch H H' s.heap h') (hok:HOk X.prog X.w H' h') (q:AllBare g')
  (f:∀ b∈ch,(b∈X.ex\/X.s₀.heap.objs.size<=b)/\b ≠ X.env.locals/\(∀ x c,X.env.cells.lookup x=some c->c ≠ b)/\∀ p∈X.pn ++ pins,p.1 ≠ b) :
  Inv X pins σ H' { s with heap:=h',gens:=g',drawn:=d',toks:=t' }:=by
 obtain ⟨m,⟨o,es,v,j,r⟩,_⟩:=id I.loc
 obtain ⟨sl,h⟩:=u.any j I.free fun z=>(f _ z).2.1 rfl
 exact I.step (ch:=ch) f (fun b o h hb a e n=>u.keep b o e n (fun z=>(ay8.mp (I.stkSub b z)).elim h hb) a) (fun b o _ _ a e n=>u.any e n a) (fun b o a e n=>u.free b o e n a) (fun b o a e=>u.there b o e a) u.tups u.frzs u.tbls (fun y hm=>by
  obtain ⟨o',g,i,d,l⟩:=hm
  rw [j] at d;cases d
  exact ⟨_,g,i,h,l⟩) hok q
theorem Inv.turned {t':Nat} {it:Addr} (I:Inv X pins σ H s) (k:∀ b o,b ≠ it->s.heap.get? b=some o->h'.get? b=some o) (hn:H it=none) (f:it ≠ X.env.locals)
  (j:it∈X.ex\/X.s₀.heap.objs.size<=it) (l:∀ x c,X.env.cells.lookup x=some c->c ≠ it) (i:∀ p∈X.pn ++ pins,p.1 ≠ it):Inv X pins σ H { s with heap:=h',toks:=t' }:=by
 have d:∀ b u,H b=some u->b ≠ it:=fun b u e z=>by rw [z,hn] at e;cases e
 refine I.step (g':=s.gens) (d':=s.drawn) (ch:=[it]) (fun b hb=>?_) (fun b o _ _ a e _=>k b o (fun z=>a (by simp [z])) e) (fun b o _ _ a e _=>⟨o.slots,k b o (fun z=>a (by simp [z])) e⟩) (fun _ _ _ _ n=>n)
  (fun b o a e=>⟨o,k b o (fun z=>a (by simp [z])) e⟩) (fun _ _ e=>e) (fun _ _ _ e=>e) (fun b ps e=>⟨#[],by rw [e];simp⟩) (fun m hm=>?_) (fun b u e=>?_) I.bare
 ·have e:b=it:=by simpa using hb
  subst e
  exact ⟨j,f,l,i⟩
 ·obtain ⟨o,es,h,g,r⟩:=hm
  exact ⟨o,es,h,k _ o (Ne.symm f) g,r⟩
 ·refine (I.hok b u e).stay (fun c v a q=>k c v ?_ q) (fun _ q=>q) fun _ _ q=>q
  rcases a with z | z
  ·rw [z];exact d b u e
  ·exact d c _ z
theorem Inv.tok (I:Inv X pins σ H s) (t:Nat):Inv X pins σ H { s with toks:=t }:=I.un (h':=s.heap) (t':=t) Un.refl I.hok
theorem Inv.kept {t':Nat} (I:Inv X pins σ H s) (k:∀ b u,s.heap.get? b=some u->h'.get? b=some u):Inv X pins σ H { s with heap:=h',toks:=t' }:=I.un (Un.kept k) (I.hok.kept k)
theorem Inv.laid {a:Addr} {o:HO} {t':Nat} (I:Inv X pins σ H s) (k:∀ b u,s.heap.get? b=some u->h'.get? b=some u) (c:s.heap.objs.size<=a) (new:ObjOk X.prog X.w (upd H a o) h' a o) :
  Inv X pins σ (upd H a o) { s with heap:=h',toks:=t' }:=I.un (Un.laid k c (I.hok.fresh c)) (I.hok.laid k c new)
theorem Inv.write {x e:Addr} {o:HO} {t':Nat} (I:Inv X pins σ H s) (c:Mut (H x)) (d:e=x\/H e=some (.own x)) (k:∀ b u,b ≠ e->s.heap.get? b=some u->h'.get? b=some u) (a:∃ u,h'.get? e=some u)
  (new:ObjOk X.prog X.w (upd H x o) h' x o):Inv X pins σ (upd H x o) { s with heap:=h',toks:=t' }:=I.un (Un.write c d k a) (I.hok.write c d k a new)
theorem Inv.pins_of {a:List (Addr × Obj)} (I:Inv X pins σ H s) (h:∀ p∈a,s.heap.get? p.1=some p.2/\H p.1=none/\p.1 ≠ X.env.locals/\p.1 ∉ X.fs/\∀ v,p.2.data ≠ .cell v):Inv X a σ H s :=
 ⟨I.ok,I.os,I.bare,I.base,I.loc,I.cell,I.free,I.freeC,fun p b=>(ay7.mp b).elim (fun z=>I.pin p (aA6 _ z)) (h p),I.hok,I.len⟩
theorem nodup_ix {N:List Str} (d:N.Nodup) {i j:Nat} {x:Str} (a:N[i]?=some x) (b:N[j]?=some x):i=j:=by
 obtain ⟨h,f⟩:=ay1.mp a
 obtain ⟨g,c⟩:=ay1.mp b
 exact (List.getElem_inj d).mp (f.trans c.symm)
theorem aov {M:Model} {A:Around} {E:Value->Shared->Prop} {i:Nat} {x:Str} {v:V} {u:Value} {Q:Unit->Shared->Prop} (I:Inv X pins σ H s) (hN:X.N.Nodup) (hi:X.N[i]?=some x) (B:Loc X.env.scope x) (r:RelV v u)
  (h:∀ s',Inv X pins (σ.set i (some v)) H s'->(∃ a,Heap.SameBut a s.heap s'.heap/\(a=X.env.locals\/X.env.cells.lookup x=some a))->Q () s') (hf:X.fn x=true\/X.env.scope.names.lookup x=some .local:=by first | exact .inl rfl | exact .inr rfl | assumption):wpAny M A (storeName X.env x u) Q E s:=by
 obtain ⟨m,hn,hl⟩:=id I.loc
 have P:(X.env.scope.kind == .class || (X.env.scope.kind == .module && X.env.locals != X.env.globals))=false:=by rw [I.ok.kind];rfl
 have G:i < σ.length:=by rw [I.len];exact (ay1.mp hi).1
 have cne:=I.cne
 have g:∀ {a:Addr} {h':Heap},(∃ o,s.heap.get? a=some o/\H a=none)->Heap.SameBut a s.heap h'->HOk X.prog X.w H h':=fun {a h'} ha hs b ob e=>by
  obtain ⟨_,_,C⟩:=ha
  refine (I.hok b ob e).stay (fun c S l q=>(hs.2 c ?_).trans q) (fun _ q=>q) fun _ _ q=>q
  rintro rfl
  rcases l with rfl | l
  ·rw [C] at e;cases e
  ·rw [C] at l;cases l
 rcases B with F | F
 ·refine wpAny_storeName_local F hn (fun h' a0 hs=>?_) P
  obtain ⟨oL,_,_,U,_⟩:=id hn
  refine h _ ⟨I.ok,I.os,I.bare,⟨fun b o e n hb B=>?_,fun b o e n hb B=>?_,I.base.free,fun b o e B=>?_,I.base.tups,I.base.frzs,I.base.tbls⟩,⟨_,a0,fun j y T f D Z=>?_⟩,fun y c e=>?_,I.free,I.freeC,fun p hp=>?_,g ⟨oL,U,I.free⟩ hs,by simpa using I.len⟩ ⟨_,hs,.inl rfl⟩
  ·exact (hs.2 b (az5 (aA4 (aF8 e) I.ok.above))).trans (I.base.keep b o e n hb B)
  ·obtain ⟨sl,f⟩:=I.base.slot b o e n hb B
   exact ⟨sl,(hs.2 b (az5 (aA4 (aF8 e) I.ok.above))).trans f⟩
  ·obtain ⟨o',f⟩:=I.base.there b o e B
   exact ⟨o',(hs.2 b (az5 (aA4 (aF8 e) I.ok.above))).trans f⟩
  ·by_cases hj:j=i
   ·subst hj
    rw [hi] at f;cases f
    rw [List.getElem?_set_self G] at D
    cases D
    exact ⟨u,r,.inl ⟨F,by simp⟩⟩
   ·rw [List.getElem?_set_ne (Ne.symm hj)] at D
    obtain ⟨u',W,q⟩:=hl j y T f D Z
    refine ⟨u',W,?_⟩
    rcases q with ⟨k,e⟩ | ⟨k,c,e,z⟩
    ·refine .inl ⟨k,?_⟩
     have:y ≠ x:=fun e=>hj (nodup_ix hN f (e ▸ hi))
     simp [this,e]
    ·exact .inr ⟨k,c,e,z.sameBut hs (cne y c e)⟩
  ·obtain ⟨S,z⟩:=I.cell y c e
   exact ⟨S,z.sameBut hs (cne y c e)⟩
  ·obtain ⟨e,n,ne,Y,d⟩:=I.pin p hp
   exact ⟨(hs.2 p.1 ne).trans e,n,ne,Y,d⟩
 ·have J:X.fn x=true:=by
   rcases hf with z | z
   ·exact z
   ·rw [z] at F;cases F
  obtain ⟨c,l⟩:=I.ok.has x (.inl F)
  obtain ⟨S,z⟩:=I.cell x c l
  refine wpAny_storeName_cell I.ok.kind F l z (fun h' K hs=>?_)
  obtain ⟨oc,L,O⟩:=id z
  refine h { s with heap:=h' } ⟨I.ok,I.os,I.bare,⟨fun b o e n hb B=>?_,fun b o e n hb B=>?_,I.base.free,fun b o e B=>?_,I.base.tups,I.base.frzs,I.base.tbls⟩,⟨m,hn.sameBut hs (Ne.symm (cne x c l)),fun j y T f D Z=>?_⟩,fun y R e=>?_,I.free,I.freeC,fun p hp=>?_,g ⟨oc,L,I.freeC x c l⟩ hs,by simpa using I.len⟩ ⟨c,hs,.inr l⟩
  ·exact (hs.2 b (az5 (aA4 (aF8 e) (I.ok.cab x c J l)))).trans (I.base.keep b o e n hb B)
  ·obtain ⟨sl,f⟩:=I.base.slot b o e n hb B
   exact ⟨sl,(hs.2 b (az5 (aA4 (aF8 e) (I.ok.cab x c J l)))).trans f⟩
  ·obtain ⟨o',f⟩:=I.base.there b o e B
   exact ⟨o',(hs.2 b (az5 (aA4 (aF8 e) (I.ok.cab x c J l)))).trans f⟩
  ·by_cases hj:j=i
   ·subst hj
    rw [hi] at f;cases f
    rw [List.getElem?_set_self G] at D
    cases D
    exact ⟨u,r,.inr ⟨.inl F,c,l,K⟩⟩
   ·rw [List.getElem?_set_ne (Ne.symm hj)] at D
    obtain ⟨u',W,q⟩:=hl j y T f D Z
    refine ⟨u',W,?_⟩
    rcases q with q | ⟨k,R,e,z'⟩
    ·exact .inl q
    ·refine .inr ⟨k,R,e,z'.sameBut hs ?_⟩
     rintro rfl
     exact hj (nodup_ix hN f (I.ok.inj _ _ _ e l ▸ hi))
  ·by_cases hcc:R=c
   ·subst hcc;exact ⟨_,K⟩
   ·obtain ⟨w2,z2⟩:=I.cell y R e
    exact ⟨w2,z2.sameBut hs hcc⟩
  ·obtain ⟨e,n,ne,Y,d⟩:=I.pin p hp
   refine ⟨(hs.2 p.1 ?_).trans e,n,ne,Y,d⟩
   intro q
   rw [q,L] at e
   have q':oc=p.2:=aA5 e
   exact d S (by rw [← q'];exact O)
theorem aka {M:Model} {A:Around} {E:Value->Shared->Prop} {i:Nat} {x:Str} {v:V} {u:Value} {Q:Unit->Shared->Prop} (I:Inv X pins σ H s) (d:X.N.Nodup) (hi:X.N[i]?=some x) (b:Loc X.env.scope x) (r:RelV v u)
  (h:∀ a,Inv X pins (σ.set i (some v)) H a->Q () a) (hf:X.fn x=true\/X.env.scope.names.lookup x=some .local:=by first | exact .inl rfl | exact .inr rfl | assumption):wpAny M A (storeName X.env x u) Q E s :=
 aov I d hi b r (fun a c _=>h a c) hf
theorem Inv.call' {a:Shared} {ch:List Addr} (I:Inv X pins σ H s) (g:a.os=s.os) (u:Un (frs X.stack) ch H H' s.heap a.heap) (hok:HOk X.prog X.w H' a.heap) (f:AllBare a.gens)
  (d:∀ b∈ch,(b∈X.ex\/X.s₀.heap.objs.size<=b)/\b ≠ X.env.locals/\(∀ x c,X.env.cells.lookup x=some c->c ≠ b)/\∀ p∈X.pn ++ pins,p.1 ≠ b):Inv X pins σ H' a:=by
 obtain ⟨h',g',d',t',o'⟩:=a
 have e:o'=s.os:=g
 subst e
 exact I.call (g':=g') (t':=t') (d':=d') u hok f d
end
abbrev XK:=Value->Option Addr->Hp->Prop
abbrev St:=List (Option V)
abbrev VK:=V->Hp->Prop
abbrev TE:=St->Hp->VK->Prop
abbrev TT:=St->Hp->(Bool->Hp->Prop)->Prop
abbrev TA:=St->Hp->(List V->Hp->Prop)->Prop
structure Ends where
 nx:St->Hp->Prop
 rt:VK
 bk:St->Hp->Prop:=fun _ _=>False
 ct:St->Hp->Prop:=fun _ _=>False
abbrev TS:=Ends->St->Hp->Prop
def EP (X:Cx) (pins:List (Addr × Obj)) (σ:St) (Q:VK) (u:Value) (s':Shared):Prop:=∃ v H',Inv X pins σ H' s'/\RelV v u/\Q v H'
def TP (X:Cx) (pins:List (Addr × Obj)) (σ:St) (Q:Bool->Hp->Prop) (b:Bool) (s':Shared):Prop:=∃ H',Inv X pins σ H' s'/\Q b H'
def AP (X:Cx) (pins:List (Addr × Obj)) (σ:St) (Q:List V->Hp->Prop) (us:List Value) (s':Shared):Prop:=∃ vs H',Inv X pins σ H' s'/\Vals vs us/\Q vs H'
def SP (X:Cx) (pins:List (Addr × Obj)) (D:Ends) (f:Flow) (s':Shared):Prop :=
 match f with
 | .next=>∃ σ' H',Inv X pins σ' H' s'/\D.nx σ' H'
 | .brk=>∃ σ' H',Inv X pins σ' H' s'/\D.bk σ' H'
 | .cont=>∃ σ' H',Inv X pins σ' H' s'/\D.ct σ' H'
 | .ret u=>∃ v σ' H',Inv X pins σ' H' s'/\RelV v u/\D.rt v H'
def PE (X:Cx) (e:Expr) (t:TE):Prop :=
 ∀ (pins:List (Addr × Obj)) (s:Shared) (σ:St) (H:Hp) (Q:VK),Inv X pins σ H s->t σ H Q->wpAny (model X.prog X.w) X.A (eval e X.env) (EP X pins σ Q) X.xe s
def PT (X:Cx) (e:Expr) (t:TT):Prop :=
 ∀ (pins:List (Addr × Obj)) (s:Shared) (σ:St) (H:Hp) (Q:Bool->Hp->Prop),Inv X pins σ H s->t σ H Q->wpAny (model X.prog X.w) X.A (isTrue e X.env (eval e X.env)) (TP X pins σ Q) X.xe s
def PW (X:Cx) (e:Expr) (t:TT):Prop :=
 ∀ (whole:Sem Value) (pins:List (Addr × Obj)) (s:Shared) (σ:St) (H:Hp) (Q:Bool->Hp->Prop),Inv X pins σ H s->t σ H Q->wpAny (model X.prog X.w) X.A (isTrue e X.env whole) (TP X pins σ Q) X.xe s
theorem PW.pt {X:Cx} {e:Expr} {t:TT} (h:PW X e t):PT X e t:=h _
def PA (X:Cx) (es:List Expr) (t:TA):Prop :=
 ∀ (pos:Pos) (pins:List (Addr × Obj)) (s:Shared) (σ:St) (H:Hp) (Q:List V->Hp->Prop),Inv X pins σ H s->t σ H Q->wpAny (model X.prog X.w) X.A (spliced (backTo pos (starEach es X.env))) (AP X pins σ Q) X.xe s
def PS (X:Cx) (st:Stmt) (t:TS):Prop :=
 ∀ (pins:List (Addr × Obj)) (s:Shared) (σ:St) (H:Hp) (D:Ends),Inv X pins σ H s->t D σ H->wpAny (model X.prog X.w) X.A (exec st X.env) (SP X pins D) X.xe s
def PSs (X:Cx) (st:List Stmt) (t:TS):Prop :=
 ∀ (pins:List (Addr × Obj)) (s:Shared) (σ:St) (H:Hp) (D:Ends),Inv X pins σ H s->t D σ H->wpAny (model X.prog X.w) X.A (execs st X.env) (SP X pins D) X.xe s
theorem thn {α:Type} {t:Sem α} {Q b : α->Shared->Prop} {M:Model} {A:Around} {E:Value->Shared->Prop} {s:Shared} (h:wpAny M A t Q E s) (c:∀ a s,Q a s->b a s):wpAny M A t b E s:=aG2 h c fun _ _ x=>x
section
variable {X:Cx}
def tVar (i:Nat):TE:=fun σ H Q=>∃ v,σ[i]?=some (some v)/\Q v H
def tC (v:V):TE:=fun _ H Q=>Q v H
theorem avk {i:Nat} {x:Str} {f:Pos} (n:X.N[i]?=some x) (o:Vis X.env.scope x) (hd:(x == ("__debug__" : Str))=false:=by decide) (d:(x == ("__classdict__" : Str))=false:=by decide):PE X (.Name x f) (tVar i):=by
 intro pins s σ H Q I h
 obtain ⟨v,e,h⟩:=h
 obtain ⟨m,hn,j⟩:=I.loc
 obtain ⟨u,r,l⟩:=j i x v n e o
 have fin:EP X pins σ Q u s:=⟨v,H,I,r,h⟩
 rcases l with ⟨b,hm⟩ | ⟨b,c,g,a⟩
 ·exact wpAny_Name (wpAny_loadName_local I.ok.kind b hn hm fin) hd
 ·rcases b with b | b
  ·exact wpAny_Name (wpAny_loadName_cell I.ok.kind b g a fin) hd
  ·exact wpAny_Name (wpAny_loadName_free I.ok.kind b g a fin d) hd
theorem aac {i j pos}:PE X (.Constant (.int i) j pos) (tC (.int i)):=fun _ _ _ H _ I h=>wpAny_Constant_int ⟨.int i,H,I.tok _,⟨_,rfl⟩,h⟩
theorem abr {b j pos}:PE X (.Constant (.bool b) j pos) (tC (.bl b)):=fun _ _ _ H _ I h=>Constant_bool ⟨.bl b,H,I,rfl,h⟩
theorem aeq {j pos}:PE X (.Constant .none j pos) (tC .non):=fun _ _ _ H _ I h=>Constant_none ⟨.non,H,I,rfl,h⟩
theorem aff {x j pos}:PE X (.Constant (.str x) j pos) (tC (.str x)):=fun _ _ _ H _ I h=>Calls.Constant_str ⟨.str x,H,I.tok _,⟨_,rfl⟩,h⟩
def Gl (X:Cx) (x:Str):Prop:=X.env.kindOf x=some .globalImplicit
theorem amd {E:Value->Shared->Prop} {pins:List (Addr × Obj)} {s:Shared} {σ:St} {H:Hp} {x:Str} {u:Value} {a:Pos} {Q:Value->Shared->Prop} (I:Inv X pins σ H s) (b:Gl X x) (hm:X.mg x=some u) (h:Q u s)
  (hd:(x == ("__debug__" : Str))=false:=by decide):wpAny (model X.prog X.w) X.A (eval (.Name x a) X.env) Q E s :=
 Calls.Name_function_global I.ok.kind b (Calls.loadGlobal_global (by rw [I.ok.glob];exact I.mod.glob.keeps I.bk) hm h) hd
theorem ad2 {E:Value->Shared->Prop} {pins:List (Addr × Obj)} {s:Shared} {σ:St} {H:Hp} {x:Str} {u:Value} {a:Pos} {Q:Value->Shared->Prop} (I:Inv X pins σ H s) (b:Gl X x) (hm:X.mg x=none) (d:bootBuiltins x=some u) (h:Q u s)
  (hn:x ≠ "__name__":=by decide) (hd:(x == ("__debug__" : Str))=false:=by decide):wpAny (model X.prog X.w) X.A (eval (.Name x a) X.env) Q E s:=by
 obtain ⟨mb,c,f⟩:=I.mod.blt
 exact Calls.Name_function_global I.ok.kind b (Calls.loadGlobal_builtin (by rw [I.ok.glob];exact I.mod.glob.keeps I.bk) hm (by rw [I.ok.blt];exact c.keeps I.bk) ((f x hn).trans d) h) hd
theorem ath {x:Str} {v:V} {u:Value} {a:Pos} (b:Gl X x) (hm:X.mg x=some u) (r:RelV v u) (hd:(x == ("__debug__" : Str))=false:=by decide):PE X (.Name x a) (tC v) :=
 fun _ _ _ H _ I h=>amd I b hm ⟨v,H,I,r,h⟩ hd
theorem abw {x:Str} {v:V} {u:Value} {a:Pos} (b:Gl X x) (hm:X.mg x=none) (c:bootBuiltins x=some u) (r:RelV v u) (hn:x ≠ "__name__":=by decide) (hd:(x == ("__debug__" : Str))=false:=by decide):PE X (.Name x a) (tC v) :=
 fun _ _ _ H _ I h=>ad2 I b hm c ⟨v,H,I,r,h⟩ hn hd
variable {a b:Expr} {ta tb:TE} {pos:Pos}
def tB (t:TE):TT:=fun σ H Q=>t σ H fun x H1=>∃ c,x=.bl c/\Q c H1
theorem ace {e:Expr} {t:TE} (h:PE X e t) (i:∀ whole,isTrue e X.env whole=(do let v ← whole;standAt e.pos;holding [v] (truthy v)):=by intro _;rfl):PT X e (tB t):=by
 intro pins s σ H Q I g
 refine isTrue_plain (thn (h pins s σ H _ I g) fun v s1 ⟨x,b,f,a,c⟩=>?_) (i _)
 obtain ⟨d,rfl,q⟩:=c
 cases a
 exact aG7 ⟨b,f,q⟩
variable {tA tB':TT} {rest:List Expr}
def tAnd (t u:TT):TT:=fun σ H Q=>t σ H fun c H1=>if c=true then u σ H1 Q else Q false H1
def tOr (t u:TT):TT:=fun σ H Q=>t σ H fun c H1=>if c=true then Q true H1 else u σ H1 Q
def tNot (t:TT):TT:=fun σ H Q=>t σ H fun c H1=>Q (!c) H1
theorem ame (ha:PT X a tA):PW X (.BoolOp .And [a] pos) tA:=by
 intro b pins s σ H Q I h
 refine isTrue_and (thn (ha pins s σ H Q I h) fun c s1 e=>?_)
 cases c with
 | true=>exact isTrue_and_nil e
 | false=>exact e
theorem adq (ha:PT X a tA):PW X (.BoolOp .Or [a] pos) tA:=by
 intro b pins s σ H Q I h
 refine isTrue_or (thn (ha pins s σ H Q I h) fun c s1 e=>?_)
 cases c with
 | false=>exact isTrue_or_nil e
 | true=>exact e
theorem aow (ha:PT X a tA) (hb:PW X (.BoolOp .And (b :: rest) pos) tB'):PW X (.BoolOp .And (a :: b :: rest) pos) (tAnd tA tB'):=by
 intro i pins s σ H Q I h
 refine isTrue_and (thn (ha pins s σ H _ I h) fun c s1 ⟨f,g,d⟩=>?_)
 cases c with
 | true=>exact hb i pins s1 σ f Q g d
 | false=>exact ⟨f,g,d⟩
theorem aee (ha:PT X a tA) (hb:PW X (.BoolOp .Or (b :: rest) pos) tB'):PW X (.BoolOp .Or (a :: b :: rest) pos) (tOr tA tB'):=by
 intro i pins s σ H Q I h
 refine isTrue_or (thn (ha pins s σ H _ I h) fun c s1 ⟨f,g,d⟩=>?_)
 cases c with
 | true=>exact ⟨f,g,d⟩
 | false=>exact hb i pins s1 σ f Q g d
theorem acq (ha:PT X a tA):PT X (.UnaryOp .Not a pos) (tNot tA):=by
 intro pins s σ H Q I h
 exact isTrue_not (ha pins s σ H (fun c b=>Q (!c) b) I h)
def ajv (ta tb:TE):TE:=fun σ H Q=>ta σ H fun x H1=>∃ c,x=.bl c/\if c=true then tb σ H1 Q else Q (.bl false) H1
def ang (ta:TE):TE:=fun σ H Q=>ta σ H fun x H1=>∃ c,x=.bl c/\Q (.bl (!c)) H1
theorem ad3 {op} {t:TE} (h:PE X a t):PE X (.BoolOp op [a] pos) t:=fun pins s σ H Q I b=>BoolOp_one (h pins s σ H Q I b)
theorem acl (ha:PE X a ta) (hb:PE X (.BoolOp .And (b :: rest) pos) tb):PE X (.BoolOp .And (a :: b :: rest) pos) (ajv ta tb):=by
 intro pins s σ H Q I h
 refine BoolOp_and (thn (ha pins s σ H _ I h) fun v s1 ⟨x,f,g,i,d⟩=>?_)
 obtain ⟨c,rfl,d⟩:=d
 cases i
 refine aG7 ?_
 cases c with
 | true=>exact hb pins s1 σ f Q g d
 | false=>exact ⟨.bl false,f,g,rfl,d⟩
theorem aox (ha:PE X a ta):PE X (.UnaryOp .Not a pos) (ang ta):=by
 intro pins s σ H Q I h
 refine UnaryOp_ (thn (ha pins s σ H _ I h) fun v s1 ⟨x,f,g,d,b⟩=>?_)
 obtain ⟨c,rfl,b⟩:=b
 cases d
 exact not_of (aG7 ⟨.bl (!c),f,g,rfl,b⟩)
end
def SqL (K:Frag) (H:Hp) (a:Addr) (xs:List V):Prop :=
 Rd H a (.lst xs) ∨
  ∃ (o:Obj) (its:Array Value) (n:Nat),K.lookup a=some o/\o.cls=.type "list"/\o.dict=none/\o.data=.seq its n/\its.size<=sizeLine/\Vals xs its.toList
def SqT (K:Frag) (H:Hp) (a:Addr) (xs:List V):Prop :=
 Rd H a (.tup xs) ∨
  ∃ (o:Obj) (its:Array Value) (n:Nat),K.lookup a=some o/\o.cls=.type "tuple"/\o.data=.seq its n/\its.size<=sizeLine/\Vals xs its.toList
def absV:Value->Option V
 | .none=>some .non
 | .bool b=>some (.bl b)
 | .int i _=>some (.int i)
 | .str x _=>some (.str x)
 | .bytes b _=>some (.byt b)
 | .float b _=>some (.flt b)
 | .ref a=>some (.ref a)
 | .type n=>some (.ty n)
 | _=>none
theorem RelV.abs {x:V} {u:Value} (r:RelV x u):absV u=some x:=by
 cases x with
 | non=>cases r;rfl
 | bl _=>cases r;rfl
 | int _=>obtain ⟨t,rfl⟩:=r;rfl
 | str _=>obtain ⟨t,rfl⟩:=r;rfl
 | byt _=>obtain ⟨t,rfl⟩:=r;rfl
 | flt _=>obtain ⟨t,rfl⟩:=r;rfl
 | ref _=>cases r;rfl
 | ty _=>cases r;rfl
theorem RelV.inj {x y:V} {u:Value} (r:RelV x u) (q:RelV y u):x=y:=aA5 (r.abs.symm.trans q.abs)
theorem Vals.inj:∀ {xs ys:List V} {us:List Value},Vals xs us->Vals ys us->xs=ys
 | _,_,_,.nil,.nil=>rfl
 | _,_,_,.cons r t,.cons r' t'=>by rw [r.inj r',Vals.inj t t']
section
variable {X:Cx} {pins:List (Addr × Obj)} {σ:St} {H:Hp} {s:Shared} {a:Addr} {xs ys:List V}
theorem SqL.of {K:Frag} (h:H a=some (.lst xs)):SqL K H a xs:=.inl (.inl h)
theorem SqT.of {K:Frag} (h:H a=some (.tup xs)):SqT K H a xs:=.inl (.inl h)
theorem Inv.list (I:Inv X pins σ H s) (h:SqL X.K H a xs):∃ its:List Value,Vals xs its/\PlainL s.heap a its.toArray/\xs.length<=sizeLine:=by
 rcases h with h | ⟨o,its,n,b,c,hd,hs,hz,r⟩
 ·obtain ⟨z,its,n,r,e⟩:=h.ok I.hok
  exact ⟨its,r,⟨_,n,e,rfl,rfl,rfl⟩,z⟩
 ·refine ⟨its.toList,r,⟨o,n,I.kIn a o b,c,hd,by simpa using hs⟩,?_⟩
  have e:=r.length
  simp only [Array.length_toList] at e
  omega
theorem Inv.tuple (I:Inv X pins σ H s) (h:SqT X.K H a xs):∃ its:List Value,Vals xs its/\IsTup s.heap a its.toArray/\xs.length<=sizeLine:=by
 rcases h with h | ⟨o,its,n,b,c,hs,hz,r⟩
 ·obtain ⟨z,its,r,p⟩:=h.ok I.hok
  exact ⟨its,r,p,z⟩
 ·refine ⟨its.toList,r,⟨o,I.kIn a o b,c,n,by simpa using hs⟩,?_⟩
  have e:=r.length
  simp only [Array.length_toList] at e
  omega
theorem Inv.list_inj (I:Inv X pins σ H s) (h:SqL X.K H a xs) (h':SqL X.K H a ys):xs=ys:=by
 obtain ⟨its,r,⟨o,n,e,_,_,d⟩,_⟩:=I.list h
 obtain ⟨its',f,⟨o',g,b,_,_,d'⟩,_⟩:=I.list h'
 rw [e] at b;cases b
 rw [d] at d'
 injection d' with c _
 have:its=its':=by simpa using congrArg Array.toList c
 subst this
 exact r.inj f
theorem Inv.tuple_inj (I:Inv X pins σ H s) (h:SqT X.K H a xs) (h':SqT X.K H a ys):xs=ys:=by
 obtain ⟨its,r,⟨o,e,_,n,d⟩,_⟩:=I.tuple h
 obtain ⟨its',f,⟨o',b,_,g,d'⟩,_⟩:=I.tuple h'
 rw [e] at b;cases b
 rw [d] at d'
 injection d' with c _
 have:its=its':=by simpa using congrArg Array.toList c
 subst this
 exact r.inj f
end
abbrev Cx.wish (X:Cx) (E:Value->Shared->Prop):Cx:={ X with xe:=E }
abbrev Cx.nox (X:Cx):Cx:=X.wish fun _ _=>False
theorem Cx.Ok.wish {X:Cx} (ok:X.Ok) (E:Value->Shared->Prop):(X.wish E).Ok :=
 ⟨ok.mod,ok.kind,ok.glob,ok.blt,ok.above,ok.inj,ok.has,ok.cab,ok.hd,ok.frames,ok.stk,ok.exf,ok.bs,ok.bsz,ok.noex,ok.exfs,ok.funs,ok.frf,ok.tab⟩
theorem Cx.Ok.unwish {X:Cx} {E:Value->Shared->Prop} (ok:(X.wish E).Ok):X.Ok :=
 ⟨ok.mod,ok.kind,ok.glob,ok.blt,ok.above,ok.inj,ok.has,ok.cab,ok.hd,ok.frames,ok.stk,ok.exf,ok.bs,ok.bsz,ok.noex,ok.exfs,ok.funs,ok.frf,ok.tab⟩
section
variable {X:Cx} {pins:List (Addr × Obj)} {σ:St} {H:Hp} {s:Shared} {E:Value->Shared->Prop}
theorem Inv.wish (I:Inv X pins σ H s) (E:Value->Shared->Prop):Inv (X.wish E) pins σ H s:=⟨I.ok.wish E,I.os,I.bare,I.base,I.loc,I.cell,I.free,I.freeC,I.pin,I.hok,I.len⟩
theorem Inv.unwish (I:Inv (X.wish E) pins σ H s):Inv X pins σ H s:=⟨I.ok.unwish,I.os,I.bare,I.base,I.loc,I.cell,I.free,I.freeC,I.pin,I.hok,I.len⟩
theorem SP.unwish {D:Ends} {f:Flow} {b:Shared} (h:SP (X.wish E) pins D f b):SP X pins D f b:=by
 cases f with
 | next=>obtain ⟨a,H',I,q⟩:=h;exact ⟨a,H',I.unwish,q⟩
 | brk=>obtain ⟨a,H',I,q⟩:=h;exact ⟨a,H',I.unwish,q⟩
 | cont=>obtain ⟨a,H',I,q⟩:=h;exact ⟨a,H',I.unwish,q⟩
 | ret u=>obtain ⟨v,a,H',I,r,q⟩:=h;exact ⟨v,a,H',I.unwish,r,q⟩
theorem PSs.nox {st:List Stmt} {t:TS} (h:PSs X.nox st t):PSs X st t:=fun pins s σ H D I a =>
 aG2 (h pins s σ H D (I.wish _) a) (fun _ _ q=>q.unwish) fun _ _ z=>False.elim z
end
section
variable {X:Cx} {st:Stmt} {rest:List Stmt} {t u:TS} {e:Expr} {te:TE} {pos:Pos}
def anh:TS:=fun D σ H=>D.nx σ H
def tSeq (t u:TS):TS:=fun D σ H=>t { D with nx:=u D } σ H
theorem aaz:PSs X [] anh:=fun _ _ σ H _ I h=>wpAny_execs_nil ⟨σ,H,I,h⟩
theorem aag (d:PS X st t) (c:PSs X rest u):PSs X (st :: rest) (tSeq t u):=by
 intro pins s σ H D I h
 refine wpAny_execs_cons (thn (d pins s σ H { D with nx:=u D } I h) fun f s1 q=>?_)
 cases f with
 | next =>
  obtain ⟨a,H',b,q⟩:=q
  exact c pins s1 a H' D b q
 | ret v=>exact q
 | brk=>exact q
 | cont=>exact q
theorem aam (a:PS X st t):PSs X [st] t:=by
 intro pins s σ H D I h
 refine wpAny_execs_cons (thn (a pins s σ H D I h) fun f s1 q=>?_)
 cases f with
 | next=>exact wpAny_execs_nil q
 | ret v=>exact q
 | brk=>exact q
 | cont=>exact q
theorem Inv.quiet {pins:List (Addr × Obj)} {σ:St} {H:Hp} {s:Shared} (I:Inv X pins σ H s):interactive X.env=false:=by simp [interactive,I.ok.kind]
def ani (te:TE):TS:=fun D σ H=>te σ H fun _ H1=>D.nx σ H1
theorem afw (c:PE X e te) (hs:swapsWith e none pos.line X.env=pure false:=by rfl):PS X (.Expr e pos) (ani te):=by
 intro pins s σ H D I h
 exact wpAny_Expr_any (thn (c pins s σ H _ I h) fun v s1 ⟨x,b,d,f,a⟩=>⟨σ,b,d,a⟩) I.quiet hs
def tRet (te:TE):TS:=fun D σ H=>te σ H D.rt
theorem aat (d:PE X e te):PS X (.Return (some e) pos) (tRet te):=by
 intro pins s σ H D I h
 exact wpAny_Return_some (thn (d pins s σ H _ I h) fun v s1 ⟨x,c,f,b,a⟩=>⟨x,σ,c,f,b,a⟩)
def tIfS (c:TT) (t u:TS):TS:=fun D σ H=>c σ H fun b H1=>if b=true then t D σ H1 else u D σ H1
theorem aa9 {c:Expr} {a b:List Stmt} {j:TT} (l:PT X c j) (ha:PSs X a t) (hb:PSs X b u):PS X (.If c a b pos) (tIfS j t u):=by
 intro pins s σ H D I h
 refine wpAny_If (thn (l pins s σ H _ I h) fun d s1 ⟨f,i,g⟩=>?_)
 cases d with
 | true=>exact ha pins s1 σ f D i g
 | false=>exact hb pins s1 σ f D i g
end
abbrev TG:=V->St->Hp->(St->Hp->Prop)->Prop
abbrev TGs:=List V->St->Hp->(St->Hp->Prop)->Prop
def PG (X:Cx) (target:Expr) (t:TG):Prop :=
 ∀ (pins:List (Addr × Obj)) (s:Shared) (σ:St) (H:Hp) (v:V) (u:Value) (Q:St->Hp->Prop),Inv X pins σ H s->RelV v u->t v σ H Q ->
  wpAny (model X.prog X.w) X.A (assign target X.env u) (fun _ s'=>∃ σ' H',Inv X pins σ' H' s'/\Q σ' H') X.xe s
def PGs (X:Cx) (ts:List Expr) (t:TGs):Prop :=
 ∀ (pins:List (Addr × Obj)) (s:Shared) (σ:St) (H:Hp) (vs:List V) (us:List Value) (Q:St->Hp->Prop),Inv X pins σ H s->Vals vs us->t vs σ H Q ->
  wpAny (model X.prog X.w) X.A (assignInOrder ((assignEach ts X.env).map (·.2)) us) (fun _ s'=>∃ σ' H',Inv X pins σ' H' s'/\Q σ' H') X.xe s
abbrev TSet:=V->V->V->Hp->(Hp->Prop)->Prop
def PSet (X:Cx) (t:TSet):Prop :=
 ∀ (pins:List (Addr × Obj)) (s:Shared) (σ:St) (H:Hp) (o i v:V) (ov iv u:Value) (Q:Hp->Prop),Inv X pins σ H s->RelV o ov->RelV i iv->RelV v u->t o i v H Q ->
  wpAny (model X.prog X.w) X.A (setItem ov iv u) (fun _ s'=>∃ H',Inv X pins σ H' s'/\Q H') X.xe s
section
variable {X:Cx} {pos:Pos}
def ab0 (i:Nat):TG:=fun v σ H Q=>Q (σ.set i (some v)) H
theorem aax {i:Nat} {x:Str} (c:X.N.Nodup) (hi:X.N[i]?=some x) (a:Loc X.env.scope x) (hf:X.fn x=true\/X.env.scope.names.lookup x=some .local:=by first | exact .inl rfl | exact .inr rfl | assumption):PG X (.Name x pos) (ab0 i):=by
 intro pins s σ H v u Q I r h
 exact wpAny_assign_Name (aka I c hi a r (fun d b=>⟨_,H,b,h⟩) hf)
def gNil:TGs:=fun vs σ H Q=>vs=[]/\Q σ H
def asq (t:TG) (u:TGs):TGs:=fun vs σ H Q=>∃ v r,vs=v :: r/\t v σ H fun σ' H'=>u r σ' H' Q
theorem afx:PGs X [] gNil:=by
 intro pins s σ H vs us Q I r h
 obtain ⟨e,h⟩:=h
 subst e
 cases r
 exact assignInOrder_nil ⟨σ,H,I,h⟩
theorem acm {e:Expr} {es:List Expr} {t:TG} {u:TGs} (f:PG X e t) (g:PGs X es u)
  (hs:(assignEach (e :: es) X.env).map (·.2)=assign e X.env :: (assignEach es X.env).map (·.2):=by rfl):PGs X (e :: es) (asq t u):=by
 intro pins s σ H vs us Q I r h
 obtain ⟨v,j,i,h⟩:=h
 subst i
 cases r with
 | cons r rr =>
  rw [hs]
  refine assignInOrder_cons (thn (f pins s σ H _ _ _ I r h) fun _ s1 ⟨a,b,d,c⟩=>?_)
  exact g pins s1 a b _ _ Q d rr c
def gTup (K:Frag) (n:Nat) (t:TGs):TG:=fun v σ H Q=>∃ a xs,v=.ref a/\SqT K H a xs/\xs.length=n/\t xs σ H Q
theorem ag2 {es:List Expr} {k:Nat} {t:TGs} {n:Nat} (l:X.calm=true) (h:PGs X es t)
  (hn:(assignEach es X.env).length=n:=by rfl) (c:(assignEach es X.env).findIdx? (·.1)=none:=by rfl):PG X (.Tuple es k pos) (gTup X.K n t):=by
 intro pins s σ H v u Q I r d
 obtain ⟨a,xs,q,j,g,d⟩:=d
 subst q
 cases r
 obtain ⟨its,f,p,hz⟩:=I.tuple j
 refine assign_Tuple_tuple (I.ok.hd l) p (by simp [hn,← g,f.length]) c fun h' m=>?_
 have i:Inv X pins σ H { s with heap:=h' }:=I.kept (t':=s.toks) fun b o e=>m b o (az5 (aF8 e)) e
 exact h pins _ σ H xs _ Q i (by simpa using f) d
def gSub (to ti:TE) (t:TSet):TG:=fun v σ H Q=>to σ H fun o H1=>ti σ H1 fun i H2=>t o i v H2 fun H3=>Q σ H3
theorem afg {o i:Expr} {to c:TE} {t:TSet} (l:PE X o to) (hi:PE X i c) (hs:PSet X t)
  (ha:∀ v,assign (.Subscript o i pos) X.env v=(do
   let a ← holding [v] (eval o X.env)
   let b ← holding [v,a] (eval i X.env)
   standAt pos
   holding [v,a,b] (setItem a b v)
   release [v,a,b] []):=by intro _;rfl):PG X (.Subscript o i pos) (gSub to c t):=by
 intro pins s σ H v u Q I r h
 rw [ha]
 refine aF5 (aG0 (thn (l pins s σ H _ I h) fun a s1 ⟨x,g,n,f,m⟩=>?_))
 refine aF5 (aG0 (thn (hi pins s1 σ g _ n m) fun b s2 ⟨y,j,d,p,w⟩=>?_))
 refine aF5 (wpAny_standAt (aF5 (aG0 (thn (hs pins s2 σ j x y v a b u _ d f p r w) fun _ A ⟨H3,z,q⟩=>?_))))
 exact wpAny_release ⟨σ,H3,z,q⟩
def tAsg (te:TE) (g:TG):TS:=fun D σ H=>te σ H fun x H1=>g x σ H1 D.nx
theorem ac5 {tg e:Expr} {te:TE} {g:TG} (l:PE X e te) (f:PG X tg g) (hs:swapsWithSole [tg] e pos.line X.env=pure false:=by rfl) (j:swappedStores [tg] e X.env=pure none:=by rfl)
  (i:(assignEach [tg] X.env).map (·.2)=[assign tg X.env]:=by rfl):PS X (.Assign [tg] e pos) (tAsg te g):=by
 intro pins s σ H D I h
 refine wpAny_Assign_stores (thn (l pins s σ H _ I h) fun v s1 ⟨x,b,d,a,c⟩=>?_) hs j
 rw [i]
 exact thn (f pins s1 σ b x v _ d a c) fun _ s2 q=>q
theorem aaq {i:Nat} {x:Str} {e:Expr} {te:TE} {a:Pos} (g:X.N.Nodup) (hi:X.N[i]?=some x) (l:Loc X.env.scope x) (m:PE X e te) (hs:swapsWith e (some (.Name x a)) pos.line X.env=pure false:=by rfl) (hf:X.fn x=true\/X.env.scope.names.lookup x=some .local:=by first | exact .inl rfl | exact .inr rfl | assumption) :
  PS X (.Assign [.Name x a] e pos) (tAsg te (ab0 i)):=by
 intro pins s σ H D I h
 refine wpAny_Assign_Name (thn (m pins s σ H _ I h) fun v s1 ⟨y,d,j,c,f⟩=>?_) hs
 exact aka j g hi l c (fun s2 b=>⟨_,d,b,f⟩) hf
end
section
variable {X:Cx} {pos:Pos}
end
structure It where
 go:Nat->Hp->Prop
 yld:Nat->Hp->V->Hp->Prop
 stop:Nat->Hp->Prop
def FpOk (X:Cx) (pins:List (Addr × Obj)) (H:Hp) (b:Addr):Prop :=
 H b=none/\b ≠ X.env.locals/\b ∉ X.fs/\(b∈X.ex\/X.s₀.heap.objs.size<=b)/\(∀ x c,X.env.cells.lookup x=some c->c ≠ b)/\∀ p∈X.pn ++ pins,p.1 ≠ b
theorem Inv.fpOk {X:Cx} {pins:List (Addr × Obj)} {σ:St} {H H':Hp} {s:Shared} {b:Addr} (I:Inv X pins σ H s) (hb:s.heap.objs.size<=b) (hn:H' b=none):FpOk X pins H' b:=by
 refine ⟨hn,Nat.ne_of_gt (aA4 I.lt hb),I.nofs hb,.inr (aA9 I.sz hb),fun x c e z=>?_,fun p a z=>?_⟩
 ·obtain ⟨v,q⟩:=I.cell x c e
  exact absurd (aA4 q.lt (by rw [z];exact hb)) (aD4 _)
 ·exact absurd (aA4 (aF8 (I.pin p a).1) (by rw [z];exact hb)) (aD4 _)
structure Turn (P:Program) (w:World) (K:Frag) (tg:Expr) (J:It) (fp:List Addr) (it:Addr) (tn:Nat->Heap->Prop):Prop where
 mem:it∈fp
 obj:∀ i h,tn i h->∀ b∈fp,∃ o,h.get? b=some o/\∀ v,o.data ≠ .cell v
 keep:∀ i h h',tn i h->(∀ b∈fp,∀ o,h.get? b=some o->h'.get? b=some o)->tn i h'
 item:∀ (X:Cx),X.prog=P->X.w=w->X.K=K->X.calm=true->∀ (i:Nat) (pins:List (Addr × Obj)) (s:Shared) (σ:St) (H:Hp) (E:Value->Shared->Prop),Inv X pins σ H s->(∀ b∈fp,FpOk X pins H b)->tn i s.heap->J.go i H ->
  wpAny (model P w) X.A (pyNext (.ref it)) (fun r s1=>∃ u,r=some u /\
   wpAny (model P w) X.A (letOwnedTupleGo tg (.ref it) u) (fun _ s2=>∃ x H',Inv X pins σ H' s2/\RelV x u/\J.yld i H x H'/\tn (i+1) s2.heap/\∀ b∈fp,H' b=none) E s1) E s
 done:∀ (X:Cx),X.prog=P->X.w=w->X.K=K->X.calm=true->∀ (i:Nat) (pins:List (Addr × Obj)) (s:Shared) (σ:St) (H:Hp) (E:Value->Shared->Prop),Inv X pins σ H s->(∀ b∈fp,FpOk X pins H b)->tn i s.heap->J.stop i H ->
  wpAny (model P w) X.A (pyNext (.ref it)) (fun r s1=>r=none/\Inv X pins σ H s1) E s
 self:∀ (A:Around) (i:Nat) (s:Shared) (Q:Value->Shared->Prop) (E:Value->Shared->Prop),tn i s.heap->Q (.ref it) s->wpAny (model P w) A (pyIter (.ref it)) Q E s
abbrev TI:=St->Hp->(It->Hp->Prop)->Prop
def PIE (X:Cx) (pins:List (Addr × Obj)) (σ:St) (tg:Expr) (R:It->Hp->Prop) (itv:Value) (s2:Shared):Prop :=
 ∃ (it:Addr) (fp:List Addr) (tn:Nat->Heap->Prop) (J:It) (H':Hp),itv=.ref it/\Inv X pins σ H' s2/\Turn X.prog X.w X.K tg J fp it tn/\tn 0 s2.heap/\(∀ b∈fp,FpOk X pins H' b)/\R J H'
def PI (X:Cx) (tg iter:Expr) (wi:TI):Prop :=
 ∀ (pins:List (Addr × Obj)) (s:Shared) (σ:St) (H:Hp) (R:It->Hp->Prop),Inv X pins σ H s->wi σ H R ->
  wpAny (model X.prog X.w) X.A (eval iter X.env) (fun v s1=>wpAny (model X.prog X.w) X.A (pyIter v) (PIE X pins σ tg R) X.xe s1) X.xe s
theorem anj {M:Model} {A:Around} {E:Value->Shared->Prop} {s:Shared} {tg:Expr} {it:Addr} {u:Value} {o:Obj} {n:String} {vs:Array Value} {Q:Unit->Shared->Prop} (b:s.heap.get? it=some o) (c:o.cls=.type n) (hd:o.data=.fields vs)
  (hn:["enumerate","zip","dict_itemiterator","dict_reverseitemiterator","odict_iterator","itertools.zip_longest","itertools.pairwise"].contains n=false) (a:Q () s):wpAny M A (letOwnedTupleGo tg (.ref it) u) Q E s:=by
 unfold letOwnedTupleGo
 cases tg <;> first
  | exact aF6 a
  | (cases u <;> first
    | exact aF6 a
    | (refine aF5 (wpAny_load b ?_)
       rw [c,hd]
       show wpAny M A (if (["enumerate","zip","dict_itemiterator","dict_reverseitemiterator","odict_iterator","itertools.zip_longest","itertools.pairwise"].contains n && vs[0]? == some (rawInt _))=true then _ else _) Q E s
       rw [aC6 (by intro h;rw [hn,Bool.false_and] at h;cases h)]
       exact aF6 a))
def Itl (K:Frag) (a:Addr):It :=
 ⟨fun i H=>∃ xs x,SqL K H a xs/\xs[i]?=some x,fun i H x H'=>H'=H/\∀ xs,SqL K H a xs->xs[i]?=some x,fun i H=>∃ xs,SqL K H a xs/\xs.length<=i⟩
def Itt (K:Frag) (a:Addr):It :=
 ⟨fun i H=>∃ xs x,SqT K H a xs/\xs[i]?=some x,fun i H x H'=>H'=H/\∀ xs,SqT K H a xs->xs[i]?=some x,fun i H=>∃ xs,SqT K H a xs/\xs.length<=i⟩
def Itr (lo:Int) (n:Nat):It:=⟨fun i _=>i < n,fun i H x H'=>H'=H/\x=.int (lo+i),fun i _=>n<=i⟩
theorem aoy {P:Program} {w:World} {K:Frag} {tg:Expr} (a it:Addr):Turn P w K tg (Itl K a) [it] it (fun i h=>h.IsListIter it a i) where
 mem:=by simp
 obj:=fun i h st b hb=>by
  have e:b=it:=by simpa using hb
  subst e
  obtain ⟨o,e,c,d⟩:=st
  exact ⟨o,e,fun v z=>by rw [d] at z;cases z⟩
 keep:=fun i h h' st k=>st.at fun o e=>k it (by simp) o e
 item:=by
  intro X y C l D i pins s σ H E I hf st r
  subst y C l
  obtain ⟨xs,x,f,B⟩:=r
  obtain ⟨its,A,p,hz⟩:=I.list f
  obtain ⟨u,G,F⟩:=A.get B
  obtain ⟨m,j,M,n,g,q⟩:=hf it (by simp)
  refine wpAny_pyNext_list_item st p.isList (x:=u) (by simpa using G) fun h' st' sb=>?_
  have L:Inv X pins σ H { s with heap:=h' }:=I.turned (t':=s.toks) (fun b o hb e=>(sb.2 b hb).trans e) m j n g q
  obtain ⟨o,e,c,d⟩:=id st'
  exact ⟨u,rfl,anj (s:={ s with heap:=h' }) e c d (by decide) ⟨x,H,L,F,⟨rfl,fun ys J=>by rw [I.list_inj J f];exact B⟩,st',fun b hb=>(hf b hb).1⟩⟩
 done:=by
  intro X y C l D i pins s σ H E I hf st r
  subst y C l
  obtain ⟨xs,f,B⟩:=r
  obtain ⟨its,A,p,hz⟩:=I.list f
  obtain ⟨m,j,M,n,g,q⟩:=hf it (by simp)
  have O:=A.length
  exact wpAny_pyNext_list_end (I.ok.hd D) st p.isList (by simp;omega) fun h' N=>⟨rfl,I.turned (t':=s.toks) (fun b o hb e=>N b o hb e) m j n g q⟩
 self:=fun _ _ _ _ _ st h=>wpAny_pyIter_listiter st h
theorem ank {P:Program} {w:World} {K:Frag} {tg:Expr} (a it:Addr):Turn P w K tg (Itt K a) [it] it (fun i h=>h.IsTupleIter it a i) where
 mem:=by simp
 obj:=fun i h st b hb=>by
  have e:b=it:=by simpa using hb
  subst e
  obtain ⟨o,e,c,d⟩:=st
  exact ⟨o,e,fun v z=>by rw [d] at z;cases z⟩
 keep:=fun i h h' st k=>st.at fun o e=>k it (by simp) o e
 item:=by
  intro X y C l D i pins s σ H E I hf st r
  subst y C l
  obtain ⟨xs,x,f,B⟩:=r
  obtain ⟨its,A,p,hz⟩:=I.tuple f
  obtain ⟨u,G,F⟩:=A.get B
  obtain ⟨m,j,M,n,g,q⟩:=hf it (by simp)
  refine wpAny_pyNext_tuple_item st (show s.heap.IsTuple a its.toArray from p) (x:=u) (by simpa using G) fun h' st' sb=>?_
  have L:Inv X pins σ H { s with heap:=h' }:=I.turned (t':=s.toks) (fun b o hb e=>(sb.2 b hb).trans e) m j n g q
  obtain ⟨o,e,c,d⟩:=id st'
  exact ⟨u,rfl,anj (s:={ s with heap:=h' }) e c d (by decide) ⟨x,H,L,F,⟨rfl,fun ys J=>by rw [I.tuple_inj J f];exact B⟩,st',fun b hb=>(hf b hb).1⟩⟩
 done:=by
  intro X y C l D i pins s σ H E I hf st r
  subst y C l
  obtain ⟨xs,f,B⟩:=r
  obtain ⟨its,A,p,hz⟩:=I.tuple f
  obtain ⟨m,j,M,n,g,q⟩:=hf it (by simp)
  have O:=A.length
  exact wpAny_pyNext_tuple_end (I.ok.hd D) st (show s.heap.IsTuple a its.toArray from p) (by simp;omega) fun h' N=>⟨rfl,I.turned (t':=s.toks) (fun b o hb e=>N b o hb e) m j n g q⟩
 self:=fun _ _ _ _ _ st h=>wpAny_pyIter_tupleiter st h
theorem anl {P:Program} {w:World} {K:Frag} {tg:Expr} (it:Addr) (lo:Int) (n:Nat):Turn P w K tg (Itr lo n) [it] it (fun i h=>IsRangeIter h it (lo+(i:Nat) * 1) ((n:Int) - (i:Nat)) 1) where
 mem:=by simp
 obj:=fun i h st b hb=>by
  have e:b=it:=by simpa using hb
  subst e
  exact ⟨_,st,fun v z=>by
   have x:Data.fields _=Data.cell v:=z
   cases x⟩
 keep:=fun i h h' st k=>k it (by simp) _ st
 item:=by
  intro X p q d j i pins s σ H E I hf st m
  subst p q d
  obtain ⟨f,c,B,g,a,l⟩:=hf it (by simp)
  have W:=Walks.range (prog:=X.prog) (w:=X.w) (I.ok.hd j) it lo 1 n
  refine W.item i s _ _ m st fun v h' r A st' u=>?_
  obtain ⟨t,rfl⟩:=A
  have y:Inv X pins σ H { s with heap:=h',toks:=r }:=I.turned (fun b o hb e=>u b o (by simpa using hb) e) f c g a l
  refine ⟨_,rfl,anj (s:={ s with heap:=h',toks:=r }) (n:="range_iterator") st' rfl rfl (by decide) ⟨.int (lo+i),H,y,⟨t,?_⟩,⟨rfl,rfl⟩,st',fun b hb=>(hf b hb).1⟩⟩
  rw [Int.mul_one]
 done:=by
  intro X p q d j i pins s σ H E I hf st m
  subst p q d
  obtain ⟨f,c,B,g,a,l⟩:=hf it (by simp)
  exact wpAny_pyNext_range_end (I.ok.hd j) st (by have:n<=i:=m;omega) fun h' C=>⟨rfl,I.turned (t':=s.toks) (fun b o hb e=>C b o hb e) f c g a l⟩
 self:=fun _ _ _ _ _ st h=>wpAny_pyIter_rangeiter st h
section
variable {X:Cx} {tg:Expr}
def anm (K:Frag) (tl:TE):TI:=fun σ H R=>tl σ H fun x H1=>∃ a,x=.ref a/\(∃ xs,SqL K H1 a xs)/\R (Itl K a) H1
def iTup (K:Frag) (tl:TE):TI:=fun σ H R=>tl σ H fun x H1=>∃ a,x=.ref a/\(∃ xs,SqT K H1 a xs)/\R (Itt K a) H1
theorem adg {l:Expr} {tl:TE} (g:PE X l tl):PI X tg l (anm X.K tl):=by
 intro pins s σ H R I h
 refine thn (g pins s σ H _ I h) fun v s1 ⟨x,f,c,d,i⟩=>?_
 obtain ⟨a,e,⟨xs,j⟩,q⟩:=i
 subst e
 cases d
 obtain ⟨its,m,p,hz⟩:=c.list j
 refine aG8 p.isList ?_
 refine ⟨s1.heap.objs.size,[s1.heap.objs.size],_,_,f,rfl,c.kept (t':=s1.toks) fun b o e=>aF7 _ e,aoy a _,⟨_,aF9 _ rfl,rfl,rfl⟩,fun b hb=>?_,q⟩
 have e:b=s1.heap.objs.size:=by simpa using hb
 subst e
 exact c.fpOk (ay6 _) (c.hok.fresh (ay6 _))
theorem avl {l:Expr} {tl:TE} (g:PE X l tl):PI X tg l (iTup X.K tl):=by
 intro pins s σ H R I h
 refine thn (g pins s σ H _ I h) fun v s1 ⟨x,f,c,d,i⟩=>?_
 obtain ⟨a,e,⟨xs,j⟩,q⟩:=i
 subst e
 cases d
 obtain ⟨its,m,p,hz⟩:=c.tuple j
 refine wpAny_pyIter_tuple (show s1.heap.IsTuple a its.toArray from p) ?_
 refine ⟨s1.heap.objs.size,[s1.heap.objs.size],_,_,f,rfl,c.kept (t':=s1.toks) fun b o e=>aF7 _ e,ank a _,⟨_,aF9 _ rfl,rfl,rfl⟩,fun b hb=>?_,q⟩
 have e:b=s1.heap.objs.size:=by simpa using hb
 subst e
 exact c.fpOk (ay6 _) (c.hok.fresh (ay6 _))
theorem akb {pins:List (Addr × Obj)} {σ:St} {H:Hp} {s:Shared} {R:It->Hp->Prop} {E:Value->Shared->Prop} {lo hi:Int} {t u v:Tok} {c:Nat} (I:Inv X pins σ H s) (f : -(2 ^ 62)<=lo) (i:lo < 2 ^ 62) (d : -(2 ^ 62)<=hi) (g:hi < 2 ^ 62)
  (q:R (Itr lo (hi - lo).toNat) H):wpAny (model X.prog X.w) X.A (pyIter (.ref s.heap.objs.size)) (PIE X pins σ tg R) E { s with heap:=s.heap.push { cls:=.type "range",data:=.fields #[.int lo t,.int hi u,.int 1 v] },toks:=c }:=by
 refine wpAny_pyIter_range (IsRange.new ..) (small_one f i d g) ?_
 have a:Inv X pins σ H { s with heap:=s.heap.push { cls:=.type "range",data:=.fields #[.int lo t,.int hi u,.int 1 v] },toks:=c }:=I.kept fun b o e=>aF7 _ e
 refine ⟨(s.heap.push { cls:=.type "range",data:=.fields #[.int lo t,.int hi u,.int 1 v] }).objs.size,[(s.heap.push { cls:=.type "range",data:=.fields #[.int lo t,.int hi u,.int 1 v] }).objs.size],_,_,H,rfl,
  a.kept (t':=c) fun b o e=>aF7 _ e,anl _ lo (hi - lo).toNat,?_,fun b hb=>?_,q⟩
 ·have j:lo+((0:Nat):Int) * 1=lo:=by simp
  have h:(((hi - lo).toNat:Nat):Int) - ((0:Nat):Int)=Builtin.Range.rangeSize lo hi 1:=by rw [rangeSize_one];split <;> omega
  show IsRangeIter _ _ (lo+((0:Nat):Int) * 1) ((((hi - lo).toNat:Nat):Int) - ((0:Nat):Int)) 1
  rw [j,h]
  exact aF9 _ rfl
 ·have e:b=(s.heap.push { cls:=.type "range",data:=.fields #[.int lo t,.int hi u,.int 1 v] }).objs.size:=by simpa using hb
  subst e
  exact a.fpOk (ay6 _) (a.hok.fresh (ay6 _))
def ann (ta:TA):TI:=fun σ H R=>ta σ H fun vs H1=>∃ j:Int,vs=[.int j]/\-(2 ^ 62)<=j/\j < 2 ^ 62/\R (Itr 0 j.toNat) H1
def asr (ta:TA):TI:=fun σ H R=>ta σ H fun vs H1=>∃ i j:Int,vs=[.int i,.int j]/\(-(2 ^ 62)<=i/\i < 2 ^ 62/\-(2 ^ 62)<=j/\j < 2 ^ 62)/\R (Itr i (j - i).toNat) H1
theorem acn {a:Expr} {d:TA} {p b:Pos} (i:Gl X "range") (hm:X.mg "range" = none) (ha:PA X [a] d) (hs:starEach [a] X.env=[(false,eval a X.env)]:=by rfl):PI X tg (.Call (.Name "range" p) [a] [] b) (ann d):=by
 intro pins s σ H R I h
 refine Call_ (ad2 I i hm boot_range (PyProof.Rows.callWith_type1 (thn (ha b pins s σ H _ I h) fun us s1 ⟨vs,m,g,f,c⟩=>?_) hs rfl))
 obtain ⟨j,e,c,l,q⟩:=c
 subst e
 cases f with
 | cons r rr =>
  cases rr
  obtain ⟨t,rfl⟩:=r
  exact call_range_1 (akb g (by omega) (by omega) c l (by simpa using q))
theorem aef {a b:Expr} {g:TA} {p c:Pos} (o:Gl X "range") (hm:X.mg "range" = none) (ha:PA X [a,b] g) (hs:starEach [a,b] X.env=[(false,eval a X.env),(false,eval b X.env)]:=by rfl) (d:starEach [b] X.env=[(false,eval b X.env)]:=by rfl) :
  PI X tg (.Call (.Name "range" p) [a,b] [] c) (asr g):=by
 intro pins s σ H R I h
 refine Call_ (ad2 I o hm boot_range (PyProof.Rows.callWith_type1 (thn (ha c pins s σ H _ I h) fun us s1 ⟨vs,w,n,l,f⟩=>?_) (by rw [hs,d]) (by rw [d];rfl)))
 obtain ⟨i,j,e,⟨f,v,u,m⟩,q⟩:=f
 subst e
 cases l with
 | cons r rr =>
  cases rr with
  | cons r' rr =>
   cases rr
   obtain ⟨t,rfl⟩:=r
   obtain ⟨t',rfl⟩:=r'
   exact call_range_2 (akb n f v u m q)
def tFor (wi:TI) (g:TG) (tb:TS):TS:=fun D σ H=>wi σ H fun J H1=>∃ W:Nat->Nat->St->Hp->Prop,(∃ m,W 0 m σ H1)/\∀ i m σ H,W i m σ H ->
 (J.stop i H/\D.nx σ H)\/(J.go i H/\∃ N:St->Hp->Prop,(∀ σ' H',N σ' H'->∃ m',m' < m/\W (i+1) m' σ' H')/\∀ x H',J.yld i H x H'->g x σ H' fun σ2 H2=>tb { D with nx:=N,ct:=N,bk:=D.nx } σ2 H2)
def afh (fp:List Addr) (h:Heap):List (Addr × Obj):=fp.filterMap fun b=>(h.get? b).map fun o=>(b,o)
theorem adv {fp:List Addr} {h:Heap} {b:Addr} {o:Obj} (hb:b∈fp) (e:h.get? b=some o):(b,o)∈afh fp h:=List.mem_filterMap.mpr ⟨b,hb,by rw [e];rfl⟩
theorem aoz {fp:List Addr} {h:Heap} {p:Addr × Obj} (a:p∈afh fp h):p.1∈fp/\h.get? p.1=some p.2:=by
 obtain ⟨b,hb,e⟩:=List.mem_filterMap.mp a
 cases q:h.get? b with
 | none=>rw [q] at e;cases e
 | some o =>
  rw [q] at e
  have c:(b,o)=p:=aA5 e
  subst c
  exact ⟨hb,q⟩
theorem Inv.pinned {pins:List (Addr × Obj)} {σ:St} {H:Hp} {s:Shared} {fp:List Addr} (I:Inv X pins σ H s) (hf:∀ b∈fp,FpOk X pins H b) (f:∀ b∈fp,∃ o,s.heap.get? b=some o/\∀ v,o.data ≠ .cell v):Inv X (pins ++ afh fp s.heap) σ H s :=
 I.pins_of fun p i=>(ay7.mp i).elim (fun z=>I.pin p (az2 _ z)) fun z=>by
  obtain ⟨hb,e⟩:=aoz z
  obtain ⟨g,c,h,_⟩:=hf p.1 hb
  obtain ⟨o,a,d⟩:=f p.1 hb
  rw [e] at a;cases a
  exact ⟨e,g,c,h,d⟩
theorem Inv.unpinned {pins a:List (Addr × Obj)} {σ:St} {H:Hp} {s:Shared} (I:Inv X (pins ++ a) σ H s):Inv X pins σ H s:=I.pins_of fun p b=>I.pin p (az2 _ (aA6 _ b))
theorem aco {p:Expr} {body:List Stmt} {Y:TI} {g:TG} {Z:TS} {M:Pos} (L:PassesOwn (model X.prog X.w) X.A X.env X.xe) (hc:X.calm=true) (hi:PI X tg p Y) (hg:PG X tg g) (hb:PSs X body Z)
  (hs:∀ x,foldedSetIterable p X.env x=pure x:=by intro _;rfl):PS X (.For tg p body [] M) (tFor Y g Z):=by
 intro pins s σ H D I h
 refine wpAny_For (thn (hi pins s σ H _ I h) fun v s1 h1=>thn h1 fun a0 s2 h2=>?_) hs
 obtain ⟨it,fp,tn,J,H2,e,I2,T,S,f2,W,⟨m0,w0⟩,G⟩:=h2
 subst e
 -- what stays true of the iterator's objects through the loop
 have q:∀ {H':Hp},(∀ b∈fp,H' b=none)->∀ b∈fp,FpOk X pins H' b:=fun hn b hb=>⟨hn b hb,(f2 b hb).2⟩
 refine codeAny_forLoop_any (fun n s'=>∃ i l H',Inv X pins l H' s'/\tn i s'.heap/\(∀ b∈fp,H' b=none)/\W i n l H') ?_ m0 ⟨0,σ,H2,I2,S,fun b hb=>(f2 b hb).1,w0⟩
 rintro n s3 ⟨i,c,H3,I3,E,K,w3⟩
 rcases G i n c H3 w3 with ⟨stop,qn⟩ | ⟨go,N,hN,step⟩
 ·refine wpAny_passesOwn L (thn (T.done X rfl rfl rfl hc i pins s3 c H3 X.xe I3 (q K) E stop) fun r s4 ⟨U,I4⟩=>?_)
  subst U
  exact wpAny_execs_nil ⟨c,H3,I4,qn⟩
 ·refine wpAny_passesOwn L (thn (T.item X rfl rfl rfl hc i pins s3 c H3 X.xe I3 (q K) E go) fun r s4 ⟨u,U,h4⟩=>?_)
  subst U
  refine wpAny_passesOwn L (thn h4 fun _ s5 ⟨x,H5,I5,r5,y5,C,O⟩=>?_)
  have P:=I5.pinned (q O) (T.obj _ _ C)
  refine wpAny_passesOwn L (thn (hg _ s5 c H5 x u _ P r5 (step x H5 y5)) fun _ s6 ⟨R,H6,I6,q6⟩=>?_)
  refine wpAny_passesOwn L (thn (hb _ s6 R H6 _ I6 q6) fun f Q B=>?_)
  have y:∀ {a:St} {j:Hp},Inv X (pins ++ afh fp s5.heap) a j Q->N a j->∃ m,m < n/\∃ i l H',Inv X pins l H' Q/\tn i Q.heap/\(∀ b∈fp,H' b=none)/\W i m l H':=fun {a j} z F=>by
   obtain ⟨m',hm,w7⟩:=hN a j F
   refine ⟨m',hm,i+1,a,j,z.unpinned,T.keep _ _ _ C fun b hb o e=>(z.pin (b,o) (az2 _ (az2 _ (adv hb e)))).1,fun b hb=>?_,w7⟩
   obtain ⟨o,e,d⟩:=T.obj _ _ C b hb
   exact (z.pin (b,o) (az2 _ (az2 _ (adv hb e)))).2.1
  cases f with
  | next=>obtain ⟨a,j,z,F⟩:=B;exact y z F
  | cont=>obtain ⟨a,j,z,F⟩:=B;exact y z F
  | brk=>obtain ⟨a,j,z,B⟩:=B;exact ⟨a,j,z.unpinned,B⟩
  | ret v=>obtain ⟨x7,a,j,z,r7,B⟩:=B;exact ⟨x7,a,j,z.unpinned,r7,B⟩
end
theorem ao0 {lo:Int} {n:Nat} {g:TG} {f:TS} {D:Ends} {σ:St} {H:Hp} (c:Nat->St->Hp->Prop) (l:c 0 σ H)
  (hs:∀ i σ H,i < n->c i σ H->g (.int (lo+i)) σ H fun a d=>f { D with nx:=c (i+1),ct:=c (i+1),bk:=D.nx } a d) (hd:∀ σ H,c n σ H->D.nx σ H) :
  ∃ W:Nat->Nat->St->Hp->Prop,(∃ m,W 0 m σ H)/\∀ i m σ H,W i m σ H ->
   ((Itr lo n).stop i H/\D.nx σ H)\/((Itr lo n).go i H/\∃ N:St->Hp->Prop,(∀ b H',N b H'->∃ h,h < m/\W (i+1) h b H')/\∀ x H',(Itr lo n).yld i H x H'->g x σ H' fun a d=>f { D with nx:=N,ct:=N,bk:=D.nx } a d):=by
 refine ⟨fun i m σ H=>m=n - i/\i<=n/\c i σ H,⟨n,by simp,aD0 _,l⟩,?_⟩
 rintro i m σ H ⟨rfl,hi,p⟩
 by_cases hlt:i < n
 ·refine .inr ⟨hlt,c (i+1),fun b H' j=>⟨n - (i+1),by omega,rfl,hlt,j⟩,fun x H' y=>?_⟩
  obtain ⟨e,y⟩:=y
  subst e y
  exact hs i σ _ hlt p
 ·have e:i=n:=by omega
  subst e
  exact .inl ⟨ay6 _,hd σ H p⟩
abbrev R2:=V->V->Hp->VK->Prop
def OpR (X:Cx) (f:Value->Value->Sem Value) (r:R2):Prop :=
 ∀ (pins:List (Addr × Obj)) (s:Shared) (σ:St) (H:Hp) (x y:V) (v u:Value) (Q:VK),Inv X pins σ H s->RelV x v->RelV y u->r x y H Q ->
  wpAny (model X.prog X.w) X.A (f v u) (EP X pins σ Q) X.xe s
def UnR (X:Cx) (f:Value->Sem Value) (r:V->Hp->VK->Prop):Prop :=
 ∀ (pins:List (Addr × Obj)) (s:Shared) (σ:St) (H:Hp) (x:V) (v:Value) (Q:VK),Inv X pins σ H s->RelV x v->r x H Q ->
  wpAny (model X.prog X.w) X.A (f v) (EP X pins σ Q) X.xe s
def aba (X:Cx) (f:Value) (r:List V->Hp->VK->Prop):Prop :=
 ∀ (pins:List (Addr × Obj)) (s:Shared) (σ:St) (H:Hp) (xs:List V) (us:List Value) (Q:VK),Inv X pins σ H s->Vals xs us->r xs H Q ->
  wpAny (model X.prog X.w) X.A (call f us) (EP X pins σ Q) X.xe s
def tOp (r:R2) (ta tb:TE):TE:=fun σ H Q=>ta σ H fun x H1=>tb σ H1 fun y H2=>r x y H2 Q
def tUn (r:V->Hp->VK->Prop) (ta:TE):TE:=fun σ H Q=>ta σ H fun x H1=>r x H1 Q
def rI (C:Int->Int->Prop) (g:Int->Int->V):R2:=fun x y H Q=>∃ i j,x=.int i/\y=.int j/\C i j/\Q (g i j) H
def rI0 (g:Int->Int->V):R2:=fun x y H Q=>∃ i j,x=.int i/\y=.int j/\Q (g i j) H
def rU (g:Int->V):V->Hp->VK->Prop:=fun x H Q=>∃ i,x=.int i/\Q (g i) H
section
variable {X:Cx} {a b c:Expr} {ta tb tc:TE} {pos:Pos}
theorem binT (ha:PE X a ta) (hb:PE X b tb) {pins:List (Addr × Obj)} {s:Shared} {σ:St} {H:Hp} {R:V->V->Hp->Prop} (I:Inv X pins σ H s)
  (h:ta σ H fun x i=>tb σ i fun y c=>R x y c) {Q:Value->Shared->Prop} {f:Value->Value->Sem Value}
  (hf:∀ v u s2 x y c,Inv X pins σ c s2->RelV x v->RelV y u->R x y c->wpAny (model X.prog X.w) X.A (f v u) Q X.xe s2) :
  wpAny (model X.prog X.w) X.A (eval a X.env) (fun v d=>wpAny (model X.prog X.w) X.A (eval b X.env) (fun u g=>wpAny (model X.prog X.w) X.A (f v u) Q X.xe g) X.xe d) X.xe s:=by
 refine thn (ha pins s σ H _ I h) fun v s1 ⟨x,i,n,l,m⟩=>?_
 refine thn (hb pins s1 σ i _ n m) fun u s2 ⟨y,c,j,o,p⟩=>?_
 exact hf v u s2 x y c j l o p
theorem aak {op:Operator} {r:R2} (f:OpR X (binaryOp op) r) (ha:PE X a ta) (hb:PE X b tb):PE X (.BinOp a op b pos) (tOp r ta tb):=by
 intro pins s σ H Q I h
 exact wpAny_BinOp (binT ha hb I h fun v u s2 x y d c g i q=>f pins s2 σ d x y v u Q c g i q)
theorem ae2 {op:UnaryOp} {r:V->Hp->VK->Prop} (g:UnR X (unaryOp op) r) (ha:PE X a ta):PE X (.UnaryOp op a pos) (tUn r ta):=by
 intro pins s σ H Q I h
 exact UnaryOp_ (thn (ha pins s σ H _ I h) fun v s1 ⟨x,d,f,c,b⟩=>g pins s1 σ d x v Q f c b)
theorem opI {f:Value->Value->Sem Value} {C:Int->Int->Prop} {g:Int->Int->Int}
  (a:∀ (i j:Int) (t u:Tok) (s:Shared) (Q:Value->Shared->Prop) (E:Value->Shared->Prop),C i j->Q (.int (g i j) s.toks) { s with toks:=s.toks+1 }->wpAny (model X.prog X.w) X.A (f (.int i t) (.int j u)) Q E s) :
  OpR X f (rI C fun i j => .int (g i j)):=by
 intro pins s σ H x y v u Q I c d h
 obtain ⟨i,j,rfl,rfl,b,q⟩:=h
 obtain ⟨t,rfl⟩:=c
 obtain ⟨t',rfl⟩:=d
 exact a i j t t' s _ _ b ⟨.int (g i j),H,I.tok _,⟨_,rfl⟩,q⟩
theorem opI0 {f:Value->Value->Sem Value} {g:Int->Int->Int}
  (a:∀ (i j:Int) (t u:Tok) (s:Shared) (Q:Value->Shared->Prop) (E:Value->Shared->Prop),Q (.int (g i j) s.toks) { s with toks:=s.toks+1 }->wpAny (model X.prog X.w) X.A (f (.int i t) (.int j u)) Q E s) :
  OpR X f (rI0 fun i j => .int (g i j)):=by
 intro pins s σ H x y v u Q I b c h
 obtain ⟨i,j,rfl,rfl,q⟩:=h
 obtain ⟨t,rfl⟩:=b
 obtain ⟨t',rfl⟩:=c
 exact a i j t t' s _ _ ⟨.int (g i j),H,I.tok _,⟨_,rfl⟩,q⟩
theorem opB0 {f:Value->Value->Sem Value} {g:Int->Int->Bool}
  (a:∀ (i j:Int) (t u:Tok) (s:Shared) (Q:Value->Shared->Prop) (E:Value->Shared->Prop),Q (.bool (g i j)) s->wpAny (model X.prog X.w) X.A (f (.int i t) (.int j u)) Q E s) :
  OpR X f (rI0 fun i j => .bl (g i j)):=by
 intro pins s σ H x y v u Q I b c h
 obtain ⟨i,j,rfl,rfl,q⟩:=h
 obtain ⟨t,rfl⟩:=b
 obtain ⟨t',rfl⟩:=c
 exact a i j t t' s _ _ ⟨.bl (g i j),H,I,rfl,q⟩
def CDiv (i j:Int):Prop:=0 < j/\j < 1073741824
def CPow (i j:Int):Prop:=0<=j/\j<=1000000/\i.natAbs < 2 ^ 64
def CMul (i j:Int):Prop:=(-(2 ^ 64) < i/\i < 2 ^ 64)\/(-(2 ^ 64) < j/\j < 2 ^ 64)
theorem CMul.ok {i j:Int} (h:CMul i j):IntMulOk i j:=by
 rcases h with ⟨b,a⟩ | ⟨b,a⟩
 ·exact .of_left (intBits_le_64 b a)
 ·exact .of_right (intBits_le_64 b a)
theorem aa7:OpR X (binaryOp .Add) (rI0 fun i j => .int (i+j)):=opI0 fun _ _ _ _ _ _ _ q=>add_int q
theorem acr:OpR X (binaryOp .Sub) (rI0 fun i j => .int (i - j)):=opI0 fun _ _ _ _ _ _ _ q=>sub_int q
theorem afi:OpR X (binaryOp .Mult) (rI CMul fun i j => .int (i * j)):=opI fun _ _ _ _ _ _ _ a q=>mul_int q a.ok
theorem ahy:OpR X (binaryOp .FloorDiv) (rI CDiv fun i j => .int (i / j)):=opI fun i j _ _ _ _ _ a q=>by
 have c:(0:Int) < j:=a.1
 have b:j < 1073741824:=a.2
 exact floordiv_int (by omega) (by rw [Int.fdiv_eq_ediv_of_nonneg i (by omega)];exact q) (.inl (PyProof.noPylong_small (by omega)))
theorem ad4:OpR X (binaryOp .Mod) (rI (fun _ j=>0 < j) fun i j => .int (i % j)):=opI fun i j _ _ _ _ _ a q=>by
 have b:(0:Int) < j:=a
 exact mod_int' (by omega) (by rw [Int.fmod_eq_emod_of_nonneg i (by omega)];exact q)
theorem avm:OpR X (binaryOp .Pow) (rI CPow fun i j => .int (i ^ j.toNat)):=opI fun _ _ _ _ _ _ _ a q=>pow_int_small a.1 a.2.1 a.2.2 q
theorem unI {f:Value->Sem Value} {g:Int->Int}
  (a:∀ (i:Int) (t:Tok) (s:Shared) (Q:Value->Shared->Prop) (E:Value->Shared->Prop),Q (.int (g i) s.toks) { s with toks:=s.toks+1 }->wpAny (model X.prog X.w) X.A (f (.int i t)) Q E s) :
  UnR X f (rU fun i => .int (g i)):=by
 intro pins s σ H x v Q I b h
 obtain ⟨i,rfl,q⟩:=h
 obtain ⟨t,rfl⟩:=b
 exact a i t s _ _ ⟨.int (g i),H,I.tok _,⟨_,rfl⟩,q⟩
theorem ad5:UnR X (unaryOp .USub) (rU fun i => .int (-i)):=unI fun _ _ _ _ _ q=>neg_int q
end
def scal:V->V->Bool
 | .non,.non=>true | .non,.int _=>true | .int _,.non=>true | .non,.bl _=>true | .bl _,.non=>true | .non,.str _=>true | .str _,.non=>true
 | .int _,.int _=>true | .bl _,.bl _=>true | .str _,.str _=>true | .byt _,.byt _=>true
 | .int _,.str _=>true | .str _,.int _=>true | .bl _,.str _=>true | .str _,.bl _=>true
 | _,_=>false
def rEq:R2:=fun x y H Q=>scal x y=true/\Q (.bl (decide (x=y))) H
def rNe:R2:=fun x y H Q=>scal x y=true/\Q (.bl (!decide (x=y))) H
theorem afy {i j:Int}:decide (V.int i=V.int j)=(i == j):=by
 rw [aE6]
 simp
theorem akc {i j:Bool}:decide (V.bl i=V.bl j)=(i == j):=by
 rw [aE6]
 simp
theorem amf {i j:Str}:decide (V.str i=V.str j)=(i == j):=by
 rw [aE6]
 simp
theorem amg {i j:Array UInt8}:decide (V.byt i=V.byt j)=(i.toList == j.toList):=by
 rw [aE6]
 cases i
 cases j
 simp
section
variable {X:Cx} {a b c:Expr} {ta tb tc:TE} {pos:Pos}
theorem aay {pins:List (Addr × Obj)} {σ:St} {H:Hp} {s:Shared} {Q:VK} {k a:Bool} (I:Inv X pins σ H s) (q:Q (.bl k) H) (e:k=a):EP X pins σ Q (.bool a) s:=by
 subst e
 exact ⟨.bl k,H,I,rfl,q⟩
theorem adm:OpR X (compareOp .Eq) rEq:=by
 intro pins s σ H x y v u Q I b a h
 obtain ⟨hs,q⟩:=h
 cases x with
 | non =>
  cases b
  cases y with
  | non=>cases a;exact PySem.EqNone.eq_none_none (aay I q (by simp))
  | bl j=>cases a;exact PySem.EqNone.eq_none_bool (aay I q (by simp))
  | int j=>obtain ⟨t',rfl⟩:=a;exact PySem.EqNone.eq_none_int (aay I q (by simp))
  | str j=>obtain ⟨t',rfl⟩:=a;exact PySem.EqNone.eq_none_str (aay I q (by simp))
  | _=>exact absurd (show false=true from hs) ay9
 | bl i =>
  cases b
  cases y with
  | non=>cases a;exact PySem.EqNone.eq_bool_none (aay I q (by simp))
  | bl j=>cases a;exact eq_bool (aay I q akc)
  | str j=>obtain ⟨t',rfl⟩:=a;exact PySem.EqMixed.eq_bool_str (aay I q (by simp))
  | _=>exact absurd (show false=true from hs) ay9
 | int i =>
  obtain ⟨t,rfl⟩:=b
  cases y with
  | non=>cases a;exact PySem.EqNone.eq_int_none (aay I q (by simp))
  | int j=>obtain ⟨t',rfl⟩:=a;exact eq_int (aay I q afy)
  | str j=>obtain ⟨t',rfl⟩:=a;exact PySem.EqMixed.eq_int_str (aay I q (by simp))
  | _=>exact absurd (show false=true from hs) ay9
 | str i =>
  obtain ⟨t,rfl⟩:=b
  cases y with
  | non=>cases a;exact PySem.EqNone.eq_str_none (aay I q (by simp))
  | bl j=>cases a;exact PySem.EqMixed.eq_str_bool (aay I q (by simp))
  | int j=>obtain ⟨t',rfl⟩:=a;exact PySem.EqMixed.eq_str_int (aay I q (by simp))
  | str j=>obtain ⟨t',rfl⟩:=a;exact eq_str (aay I q amf)
  | _=>exact absurd (show false=true from hs) ay9
 | byt i =>
  obtain ⟨t,rfl⟩:=b
  cases y with
  | byt j=>obtain ⟨t',rfl⟩:=a;exact PySem.W.eq_bytes (aay I q amg)
  | _=>exact absurd (show false=true from hs) ay9
 | _=>cases y <;> exact absurd (show false=true from hs) ay9
theorem ag3:OpR X (compareOp .NotEq) rNe:=by
 intro pins s σ H x y v u Q I b a h
 obtain ⟨hs,q⟩:=h
 cases x with
 | non =>
  cases b
  cases y with
  | non=>cases a;exact PySem.EqNone.ne_none_none (aay I q (by simp))
  | bl j=>cases a;exact PySem.EqNone.ne_none_bool (aay I q (by simp))
  | int j=>obtain ⟨t',rfl⟩:=a;exact PySem.EqNone.ne_none_int (aay I q (by simp))
  | str j=>obtain ⟨t',rfl⟩:=a;exact PySem.EqNone.ne_none_str (aay I q (by simp))
  | _=>exact absurd (show false=true from hs) ay9
 | bl i =>
  cases b
  cases y with
  | non=>cases a;exact PySem.EqNone.ne_bool_none (aay I q (by simp))
  | bl j=>cases a;exact ne_bool (aay I q (congrArg not akc))
  | str j=>obtain ⟨t',rfl⟩:=a;exact PySem.EqMixed.ne_bool_str (aay I q (by simp))
  | _=>exact absurd (show false=true from hs) ay9
 | int i =>
  obtain ⟨t,rfl⟩:=b
  cases y with
  | non=>cases a;exact PySem.EqNone.ne_int_none (aay I q (by simp))
  | int j=>obtain ⟨t',rfl⟩:=a;exact ne_int (aay I q (congrArg not afy))
  | str j=>obtain ⟨t',rfl⟩:=a;exact PySem.EqMixed.ne_int_str (aay I q (by simp))
  | _=>exact absurd (show false=true from hs) ay9
 | str i =>
  obtain ⟨t,rfl⟩:=b
  cases y with
  | non=>cases a;exact PySem.EqNone.ne_str_none (aay I q (by simp))
  | bl j=>cases a;exact PySem.EqMixed.ne_str_bool (aay I q (by simp))
  | int j=>obtain ⟨t',rfl⟩:=a;exact PySem.EqMixed.ne_str_int (aay I q (by simp))
  | str j=>obtain ⟨t',rfl⟩:=a;exact ne_str (aay I q (congrArg not amf))
  | _=>exact absurd (show false=true from hs) ay9
 | byt i =>
  obtain ⟨t,rfl⟩:=b
  cases y with
  | byt j=>obtain ⟨t',rfl⟩:=a;exact PySem.W.ne_bytes (aay I q (congrArg not amg))
  | _=>exact absurd (show false=true from hs) ay9
 | _=>cases y <;> exact absurd (show false=true from hs) ay9
theorem ano:OpR X (compareOp .Lt) (rI0 fun i j => .bl (decide (i < j))):=opB0 fun _ _ _ _ _ _ _ q=>lt_int q
theorem ajw:OpR X (compareOp .LtE) (rI0 fun i j => .bl (decide (i<=j))):=opB0 fun _ _ _ _ _ _ _ q=>le_int q
theorem anp:OpR X (compareOp .Gt) (rI0 fun i j => .bl (decide (j < i))):=opB0 fun _ _ _ _ _ _ _ q=>gt_int q
theorem ass:OpR X (compareOp .GtE) (rI0 fun i j => .bl (decide (j<=i))):=opB0 fun _ _ _ _ _ _ _ q=>ge_int q
theorem aa1 (b:Expr) {op:CmpOp} (h:op ≠ .In:=by decide) (c:op ≠ .NotIn:=by decide):behindInMarks op b=false:=by
 have d:(op == CmpOp.In)=false:=by cases op <;> first | rfl | exact absurd rfl h
 have a:(op == CmpOp.NotIn)=false:=by cases op <;> first | rfl | exact absurd rfl c
 cases b <;> simp [behindInMarks,d,a]
theorem aer {op:CmpOp} {r:R2} (f:OpR X (compareOp op) r) (ha:PE X a ta) (hb:PE X b tb) (hm:behindInMarks op b=false):PE X (.Compare a [op] [b] pos) (tOp r ta tb):=by
 intro pins s σ H Q I h
 exact wpAny_Compare1 (binT ha hb I h fun v u s2 x y d c g i q=>f pins s2 σ d x y v u Q c g i q) hm
def anq (t:TE):TT:=fun σ H Q=>t σ H fun x H'=>∃ k,x=.bl k/\Q k H'
theorem aa2 {op:CmpOp} {r:R2} (j:OpR X (compareOp op) r) (ha:PE X a ta) (hb:PE X b tb) (hm:behindInMarks op b=false):PT X (.Compare a [op] [b] pos) (anq (tOp r ta tb)):=by
 intro pins s σ H Q I h
 refine wpAny_isTrue_Compare1 (thn (ha pins s σ H _ I h) fun v s1 ⟨x,g,m,f,l⟩=>thn (hb pins s1 σ g _ m l) fun u s2 ⟨y,i,d,o,q⟩ =>
  thn (j pins s2 σ i x y v u _ d f o q) fun c A ⟨z,H3,w,n,k,e,p⟩=>?_) hm
 subst e
 cases n
 exact aG7 ⟨H3,w,p⟩
def akd (r r':R2) (ta tb tc:TE):TE:=fun σ H Q=>ta σ H fun x H1=>tb σ H1 fun y H2=>r x y H2 fun z H3=>∃ k,z=.bl k /\
 (if k=true then tc σ H3 fun w' H4=>r' y w' H4 Q else Q (.bl false) H3)
theorem ake {op f:CmpOp} {r i:R2} (B:OpR X (compareOp op) r) (g:OpR X (compareOp f) i) (ha:PE X a ta) (hb:PE X b tb) (K:PE X c tc)
  (hm:lastMarks [op,f] [b,c]=false:=by with_unfolding_all rfl):PE X (.Compare a [op,f] [b,c] pos) (akd r i ta tb tc):=by
 intro pins s σ H Q I h
 refine Compare_chain (thn (ha pins s σ H _ I h) fun v s1 ⟨x,q,J,p,C⟩=>chain_link (thn (hb pins s1 σ q _ J C) fun u s2 ⟨y,w,o,j,N⟩ =>
  thn (B pins s2 σ w x y v u _ o p j N) fun d O ⟨z,H3,m,L,k,e,l⟩=>?_)) hm
 subst e
 cases L
 refine aG7 ?_
 cases k with
 | false=>exact ite_ff ⟨.bl false,H3,m,rfl,l⟩
 | true=>exact ite_tt (chain_last (thn (K pins O σ H3 _ m l) fun E M ⟨D,n,F,A,G⟩=>g pins M σ n y D u E Q F j A G))
theorem ag4:(sizeLine:Nat) < 2 ^ 63:=by rw [sizeLine_eq];decide
theorem acj {x:V} {us:List Value} (r:Vals [x] us):∃ u,us=[u]/\RelV x u:=by
 cases r with
 | cons r1 r2=>cases r2;exact ⟨_,rfl,r1⟩
theorem anr {x y:V} {us:List Value} (r:Vals [x,y] us):∃ u a,us=[u,a]/\RelV x u/\RelV y a:=by
 cases r with
 | cons r1 r2 =>
  cases r2 with
  | cons r3 r4=>cases r4;exact ⟨_,_,rfl,r1,r3⟩
theorem ao1 (a:X.calm=true):aba X (.builtin "max") (fun xs H Q=>∃ i j,xs=[.int i,.int j]/\Q (.int (if j > i then j else i)) H):=by
 intro pins s σ H xs us Q I r h
 obtain ⟨i,j,rfl,q⟩:=h
 obtain ⟨u,b,rfl,⟨t,rfl⟩,⟨t',rfl⟩⟩:=anr r
 refine max_two_ints (I.ok.hd a) fun h' c k=>⟨_,H,I.kept k,?_,q⟩
 by_cases hj:j > i
 ·rw [aC5 hj,aC5 hj];exact ⟨_,rfl⟩
 ·rw [aC6 hj,aC6 hj];exact ⟨_,rfl⟩
theorem ao2 (a:X.calm=true):aba X (.builtin "min") (fun xs H Q=>∃ i j,xs=[.int i,.int j]/\Q (.int (if j < i then j else i)) H):=by
 intro pins s σ H xs us Q I r h
 obtain ⟨i,j,rfl,q⟩:=h
 obtain ⟨u,b,rfl,⟨t,rfl⟩,⟨t',rfl⟩⟩:=anr r
 refine min_two_ints (I.ok.hd a) fun h' c k=>⟨_,H,I.kept k,?_,q⟩
 by_cases hj:j < i
 ·rw [aC5 hj,aC5 hj];exact ⟨_,rfl⟩
 ·rw [aC6 hj,aC6 hj];exact ⟨_,rfl⟩
theorem ao3:aba X (.type "int") (fun xs H Q=>(∃ i,xs=[.int i]/\Q (.int i) H)\/∃ k,xs=[.bl k]/\Q (.int (if k then 1 else 0)) H):=by
 intro pins s σ H xs us Q I r h
 rcases h with ⟨i,rfl,q⟩ | ⟨k,rfl,q⟩
 ·obtain ⟨u,rfl,t,rfl⟩:=acj r
  exact call_int_int ⟨.int i,H,I,⟨_,rfl⟩,q⟩
 ·obtain ⟨u,rfl,a⟩:=acj r
  cases a
  exact call_int_bool ⟨.int (if k then 1 else 0),H,I.tok _,⟨_,rfl⟩,q⟩
end
structure ObjM (h:Heap) (x dx C:Addr) (mA:Str->Option Value):Prop where
 obj:h.get? x=some (PySem.W.instObj C dx)
 ns:h.Ns1 dx mA
 ne:dx ≠ x
theorem ao4 {h:Heap} {dx:Addr} {mA:Str->Option Value} (n:h.Ns1 dx mA):∃ od,h.get? dx=some od/\∀ name,PySem.W.lookIn name od=some (mA name):=by
 obtain ⟨o,es,i,d,hd,c,_,hm⟩:=n
 refine ⟨o,d,fun name=>?_⟩
 have e:=hm name
 unfold nsFind findBy at e
 rw [← Array.find?_toList] at e
 unfold PySem.W.lookIn
 rw [hd]
 dsimp only
 split
 ·rename_i y q
  rw [q] at e
  exact congrArg some e
 ·rename_i q
  rw [q] at e
  have a:es.toList.any (·.refKey)=false:=by
   rw [List.any_eq_false]
   intro y f
   obtain ⟨z,t,b⟩:=c y (Array.mem_toList_iff.mp f)
   simp [DictEntry.refKey,b]
  have g:¬ es.toList.any (·.refKey)=true:=by rw [a];exact ay9
  rw [aC6 g]
  exact congrArg some e
theorem ObjM.look {h:Heap} {x dx C:Addr} {mA:Str->Option Value} (I:ObjM h x dx C mA):∃ od,PySem.W.InstAt h x (PySem.W.instObj C dx) C (some od)/\∀ name,PySem.W.lookIn name od=some (mA name) :=
 let ⟨od,b,a⟩:=ao4 I.ns
 ⟨od,⟨I.obj,rfl,rfl,b⟩,a⟩
section
variable {prog:Program} {w:World} {A:Around} {E:Value->Shared->Prop} {s:Shared} {K:Frag} {x dx C f:Addr} {mA:Str->Option Value} {name:Str} {v:Value}
end
def putF (f:Str) (v:V):List (Str × V)->List (Str × V)
 | []=>[(f,v)]
 | (g,x) :: r=>if g=f then (g,v) :: r else (g,x) :: putF f v r
section
variable {P:Program} {w:World} {H H':Hp} {h h':Heap} {a C dx:Addr} {fs fs':List (Str × V)}
theorem ati (hok:HOk P w H h) (e:H a=some (.ins C dx fs)):∃ mA,ObjM h a dx C mA/\(∀ f,RelO (fs.lookup f) (mA f))/\PySem.Within mA (fs.map (·.1))/\fs.length<=1000/\H dx=some (.own a):=by
 obtain ⟨d,z,ne,b,mA,n,r,q⟩:=(show ObjOk P w H h a (.ins C dx fs) from hok a _ e)
 exact ⟨mA,⟨b,n,ne⟩,r,q,z,d⟩
end
structure Cls (K:Frag) (C:Addr):Prop where
 pg:PySem.W.plainGet K C Str.empty=true
 hd:PySem.W.hasDictIn K C=true
 po:PySem.W.plainOver K C=true
 sa:PySem.W.findIn K (.ref C) "__setattr__" = some (some (.builtin "object.__setattr__"))
theorem Cls.get {K:Frag} {C:Addr} (c:Cls K C) (f:Str):PySem.W.plainGet K C f=true:=c.pg
section
variable {X:Cx} {pins:List (Addr × Obj)} {σ:St} {H:Hp} {s:Shared} {a C dx:Addr} {fs:List (Str × V)} {f:Str} {v:V} {A:Around} {E:Value->Shared->Prop}
end
section
variable {X:Cx} {o e value:Expr} {f:Str} {pos pos' tpos:Pos} {ta tv:TE}
end
section
variable {X:Cx} {pins:List (Addr × Obj)} {σ:St} {H:Hp} {s:Shared} {A:Around} {E:Value->Shared->Prop} {Q:Value->Shared->Prop} {c:Value} {b:Bool}
inductive TyOf (K:Frag) (H:Hp):V->Value->Prop where
 | non:TyOf K H .non (.type "NoneType")
 | bl (x:Bool):TyOf K H (.bl x) (.type "bool")
 | int (i:Int):TyOf K H (.int i) (.type "int")
 | str (x:Str):TyOf K H (.str x) (.type "str")
 | flt (x:UInt64):TyOf K H (.flt x) (.type "float")
 | lst {a:Addr} {xs:List V} (e:H a=some (.lst xs)):TyOf K H (.ref a) (.type "list")
 | frz {a:Addr} {o:Obj} {xs:List V} (e:H a=some (.frz o (.lst xs))):TyOf K H (.ref a) (.type "list")
 | tup {a:Addr} {xs:List V} (e:H a=some (.tup xs)):TyOf K H (.ref a) (.type "tuple")
 | dK {a:Addr} {kvs:List (Key × V)} (e:H a=some (.dK kvs)):TyOf K H (.ref a) (.type "dict")
 | dT {a:Addr} {kvs:List (List Key × V)} (e:H a=some (.dT kvs)):TyOf K H (.ref a) (.type "dict")
 | ins {a C dx:Addr} {fs:List (Str × V)} (e:H a=some (.ins C dx fs)) (cl:Cls K C) (ha:PySem.W.findIn K (.ref C) "__class__" = some (some (.builtin "object.__class__")))
   (hn:PySem.W.specialIn K (.builtin "object.__class__") "__get__" = some (some (.builtin "getset_descriptor.__get__"))) (htk:PySem.W.takesIn K (.builtin "object.__class__")=some true)
   (hm:mroIn K C (.type "object")=some true):TyOf K H (.ref a) (.ref C)
theorem ao5 {x:V} {u t:Value} (I:Inv X pins σ H s) (d:RelV x u) (ty:TyOf X.K H x t) (e:kitOne X.K t c=some b) (h:∀ l,Q (.bool b) { s with toks:=l }) :
  wpAny (model X.prog X.w) A (call (.builtin "isinstance") [u,c]) Q E s:=by
 cases ty with
 | non=>cases (show u=Value.none from d);exact PySem.W.kia_one PySem.W.kitx_none I.kIn True.intro e (fun z=>nomatch z) h
 | bl y=>cases (show u=Value.bool y from d);exact PySem.W.kia_one PySem.W.kitx_bool I.kIn True.intro e (fun z=>nomatch z) h
 | int i=>obtain ⟨t,q⟩:=(show ∃ t,u=Value.int i t from d);cases q;exact PySem.W.kia_one PySem.W.kitx_int I.kIn True.intro e (fun z=>nomatch z) h
 | str y=>obtain ⟨t,q⟩:=(show ∃ t,u=Value.str y t from d);cases q;exact PySem.W.kia_one PySem.W.kitx_str I.kIn True.intro e (fun z=>nomatch z) h
 | flt y=>obtain ⟨t,q⟩:=(show ∃ t,u=Value.float y t from d);cases q;exact PySem.W.kia_one PySem.W.kitx_float I.kIn True.intro e (fun z=>nomatch z) h
 | @lst a xs ea =>
  cases (show u=Value.ref a from d)
  obtain ⟨_,_,n,_,f⟩:=(show ObjOk X.prog X.w H s.heap a (.lst xs) from I.hok a _ ea)
  exact PySem.W.kia_one PySem.W.kitx_list I.kIn ⟨_,f,rfl⟩ e (fun z=>nomatch z) h
 | @frz a ob xs ea =>
  cases (show u=Value.ref a from d)
  obtain ⟨_,_,_,n,_,f⟩:=(show ObjOk X.prog X.w H s.heap a (.frz ob (.lst xs)) from I.hok a _ ea)
  exact PySem.W.kia_one PySem.W.kitx_list I.kIn ⟨_,f,rfl⟩ e (fun z=>nomatch z) h
 | @tup a xs ea =>
  cases (show u=Value.ref a from d)
  obtain ⟨_,_,_,p⟩:=(show ObjOk X.prog X.w H s.heap a (.tup xs) from I.hok a _ ea)
  obtain ⟨o,f,g,_⟩:=p
  exact PySem.W.kia_one PySem.W.kitx_tuple I.kIn ⟨o,f,g⟩ e (fun z=>nomatch z) h
 | @dK a kvs ea =>
  cases (show u=Value.ref a from d)
  obtain ⟨_,_,vs,_,p⟩:=(show ObjOk X.prog X.w H s.heap a (.dK kvs) from I.hok a _ ea)
  obtain ⟨o,es,j,f,g,_⟩:=p
  exact PySem.W.kia_one PySem.W.kitx_dict I.kIn ⟨o,f,g.1⟩ e (fun z=>nomatch z) h
 | @dT a kvs ea =>
  cases (show u=Value.ref a from d)
  obtain ⟨_,_,xs,_,o,es,j,f,g,_⟩:=(show ObjOk X.prog X.w H s.heap a (.dT kvs) from I.hok a _ ea)
  exact PySem.W.kia_one PySem.W.kitx_dict I.kIn ⟨o,f,g.1⟩ e (fun z=>nomatch z) h
 | @ins a C dx fs ea cl ha hn htk hm =>
  cases (show u=Value.ref a from d)
  obtain ⟨mA,O,_⟩:=ati I.hok ea
  obtain ⟨od,J,_⟩:=O.look
  exact PySem.W.kia_one (PySem.W.kitx_own (cl.get _) cl.hd ha hn htk hm) I.kIn J e (fun z=>nomatch z) h
end
structure Room (k:Nat) (A:Around):Prop where
 hd:A.handled=none
 dp:A.depth+3 * k+5 < recursionLimit
 un:A.units+16 * k+200 < cLine
 gd:A.guards=some []
theorem Room.mono {j k:Nat} {A:Around} (r:Room k A) (h:j<=k):Room j A:=⟨r.hd,by have:=r.dp;omega,by have:=r.un;omega,r.gd⟩
theorem Room.deeper {k:Nat} {A:Around} (r:Room (k+1) A) (env:Env):Room k (A.deeper env) :=
 ⟨r.hd,by have:=r.dp;show A.depth+1+3 * k+5 < _;omega,by have:=r.un;show A.units+3+16 * k+200 < _;omega,r.gd⟩
theorem Room.in1 {k:Nat} {A:Around} (r:Room (k+1) A):Room k A.in1 :=
 ⟨r.hd,by have:=r.dp;show A.depth+3 * k+5 < _;omega,by have:=r.un;show A.units+1+16 * k+200 < _;omega,r.gd⟩
theorem Room.depth {k:Nat} {A:Around} (r:Room k A):A.depth < recursionLimit:=by have:=r.dp;omega
theorem Room.units {k:Nat} {A:Around} (r:Room k A):A.units+64 < cLine:=by have:=r.un;omega
theorem Room.units0 {k:Nat} {A:Around} (r:Room k A):A.units < cLine:=by have:=r.un;omega
def tNil:TA:=fun _ H Q=>Q [] H
def abc (ta:TE) (tr:TA):TA:=fun σ H Q=>ta σ H fun x H1=>tr σ H1 fun xs H2=>Q (x :: xs) H2
section
variable {X:Cx} {e:Expr} {es:List Expr} {te:TE} {t:TA} {pos:Pos}
theorem aab:PA X [] tNil:=fun _ _ _ _ H Q I h=>Calls.spliced_nil ⟨[],H,I,.nil,h⟩
theorem aaa (ha:PE X e te) (m:PA X es t) (hs:starEach (e :: es) X.env=(false,eval e X.env) :: starEach es X.env:=by rfl):PA X (e :: es) (abc te t):=by
 intro a pins s σ H Q I h
 rw [hs]
 show wpAny _ _ (spliced ((false,eval e X.env) :: backTo a (starEach es X.env))) _ _ s
 refine Calls.spliced_cons (thn (ha pins s σ H _ I h) fun u s1 ⟨x,d,i,c,g⟩=>?_)
 exact thn (m a pins s1 σ d _ i g) fun us s2 ⟨xs,f,b,j,l⟩=>⟨x :: xs,f,b,.cons c j,l⟩
def tTup (t:TA):TE:=fun σ H Q=>t σ H fun xs H1=>xs.length<=sizeLine/\∀ p,H1 p=none->Q (.ref p) (upd H1 p (.tup xs))
def tLst (t:TA):TE:=fun σ H Q=>t σ H fun xs H1=>xs.length<=sizeLine/\∀ p,H1 p=none->Q (.ref p) (upd H1 p (.lst xs))
theorem aaj {x1} (h:PA X es t):PE X (.Tuple es x1 pos) (tTup t):=by
 intro pins s σ H Q I d
 refine wpAny_Tuple_spliced (thn (h pos pins s σ H _ I d) fun us s1 ⟨xs,a,c,r,z,q⟩=>⟨by rw [← r.length];exact z,?_⟩)
 have hf:a s1.heap.objs.size=none:=c.hok.fresh (ay6 _)
 refine ⟨.ref s1.heap.objs.size,upd a s1.heap.objs.size (.tup xs),c.laid (t':=s1.toks) (fun b u e=>aF7 _ e) (ay6 _) ?_,rfl,q _ hf⟩
 exact ⟨z,us,r,⟨_,aF9 _ rfl,rfl,_,rfl⟩⟩
theorem aan (h:PA X es t):PE X (.List es pos) (tLst t):=by
 intro pins s σ H Q I d
 refine wpAny_List_spliced (thn (h pos pins s σ H _ I d) fun us s1 ⟨xs,a,c,r,z,q⟩=>⟨by rw [← r.length];exact z,?_⟩)
 have hf:a s1.heap.objs.size=none:=c.hok.fresh (ay6 _)
 refine ⟨.ref s1.heap.objs.size,upd a s1.heap.objs.size (.lst xs),c.laid (t':=s1.toks) (fun b u e=>aF7 _ e) (ay6 _) ?_,rfl,q _ hf⟩
 exact ⟨z,us,0,r,aF9 _ rfl⟩
end
abbrev Sp:=List V->Hp->VK->XK->Prop
abbrev CXT:=List Env->Hp->Shared->XK->Value->Shared->Prop
structure Env0 (P:Program) (w:World) (K:Frag) (mg:Str->Option Value) (base:Heap) (A:Around) (outer:List Env) (s:Shared) (H:Hp):Prop where
 frames:A.frames=some outer
 mod:Mod K mg base
 bs:∀ b o,base.get? b=some o->s.heap.get? b=some o/\H b=none
 bsz:base.objs.size<=s.heap.objs.size
 funs:s.heap.FunFrames base outer
 frf:∀ b∈frs outer,H b=none
 tab:TabsOk K H
 hok:HOk P w H s.heap
 bare:AllBare s.gens
def CE (outer:List Env) (P:Program) (w:World) (H:Hp) (s:Shared) (Q:VK) (u:Value) (s':Shared):Prop :=
 ∃ v H',s'.os=s.os/\AllBare s'.gens/\Un (frs outer) [] H H' s.heap s'.heap/\HOk P w H' s'.heap/\RelV v u/\Q v H'
def CR (CX:CXT) (outer:List Env) (P:Program) (w:World) (H:Hp) (s:Shared) (Q:VK) (E:XK) (r:Result) (s':Shared):Prop :=
 match r with
 | .ok (.ret u)=>CE outer P w H s Q u s'
 | .ok _=>False
 | .error e=>CX outer H s E e s'
structure FnOk (P:Program) (w:World) (K:Frag) (mg:Str->Option Value) (base:Heap) (CX:CXT) (k:Nat) (f:Addr) (fd:FuncData) (ps:List Str) (sp:Sp):Prop where
 len:∀ vs H Q E,sp vs H Q E->vs.length=ps.length
 run:∀ (A:Around) (outer:List Env) (s:Shared) (H:Hp) (args:Args) (us:List Value) (vs:List V) (Q:VK) (E:XK),Room k A->Env0 P w K mg base A outer s H->BindsTo s fd args (ps.zip us)->Vals vs us->sp vs H Q E ->
  codeAny (model P w) A (.call (.ref f) args) (CR CX outer P w H s Q E) s
theorem FnOk.mono {P:Program} {w:World} {K:Frag} {mg:Str->Option Value} {base:Heap} {CX:CXT} {j k:Nat} {f:Addr} {fd:FuncData} {ps:List Str} {sp:Sp} (F:FnOk P w K mg base CX j f fd ps sp) (h:j<=k) :
  FnOk P w K mg base CX k f fd ps sp:=⟨F.len,fun A outer s H args us vs Q E a=>F.run A outer s H args us vs Q E (a.mono h)⟩
theorem FnOk.imp {P:Program} {w:World} {K:Frag} {mg:Str->Option Value} {base:Heap} {CX:CXT} {k:Nat} {f:Addr} {fd:FuncData} {ps:List Str} {sp a:Sp} (F:FnOk P w K mg base CX k f fd ps sp)
  (h:∀ vs H Q E,a vs H Q E->sp vs H Q E):FnOk P w K mg base CX k f fd ps a :=
 ⟨fun vs H Q E q=>F.len vs H Q E (h _ _ _ _ q),fun A outer s H args us vs Q E d c hb b hs=>F.run A outer s H args us vs Q E d c hb b (h _ _ _ _ hs)⟩
theorem Env0.in1 {P:Program} {w:World} {K:Frag} {mg:Str->Option Value} {base:Heap} {A:Around} {outer:List Env} {s:Shared} {H:Hp} (e:Env0 P w K mg base A outer s H) :
  Env0 P w K mg base A.in1 outer s H:=⟨e.frames,e.mod,e.bs,e.bsz,e.funs,e.frf,e.tab,e.hok,e.bare⟩
section
variable {X:Cx} {pins:List (Addr × Obj)} {σ:St} {H:Hp} {s s':Shared}
theorem Inv.env0 (I:Inv X pins σ H s):Env0 X.prog X.w X.K X.mg X.base X.A X.stack s H :=
 ⟨I.ok.frames,I.ok.mod,I.bs,aA9 I.ok.bsz I.sz,I.stack,I.stkFree,I.tab,I.hok,I.bare⟩
theorem Inv.after {Q:VK} {u:Value} (I:Inv X pins σ H s) (h:CE X.stack X.prog X.w H s Q u s'):EP X pins σ Q u s':=by
 obtain ⟨v,H',os,bare,un,hok,r,q⟩:=h
 obtain ⟨hh,g,d,t,a⟩:=s'
 obtain rfl:a=s.os:=os
 exact ⟨v,H',I.call (h':=hh) (g':=g) (d':=d) (t':=t) (ch:=[]) un hok bare (fun b z=>absurd z (by simp)),r,q⟩
end
def acd (sp:Sp) (dvs:List V) (E:XK) (t:TA):TE:=fun σ H Q=>t σ H fun vs H1=>sp (vs ++ dvs) H1 Q E
def Binds (K:Frag) (fd:FuncData) (ps:List Str) (ds:List Value):Prop :=
 ∀ (s:Shared) (us:List Value),K.In s.heap->(us ++ ds).length=ps.length->BindsTo s fd ⟨us,[]⟩ (ps.zip (us ++ ds))
theorem Binds.all {K:Frag} {fd:FuncData} {ps:List Str} (h:∀ us:List Value,us.length=ps.length->bindArgs fd ⟨us,[]⟩=pure (ps.zip us)):Binds K fd ps []:=fun s us _ a=>by
 rw [aC1] at a ⊢
 exact .of_eq (h us a)
def akf (CX:CXT) (X:Cx) (E:XK):Prop:=∀ (pins:List (Addr × Obj)) (σ:St) (H:Hp) (s:Shared) (e:Value) (s':Shared),Inv X pins σ H s->CX X.stack H s E e s'->X.xe e s'
section
variable {X:Cx} {CX:CXT} {k:Nat} {f C:Addr} {fd:FuncData} {ps:List Str} {sp:Sp} {dvs:List V} {ds:List Value} {E:XK} {x m:Str} {p pos apos:Pos} {e o:Expr} {es:List Expr} {ta:TE} {t:TA}
theorem avn {pins:List (Addr × Obj)} {σ:St} {H:Hp} {s:Shared} {Q:VK} {us:List Value} {vs:List V} (F:FnOk X.prog X.w X.K X.mg X.base CX k f fd ps sp) (i:Room k X.A) (hb:Binds X.K fd ps ds) (hd:Vals dvs ds) (d:akf CX X E)
  (I:Inv X pins σ H s) (r:Vals vs us) (h:sp (vs ++ dvs) H Q E):wpAny (model X.prog X.w) X.A (call (.ref f) us) (EP X pins σ Q) X.xe s:=by
 have b:Vals (vs ++ dvs) (us ++ ds):=r.append hd
 have c:(us ++ ds).length=ps.length:=by rw [← b.length];exact F.len _ _ _ _ h
 refine wpAny_call (codeAny_mono (F.run X.A X.stack s H ⟨us,[]⟩ (us ++ ds) (vs ++ dvs) Q E i I.env0 (hb s us I.kIn c) b h) fun r g a=>?_)
 cases r with
 | error e=>exact d pins σ H s e g I a
 | ok fl =>
  cases fl with
  | ret u=>exact I.after a
  | next=>exact False.elim a
  | brk=>exact False.elim a
  | cont=>exact False.elim a
theorem atj (F:FnOk X.prog X.w X.K X.mg X.base CX k f fd ps sp) (l:Room k X.A) (g:Gl X x) (hm:X.mg x=some (.ref f)) (d:keepIn X.K (.ref f)=true) (hb:Binds X.K fd ps ds) (hd:Vals dvs ds) (i:akf CX X E)
  (ha:PA X (e :: es) t) (b:(x == ("__debug__" : Str))=false:=by decide) (j:starEach (e :: es) X.env=(false,eval e X.env) :: starEach es X.env:=by rfl) (a:(backTo pos (starEach es X.env)).any (·.1)=false:=by rfl) :
  PE X (.Call (.Name x p) (e :: es) [] pos) (acd sp dvs E t):=by
 intro pins s σ H Q I h
 refine wpAny_Call_Name_kw (amd I g hm ?_ b)
 refine PySem.W.callWith_K (h₀:=X.base) I.ok.mod.kin d (thn (ha pos pins s σ H _ I h) fun us s1 ⟨vs,m,c,r,q⟩=>⟨c.kIn,?_⟩) j a
 exact avn F l hb hd i c r q
end
section
variable {X:Cx} {CX:CXT} {k:Nat} {f C:Addr} {fd:FuncData} {ps ks:List Str} {sp:Sp} {E:XK} {x m:Str} {p pos apos kpos:Pos} {e o:Expr} {es:List Expr} {kws:List Keyword} {te ta:TE} {t tk:TA} {nm:Option Str}
variable {g:List Value->List Value->List Value} {gV:List V->List V->List V}
end
structure FnScope (N P:List Str) (sc:Scope):Prop where
 kind:sc.kind=.function
 co:sc.isCoroutine=false
 gen:sc.isGenerator=false
 nd:N.Nodup
 pre:N.take P.length=P
 par:∀ x∈P,sc.names.lookup x=some .local\/sc.names.lookup x=some .cell
 nofree:∀ y∈sc.names,y.2 ≠ .free
theorem ain {kindOf:Str->Option NameKind} {x:Str}:∀ {binds:List (Str × Value)} {m:Str->Option Value},(∀ v,(x,v) ∉ binds)->bindL kindOf binds m x=m x
 | [],_,_=>rfl
 | (n,v) :: r,m,h=>by
  unfold bindL
  rw [ain fun w a=>h w (az4 _ a)]
  split
  ·have:x ≠ n:=by rintro rfl;exact h v az7
   simp [this]
  ·rfl
theorem aio {kindOf:Str->Option NameKind} {x:Str}:∀ {binds:List (Str × Value)} {m:Str->Option Value},(∀ v,(x,v) ∉ binds)->bindC kindOf binds m x=m x
 | [],_,_=>rfl
 | (n,v) :: r,m,h=>by
  unfold bindC
  rw [aio fun w a=>h w (az4 _ a)]
  split
  ·rfl
  ·have:x ≠ n:=by rintro rfl;exact h v az7
   simp [this]
theorem aip {kindOf:Str->Option NameKind} {x:Str} {v:Value}:∀ {P:List Str} {vs:List Value} {i:Nat} {m:Str->Option Value},P.Nodup->P[i]?=some x->vs[i]?=some v->kindOf x=some .local ->
  bindL kindOf (P.zip vs) m x=some v
 | [],_,_,_,_,h,_,_=>by simp at h
 | _ :: _,[],_,_,_,_,h,_=>by simp at h
 | p :: P,w :: vs,0,m,nd,h1,h2,hk=>by
  simp at h1 h2;subst h1;subst h2
  show bindL kindOf ((p,w) :: P.zip vs) m p=_
  unfold bindL
  rw [ain fun v a=>(aF1.mp nd).1 (List.of_mem_zip a).1,aC5 hk]
  simp
 | p :: P,w :: vs,i+1,m,nd,h1,h2,hk=>by
  show bindL kindOf ((p,w) :: P.zip vs) m x=_
  unfold bindL
  exact aip (i:=i) (aF1.mp nd).2 (by simpa using h1) (by simpa using h2) hk
theorem aiq {kindOf:Str->Option NameKind} {x:Str} {v:Value}:∀ {P:List Str} {vs:List Value} {i:Nat} {m:Str->Option Value},P.Nodup->P[i]?=some x->vs[i]?=some v->kindOf x ≠ some .local ->
  bindC kindOf (P.zip vs) m x=some v
 | [],_,_,_,_,h,_,_=>by simp at h
 | _ :: _,[],_,_,_,_,h,_=>by simp at h
 | p :: P,w :: vs,0,m,nd,h1,h2,hk=>by
  simp at h1 h2;subst h1;subst h2
  show bindC kindOf ((p,w) :: P.zip vs) m p=_
  unfold bindC
  rw [aio fun v a=>(aF1.mp nd).1 (List.of_mem_zip a).1,aC6 hk]
  simp
 | p :: P,w :: vs,i+1,m,nd,h1,h2,hk=>by
  show bindC kindOf ((p,w) :: P.zip vs) m x=_
  unfold bindC
  exact aiq (i:=i) (aF1.mp nd).2 (by simpa using h1) (by simpa using h2) hk
def start (N:List Str) (vs:List V):St:=vs.map some ++ List.replicate (N.length - vs.length) none
def cxOf (CX:CXT) (P:Program) (w:World) (K:Frag) (mg:Str->Option Value) (base:Heap) (N:List Str) (qual:Str) (scope:Scope) (f:Addr) (cd:Value) (A:Around) (outer:List Env) (s:Shared) (H:Hp) (E:XK):Cx where
 prog:=P
 w:=w
 K:=K
 mg:=mg
 base:=base
 A:=A.deeper (envOfC qual scope s.heap.objs.size f cd)
 N:=N
 s₀:=s
 H₀:=H
 env:=envOfC qual scope s.heap.objs.size f cd
 outer:=outer
 stack:=envOfC qual scope s.heap.objs.size f cd :: outer
 ex:=[]
 calm:=true
 fn:=fun _=>true
 pn:=[]
 xe:=fun e s'=>wpAny (model P w) (A.deeper (envOfC qual scope s.heap.objs.size f cd)) (leaving (envOfC qual scope s.heap.objs.size f cd) e) (fun _ s''=>CX outer H s E e s'') (fun e' s''=>CX outer H s E e' s'') s'
theorem akg {sc:Scope} {n:Nat} {x:Str} (h:sc.names.lookup x=some .cell):∃ c,(cellsFrom n sc.names []).lookup x=some c:=by
 have q:=PySem.W.cellsFrom_some sc.names n [] (.inl h)
 exact Option.isSome_iff_exists.mp q
theorem ao6 {CX:CXT} {P:Program} {w:World} {K:Frag} {mg:Str->Option Value} {base:Heap} {N ps:List Str} {qual:Str} {scope:Scope} {f:Addr} {C:Value} {A:Around} {outer:List Env} {s s1:Shared} {H:Hp} {E:XK} {us:List Value} {vs:List V}
  (S:FnScope N ps scope) (hd:A.handled=none) (g:Env0 P w K mg base A outer s H) (M:vs.length=ps.length) (r:Vals vs us)
  (x:InCallC s s.heap.objs.size (bindL (envOfC qual scope s.heap.objs.size f C).kindOf (ps.zip us) fun _=>none) (cellsFrom (s.heap.objs.size+1) scope.names []) (bindC (envOfC qual scope s.heap.objs.size f C).kindOf (ps.zip us) fun _=>none) s1) :
  Inv (cxOf CX P w K mg base N qual scope f C A outer s H E) [] (start N vs) H s1:=by
 have I:ps.length<=N.length:=by have:=congrArg List.length S.pre;rw [aE0] at this;omega
 obtain ⟨B,J,rfl,F⟩:=x.done
 have j:∀ b:Addr,b ∉ (cxOf CX P w K mg base N qual scope f C A outer s H E).ex:=fun b z=>absurd (show b∈([]:List Addr) from z) (by simp)
 refine ⟨⟨g.mod,S.kind,rfl,rfl,ay6 _,fun y z c B d=>?_,fun y l=>?_,fun y c _ h=>?_,fun _=>hd,Around.frames_deeper g.frames,.inr ⟨rfl,rfl⟩,fun b z=>absurd z (j b),g.bs,g.bsz,fun b _ _=>j b,fun b z=>absurd z (j b),g.funs,g.frf,g.tab⟩,
  rfl,g.bare,Un.kept F,⟨_,x.toInCall.ns,fun i y v B d L=>?_⟩,fun y c h=>⟨_,x.cell y c h⟩,g.hok.fresh (ay6 _),fun y c h=>?_,fun p m=>absurd (show p∈([]:List (Addr × Obj)) from m) (by simp),g.hok.kept F,?_⟩
 ·exact name_of_addr x.apart (PySem.mem_of_lookup B) (PySem.mem_of_lookup d)
 ·have l:scope.names.lookup y=some .cell\/scope.names.lookup y=some .free:=l
  rcases l with l | l
  ·exact akg l
  ·exact absurd rfl (S.nofree _ (PySem.mem_of_lookup l))
 ·exact aD5 (x.above y c (PySem.mem_of_lookup h))
 ·have hi:i < vs.length:=by
   unfold start at d
   by_cases hi:i < vs.length
   ·exact hi
   ·rw [aA7 (by simpa using hi)] at d
    rw [List.getElem?_replicate] at d
    split at d <;> cases d
  have ha:vs[i]?=some v:=by
   unfold start at d
   rw [aA2 (by simpa using hi),ay5] at d
   cases e:vs[i]? with
   | none=>rw [e] at d;cases d
   | some a=>rw [e] at d;cases d;rfl
  obtain ⟨u,D,G⟩:=r.get ha
  have m:ps[i]?=some y:=by
   rw [← S.pre,aE4 (by omega)];exact B
  have o:ps.Nodup:=by rw [← S.pre];exact S.nd.sublist (List.take_sublist _ _)
  refine ⟨u,G,?_⟩
  rcases S.par y (ay2 m) with k | k
  ·exact .inl ⟨k,aip o m D k⟩
  ·obtain ⟨c,e⟩:=akg (n:=s.heap.objs.size+1) k
   refine .inr ⟨.inl k,c,e,?_⟩
   have q:=x.cell y c e
   rw [aiq o m D (by show scope.names.lookup y ≠ _;rw [k];decide)] at q
   exact q
 ·exact g.hok.fresh (aD5 (x.above y c (PySem.mem_of_lookup h)))
 ·unfold start
  show _=N.length
  rw [az0,ay3,List.length_replicate]
  omega
theorem axk {CX:CXT} {P:Program} {w:World} {K:Frag} {mg:Str->Option Value} {base:Heap} {k:Nat} {f:Addr} {name qual:Str} {a:Arguments} {body:List Stmt} {scope:Scope} {C kV doc pm cdv ct oc:Value} {an od:Option Addr}
  {osl:Array (Option Value)} {N ps:List Str} {sp:Sp} (M:K.lookup f=some ⟨oc,od,.func (fnOf name qual a body scope C kV doc pm an cdv ct),osl⟩) (j:codeIn K cdv qual=true) (S:FnScope N ps scope)
  (len:∀ vs H Q E,sp vs H Q E->vs.length=ps.length)
  (g:∀ (A:Around) (outer:List Env) (s:Shared) (H:Hp) (vs:List V) (Q:VK) (E:XK),Room k (A.deeper (envOfC qual scope s.heap.objs.size f cdv))->sp vs H Q E ->
   ∃ t,PSs (cxOf CX P w K mg base N qual scope f cdv A outer s H E) body t/\t { nx:=fun _ H'=>Q .non H',rt:=Q } (start N vs) H) :
  FnOk P w K mg base CX (k+1) f (fnOf name qual a body scope C kV doc pm an cdv ct) ps sp:=by
 refine ⟨len,fun A outer s H args us vs Q E z i hb r h=>?_⟩
 have D:=len _ _ _ _ h
 have B:K.In s.heap:=i.mod.kin.keeps fun b o e=>(i.bs b o e).1
 have l:s.heap.NoLimit:=i.mod.nolimit.keeps fun b o e=>(i.bs b o e).1
 have d:∀ y∈ps.zip us,scope.names.lookup y.1=some .local\/(scope.names.lookup y.1=some .cell/\((cellsFrom (s.heap.objs.size+1) scope.names []).lookup y.1).isSome=true):=fun ⟨n,v⟩ G=>by
  rcases S.par n (List.of_mem_zip G).1 with q | q
  ·exact .inl q
  ·exact .inr ⟨q,PySem.W.cellsFrom_some _ _ _ (.inl q)⟩
 refine codeAny_call_function z.depth (B _ _ M) rfl S.co S.gen rfl (PySem.W.codeRec_of B j) (hb _ _ _ _ ?_)
 refine wpAny_newFunctionEnv_cells S.kind d fun env R s1 x=>?_
 subst R
 refine ⟨l.keeps x.toInCall.keep,codeAny_func ?_⟩
 obtain ⟨t,O,L⟩:=g A outer s H vs Q E (z.deeper _) h
 have I:Inv (cxOf CX P w K mg base N qual scope f cdv A outer s H E) [] (start N vs) H s1:=ao6 S z.hd i D r x
 refine aG2 (O [] s1 (start N vs) H _ I L) (fun F p hs=>?_) fun e p hs=>hs
 have fin:∀ {c:St} {H':Hp} {v:V} {u:Value},Inv (cxOf CX P w K mg base N qual scope f cdv A outer s H E) [] c H' p->RelV v u->Q v H'->CE outer P w H s Q u p :=
  fun {c H' v u} J m q=>⟨v,H',J.os,J.bare,J.base,J.hok,m,q⟩
 cases F with
 | ret u =>
  obtain ⟨v,c,H',J,m,q⟩:=hs
  exact fin J m q
 | next =>
  obtain ⟨c,H',J,q⟩:=hs
  exact fin (v:=V.non) (u:=Value.none) J rfl q
 | brk =>
  obtain ⟨_,_,_,q⟩:=hs
  exact False.elim q
 | cont =>
  obtain ⟨_,_,_,q⟩:=hs
  exact False.elim q
section
variable {X:Cx} {x:Str} {p pos:Pos} {e:Expr} {es:List Expr} {t:TA} {id T:String} {r:List V->Hp->VK->Prop}
def tCB (r:List V->Hp->VK->Prop) (t:TA):TE:=fun σ H Q=>t σ H fun vs H1=>r vs H1 Q
theorem aai (i:aba X (.builtin id) r) (j:Gl X x) (hm:X.mg x=none) (l:bootBuiltins x=some (.builtin id)) (ha:PA X (e :: es) t) (hn:x ≠ "__name__":=by decide) (b:(x == ("__debug__" : Str))=false:=by decide)
  (m:starEach (e :: es) X.env=(false,eval e X.env) :: starEach es X.env:=by rfl) (a:(backTo pos (starEach es X.env)).any (·.1)=false:=by rfl):PE X (.Call (.Name x p) (e :: es) [] pos) (tCB r t):=by
 intro pins s σ H Q I h
 refine wpAny_Call_Name_kw (ad2 I j hm l ?_ hn b)
 exact PyProof.Rows.callWith_builtin1 (thn (ha pos pins s σ H _ I h) fun us s1 ⟨vs,d,g,c,f⟩=>i pins s1 σ d vs us Q g c f) m a
theorem adr (i:aba X (.type T) r) (j:Gl X x) (hm:X.mg x=none) (l:bootBuiltins x=some (.type T)) (ha:PA X (e :: es) t) (hn:x ≠ "__name__":=by decide) (b:(x == ("__debug__" : Str))=false:=by decide)
  (m:starEach (e :: es) X.env=(false,eval e X.env) :: starEach es X.env:=by rfl) (a:(backTo pos (starEach es X.env)).any (·.1)=false:=by rfl):PE X (.Call (.Name x p) (e :: es) [] pos) (tCB r t):=by
 intro pins s σ H Q I h
 refine wpAny_Call_Name_kw (ad2 I j hm l ?_ hn b)
 exact PyProof.Rows.callWith_type1 (thn (ha pos pins s σ H _ I h) fun us s1 ⟨vs,d,g,c,f⟩=>i pins s1 σ d vs us Q g c f) m a
end
end L2
namespace HT
open PySem PyProof.Rows
def lexLt:List Int->List Int->Bool
 | [],[]=>false
 | [],_ :: _=>true
 | _ :: _,[]=>false
 | x :: xs,y :: ys=>if x=y then lexLt xs ys else decide (x < y)
theorem ac6 (x y:Int) (xs ys:List Int):lexLt (x :: xs) (y :: ys)=if x=y then lexLt xs ys else decide (x < y):=rfl
theorem afa:lexLt [] []=false:=rfl
theorem aes (y:Int) (ys:List Int):lexLt [] (y :: ys)=true:=rfl
theorem aet (x:Int) (xs:List Int):lexLt (x :: xs) []=false:=rfl
theorem akh (A:Around) (s:Shared) (a:Int) (t:Tok) (c:Int) (u:Tok):∃ e,SeqAt.EqAt A s (.int a t) (.int c u) e/\(e=true ↔ a=c) :=
 ⟨(a == c),SeqAt.EqAt.int_int a t c u,by simp⟩
theorem aqp (A:Around) (s:Shared) (a:Int) (t:Tok) (c:Int) (u:Tok) (prog:Program) (w:World) (E:Value->Shared->Prop) (Q:Value->Shared->Prop) (h:Q (.bool (decide (a < c))) s) :
  wpAny (model prog w) A (richCompare .Lt (.int a t) (.int c u)) Q E s :=
 (PyProof.Rows.lt_int h:wpAny (model prog w) A (compareOp .Lt (.int a t) (.int c u)) Q E s)
section
open PySem.SeqAt
open PySem.AutoSeq1 (wpAny_loadPart')
open PySem.MeetsSeq PySem.MeetsSeq2 PySem.MeetsSeq3
theorem ajd (l b:Addr) (items f:Array Value) (n M:Nat) (dd J:Option Addr) (sl I:Array (Option Value)) (ns C:List Int) (hi:IntsAre items.toList ns) (hj:IntsAre f.toList C) :
  Meets (Builtin.«tuple.__lt__» ⟨[.ref l,.ref b],[]⟩)
   (fun _ R s=>s.heap.get? l=some { cls:=.type "tuple",dict:=dd,data:=.seq items n,slots:=sl }/\s.heap.get? b=some { cls:=.type "tuple",dict:=J,data:=.seq f M,slots:=I } /\
    R (.ok (.ret (.bool (lexLt ns C)))) s) :=
 .of_wp fun prog w A R s h=>by
  obtain ⟨F,g,d,E,os⟩:=s;obtain ⟨N,hb,h⟩:=h
  have U:=AutoSeq1.sub_tuple_tuple
  have T:items.size=ns.length:=by rw [← hi.length];simp
  have S:f.size=C.length:=by rw [← hj.length];simp
  wp_walk using wpAny_loadPart' N,wpAny_loadPart' hb,wpAny_forIn_list _ (fun rest b K=>b.1=none/\K=⟨F,g,d,E,os⟩/\∃ (vs D:List Value) (m j:List Int),rest=vs.zip D /\
   IntsAre vs m/\IntsAre D j/\m.length+f.size=j.length+items.size/\R (.ok (.ret (.bool (lexLt m j)))) ⟨F,g,d,E,os⟩) _
  case turn =>
   rintro ⟨y,x⟩ rest b K ⟨z,rfl,vs,D,m,j,hz,v,o,i,r⟩
   cases v with
   | nil=>rw [List.zip_nil_left] at hz;cases hz
   | cons a t hvi' =>
    cases o with
    | nil=>rw [List.zip_nil_right] at hz;cases hz
    | cons c u hwi' =>
     rw [List.zip_cons_cons] at hz
     injection hz with H B
     injection H with O P
     subst O P
     rw [ac6] at r
     simp only [aB8] at i
     obtain ⟨e,Q,p⟩:=akh A.in1 ⟨F,g,d,E,os⟩ a t c u
     refine aF5 (Q prog w _ _ ?_)
     cases e with
     | true =>
      rw [aC5 (p.mp rfl)] at r
      wp_walk
      exact ⟨rfl,rfl,_,_,_,_,B,hvi',hwi',by omega,r⟩
     | false =>
      rw [aC6 (fun q=>absurd (p.mpr q) ay9)] at r
      have G:=aqp A.in1 ⟨F,g,d,E,os⟩ a t c u prog w
      wp_walk using G
      exact ⟨_,rfl,by simpa using r⟩
  case fin =>
   rintro ⟨W,X⟩ K ⟨z,rfl,vs,D,m,j,hz,v,o,i,r⟩
   simp only at z
   subst z
   have L:lexLt m j=decide (items.size < f.size):=by
    cases v with
    | nil =>
     cases o with
     | nil =>
      simp only [aF4] at i
      rw [afa]
      exact (aB4 (by omega)).symm
     | cons c u hw =>
      simp only [aF4,aB8] at i
      rw [aes]
      exact (aB5 (by omega)).symm
    | cons a t L =>
     cases o with
     | nil =>
      simp only [aF4,aB8] at i
      rw [aet]
      exact (aB4 (by omega)).symm
     | cons c u hw =>
      rw [List.zip_cons_cons] at hz
      cases hz
   rw [L] at r
   wp_walk
   exact ⟨_,rfl,by simpa [Builtin.Tuple.tupleCompareSizes] using r⟩
  case h =>
   exact ⟨rfl,rfl,items.toList,f.toList,ns,C,rfl,hi,hj,by omega,h⟩
end
section
variable {prog:Program} {w:World} {A:Around} {E:Value->Shared->Prop} {s:Shared}
theorem lt_tupInts {l b:Addr} {items a:Array Value} {ns c:List Int} {Q:Value->Shared->Prop} (v:IsTup s.heap l items) (hb:IsTup s.heap b a) (hi:IntsAre items.toList ns) (hj:IntsAre a.toList c)
  (u:A.units < cLine) (h:Q (.bool (lexLt ns c)) s):wpAny (model prog w) A (compareOp .Lt (.ref l) (.ref b)) Q E s:=by
 obtain ⟨⟨cls,dd,data,sl⟩,o,p,n,hd⟩:=id v
 obtain ⟨⟨q,m,i,j⟩,d,f,r,g⟩:=id hb
 simp only at p hd f g
 subst p hd f g
 exact richCompare_meets_room (op:=.Lt) ⟨_,o,rfl⟩ ⟨_,d,rfl⟩ PySem.F.slot_tuple_lt PySem.F.entry_tuple_lt (PySem.F.args_tuple_lt_2 _ _) (ajd l b items a n r dd m sl j ns c hi hj)
  ⟨o,d,show Value.bool (lexLt ns c) ≠ Value.notImplemented/\Q (.bool (lexLt ns c)) s from ⟨(fun x=>nomatch x),h⟩⟩ u
def sIx (n d:Nat):Option Int->Nat
 | none=>d
 | some v=>if v < 0 then (v+(n:Int)).toNat else min v.toNat n
end
end HT
namespace L2
open PySem PySem.Spec PyProof.Rows
abbrev TO:=St->Hp->(Option Int->Hp->Prop)->Prop
def PO (X:Cx) (e:Option Expr) (t:TO):Prop :=
 ∀ (pins:List (Addr × Obj)) (s:Shared) (σ:St) (H:Hp) (Q:Option Int->Hp->Prop),Inv X pins σ H s->t σ H Q ->
  wpAny (model X.prog X.w) X.A (evalPart e X.env) (fun u s'=>∃ o H',Inv X pins σ H' s'/\IsPart u o/\Q o H') X.xe s
def amh:TO:=fun _ H Q=>Q none H
def ast (t:TE):TO:=fun σ H Q=>t σ H fun x H1=>∃ i,x=.int i/\Q (some i) H1
theorem abk {ns:List Int}:∀ {us:List Value},Vals (ns.map V.int) us->IntsAre us ns:=by
 induction ns with
 | nil=>intro us r;rw [List.map_nil] at r;cases r;exact .nil
 | cons n ns ih =>
  intro us r
  rw [aB0] at r
  cases r with
  | cons r1 r2 =>
   obtain ⟨t,e⟩:=r1
   subst e
   exact .cons n t (ih r2)
section
variable {X:Cx} {e:Expr} {te:TE} {lo hi:Option Expr} {tl th:TO} {pos p2:Pos}
theorem ach:PO X none amh:=by
 intro pins s σ H Q I h
 rw [evalPart_none]
 exact aF6 ⟨none,H,I,.none,h⟩
theorem ab1 (h:PE X e te):PO X (some e) (ast te):=by
 intro pins s σ H Q I f
 rw [evalPart_some]
 refine thn (h pins s σ H _ I f) fun u s1 ⟨x,b,d,a,c⟩=>?_
 obtain ⟨i,rfl,q⟩:=c
 obtain ⟨t,rfl⟩:=a
 exact ⟨some i,b,d,.int i t,q⟩
def SlR (X:Cx) (r:V->Option Int->Option Int->Hp->VK->Prop):Prop :=
 ∀ (pins:List (Addr × Obj)) (s:Shared) (σ:St) (H:Hp) (x:V) (v vl vu:Value) (lo hi:Option Int) (sl:Addr) (Q:VK),Inv X pins σ H s->RelV x v->s.heap.IsSliceOf sl vl vu .none->IsPart vl lo->IsPart vu hi->r x lo hi H Q ->
  ∃ T id,typeLookup (.type T) "__getitem__" = pure (some (.builtin id))/\s.TypeIs v T/\wpAny (model X.prog X.w) X.A (getItem v (.ref sl)) (EP X pins σ Q) X.xe s
def tSl (r:V->Option Int->Option Int->Hp->VK->Prop) (te:TE) (tl th:TO):TE:=fun σ H Q=>te σ H fun x H1=>tl σ H1 fun l H2=>th σ H2 fun u H3=>r x l u H3 Q
theorem abx {r:V->Option Int->Option Int->Hp->VK->Prop} (L:SlR X r) (K:PE X e te) (o:PO X lo tl) (i:PO X hi th):PE X (.Subscript e (.Slice lo hi none p2) pos) (tSl r te tl th):=by
 intro pins s σ H Q I h
 refine Subscript_ (thn (K pins s σ H _ I h) fun v s1 ⟨x,j,B,g,p⟩=>?_)
 refine wpAny_Slice (thn (o pins s1 σ j _ B p) fun c s2 ⟨l,n,f,m,E⟩=>thn (i pins s2 σ n _ f E) fun d a ⟨u,H3,G,y,D⟩=>?_)
 rw [evalPart_none]
 refine aF6 ?_
 have z:Inv X pins σ H3 { a with heap:=a.heap.push { cls:=.type "slice",data:=.fields #[c,d,.none] } }:=G.kept (t':=a.toks) fun b M q=>aF7 _ q
 obtain ⟨T,id,J,F,C⟩:=L pins { a with heap:=a.heap.push { cls:=.type "slice",data:=.fields #[c,d,.none] } } σ H3 x v c d l u a.heap.objs.size Q z g (Heap.IsSliceOf.new ..) m y D
 show wpAny (model X.prog X.w) X.A (subscriptTail e (.Slice lo hi none p2) v (.ref a.heap.objs.size)) (EP X pins σ Q) X.xe { a with heap:=a.heap.push { cls:=.type "slice",data:=.fields #[c,d,.none] } }
 exact tail_any (ops:=[.ref a.heap.objs.size,v]) F J C (by with_unfolding_all rfl)
def cutV (xs:List V) (lo hi:Option Int):List V:=(xs.drop (HT.sIx xs.length 0 lo)).take (HT.sIx xs.length xs.length hi - HT.sIx xs.length 0 lo)
theorem al2 (xs:List V) (lo hi:Option Int):(cutV xs lo hi).length<=xs.length:=by
 unfold cutV
 rw [aE0,List.length_drop]
 omega
def rLtT (K:Frag):R2:=fun x y H Q=>∃ a b ns ms,x=.ref a/\y=.ref b/\SqT K H a (ns.map V.int)/\SqT K H b (ms.map V.int)/\Q (.bl (HT.lexLt ns ms)) H
theorem avo (g:X.A.units < cLine):OpR X (compareOp .Lt) (rLtT X.K):=by
 intro pins s σ H x y v u Q I n o h
 obtain ⟨a,b,ns,d,rfl,rfl,ha,hb,q⟩:=h
 cases n
 cases o
 obtain ⟨its,f,j,_⟩:=I.tuple ha
 obtain ⟨c,l,p2,_⟩:=I.tuple hb
 have i:IntsAre its.toArray.toList ns:=abk f
 have m:IntsAre c.toArray.toList d:=abk l
 exact HT.lt_tupInts j p2 i m g ⟨.bl (HT.lexLt ns d),H,I,rfl,q⟩
end
def ixN (n:Nat) (i:Int):Option Nat:=if 0<=i then (if i < n then some i.toNat else none) else if -(n:Int)<=i then some (i+n).toNat else none
def atI {α:Type} (xs:List α) (i:Int):Option α:=(ixN xs.length i).bind fun j=>xs[j]?
theorem ami {n:Nat} {i:Int} {j:Nat} (h:ixN n i=some j):seqIndex? i n=some j/\j < n/\-(n:Int)<=i/\i < n:=by
 unfold ixN at h
 by_cases h0:0<=i
 ·rw [aC5 h0] at h
  by_cases h1:i < n
  ·rw [aC5 h1] at h
   have e:i.toNat=j:=aA5 h
   exact ⟨by rw [seqIndex_of h0 h1,e],by omega,by omega,h1⟩
  ·rw [aC6 h1] at h;cases h
 ·rw [aC6 h0] at h
  by_cases h1 : -(n:Int)<=i
  ·rw [aC5 h1] at h
   have e:(i+n).toNat=j:=aA5 h
   exact ⟨by rw [seqIndex_neg (by omega) h1,e],by omega,h1,by omega⟩
  ·rw [aC6 h1] at h;cases h
theorem amj {α:Type} {xs:List α} {i:Int} {v : α} (h:atI xs i=some v):∃ j,seqIndex? i xs.length=some j/\xs[j]?=some v/\j < xs.length/\-(xs.length:Int)<=i/\i < xs.length:=by
 unfold atI at h
 cases e:ixN xs.length i with
 | none=>rw [e] at h;cases h
 | some j =>
  rw [e] at h
  obtain ⟨d,c,b,a⟩:=ami e
  exact ⟨j,d,h,c,b,a⟩
theorem afz {α:Type} {xs:List α} {j:Nat} {v : α} (h:xs[j]?=some v):atI xs (j:Int)=some v:=by
 have hj:j < xs.length:=(ay1.mp h).1
 have e:ixN xs.length (j:Int)=some j:=by
  unfold ixN
  rw [aC5 (by omega),aC5 (by omega)];simp
 unfold atI;rw [e];exact h
def atk (b:Expr):Prop:=∀ o i,subscripted b false o i=operate [o,i] (getItem o i)
def IxR (X:Cx) (r:R2):Prop :=
 ∀ (value slice:Expr) (pins:List (Addr × Obj)) (s:Shared) (σ:St) (H:Hp) (x y:V) (v u:Value) (Q:VK),Inv X pins σ H s->RelV x v->RelV y u->r x y H Q ->
  subscripted slice false v u=operate [v,u] (getItem v u)->wpAny (model X.prog X.w) X.A (subscriptTail value slice v u) (EP X pins σ Q) X.xe s
def MtR (X:Cx) (id:String) (r:V->List V->Hp->VK->Prop):Prop :=
 ∀ (pins:List (Addr × Obj)) (s:Shared) (σ:St) (H:Hp) (x:V) (xs:List V) (v:Value) (us:List Value) (Q:VK),Inv X pins σ H s->RelV x v->Vals xs us->r x xs H Q ->
  wpAny (model X.prog X.w) X.A (call (.builtin id) (v :: us)) (EP X pins σ Q) X.xe s
section
variable {X:Cx} {a b:Expr} {ta tb:TE} {pos:Pos}
theorem IxR.or {r c:R2} (h:IxR X r) (h':IxR X c):IxR X (fun x y H Q=>r x y H Q\/c x y H Q):=by
 intro a b pins s σ H x y v u Q I d f q hs
 rcases q with q | q
 ·exact h a b pins s σ H x y v u Q I d f q hs
 ·exact h' a b pins s σ H x y v u Q I d f q hs
theorem aao {r:R2} (i:IxR X r) (ha:PE X a ta) (hb:PE X b tb) (hs:atk b):PE X (.Subscript a b pos) (tOp r ta tb):=by
 intro pins s σ H Q I h
 exact Subscript_ (binT ha hb I h fun v u s2 x y d c f g q=>i a b pins s2 σ d x y v u Q c f g q (hs _ _))
def rIxL (K:Frag):R2:=fun x y H Q=>∃ p xs i v,x=.ref p/\y=.int i/\SqL K H p xs/\atI xs i=some v/\Q v H
def rIxT (K:Frag):R2:=fun x y H Q=>∃ p xs i v,x=.ref p/\y=.int i/\SqT K H p xs/\atI xs i=some v/\Q v H
theorem ix_list:IxR X (rIxL X.K):=by
 intro c d pins s σ H x y v u Q I o C h hs
 obtain ⟨p,xs,i,z,rfl,rfl,n,D,q⟩:=h
 cases o
 obtain ⟨t,rfl⟩:=C
 obtain ⟨its,r,b,hz⟩:=I.list n
 obtain ⟨j,a,E,F,A,m⟩:=amj D
 obtain ⟨w,g,f⟩:=r.get E
 have l:=r.length
 have hn:=ag4
 have fin:EP X pins σ Q w s:=⟨z,H,I,f,q⟩
 by_cases h0:0<=i
 ·have hj:i.toNat=j:=by
   rw [seqIndex_of h0 m] at a
   exact aA5 a
  exact item_listR b.isList h0 (by omega) (by rw [hj];simpa using g) fin hs
 ·have hj:(i+(its.toArray.size:Int)).toNat=j:=by
   rw [seqIndex_neg (by omega) A] at a
   rw [az1,← l]
   exact aA5 a
  exact subscriptTail_builtinR (x:=w) b.isList.typeIs slot_list_getitem.lookup
   (wpAny_getItem_list_neg (Q:=fun r B=>r=w/\EP X pins σ Q r B) b.isList (by omega) (by rw [az1] <;> omega) (by omega) (by rw [hj];simpa using g) ⟨rfl,fin⟩) hs
theorem avp:IxR X (rIxT X.K):=by
 intro a b pins s σ H x y v u Q I n A h hs
 obtain ⟨p,xs,i,z,rfl,rfl,l,B,q⟩:=h
 cases n
 obtain ⟨t,rfl⟩:=A
 obtain ⟨its,r,d,hz⟩:=I.tuple l
 obtain ⟨j,m,C,E,F,D⟩:=amj B
 obtain ⟨w,g,c⟩:=r.get C
 have f:=r.length
 have hn:=ag4
 have fin:EP X pins σ Q w s:=⟨z,H,I,c,q⟩
 exact subscriptTail_builtinR (x:=w) d.typeIs slot_tuple_getitem.lookup
  (getItem_tuple (j:=j) (Q:=fun r o=>r=w/\EP X pins σ Q r o) d (by omega) (by omega) (by rw [az1,← f];exact m) (by simpa using g) ⟨rfl,fin⟩) hs
theorem ans (its:List Value) (n j:Nat) (u:Value):Obj.mapSeq (·.setIfInBounds j u) { cls:=.type "list",data:=.seq its.toArray n }={ cls:=.type "list",data:=.seq (its.set j u).toArray n }:=by
 simp [Obj.mapSeq]
theorem Inv.lst {pins:List (Addr × Obj)} {σ:St} {H:Hp} {s:Shared} {p:Addr} {xs:List V} (I:Inv X pins σ H s) (h:H p=some (.lst xs)) :
  ∃ (its:List Value) (n:Nat),Vals xs its/\s.heap.get? p=some { cls:=.type "list",data:=.seq its.toArray n }/\xs.length<=sizeLine:=by
 obtain ⟨z,its,n,r,e⟩:=I.hok p _ h
 exact ⟨its,n,r,e,z⟩
theorem Inv.lstUpd {pins:List (Addr × Obj)} {σ:St} {H:Hp} {s:Shared} {p:Addr} {xs ys:List V} {its its':List Value} {n a:Nat} {f:Obj->Obj} (I:Inv X pins σ H s) (h:H p=some (.lst xs))
  (c:s.heap.get? p=some { cls:=.type "list",data:=.seq its.toArray n }) (hf:f { cls:=.type "list",data:=.seq its.toArray n }={ cls:=.type "list",data:=.seq its'.toArray a }) (r:Vals ys its') (hz:ys.length<=sizeLine) (t:Nat) :
  Inv X pins σ (upd H p (.lst ys)) { s with heap:=s.heap.update p f,toks:=t }:=by
 have e:(s.heap.update p f).get? p=some { cls:=.type "list",data:=.seq its'.toArray a }:=by
  rw [Heap.get?_update_self f c (by rw [hf] <;> rfl),hf]
 refine I.write (x:=p) (e:=p) (by rw [h];trivial) (.inl rfl) (fun b u hb q=>(Heap.get?_update_other _ _ (Ne.symm hb)).trans q) ⟨_,e⟩ ?_
 exact ⟨hz,its',a,r,e⟩
def ant:V->V->V->Hp->(Hp->Prop)->Prop:=fun o i v H Q=>∃ p xs k j,o=.ref p/\i=.int k/\H p=some (.lst xs)/\ixN xs.length k=some j/\Q (upd H p (.lst (xs.set j v)))
theorem ad6:PSet X ant:=by
 intro pins s σ H o i v B z u Q I w x y h
 obtain ⟨p,xs,k,j,rfl,rfl,l,hj,q⟩:=h
 cases w
 obtain ⟨t,rfl⟩:=x
 obtain ⟨its,n,r,d,hz⟩:=I.lst l
 obtain ⟨a,A,f,g⟩:=ami hj
 have c:=r.length
 have hn:=ag4
 have m:Inv X pins σ (upd H p (.lst (xs.set j v))) { s with heap:=s.heap.update p (Obj.mapSeq (·.setIfInBounds j u)) } :=
  I.lstUpd l d (ans its n j u) (r.set y j) (by rw [List.length_set];exact hz) s.toks
 by_cases h0:0<=k
 ·have b:k.toNat=j:=by
   rw [seqIndex_of h0 g] at a
   exact aA5 a
  exact PySem.W.ki_setAt d h0 (by omega) (by rw [az1,← c];exact g) (by rw [b];exact ⟨_,m,q⟩)
 ·have b:(k+(its.toArray.size:Int)).toNat=j:=by
   rw [seqIndex_neg (by omega) f] at a
   rw [az1,← c]
   exact aA5 a
  exact PySem.W.ki_setBack d (by omega) (by rw [az1,← c];exact f) (by omega) (by rw [b];exact ⟨_,m,q⟩)
theorem aki (lo hi:Option Int) (n:Nat):(sliceBounds lo hi none n).1=((HT.sIx n 0 lo:Nat):Int)/\(sliceBounds lo hi none n).2.1=((HT.sIx n n hi:Nat):Int)/\(sliceBounds lo hi none n).2.2=1:=by
 refine ⟨?_,?_,rfl⟩
 ·cases lo with
  | none=>simp [sliceBounds,HT.sIx]
  | some i =>
   simp only [sliceBounds,HT.sIx,Option.getD_none,show (1:Int) > 0 by decide,if_true]
   by_cases h:i < 0
   ·simp only [h,if_true] <;> omega
   ·simp only [h,if_false] <;> omega
 ·cases hi with
  | none=>simp [sliceBounds,HT.sIx]
  | some i =>
   simp only [sliceBounds,HT.sIx,Option.getD_none,show (1:Int) > 0 by decide,if_true]
   by_cases h:i < 0
   ·simp only [h,if_true] <;> omega
   ·simp only [h,if_false] <;> omega
theorem aje (its:List Value) (lo hi:Option Int):slicePick its.toArray lo hi none=((its.drop (HT.sIx its.length 0 lo)).take (HT.sIx its.length its.length hi - HT.sIx its.length 0 lo)).toArray:=by
 obtain ⟨c,b,a⟩:=aki lo hi its.toArray.size
 unfold slicePick
 rw [c,b,a]
 simp only [sliceRange_one,pick_run,az1] <;> rfl
def rSlL (K:Frag):V->Option Int->Option Int->Hp->VK->Prop:=fun x lo hi H Q=>∃ a xs,x=.ref a/\SqL K H a xs/\∀ p,H p=none->Q (.ref p) (upd H p (.lst (cutV xs lo hi)))
theorem ab9:SlR X (rSlL X.K):=by
 intro pins s σ H x v l m lo hi sl Q I i hs f g h
 obtain ⟨a,xs,rfl,j,q⟩:=h
 cases i
 obtain ⟨its,r,d,hz⟩:=I.list j
 have c:=r.length
 refine ⟨"list",_,slot_list_getitem.lookup,d.isList.typeIs,?_⟩
 refine wpAny_getItem_list_slice d.isList hs f g .none (by simp) ?_ (by rw [az1] <;> omega)
 rw [aje,← c]
 refine ⟨.ref s.heap.objs.size,_,I.laid (t':=s.toks) (o:=.lst (cutV xs lo hi)) (fun b n q=>aF7 _ q) (ay6 _) ?_,rfl,q _ (I.hok.fresh (ay6 _))⟩
 exact ⟨aA9 (al2 xs lo hi) hz,_,0,(r.drop (HT.sIx xs.length 0 lo)).take (HT.sIx xs.length xs.length hi - HT.sIx xs.length 0 lo),aF9 _ rfl⟩
theorem akj:aba X (.builtin "len") (fun xs H Q=>∃ p ys,xs=[.ref p]/\(SqL X.K H p ys\/SqT X.K H p ys)/\Q (.int ys.length) H):=by
 intro pins s σ H xs us Q I r h
 obtain ⟨p,ys,rfl,b,q⟩:=h
 obtain ⟨u,rfl,f⟩:=acj r
 cases f
 have hn:=ag4
 rcases b with b | b
 ·obtain ⟨its,d,c,hz⟩:=I.list b
  have a:=d.length
  exact Calls.call_len_list c.isList (by simp only [az1] <;> omega) ⟨.int ys.length,H,I.tok _,⟨s.toks+1,by rw [az1,a]⟩,q⟩
 ·obtain ⟨its,d,c,hz⟩:=I.tuple b
  have a:=d.length
  exact len_tuple c (by simp only [az1] <;> omega) ⟨.int ys.length,H,I.tok _,⟨s.toks+1,by rw [az1,a]⟩,q⟩
theorem akk:aba X (.type "list") (fun xs H Q=>∃ p ys,xs=[.ref p]/\(SqL X.K H p ys\/SqT X.K H p ys)/\∀ l,H l=none->Q (.ref l) (upd H l (.lst ys))):=by
 intro pins s σ H xs us Q I r h
 obtain ⟨p,ys,rfl,f,q⟩:=h
 obtain ⟨u,rfl,m⟩:=acj r
 cases m
 have fin:∀ (its:List Value),Vals ys its->ys.length<=sizeLine->∀ (h':Heap) (a:Nat),(∀ b o',s.heap.get? b=some o'->h'.get? b=some o') ->
   h'.get? s.heap.objs.size=some { cls:=.type "list",dict:=none,data:=.seq its.toArray a,slots:=#[] }->EP X pins σ Q (.ref s.heap.objs.size) { s with heap:=h' }:=fun its c hz h' a kp e =>
  ⟨.ref s.heap.objs.size,_,I.laid (t':=s.toks) kp (ay6 _) (show ObjOk X.prog X.w _ h' _ (.lst ys) from ⟨hz,its,a,c,e⟩),rfl,q _ (I.hok.fresh (ay6 _))⟩
 rcases f with f | f
 ·obtain ⟨its,c,g,hz⟩:=I.list f
  have d:=c.length
  obtain ⟨o,i,j,n,hd⟩:=g.isList
  exact call_list_seq p (.inl rfl) i j hd (fun h' a kp e=>fin its c hz h' a kp e) (by simp only [az1] <;> omega)
 ·obtain ⟨its,c,g,hz⟩:=I.tuple f
  have d:=c.length
  obtain ⟨o,i,j,n,hd⟩:=g
  exact call_list_seq p (.inr rfl) i j hd (fun h' a kp e=>fin its c hz h' a kp e) (by simp only [az1] <;> omega)
theorem ajf:aba X (.type "tuple") (fun xs H Q=>∃ p ys,xs=[.ref p]/\((SqL X.K H p ys/\∀ l,H l=none->Q (.ref l) (upd H l (.tup ys)))\/(SqT X.K H p ys/\Q (.ref p) H))):=by
 intro pins s σ H xs us Q I r h
 obtain ⟨p,ys,rfl,h⟩:=h
 obtain ⟨u,rfl,j⟩:=acj r
 cases j
 rcases h with ⟨d,q⟩ | ⟨d,q⟩
 ·obtain ⟨its,c,a,hz⟩:=I.list d
  have f:=c.length
  refine call_tuple_list a.isList (fun h' kp=>?_) (by simp only [az1] <;> omega)
  have g:Inv X pins σ H { s with heap:=h' }:=I.kept (t':=s.toks) kp
  have i:Inv X pins σ (upd H h'.objs.size (.tup ys)) { s with heap:=h'.push { cls:=.type "tuple",data:=.seq its.toArray } } :=
   g.laid (t':=s.toks) (fun b o e=>aF7 _ e) (ay6 _) (show ObjOk X.prog X.w _ _ _ (.tup ys) from ⟨hz,its,c,IsTup.new _ _⟩)
  exact ⟨.ref h'.objs.size,_,i,rfl,q _ (g.hok.fresh (ay6 _))⟩
 ·obtain ⟨its,c,a,hz⟩:=I.tuple d
  exact call_tuple_same a ⟨.ref p,H,I,rfl,q⟩
def tyV (K:Frag) (T:String) (x:V) (H:Hp):Prop:=match x with
 | .str _=>T = "str"
 | .int _=>T = "int"
 | .ref p=>(T = "list"/\∃ xs,SqL K H p xs)\/(T = "tuple"/\∃ o,K.lookup p=some o/\o.cls=.type "tuple"/\o.dict=none) ∨
   (T = "dict"/\((∃ kvs,H p=some (.dK kvs))\/∃ kvs,H p=some (.dT kvs)))\/(T = "set"/\∃ S n,H p=some (.set S n))
 | _=>False
theorem avq {pins:List (Addr × Obj)} {σ:St} {H:Hp} {s:Shared} {T:String} {x:V} {v:Value} (I:Inv X pins σ H s) (r:RelV x v) (ty:tyV X.K T x H) :
  s.TypeIs v T/\∀ a,v=.ref a->∃ g,s.heap.get? a=some g/\g.dict=none:=by
 cases x with
 | str z =>
  obtain ⟨t,rfl⟩:=r
  cases (show T = "str" from ty)
  exact ⟨typeIs_str s z t,fun _ e=>nomatch e⟩
 | int i =>
  obtain ⟨t,rfl⟩:=r
  cases (show T = "int" from ty)
  exact ⟨typeIs_int s i t,fun _ e=>nomatch e⟩
 | ref p =>
  cases r
  rcases ty with ⟨rfl,xs,h⟩ | ⟨rfl,o,b,j,hd⟩ | ⟨rfl,b⟩ | ⟨rfl,S,n,b⟩
  ·obtain ⟨its,_,f,_⟩:=I.list h
   refine ⟨f.isList.typeIs,fun a e=>?_⟩
   cases e
   obtain ⟨o,n,e,c,hd,_⟩:=f
   exact ⟨o,e,hd⟩
  ·refine ⟨⟨o,I.kIn p o b,j⟩,fun a e=>?_⟩
   cases e
   exact ⟨o,I.kIn _ o b,hd⟩
  ·have z:∃ o,s.heap.get? p=some o/\o.ExactDict:=by
    rcases b with ⟨kvs,b⟩ | ⟨kvs,b⟩
    ·obtain ⟨_,_,_,_,o,_,_,e,ex,_⟩:=I.hok p _ b
     exact ⟨o,e,ex⟩
    ·obtain ⟨_,_,_,_,o,_,_,e,ex,_⟩:=I.hok p _ b
     exact ⟨o,e,ex⟩
   obtain ⟨o,e,ex⟩:=z
   refine ⟨⟨o,e,ex.1⟩,fun a d=>?_⟩
   cases d
   exact ⟨o,e,ex.2.1⟩
  ·obtain ⟨o,_,_,_,e,ex,_⟩:=I.hok p _ b
   refine ⟨⟨o,e,ex.1⟩,fun a d=>?_⟩
   cases d
   exact ⟨o,e,ex.2.1⟩
 | _=>exact False.elim ty
def tBM (K:Frag) (T:String) (r:V->List V->Hp->VK->Prop) (to:TE) (t:TA):TE:=fun σ H Q=>to σ H fun x H1=>tyV K T x H1/\t σ H1 fun xs H2=>r x xs H2 Q
variable {o e:Expr} {es:List Expr} {to:TE} {t:TA} {name:Str} {apos cpos:Pos} {T id:String} {r:V->List V->Hp->VK->Prop}
theorem ajx (y:PlainAttrs T) (slot:Slot T name id) (g:typeOf (.builtin id)=pure (.type "method_descriptor")) (hm:MtR X id r) (q:PE X o to) (ha:PA X (e :: es) t)
  (c:attributeBase o name X.env (eval o X.env)=eval o X.env:=by rfl)
  (f:((backTo cpos (starEach (e :: es) X.env)).all (fun x => !x.1) && (backToKw cpos (keywordEach [] X.env)).all (fun x=>x.1.isSome)
   && decide ((e :: es).length+([]:List Keyword).length+(if ([]:List Keyword).isEmpty then 0 else 1) < 30))=true:=by rfl)
  (d:(apos.endLine == cpos.line)=true:=by rfl) (hs:starEach (e :: es) X.env=(false,eval e X.env) :: starEach es X.env:=by rfl) (b:(backTo cpos (starEach es X.env)).any (·.1)=false:=by rfl) :
  PE X (.Call (.Attribute o name apos) (e :: es) [] cpos) (tBM X.K T r to t):=by
 intro pins s σ H Q I h
 refine wpAny_Call_method_late c f d rfl (thn (q pins s σ H _ I h) fun v s1 ⟨x,n,j,i,ty,u⟩=>?_)
 obtain ⟨z,B⟩:=avq j i ty
 refine ⟨T,id,y,slot,g,z,B,?_⟩
 have l:=ha cpos pins s1 σ n _ j u
 rw [hs] at l ⊢
 refine Calls.callWith_builtin (by show (false || (backTo cpos (starEach es X.env)).any (·.1))=false;rw [b] <;> rfl) (Calls.evalArgs_plain ?_)
 exact thn l fun us s2 ⟨vs,p,m,w,A⟩=>hm pins s2 σ p x vs v us Q m i w A
/- xs.append(e), list.index on a module's tuple .. are MtR facts of 06m -/
end
def MtM (X:Cx) (id:String) (r:V->List V->Hp->VK->Prop):Prop :=
 ∀ (pins:List (Addr × Obj)) (s:Shared) (σ:St) (H:Hp) (x:V) (xs:List V) (v:Value) (us:List Value) (Q:VK),Inv X pins σ H s->RelV x v->Vals xs us->r x xs H Q ->
  wpAny (model X.prog X.w) X.A (call (.builtin id) (v :: us)) (EP X pins σ Q) X.xe s
theorem Vals.one:∀ {x:V} {us:List Value},Vals [x] us->∃ u,us=[u]/\RelV x u
 | _,_,.cons r .nil=>⟨_,rfl,r⟩
theorem Vals.eraseIdx:∀ {xs:List V} {us:List Value} (i:Nat),Vals xs us->Vals (xs.eraseIdx i) (us.eraseIdx i)
 | _,_,_,.nil => .nil
 | _,_,0,.cons _ t=>t
 | _,_,i+1,.cons r t => .cons r (Vals.eraseIdx i t)
theorem air {α:Type}:∀ (l:List α) (i:Nat),(l.eraseIdx i).length<=l.length
 | [],_=>ay6 _
 | _ :: _,0=>Nat.le_succ _
 | _ :: r,i+1=>Nat.succ_le_succ (air r i)
section
variable {X:Cx} {pins:List (Addr × Obj)} {σ:St} {H:Hp} {s:Shared} {l b:Addr} {xs ys zs:List V}
theorem Inv.lset {its its':List Value} {n:Nat} {f:Array Value->Array Value} {t':Nat} (I:Inv X pins σ H s) (b:H l=some (.lst xs))
  (e:s.heap.get? l=some { cls:=.type "list",data:=.seq its.toArray n }) (hf:f its.toArray=its'.toArray) (c:Vals ys its') (hz:ys.length<=sizeLine) :
  Inv X pins σ (upd H l (.lst ys)) { s with heap:=s.heap.update l (Obj.mapSeq f),toks:=t' }:=by
 have q:=PySem.IsL.update e f
 rw [hf] at q
 refine I.write (x:=l) (e:=l) (by rw [b];exact trivial) (.inl rfl) (fun d u hb a=>(Heap.get?_update_other s.heap (Obj.mapSeq f) (Ne.symm hb)).trans a) ⟨_,q⟩ ?_
 exact ⟨hz,its',_,c,q⟩
theorem Inv.lnew {its:List Value} {t':Nat} (I:Inv X pins σ H s) (a:Vals ys its) (hz:ys.length<=sizeLine) :
  Inv X pins σ (upd H s.heap.objs.size (.lst ys)) { s with heap:=s.heap.push { cls:=.type "list",data:=.seq its.toArray },toks:=t' } :=
 I.laid (fun _ _ q=>aF7 _ q) (ay6 _) ⟨hz,its,0,a,aF9 _ rfl⟩
theorem Inv.fresh (I:Inv X pins σ H s):H s.heap.objs.size=none:=I.hok.fresh (ay6 _)
theorem Inv.lstM (I:Inv X pins σ H s) (a:H l=some (.lst xs)):xs.length<=sizeLine/\∃ (its:List Value) (n:Nat),Vals xs its/\xs.length=its.length/\s.heap.get? l=some { cls:=.type "list",data:=.seq its.toArray n }:=by
 obtain ⟨z,its,n,r,e⟩:=I.hok l _ a
 exact ⟨z,its,n,r,r.length,e⟩
theorem aqq {n:Nat} (h:n<=sizeLine):Builtin.List.listTooLong n=false:=by
 unfold Builtin.List.listTooLong
 exact aB4 (by omega)
end
section
variable {X:Cx}
def af0:V->List V->Hp->VK->Prop:=fun x vs H Q=>∃ l xs y,x=.ref l/\vs=[y]/\H l=some (.lst xs)/\xs.length < sizeLine/\Q .non (upd H l (.lst (xs ++ [y])))
theorem afj:MtM X "list.append" af0:=by
 intro pins s σ H x vs v us Q I c d h
 obtain ⟨l,xs,y,rfl,rfl,a,hz,q⟩:=h
 cases c
 obtain ⟨u,rfl,b⟩:=d.one
 obtain ⟨z,its,n,r,f,e⟩:=I.lstM a
 refine call_meets F.slot_list_append ⟨_,e,rfl⟩ F.entry_list_append (F.args_list_append_2 _ _) (PySem.list_append l its.toArray n u (by rw [az1];omega)) ⟨e,?_⟩
 refine ⟨.non,_,I.lset (its':=its ++ [u]) a e (by simp) (r.append (.cons b .nil)) ?_,rfl,q⟩
 rw [az0,List.length_singleton]
 omega
def ahz:V->List V->Hp->VK->Prop:=fun x vs H Q=>∃ l b xs zs,x=.ref l/\vs=[.ref b]/\H l=some (.lst xs)/\H b=some (.lst zs)/\xs.length+zs.length<=sizeLine/\Q .non (upd H l (.lst (xs ++ zs)))
theorem ao7:MtM X "list.extend" ahz:=by
 intro pins s σ H x vs v us Q I p m h
 obtain ⟨l,b,xs,y,rfl,rfl,d,w,hz,q⟩:=h
 cases p
 obtain ⟨u,rfl,g⟩:=m.one
 cases g
 obtain ⟨z,its,n,r,A,e⟩:=I.lstM d
 obtain ⟨B,a,f,j,i,o⟩:=I.lstM w
 have hsz:its.toArray.size+a.toArray.size<=sizeLine:=by rw [az1,az1];omega
 have c:¬ (!its.toArray.isEmpty && Builtin.List.listTooLong (its.toArray.size+a.toArray.size))=true:=by
  rw [aqq hsz,Bool.and_false]
  exact ay9
 refine call_meets F.slot_list_extend ⟨_,e,rfl⟩ F.entry_list_extend (F.args_list_extend_2 _ _)
  (AutoSeq1.list_extend_list_list_0 l its.toArray n b a.toArray f c (by rw [az1];omega) (by omega)) ⟨e,o,?_⟩
 refine ⟨.non,_,I.lset (its':=its ++ a) d e (by simp) (r.append j) ?_,rfl,q⟩
 rw [az0]
 omega
def akl:V->List V->Hp->VK->Prop:=fun x vs H Q=>∃ l xs i k y,x=.ref l/\vs=[.int i]/\H l=some (.lst xs)/\-(2 ^ 63)<=i/\i < 2 ^ 63/\seqIndex? i xs.length=some k/\xs[k]?=some y/\Q y (upd H l (.lst (xs.eraseIdx k)))
theorem aqr:MtM X "list.pop" akl:=by
 intro pins s σ H x vs v us Q I m o h
 obtain ⟨l,xs,i,k,y,rfl,rfl,b,j,p,d,g,q⟩:=h
 cases m
 obtain ⟨u,rfl,c⟩:=o.one
 obtain ⟨t,rfl⟩:=c
 obtain ⟨z,its,n,r,f,e⟩:=I.lstM b
 obtain ⟨w,A,a⟩:=r.get g
 refine call_meets F.slot_list_pop ⟨_,e,rfl⟩ F.entry_list_pop (F.args_list_pop_2 _ _)
  (MeetsSeq.list_pop_at l its.toArray n i t k w (fitsIndex_both j p) (by rw [az1,← f];exact d) (by rw [← aB3];exact A) (by rw [az1];omega)) ⟨e,?_⟩
 refine ⟨y,_,I.lset (its':=its.eraseIdx k) b e ?_ (r.eraseIdx k) ?_,a,q⟩
 ·show its.toArray.eraseIdxIfInBounds k=(its.eraseIdx k).toArray
  rw [List.eraseIdxIfInBounds_toArray]
 ·have:=air xs k
  omega
def rCat:R2:=fun x y H Q=>∃ l b xs zs,x=.ref l/\y=.ref b/\H l=some (.lst xs)/\H b=some (.lst zs)/\xs.length+zs.length<=sizeLine/\∀ p,H p=none->Q (.ref p) (upd H p (.lst (xs ++ zs)))
theorem aby:OpR X (binaryOp .Add) rCat:=by
 intro pins s σ H x y v u Q I g m h
 obtain ⟨l,b,xs,p,rfl,rfl,j,o,hz,q⟩:=h
 cases g
 cases m
 obtain ⟨z,its,n,r,A,e⟩:=I.lstM j
 obtain ⟨B,a,w,f,c,i⟩:=I.lstM o
 refine PySem.P.add_list e i ?_ (by rw [az1,az1];omega)
 have d:its.toArray ++ a.toArray=(its ++ a).toArray:=by simp
 rw [d]
 exact ⟨.ref _,_,I.lnew (t':=s.toks) (r.append f) (by rw [az0];omega),rfl,q _ I.fresh⟩
end
section
variable {prog:Program} {w:World} {A:Around} {E:Value->Shared->Prop} {s:Shared}
end
section
variable {X:Cx}
end
section
variable {κ:Type} [DecidableEq κ]
def valV (kvs:List (κ × V)) (k : κ):Option V:=(kvs.find? fun kv=>decide (kv.1=k)).map (·.2)
def putK (kvs:List (κ × V)) (k : κ) (v:V):List (κ × V) :=
 if (kvs.any fun kv=>decide (kv.1=k))=true then kvs.map (fun kv=>if kv.1=k then (kv.1,v) else kv) else kvs ++ [(k,v)]
def asu (kvs:List (κ × V)) (k : κ):List (κ × V):=kvs.filter fun kv=>decide (kv.1 ≠ k)
theorem agn {p : κ × V} {r:List (κ × V)} {k : κ} (e:p.1=k):valV (p :: r) k=some p.2:=by simp [valV,List.find?_cons,e]
theorem ago {p : κ × V} {r:List (κ × V)} {k : κ} (e:¬ p.1=k):valV (p :: r) k=valV r k:=by simp [valV,List.find?_cons,e]
theorem akm (k : κ):∀ kvs:List (κ × V),(kvs.any fun a=>decide (a.1=k))=(valV kvs k).isSome
 | []=>rfl
 | p :: r=>by
  rw [List.any_cons]
  by_cases e:p.1=k
  ·simp only [agn e,aB5 e,Bool.true_or,Option.isSome_some]
  ·rw [ago e,aB4 e,Bool.false_or];exact akm k r
theorem agi (kvs:List (κ × V)) (k : κ) (v:V):(putK kvs k v).length<=kvs.length+1:=by
 unfold putK
 split
 ·rw [ay3];omega
 ·rw [az0,aB8,aF4];omega
theorem RelO.isSome_eq {o:Option V} {u:Option Value} (r:RelO o u):o.isSome=u.isSome:=by
 cases o with
 | none=>cases u with
  | none=>rfl
  | some _=>exact (show False from r).elim
 | some _=>cases u with
  | none=>exact (show False from r).elim
  | some _=>rfl
theorem RelO.getD {o:Option V} {u:Option Value} {d:V} {d':Value} (r:RelO o u) (a:RelV d d'):RelV (o.getD d) (u.getD d'):=by
 cases o with
 | none=>cases u with
  | none=>exact a
  | some _=>exact (show False from r).elim
 | some _=>cases u with
  | none=>exact (show False from r).elim
  | some _=>exact r
theorem KV.val {kvs:List (κ × V)} {vs:List (κ × Value)} (r:KV kvs vs) (k : κ):RelO (valV kvs k) (valueAt vs k):=by
 unfold KV at r
 induction r with
 | nil=>exact True.intro
 | @cons p q ps qs h t ih =>
  obtain ⟨c,d⟩:=h
  by_cases e:p.1=k
  ·have a:q.1=k:=c.symm.trans e
   have b:valueAt (q :: qs) k=some q.2:=by simp [valueAt,List.find?_cons,a]
   rw [agn e,b];exact d
  ·have a:¬ q.1=k:=fun z=>e (c.trans z)
   have b:valueAt (q :: qs) k=valueAt qs k:=by simp [valueAt,List.find?_cons,a]
   rw [ago e,b];exact ih
theorem KV.any {kvs:List (κ × V)} {vs:List (κ × Value)} (r:KV kvs vs) (k : κ):(kvs.any fun a=>decide (a.1=k))=vs.any fun a=>decide (a.1=k):=by
 unfold KV at r
 induction r with
 | nil=>rfl
 | cons h t ih=>rw [List.any_cons,List.any_cons,ih,h.1]
theorem KV.repl {kvs:List (κ × V)} {vs:List (κ × Value)} (r:KV kvs vs) (k : κ) {y:V} {u:Value} (d:RelV y u) :
  KV (kvs.map fun a=>if a.1=k then (a.1,y) else a) (vs.map fun a=>if a.1=k then (a.1,u) else a):=by
 unfold KV at r ⊢
 induction r with
 | nil=>exact .nil
 | @cons p q ps qs h t ih =>
  rw [aB0,aB0]
  refine .cons ?_ ih
  obtain ⟨b,c⟩:=h
  by_cases e:p.1=k
  ·rw [aC5 e,aC5 (b.symm.trans e)];exact ⟨b,d⟩
  ·rw [aC6 e,aC6 (fun z=>e (b.trans z))];exact ⟨b,c⟩
theorem KV.put {kvs:List (κ × V)} {vs:List (κ × Value)} (r:KV kvs vs) (k : κ) {y:V} {u:Value} (a:RelV y u):KV (putK kvs k y) (stored vs k u):=by
 unfold putK stored
 rw [r.any k]
 by_cases e:(vs.any fun b=>decide (b.1=k))=true
 ·rw [aC5 e,aC5 e];exact r.repl k a
 ·rw [aC6 e,aC6 e];exact Paired.snoc r ⟨rfl,a⟩
theorem KV.drop {kvs:List (κ × V)} {vs:List (κ × Value)} (r:KV kvs vs) (k : κ):KV (asu kvs k) (without vs k):=by
 unfold KV at r ⊢
 unfold asu without
 induction r with
 | nil=>exact .nil
 | @cons p q ps qs h t ih =>
  obtain ⟨c,d⟩:=h
  rw [List.filter_cons,List.filter_cons]
  by_cases e:p.1=k
  ·have a:¬ decide (p.1 ≠ k)=true:=by simp [e]
   have b:¬ decide (q.1 ≠ k)=true:=by simp [c.symm.trans e]
   rw [aC6 a,aC6 b];exact ih
  ·have f:¬ q.1=k:=fun z=>e (c.trans z)
   have a:decide (p.1 ≠ k)=true:=by simp [e]
   have b:decide (q.1 ≠ k)=true:=by simp [f]
   rw [aC5 a,aC5 b];exact .cons ⟨c,d⟩ ih
theorem KV.length {kvs:List (κ × V)} {vs:List (κ × Value)} (r:KV kvs vs):kvs.length=vs.length:=Paired.length r
end
theorem asv {P:Program} {w:World} {k:Key} {u:Value} (r:RelV (kV k) u):(abf P w).is k u=true:=by
 cases k with
 | inl i=>obtain ⟨t,e⟩:=(show ∃ t,u=Value.int i t from r);subst e;exact al0 P w i t
 | inr x=>obtain ⟨t,e⟩:=(show ∃ t,u=Value.str x t from r);subst e;exact al1 P w x t
theorem ais {P:Program} {w:World}:∀ {a:List Key} {us:List Value},Vals (a.map kV) us->ItemsAre (abf P w) a us
 | [],_,r=>by rw [List.map_nil] at r;cases r;exact .nil
 | k :: a,_,r=>by
  rw [aB0] at r
  cases r with
  | cons h t=>exact .cons (asv h) (ais t)
abbrev KT (H:Hp):List (List Key × V)->List (List Key × Addr × Value)->Prop:=Paired fun p q=>p.1=q.1/\H q.2.1=some (.tup (p.1.map kV))/\RelV p.2 q.2.2
theorem KT.val {H:Hp} {kvs:List (List Key × V)} {xs:List (List Key × Addr × Value)} (r:KT H kvs xs) (k:List Key):RelO (valV kvs k) ((atKey xs k).map (·.2)):=by
 induction r with
 | nil=>exact True.intro
 | @cons p q ps qs h t ih =>
  obtain ⟨c,_,d⟩:=h
  by_cases e:p.1=k
  ·have a:q.1=k:=c.symm.trans e
   have b:atKey (q :: qs) k=some q.2:=by simp [atKey,List.find?_cons,a]
   rw [agn e,b];exact d
  ·have a:¬ q.1=k:=fun z=>e (c.trans z)
   have b:atKey (q :: qs) k=atKey qs k:=by simp [atKey,List.find?_cons,a]
   rw [ago e,b];exact ih
theorem KT.repl {H:Hp} {kvs:List (List Key × V)} {xs:List (List Key × Addr × Value)} (r:KT H kvs xs) (k:List Key) {y:V} {u:Value} (f:RelV y u) :
  KT H (kvs.map fun b=>if b.1=k then (b.1,y) else b) (xs.map (putAt k u)):=by
 induction r with
 | nil=>exact .nil
 | @cons p q ps qs h t ih =>
  rw [aB0,aB0]
  refine .cons ?_ ih
  obtain ⟨a,c,d⟩:=h
  unfold putAt
  by_cases e:p.1=k
  ·rw [aC5 e,aC5 (a.symm.trans e)];exact ⟨a,c,f⟩
  ·rw [aC6 e,aC6 (fun z=>e (a.trans z))];exact ⟨a,c,d⟩
theorem KT.put {H:Hp} {kvs:List (List Key × V)} {xs:List (List Key × Addr × Value)} (r:KT H kvs xs) (k:List Key) {b:Addr} {y:V} {u:Value} (hb:H b=some (.tup (k.map kV))) (a:RelV y u) :
  KT H (putK kvs k y) (storedH xs k b u):=by
 have e:(kvs.any fun c=>decide (c.1=k))=(atKey xs k).isSome:=by
  rw [akm,(r.val k).isSome_eq,Option.isSome_map]
 unfold putK storedH
 rw [e]
 by_cases q:(atKey xs k).isSome=true
 ·rw [aC5 q,aC5 q];exact r.repl k a
 ·rw [aC6 q,aC6 q];exact Paired.snoc r ⟨rfl,hb,a⟩
theorem KT.keeps {H H':Hp} {kvs:List (List Key × V)} {xs:List (List Key × Addr × Value)} (r:KT H kvs xs) (a:∀ b ys,H b=some (.tup ys)->H' b=some (.tup ys)):KT H' kvs xs :=
 Paired.mapP r fun _ _ z=>⟨z.1,a _ _ z.2.1,z.2.2⟩
section
variable {P:Program} {w:World} {H:Hp} {h:Heap} {a:Addr}
theorem asw {u:HO} (ok:HOk P w H h) (e:Rd H a u):ObjOk P w H h a u:=e.ok ok
theorem asx {kvs:List (Key × V)} (ok:HOk P w H h) (e:Rd H a (.dK kvs)):kvs.length<=sizeLine/\(a == sysModules)=false/\∃ vs,KV kvs vs/\h.DictOf (abf P w) a vs :=
 show ObjOk P w H h a (.dK kvs) from asw ok e
theorem asz {kvs:List (Key × V)} (ok:HOk P w H h) (e:H a=some (.dK kvs)):kvs.length<=sizeLine/\(a == sysModules)=false/\∃ vs,KV kvs vs/\h.DictOf (abf P w) a vs:=asx ok (.inl e)
theorem ag5 {b:List Key} (ok:HOk P w H h) (e:H a=some (.tup (b.map kV))):(tupleKind (abf P w)).is h b a:=by
 obtain ⟨_,its,r,o,f,d,n,c⟩:=(show ObjOk P w H h a (.tup (b.map kV)) from ok a _ e)
 exact ⟨o,its.toArray,n,f,d,c,by simpa using ais r⟩
theorem as0 {kvs:List (List Key × V)} (ok:HOk P w H h) (e:Rd H a (.dT kvs)):kvs.length<=sizeLine/\(a == sysModules)=false /\
  ∃ xs,KT H kvs xs/\h.DictOfH (tupleKind (abf P w)) a xs:=by
 obtain ⟨z,y,xs,r,o,es,d,g,j,f,i,c⟩:=(show ObjOk P w H h a (.dT kvs) from asw ok e)
 refine ⟨z,y,xs,r,o,es,d,g,j,f,i,fun x b=>?_,c⟩
 have all:∀ {l:List (List Key × V)} {m:List (List Key × Addr × Value)},KT H l m->∀ x∈m,(tupleKind (abf P w)).is h x.1 x.2.1:=by
  intro l m q
  induction q with
  | nil=>intro x b;exact nomatch b
  | @cons p q ps qs hq t ih =>
   intro x b
   rcases ay8.mp b with e | b
   ·subst e
    exact ag5 ok (by rw [← hq.1];exact hq.2.1)
   ·exact ih x b
 exact all r x b
theorem af1 {kvs:List (List Key × V)} (ok:HOk P w H h) (e:H a=some (.dT kvs)):kvs.length<=sizeLine/\(a == sysModules)=false /\
  ∃ xs,KT H kvs xs/\h.DictOfH (tupleKind (abf P w)) a xs:=as0 ok (.inl e)
end
def DGet (H:Hp) (a:Addr) (y:V) (r:Option V):Prop :=
 (∃ kvs k,Rd H a (.dK kvs)/\y=kV k/\r=valV kvs k)\/∃ kvs k b,Rd H a (.dT kvs)/\y=.ref b/\H b=some (.tup (k.map kV))/\r=valV kvs k
def DPut (H:Hp) (a:Addr) (y v:V) (H':Hp):Prop :=
 (∃ kvs k,H a=some (.dK kvs)/\y=kV k/\kvs.length < sizeLine/\H'=upd H a (.dK (putK kvs k v))) ∨
 ∃ kvs k b,H a=some (.dT kvs)/\y=.ref b/\H b=some (.tup (k.map kV))/\kvs.length < sizeLine/\H'=upd H a (.dT (putK kvs k v))
theorem DGet.k {H:Hp} {a:Addr} {kvs:List (Key × V)} {k:Key} (e:H a=some (.dK kvs)):DGet H a (kV k) (valV kvs k):=.inl ⟨kvs,k,.inl e,rfl,rfl⟩
theorem DGet.t {H:Hp} {a b:Addr} {kvs:List (List Key × V)} {k:List Key} (e:H a=some (.dT kvs)) (c:H b=some (.tup (k.map kV))):DGet H a (.ref b) (valV kvs k):=.inr ⟨kvs,k,b,.inl e,rfl,c,rfl⟩
theorem DPut.k {H:Hp} {a:Addr} {kvs:List (Key × V)} {k:Key} {v:V} (e:H a=some (.dK kvs)) (b:kvs.length < sizeLine):DPut H a (kV k) v (upd H a (.dK (putK kvs k v))):=.inl ⟨kvs,k,e,rfl,b,rfl⟩
theorem DPut.t {H:Hp} {a b:Addr} {kvs:List (List Key × V)} {k:List Key} {v:V} (e:H a=some (.dT kvs)) (d:H b=some (.tup (k.map kV))) (c:kvs.length < sizeLine) :
  DPut H a (.ref b) v (upd H a (.dT (putK kvs k v))):=.inr ⟨kvs,k,b,e,rfl,d,c,rfl⟩
section
variable {X:Cx} {pins:List (Addr × Obj)} {σ:St} {H:Hp} {s:Shared} {a:Addr} {y v:V} {u r:Value} {o:Option V} {A:Around} {E:Value->Shared->Prop}
theorem Inv.big (I:Inv X pins σ H s):sysModules < s.heap.objs.size:=by
 have h:mainGlobals < s.heap.objs.size:=(I.mod.glob.keeps I.bk).lt
 exact Nat.lt_trans (by decide) h
theorem ah0 {h':Heap} {t':Nat} {c:HO} (I:Inv X pins σ H s) (d:Mut (H a)) (hs:Heap.SameBut a s.heap h') (f:∃ q,h'.get? a=some q) (new:ObjOk X.prog X.w (upd H a c) h' a c) :
  Inv X pins σ (upd H a c) { s with heap:=h',toks:=t' } :=
 I.write (x:=a) (e:=a) d (.inl rfl) (fun b q hb z=>(hs.2 b hb).trans z) f new
theorem avr {P:Program} {w:World} {H':Hp} {h':Heap} {kvs:List (Key × V)} {vs:List (Key × Value)} (z:kvs.length<=sizeLine) (hd:(a == sysModules)=false) (b:KV kvs vs) (dd:h'.DictOf (abf P w) a vs) :
  ObjOk P w H' h' a (.dK kvs):=⟨z,hd,vs,b,dd⟩
theorem ao8 {H':Hp} {Q:Unit->Shared->Prop} (D:A.units+1 < cLine) (I:Inv X pins σ H s) (g:DPut H a y v H') (C:RelV y u) (x:RelV v r) (h:∀ B,Inv X pins σ H' B->Q () B) :
  wpAny (model X.prog X.w) A (setItem (.ref a) u r) Q E s:=by
 rcases g with ⟨kvs,k,e,n,l,j⟩ | ⟨kvs,k,b,e,n,o,l,j⟩
 ·subst n j
  obtain ⟨z,hd,vs,d,dd⟩:=asz I.hok e
  have hz:vs.length<=sizeLine:=by rw [← d.length];exact z
  have m:(putK kvs k v).length<=sizeLine:=by have:=agi kvs k v;omega
  refine wpAny_setItem_pairs (hsz:=hz) (asv C) dd fun h' f hs=>h _ ?_
  have M:∃ q,h'.get? a=some q:=let ⟨q,_,_,i,_⟩:=f;⟨q,i⟩
  exact ah0 I (by rw [e];exact True.intro) hs M (avr m hd (d.put k x) f)
 ·subst n j
  cases (show u=Value.ref b from C)
  obtain ⟨z,hd,xs,d,dd⟩:=af1 I.hok e
  have hz:xs.length<=sizeLine:=by rw [← Paired.length d];exact z
  have m:(putK kvs k v).length<=sizeLine:=by have:=agi kvs k v;omega
  refine wpAny_setItem_heap (hsz:=hz) (tupleKind_room_in1 D) (ag5 I.hok o) dd fun h' f hs=>h _ ?_
  obtain ⟨q,es,G,i,L,J,K,_,F⟩:=f
  refine ah0 I (by rw [e];exact True.intro) hs ⟨q,i⟩ ⟨m,hd,_,(d.put k o x).keeps fun c ys p=>?_,q,es,G,i,L,J,K,F⟩
  rw [aad (aso p e (fun z=>nomatch z))]
  exact p
end
section
variable {X:Cx} {pins:List (Addr × Obj)} {σ:St} {H:Hp} {s:Shared} {a:Addr} {kvs:List (Key × V)} {k:Key} {u:Value} {A:Around} {E:Value->Shared->Prop}
end
def anu (td ty tv:TE):TS:=fun D σ H=>tv σ H fun v H1=>td σ H1 fun x H2=>ty σ H2 fun y H3=>∃ a H4,x=.ref a/\DPut H3 a y v H4/\D.nx σ H4
section
variable {X:Cx} {o i e value:Expr} {pos pos' tpos:Pos} {td ty tv:TE}
theorem ah1 (f:X.A.units+1 < cLine) (l:PE X o td) (hi:PE X i ty) (q:PE X value tv) (hs:swapsWith value (some (.Subscript o i pos')) pos.line X.env=pure false) :
  PS X (.Assign [.Subscript o i pos'] value pos) (anu td ty tv):=by
 intro pins s σ H D I h
 refine wpAny_Assign_Subscript (thn (q pins s σ H _ I h) fun r s1 ⟨v,d,p,w,m⟩=>thn (l pins s1 σ d _ p m) fun u s2 ⟨x,j,c,z,C⟩=>thn (hi pins s2 σ j _ c C) fun G K ⟨y,H3,E,F,a,b,ex,g,B⟩=>?_) hs
 subst ex
 obtain rfl:u=Value.ref a:=z
 exact ao8 f E g F w fun J n=>⟨σ,b,n,B⟩
end
theorem aqs {P:Program} {w:World} {H:Hp} (h:Heap) (hb:sysModules < h.objs.size):ObjOk P w H (h.push { cls:=.type "dict",data:=.dict #[] }) h.objs.size (.dK []) :=
 ⟨aD0 _,beq_eq_false_iff_ne.mpr (Ne.symm (az5 hb)),[],.nil,Heap.DictOf.new h⟩
theorem aqt {P:Program} {w:World} {H:Hp} (h:Heap) (hb:sysModules < h.objs.size):ObjOk P w H (h.push { cls:=.type "dict",data:=.dict #[] }) h.objs.size (.dT []) :=
 ⟨aD0 _,beq_eq_false_iff_ne.mpr (Ne.symm (az5 hb)),[],.nil,_,#[],0,aF9 _ rfl,⟨rfl,rfl,rfl⟩,rfl,rfl,List.nodup_nil⟩
def ao9:TE:=fun _ H Q=>∀ p,H p=none->Q (.ref p) (upd H p (.dK []))
def akn:TE:=fun _ H Q=>∀ p,H p=none->Q (.ref p) (upd H p (.dT []))
section
variable {X:Cx} {pos:Pos}
theorem ae3:PE X (.Dict [] [] pos) ao9:=fun pins s σ H Q I h =>
 wpAny_Dict_empty ⟨.ref s.heap.objs.size,_,I.laid (a:=s.heap.objs.size) (o:=.dK []) (t':=s.toks) (fun _ _ q=>aF7 _ q) (ay6 _) (aqs s.heap I.big),rfl,h _ (I.hok.fresh (ay6 _))⟩
theorem ako:PE X (.Dict [] [] pos) akn:=fun pins s σ H Q I h =>
 wpAny_Dict_empty ⟨.ref s.heap.objs.size,_,I.laid (a:=s.heap.objs.size) (o:=.dT []) (t':=s.toks) (fun _ _ q=>aF7 _ q) (ay6 _) (aqt s.heap I.big),rfl,h _ (I.hok.fresh (ay6 _))⟩
end
structure M1 (X:Cx) (o:Expr) (m:Str) (apos:Pos) (e:Expr) (cpos:Pos):Prop where
 base:attributeBase o m X.env (eval o X.env)=eval o X.env
 few:((backTo cpos (starEach [e] X.env)).all (fun x => !x.1) && (backToKw cpos (keywordEach [] X.env)).all (fun x=>x.1.isSome)
  && decide (([e]:List Expr).length+([]:List Keyword).length+(if ([]:List Keyword).isEmpty then 0 else 1) < 30))=true
 line:(apos.endLine == cpos.line)=true
 trees:backTo cpos (starEach [e] X.env)=[(false,eval e X.env)]
def IsD (H:Hp) (a:Addr):Prop:=(∃ kvs,Rd H a (.dK kvs))\/∃ kvs,Rd H a (.dT kvs)
theorem avs {X:Cx} {pins:List (Addr × Obj)} {σ:St} {H:Hp} {s:Shared} {a:Addr} (I:Inv X pins σ H s) (d:IsD H a) :
  s.TypeIs (.ref a) "dict"/\(∀ b,Value.ref a=.ref b->∃ c,s.heap.get? b=some c/\c.dict=none)/\(a == sysModules)=false:=by
 rcases d with ⟨kvs,e⟩ | ⟨kvs,e⟩
 ·obtain ⟨_,hd,vs,_,dd⟩:=asx I.hok e
  refine ⟨dd.typeIs,fun b q=>?_,hd⟩
  cases q
  obtain ⟨c,_,_,f,g,_⟩:=dd
  exact ⟨c,f,g.2.1⟩
 ·obtain ⟨_,hd,xs,_,dd⟩:=as0 I.hok e
  refine ⟨dd.typeIs,fun b q=>?_,hd⟩
  cases q
  obtain ⟨c,_,_,f,g,_⟩:=dd
  exact ⟨c,f,g.2.1⟩
section
variable {X:Cx} {pins:List (Addr × Obj)} {σ:St} {H:Hp} {s:Shared} {a:Addr} {y d:V} {u r:Value} {o:Option V} {A:Around} {E:Value->Shared->Prop}
end
section
variable {X:Cx} {o e f:Expr} {apos cpos:Pos} {td ty tx:TE}
end
section
variable {X:Cx} {pins:List (Addr × Obj)} {σ:St} {H:Hp} {s:Shared} {a:Addr} {kvs:List (Key × V)} {A:Around} {E:Value->Shared->Prop}
end
section
variable {X:Cx} {pins:List (Addr × Obj)} {σ:St} {H:Hp} {s:Shared} {a:Addr} {y:V} {u:Value} {A:Around} {E:Value->Shared->Prop}
end
end L2
namespace Att
open PySem PySem.W PySem.Calls PyProof.Rows
theorem ag6 {P:Params} {h:Heap}:∀ (ns:List Int) (vs:List Value),WellAll P h vs (ns.map WData.int)->IntsAre vs ns:=by
 intro ns
 induction ns with
 | nil =>
  intro vs w
  rw [List.map_nil] at w
  cases w
  exact .nil
 | cons n ns ih =>
  intro vs w
  rw [aB0] at w
  cases w with
  | cons a b =>
   cases a
   exact .cons _ _ (ih _ b)
theorem apa {l:OpenLaw} {n:Nat} (hn:l.most=some n) {P:Params} {h:Heap} {args:List WData} {c:List Value}
  (b:l.row.toRowW.claim.pre args=true) (m:WellAll P h c args) :
  ∃ a vs ns,c=[Value.ref a]/\args=[WData.list (ns.map WData.int)]/\h.get? a=some { cls:=.type "list",data:=.seq vs.toArray }/\IntsAre vs ns/\ns.length<=n:=by
 have j:WShape.hasAll [] args [.list .int]=true:=(pre_splitW b).1
 have o:l.pre.holds [] { args:=args }=true:=(pre_splitW b).2
 obtain ⟨d,r,rfl,u,v⟩:=hasAllW_cons j
 obtain rfl:=hasAllW_nil v
 obtain ⟨xs,rfl,s⟩:=hasW_list u
 obtain ⟨ns,rfl⟩:=items_int s
 have f:ns.length<=n:=by
  unfold OpenLaw.pre at o
  have i:(WTm.not (.lt (.lit (.int (n:Int))) (.len (.arg 0)))).holds [] { args:=[.list (ns.map .int)] }=true:=by
   have i:=(holds_andW o).1
   rw [hn] at i
   exact i
  have g:=condW_of i (w_not (w_lt w_lit (w_len_list (w_arg rfl))))
  rw [ay3] at g
  refine Nat.le_of_not_lt fun q=>?_
  have p:(n:Int) < ((ns.length:Nat):Int):=by omega
  first
   | (rw [aB5 p] at g;exact absurd g (by decide))
   | (simp at g;omega)
 cases m with
 | cons w1 w2 =>
  cases w2
  cases w1 with
  | list ho hall=>exact ⟨_,_,ns,rfl,rfl,ho,ag6 ns _ hall,f⟩
theorem apb (l:OpenLaw) (args:List WData):l.row.toRowW.claim.post args (.bool true) args=true :=
 postW_of (r:=l.row.toRowW) (X:=(true == true))
  (show WShape.has [] (.bool true) .bool=true by first | rfl | decide | simp [WShape.has,WShape.arms,WShape.armsAll])
  (show (WTm.eq .res (.lit (.bool true))).value [] { args:=args,res:=some (.bool true),after:=args }=some (.bool (true == true)) from w_eq_bool (w_res rfl) w_lit) rfl
theorem attach_call {l:OpenLaw} {n:Nat} {q:Program} {c:List Str} {z:(Str->Option Value)->Heap->Prop} {D:World->Heap->Prop} {d:DefRec}
  (hn:l.most=some n) (x:d.params.defaults=[])
  (call:∀ (w:World) (s₀ b:Shared) (mg mb:Str->Option Value) (i:Addr) (o:Obj) (pm s doc:Value) (a:Addr) (vs:List Value) (ns:List Int),
   Ground q c [] z w s₀ mg mb b.heap->D w b.heap ->
   b.heap.get? i=some o->o.data=.func (docDef d.name d.params d.body d.scope pm s doc)->b.heap.CodeRec s d.name->mg d.name=some (.ref i) ->
   b.heap.get? a=some { cls:=.type "list",data:=.seq vs.toArray }->IntsAre vs ns->ns.length<=n->b.gens = #[] ->
   codeAny (model l.prog w) callerA (.call (.ref i) ⟨[.ref a],[]⟩) (fun r p=>r=.ok (.ret (.bool true))/\OldK b.heap p.heap/\p.os=b.os/\AllBare p.gens) b) :
  WalkO q c z D l.row.toRowW d [] (fun f vs=>PySem.call f vs):=by
 intro w s₀ b mg mb G Y i o pm s doc N kV E hd u A v I args C as j B K y J
 obtain rfl:N=.none:=Dflts.none A x
 obtain rfl:kV=.none:=Dflts.noKw A
 obtain ⟨a,vs,ns,rfl,rfl,m,g,h⟩:=apa hn j y
 refine enter_call (codeAny_mono (call w s₀ b mg mb i o pm s doc a vs ns G Y E (fd_plain hd) u v m g h I) fun r p F=>?_)
 obtain ⟨rfl,M,H,L⟩:=F
 exact ⟨.inl ⟨.bool true,.bool true,[],rfl,fun _=>rfl,.bool true,apb l _,fun _=>⟨List.Pairwise.nil,fun _ hm=>(nomatch hm)⟩⟩,M,H,L⟩
section
variable {prog:Program} {w:World} {A:Around} {E:Value->Shared->Prop} {s:Shared} {K:Frag}
end
end Att
namespace L2
open PySem PySem.Spec PyProof.Rows
theorem ait:∀ {vs:List Value} {ns:List Int},IntsAre vs ns->Vals (ns.map V.int) vs
 | _,_,.nil => .nil
 | _,_,.cons n t h => .cons ⟨t,rfl⟩ (ait h)
def Only (H:Hp):Prop:=∀ b,H b=none\/(∃ o xs,H b=some (.frz o (.lst xs)))\/∃ gs,H b=some (.tbl gs)
def aeu (K:Frag) (h:Heap):Prop:=∀ c P,PySem.W.tabIn K lamN=some (c,P)->PySem.W.CodeHd h c P/\h.get? P=some (PySem.W.tabObj #[])/\K.lookup P=none
theorem atl {P:Program} {w:World} {K:Frag} {h:Heap} {H:Hp} {a:Addr} {xs:List V} {m:Obj} (v:aeu K h) (ha:h.get? a=some m) (s:m.cls ≠ .none) (l:∀ b,H b=none\/∃ o xs,H b=some (.frz o (.lst xs))) (n:SqL K H a xs) (hok:HOk P w H h) (f:∀ b,H b ≠ none->b=a) (j:H a ≠ none->K.lookup a=none) :
  ∃ H':Hp,Only H'/\SqL K H' a xs/\HOk P w H' h/\(∀ b,H' b ≠ none->(b=a/\K.lookup a=none)\/∃ c,PySem.W.tabIn K lamN=some (c,b))/\TabsOk K H':=by
 cases q:PySem.W.tabIn K lamN with
 | none =>
  refine ⟨H,fun b=>(l b).elim .inl fun z => .inr (.inl z),n,hok,fun b z => .inl ⟨f b z,j ?_⟩,fun c P e=>by rw [q] at e;cases e⟩
  have:=f b z;subst this;exact z
 | some cP =>
  obtain ⟨c,T⟩:=cP
  obtain ⟨_,i,B⟩:=v c T q
  have g:T ≠ a:=fun z=>by subst z;rw [ha] at i;cases i;exact s rfl
  have hn:H T=none:=by
   cases e:H T with
   | none=>rfl
   | some u=>exact absurd (f T (by rw [e];simp)) g
  refine ⟨upd H T (.tbl #[.str lamQ 0]),fun b=>?_,?_,fun b u z=>?_,fun b z=>?_,fun x A e=>?_⟩
  ·by_cases hb:b=T
   ·subst hb;exact .inr (.inr ⟨_,aaf⟩)
   ·rw [aad hb];exact (l b).elim .inl fun z => .inr (.inl z)
  ·rcases n with (r | ⟨o,r⟩) | r
   ·exact .inl (.inl (by rw [aad (Ne.symm g)];exact r))
   ·exact .inl (.inr ⟨o,by rw [aad (Ne.symm g)];exact r⟩)
   ·exact .inr r
  ·by_cases hb:b=T
   ·subst hb
    rw [aaf] at z;cases z
    exact ⟨#[],i,trivial,fun p y e=>by simp [codeAmong] at e⟩
   ·rw [aad hb] at z
    exact (hok b u z).stay (fun _ _ _ r=>r) (fun d r=>by rw [aad (aas r hn)];exact r) fun d ys r=>by rw [aad (aas r hn)];exact r
  ·by_cases hb:b=T
   ·subst hb;exact .inr ⟨c,rfl⟩
   ·rw [aad hb] at z
    have:=f b z;subst this;exact .inl ⟨rfl,j z⟩
  ·rw [q] at e;cases e
   exact ⟨#[],by rw [aaf];rfl⟩
theorem aqu {P:Program} {w:World} {K:Frag} {mg mb:Str->Option Value} {CX:CXT} {k:Nat} {Z a:Addr} {fd:FuncData} {x:Str} {sp:Sp} {f:Shared} {vs:List Value} {ns:List Int}
  (KX:K.In f.heap) (E:f.heap.Ns mainGlobals mg) (hb:f.heap.Ns builtinsNs mb) (X:∀ x:Str,x ≠ "__name__"->mb x=bootBuiltins x) (D:f.heap.NoLimit) (hg:f.gens = #[])
  (ha:f.heap.get? a=some { cls:=.type "list",data:=.seq vs.toArray }) (hi:IntsAre vs ns) (hl:ns.length<=sizeLine) (hr:Room k callerA) (i:aeu K f.heap) (a1:asp mg f.heap)
  (F:∀ base:Heap,K.In base->base.Ns mainGlobals mg->FnOk P w K mg base CX k Z fd [x] sp) (B:∀ (s:Shared) (u:Value),BindsTo s fd ⟨[u],[]⟩ [(x,u)])
  (a0:∀ H:Hp,Only H->SqL K H a (ns.map V.int)->sp [.ref a] H (fun v _=>v=.bl true) fun _ _ _=>False)
  (Y:∀ H e l,CX [] H f (fun _ _ _=>False) e l->False) :
  codeAny (model P w) callerA (.call (.ref Z) ⟨[.ref a],[]⟩) (fun r l=>r=.ok (.ret (.bool true))/\OldK f.heap l.heap/\l.os=f.os/\AllBare l.gens) f:=by
 have rv:=ait hi
 have L:=hi.length
 -- from an abstract heap in which nothing but the script may be tracked
 have A:∀ H:Hp,(∀ b,H b=none\/∃ o xs,H b=some (.frz o (.lst xs)))->SqL K H a (ns.map V.int)->HOk P w H f.heap->(∀ b,H b ≠ none->b=a)->(H a ≠ none->K.lookup a=none) ->
   codeAny (model P w) callerA (.call (.ref Z) ⟨[.ref a],[]⟩) (fun r l=>r=.ok (.ret (.bool true))/\OldK f.heap l.heap/\l.os=f.os/\AllBare l.gens) f:=by
  intro H S T hok C hK
  obtain ⟨H,S,T,hok,C,hT⟩:=atl i ha (by intro z;cases z) S T hok C hK
  have g:∀ {b:Addr} {o:Obj},f.heap.get? b=some o->H b=none->(hidT f.heap H).get? b=some o:=fun e n=>aqo e n
  have a2:∀ {b:Addr} {o:Obj} {es:Array DictEntry} {I:Nat},f.heap.get? b=some o->o.data=.dict es I->H b=none:=fun {b o es I} e d=>by
   cases q:H b with
   | none=>rfl
   | some u =>
    rcases C b (by rw [q];simp) with ⟨j,_⟩ | ⟨c,j⟩
    ·subst j
     rw [ha] at e;cases e
     have d':Data.seq vs.toArray _=Data.dict es I:=d
     cases d'
    ·have J:=(i c b j).2.1
     rw [J] at e;cases e;cases d
  have p:∀ {b:Addr} {m:Str->Option Value},f.heap.Ns b m->(hidT f.heap H).Ns b m:=fun {b m} ⟨o,es,I,e,d,r⟩=>⟨o,es,I,g e (a2 e d),d,r⟩
  have M:K.In (hidT f.heap H):=fun b o e=>g (KX b o e) (by
   cases q:H b with
   | none=>rfl
   | some u =>
    rcases C b (by rw [q];simp) with ⟨j,G⟩ | ⟨c,j⟩
    ·subst j
     rw [G] at e;cases e
    ·rw [(i c b j).2.2] at e;cases e)
  have hM:Mod K mg (hidT f.heap H):=⟨M,p E,⟨mb,p hb,X⟩,let ⟨mc,h1,h2⟩:=D;⟨mc,p h1,h2⟩,by
   obtain ⟨R,W,b1,b2,Q,b4,b5⟩:=a1
   refine ⟨R,W,b1,b2,g Q ?_,b4,b5⟩
   cases q:H R with
   | none=>rfl
   | some u =>
    rcases C R (by rw [q];simp) with ⟨j,_⟩ | ⟨c,j⟩
    ·subst j
     rw [ha] at Q;cases Q
     have b6:Value.type "list" = Value.type "module":=b4
     injection b6 with z
     exact absurd z (by decide)
    ·rw [(i c R j).2.1] at Q;cases Q;cases b4⟩
  have e0:Env0 P w K mg (hidT f.heap H) callerA [] f H:=⟨rfl,hM,fun b o e=>atf e,Nat.le_of_eq (aou _ _),trivial,fun b hb=>absurd (show b∈([]:List Addr) from hb) (by simp),hT,hok,.of_eq hg⟩
  refine codeAny_mono ((F _ M (p E)).run callerA [] f H ⟨[.ref a],[]⟩ [.ref a] [.ref a] _ _ hr e0 (B f (.ref a)) (.cons rfl .nil) (a0 H S T)) fun r l h=>?_
  cases r with
  | error e=>exact (Y H e l h).elim
  | ok fl =>
   cases fl with
   | next=>exact False.elim h
   | brk=>exact False.elim h
   | cont=>exact False.elim h
   | ret u =>
    obtain ⟨v,H',os,bare,un,y,r',q⟩:=h
    have q':v=.bl true:=q
    subst q'
    obtain rfl:u=Value.bool true:=r'
    refine ⟨rfl,⟨fun b o e=>?_,fun b o e=>un.there b o e (by simp)⟩,os,bare⟩
    cases q:H b with
    | none=>exact .inl (un.keep b o e q (by intro z;exact absurd (show b∈([]:List Addr) from z) (by simp)) (by simp))
    | some u =>
     rcases S b with z | ⟨W,xs,z⟩ | ⟨gs,z⟩
     ·rw [q] at z;cases z
     ·refine .inl ?_
      have U:=un.frzs b W _ z
      obtain ⟨e1,_⟩:=hok b _ z
      obtain ⟨J,_⟩:=y b _ U
      rw [e] at e1;cases e1
      exact J
     ·obtain ⟨m,U⟩:=un.tbls b gs z
      obtain ⟨ps,J,_⟩:=y b _ U
      rcases C b (by rw [q];simp) with ⟨j,_⟩ | ⟨c,j⟩
      ·subst j
       obtain ⟨a3,O,_⟩:=hok b _ z
       rw [ha] at O;cases O
      ·have O:=(i c b j).2.1
       rw [O] at e;cases e
       refine .inr (.inl ⟨((i c b j).1.tab O).isCodeTable,rfl,#[],ps,rfl,?_⟩)
       rw [J];simp
 cases G:K.lookup a with
 | some o =>
  -- the script is one of the module's own objects
  have e:=KX a o G
  rw [ha] at e
  cases e
  refine A (fun _=>none) (fun _ => .inl rfl) (.inr ⟨_,vs.toArray,_,G,rfl,rfl,rfl,by rw [az1,L];exact hl,by simpa using rv⟩) (fun b u z=>by have N:(none:Option HO)=some u:=z;cases N) (fun b z=>absurd rfl z) fun z=>absurd rfl z
 | none =>
  refine A (fun b=>if b=a then some (.frz { cls:=.type "list",data:=.seq vs.toArray } (.lst (ns.map V.int))) else none) (fun b=>?_) (.inl (.inr ⟨{ cls:=.type "list",data:=.seq vs.toArray },aC5 rfl⟩)) (fun b u z=>?_) (fun b z=>?_) fun _=>G
  ·by_cases hb:b=a
   ·exact .inr ⟨_,_,aC5 hb⟩
   ·exact .inl (aC6 hb)
  ·by_cases hb:b=a
   ·have N:=(aC5 hb).symm.trans z
    cases N
    subst hb
    exact ⟨ha,by rw [ay3];exact hl,vs,_,rv,ha⟩
   ·have N:=(aC6 hb).symm.trans z
    cases N
  ·by_cases hb:b=a
   ·exact hb
   ·exact absurd (aC6 hb) z
abbrev KOf {K:Frag} {h:Heap} (_:K.In h):Frag:=K
theorem walk_of {l:PySem.W.OpenLaw} {n k:Nat} {q:Program} {j:List Str} {M:(Str->Option Value)->Heap->Prop} {J:World->Heap->Prop} {d:DefRec} {K:Params->Frag} {CX:World->CXT} {sp:World->Sp} {x:Str}
  (hn:l.most=some n) (I:n<=sizeLine) (B:d.params.defaults=[]) (P:Room k callerA)
  (R:∀ (w:World) (h:Heap),J w h->(K w.params).In h)
  (C:∀ (w:World) (lo:List Str) (mg mb:Str->Option Value) (m:ExcName->Option Value) (h:Heap),PyProof.Rows.Top q lo m mg mb h->J w h->aeu (K w.params) h)
  (F:∀ (w:World) (mg:Str->Option Value) (y:Addr) (h:Heap),(K w.params).In h->h.Ns mainGlobals mg->mg d.name=some (.ref y) ->
   ∃ fd:FuncData,(∀ (s:Shared) (u:Value),BindsTo s fd ⟨[u],[]⟩ [(x,u)]) /\
    ∀ base:Heap,(K w.params).In base->base.Ns mainGlobals mg->FnOk l.prog w (K w.params) mg base (CX w) k y fd [x] (sp w))
  (A:∀ (w:World) (H:Hp) (a:Addr) (ns:List Int),ns.length<=n->Only H->SqL (K w.params) H a (ns.map V.int)->sp w [.ref a] H (fun v _=>v=.bl true) fun _ _ _=>False)
  (E:∀ (w:World) (H:Hp) (s:Shared) (e:Value) (D:Shared),CX w [] H s (fun _ _ _=>False) e D->False) :
  PySem.W.WalkO q j M J l.row.toRowW d [] (fun f vs=>PySem.call f vs):=by
 refine Att.attach_call hn B fun w s₀ p mg mb y o pm Z doc a vs ns G Y X hd N z r i c S=>?_
 have L:=R w _ Y
 obtain ⟨fd,hb,Q⟩:=F w mg y _ L G.T.g z
 exact aqu L G.T.g G.T.b G.T.builtins G.T.nolimit S r i (aA9 c I) P (C w _ _ _ _ _ G.T Y) G.T.bmain Q hb (fun H O U=>A w H a ns c O U) fun H e D=>E w H p e D
end L2
/- THE LAST THEOREM (shape; LID, My.* are yours):
  My.Adr: a structure of the addresses that your layer names (classes,functions);My.Txt K t: a structure (Prop) of the equations over K;
  My.txt_mk:{K} {implicit addresses ..} (e1:nsIn K mainGlobals "law" = some (some (.ref f))) (e2:K.lookup f=some ⟨oc,od,.func (fnOf "law" "law" params body scope dV kV doc pm an cdv ct),sl⟩) (e3:codeIn K cdv "law" = true) .. : ∃ t,My.Txt K t
set_option maxRecDepth 100000 in
set_option maxHeartbeats 0 in
theorem PySem.Challenge.cw_LID_holds : PySem.Challenge.rw_LID.Holds := by
 w_on;o_law;k_head;(case hw=>w_witness2)
 k_fill
 refine L2.walk_of (l:=PySem.Challenge.rw_LID) (n:=63) (k:=40) (x:="script") (CX:=fun w => ..) (sp:=fun _=>My.sp_law) rfl (by decide) rfl ⟨rfl,by decide,by decide⟩ (fun w h Y=>PySem.W.kIn_of Y) ?F ?S ?C
 case F =>
  intro w mg fa h KX G hmg
  have T:∃ t,My.Txt (L2.KOf KX) t:=by
   dsimp only [L2.KOf]                          -- K must stand as «<heap const> w.params» for k_is
   refine' My.txt_mk ?e1 ?e2 ?e3 ..
   (case e1=>PySem.W.k_is)                    -- in the order: a name -> its address -> its object -> its parts
   (case e2=>PySem.W.k_is)
   ..
  obtain ⟨t,T⟩:=T
  have e0:=hmg.symm.trans (mg_of KX G T.law)
  cases e0                                       -- fa is the law's own address
  exact ⟨_,fun s u => .of_eq rfl,fun base kb nb=>My.law_fn T kb nb⟩     -- if «.of_eq rfl» comes too early: refine' ⟨_,?b,fun base kb nb=>My.law_fn T kb nb⟩;exact fun s u => .of_eq rfl
 case S=>exact fun w H a ns hl hO hS => ..
 case C=>exact ..
(the tactic k_is has no namespace: write k_is) -/
namespace L2
open PySem PySem.Spec PyProof.Rows
def aci (s:Stmt):Arguments:=match s with
 | .FunctionDef _ a _ _ _ _ _ _ _ _=>a
 | _=>{ posonlyargs:=[],args:=[],vararg:=none,kwonlyargs:=[],kw_defaults:=[],kwarg:=none,defaults:=[] }
def aca (s:Stmt):List Stmt:=match s with
 | .FunctionDef _ _ b _ _ _ _ _ _ _=>b
 | _=>[]
def aar (s:Stmt):Scope:=match s with
 | .FunctionDef _ _ _ _ _ _ sc _ _ _=>sc
 | _=>{ kind:=.function,names:=[],isGenerator:=false,isCoroutine:=false }
abbrev CX0:CXT:=fun _ _ _ _ _ _=>False
abbrev E0:XK:=fun _ _ _=>False
theorem axl {X:Cx}:akf CX0 X E0:=fun _ _ _ _ _ _ _ h=>h.elim
structure Fun (K:Frag) (x qual:Str) (st:Stmt) (f:Addr) (fd:FuncData):Prop where
 ex:∃ (oc:Value) (od:Option Addr) (kV doc pm:Value) (an:Option Addr) (cdv ct:Value) (osl:Array (Option Value)),
  fd=fnOf x qual (aci st) (aca st) (aar st) .none kV doc pm an cdv ct/\K.lookup f=some ⟨oc,od,.func fd,osl⟩/\codeIn K cdv qual=true
 kp:keepIn K (.ref f)=true
section
variable {P:Program} {w:World} {K:Frag} {mg:Str->Option Value} {base:Heap}
theorem Fun.ok {x qual:Str} {st:Stmt} {f:Addr} {fd:FuncData} {N ps:List Str} {k:Nat} {sp:Sp} (F:Fun K x qual st f fd) (S:FnScope N ps (aar st)) (len:∀ vs H Q E,sp vs H Q E->vs.length=ps.length)
  (a:∀ (cdv:Value) (A:Around) (outer:List Env) (s:Shared) (H:Hp) (vs:List V) (Q:VK) (E:XK),Room k (A.deeper (envOfC qual (aar st) s.heap.objs.size f cdv))->sp vs H Q E ->
   ∃ t,PSs (cxOf CX0 P w K mg base N qual (aar st) f cdv A outer s H E).nox (aca st) t/\t { nx:=fun _ H'=>Q .non H',rt:=Q } (start N vs) H):FnOk P w K mg base CX0 (k+1) f fd ps sp:=by
 obtain ⟨oc,od,kV,doc,pm,an,cdv,ct,osl,rfl,d,c⟩:=F.ex
 refine axk d c S len fun A outer s H vs Q E g b=>?_
 obtain ⟨t,h,q⟩:=a cdv A outer s H vs Q E g b
 exact ⟨t,h.nox,q⟩
theorem Fun.binds {x qual:Str} {st:Stmt} {f:Addr} {fd:FuncData} {ps:List Str} (F:Fun K x qual st f fd)
  (h:∀ (kV doc pm:Value) (an:Option Addr) (cdv ct:Value) (us:List Value),us.length=ps.length->bindArgs (fnOf x qual (aci st) (aca st) (aar st) .none kV doc pm an cdv ct) ⟨us,[]⟩=pure (ps.zip us)):Binds K fd ps []:=by
 obtain ⟨oc,od,kV,doc,pm,an,cdv,ct,osl,rfl,b,a⟩:=F.ex
 exact .all (h kV doc pm an cdv ct)
theorem avt {x qual:Str} {st:Stmt} {f:Addr} {oc:Value} {od an:Option Addr} {osl:Array (Option Value)} {kV doc pm cdv ct:Value} (l:K.lookup f=some ⟨oc,od,.func (fnOf x qual (aci st) (aca st) (aar st) .none kV doc pm an cdv ct),osl⟩)
  (c:codeIn K cdv qual=true) (k:keepIn K (.ref f)=true):Fun K x qual st f (fnOf x qual (aci st) (aca st) (aar st) .none kV doc pm an cdv ct):=⟨⟨oc,od,kV,doc,pm,an,cdv,ct,osl,rfl,l,c⟩,k⟩
end
theorem ajy {A:Around} {k:Nat} (a:Room k A):A.units+1 < cLine:=Nat.lt_of_le_of_lt (Nat.add_le_add_left (by decide:1<=64) _) a.units
theorem aeg {n:Nat} (h:n<=1000):n < sizeLine:=Nat.lt_of_le_of_lt h (by decide)
section
variable {X:Cx}
theorem pv (i:Nat) {x:Str} {b:Pos} (d:X.N[i]?=some x:=by rfl) (c:Vis X.env.scope x:=by first | exact Or.inl rfl | exact Or.inr (Or.inl rfl) | exact Or.inr (Or.inr rfl)) (hd:(x == ("__debug__" : Str))=false:=by decide)
  (a:(x == ("__classdict__" : Str))=false:=by decide):PE X (.Name x b) (tVar i):=avk d c hd a
end
theorem iteF {A B:Prop} (h:B):if false=true then A else B:=by
 rw [aC6 ay9]
 exact h
theorem iteT {A B:Prop} (h:A):if true=true then A else B:=by
 rw [aC5 rfl]
 exact h
def Same (H H':Hp):Prop:=∀ b o,H b=some o->H' b=some o
theorem Same.refl (H:Hp):Same H H:=fun _ _ h=>h
theorem Same.trans {H d f:Hp} (a:Same H d) (b:Same d f):Same H f:=fun c o h=>b c o (a c o h)
theorem Same.free {H H':Hp} (e:Same H H') {l:Addr} (h:H' l=Option.none):H l=Option.none:=by
 cases q:H l with
 | none=>rfl
 | some o =>
  rw [e l o q] at h
  cases h
theorem Same.seq {K:Frag} {H H':Hp} {a:Addr} {xs:List V} (e:Same H H') (h:SqL K H a xs):SqL K H' a xs:=by
 rcases h with (h | ⟨o,h⟩) | h
 ·exact .inl (.inl (e _ _ h))
 ·exact .inl (.inr ⟨o,e _ _ h⟩)
 ·exact .inr h
section
variable {X:Cx}
end
section
variable {κ:Type} [DecidableEq κ]
end
def clos (env:Env):List (Str × NameKind)->List (Str × Addr)->List (Str × Addr)
 | [],cs=>cs
 | (n,k) :: r,cs=>if k == NameKind.free then (match env.cells.lookup n with | some a=>clos env r ((n,a) :: cs) | none=>clos env r cs) else clos env r cs
theorem ag7 {env:Env} {sc:Scope} (h:∀ n,(n,NameKind.free)∈sc.names->∃ a,env.cells.lookup n=some a):closureFor sc env=pure (clos env sc.names []):=by
 have all:∀ (l:List (Str × NameKind)) (cs:List (Str × Addr)),(∀ n,(n,NameKind.free)∈l->∃ a,env.cells.lookup n=some a) ->
   (forIn l cs fun (x:Str × NameKind) (cs:List (Str × Addr))=>match x with | (name,kind)=>if kind == NameKind.free then (do let a ← cellOf env name;pure (ForInStep.yield ((name,a) :: cs))) else pure (ForInStep.yield cs))=(pure (clos env l cs):Sem _):=by
  intro l
  induction l with
  | nil=>intro cs _;rfl
  | cons p r ih =>
   intro cs c
   obtain ⟨n,k⟩:=p
   rw [List.forIn_cons]
   unfold clos
   dsimp only
   cases hk:(k == NameKind.free) with
   | false =>
    simp only [Bool.false_eq_true,if_false,pure_bind]
    exact ih cs fun m hm=>c m (az4 _ hm)
   | true =>
    have d:k=NameKind.free:=by simpa using hk
    subst d
    obtain ⟨a,ha⟩:=c n az7
    have f:cellOf env n=pure a:=by unfold cellOf;rw [ha]
    simp only [if_true,f,pure_bind,ha]
    exact ih _ fun m hm=>c m (az4 _ hm)
 have e:=all sc.names [] h
 unfold closureFor
 refine Eq.trans (b:=(pure (clos env sc.names []):Sem _) >>= fun cs=>pure cs) ?_ (pure_bind _ _)
 exact congrArg (fun z:Sem (List (Str × Addr))=>z >>= fun cs=>pure cs) e
theorem aeh {env:Env} {x:Str} {c:Addr}:∀ {l:List (Str × NameKind)} {cs:List (Str × Addr)},(clos env l cs).lookup x=some c->env.cells.lookup x=some c\/cs.lookup x=some c
 | [],cs,h => .inr h
 | (n,k) :: r,cs,h=>by
  unfold clos at h
  by_cases hk:(k == NameKind.free)=true
  ·rw [aC5 hk] at h
   cases ha:env.cells.lookup n with
   | none=>rw [ha] at h;exact aeh h
   | some a =>
    rw [ha] at h
    rcases aeh h with e | e
    ·exact .inl e
    ·rw [aD9] at e
     cases hx:(x == n) with
     | true =>
      rw [hx] at e
      have:x=n:=by simpa using hx
      subst this
      cases e
      exact .inl ha
     | false=>rw [hx] at e;exact .inr e
  ·rw [aC6 hk] at h
   exact aeh h
theorem aei {env:Env} {x:Str}:∀ {l:List (Str × NameKind)} {cs:List (Str × Addr)},(∃ c,cs.lookup x=some c)->∃ c,(clos env l cs).lookup x=some c
 | [],cs,h=>h
 | (n,k) :: r,cs,h=>by
  unfold clos
  by_cases hk:(k == NameKind.free)=true
  ·rw [aC5 hk]
   cases ha:env.cells.lookup n with
   | none=>exact aei h
   | some a =>
    refine aei ?_
    rw [aD9]
    cases hx:(x == n) with
    | true=>exact ⟨_,rfl⟩
    | false=>exact h
  ·rw [aC6 hk]
   exact aei h
theorem ad7 {env:Env} {x:Str} (h:∃ a,env.cells.lookup x=some a):∀ {l:List (Str × NameKind)} {cs:List (Str × Addr)},(x,NameKind.free)∈l->∃ c,(clos env l cs).lookup x=some c
 | [],_,hm=>absurd hm (by simp)
 | (n,k) :: r,cs,hm=>by
  rcases ay8.mp hm with e | hm
  ·cases e
   obtain ⟨a,ha⟩:=h
   unfold clos
   rw [aC5 (by rfl),ha]
   refine aei ⟨a,?_⟩
   rw [aD9]
   simp
  ·unfold clos
   by_cases hk:(k == NameKind.free)=true
   ·rw [aC5 hk]
    cases ha:env.cells.lookup n with
    | none=>exact ad7 h hm
    | some a=>exact ad7 h hm
   ·rw [aC6 hk]
    exact ad7 h hm
theorem afk {env:Env} {x:Str}:∀ {names:List (Str × NameKind)},(∀ y∈names,y.2 ≠ .cell) ->
  ((names.map fun (n,k)=>if (k == NameKind.free && env.scope.kind == .function && env.kindOf n == some .cell) then (n,NameKind.cell) else (n,k)).lookup x=some .cell ∨
   (names.map fun (n,k)=>if (k == NameKind.free && env.scope.kind == .function && env.kindOf n == some .cell) then (n,NameKind.cell) else (n,k)).lookup x=some .free)->names.lookup x=some .free
 | [],_,h=>by rcases h with h | h <;> simp at h
 | (n,k) :: r,hc,h=>by
  have a:=@afk env x r fun y b=>hc y (az4 _ b)
  rw [aD9]
  simp only [aB0] at h
  by_cases hq:(k == NameKind.free && env.scope.kind == .function && env.kindOf n == some .cell)=true
  ·rw [aC5 hq] at h
   have c:k=NameKind.free:=by
    have:=hq;simp only [aE1] at this;simpa using this.1.1
   subst c
   cases hx:(x == n) with
   | true=>rfl
   | false=>simp only [aD9,hx] at h;exact a h
  ·rw [aC6 hq] at h
   cases hx:(x == n) with
   | true =>
    simp only [aD9,hx] at h
    rcases h with h | h
    ·cases h;exact absurd rfl (hc (n,NameKind.cell) az7)
    ·exact h
   | false=>simp only [aD9,hx] at h;exact a h
theorem aej {env:Env} {x:Str}:∀ {names:List (Str × NameKind)},names.lookup x=some .free ->
  ((names.map fun (n,k)=>if (k == NameKind.free && env.scope.kind == .function && env.kindOf n == some .cell) then (n,NameKind.cell) else (n,k)).lookup x=some .cell ∨
   (names.map fun (n,k)=>if (k == NameKind.free && env.scope.kind == .function && env.kindOf n == some .cell) then (n,NameKind.cell) else (n,k)).lookup x=some .free)
 | [],h=>by simp at h
 | (n,k) :: r,h=>by
  have a:=@aej env x r
  rw [aD9] at h
  simp only [aB0]
  by_cases hq:(k == NameKind.free && env.scope.kind == .function && env.kindOf n == some .cell)=true
  ·rw [aC5 hq]
   cases hx:(x == n) with
   | true=>left;simp [aD9,hx]
   | false=>rw [hx] at h;simp only [aD9,hx];exact a h
  ·rw [aC6 hq]
   cases hx:(x == n) with
   | true=>rw [hx] at h;right;simp only [aD9,hx];exact h
   | false=>rw [hx] at h;simp only [aD9,hx];exact a h
def Cx.comp (X:Cx) (N:List Str) (sc:Scope) (C:Addr) (s0:Shared) (H0:Hp) (ex:List Addr):Cx where
 prog:=X.prog
 w:=X.w
 K:=X.K
 mg:=X.mg
 base:=X.base
 A:=X.A
 N:=N
 s₀:=s0
 H₀:=H0
 env:=compEnvC sc (clos X.env sc.names []) C X.env
 outer:=X.stack
 stack:=X.stack
 ex:=ex
 fn:=fun _=>false
 calm:=X.calm
 pn:=[]
 xe:=fun _ _=>False
def pick (src:List (Option Nat)) (σ:St):St:=src.map fun o=>match o with | some j=>(σ[j]?).getD none | none=>none
structure LcOk (X:Cx) (N:List Str) (sc:Scope) (src:List (Option Nat)):Prop where
 kind:sc.kind=.function
 nocell:∀ y∈sc.names,y.2 ≠ .cell
 own:∀ y∈sc.names,y.2=.local->sc.names.lookup y.1=some .local
 outs:∀ y∈sc.names,y.2=.free->X.env.kindOf y.1=some .cell\/X.env.kindOf y.1=some .free
 len:src.length=N.length
 from':∀ (i j:Nat),src[i]?=some (some j)->∃ x,N[i]?=some x/\X.N[j]?=some x/\sc.names.lookup x=some .free
theorem LcOk.clo {X:Cx} {N:List Str} {sc:Scope} {src:List (Option Nat)} (L:LcOk X N sc src) (ok:X.Ok):closureFor sc X.env=pure (clos X.env sc.names []) :=
 ag7 fun n hn=>ok.has n (L.outs (n,.free) hn rfl)
theorem aqv {X:Cx} {pins:List (Addr × Obj)} {σ:St} {H:Hp} {s:Shared} {N:List Str} {sc:Scope} {src:List (Option Nat)} {fp:List Addr} {w:Heap} {t':Nat}
  (L:LcOk X N sc src) (I:Inv X pins σ H s) (hf:∀ b∈fp,FpOk X pins H b) (g:∀ b∈fp,b < s.heap.objs.size)
  (hn:w.Ns s.heap.objs.size fun _=>none) (f:∀ b o,s.heap.get? b=some o->w.get? b=some o) :
  Inv (X.comp N sc s.heap.objs.size s H fp) [] (pick src σ) H { s with heap:=w,toks:=t' }:=by
 have look:∀ {x c},(clos X.env sc.names []).lookup x=some c->X.env.cells.lookup x=some c:=fun {x c} e=>by
  rcases aeh e with z | z
  ·exact z
  ·simp at z
 refine ⟨⟨I.ok.mod,L.kind,I.ok.glob,I.ok.blt,ay6 _,fun x y c B a=>?_,fun x K=>?_,fun x c z _=>?_,I.ok.hd,I.ok.frames,.inl rfl,fun b hb=>⟨?_,fun x c e=>?_⟩,I.bs,aA9 I.ok.bsz I.sz,fun b o e hb=>?_,fun b hb z=>?_,I.stack,I.stkFree,I.tab⟩,
  rfl,I.bare,Un.kept f,⟨_,hn,fun i x v B a Q=>?_⟩,fun x c e=>?_,I.hok.fresh (ay6 _),fun x c e=>I.freeC x c (look e),fun p M=>?_,I.hok.kept f,?_⟩
 ·exact I.ok.inj x y c (look B) (look a)
 ·have q:=afk (env:=X.env) (x:=x) L.nocell K
  exact ad7 (I.ok.has x (L.outs (x,.free) (PySem.mem_of_lookup q) rfl)) (PySem.mem_of_lookup q)
 ·exact Bool.noConfusion z
 ·exact az5 (g b hb)
 ·exact (hf b hb).2.2.2.2.1 x c (look e)
 ·rcases (hf b hb).2.2.2.1 with z | z
  ·exact I.ok.noex b o e z
  ·exact absurd (aA4 (aF8 e) (aA9 I.ok.bsz z)) (aD4 _)
 ·rcases ay8.mp (I.stkSub b z) with q | q
  ·exact (hf b hb).2.1 q
  ·exact (hf b hb).2.2.1 q
 ·unfold pick at a
  rw [ay5] at a
  cases q:src[i]? with
  | none=>rw [q] at a;cases a
  | some o =>
   rw [q] at a
   cases o with
   | none=>cases a
   | some j =>
    obtain ⟨y,E,G,n⟩:=L.from' i j q
    have A:N[i]?=some x:=B
    rw [A] at E
    cases E
    have O : σ[j]?=some (some v):=by
     cases q2 : σ[j]? with
     | none=>simp [q2] at a
     | some z=>simp [q2] at a;rw [a]
    have g:=L.outs (x,.free) (PySem.mem_of_lookup n) rfl
    have h:Vis X.env.scope x:=by
     rcases g with z | z
     ·exact .inr (.inl z)
     ·exact .inr (.inr z)
    obtain ⟨m,_,J⟩:=I.loc
    obtain ⟨u,r,l⟩:=J j x v G O h
    refine ⟨u,r,.inr ⟨?_,?_⟩⟩
    ·exact aej (env:=X.env) n
    ·rcases l with ⟨z,_⟩ | ⟨_,c,F,oc,d,hd⟩
     ·rcases g with D | D <;> (rw [D] at z;cases z)
     ·obtain ⟨P,C⟩:=ad7 (env:=X.env) ⟨c,F⟩ (PySem.mem_of_lookup n) (cs:=[])
      have:=look C
      rw [F] at this;cases this
      exact ⟨c,C,oc,f c oc d,hd⟩
 ·obtain ⟨v,oc,d,hd⟩:=I.cell x c (look e)
  exact ⟨v,oc,f c oc d,hd⟩
 ·exact absurd (show p∈([]:List (Addr × Obj)) from M) (by simp)
 ·show (pick src σ).length=N.length
  unfold pick
  rw [ay3]
  exact L.len
def PIf (X:Cx) (ifs:List Expr) (t:TT):Prop :=
 ∀ (pins:List (Addr × Obj)) (s:Shared) (σ:St) (H:Hp) (Q:Bool->Hp->Prop),Inv X pins σ H s->t σ H Q ->
  wpAny (model X.prog X.w) X.A (forIn ifs true fun c r=>if r=true then do let ok ← isTrue c X.env (eval c X.env);pure (ForInStep.yield ok) else pure (ForInStep.yield r)) (TP X pins σ Q) X.xe s
def tYes:TT:=fun _ H Q=>Q true H
theorem acz {X:Cx}:PIf X [] tYes:=fun _ _ _ H _ I h=>wpAny_tests_nil ⟨H,I,h⟩
abbrev LW:=Nat->Nat->List V->St->Hp->Prop
def ad8 (J:It) (g:TG) (tif:TT) (te:TE) (acc:Addr) (Qd:List V->Hp->Prop) (W:LW):Prop:=∀ (i m:Nat) (ys:List V) (σ:St) (H:Hp),W i m ys σ H->H acc=some (.lst ys)/\((J.stop i H/\Qd ys H)\/(J.go i H /\
 ∃ Nx:List V->St->Hp->Prop,(∀ ys' σ' H',Nx ys' σ' H'->∃ m',m' < m/\W (i+1) m' ys' σ' H')/\∀ x H2,J.yld i H x H2 ->
 g x σ H2 fun σ3 H3=>tif σ3 H3 fun b H4=>if b=true then te σ3 H4 fun y H5=>H5 acc=some (.lst ys)/\ys.length < sizeLine/\Nx (ys ++ [y]) σ3 (upd H5 acc (.lst (ys ++ [y]))) else Nx ys σ3 H4))
theorem apc {X:Cx} {tg q D:Expr} {C:List Expr} {sc:Scope} {F:Pos} {J:It} {fp:List Addr} {it:Addr} {tn:Nat->Heap->Prop} {g:TG} {L:TT} {te:TE} {a:Addr} {Qd:List V->Hp->Prop} {W:LW} {R:Result->Shared->Prop}
  (T:Turn X.prog X.w X.K tg J fp it tn) (hc:X.calm=true) (l:∀ e s,¬ X.xe e s) (hg:PG X tg g) (a2:PIf X C L) (he:PE X D te)
  (O:ad8 J g L te a Qd W) (hR:∀ ys σ H s,Inv X [] σ H s->Qd ys H->R (.ok .next) s)
  {i m:Nat} {ys:List V} {σ:St} {H:Hp} {s:Shared} (I:Inv X [] σ H s) (st:tn i s.heap) (hf:∀ b∈fp,FpOk X [] H b) (w:W i m ys σ H) :
  codeAny (model X.prog X.w) X.A (.compLoop (.ListComp D [⟨tg,q,C,0⟩] sc F) 0 (.ref it) (.ref a) X.env) R s:=by
 have h:∀ {H':Hp},(∀ b∈fp,H' b=none)->∀ b∈fp,FpOk X [] H' b:=fun hn b hb=>⟨hn b hb,(hf b hb).2⟩
 refine codeAny_loop rfl (fun n j=>∃ i ys f H',Inv X [] f H' j/\tn i j.heap/\(∀ b∈fp,H' b=none)/\W i n ys f H') ?_ m ⟨i,ys,σ,H,I,st,fun b hb=>(hf b hb).1,w⟩
 rintro n s1 ⟨i,ys,c,U,I1,G,Q,w1⟩
 show wpAny _ X.A ((compTurn (.ListComp D [⟨tg,q,C,0⟩] sc F) 0 (.ref it) (.ref a) X.env).onRaise (fun x=>do noteFrame x X.env;theTreesLotGoes x)) _ _ s1
 refine wpAny_noted ?_
 rw [compTurn_list]
 refine aF5 (wpAny_standAt (aF5 ?_))
 obtain ⟨a3,⟨stop,qd⟩ | ⟨go,Nx,M,step⟩⟩:=O i n ys c U w1
 ·refine thn (T.done X rfl rfl rfl hc i [] s1 c U _ I1 (h Q) G stop) fun r s2 ⟨hr,I2⟩=>?_
  subst hr
  exact aF6 (hR ys c U s2 I2 qd)
 ·refine thn (T.item X rfl rfl rfl hc i [] s1 c U _ I1 (h Q) G go) fun r s2 ⟨u,hr,h2⟩=>?_
  subst hr
  refine aF5 (thn h2 fun _ s3 ⟨x,H3,I3,r3,y3,B,a1⟩=>?_)
  have a0:=I3.pinned (h a1) (T.obj _ _ B)
  refine aF5 (aG2 (hg _ s3 c H3 x u _ a0 r3 (step x H3 y3)) (fun _ s4 ⟨E,H4,I4,q4⟩=>?_) fun e j z=>(l e j z).elim)
  have v:∀ {p:St} {N:Hp} {P:Shared} {zs:List V},Inv X ([] ++ afh fp s3.heap) p N P->(∃ Y,Y < n/\W (i+1) Y zs p N)->∃ m,m < n/\∃ i ys f H',Inv X [] f H' P/\tn i P.heap/\(∀ b∈fp,H' b=none)/\W i m ys f H':=fun {p N P zs} S w7=>by
   obtain ⟨Y,hm,w7⟩:=w7
   refine ⟨Y,hm,i+1,zs,p,N,S.unpinned,T.keep _ _ _ B fun b hb o e=>(S.pin (b,o) (az2 _ (az2 _ (adv hb e)))).1,fun b hb=>?_,w7⟩
   obtain ⟨o,e,d⟩:=T.obj _ _ B b hb
   exact (S.pin (b,o) (az2 _ (az2 _ (adv hb e)))).2.1
  refine aF5 (aG2 (a2 _ s4 E H4 _ I4 q4) (fun b s5 ⟨H5,I5,Z⟩=>?_) fun e j z=>(l e j z).elim)
  cases b with
  | false =>
   rw [aC6 ay9] at Z
   exact aF6 ⟨rfl,v I5 (M _ _ _ Z)⟩
  | true =>
   rw [aC5 rfl] at Z
   refine aF5 (aF5 (aG2 (he _ s5 E H5 _ I5 Z) (fun yv s6 ⟨y,H6,I6,r6,a6,l6,w6⟩=>?_) fun e j z=>(l e j z).elim))
   have ap:=afj (X:=X) _ s6 E H6 (.ref a) [y] (.ref a) [yv] (fun _ H'=>H'=upd H6 a (.lst (ys ++ [y]))) I6 rfl (.cons r6 .nil) ⟨a,ys,y,rfl,rfl,a6,l6,rfl⟩
   refine aF5 (aG2 ap (fun _ P ⟨v7,N,S,_,e7⟩=>?_) fun e j z=>(l e j z).elim)
   subst e7
   exact aF6 (aF6 ⟨rfl,v S (M _ _ _ w6)⟩)
def tLC (src:List (Option Nat)) (wi:TI) (g:TG) (tif:TT) (te:TE):TE:=fun σ H Q=>wi σ H fun J H1=>∀ acc,H1 acc=none->∃ W:LW,(∃ m,W 0 m [] (pick src σ) (upd H1 acc (.lst [])))/\ad8 J g tif te acc (fun _ H'=>Q (.ref acc) H') W
section
variable {X:Cx} {N:List Str} {tg iter elt:Expr} {ifs:List Expr} {sc:Scope} {src:List (Option Nat)} {wi:TI} {g:TG} {tif:TT} {te:TE} {pos:Pos}
theorem atm (hc:X.calm=true) (L:LcOk X N sc src) (hg:∀ C G r ex,PG (X.comp N sc C G r ex) tg g) (O:∀ C G r ex,PIf (X.comp N sc C G r ex) ifs tif) (he:∀ C G r ex,PE (X.comp N sc C G r ex) elt te)
  {pins:List (Addr × Obj)} {d:Shared} {σ:St} {H3:Hp} {Q:VK} (i:Inv X pins σ H3 d) {it a:Addr} {fp:List Addr} {J:It} {tn:Nat->Heap->Prop} (T:Turn X.prog X.w X.K tg J fp it tn) (q:tn 0 d.heap) (j:∀ b∈fp,FpOk X pins H3 b)
  {W:LW} {Z:Nat} (w0:W 0 Z [] (pick src σ) H3) (n:ad8 J g tif te a (fun _ H'=>Q (.ref a) H') W) (use:Option (Value->Sem Unit)) (P:Value->Shared->Prop)
  (hP:∀ C H' f m,Inv X pins σ H' f->Q (.ref a) H'->f.heap.Ns C m->H' C=none->C ≠ X.env.locals->(C∈X.ex\/X.s₀.heap.objs.size<=C)->(∀ x c,X.env.cells.lookup x=some c->c ≠ C)->(∀ p∈X.pn ++ pins,p.1 ≠ C) ->
   compPost (model X.prog X.w) X.A X.xe use P (.ref a) C (.ok .next) f) :
  wpAny (model X.prog X.w) X.A (newFunctionEnv sc X.env.globals (clos X.env sc.names []) [] X.env.qual none .none (some X.env)) (fun h F =>
    codeAny (model X.prog X.w) X.A (.compStart (.ListComp elt [⟨tg,iter,ifs,0⟩] sc pos) 0 (.ref it) (.ref a) { h with scope:=relabel sc X.env }) (compPost (model X.prog X.w) X.A X.xe use P (.ref a) h.locals) F) X.xe d:=by
 refine wpAny_newFunctionEnv L.nocell (by intro y Y;simp at Y) (fun R u B=>?_) L.kind
 have I:∀ b∈fp,b < d.heap.objs.size:=fun b hb=>by
  obtain ⟨o,M,_⟩:=T.obj _ _ q b hb
  exact aF8 M
 have D:∀ b o,d.heap.get? b=some o->R.get? b=some o:=fun b o e=>B.extBut b o (az5 (aF8 e)) (aF7 _ e)
 have H:=aqv (t':=d.toks+([]:List (Str × Value)).length) L i j I (by simpa using u) D
 have E:tn 0 R:=T.keep _ _ _ q fun b _ o e=>D b o e
 have f4:∀ b∈fp,FpOk (X.comp N sc d.heap.objs.size d H3 fp) [] H3 b:=fun b hb =>
  ⟨(j b hb).1,(H.ok.exf b hb).1,H.ok.exfs b hb,.inl hb,(H.ok.exf b hb).2,fun p S=>absurd (show p∈([]:List (Addr × Obj)) from S) (by simp)⟩
 have fin:∀ (ys:List V) s H' f,Inv (X.comp N sc d.heap.objs.size d H3 fp) [] s H' f->Q (.ref a) H'->compPost (model X.prog X.w) X.A X.xe use P (.ref a) d.heap.objs.size (.ok .next) f:=fun ys s H' f l U=>by
  have Jo:Inv X pins σ H' f:=i.call' (ch:=fp) l.os l.base l.hok l.bare fun b hb=>⟨(j b hb).2.2.2.1,(j b hb).2.1,(j b hb).2.2.2.2.1,(j b hb).2.2.2.2.2⟩
  obtain ⟨m,hn,_⟩:=l.loc
  refine hP _ H' f m Jo U hn l.free (Nat.ne_of_gt i.lt) (.inr i.sz) (fun x c e z=>?_) fun p S z=>?_
  ·obtain ⟨v,o,M,_⟩:=i.cell x c e
   exact absurd (aF8 M) (by rw [z];exact aD4 _)
  ·exact absurd (aF8 (i.pin p S).1) (by rw [z];exact aD4 _)
 have loop:codeAny (model X.prog X.w) X.A (.compLoop (.ListComp elt [⟨tg,iter,ifs,0⟩] sc pos) 0 (.ref it) (.ref a) (X.comp N sc d.heap.objs.size d H3 fp).env)
   (compPost (model X.prog X.w) X.A X.xe use P (.ref a) d.heap.objs.size) { d with heap:=R,toks:=d.toks+([]:List (Str × Value)).length } :=
  apc (X:=X.comp N sc d.heap.objs.size d H3 fp) T hc (fun _ _ z=>z) (hg _ _ _ _) (O _ _ _ _) (he _ _ _ _) n fin H E f4 w0
 exact codeAny_compStart_list loop (T.self _ 0 _ _ _ E loop)
theorem aqw (F:X.calm=true) (L:LcOk X N sc src) (hi:PI X tg iter wi) (G:∀ C l i ex,PG (X.comp N sc C l i ex) tg g) (q:∀ C l i ex,PIf (X.comp N sc C l i ex) ifs tif) (U:∀ C l i ex,PE (X.comp N sc C l i ex) elt te)
  {pins:List (Addr × Obj)} {s:Shared} {σ:St} {H:Hp} {Q:VK} (I:Inv X pins σ H s) (h:tLC src wi g tif te σ H Q) (use:Option (Value->Sem Unit)) (P:Value->Shared->Prop)
  (M:∀ f C H' r m,Inv X pins σ H' r->Q (.ref f) H'->r.heap.Ns C m->H' C=none->C ≠ X.env.locals->(C∈X.ex\/X.s₀.heap.objs.size<=C)->(∀ x c,X.env.cells.lookup x=some c->c ≠ C)->(∀ p∈X.pn ++ pins,p.1 ≠ C) ->
   compPost (model X.prog X.w) X.A X.xe use P (.ref f) C (.ok .next) r)
  (hs:∀ x,foldedSetIterable iter X.env x=pure x) :
  wpAny (model X.prog X.w) X.A (comprehension (.ListComp elt [⟨tg,iter,ifs,0⟩] sc pos) sc X.env (firstIterPos [⟨tg,iter,ifs,0⟩] pos) (newList []) false (eval iter X.env) use) P X.xe s:=by
 refine wpAny_comprehension_free rfl hs (L.clo I.ok) L.kind L.own (thn (hi pins s σ H _ I h) fun v s1 K=>thn K fun D s2 S=>?_)
 obtain ⟨it,fp,tn,J,z,e,y,T,j,B,R⟩:=S
 subst e
 have d:z s2.heap.objs.size=none:=y.hok.fresh (ay6 _)
 obtain ⟨W,⟨Y,O⟩,a⟩:=R s2.heap.objs.size d
 have n:∀ b∈fp,b < s2.heap.objs.size:=fun b hb=>by
  obtain ⟨o,E,_⟩:=T.obj _ _ j b hb
  exact aF8 E
 refine aG3 ?_
 refine atm F L G q U (H3:=upd z s2.heap.objs.size (.lst [])) ?_ T ?_ ?_ O a use P (M _)
 ·exact y.laid (t':=s2.toks) (fun b u e=>aF7 _ e) (ay6 _) ⟨aD0 _,[],0,.nil,aF9 _ rfl⟩
 ·exact T.keep _ _ _ j fun b _ o e=>aF7 _ e
 ·exact fun b hb=>⟨by rw [aad (az5 (n b hb))];exact (B b hb).1,(B b hb).2⟩
theorem aek (j:X.calm=true) (L:LcOk X N sc src) (hi:PI X tg iter wi) (l:∀ C c a ex,PG (X.comp N sc C c a ex) tg g) (i:∀ C c a ex,PIf (X.comp N sc C c a ex) ifs tif) (w:∀ C c a ex,PE (X.comp N sc C c a ex) elt te)
  (hs:∀ x,foldedSetIterable iter X.env x=pure x:=by intro _;rfl):PE X (.ListComp elt [⟨tg,iter,ifs,0⟩] sc pos) (tLC src wi g tif te):=by
 intro pins s σ H Q I h
 rw [eval_ListComp]
 refine aqw j L hi l i w I h none _ (fun d C H' v m J q hn p n r f u=>?_) hs
 refine ⟨m,hn,fun h' sb=>⟨.ref d,H',?_,rfl,q⟩⟩
 exact J.turned (t':=v.toks) (fun b o hb e=>sb.extBut b o hb e) p n r f u
end
section
variable {X:Cx} {N:List Str} {tg iter elt:Expr} {ifs:List Expr} {sc:Scope} {src:List (Option Nat)} {wi:TI} {g:TG} {tif:TT} {te:TE} {pos spos px:Pos}
end
section
variable {g:TG} {tif:TT} {te:TE} {acc:Addr} {Qd:List V->Hp->Prop} {σ0:St} {H0:Hp}
theorem aqx {lo:Int} {n:Nat} (c:Nat->List V->St->Hp->Prop) (j:c 0 [] σ0 H0) (ha:∀ i ys σ H,c i ys σ H->H acc=some (.lst ys))
  (hs:∀ i ys σ H,i < n->c i ys σ H->g (.int (lo+i)) σ H fun a H3=>tif a H3 fun b d=>if b=true then te a d fun y f=>f acc=some (.lst ys)/\ys.length < sizeLine/\c (i+1) (ys ++ [y]) a (upd f acc (.lst (ys ++ [y]))) else c (i+1) ys a d)
  (hd:∀ ys σ H,c n ys σ H->Qd ys H):∃ W:LW,(∃ m,W 0 m [] σ0 H0)/\ad8 (Itr lo n) g tif te acc Qd W:=by
 refine ⟨fun i m ys σ H=>m=n - i/\i<=n/\c i ys σ H,⟨n,by simp,aD0 _,j⟩,?_⟩
 rintro i m ys σ H ⟨rfl,hi,p⟩
 refine ⟨ha i ys σ H p,?_⟩
 by_cases hlt:i < n
 ·refine .inr ⟨hlt,c (i+1),fun l o H' h=>⟨n - (i+1),by omega,rfl,hlt,h⟩,fun x H' y=>?_⟩
  obtain ⟨e,y⟩:=y
  subst e y
  exact hs i ys σ _ hlt p
 ·have e:i=n:=by omega
  subst e
  exact .inl ⟨ay6 _,hd ys σ H p⟩
theorem atn {K:Frag} {a:Addr} {xs:List V} (d:Nat->List V->St->Hp->Prop) (l:d 0 [] σ0 H0) (ha:∀ i ys σ H,d i ys σ H->H acc=some (.lst ys)) (n:∀ i ys σ H,i<=xs.length->d i ys σ H->SqL K H a xs)
  (hs:∀ i x ys σ H,xs[i]?=some x->d i ys σ H->g x σ H fun c H3=>tif c H3 fun b f=>if b=true then te c f fun y h=>h acc=some (.lst ys)/\ys.length < sizeLine/\d (i+1) (ys ++ [y]) c (upd h acc (.lst (ys ++ [y]))) else d (i+1) ys c f)
  (hd:∀ ys σ H,d xs.length ys σ H->Qd ys H):∃ W:LW,(∃ m,W 0 m [] σ0 H0)/\ad8 (Itl K a) g tif te acc Qd W:=by
 refine ⟨fun i m ys σ H=>m=xs.length - i/\i<=xs.length/\d i ys σ H,⟨xs.length,by simp,aD0 _,l⟩,?_⟩
 rintro i m ys σ H ⟨rfl,hi,p⟩
 refine ⟨ha i ys σ H p,?_⟩
 have q:=n i ys σ H hi p
 by_cases hlt:i < xs.length
 ·refine .inr ⟨⟨xs,xs[i],q,by simp [hlt]⟩,d (i+1),fun o r H' j=>⟨xs.length - (i+1),by omega,rfl,hlt,j⟩,fun x H' y=>?_⟩
  obtain ⟨e,y⟩:=y
  subst e
  exact hs i x ys σ _ (y xs q) p
 ·have e:i=xs.length:=by omega
  subst e
  exact .inl ⟨⟨xs,q,ay6 _⟩,hd ys σ H p⟩
end
section
variable {X:Cx} {N:List Str} {t1 i1 t2 i2 elt:Expr} {f1 f2:List Expr} {sc:Scope} {src:List (Option Nat)} {wi wi2:TI} {g g2:TG} {tif tif2:TT} {te:TE} {pos:Pos}
end
def rLen (K:Frag):List V->Hp->VK->Prop:=fun xs H Q=>∃ p ys,xs=[.ref p]/\(SqL K H p ys\/SqT K H p ys)/\Q (.int ys.length) H
theorem abn {X:Cx}:aba X (.builtin "len") (rLen X.K):=akj
def ajz:List V->Hp->VK->Prop:=fun xs H Q=>∃ i j,xs=[.int i,.int j]/\Q (.int (if j > i then j else i)) H
def aj0:List V->Hp->VK->Prop:=fun xs H Q=>∃ i j,xs=[.int i,.int j]/\Q (.int (if j < i then j else i)) H
theorem ac7 {X:Cx} (a:X.calm=true):aba X (.builtin "max") ajz:=ao1 a
theorem ac8 {X:Cx} (a:X.calm=true):aba X (.builtin "min") aj0:=ao2 a
def anv:List V->Hp->VK->Prop:=fun xs H Q=>(∃ i,xs=[.int i]/\Q (.int i) H)\/∃ k,xs=[.bl k]/\Q (.int (if k then 1 else 0)) H
theorem anw {X:Cx}:aba X (.type "int") anv:=ao3
section
variable {σ:St} {H:Hp} {D:Ends} {K:Frag}
theorem avu {t u:TS} (h:t { D with nx:=u D } σ H):tSeq t u D σ H:=h
theorem avv {te:TE} {g:TG} (h:te σ H fun x a=>g x σ a D.nx):tAsg te g D σ H:=h
theorem akp {te:TE} (h:te σ H D.rt):tRet te D σ H:=h
theorem ato {te:TE} (h:te σ H fun _ a=>D.nx σ a):ani te D σ H:=h
theorem atp (h:D.nx σ H):anh D σ H:=h
theorem avw {c:TT} {t u:TS} (h:c σ H fun b a=>if b=true then t D σ a else u D σ a):tIfS c t u D σ H:=h
theorem af2 {i:Nat} {v:V} {Q:St->Hp->Prop} (h:Q (σ.set i (some v)) H):ab0 i v σ H Q:=h
theorem atq {to a:TE} {t:TSet} {v:V} {Q:St->Hp->Prop} (h:to σ H fun o c=>a σ c fun i b=>t o i v b fun H3=>Q σ H3):gSub to a t v σ H Q:=h
theorem ab4 {i:Nat} {v:V} {Q:VK} (a : σ[i]?=some (some v)) (h:Q v H):tVar i σ H Q:=⟨v,a,h⟩
theorem go_c {v:V} {Q:VK} (h:Q v H):tC v σ H Q:=h
theorem anx {r:R2} {b a:TE} {Q:VK} (h:b σ H fun x c=>a σ c fun y d=>r x y d Q):tOp r b a σ H Q:=h
theorem atr {t:TE} {Q:Bool->Hp->Prop} (h:t σ H fun x H'=>∃ k,x=.bl k/\Q k H'):anq t σ H Q:=h
theorem anz {t:TE} {Q:Bool->Hp->Prop} (h:t σ H fun x H'=>∃ k,x=.bl k/\Q k H'):tB t σ H Q:=h
theorem af3 {k:Bool} {Q:Bool->Prop} (h:Q k):∃ a,V.bl k=.bl a/\Q a:=⟨k,rfl,h⟩
theorem avx {t u:TT} {Q:Bool->Hp->Prop} (h:t σ H fun c a=>if c=true then u σ a Q else Q false a):tAnd t u σ H Q:=h
theorem abt {a:TE} {tr:TA} {Q:List V->Hp->Prop} (h:a σ H fun x b=>tr σ b fun xs c=>Q (x :: xs) c):abc a tr σ H Q:=h
theorem acs {Q:List V->Hp->Prop} (h:Q [] H):tNil σ H Q:=h
theorem avy {t:TA} {Q:VK} (h:t σ H fun xs a=>xs.length<=sizeLine/\∀ p,a p=none->Q (.ref p) (upd a p (.tup xs))):tTup t σ H Q:=h
theorem af4 {r:List V->Hp->VK->Prop} {t:TA} {Q:VK} (h:t σ H fun vs a=>r vs a Q):tCB r t σ H Q:=h
theorem ah2 {sp:Sp} {E:XK} {t:TA} {Q:VK} (h:t σ H fun vs a=>sp vs a Q E):acd sp [] E t σ H Q:=by
 unfold acd
 simp only [aC1]
 exact h
theorem go_I {C:Int->Int->Prop} {g:Int->Int->V} {i j:Int} {Q:VK} (a:C i j) (h:Q (g i j) H):rI C g (.int i) (.int j) H Q:=⟨i,j,rfl,rfl,a,h⟩
theorem axm {g:Int->Int->V} {i j:Int} {Q:VK} (h:Q (g i j) H):rI0 g (.int i) (.int j) H Q:=⟨i,j,rfl,rfl,h⟩
theorem apd {i j:Int} {Q:VK} (h:Q (.bl (decide (i=j))) H):rEq (.int i) (.int j) H Q:=by
 have e:decide (V.int i=V.int j)=decide (i=j):=by rw [afy];exact Bool.beq_eq_decide_eq i j
 exact ⟨rfl,by rw [e];exact h⟩
theorem avz {i j:Int} {Q:VK} (h:Q (.bl (!decide (i=j))) H):rNe (.int i) (.int j) H Q:=by
 have e:decide (V.int i=V.int j)=decide (i=j):=by rw [afy];exact Bool.beq_eq_decide_eq i j
 exact ⟨rfl,by rw [e];exact h⟩
theorem av0 {i j:Bool} {Q:VK} (h:Q (.bl (decide (i=j))) H):rEq (.bl i) (.bl j) H Q:=by
 have e:decide (V.bl i=V.bl j)=decide (i=j):=by rw [akc];cases i <;> cases j <;> rfl
 exact ⟨rfl,by rw [e];exact h⟩
theorem av1 {a:Addr} {xs:List V} {i:Int} {v:V} {Q:VK} (ha:H a=some (.lst xs)) (b:atI xs i=some v) (h:Q v H):rIxL K (.ref a) (.int i) H Q:=⟨a,xs,i,v,rfl,rfl,SqL.of ha,b,h⟩
theorem av2 {a:Addr} {xs:List V} {i:Int} {v:V} {Q:VK} (ha:H a=some (.tup xs)) (b:atI xs i=some v) (h:Q v H):rIxT K (.ref a) (.int i) H Q:=⟨a,xs,i,v,rfl,rfl,SqT.of ha,b,h⟩
theorem amk {a:Addr} {xs:List V} {k:Int} {j:Nat} {v:V} {Q:Hp->Prop} (ha:H a=some (.lst xs)) (hj:ixN xs.length k=some j) (h:Q (upd H a (.lst (xs.set j v)))):ant (.ref a) (.int k) v H Q:=⟨a,xs,k,j,rfl,rfl,ha,hj,h⟩
theorem aiu {a:Addr} {xs:List V} {y:V} {Q:VK} (ha:H a=some (.lst xs)) (b:xs.length < sizeLine) (h:Q .non (upd H a (.lst (xs ++ [y])))):af0 (.ref a) [y] H Q:=⟨a,xs,y,rfl,rfl,ha,b,h⟩
theorem ape {a b:Addr} {xs c:List V} {Q:VK} (ha:H a=some (.lst xs)) (hb:H b=some (.lst c)) (d:xs.length+c.length<=sizeLine) (h:Q .non (upd H a (.lst (xs ++ c)))):ahz (.ref a) [.ref b] H Q:=⟨a,b,xs,c,rfl,rfl,ha,hb,d,h⟩
theorem av3 {r:V->List V->Hp->VK->Prop} {to:TE} {t:TA} {Q:VK} (h:to σ H fun x a=>tyV K "list" x a/\t σ a fun xs b=>r x xs b Q):tBM K "list" r to t σ H Q:=h
theorem av4 {a b:Addr} {xs c:List V} {Q:VK} (ha:H a=some (.lst xs)) (hb:H b=some (.lst c)) (d:xs.length+c.length<=sizeLine) (h:∀ p,H p=none->Q (.ref p) (upd H p (.lst (xs ++ c)))):rCat (.ref a) (.ref b) H Q:=⟨a,b,xs,c,rfl,rfl,ha,hb,d,h⟩
theorem aml {a:Addr} {xs:List V} {Q:VK} (ha:H a=some (.lst xs)) (h:Q (.int xs.length) H):rLen K [.ref a] H Q:=⟨a,xs,rfl,.inl (SqL.of ha),h⟩
theorem ats {a:Addr} {xs:List V} {Q:VK} (ha:H a=some (.tup xs)) (h:Q (.int xs.length) H):rLen K [.ref a] H Q:=⟨a,xs,rfl,.inr (SqT.of ha),h⟩
theorem amm {i j:Int} {Q:VK} (h:Q (.int (if j > i then j else i)) H):ajz [.int i,.int j] H Q:=⟨i,j,rfl,h⟩
theorem amn {i j:Int} {Q:VK} (h:Q (.int (if j < i then j else i)) H):aj0 [.int i,.int j] H Q:=⟨i,j,rfl,h⟩
theorem att {k:Bool} {Q:VK} (h:Q (.int (if k then 1 else 0)) H):anv [.bl k] H Q:=.inr ⟨k,rfl,h⟩
theorem af5 {c:Prop} [Decidable c] {A B:Prop} (a:c) (h:A):if decide c=true then A else B:=by rw [aB5 a];exact iteT h
theorem ah3 {c:Prop} [Decidable c] {A B:Prop} (a:¬ c) (h:B):if decide c=true then A else B:=by rw [aB4 a];exact iteF h
theorem abo {c:Prop} [Decidable c] {A B:Prop} (b:c->A) (a:¬ c->B):if decide c=true then A else B:=by
 by_cases hc:c
 ·exact af5 hc (b hc)
 ·exact ah3 hc (a hc)
theorem atu {c:Prop} [Decidable c] {A B:Prop} (b:¬ c->A) (a:c->B):if (!decide c)=true then A else B:=by
 by_cases hc:c
 ·rw [aB5 hc];exact iteF (a hc)
 ·rw [aB4 hc];exact iteT (b hc)
theorem at0 {x:V} {xs:List V}:atI (x :: xs) 0=some x:=afz (j:=0) rfl
theorem at1 {x y:V} {xs:List V}:atI (x :: y :: xs) 1=some y:=afz (j:=1) rfl
theorem at2 {x y z:V} {xs:List V}:atI (x :: y :: z :: xs) 2=some z:=afz (j:=2) rfl
theorem ixN0 {n:Nat}:ixN (n+1) 0=some 0:=by unfold ixN;rw [aC5 (by decide),aC5 (by omega)];rfl
theorem ixN1 {n:Nat}:ixN (n+2) 1=some 1:=by unfold ixN;rw [aC5 (by decide),aC5 (by omega)];rfl
theorem ixN2 {n:Nat}:ixN (n+3) 2=some 2:=by unfold ixN;rw [aC5 (by decide),aC5 (by omega)];rfl
end
structure CallOk (P:Program) (w:World) (K:Frag) (mg:Str->Option Value) (base:Heap) (x:Str) (k:Nat) (ps:List Str) (sp:Sp) (f:Addr) (fd:FuncData):Prop where
 ok:FnOk P w K mg base CX0 k f fd ps sp
 mgx:mg x=some (.ref f)
 kp:keepIn K (.ref f)=true
 bd:Binds K fd ps []
def Can (P:Program) (w:World) (K:Frag) (mg:Str->Option Value) (base:Heap) (x:Str) (k:Nat) (ps:List Str) (sp:Sp):Prop:=∃ f fd,CallOk P w K mg base x k ps sp f fd
structure DefAt (K:Frag) (mg:Str->Option Value) (x:Str) (st:Stmt) (ps:List Str) (f:Addr) (fd:FuncData):Prop where
 fn:Fun K x x st f fd
 mgx:mg x=some (.ref f)
 bd:Binds K fd ps []
theorem DefAt.can {P:Program} {w:World} {K:Frag} {mg:Str->Option Value} {base:Heap} {x:Str} {st:Stmt} {k:Nat} {ps:List Str} {sp:Sp} {f:Addr} {fd:FuncData} (D:DefAt K mg x st ps f fd) (ok:FnOk P w K mg base CX0 k f fd ps sp):Can P w K mg base x k ps sp :=
 ⟨f,fd,ok,D.mgx,D.fn.kp,D.bd⟩
section
variable {X:Cx} {k j:Nat} {ps:List Str} {sp:Sp} {x:Str} {p pos:Pos} {e:Expr} {es:List Expr} {t:TA}
theorem aae (F:Can X.prog X.w X.K X.mg X.base x k ps sp) (g:Room j X.A) (ha:PA X (e :: es) t) (hj:k<=j:=by decide) (c:Gl X x:=by rfl) (b:(x == ("__debug__" : Str))=false:=by decide)
  (d:starEach (e :: es) X.env=(false,eval e X.env) :: starEach es X.env:=by rfl) (a:(backTo pos (starEach es X.env)).any (·.1)=false:=by rfl) :
  PE X (.Call (.Name x p) (e :: es) [] pos) (acd sp [] E0 t):=by
 obtain ⟨f,fd,C⟩:=F
 exact atj C.ok (g.mono hj) c C.mgx C.kp C.bd .nil axl ha b d a
end
theorem ac0 {X:Cx} {N:List Str} {sc:Scope} {src:List (Option Nat)} (d:sc.kind=.function) (h:sc.names.all (fun y=>y.2 != .cell)=true) (c:sc.names.all (fun y=>y.2 != .local || sc.names.lookup y.1 == some .local)=true)
  (g:sc.names.all (fun y=>y.2 != .free || X.env.kindOf y.1 == some .cell || X.env.kindOf y.1 == some .free)=true) (f:src.length=N.length)
  (b:(List.range src.length).all (fun i=>match src[i]? with | some (some j)=>(match N[i]?,X.N[j]? with | some x,some y=>x == y && sc.names.lookup x == some .free | _,_=>false) | _=>true)=true):LcOk X N sc src:=by
 refine ⟨d,fun y a e=>?_,fun y a e=>?_,fun y a e=>?_,f,fun i j e=>?_⟩
 ·have:=aC4.mp h y a
  rw [e] at this
  exact absurd this (by decide)
 ·have:=aC4.mp c y a
  rw [e] at this
  simpa using this
 ·have:=aC4.mp g y a
  rw [e] at this
  simpa using this
 ·have hi:i < src.length:=(ay1.mp e).1
  have:=aC4.mp b i (az8.mpr hi)
  rw [e] at this
  dsimp only at this
  cases h7:N[i]? with
  | none=>rw [h7] at this;cases this
  | some x =>
   cases h8:X.N[j]? with
   | none=>rw [h7,h8] at this;cases this
   | some y =>
    rw [h7,h8] at this
    simp only [aE1] at this
    have l:x=y:=by simpa using this.1
    subst l
    exact ⟨x,rfl,rfl,by simpa using this.2⟩
section
variable {σ:St} {H:Hp} {D:Ends} {K:Frag}
def ForW (J:It) (g:TG) (tb:TS) (D:Ends) (σ:St) (H1:Hp):Prop:=∃ W:Nat->Nat->St->Hp->Prop,(∃ m,W 0 m σ H1)/\∀ i m σ H,W i m σ H ->
 (J.stop i H/\D.nx σ H)\/(J.go i H/\∃ N:St->Hp->Prop,(∀ σ' H',N σ' H'->∃ m',m' < m/\W (i+1) m' σ' H')/\∀ x H',J.yld i H x H'->g x σ H' fun σ2 H2=>tb { D with nx:=N,ct:=N,bk:=D.nx } σ2 H2)
theorem av5 {b:TI} {g:TG} {a:TS} (h:b σ H fun J c=>ForW J g a D σ c):tFor b g a D σ H:=h
def LcW (J:It) (g:TG) (tif:TT) (te:TE) (σ0:St) (Q:VK) (H1:Hp):Prop:=∀ acc,H1 acc=none->∃ W:LW,(∃ m,W 0 m [] σ0 (upd H1 acc (.lst [])))/\ad8 J g tif te acc (fun _ H'=>Q (.ref acc) H') W
theorem an0 {src:List (Option Nat)} {b:TI} {g:TG} {a:TT} {te:TE} {Q:VK} (h:b σ H fun J c=>LcW J g a te (pick src σ) Q c):tLC src b g a te σ H Q:=h
def as4 (R:It->Hp->Prop):List V->Hp->Prop:=fun vs H1=>∃ j:Int,vs=[.int j]/\-(2 ^ 62)<=j/\j < 2 ^ 62/\R (Itr 0 j.toNat) H1
theorem aqy {a:TA} {R:It->Hp->Prop} (h:a σ H (as4 R)):ann a σ H R:=h
theorem amo {R:It->Hp->Prop} {j:Int} (b:0<=j) (a:j < 2 ^ 62) (h:R (Itr 0 j.toNat) H):as4 R [.int j] H:=⟨j,rfl,by omega,a,h⟩
def rItL (K:Frag) (R:It->Hp->Prop):VK:=fun x H1=>∃ a,x=.ref a/\(∃ xs,SqL K H1 a xs)/\R (Itl K a) H1
theorem aqz {tl:TE} {R:It->Hp->Prop} (h:tl σ H (rItL K R)):anm K tl σ H R:=h
theorem av6 {R:It->Hp->Prop} {a:Addr} {xs:List V} (ha:H a=some (.lst xs)) (h:R (Itl K a) H):rItL K R (.ref a) H:=⟨a,rfl,⟨xs,SqL.of ha⟩,h⟩
def rItT (K:Frag) (R:It->Hp->Prop):VK:=fun x H1=>∃ a,x=.ref a/\(∃ xs,SqT K H1 a xs)/\R (Itt K a) H1
theorem atv {tl:TE} {R:It->Hp->Prop} (h:tl σ H (rItT K R)):iTup K tl σ H R:=h
theorem av7 {R:It->Hp->Prop} {a:Addr} {xs:List V} (ha:H a=some (.tup xs)) (h:R (Itt K a) H):rItT K R (.ref a) H:=⟨a,rfl,⟨xs,SqT.of ha⟩,h⟩
theorem av8 {a:Addr} {xs:List V} {i:Int} {v:V} {Q:VK} (ha:SqL K H a xs) (b:atI xs i=some v) (h:Q v H):rIxL K (.ref a) (.int i) H Q:=⟨a,xs,i,v,rfl,rfl,ha,b,h⟩
theorem amp {a:Addr} {xs:List V} {Q:VK} (ha:SqL K H a xs) (h:Q (.int xs.length) H):rLen K [.ref a] H Q:=⟨a,xs,rfl,.inl ha,h⟩
theorem av9 {a:Addr} {xs:List V} {R:Prop} (ha:H a=some (.lst xs)) (h:R):tyV K "list" (.ref a) H/\R:=⟨.inl ⟨rfl,_,SqL.of ha⟩,h⟩
theorem ag8 {Q:Bool->Hp->Prop} (h:Q true H):tYes σ H Q:=h
theorem aq0 {a:Addr} {xs:List V} {i:Int} {k:Nat} {y:V} {Q:VK} (ha:H a=some (.lst xs)) (f : -(2 ^ 63)<=i) (d:i < 2 ^ 63) (c:seqIndex? i xs.length=some k) (b:xs[k]?=some y) (h:Q y (upd H a (.lst (xs.eraseIdx k)))):akl (.ref a) [.int i] H Q :=
 ⟨a,xs,i,k,y,rfl,rfl,ha,f,d,c,b,h⟩
end
end L2
namespace L2
open PySem
theorem acf:bootBuiltins "len" = some (.builtin "len"):=by decide +kernel
theorem aev:bootBuiltins "max" = some (.builtin "max"):=by decide +kernel
theorem aew:bootBuiltins "min" = some (.builtin "min"):=by decide +kernel
theorem apf:bootBuiltins "sum" = some (.builtin "sum"):=by decide +kernel
theorem afl:bootBuiltins "sorted" = some (.builtin "sorted"):=by decide +kernel
theorem aa0:bootBuiltins "isinstance" = some (.builtin "isinstance"):=by decide +kernel
theorem apg:bootBuiltins "all" = some (.builtin "all"):=by decide +kernel
theorem akq:bootBuiltins "int" = some (.type "int"):=by decide +kernel
theorem aex:bootBuiltins "list" = some (.type "list"):=by decide +kernel
theorem atw:bootBuiltins "dict" = some (.type "dict"):=by decide +kernel
theorem acw:bootBuiltins "tuple" = some (.type "tuple"):=by decide +kernel
theorem ah4:bootBuiltins "bool" = some (.type "bool"):=by decide +kernel
end L2
namespace TS
open PySem PyProof.Rows
def ah5:Bool->Keyed->Array Keyed->Nat->Nat->Nat->StateT SortSt Sem (Option Nat):=sortPriv% PySem.Builtin.gallop
def aq1:Array Keyed->Array Keyed->StateT SortSt Sem (Array Keyed):=sortPriv% PySem.Builtin.mergeLo
def aq2:Array Keyed->Array Keyed->StateT SortSt Sem (Array Keyed):=sortPriv% PySem.Builtin.mergeHi
def akr:Nat->StateT SortSt Sem Bool:=sortPriv% PySem.Builtin.mergeAt
def atx:Nat->Nat->StateT SortSt Sem (Option Nat):=sortPriv% PySem.Builtin.countRun
def aq3:Nat->Nat->Nat->StateT SortSt Sem Bool:=sortPriv% PySem.Builtin.binarySort
def axn:StateT SortSt Sem Unit:=sortPriv% PySem.Builtin.sortRuns
structure Cmp (M:Model) (A:Around) (E:Value->Shared->Prop) (s:Shared) (κ:SortKind) (S:Keyed->Prop) (R:Keyed->Keyed->Bool):Prop where
 ask:∀ x y,S x->S y->∀ (Q:Option Bool->SortSt->Prop) (st:SortSt),kindOf st = κ->Q (some (R x y)) st->wpS M A E s (lt' x y) Q st
 asy:∀ x y,S x->S y->R x y=true->R y x=false
 tr:∀ x y z,S x->S y->S z->R y x=false->R z y=false->R z x=false
section
variable {M:Model} {A:Around} {E:Value->Shared->Prop} {s:Shared} {κ:SortKind} {S:Keyed->Prop} {R:Keyed->Keyed->Bool}
theorem aaw {arr:Array Keyed} {i:Nat} {x:Keyed} {Q:Keyed->SortSt->Prop} {st:SortSt} (a:arr[i]?=some x) (h:Q x st):wpS M A E s (elem' arr i) Q st:=by
 rw [elem'_eq,a]
 exact wpS_pure h
theorem adh {x:String} {Q:Unit->SortSt->Prop} {st:SortSt} (h:Q () st):wpS M A E s (liftM (PySem.rule x):StateT SortSt Sem Unit) Q st :=
 wpS_lift (wpAny_rule ⟨rfl,h⟩)
def bey (left:Bool) (key:Keyed) (arr:Array Keyed) (base i:Nat):StateT SortSt Sem (Option Bool):=do
 let x ← elem' arr (base+i)
 if left=true then lt' x key else do
  let r ← lt' key x
  pure (Option.map (fun b => !b) r)
theorem aiv {left:Bool} {p:Keyed} {arr:Array Keyed} {base n a:Nat} {B:Nat->Bool}
  (hb:∀ i,i < n->∀ (Q:Option Bool->SortSt->Prop) (st:SortSt),kindOf st = κ->Q (some (B i)) st->wpS M A E s (bey left p arr base i) Q st)
  (mono:∀ i j,i < j->j < n->B j=true->B i=true) (hh:a < n) {Q:Option Nat->SortSt->Prop} {st:SortSt} (x:kindOf st = κ)
  (h:∀ k,k<=n->(∀ i,i < k->B i=true)->(∀ i,k<=i->i < n->B i=false)->Q (some k) st):wpS M A E s (ah5 left p arr base n a) Q st:=by
 have c:∀ i j,i < j->j < n->B i=false->B j=false:=fun i j y hj hi=>by
  cases e:B j with
  | false=>rfl
  | true=>rw [mono i j y hj e] at hi;cases hi
 -- the last loop
 have last:∀ (lo hi:Nat) (F:Option (Option Nat) × Nat × Nat->StateT SortSt Sem (Option Nat)),lo<=hi->hi<=n->(∀ i,i < lo->B i=true)->(∀ i,hi<=i->i < n->B i=false) ->
   (∀ lo hi,F (none,lo,hi)=pure (some hi)) ->
   wpS M A E s (forIn [:n] ((none,lo,hi):Option (Option Nat) × Nat × Nat) (fun (_:Nat) z=>if z.2.1 ≥ z.2.2 then pure (ForInStep.done (none,z.2.1,z.2.2)) else bey left p arr base (z.2.1+(z.2.2 - z.2.1) / 2) >>= fun r=>match r with
    | some more=>if more=true then pure (ForInStep.yield (none,z.2.1+(z.2.2 - z.2.1) / 2+1,z.2.2)) else pure (ForInStep.yield (none,z.2.1,z.2.1+(z.2.2 - z.2.1) / 2))
    | _=>pure (ForInStep.done (some none,z.2.1,z.2.2))) >>= F) Q st:=by
  intro lo hi F H K G I C
  refine wpS_bind (wpS_forRange (fun t z st'=>st'=st/\z.1=none/\z.2.1<=z.2.2/\z.2.2<=n/\z.2.2 - z.2.1+t<=n/\(∀ i,i < z.2.1->B i=true)/\(∀ i,z.2.2<=i->i < n->B i=false)) ?_ ?_ ⟨rfl,rfl,H,K,by dsimp only;omega,G,I⟩)
  ·rintro t ⟨o,l,u⟩ st' _ D ⟨rfl,e,q,d,b,g,w⟩
   dsimp only at e q d b g w ⊢
   subst e
   by_cases hlu:l ≥ u
   ·rw [aC5 hlu]
    have:l=u:=by omega
    subst this
    exact wpS_pure (by dsimp only;rw [C];exact wpS_pure (h l d g w))
   ·rw [aC6 hlu]
    have hm:l+(u - l) / 2 < u:=by omega
    refine wpS_bind (hb _ (by omega) _ _ x ?_)
    dsimp only
    cases e:B (l+(u - l) / 2) with
    | true =>
     rw [aC5 rfl]
     refine wpS_pure ⟨rfl,rfl,by dsimp only;omega,d,by dsimp only;omega,fun i hi=>?_,w⟩
     dsimp only at hi
     by_cases hi2:i=l+(u - l) / 2
     ·rw [hi2];exact e
     ·exact mono i _ (by omega) (by omega) e
    | false =>
     rw [aC6 (by simp)]
     refine wpS_pure ⟨rfl,rfl,by dsimp only;omega,by dsimp only;omega,by dsimp only;omega,g,fun i hi hn=>?_⟩
     dsimp only at hi
     by_cases hi2:i=l+(u - l) / 2
     ·rw [hi2];exact e
     ·exact c _ i (by omega) hn e
  ·rintro ⟨o,l,u⟩ st' ⟨rfl,e,q,d,b,g,w⟩
   dsimp only at e q d b g w ⊢
   subst e
   have : l = u := by have:n ≤ max 0 n := by omega
                      omega
   subst this
   rw [C]
   exact wpS_pure (h l d g w)
 refine wpS_bind (f:=fun J=>_) (m:=bey left p arr base a) (hb a hh _ st x ?_)
 dsimp only
 cases e0:B a with
 | true =>
  rw [aC5 rfl]
  refine wpS_bind ?_
  refine wpS_forRange (fun t (z:Option (Option Nat) × Nat × Nat) st'=>st'=st/\z.1=none/\z.2.1 < z.2.2/\a+z.2.1 < n/\B (a+z.2.1)=true/\t+1<=z.2.2) ?_ ?_ ⟨rfl,rfl,by decide,by dsimp only;omega,e0,Nat.le_refl _⟩
  ·rintro t ⟨o,l,u⟩ st' _ D ⟨rfl,e,q,d,b,g⟩
   dsimp only at e q d b g ⊢
   subst e
   by_cases hu:u ≥ n - a
   ·rw [aC5 hu]
    refine wpS_pure ?_
    dsimp only
    refine last _ _ _ (by omega) (by omega) (fun i hi=>?_) (fun i hi hn=>by omega) (fun _ _=>rfl)
    by_cases hi2:i=a+l
    ·rw [hi2];exact b
    ·exact mono i _ (by omega) d b
   ·rw [aC6 hu]
    refine wpS_bind (m:=bey left p arr base (a+u)) (hb _ (by omega) _ _ x ?_)
    dsimp only
    cases e1:B (a+u) with
    | true =>
     rw [aC6 (by decide)]
     exact wpS_pure ⟨rfl,rfl,by dsimp only;omega,by dsimp only;omega,e1,by dsimp only;omega⟩
    | false =>
     rw [aC5 (by decide)]
     refine wpS_pure ?_
     dsimp only
     refine last _ _ _ (by omega) (by omega) (fun i hi=>?_) (fun i hi hn=>?_) (fun _ _=>rfl)
     ·by_cases hi2:i=a+l
      ·rw [hi2];exact b
      ·exact mono i _ (by omega) d b
     ·by_cases hi2:i=a+u
      ·rw [hi2];exact e1
      ·exact c _ i (by omega) hn e1
  ·rintro ⟨o,l,u⟩ st' ⟨rfl,e,q,d,b,g⟩
   dsimp only at e q d b g ⊢
   subst e
   dsimp only
   refine last _ _ _ (by omega) (by omega) (fun i hi=>?_) (fun i hi hn=>by omega) (fun _ _=>rfl)
   by_cases hi2:i=a+l
   ·rw [hi2];exact b
   ·exact mono i _ (by omega) d b
 | false =>
  rw [aC6 (by decide)]
  refine wpS_bind ?_
  refine wpS_forRange (fun t (z:Option (Option Nat) × Nat × Nat) st'=>st'=st/\z.1=none/\z.2.1 < z.2.2/\z.2.1<=a/\B (a - z.2.1)=false/\t+1<=z.2.2) ?_ ?_ ⟨rfl,rfl,by decide,aD0 _,e0,ay6 _⟩
  ·rintro t ⟨o,l,u⟩ st' _ D ⟨rfl,e,q,d,b,g⟩
   dsimp only at e q d b g ⊢
   subst e
   have v:∀ i,a - l<=i->i < n->B i=false:=fun i hi hn=>by
    by_cases hi2:i=a - l
    ·rw [hi2];exact b
    ·exact c _ i (by omega) hn b
   by_cases hu:u ≥ a+1
   ·rw [aC5 hu]
    refine wpS_pure ?_
    dsimp only
    exact last _ _ _ (by omega) (by omega) (fun i hi=>by omega) v (fun _ _=>rfl)
   ·rw [aC6 hu]
    refine wpS_bind (m:=bey left p arr base (a - u)) (hb _ (by omega) _ _ x ?_)
    dsimp only
    cases e1:B (a - u) with
    | true =>
     rw [aC5 rfl]
     refine wpS_pure ?_
     dsimp only
     refine last _ _ _ (by omega) (by omega) (fun i hi=>?_) v (fun _ _=>rfl)
     by_cases hi2:i=a - u
     ·rw [hi2];exact e1
     ·exact mono i _ (by omega) (by omega) e1
    | false =>
     rw [aC6 (by decide)]
     exact wpS_pure ⟨rfl,rfl,by dsimp only;omega,by dsimp only;omega,e1,by dsimp only;omega⟩
  ·rintro ⟨o,l,u⟩ st' ⟨rfl,e,q,d,b,g⟩
   dsimp only at e q d b g ⊢
   subst e
   dsimp only
   refine last _ _ _ (by omega) (by omega) (fun i hi=>by omega) (fun i hi hn=>?_) (fun _ _=>rfl)
   by_cases hi2:i=a - l
   ·rw [hi2];exact b
   ·exact c _ i (by omega) hn b
end
def Srt (R:Keyed->Keyed->Bool) (l:List Keyed):Prop:=l.Pairwise fun x y=>R y x=false
structure Mid (R:Keyed->Keyed->Bool) (L out a b:List Keyed):Prop where
 perm:(out ++ a ++ b).Perm L
 so:Srt R out
 le:∀ x∈out,∀ y∈a ++ b,R y x=false
 sa:Srt R a
 sb:Srt R b
section
variable {R:Keyed->Keyed->Bool} {L out a b p:List Keyed}
theorem Mid.takeA (m:Mid R L out (p ++ a) b) (h:∀ x∈p,∀ y∈b,R y x=false):Mid R L (out ++ p) a b:=by
 have sp:=aA8.mp m.sa
 refine ⟨by have:=m.perm;rw [← az3] at this;exact this,aA8.mpr ⟨m.so,sp.1,fun x d y c=>m.le x d y (aA6 _ (aA6 _ c))⟩,fun x d y c=>?_,sp.2.1,m.sb⟩
 rcases ay7.mp d with d | d
 ·refine m.le x d y ?_
  rcases ay7.mp c with c | c
  ·exact aA6 _ (az2 _ c)
  ·exact az2 _ c
 ·rcases ay7.mp c with c | c
  ·exact sp.2.2 x d y c
  ·exact h x d y c
theorem Mid.takeB (m:Mid R L out a (p ++ b)) (h:∀ x∈p,∀ y∈a,R y x=false):Mid R L (out ++ p) a b:=by
 have sp:=aA8.mp m.sb
 refine ⟨List.Perm.trans ?_ m.perm,aA8.mpr ⟨m.so,sp.1,fun x d y c=>m.le x d y (az2 _ (aA6 _ c))⟩,fun x d y c=>?_,m.sa,sp.2.1⟩
 ·rw [← az3 (out ++ a) p b]
  refine List.Perm.append_right b ?_
  rw [az3,az3]
  exact List.Perm.append_left out List.perm_append_comm
 ·rcases ay7.mp d with d | d
  ·refine m.le x d y ?_
   rcases ay7.mp c with c | c
   ·exact aA6 _ c
   ·exact az2 _ (az2 _ c)
  ·rcases ay7.mp c with c | c
   ·exact h x d y c
   ·exact sp.2.2 x d y c
theorem Mid.done (m:Mid R L out a b) (h:a=[]\/b=[]):(out ++ a ++ b).Perm L/\Srt R (out ++ a ++ b):=by
 refine ⟨m.perm,?_⟩
 rw [az3]
 refine aA8.mpr ⟨m.so,?_,m.le⟩
 rcases h with h | h
 ·subst h;exact m.sb
 ·subst h;rw [aC1];exact m.sa
theorem Mid.last (m:Mid R L out a b) (h:∀ y∈b,∀ x∈a,R x y=false):(out ++ b ++ a).Perm L/\Srt R (out ++ b ++ a):=by
 refine ⟨List.Perm.trans ?_ m.perm,?_⟩
 ·rw [az3,az3]
  exact List.Perm.append_left out List.perm_append_comm
 ·rw [az3]
  refine aA8.mpr ⟨m.so,aA8.mpr ⟨m.sb,m.sa,h⟩,fun x d y c=>m.le x d y ?_⟩
  rcases ay7.mp c with c | c
  ·exact az2 _ c
  ·exact aA6 _ c
end
structure Eqv (st st':SortSt):Prop where
 k:kindOf st'=kindOf st
 a:arrOf st'=arrOf st
 p:pendingOf st'=pendingOf st
 f:failedOf st'=failedOf st
theorem Eqv.refl (st:SortSt):Eqv st st:=⟨rfl,rfl,rfl,rfl⟩
theorem Eqv.trans {a b c:SortSt} (h:Eqv a b) (g:Eqv b c):Eqv a c:=⟨g.k.trans h.k,g.a.trans h.a,g.p.trans h.p,g.f.trans h.f⟩
theorem af6 (a:Array Keyed) (i:Nat):(a.extract i a.size).toList=a.toList.drop i:=by
 rw [Array.toList_extract];simp only [List.extract_eq_take_drop];exact aC2 (by simp)
theorem ah6 (a:Array Keyed) (i k:Nat):(a.extract i (i+k)).toList=(a.toList.drop i).take k:=by
 rw [Array.toList_extract];simp [List.extract]
theorem abg {a:Array Keyed} {i:Nat} (h:i < a.size):a.toList.drop i=a[i] :: a.toList.drop (i+1):=by
 rw [List.drop_eq_getElem_cons (by simpa using h)];simp
section
variable {M:Model} {A:Around} {E:Value->Shared->Prop} {s:Shared} {κ:SortKind} {S:Keyed->Prop} {R:Keyed->Keyed->Bool}
theorem Cmp.irr {x:Keyed} (C:Cmp M A E s κ S R) (a:S x):R x x=false:=by
 cases e:R x x with
 | false=>rfl
 | true=>have:=C.asy x x a a e;rw [e] at this;cases this
theorem afm (C:Cmp M A E s κ S R) {a:Keyed} {arr:Array Keyed} {base n l:Nat} (g:S a) (O:∀ x∈arr.toList,S x) (hn:base+n<=arr.size) (hs:Srt R ((arr.toList.drop base).take n)) (hh:l < n)
  {Q:Option Nat->SortSt->Prop} {st:SortSt} (H:kindOf st = κ)
  (h:∀ k,k<=n->(∀ x∈(arr.toList.drop base).take k,R a x=false)->(∀ x∈((arr.toList.drop base).take n).drop k,R a x=true)->Q (some k) st) :
  wpS M A E s (ah5 false a arr base n l) Q st:=by
 have b:∀ i,i < n->∃ x,arr[base+i]?=some x/\S x/\((arr.toList.drop base).take n)[i]?=some x:=fun i hi=>by
  have p:base+i < arr.size:=by omega
  refine ⟨arr[base+i],ay4 p,O _ (by simp),?_⟩
  rw [aE4 hi,aF0]
  simp [p]
 have m:∀ i j x y,i < j->j < n->arr[base+i]?=some x->arr[base+j]?=some y->R y x=false:=fun i j x y o hj ex J=>by
  obtain ⟨U,d,_,c⟩:=b i (by omega)
  obtain ⟨W,F,_,v⟩:=b j hj
  rw [ex] at d;cases d
  rw [J] at F;cases F
  obtain ⟨I,c⟩:=ay1.mp c
  obtain ⟨P,v⟩:=ay1.mp v
  have:=aD7.mp hs i j I P o
  rw [c,v] at this
  exact this
 refine aiv (κ:=κ) (B:=fun i=>match arr[base+i]? with | some x => !(R a x) | none=>false) (fun i hi X st' u D=>?_) (fun i j o hj q=>?_) hh H fun k r N T=>h k r (fun x w=>?_) fun x w=>?_
 ·obtain ⟨x,d,z,_⟩:=b i hi
  unfold bey
  refine wpS_bind (aaw d ?_)
  rw [aC6 (by decide)]
  refine wpS_bind (C.ask _ _ g z _ _ u ?_)
  refine wpS_pure ?_
  simp only [d] at D
  exact D
 ·obtain ⟨x,d,z,_⟩:=b i (by omega)
  obtain ⟨y,c,K,_⟩:=b j hj
  simp only [d,c] at q ⊢
  have G:=m i j x y o hj d c
  have L:R a y=false:=by simpa using q
  have:=C.tr x y a z K g G L
  simp [this]
 ·obtain ⟨i,hi,e⟩:=List.getElem_of_mem w
  have f:i < k:=by rw [aE0] at hi;omega
  obtain ⟨y,d,_,c⟩:=b i (by omega)
  have hb:=N i f
  simp only [d] at hb
  have ex:x=y:=by
   have:((arr.toList.drop base).take k)[i]?=some x:=by rw [ay0 hi,e]
   rw [aE4 f] at this
   rw [aE4 (by omega)] at c
   rw [this] at c;exact aA5 c
  subst ex
  simpa using hb
 ·obtain ⟨i,hi,e⟩:=List.getElem_of_mem w
  have f:k+i < n:=by rw [List.length_drop,aE0] at hi;omega
  obtain ⟨y,d,_,c⟩:=b (k+i) f
  have hb:=T (k+i) (by omega) f
  simp only [d] at hb
  have ex:x=y:=by
   have:(((arr.toList.drop base).take n).drop k)[i]?=some x:=by rw [ay0 hi,e]
   rw [aF0] at this
   rw [this] at c;exact aA5 c
  subst ex
  simpa using hb
theorem agp (C:Cmp M A E s κ S R) {a:Keyed} {arr:Array Keyed} {base n l:Nat} (g:S a) (N:∀ x∈arr.toList,S x) (hn:base+n<=arr.size) (hs:Srt R ((arr.toList.drop base).take n)) (hh:l < n)
  {Q:Option Nat->SortSt->Prop} {st:SortSt} (H:kindOf st = κ)
  (h:∀ k,k<=n->(∀ x∈(arr.toList.drop base).take k,R x a=true)->(∀ x∈((arr.toList.drop base).take n).drop k,R x a=false)->Q (some k) st) :
  wpS M A E s (ah5 true a arr base n l) Q st:=by
 have b:∀ i,i < n->∃ x,arr[base+i]?=some x/\S x/\((arr.toList.drop base).take n)[i]?=some x:=fun i hi=>by
  have q:base+i < arr.size:=by omega
  refine ⟨arr[base+i],ay4 q,N _ (by simp),?_⟩
  rw [aE4 hi,aF0]
  simp [q]
 have m:∀ i j x y,i < j->j < n->arr[base+i]?=some x->arr[base+j]?=some y->R y x=false:=fun i j x y p hj ex J=>by
  obtain ⟨T,d,_,c⟩:=b i (by omega)
  obtain ⟨U,F,_,v⟩:=b j hj
  rw [ex] at d;cases d
  rw [J] at F;cases F
  obtain ⟨I,c⟩:=ay1.mp c
  obtain ⟨O,v⟩:=ay1.mp v
  have:=aD7.mp hs i j I O p
  rw [c,v] at this
  exact this
 refine aiv (κ:=κ) (B:=fun i=>match arr[base+i]? with | some x=>R x a | none=>false) (fun i hi W st' u D=>?_) (fun i j p hj o=>?_) hh H fun k r L P=>h k r (fun x w=>?_) fun x w=>?_
 ·obtain ⟨x,d,z,_⟩:=b i hi
  unfold bey
  refine wpS_bind (aaw d ?_)
  rw [aC5 rfl]
  simp only [d] at D
  exact C.ask _ _ z g _ _ u D
 ·obtain ⟨x,d,z,_⟩:=b i (by omega)
  obtain ⟨y,c,K,_⟩:=b j hj
  simp only [d,c] at o ⊢
  have G:=m i j x y p hj d c
  cases e:R x a with
  | true=>rfl
  | false =>
   have:=C.tr a x y g z K e G
   rw [this] at o;cases o
 ·obtain ⟨i,hi,e⟩:=List.getElem_of_mem w
  have f:i < k:=by rw [aE0] at hi;omega
  obtain ⟨y,d,_,c⟩:=b i (by omega)
  have hb:=L i f
  simp only [d] at hb
  have ex:x=y:=by
   have:((arr.toList.drop base).take k)[i]?=some x:=by rw [ay0 hi,e]
   rw [aE4 f] at this
   rw [aE4 (by omega)] at c
   rw [this] at c;exact aA5 c
  subst ex
  exact hb
 ·obtain ⟨i,hi,e⟩:=List.getElem_of_mem w
  have f:k+i < n:=by rw [List.length_drop,aE0] at hi;omega
  obtain ⟨y,d,_,c⟩:=b (k+i) f
  have hb:=P (k+i) (by omega) f
  simp only [d] at hb
  have ex:x=y:=by
   have:(((arr.toList.drop base).take n).drop k)[i]?=some x:=by rw [ay0 hi,e]
   rw [aF0] at this
   rw [this] at c;exact aA5 c
  subst ex
  exact hb
end
section
variable {M:Model} {A:Around} {E:Value->Shared->Prop} {s:Shared} {κ:SortKind} {S:Keyed->Prop} {R:Keyed->Keyed->Bool}
structure Two (S:Keyed->Prop) (R:Keyed->Keyed->Bool) (a b:Array Keyed):Prop where
 ha:∀ x∈a.toList,S x
 hb:∀ x∈b.toList,S x
 sa:Srt R a.toList
 sb:Srt R b.toList
 a0:0 < a.size
 b0:0 < b.size
 first:∀ x∈a.toList,∀ y,b[0]?=some y->R x y=false
 last:∀ y∈b.toList,∀ x,a[a.size - 1]?=some x->R x y=false
def Fin2 (R:Keyed->Keyed->Bool) (a b m:Array Keyed):Prop:=m.toList.Perm (a.toList ++ b.toList)/\Srt R m.toList
structure Lo (S:Keyed->Prop) (R:Keyed->Keyed->Bool) (a b out:Array Keyed) (ia ib:Nat):Prop where
 mid:Mid R (a.toList ++ b.toList) out.toList (a.toList.drop ia) (b.toList.drop ib)
 ia:ia<=a.size
 ib:ib<=b.size
theorem Lo.len {a b out:Array Keyed} {ia ib:Nat} (l:Lo S R a b out ia ib):out.size+(a.size - ia)+(b.size - ib)=a.size+b.size:=by
 have:=l.mid.perm.length_eq
 simp at this
 omega
theorem Lo.doneA {a b out:Array Keyed} {ia ib:Nat} (l:Lo S R a b out ia ib) (h:ib=b.size\/ia=a.size):Fin2 R a b (out ++ a.extract ia ++ b.extract ib):=by
 have:=l.mid.done (by
  rcases h with h | h
  ·right;rw [h];simp
  ·left;rw [h];simp)
 unfold Fin2
 rw [aD6,aD6,af6,af6]
 exact this
theorem aph {a:Array Keyed} {i:Nat} (h:i+1=a.size):a.toList.drop i=[a[a.size - 1]'(by omega)]:=by
 have hi:i < a.size:=by omega
 rw [abg hi]
 have:i=a.size - 1:=by omega
 subst this
 have e:a.toList.drop (a.size - 1+1)=[]:=by
  apply List.drop_eq_nil_of_le
  simp;omega
 rw [e]
theorem Lo.lastA {a b out:Array Keyed} {ia ib:Nat} (T:Two S R a b) (l:Lo S R a b out ia ib) (h:ia+1=a.size):Fin2 R a b (out ++ b.extract ib ++ a.extract ia):=by
 have:=l.mid.last (by
  intro y d x c
  rw [aph h] at c
  have ex:x=a[a.size - 1]'(by omega):=by simpa using c
  refine T.last y (aA3 d) x ?_
  rw [ex]
  exact ay4 _)
 unfold Fin2
 rw [aD6,aD6,af6,af6]
 exact this
theorem ad9 {x:Keyed} {l:List Keyed} (C:Cmp M A E s κ S R) (h:Srt R (x :: l)) (b:S x):∀ y∈x :: l,R y x=false:=by
 intro y a
 rcases ay8.mp a with e | a
 ·rw [e];exact C.irr b
 ·exact (aF2.mp h).1 y a
theorem Lo.pushB {a b out:Array Keyed} {ia ib:Nat} (C:Cmp M A E s κ S R) (T:Two S R a b) (l:Lo S R a b out ia ib) (hb:ib < b.size) (h:∀ x∈a.toList.drop ia,R x b[ib]=false):Lo S R a b (out.push b[ib]) ia (ib+1):=by
 refine ⟨?_,l.ia,hb⟩
 have m:=l.mid
 rw [abg hb] at m
 rw [Array.toList_push]
 exact m.takeB (p:=[b[ib]]) (fun x d y c=>by
  have:x=b[ib]:=by simpa using d
  rw [this];exact h y c)
theorem Lo.pushA {a b out:Array Keyed} {ia ib:Nat} (l:Lo S R a b out ia ib) (ha:ia < a.size) (h:∀ y∈b.toList.drop ib,R y a[ia]=false):Lo S R a b (out.push a[ia]) (ia+1) ib:=by
 refine ⟨?_,ha,l.ib⟩
 have m:=l.mid
 rw [abg ha] at m
 rw [Array.toList_push]
 exact m.takeA (p:=[a[ia]]) (fun x d y c=>by
  have:x=a[ia]:=by simpa using d
  rw [this];exact h y c)
theorem Lo.runA {a b out:Array Keyed} {ia ib k:Nat} (l:Lo S R a b out ia ib) (d:ia+k<=a.size) (h:∀ x∈(a.toList.drop ia).take k,∀ y∈b.toList.drop ib,R y x=false):Lo S R a b (out ++ a.extract ia (ia+k)) (ia+k) ib:=by
 refine ⟨?_,d,l.ib⟩
 have m:=l.mid
 rw [← aA0 k (a.toList.drop ia)] at m
 rw [aD6,ah6]
 have c:=m.takeA h
 rw [List.drop_drop] at c
 exact c
theorem Lo.runB {a b out:Array Keyed} {ia ib k:Nat} (l:Lo S R a b out ia ib) (d:ib+k<=b.size) (h:∀ x∈(b.toList.drop ib).take k,∀ y∈a.toList.drop ia,R y x=false):Lo S R a b (out ++ b.extract ib (ib+k)) ia (ib+k):=by
 refine ⟨?_,l.ia,d⟩
 have m:=l.mid
 rw [← aA0 k (b.toList.drop ib)] at m
 rw [aD6,ah6]
 have c:=m.takeB h
 rw [List.drop_drop] at c
 exact c
theorem acp {l:List Keyed} {i:Nat} (h:Srt R l):Srt R (l.drop i):=List.Pairwise.sublist (List.drop_sublist i l) h
theorem jpn {α β:Type} {prog : β->StateT SortSt Sem α} {P : β->Prop} {Q : α->SortSt->Prop} {st:SortSt} {G:Prop} (use:(∀ m,P m->wpS M A E s (prog m) Q st)->G) (a:∀ m,P m->wpS M A E s (prog m) Q st):G:=use a
theorem jpn2 {α:Type} {prog:Array Keyed->Nat->StateT SortSt Sem α} {P:Array Keyed->Nat->Prop} {Q : α->SortSt->Prop} {st:SortSt} {G:Prop} (use:(∀ o i,P o i->wpS M A E s (prog o i) Q st)->G) (a:∀ o i,P o i->wpS M A E s (prog o i) Q st):G:=use a
section
variable {ρ β γ δ ε ζ η:Type}
@[elab_as_elim] theorem un5 {J : β->γ->δ->ε->Prop} {G:Option ρ × β × γ × δ × ε->Prop} (z:Option ρ × β × γ × δ × ε) (h:z.1=none/\J z.2.1 z.2.2.1 z.2.2.2.1 z.2.2.2.2) (k:∀ x y u v,J x y u v->G (none,x,y,u,v)):G z:=by
 have e:z=(none,z.2.1,z.2.2.1,z.2.2.2.1,z.2.2.2.2):=by rw [← h.1]
 rw [e];exact k _ _ _ _ h.2
@[elab_as_elim] theorem un6 {J : β->γ->δ->ε->ζ->Prop} {G:Option ρ × β × γ × δ × ε × ζ->Prop} (z:Option ρ × β × γ × δ × ε × ζ) (h:z.1=none/\J z.2.1 z.2.2.1 z.2.2.2.1 z.2.2.2.2.1 z.2.2.2.2.2) (k:∀ x y u v a,J x y u v a->G (none,x,y,u,v,a)):G z:=by
 have e:z=(none,z.2.1,z.2.2.1,z.2.2.2.1,z.2.2.2.2.1,z.2.2.2.2.2):=by rw [← h.1]
 rw [e];exact k _ _ _ _ _ h.2
@[elab_as_elim] theorem un7 {J : β->γ->δ->ε->ζ->η->Prop} {G:Option ρ × β × γ × δ × ε × ζ × η->Prop} (z:Option ρ × β × γ × δ × ε × ζ × η) (h:z.1=none/\J z.2.1 z.2.2.1 z.2.2.2.1 z.2.2.2.2.1 z.2.2.2.2.2.1 z.2.2.2.2.2.2) (k:∀ x y u v a b,J x y u v a b->G (none,x,y,u,v,a,b)):G z:=by
 have e:z=(none,z.2.1,z.2.2.1,z.2.2.2.1,z.2.2.2.2.1,z.2.2.2.2.2.1,z.2.2.2.2.2.2):=by rw [← h.1]
 rw [e];exact k _ _ _ _ _ _ h.2
@[elab_as_elim] theorem unR {κ:Type} {F : ρ->Prop} {J : κ->Prop} {G:Option ρ × κ->Prop} (z:Option ρ × κ) (h:(∃ r,z.1=some r/\F r)\/(z.1=none/\J z.2)) (b:∀ r x,F r->G (some r,x)) (a:z.1=none/\J z.2->G z):G z:=by
 rcases h with ⟨r,e,c⟩ | h
 ·have e:z=(some r,z.2):=by rw [← e]
  rw [e];exact b _ _ c
 ·exact a h
end
theorem aal {c:Prop} [Decidable c] {α:Type} {a b:StateT SortSt Sem α} {Q : α->SortSt->Prop} {st:SortSt} (d:c->wpS M A E s a Q st) (f:¬ c->wpS M A E s b Q st):wpS M A E s (if c then a else b) Q st:=by
 by_cases h:c
 ·rw [aC5 h];exact d h
 ·rw [aC6 h];exact f h
theorem an1 (C:Cmp M A E s κ S R) {a b:Array Keyed} (T:Two S R a b) {Q:Array Keyed->SortSt->Prop} {st:SortSt} (hk:kindOf st = κ)
  (h:∀ m st',Eqv st st'->Fin2 R a b m->Q m st'):wpS M A E s (aq1 a b) Q st:=by
 have O:∀ i (h:i < a.size),S a[i]:=fun i h=>T.ha _ (by simp)
 have N:∀ i (h:i < b.size),S b[i]:=fun i h=>T.hb _ (by simp)
 have b0:=T.b0
 have a0:=T.a0
 refine wpS_bind (adh ?_)
 refine wpS_bind (aaw (x:=b[0]'b0) (ay4 b0) ?_)
 have l1:Lo S R a b #[b[0]'b0] 0 1:=by
  have l0:Lo S R a b #[] 0 0:=⟨⟨by simp,List.Pairwise.nil,fun x w=>by simp at w,T.sa,T.sb⟩,aD0 _,aD0 _⟩
  exact l0.pushB C T b0 fun x w=>T.first x (by simpa using w) _ (ay4 b0)
 refine aal (fun e1=>wpS_pure (h _ _ (Eqv.refl _) (l1.doneA (.inl (aD3.mp e1))))) (fun e1=>?_)
 refine aal (fun e2=>wpS_pure (h _ _ (Eqv.refl _) (l1.lastA T (aD3.mp e2)))) (fun e2=>?_)
 replace e1:1 ≠ b.size:=fun q=>e1 (aD3.mpr q)
 replace e2:0+1 ≠ a.size:=fun q=>e2 (aD3.mpr q)
 refine wpS_bind (wpS_get ?_)
 refine wpS_bind (wpS_mono (Q:=fun (z:Option (Array Keyed) × Array Keyed × Nat × Nat × Nat) st'=>Eqv st st'/\∃ r,z.1=some r/\Fin2 R a b r) ?_ ?_)
 ·refine wpS_forRange (fun t (z:Option (Array Keyed) × Array Keyed × Nat × Nat × Nat) st'=>Eqv st st'/\z.1=none/\Lo S R a b z.2.1 z.2.2.1 z.2.2.2.1/\z.2.2.1+1 < a.size/\z.2.2.2.1 < b.size/\t+1<=z.2.1.size) ?_ ?_ ⟨Eqv.refl _,rfl,l1,by dsimp only;omega,by dsimp only;omega,by simp⟩
  ·intro t z a4 _ ht n
   have q1:=n.1
   refine un5 (J:=fun out ia ib _=>Lo S R a b out ia ib/\ia+1 < a.size/\ib < b.size/\t+1<=out.size) z n.2 fun out ia ib mg v=>?_
   dsimp only
   refine wpS_bind (wpS_mono (Q:=fun (z:Option (Array Keyed) × Array Keyed × Nat × Nat × Nat × Nat) st'=>Eqv st st'/\((∃ r,z.1=some r/\Fin2 R a b r)\/(z.1=none/\Lo S R a b z.2.1 z.2.2.1 z.2.2.2.1/\z.2.2.1+1 < a.size/\z.2.2.2.1 < b.size/\t+2<=z.2.1.size))) ?_ ?_)
   ·refine wpS_forRange (fun i (z:Option (Array Keyed) × Array Keyed × Nat × Nat × Nat × Nat) st'=>Eqv st st'/\z.1=none/\Lo S R a b z.2.1 z.2.2.1 z.2.2.2.1/\z.2.2.1+1 < a.size/\z.2.2.2.1 < b.size/\t+1+min i 1<=z.2.1.size) ?_ ?_ ⟨q1,rfl,v.1,v.2.1,v.2.2.1,v.2.2.2⟩
    ·intro i z o _ hi n
     have q:=n.1
     refine un6 (J:=fun out ia ib _ _=>Lo S R a b out ia ib/\ia+1 < a.size/\ib < b.size/\t+1+min i 1<=out.size) z n.2 fun out ia ib ac bc v=>?_
     have l:=v.1
     have K:=v.2.1
     have d:=v.2.2.1
     have hsz:=v.2.2.2
     have g:ia < a.size:=Nat.lt_of_succ_lt K
     refine wpS_bind (aaw (x:=b[ib]) (ay4 d) ?_)
     refine wpS_bind (aaw (x:=a[ia]) (ay4 g) ?_)
     refine wpS_bind (C.ask _ _ (N ib d) (O ia g) _ _ (q.k.trans hk) ?_)
     dsimp only
     refine aal (fun er=>?_) (fun er=>?_)
     ·refine wpS_bind (aaw (x:=b[ib]) (ay4 d) ?_)
      have F:Lo S R a b (out.push b[ib]) ia (ib+1):=l.pushB C T d fun x w=>by
       rw [abg g] at w
       have hd:Srt R (a[ia] :: a.toList.drop (ia+1)):=by rw [← abg g];exact acp T.sa
       have sx:S x:=T.ha x (aA3 (i:=ia) (by rw [abg g];exact w))
       exact C.tr _ _ _ (N ib d) (O ia g) sx (C.asy _ _ (N ib d) (O ia g) er) (ad9 C hd (O ia g) x w)
      refine aal (fun D=>wpS_pure ⟨q,.inl ⟨_,rfl,F.doneA (.inl (aD3.mp D))⟩⟩) (fun D=>?_)
      have hf:ib+1 < b.size/\t+2<=(out.push b[ib]).size:=by
       have Y:ib+1 ≠ b.size:=fun q=>D (aD3.mpr q)
       rw [aE7];omega
      refine aal (fun _=>wpS_pure ⟨q,.inr ⟨rfl,F,K,hf⟩⟩) (fun _=>wpS_pure ⟨q,rfl,F,K,hf.1,aA9 (by omega) hf.2⟩)
     ·refine wpS_bind (aaw (x:=a[ia]) (ay4 g) ?_)
      have F:Lo S R a b (out.push a[ia]) (ia+1) ib:=l.pushA g fun y G=>by
       rw [abg d] at G
       have hd:Srt R (b[ib] :: b.toList.drop (ib+1)):=by rw [← abg d];exact acp T.sb
       have sy:S y:=T.hb y (aA3 (i:=ib) (by rw [abg d];exact G))
       exact C.tr _ _ _ (O ia g) (N ib d) sy (eq_false_of_ne_true er) (ad9 C hd (N ib d) y G)
      refine aal (fun D=>wpS_pure ⟨q,.inl ⟨_,rfl,F.lastA T (aD3.mp D)⟩⟩) (fun D=>?_)
      have hf:ia+1+1 < a.size/\ib < b.size/\t+2<=(out.push a[ia]).size:=by
       have Y:ia+1+1 ≠ a.size:=fun q=>D (aD3.mpr q)
       rw [aE7];omega
      refine aal (fun _=>wpS_pure ⟨q,.inr ⟨rfl,F,hf⟩⟩) (fun _=>wpS_pure ⟨q,rfl,F,hf.1,d,aA9 (by omega) hf.2.2⟩)
    ·exact fun z o n=>⟨n.1,.inr ⟨n.2.1,n.2.2.1,n.2.2.2.1,n.2.2.2.2.1,aA9 (by omega) n.2.2.2.2.2⟩⟩
   ·intro z o n
    have X:=n.1
    refine unR (J:=fun y:Array Keyed × Nat × Nat × Nat × Nat=>Lo S R a b y.1 y.2.1 y.2.2.1/\y.2.1+1 < a.size/\y.2.2.1 < b.size/\t+2<=y.1.size) z n.2 (fun r x hr=>wpS_pure ⟨X,r,rfl,hr⟩) fun Z=>?_
    refine un6 (J:=fun out ia ib _ _=>Lo S R a b out ia ib/\ia+1 < a.size/\ib < b.size/\t+2<=out.size) z Z fun out ia ib ac bc v=>?_
    dsimp only
    refine wpS_bind (adh ?_)
    refine wpS_bind (wpS_mono (Q:=fun (z:Option (Array Keyed) × Array Keyed × Nat × Nat × Nat × Nat × Nat) st'=>Eqv st st'/\((∃ r,z.1=some r/\Fin2 R a b r)\/(z.1=none/\Lo S R a b z.2.1 z.2.2.1 z.2.2.2.1/\z.2.2.1+1 < a.size/\z.2.2.2.1 < b.size/\t+2<=z.2.1.size))) ?_ ?_)
    ·refine wpS_forRange (fun i (z:Option (Array Keyed) × Array Keyed × Nat × Nat × Nat × Nat × Nat) st'=>Eqv st st'/\z.1=none/\Lo S R a b z.2.1 z.2.2.1 z.2.2.2.1/\z.2.2.1+1 < a.size/\z.2.2.2.1 < b.size/\t+2<=z.2.1.size) ?_ (fun z o n=>⟨n.1,.inr n.2⟩) ⟨X,rfl,v⟩
     intro i z o _ hi n
     have q:=n.1
     refine un7 (J:=fun out ia ib _ _ _=>Lo S R a b out ia ib/\ia+1 < a.size/\ib < b.size/\t+2<=out.size) z n.2 fun out ia ib mg ac bc v=>?_
     have l:=v.1
     have K:=v.2.1
     have d:=v.2.2.1
     have hsz:=v.2.2.2
     dsimp only
     refine' jpn (M:=M) (A:=A) (E:=E) (s:=s) (st:=o) (β:=Nat) (P:=fun _=>True) (prog:=?prog) (fun U=>?use) (fun b1 _=>?pf)
     case use =>
      refine aal (fun hm=>?_) (fun hm=>?_)
      ·generalize mg - 1=m
       exact U m trivial
      ·exact U mg trivial
     refine wpS_bind (wpS_mono (Q:=fun _ L=>Eqv o L) (wpS_modify ⟨rfl,rfl,rfl,rfl⟩) fun _ L H=>?_)
     replace H:=q.trans H
     refine wpS_bind (aaw (x:=b[ib]) (ay4 d) ?_)
     refine wpS_bind (afm C (N ib d) T.ha (by omega) (by rw [aC2 (by simp)];exact acp T.sa) (by omega) (H.k.trans hk) fun k a9 h1 h2=>?_)
     rw [aC2 (by simp),List.drop_drop] at h2
     dsimp only
     refine' jpn2 (M:=M) (A:=A) (E:=E) (s:=s) (st:=L) (P:=fun j c=>Lo S R a b j c ib/\c+1 < a.size/\(∀ x∈a.toList.drop c,R x b[ib]=false)/\t+2<=j.size) (prog:=?prog2) (fun U=>?use2) (fun j c h5=>?pf2)
     case use2 =>
      have u:∀ x∈a.toList.drop (ia+k),R x b[ib]=false:=fun x w=>C.asy _ _ (N ib d) (T.ha x (aA3 w)) (h2 x w)
      refine aal (fun k0=>?_) (fun k0=>?_)
      ·have F:Lo S R a b (out ++ a.extract ia (ia+k)) (ia+k) ib:=l.runA (by omega) fun x w y G=>by
        rw [abg d] at G
        have hd:Srt R (b[ib] :: b.toList.drop (ib+1)):=by rw [← abg d];exact acp T.sb
        have sy:S y:=T.hb y (aA3 (i:=ib) (by rw [abg d];exact G))
        exact C.tr _ _ _ (T.ha x (aA3 (az9 w))) (N ib d) sy (h1 x w) (ad9 C hd (N ib d) y G)
       refine aal (fun D=>wpS_pure ⟨H,.inl ⟨_,rfl,F.lastA T (aD3.mp D)⟩⟩) (fun D=>?_)
       refine aal (fun e4=>wpS_pure ⟨H,.inl ⟨_,rfl,F.doneA (.inr (aD3.mp e4))⟩⟩) (fun e4=>?_)
       have W:Lo S R a b (out ++ a.extract ia (ia+k)) (ia+k) ib/\ia+k+1 < a.size/\(∀ x∈a.toList.drop (ia+k),R x b[ib]=false)/\t+2<=(out ++ a.extract ia (ia+k)).size:=by
        have Y:ia+k+1 ≠ a.size:=fun q=>D (aD3.mpr q)
        have a7:ia+k ≠ a.size:=fun q=>e4 (aD3.mpr q)
        exact ⟨F,by omega,u,by rw [Array.size_append];omega⟩
       revert W
       clear D e4 F u
       generalize out ++ a.extract ia (ia+k)=j
       generalize ia+k=c
       intro W
       exact U j c W
      ·have:k=0:=by omega
       rw [this] at u
       exact U out ia ⟨l,K,u,hsz⟩
     have l3:=h5.1
     have a1:=h5.2.1
     have a2:=h5.2.2.1
     have a3:=h5.2.2.2
     have f:c < a.size:=Nat.lt_of_succ_lt a1
     refine wpS_bind (aaw (x:=b[ib]) (ay4 d) ?_)
     have l4:=l3.pushB C T d a2
     refine aal (fun e5=>wpS_pure ⟨H,.inl ⟨_,rfl,l4.doneA (.inl (aD3.mp e5))⟩⟩) (fun e5=>?_)
     replace e5:ib+1 ≠ b.size:=fun q=>e5 (aD3.mpr q)
     refine wpS_bind (aaw (x:=a[c]) (ay4 f) ?_)
     refine wpS_bind (agp C (O c f) T.hb (by omega) (by rw [aC2 (by simp)];exact acp T.sb) (by omega) (H.k.trans hk) fun I a6 h3 h4=>?_)
     rw [aC2 (by simp),List.drop_drop] at h4
     dsimp only
     refine' jpn2 (M:=M) (A:=A) (E:=E) (s:=s) (st:=L) (P:=fun p B=>Lo S R a b p c B/\B < b.size/\(∀ y∈b.toList.drop B,R y a[c]=false)/\t+2<=p.size) (prog:=?prog3) (fun U=>?use3) (fun p B h6=>?pf3)
     case use3 =>
      refine aal (fun k0=>?_) (fun k0=>?_)
      ·have hd:Srt R (a[c] :: a.toList.drop (c+1)):=by rw [← abg f];exact acp T.sa
       have l5:Lo S R a b (j.push b[ib] ++ b.extract (ib+1) (ib+1+I)) c (ib+1+I):=l4.runB (by omega) fun x w y G=>by
        rw [abg f] at G
        have sy:S y:=T.ha y (aA3 (i:=c) (by rw [abg f];exact G))
        have sx:S x:=T.hb x (aA3 (az9 w))
        exact C.tr _ _ _ sx (O c f) sy (C.asy _ _ sx (O c f) (h3 x w)) (ad9 C hd (O c f) y G)
       refine aal (fun e6=>wpS_pure ⟨H,.inl ⟨_,rfl,l5.doneA (.inl (aD3.mp e6))⟩⟩) (fun e6=>?_)
       have W:Lo S R a b (j.push b[ib] ++ b.extract (ib+1) (ib+1+I)) c (ib+1+I)/\ib+1+I < b.size/\(∀ y∈b.toList.drop (ib+1+I),R y a[c]=false)/\t+2<=(j.push b[ib] ++ b.extract (ib+1) (ib+1+I)).size:=by
        have a5:ib+1+I ≠ b.size:=fun q=>e6 (aD3.mpr q)
        exact ⟨l5,by omega,h4,by rw [Array.size_append,aE7];omega⟩
       revert W
       clear e6 l5 hd
       generalize j.push b[ib] ++ b.extract (ib+1) (ib+1+I)=p
       generalize ib+1+I=B
       intro W
       exact U p B W
      ·have:I=0:=by omega
       rw [this] at h4
       exact U (j.push b[ib]) (ib+1) ⟨l4,by omega,h4,by rw [aE7];omega⟩
     refine wpS_bind (aaw (x:=a[c]) (ay4 f) ?_)
     have l7:=h6.1.pushA f h6.2.2.1
     refine aal (fun e7=>wpS_pure ⟨H,.inl ⟨_,rfl,l7.lastA T (aD3.mp e7)⟩⟩) (fun e7=>?_)
     have hf:c+1+1 < a.size/\B < b.size/\t+2<=(p.push a[c]).size:=by
      have a8:c+1+1 ≠ a.size:=fun q=>e7 (aD3.mpr q)
      have h7:=h6.2.2.2
      exact ⟨by omega,h6.2.1,by rw [aE7];omega⟩
     exact aal (fun _=>wpS_pure ⟨H,.inr ⟨rfl,l7,hf⟩⟩) (fun _=>wpS_pure ⟨H,rfl,l7,hf⟩)
    ·intro z o n
     have X:=n.1
     refine unR (J:=fun y:Array Keyed × Nat × Nat × Nat × Nat × Nat=>Lo S R a b y.1 y.2.1 y.2.2.1/\y.2.1+1 < a.size/\y.2.2.1 < b.size/\t+2<=y.1.size) z n.2 (fun r x hr=>wpS_pure ⟨X,r,rfl,hr⟩) fun Z=>?_
     refine un7 (J:=fun out ia ib _ _ _=>Lo S R a b out ia ib/\ia+1 < a.size/\ib < b.size/\t+2<=out.size) z Z fun out ia ib mg ac bc v=>?_
     dsimp only
     refine wpS_bind (wpS_modify ?_)
     exact wpS_pure ⟨X.trans ⟨rfl,rfl,rfl,rfl⟩,rfl,v⟩
  ·intro z o n
   exfalso
   have h1:=n.2.2.1.len
   have h2:=n.2.2.2
   have:a.size+b.size<=max 0 (a.size+b.size):=by omega
   omega
 ·intro z o n
  have X:=n.1
  exact unR (J:=fun _=>False) z (.inl n.2) (fun r x hr=>wpS_pure (h r o X hr)) fun Z=>Z.2.elim
end
structure MidH (R:Keyed->Keyed->Bool) (L a b tl:List Keyed):Prop where
 perm:(a ++ b ++ tl).Perm L
 so:Srt R tl
 le:∀ x∈a ++ b,∀ y∈tl,R y x=false
 sa:Srt R a
 sb:Srt R b
section
variable {R:Keyed->Keyed->Bool} {L tl a b p:List Keyed}
theorem MidH.takeA (m:MidH R L (a ++ p) b tl) (h:∀ x∈b,∀ y∈p,R y x=false):MidH R L a b (p ++ tl):=by
 have sp:=aA8.mp m.sa
 refine ⟨List.Perm.trans ?_ m.perm,aA8.mpr ⟨sp.2.1,m.so,fun x c y d=>m.le x (aA6 _ (az2 _ c)) y d⟩,fun x c y d=>?_,sp.1,m.sb⟩
 ·rw [← az3,az3 a p b,az3 a b p]
  exact List.Perm.append_right tl (List.Perm.append_left a List.perm_append_comm)
 ·rcases ay7.mp d with d | d
  ·rcases ay7.mp c with c | c
   ·exact sp.2.2 x c y d
   ·exact h x c y d
  ·refine m.le x ?_ y d
   rcases ay7.mp c with c | c
   ·exact aA6 _ (aA6 _ c)
   ·exact az2 _ c
theorem MidH.takeB (m:MidH R L a (b ++ p) tl) (h:∀ x∈a,∀ y∈p,R y x=false):MidH R L a b (p ++ tl):=by
 have sp:=aA8.mp m.sb
 refine ⟨by have:=m.perm;simp only [az3] at this ⊢;exact this,aA8.mpr ⟨sp.2.1,m.so,fun x c y d=>m.le x (az2 _ (az2 _ c)) y d⟩,fun x c y d=>?_,m.sa,sp.1⟩
 rcases ay7.mp d with d | d
 ·rcases ay7.mp c with c | c
  ·exact h x c y d
  ·exact sp.2.2 x c y d
 ·refine m.le x ?_ y d
  rcases ay7.mp c with c | c
  ·exact aA6 _ c
  ·exact az2 _ (aA6 _ c)
theorem MidH.done (m:MidH R L a b tl) (h:a=[]\/b=[]):(a ++ b ++ tl).Perm L/\Srt R (a ++ b ++ tl):=by
 refine ⟨m.perm,aA8.mpr ⟨?_,m.so,m.le⟩⟩
 rcases h with h | h
 ·subst h;exact m.sb
 ·subst h;rw [aC1];exact m.sa
theorem MidH.first (m:MidH R L a b tl) (h:∀ y∈b,∀ x∈a,R x y=false):(b ++ a ++ tl).Perm L/\Srt R (b ++ a ++ tl):=by
 refine ⟨List.Perm.trans (List.Perm.append_right tl List.perm_append_comm) m.perm,aA8.mpr ⟨aA8.mpr ⟨m.sb,m.sa,h⟩,m.so,fun x c y d=>m.le x ?_ y d⟩⟩
 rcases ay7.mp c with c | c
 ·exact az2 _ c
 ·exact aA6 _ c
end
theorem acb {a:Array Keyed} {i:Nat} (b:0 < i) (h:i<=a.size):a.toList.take i=a.toList.take (i - 1) ++ [a[i - 1]'(by omega)]:=by
 obtain ⟨j,rfl⟩:∃ j,i=j+1:=⟨i - 1,by omega⟩
 rw [List.take_succ]
 have hj:j < a.size:=by omega
 simp [hj]
theorem aj1 (a:Array Keyed) (k:Nat):(a.extract 0 k).toList=a.toList.take k:=by
 rw [Array.toList_extract];simp [List.extract]
theorem aks (a:Array Keyed) (k n:Nat):(a.extract k n).toList=(a.toList.take n).drop k:=by
 rw [Array.toList_extract];simp [List.extract,List.drop_take]
section
variable {M:Model} {A:Around} {E:Value->Shared->Prop} {s:Shared} {κ:SortKind} {S:Keyed->Prop} {R:Keyed->Keyed->Bool}
structure Hi (S:Keyed->Prop) (R:Keyed->Keyed->Bool) (a b out:Array Keyed) (na nb:Nat):Prop where
 mid:MidH R (a.toList ++ b.toList) (a.toList.take na) (b.toList.take nb) out.toList.reverse
 na:na<=a.size
 nb:nb<=b.size
theorem Hi.len {a b out:Array Keyed} {na nb:Nat} (l:Hi S R a b out na nb):out.size+na+nb=a.size+b.size:=by
 have:=l.mid.perm.length_eq
 have d:=l.na
 have c:=l.nb
 simp at this
 omega
theorem Hi.doneA {a b out:Array Keyed} {na nb:Nat} (l:Hi S R a b out na nb) (h:na=0\/nb=0):Fin2 R a b (a.extract 0 na ++ b.extract 0 nb ++ out.reverse):=by
 have:=l.mid.done (by
  rcases h with h | h
  ·left;rw [h];simp
  ·right;rw [h];simp)
 unfold Fin2
 rw [aD6,aD6,aj1,aj1,Array.toList_reverse]
 exact this
theorem Hi.firstB {a b out:Array Keyed} {na nb:Nat} (T:Two S R a b) (l:Hi S R a b out na nb) (h:nb=1):Fin2 R a b (b.extract 0 nb ++ a.extract 0 na ++ out.reverse):=by
 subst h
 have:=l.mid.first (by
  intro y c x f
  rw [acb (by decide) l.nb] at c
  have d:y=b[0]'T.b0:=by simpa using c
  exact T.first x (az9 f) y (by rw [d];exact ay4 _))
 unfold Fin2
 rw [aD6,aD6,aj1,aj1,Array.toList_reverse]
 exact this
theorem ab7 {l:List Keyed} {i:Nat} (h:Srt R l):Srt R (l.take i):=List.Pairwise.sublist (List.take_sublist i l) h
theorem ads {x:Keyed} {l:List Keyed} (C:Cmp M A E s κ S R) (h:Srt R (l ++ [x])) (b:S x):∀ y∈l ++ [x],R x y=false:=by
 intro y a
 rcases ay7.mp a with a | a
 ·exact (aA8.mp h).2.2 y a x (by simp)
 ·have:y=x:=by simpa using a
  rw [this];exact C.irr b
theorem Hi.pushA {a b out:Array Keyed} {na nb:Nat} (l:Hi S R a b out na nb) (f:0 < na) (h:∀ x∈b.toList.take nb,R (a[na - 1]'(by have:=l.na;omega)) x=false):Hi S R a b (out.push (a[na - 1]'(by have:=l.na;omega))) (na - 1) nb:=by
 refine ⟨?_,by have:=l.na;omega,l.nb⟩
 have m:=l.mid
 rw [acb f l.na] at m
 rw [Array.toList_push,List.reverse_append]
 exact m.takeA (p:=[_]) (fun x d y c=>by
  rw [aA1.mp c];exact h x d)
theorem Hi.pushB {a b out:Array Keyed} {na nb:Nat} (l:Hi S R a b out na nb) (f:0 < nb) (h:∀ x∈a.toList.take na,R (b[nb - 1]'(by have:=l.nb;omega)) x=false):Hi S R a b (out.push (b[nb - 1]'(by have:=l.nb;omega))) na (nb - 1):=by
 refine ⟨?_,l.na,by have:=l.nb;omega⟩
 have m:=l.mid
 rw [acb f l.nb] at m
 rw [Array.toList_push,List.reverse_append]
 exact m.takeB (p:=[_]) (fun x d y c=>by
  rw [aA1.mp c];exact h x d)
theorem Hi.runA {a b out:Array Keyed} {na nb k:Nat} (l:Hi S R a b out na nb) (d:k<=na) (h:∀ x∈b.toList.take nb,∀ y∈(a.toList.take na).drop k,R y x=false):Hi S R a b (out ++ (a.extract k na).reverse) k nb:=by
 refine ⟨?_,by have:=l.na;omega,l.nb⟩
 have m:=l.mid
 rw [← aA0 k (a.toList.take na)] at m
 rw [aD6,Array.toList_reverse,aks,List.reverse_append,List.reverse_reverse]
 have c:=m.takeA h
 rw [List.take_take,Nat.min_eq_left d] at c
 exact c
theorem Hi.runB {a b out:Array Keyed} {na nb k:Nat} (l:Hi S R a b out na nb) (d:k<=nb) (h:∀ x∈a.toList.take na,∀ y∈(b.toList.take nb).drop k,R y x=false):Hi S R a b (out ++ (b.extract k nb).reverse) na k:=by
 refine ⟨?_,l.na,by have:=l.nb;omega⟩
 have m:=l.mid
 rw [← aA0 k (b.toList.take nb)] at m
 rw [aD6,Array.toList_reverse,aks,List.reverse_append,List.reverse_reverse]
 have c:=m.takeB h
 rw [List.take_take,Nat.min_eq_left d] at c
 exact c
theorem an2 (C:Cmp M A E s κ S R) {a b:Array Keyed} (T:Two S R a b) {Q:Array Keyed->SortSt->Prop} {st:SortSt} (hk:kindOf st = κ)
  (h:∀ m st',Eqv st st'->Fin2 R a b m->Q m st'):wpS M A E s (aq2 a b) Q st:=by
 have N:∀ i (h:i < a.size),S a[i]:=fun i h=>T.ha _ (by simp)
 have L:∀ i (h:i < b.size),S b[i]:=fun i h=>T.hb _ (by simp)
 have b0:=T.b0
 have a0:=T.a0
 have la:a.size - 1 < a.size:=by omega
 refine wpS_bind (adh ?_)
 refine wpS_bind (aaw (x:=a[a.size - 1]'la) (ay4 la) ?_)
 have l1:Hi S R a b #[a[a.size - 1]'la] (a.size - 1) b.size:=by
  have l0:Hi S R a b #[] a.size b.size:=⟨⟨by simp [aC2],List.Pairwise.nil,fun x g y Z=>by simp at Z,ab7 T.sa,ab7 T.sb⟩,ay6 _,ay6 _⟩
  exact l0.pushA a0 fun x g=>T.last x (az9 g) _ (ay4 la)
 refine aal (fun e1=>wpS_pure (h _ _ (Eqv.refl _) (l1.doneA (.inl (aD3.mp e1))))) (fun e1=>?_)
 refine aal (fun e2=>wpS_pure (h _ _ (Eqv.refl _) (l1.firstB T (aD3.mp e2)))) (fun e2=>?_)
 replace e1:a.size - 1 ≠ 0:=fun q=>e1 (aD3.mpr q)
 replace e2:b.size ≠ 1:=fun q=>e2 (aD3.mpr q)
 refine wpS_bind (wpS_get ?_)
 have a7:∀ {na nb:Nat} (F:0 < na) (K:na<=a.size) (X:0 < nb) (Y:nb<=b.size),R (b[nb - 1]'(by omega)) (a[na - 1]'(by omega))=true->∀ x∈b.toList.take nb,R (a[na - 1]'(by omega)) x=false:=fun {na nb} F K X Y er x g=>by
  have sx:S x:=T.hb x (az9 g)
  have hs:Srt R (b.toList.take (nb - 1) ++ [b[nb - 1]'(by omega)]):=by rw [← acb X Y];exact ab7 T.sb
  rw [acb X Y] at g
  exact C.tr _ _ _ sx (L _ _) (N _ _) (ads C hs (L _ _) x g) (C.asy _ _ (L _ _) (N _ _) er)
 have a9:∀ {na nb:Nat} (F:0 < na) (K:na<=a.size) (X:0 < nb) (Y:nb<=b.size),R (b[nb - 1]'(by omega)) (a[na - 1]'(by omega))=false->∀ x∈a.toList.take na,R (b[nb - 1]'(by omega)) x=false:=fun {na nb} F K X Y er x g=>by
  have sx:S x:=T.ha x (az9 g)
  have hs:Srt R (a.toList.take (na - 1) ++ [a[na - 1]'(by omega)]):=by rw [← acb F K];exact ab7 T.sa
  rw [acb F K] at g
  exact C.tr _ _ _ sx (N _ _) (L _ _) (ads C hs (N _ _) x g) er
 refine wpS_bind (wpS_mono (Q:=fun (z:Option (Array Keyed) × Nat × Nat × Array Keyed × Nat) st'=>Eqv st st'/\∃ r,z.1=some r/\Fin2 R a b r) ?_ ?_)
 ·refine wpS_forRange (fun t (z:Option (Array Keyed) × Nat × Nat × Array Keyed × Nat) st'=>Eqv st st'/\z.1=none/\Hi S R a b z.2.2.2.1 z.2.1 z.2.2.1/\0 < z.2.1/\1 < z.2.2.1/\t+1<=z.2.2.2.1.size) ?_ ?_ ⟨Eqv.refl _,rfl,l1,by dsimp only;omega,by dsimp only;omega,by simp⟩
  ·intro t z b5 _ ht f
   have q1:=f.1
   refine un5 (J:=fun na nb out _=>Hi S R a b out na nb/\0 < na/\1 < nb/\t+1<=out.size) z f.2 fun na nb out mg o=>?_
   dsimp only
   refine wpS_bind (wpS_mono (Q:=fun (z:Option (Array Keyed) × Nat × Nat × Array Keyed × Nat × Nat) st'=>Eqv st st'/\((∃ r,z.1=some r/\Fin2 R a b r)\/(z.1=none/\Hi S R a b z.2.2.2.1 z.2.1 z.2.2.1/\0 < z.2.1/\1 < z.2.2.1/\t+2<=z.2.2.2.1.size))) ?_ ?_)
   ·refine wpS_forRange (fun i (z:Option (Array Keyed) × Nat × Nat × Array Keyed × Nat × Nat) st'=>Eqv st st'/\z.1=none/\Hi S R a b z.2.2.2.1 z.2.1 z.2.2.1/\0 < z.2.1/\1 < z.2.2.1/\t+1+min i 1<=z.2.2.2.1.size) ?_ ?_ ⟨q1,rfl,o.1,o.2.1,o.2.2.1,o.2.2.2⟩
    ·intro i z j _ hi f
     have q:=f.1
     refine un6 (J:=fun na nb out _ _=>Hi S R a b out na nb/\0 < na/\1 < nb/\t+1+min i 1<=out.size) z f.2 fun na nb out ac bc o=>?_
     have l:=o.1
     have u:=o.2.1
     have a3:=o.2.2.1
     have hsz:=o.2.2.2
     have ia:na - 1 < a.size:=by have:=l.na;omega
     have ib:nb - 1 < b.size:=by have:=l.nb;omega
     refine wpS_bind (aaw (x:=b[nb - 1]) (ay4 ib) ?_)
     refine wpS_bind (aaw (x:=a[na - 1]) (ay4 ia) ?_)
     refine wpS_bind (C.ask _ _ (L _ ib) (N _ ia) _ _ (q.k.trans hk) ?_)
     dsimp only
     refine aal (fun er=>?_) (fun er=>?_)
     ·refine wpS_bind (aaw (x:=a[na - 1]) (ay4 ia) ?_)
      have H:=l.pushA u (a7 u l.na (by omega) l.nb er)
      refine aal (fun w=>wpS_pure ⟨q,.inl ⟨_,rfl,H.doneA (.inl (aD3.mp w))⟩⟩) (fun w=>?_)
      have hf:0 < na - 1/\1 < nb/\t+2<=(out.push a[na - 1]).size:=by
       have a2:na - 1 ≠ 0:=fun q=>w (aD3.mpr q)
       rw [aE7];omega
      exact aal (fun _=>wpS_pure ⟨q,.inr ⟨rfl,H,hf⟩⟩) (fun _=>wpS_pure ⟨q,rfl,H,hf.1,a3,aA9 (by omega) hf.2.2⟩)
     ·refine wpS_bind (aaw (x:=b[nb - 1]) (ay4 ib) ?_)
      have H:=l.pushB (by omega) (a9 u l.na (by omega) l.nb (eq_false_of_ne_true er))
      refine aal (fun w=>wpS_pure ⟨q,.inl ⟨_,rfl,H.firstB T (aD3.mp w)⟩⟩) (fun w=>?_)
      have hf:1 < nb - 1/\t+2<=(out.push b[nb - 1]).size:=by
       have a2:nb - 1 ≠ 1:=fun q=>w (aD3.mpr q)
       rw [aE7];omega
      exact aal (fun _=>wpS_pure ⟨q,.inr ⟨rfl,H,u,hf⟩⟩) (fun _=>wpS_pure ⟨q,rfl,H,u,hf.1,aA9 (by omega) hf.2⟩)
    ·exact fun z j f=>⟨f.1,.inr ⟨f.2.1,f.2.2.1,f.2.2.2.1,f.2.2.2.2.1,aA9 (by omega) f.2.2.2.2.2⟩⟩
   ·intro z j f
    have q2:=f.1
    refine unR (J:=fun y:Nat × Nat × Array Keyed × Nat × Nat=>Hi S R a b y.2.2.1 y.1 y.2.1/\0 < y.1/\1 < y.2.1/\t+2<=y.2.2.1.size) z f.2 (fun r x hr=>wpS_pure ⟨q2,r,rfl,hr⟩) fun hN=>?_
    refine un6 (J:=fun na nb out _ _=>Hi S R a b out na nb/\0 < na/\1 < nb/\t+2<=out.size) z hN fun na nb out ac bc o=>?_
    dsimp only
    refine wpS_bind (adh ?_)
    refine wpS_bind (wpS_mono (Q:=fun (z:Option (Array Keyed) × Nat × Nat × Array Keyed × Nat × Nat × Nat) st'=>Eqv st st'/\((∃ r,z.1=some r/\Fin2 R a b r)\/(z.1=none/\Hi S R a b z.2.2.2.1 z.2.1 z.2.2.1/\0 < z.2.1/\1 < z.2.2.1/\t+2<=z.2.2.2.1.size))) ?_ ?_)
    ·refine wpS_forRange (fun i (z:Option (Array Keyed) × Nat × Nat × Array Keyed × Nat × Nat × Nat) st'=>Eqv st st'/\z.1=none/\Hi S R a b z.2.2.2.1 z.2.1 z.2.2.1/\0 < z.2.1/\1 < z.2.2.1/\t+2<=z.2.2.2.1.size) ?_ (fun z j f=>⟨f.1,.inr f.2⟩) ⟨q2,rfl,o⟩
     intro i z j _ hi f
     have q:=f.1
     refine un7 (J:=fun na nb out _ _ _=>Hi S R a b out na nb/\0 < na/\1 < nb/\t+2<=out.size) z f.2 fun na nb out mg ac bc o=>?_
     have l:=o.1
     have u:=o.2.1
     have a3:=o.2.2.1
     have hsz:=o.2.2.2
     have b4:=l.na
     have U:=l.nb
     have ib:nb - 1 < b.size:=by omega
     dsimp only
     refine' jpn (M:=M) (A:=A) (E:=E) (s:=s) (st:=j) (β:=Nat) (P:=fun _=>True) (prog:=?prog) (fun W=>?use) (fun b7 _=>?pf)
     case use =>
      refine aal (fun hm=>?_) (fun hm=>?_)
      ·generalize mg - 1=m
       exact W m trivial
      ·exact W mg trivial
     refine wpS_bind (wpS_mono (Q:=fun _ I=>Eqv j I) (wpS_modify ⟨rfl,rfl,rfl,rfl⟩) fun _ I B=>?_)
     replace B:=q.trans B
     refine wpS_bind (aaw (x:=b[nb - 1]) (ay4 ib) ?_)
     refine wpS_bind (afm C (L _ ib) T.ha (by omega) (by rw [List.drop_zero];exact ab7 T.sa) (by omega) (B.k.trans hk) fun k b2 F K=>?_)
     rw [List.drop_zero] at F K
     dsimp only
     generalize hac:na - k=ac2
     refine' jpn2 (M:=M) (A:=A) (E:=E) (s:=s) (st:=I) (P:=fun d c=>Hi S R a b d c nb/\0 < c/\(∀ x∈a.toList.take c,R b[nb - 1] x=false)/\t+2<=d.size) (prog:=?prog2) (fun W=>?use2) (fun d c h5=>?pf2)
     case use2 =>
      refine aal (fun k0=>?_) (fun k0=>?_)
      ·have a5:Srt R (b.toList.take (nb - 1) ++ [b[nb - 1]]):=by rw [← acb (by omega) U];exact ab7 T.sb
       have H:Hi S R a b (out ++ (a.extract k na).reverse) k nb:=l.runA b2 fun x g y Z=>by
        have sx:S x:=T.hb x (az9 g)
        have sy:S y:=T.ha y (az9 (aA3 Z))
        rw [acb (by omega) U] at g
        exact C.tr _ _ _ sx (L _ ib) sy (ads C a5 (L _ ib) x g) (C.asy _ _ (L _ ib) sy (K y Z))
       refine aal (fun w=>wpS_pure ⟨B,.inl ⟨_,rfl,H.doneA (.inl (aD3.mp w))⟩⟩) (fun w=>?_)
       have hP:Hi S R a b (out ++ (a.extract k na).reverse) k nb/\0 < k/\(∀ x∈a.toList.take k,R b[nb - 1] x=false)/\t+2<=(out ++ (a.extract k na).reverse).size:=by
        have a2:k ≠ 0:=fun q=>w (aD3.mpr q)
        exact ⟨H,by omega,F,by rw [Array.size_append];omega⟩
       revert hP
       clear w H
       generalize out ++ (a.extract k na).reverse=d
       generalize k=c
       intro hP
       exact W d c hP
      ·have:k=na:=by omega
       rw [this] at F
       exact W out na ⟨l,u,F,hsz⟩
     have l3:=h5.1
     have G:=h5.2.1
     have a4:=h5.2.2.1
     have b3:=h5.2.2.2
     have D:=l3.na
     have ia:c - 1 < a.size:=by omega
     refine wpS_bind (aaw (x:=b[nb - 1]) (ay4 ib) ?_)
     have l4:=l3.pushB (by omega) a4
     refine aal (fun e5=>wpS_pure ⟨B,.inl ⟨_,rfl,l4.firstB T (aD3.mp e5)⟩⟩) (fun e5=>?_)
     replace e5:nb - 1 ≠ 1:=fun q=>e5 (aD3.mpr q)
     refine wpS_bind (aaw (x:=a[c - 1]) (ay4 ia) ?_)
     refine wpS_bind (agp C (N _ ia) T.hb (by omega) (by rw [List.drop_zero];exact ab7 T.sb) (by omega) (B.k.trans hk) fun v a6 X Y=>?_)
     rw [List.drop_zero] at X Y
     dsimp only
     generalize hbc:nb - 1 - v=bc2
     refine' jpn2 (M:=M) (A:=A) (E:=E) (s:=s) (st:=I) (P:=fun n p=>Hi S R a b n c p/\1 < p/\(∀ x∈b.toList.take p,R a[c - 1] x=false)/\t+2<=n.size) (prog:=?prog3) (fun W=>?use3) (fun n p h6=>?pf3)
     case use3 =>
      have a1:∀ x∈b.toList.take v,R a[c - 1] x=false:=fun x g=>C.asy _ _ (T.hb x (az9 g)) (N _ ia) (X x g)
      refine aal (fun k0=>?_) (fun k0=>?_)
      ·have a8:Srt R (a.toList.take (c - 1) ++ [a[c - 1]]):=by rw [← acb G D];exact ab7 T.sa
       have l5:Hi S R a b (d.push b[nb - 1] ++ (b.extract v (nb - 1)).reverse) c v:=l4.runB a6 fun x g y Z=>by
        have sx:S x:=T.ha x (az9 g)
        have sy:S y:=T.hb y (az9 (aA3 Z))
        rw [acb G D] at g
        exact C.tr _ _ _ sx (N _ ia) sy (ads C a8 (N _ ia) x g) (Y y Z)
       refine aal (fun e6=>wpS_pure ⟨B,.inl ⟨_,rfl,l5.firstB T (aD3.mp e6)⟩⟩) (fun e6=>?_)
       refine aal (fun O=>wpS_pure ⟨B,.inl ⟨_,rfl,l5.doneA (.inr (aD3.mp O))⟩⟩) (fun O=>?_)
       have hP:Hi S R a b (d.push b[nb - 1] ++ (b.extract v (nb - 1)).reverse) c v/\1 < v/\(∀ x∈b.toList.take v,R a[c - 1] x=false)/\t+2<=(d.push b[nb - 1] ++ (b.extract v (nb - 1)).reverse).size:=by
        have b6:v ≠ 1:=fun q=>e6 (aD3.mpr q)
        have b1:v ≠ 0:=fun q=>O (aD3.mpr q)
        exact ⟨l5,by omega,a1,by rw [Array.size_append,aE7];omega⟩
       revert hP
       clear e6 O l5
       generalize d.push b[nb - 1] ++ (b.extract v (nb - 1)).reverse=n
       generalize v=p
       intro hP
       exact W n p hP
      ·have:v=nb - 1:=by omega
       rw [this] at a1
       exact W (d.push b[nb - 1]) (nb - 1) ⟨l4,by omega,a1,by rw [aE7];omega⟩
     refine wpS_bind (aaw (x:=a[c - 1]) (ay4 ia) ?_)
     have l7:=h6.1.pushA G h6.2.2.1
     refine aal (fun O=>wpS_pure ⟨B,.inl ⟨_,rfl,l7.doneA (.inl (aD3.mp O))⟩⟩) (fun O=>?_)
     have hf:0 < c - 1/\1 < p/\t+2<=(n.push a[c - 1]).size:=by
      have b1:c - 1 ≠ 0:=fun q=>O (aD3.mpr q)
      have h7:=h6.2.2.2
      exact ⟨by omega,h6.2.1,by rw [aE7];omega⟩
     exact aal (fun _=>wpS_pure ⟨B,.inr ⟨rfl,l7,hf⟩⟩) (fun _=>wpS_pure ⟨B,rfl,l7,hf⟩)
    ·intro z j f
     have q2:=f.1
     refine unR (J:=fun y:Nat × Nat × Array Keyed × Nat × Nat × Nat=>Hi S R a b y.2.2.1 y.1 y.2.1/\0 < y.1/\1 < y.2.1/\t+2<=y.2.2.1.size) z f.2 (fun r x hr=>wpS_pure ⟨q2,r,rfl,hr⟩) fun hN=>?_
     refine un7 (J:=fun na nb out _ _ _=>Hi S R a b out na nb/\0 < na/\1 < nb/\t+2<=out.size) z hN fun na nb out mg ac bc o=>?_
     dsimp only
     refine wpS_bind (wpS_modify ?_)
     exact wpS_pure ⟨q2.trans ⟨rfl,rfl,rfl,rfl⟩,rfl,o⟩
  ·intro z j f
   exfalso
   have F:=f.2.2.1.len
   have K:=f.2.2.2
   have:a.size+b.size<=max 0 (a.size+b.size):=by omega
   omega
 ·intro z j f
  have q2:=f.1
  exact unR (J:=fun _=>False) z (.inl f.2) (fun r x hr=>wpS_pure (h r j q2 hr)) fun hN=>hN.2.elim
end
theorem aiw (base:Nat):∀ (b v u w:List Keyed) (j:Nat) (xs:Array Keyed),xs.toList=u ++ v ++ w->v.length=b.length->u.length=base+j ->
  ((b.zipIdx j).foldl (fun a x=>match x with | (p,j)=>a.setIfInBounds (base+j) p) xs).toList=u ++ b ++ w
 | [],v,u,w,j,xs,h1,h2,h3=>by
  have:v=[]:=aE2 h2
  subst this
  exact h1
 | m :: b,v,u,w,j,xs,h1,h2,h3=>by
  cases v with
  | nil=>cases h2
  | cons y v =>
   rw [List.zipIdx_cons,List.foldl_cons]
   have c:=aiw base b v (u ++ [m]) w (j+1) (xs.setIfInBounds (base+j) m) (by
    rw [Array.toList_setIfInBounds,h1,← h3]
    simp [List.set_append]) (by simpa using h2) (by simp [h3];omega)
   rw [c]
   simp
section
variable {M:Model} {A:Around} {E:Value->Shared->Prop} {s:Shared} {κ:SortKind} {S:Keyed->Prop} {R:Keyed->Keyed->Bool}
theorem aty {σ:Type} {st st' : σ} {Q:PUnit->σ->Prop} (h:Q ⟨⟩ st'):wpS M A E s (set st':StateT σ Sem PUnit) Q st:=by
 unfold wpS
 rw [StateT.run_set]
 exact aF6 ⟨rfl,h⟩
theorem an3 (C:Cmp M A E s κ S R) {st:SortSt} {i pw pw2:Nat} {pre a b g:List Keyed} (G:(arrOf st).toList=pre ++ a ++ b ++ g) (hS:∀ x∈(arrOf st).toList,S x)
  (a8:(pendingOf st)[i]?=some (pre.length,a.length,pw)) (a6:(pendingOf st)[i+1]?=some (pre.length+a.length,b.length,pw2)) (na:a ≠ []) (nb:b ≠ []) (W:Srt R a) (O:Srt R b) (hk:kindOf st = κ) (hf:failedOf st=none)
  {Q:Bool->SortSt->Prop}
  (h:∀ st' m,kindOf st' = κ->failedOf st'=none->pendingOf st'=((pendingOf st).setIfInBounds i (pre.length,a.length+b.length,pw)).eraseIdxIfInBounds (i+1)->(arrOf st').toList=pre ++ m ++ g->m.Perm (a ++ b)->Srt R m->Q true st') :
  wpS M A E s (akr i) Q st:=by
 have la:0 < a.length:=aC9.mpr na
 have lb:0 < b.length:=aC9.mpr nb
 have L:∀ x∈a,S x:=fun x c=>hS x (by rw [G];simp [c])
 have N:∀ x∈b,S x:=fun x c=>hS x (by rw [G];simp [c])
 have lx:(arrOf st).size=pre.length+a.length+b.length+g.length:=by
  have:=congrArg List.length G
  simp at this
  omega
 have w:((arrOf st).toList.drop pre.length).take a.length=a:=by rw [G];simp [az3]
 have B:((arrOf st).toList.drop (pre.length+a.length)).take b.length=b:=by
  rw [show pre.length+a.length=(pre ++ a).length by simp,G,az3 (pre ++ a),List.drop_left,List.take_left]
 refine wpS_bind (wpS_get ?_)
 rw [a8,a6]
 refine wpS_bind (wpS_mono (Q:=fun _ n=>kindOf n = κ/\failedOf n=none/\arrOf n=arrOf st/\pendingOf n=((pendingOf st).setIfInBounds i (pre.length,a.length+b.length,pw)).eraseIdxIfInBounds (i+1)) (aty ⟨hk,hf,rfl,rfl⟩) fun _ n ⟨Z,f1,a1,p1⟩=>?_)
 obtain ⟨b0,bt,eb⟩:∃ b0 bt,b=b0 :: bt:=by cases b with | nil=>exact absurd rfl nb | cons x r=>exact ⟨x,r,rfl⟩
 have a3:(arrOf st)[pre.length+a.length]?=some b0:=by
  rw [← aB3,G,eb]
  simp [List.getElem?_append]
 have v:S b0:=N b0 (by rw [eb];simp)
 have D:∀ y∈b,R y b0=false:=fun y d=>by rw [eb] at d O;exact ad9 C O v y d
 -- nothing is laid together: the two stand in order already
 have F:(∀ x∈a,∀ y∈b,R y x=false)->∀ st',Eqv n st'->Q true st':=fun hc st' q=>by
  refine h st' (a ++ b) (q.k.trans Z) (q.f.trans f1) (q.p.trans p1) ?_ (List.Perm.refl _) (aA8.mpr ⟨W,O,hc⟩)
  rw [q.a,a1,G]
  simp [az3]
 refine wpS_bind (aaw a3 ?_)
 refine wpS_bind (afm C v hS (by omega) (by rw [w];exact W) la Z fun k a9 h1 h2=>?_)
 rw [w] at h2
 have H:∀ x∈a.take k,R b0 x=false:=fun x c=>h1 x (by
  have:((arrOf st).toList.drop pre.length).take k=a.take k:=by rw [← w,List.take_take,Nat.min_eq_left a9]
  rw [this];exact c)
 dsimp only
 refine aal (fun e=>?_) (fun e=>?_)
 ·have e':a.length - k=0:=by simpa using e
  refine wpS_pure (F (fun x c y d=>?_) n (Eqv.refl _))
  have:a.take k=a:=aC2 (by omega)
  rw [this] at H
  exact C.tr x b0 y (L x c) v (N y d) (H x c) (D y d)
 ·have e':a.length - k ≠ 0:=by simpa using e
  -- the last of a
  have U:pre.length+k+(a.length - k) - 1=pre.length+(a.length - 1):=by omega
  have o:a.length - 1 < a.length:=by omega
  have a4:(arrOf st)[pre.length+k+(a.length - k) - 1]?=some (a[a.length - 1]'o):=by
   rw [← aB3,G,U]
   simp [List.getElem?_append,o,az3]
  have Sl:S (a[a.length - 1]'o):=L _ (aC3 o)
  have u:a=a.take (a.length - 1) ++ [a[a.length - 1]'o]:=by
   have:=List.take_succ (l:=a) (i:=a.length - 1)
   rw [show a.length - 1+1=a.length by omega,aD8] at this
   simpa [o] using this
  have K:∀ x∈a,R (a[a.length - 1]'o) x=false:=fun x c=>by
   have hs:Srt R (a.take (a.length - 1) ++ [a[a.length - 1]'o]):=by rw [← u];exact W
   exact ads C hs Sl x (by rw [← u];exact c)
  refine wpS_bind (aaw a4 ?_)
  refine wpS_bind (agp C Sl hS (by omega) (by rw [B];exact O) (by omega) Z fun j a5 h3 h4=>?_)
  rw [B] at h4
  have a0:((arrOf st).toList.drop (pre.length+a.length)).take j=b.take j:=by rw [← B,List.take_take,Nat.min_eq_left a5]
  rw [a0] at h3
  dsimp only
  refine aal (fun e2=>?_) (fun e2=>?_)
  ·have a2:j=0:=by simpa using e2
   subst a2
   refine wpS_pure (F (fun x c y d=>?_) n (Eqv.refl _))
   exact C.tr x _ y (L x c) Sl (N y d) (K x c) (h4 y (by simpa using d))
  ·have a2:j ≠ 0:=by simpa using e2
   have ex:((arrOf st).extract (pre.length+k) (pre.length+a.length)).toList=a.drop k:=by
    rw [aks,G]
    simp [az3,List.take_append,List.drop_append]
   have P:((arrOf st).extract (pre.length+a.length) (pre.length+a.length+j)).toList=b.take j:=by
    rw [ah6,a0]
   generalize hX:(arrOf st).extract (pre.length+k) (pre.length+a.length)=X at ex
   generalize hY:(arrOf st).extract (pre.length+a.length) (pre.length+a.length+j)=Y at P
   have sX:X.size=a.length - k:=by have:=congrArg List.length ex;simpa using this
   have sY:Y.size=j:=by have:=congrArg List.length P;simp at this;omega
   have T:Two S R X Y:=by
    refine ⟨fun x c=>L x (aA3 (by rw [← ex];exact c)),fun x c=>N x (az9 (by rw [← P];exact c)),by rw [ex];exact acp W,by rw [P];exact ab7 O,by omega,by omega,fun x c y d=>?_,fun y d x c=>?_⟩
    ·rw [← aB3,P,eb] at d
     have:y=b0:=by
      obtain ⟨j',rfl⟩:∃ j',j=j'+1:=⟨j - 1,by omega⟩
      simpa using d.symm
     rw [this]
     rw [ex] at c
     exact C.asy _ _ v (L x (aA3 c)) (h2 x c)
    ·rw [← aB3,ex,sX] at c
     rw [aF0,show k+(a.length - k - 1)=a.length - 1 by omega,ay0 o] at c
     cases c
     rw [P] at d
     exact C.asy _ _ (N y (az9 d)) Sl (h3 y d)
   have fin:∀ (m:Array Keyed) (st':SortSt),Eqv n st'->Fin2 R X Y m->wpS M A E s (do
     modify fun (z:SortSt)=>setArr z (List.foldl (fun a x=>match x with | (p,j)=>a.setIfInBounds (pre.length+k+j) p) (arrOf z) m.toList.zipIdx)
     let z ← get
     pure (failedOf z).isNone) Q st':=by
    intro m st' q ⟨I,ms⟩
    rw [ex,P] at I
    refine wpS_bind (wpS_modify ?_)
    refine wpS_bind (wpS_get ?_)
    refine wpS_pure ?_
    show Q (failedOf st').isNone _
    rw [q.f,f1]
    have lm:m.toList.length=(a.drop k).length+(b.take j).length:=by rw [I.length_eq,az0]
    have J:∀ z∈m.toList,z∈a.drop k\/z∈b.take j:=fun z hz=>ay7.mp (I.mem_iff.mp hz)
    refine h _ (a.take k ++ m.toList ++ b.drop j) (q.k.trans Z) (q.f.trans f1) (q.p.trans p1) ?_ ?_ ?_
    ·show (List.foldl _ (arrOf st') m.toList.zipIdx).toList=_
     have base:(arrOf st').toList=(pre ++ a.take k) ++ (a.drop k ++ b.take j) ++ (b.drop j ++ g):=by
      rw [q.a,a1,G]
      have t1:=aA0 k a
      have t2:=aA0 j b
      calc pre ++ a ++ b ++ g=pre ++ (a.take k ++ a.drop k) ++ (b.take j ++ b.drop j) ++ g:=by rw [t1,t2]
       _=_:=by simp only [az3]
     have:=aiw (pre.length+k) m.toList (a.drop k ++ b.take j) (pre ++ a.take k) (b.drop j ++ g) 0 (arrOf st') base (by rw [az0,lm]) (by rw [az0,aE0];omega)
     rw [this]
     simp only [az3]
    ·have t1:=aA0 k a
     have t2:=aA0 j b
     calc (a.take k ++ m.toList ++ b.drop j).Perm (a.take k ++ (a.drop k ++ b.take j) ++ b.drop j):=List.Perm.append_right _ (List.Perm.append_left _ I)
      _ = a ++ b:=by
       simp only [az3]
       rw [t2,← az3,t1]
    ·have a7:Srt R (a.take k ++ a.drop k):=by rw [aA0];exact W
     have b1:Srt R (b.take j ++ b.drop j):=by rw [aA0];exact O
     have ca:=(aA8.mp a7).2.2
     have cb:=(aA8.mp b1).2.2
     refine aA8.mpr ⟨aA8.mpr ⟨ab7 W,ms,fun x c y d=>?_⟩,acp O,fun x c y d=>?_⟩
     ·rcases J y d with d | d
      ·exact ca x c y d
      ·exact C.tr x b0 y (L x (az9 c)) v (N y (az9 d)) (H x c) (D y (az9 d))
     ·have Sy:=N y (aA3 d)
      rcases ay7.mp c with c | c
      ·exact C.tr x b0 y (L x (az9 c)) v Sy (H x c) (D y (aA3 d))
      ·rcases J x c with c | c
       ·exact C.tr x _ y (L x (aA3 c)) Sl Sy (K x (aA3 c)) (h4 y d)
       ·exact cb x c y d
   refine aal (fun e3=>?_) (fun e3=>?_)
   ·exact wpS_bind (an1 C T Z fun m st' q fm=>fin m st' q fm)
   ·exact wpS_bind (an2 C T Z fun m st' q fm=>fin m st' q fm)
end
def e (xs:Array Keyed) (k:Nat):Keyed:=(xs[k]?).getD (.none,.none)
theorem ag9 {xs:Array Keyed} {k:Nat} (h:k < xs.size):xs[k]?=some (e xs k):=by
 unfold e;rw [ay4 h];rfl
def Asc (R:Keyed->Keyed->Bool) (xs:Array Keyed) (l h:Nat):Prop:=∀ i j,l<=i->i<=j->j < h->R (e xs j) (e xs i)=false
def Des (R:Keyed->Keyed->Bool) (xs:Array Keyed) (l h:Nat):Prop:=∀ i j,l<=i->i<=j->j < h->R (e xs i) (e xs j)=false
structure Bs (κ:SortKind) (p0:Array (Nat × Nat × Nat)) (a0:Array Keyed) (lo:Nat) (st:SortSt):Prop where
 k:kindOf st = κ
 f:failedOf st=none
 p:pendingOf st=p0
 perm:(arrOf st).toList.Perm a0.toList
 pre:∀ k,k < lo->(arrOf st)[k]?=a0[k]?
theorem aq4 {xs:Array Keyed} {src d:Nat} (hs:src < xs.size) (hd:d<=src) (k:Nat):e (bubble xs src d) k=if k=src - d then e xs src else if src - d < k/\k<=src then e xs (k - 1) else e xs k:=by
 unfold e
 rw [getElem?_bubble hs d hd]
 repeat' split
 all_goals rfl
theorem acx {xs:Array Keyed} {i j:Nat} (hj:j<=xs.size) (k:Nat):e (mirror xs i j ((j - i) / 2)) k=if i<=k/\k < j then e xs (i+j - 1 - k) else e xs k:=by
 unfold e
 rw [getElem?_mirror_all hj]
 split <;> rfl
section
variable {M:Model} {A:Around} {E:Value->Shared->Prop} {s:Shared} {κ:SortKind} {S:Keyed->Prop} {R:Keyed->Keyed->Bool} {p0:Array (Nat × Nat × Nat)} {a0:Array Keyed} {lo:Nat}
theorem Bs.size {st:SortSt} (B:Bs κ p0 a0 lo st):(arrOf st).size=a0.size:=by
 have:=B.perm.length_eq
 simpa using this
theorem Bs.sat {st:SortSt} (B:Bs κ p0 a0 lo st) (b:∀ x∈a0.toList,S x) {k:Nat} (a:k < a0.size):S (e (arrOf st) k):=by
 have h:=ag9 (xs:=arrOf st) (k:=k) (by rw [B.size];exact a)
 refine b _ (B.perm.mem_iff.mp ?_)
 rw [← aB3] at h
 exact ay2 h
theorem afn (C:Cmp M A E s κ S R) (a:∀ x∈a0.toList,S x) {st:SortSt} (B:Bs κ p0 a0 lo st) {i j:Nat} (hi:i < a0.size) (hj:j < a0.size) {Q:Option Bool->SortSt->Prop} (h:Q (some (R (e (arrOf st) i) (e (arrOf st) j))) st) :
  wpS M A E s (ltAt' i j) Q st:=by
 rw [ltAt'_eq]
 refine wpS_bind (wpS_get ?_)
 refine wpS_bind (aaw (ag9 (by rw [B.size];exact hi)) ?_)
 refine wpS_bind (aaw (ag9 (by rw [B.size];exact hj)) ?_)
 exact C.ask _ _ (B.sat a hi) (B.sat a hj) _ _ B.k h
theorem aq5 (C:Cmp M A E s κ S R) {xs:Array Keyed} {l h:Nat} (b:∀ k,k<=h->S (e xs k)) (g:l < h) (a:Asc R xs l h) (n:R (e xs h) (e xs (h - 1))=false):Asc R xs l (h+1):=by
 intro i j c d f
 by_cases hj:j=h
 ·subst hj
  by_cases hi:i=j
  ·subst hi;exact C.irr (b _ (ay6 _))
  ·exact C.tr _ (e xs (j - 1)) _ (b _ (by omega)) (b _ (by omega)) (b _ (by omega)) (a i (j - 1) c (by omega) (by omega)) n
 ·exact a i j c d (by omega)
theorem ae4 (C:Cmp M A E s κ S R) {xs:Array Keyed} {l h:Nat} (b:∀ k,k<=h->S (e xs k)) (g:l < h) (a:Des R xs l h) (n:R (e xs (h - 1)) (e xs h)=false):Des R xs l (h+1):=by
 intro i j c d f
 by_cases hj:j=h
 ·subst hj
  by_cases hi:i=j
  ·subst hi;exact C.irr (b _ (ay6 _))
  ·exact C.tr _ (e xs (j - 1)) _ (b _ (by omega)) (b _ (by omega)) (b _ (by omega)) n (a i (j - 1) c (by omega) (by omega))
 ·exact a i j c d (by omega)
theorem Bs.set {st:SortSt} (B:Bs κ p0 a0 lo st) {xs:Array Keyed} (b:xs.Perm (arrOf st)) (c:∀ k,k < lo->xs[k]?=(arrOf st)[k]?):Bs κ p0 a0 lo (setArr st xs) :=
 ⟨B.k,B.f,B.p,b.toList.trans B.perm,fun k a=>(c k a).trans (B.pre k a)⟩
theorem an4 (C:Cmp M A E s κ S R) (w:∀ x∈a0.toList,S x) {st:SortSt} (B:Bs κ p0 a0 lo st) {n ok:Nat} (hn:lo+n<=a0.size) (hok:ok<=n) (N:1<=n) (hs:Asc R (arrOf st) lo (lo+ok)) {Q:Bool->SortSt->Prop}
  (h:∀ st',Bs κ p0 a0 lo st'->Asc R (arrOf st') lo (lo+n)->Q true st'):wpS M A E s (aq3 lo n ok) Q st:=by
 refine wpS_bind (wpS_mono (Q:=fun (z:Option Bool × Unit) st'=>z.1=none/\Bs κ p0 a0 lo st'/\Asc R (arrOf st') lo (lo+n)) ?_ ?_)
 ·refine wpS_forRange (fun k (z:Option Bool × Unit) st'=>z.1=none/\Bs κ p0 a0 lo st'/\Asc R (arrOf st') lo (lo+k)) ?_ ?_ ⟨rfl,B,fun i j g p v=>?_⟩
  ·rintro k ⟨o,_⟩ b K J ⟨rfl,q,as⟩
   have d:∀ j,j < lo+n->S (e (arrOf b) j):=fun j hj=>q.sat w (by omega)
   refine wpS_bind (wpS_mono (Q:=fun (z:Option Bool × Nat × Nat) st'=>st'=b/\z.1=none/\z.2.1<=k/\(∀ i,i < z.2.1->R (e (arrOf b) (lo+k)) (e (arrOf b) (lo+i))=false)/\(∀ i,z.2.1<=i->i < k->R (e (arrOf b) (lo+k)) (e (arrOf b) (lo+i))=true)) ?_ ?_)
   ·refine wpS_forRange (fun t (z:Option Bool × Nat × Nat) st'=>st'=b/\z.1=none/\z.2.1<=z.2.2/\z.2.2<=k/\z.2.2 - z.2.1+t<=k/\(∀ i,i < z.2.1->R (e (arrOf b) (lo+k)) (e (arrOf b) (lo+i))=false)/\(∀ i,z.2.2<=i->i < k->R (e (arrOf b) (lo+k)) (e (arrOf b) (lo+i))=true)) ?_ ?_
     ⟨rfl,rfl,Nat.zero_le _,Nat.le_refl _,by dsimp only;omega,fun i hi=>absurd hi (Nat.not_lt_zero _),fun i g p=>by dsimp only at g;omega⟩
    ·rintro t ⟨o,l,r⟩ a _ O ⟨rfl,c,g,p,v,m,f⟩
     dsimp only at c g p v m f ⊢
     subst c
     refine aal (fun F=>?_) (fun F=>?_)
     ·have:l=r:=by omega
      subst this
      exact wpS_pure ⟨rfl,rfl,p,m,f⟩
     ·have hm:(l+r) / 2 < r:=by omega
      have D:l<=(l+r) / 2:=by omega
      refine wpS_bind (afn C w q (by omega) (by omega) ?_)
      dsimp only
      cases er:R (e (arrOf a) (lo+k)) (e (arrOf a) (lo+(l+r) / 2)) with
      | true =>
       rw [aC5 rfl]
       refine wpS_pure ⟨rfl,rfl,D,by dsimp only;omega,by dsimp only;omega,m,fun i u y=>?_⟩
       dsimp only at u
       cases e2:R (e (arrOf a) (lo+k)) (e (arrOf a) (lo+i)) with
       | true=>rfl
       | false =>
        have:=C.tr _ _ _ (d _ (by omega)) (d _ (by omega)) (d _ (by omega)) (as (lo+(l+r) / 2) (lo+i) (by omega) (by omega) (by omega)) e2
        rw [this] at er;cases er
      | false =>
       rw [aC6 (by decide)]
       refine wpS_pure ⟨rfl,rfl,by dsimp only;omega,p,by dsimp only;omega,fun i u=>?_,f⟩
       dsimp only at u
       exact C.tr _ _ _ (d _ (by omega)) (d _ (by omega)) (d _ (by omega)) (as (lo+i) (lo+(l+r) / 2) (by omega) (by omega) (by omega)) er
    ·rintro ⟨o,l,r⟩ a ⟨rfl,c,g,p,v,m,f⟩
     dsimp only at c g p v m f ⊢
     have : l = r := by have:k ≤ max 0 k := by omega
                        omega
     subst this
     exact ⟨rfl,c,p,m,f⟩
   ·rintro ⟨o,l,r⟩ a ⟨rfl,c,g,m,f⟩
    dsimp only at c g m f ⊢
    subst c
    dsimp only
    have hsz:lo+k < (arrOf a).size:=by rw [q.size];omega
    have hd:(lo+k) - (lo+l)=k - l:=by omega
    refine wpS_bind (wpS_modify ?_)
    have G:∀ j,e (bubble (arrOf a) (lo+k) (lo+k - (lo+l))) j=if j=lo+l then e (arrOf a) (lo+k) else if lo+l < j/\j<=lo+k then e (arrOf a) (j - 1) else e (arrOf a) j:=fun j=>by
     rw [aq4 hsz (by omega),show lo+k - (lo+k - (lo+l))=lo+l by omega]
    refine wpS_pure ⟨rfl,q.set (bubble_perm _ _ _) (fun j hj=>?_),fun i j u y L=>?_⟩
    ·show (bubble (arrOf a) (lo+k) (lo+k - (lo+l)))[j]?=_
     rw [getElem?_bubble hsz _ (by omega),aC6 (by omega),aC6 (by omega)]
    ·show R (e (bubble (arrOf a) (lo+k) (lo+k - (lo+l))) j) (e (bubble (arrOf a) (lo+k) (lo+k - (lo+l))) i)=false
     rw [G,G]
     have I:∀ j,j < lo+n->S (e (arrOf a) j):=d
     by_cases j1:j=lo+l
     ·rw [aC5 j1]
      by_cases i4:i=lo+l
      ·rw [aC5 i4];exact C.irr (d _ (by omega))
      ·rw [aC6 i4,aC6 (by omega)]
       have:=m (i - lo) (by omega)
       rw [show lo+(i - lo)=i by omega] at this
       exact this
     ·rw [aC6 j1]
      by_cases j2:lo+l < j/\j<=lo+k
      ·rw [aC5 j2]
       have H:=f (j - 1 - lo) (by omega) (by omega)
       rw [show lo+(j - 1 - lo)=j - 1 by omega] at H
       by_cases i4:i=lo+l
       ·rw [aC5 i4];exact C.asy _ _ (d _ (by omega)) (d _ (by omega)) H
       ·rw [aC6 i4]
        by_cases i5:lo+l < i/\i<=lo+k
        ·rw [aC5 i5];exact as (i - 1) (j - 1) (by omega) (by omega) (by omega)
        ·rw [aC6 i5];exact as i (j - 1) (by omega) (by omega) (by omega)
      ·rw [aC6 j2,aC6 (by omega),aC6 (by omega)]
       exact as i j (by omega) (by omega) (by omega)
  ·rintro ⟨o,_⟩ b ⟨c,q,as⟩
   exact ⟨c,q,fun i j u y L=>as i j u y (by omega)⟩
  ·by_cases hj:j < lo+ok
   ·exact hs i j g p hj
   ·have:i=j:=by omega
    subst this
    exact C.irr (B.sat w (by omega))
 ·rintro ⟨o,_⟩ b ⟨c,q,as⟩
  dsimp only at c ⊢
  subst c
  exact wpS_pure (h b q as)
end
def Eqb (R:Keyed->Keyed->Bool) (xs:Array Keyed) (l h:Nat):Prop:=∀ i j,l<=i->i < h->l<=j->j < h->R (e xs i) (e xs j)=false
section
variable {M:Model} {A:Around} {E:Value->Shared->Prop} {s:Shared} {κ:SortKind} {S:Keyed->Prop} {R:Keyed->Keyed->Bool} {p0:Array (Nat × Nat × Nat)} {a0:Array Keyed} {lo:Nat}
theorem amq {α:Type} {prog:StateT SortSt Sem α} {P:SortSt->Prop} {Q : α->SortSt->Prop} {G:Prop} (use:(∀ st,P st->wpS M A E s prog Q st)->G) (a:∀ st,P st->wpS M A E s prog Q st):G:=use a
theorem akt (C:Cmp M A E s κ S R) (f:∀ x∈a0.toList,S x) {st:SortSt} (B:Bs κ p0 a0 lo st) {a nrem:Nat} (l:1<=a) (i:a<=nrem) (hn:lo+nrem<=a0.size) (as:Asc R (arrOf st) lo (lo+a)) {Q:Option (Option Nat) × Nat->SortSt->Prop}
  (h:∀ n,a<=n->n<=nrem->Asc R (arrOf st) lo (lo+n)->(n < nrem->R (e (arrOf st) (lo+n)) (e (arrOf st) (lo+n - 1))=true)->Q (none,n) st) :
  wpS M A E s (forIn [a:nrem] ((none,a):Option (Option Nat) × Nat) (fun (_:Nat) z=>ltAt' (lo+z.2) (lo+z.2 - 1) >>= fun x=>match x with
   | some smaller=>if smaller=true then pure (ForInStep.done (none,z.2)) else pure (ForInStep.yield (none,z.2+1))
   | _=>pure (ForInStep.done (some none,z.2)))) Q st:=by
 refine wpS_forRange (fun t (z:Option (Option Nat) × Nat) st'=>st'=st/\z=(none,t)/\Asc R (arrOf st) lo (lo+t)) ?_ ?_ ⟨rfl,rfl,as⟩
 ·rintro t ⟨o,n⟩ c g m ⟨rfl,d,b⟩
  cases d
  dsimp only
  refine wpS_bind (afn C f B (by omega) (by omega) ?_)
  dsimp only
  cases er:R (e (arrOf c) (lo+t)) (e (arrOf c) (lo+t - 1)) with
  | true =>
   rw [aC5 rfl]
   exact wpS_pure (h t g (by omega) b fun _=>er)
  | false =>
   rw [aC6 (by decide)]
   exact wpS_pure ⟨rfl,rfl,aq5 C (h:=lo+t) (fun k j=>B.sat f (by omega)) (by omega) b er⟩
 ·rintro ⟨o,n⟩ c ⟨rfl,d,b⟩
  cases d
  rw [show max a nrem=nrem by omega] at b ⊢
  exact h nrem i (ay6 _) b fun z=>absurd z (aD4 _)
theorem aq6 (C:Cmp M A E s κ S R) {st:SortSt} (B:Bs κ p0 a0 lo st) {n:Nat} (hn:lo+n<=a0.size) (a:Des R (arrOf st) lo (lo+n)) :
  Bs κ p0 a0 lo (setArr st (mirror (arrOf st) lo (lo+n) ((lo+n - lo) / 2)))/\Asc R (mirror (arrOf st) lo (lo+n) ((lo+n - lo) / 2)) lo (lo+n):=by
 have hz:lo+n<=(arrOf st).size:=by rw [B.size];exact hn
 refine ⟨B.set (mirror_perm _ _ _ _) (fun k b=>by rw [getElem?_mirror_all hz,aC6 (by omega)]),fun i j f d c=>?_⟩
 rw [acx hz,acx hz,aC5 (by omega),aC5 (by omega)]
 exact a _ _ (by omega) (by omega) (by omega)
theorem ah7 (C:Cmp M A E s κ S R) (c:∀ x∈a0.toList,S x) {st:SortSt} (B:Bs κ p0 a0 lo st) {l h m:Nat} (f:lo<=l) (hh:h<=a0.size) (hm:h<=m) (d:m<=a0.size) (a:Des R (arrOf st) lo m) (eq:Eqb R (arrOf st) l h) :
  Bs κ p0 a0 lo (setArr st (mirror (arrOf st) l h ((h - l) / 2)))/\Des R (mirror (arrOf st) l h ((h - l) / 2)) lo m:=by
 have hz:h<=(arrOf st).size:=by rw [B.size];exact hh
 refine ⟨B.set (mirror_perm _ _ _ _) (fun k b=>by rw [getElem?_mirror_all hz,aC6 (by omega)]),fun i j n p g=>?_⟩
 rw [acx hz,acx hz]
 have o:∀ k,k < m->S (e (arrOf st) k):=fun k b=>B.sat c (by omega)
 by_cases c1:l<=i/\i < h
 ·rw [aC5 c1]
  by_cases c2:l<=j/\j < h
  ·rw [aC5 c2]
   exact eq _ _ (by omega) (by omega) (by omega) (by omega)
  ·rw [aC6 c2]
   exact a _ _ (by omega) (by omega) (by omega)
 ·rw [aC6 c1]
  by_cases c2:l<=j/\j < h
  ·rw [aC5 c2]
   exact a _ _ (by omega) (by omega) (by omega)
  ·rw [aC6 c2]
   exact a _ _ (by omega) (by omega) (by omega)
theorem api (C:Cmp M A E s κ S R) (p:∀ x∈a0.toList,S x) {st:SortSt} (B:Bs κ p0 a0 lo st) {nrem:Nat} (h1:1<=nrem) (hn:lo+nrem<=a0.size) {Q:Option Nat->SortSt->Prop}
  (h:∀ st' n,Bs κ p0 a0 lo st'->1<=n->n<=nrem->Asc R (arrOf st') lo (lo+n)->Q (some n) st'):wpS M A E s (atx lo nrem) Q st:=by
 refine wpS_bind (akt C p B (ay6 1) h1 hn (fun i j r u Z=>?_) fun n n1 n2 as br=>?_)
 ·have:i=j:=by omega
  subst this
  exact C.irr (B.sat p (by omega))
 dsimp only
 refine aal (fun en=>wpS_pure (h st n B n1 n2 as)) (fun en=>?_)
 have a6:n ≠ nrem:=by simpa using en
 have a3:n < nrem:=by omega
 have I:=br a3
 refine amq (M:=M) (A:=A) (E:=E) (s:=s) (α:=Option Nat) (Q:=Q) (P:=fun w=>Bs κ p0 a0 lo w/\Des R (arrOf w) lo (lo+n)/\R (e (arrOf w) (lo+n)) (e (arrOf w) (lo+n - 1))=true) (prog:=?prog) (fun O=>?use) (fun w ⟨N,U,W⟩=>?pf)
 case use =>
  refine aal (fun g1=>?_) (fun g1=>?_)
  ·refine wpS_bind (afn C p B (by omega) (by omega) ?_)
   dsimp only
   cases er:R (e (arrOf st) lo) (e (arrOf st) (lo+n - 1)) with
   | true=>rw [aC5 rfl];exact wpS_pure (h st n B n1 n2 as)
   | false =>
    rw [aC6 (by decide)]
    -- all of them are equal
    have c:∀ k,k < lo+n->S (e (arrOf st) k):=fun k K=>B.sat p (by omega)
    have all:Eqb R (arrOf st) lo (lo+n):=fun i j r u D y=>by
     -- j<=last<=first<=i
     have a1:=as j (lo+n - 1) D (by omega) (by omega)
     have a2:=as lo i (ay6 _) r u
     exact C.tr _ _ _ (c j y) (c lo (by omega)) (c i u) (C.tr _ _ _ (c j y) (c (lo+n - 1) (by omega)) (c lo (by omega)) a1 er) a2
    have U:Des R (arrOf st) lo (lo+n):=fun i j r u Z=>all i j r (by omega) (by omega) Z
    have hz:lo+n<=(arrOf st).size:=by rw [B.size];omega
    obtain ⟨q,a⟩:=ah7 C p B (ay6 lo) (show lo+n<=a0.size by omega) (ay6 _) (by omega) U all
    refine wpS_bind (wpS_modify ?_)
    refine O _ ⟨q,a,?_⟩
    show R (e (mirror (arrOf st) lo (lo+n) ((lo+n - lo) / 2)) (lo+n)) (e (mirror (arrOf st) lo (lo+n) ((lo+n - lo) / 2)) (lo+n - 1))=true
    rw [acx hz,acx hz,aC6 (by omega),aC5 (by omega)]
    rw [show lo+(lo+n) - 1 - (lo+n - 1)=lo by omega]
    cases e2:R (e (arrOf st) (lo+n)) (e (arrOf st) lo) with
    | true=>rfl
    | false =>
     have:=C.tr _ _ _ (c (lo+n - 1) (by omega)) (c lo (by omega)) (B.sat p (show lo+n < a0.size by omega)) er e2
     rw [this] at I;cases I
  ·have:n=1:=by omega
   subst this
   refine O st ⟨B,fun i j r u Z=>?_,I⟩
   have:i=j:=by omega
   subst this
   exact C.irr (B.sat p (by omega))
 case pf =>
  -- the falling part
  refine wpS_bind (adh ?_)
  refine wpS_bind (wpS_mono (Q:=fun (z:Option (Option Nat) × Nat × Nat) st'=>z.1=none/\Bs κ p0 a0 lo st'/\z.2.1<=nrem/\z.2.2+1<=z.2.1/\Des R (arrOf st') lo (lo+z.2.1)/\Eqb R (arrOf st') (lo+z.2.1 - (z.2.2+1)) (lo+z.2.1)) ?_ ?_)
  ·refine wpS_forRange (fun t (z:Option (Option Nat) × Nat × Nat) st'=>z.1=none/\z.2.1=t/\Bs κ p0 a0 lo st'/\z.2.2+1<=z.2.1/\Des R (arrOf st') lo (lo+z.2.1)/\Eqb R (arrOf st') (lo+z.2.1 - (z.2.2+1)) (lo+z.2.1)) ?_ ?_ ⟨rfl,rfl,N,by dsimp only;omega,?_,fun i j r u D y=>?_⟩
   ·rintro t ⟨o,m,b⟩ d t1 t2 ⟨F,T,q,J,a,f⟩
    dsimp only at F T J a f ⊢
    subst F T
    have c:∀ k,k < a0.size->S (e (arrOf d) k):=fun k K=>q.sat p K
    refine wpS_bind (afn C p q (by omega) (by omega) ?_)
    dsimp only
    cases er:R (e (arrOf d) (lo+m)) (e (arrOf d) (lo+m - 1)) with
    | true =>
     rw [aC5 rfl]
     refine aal (fun g=>?_) (fun g=>?_)
     ·have hz:lo+m<=(arrOf d).size:=by rw [q.size];omega
      obtain ⟨G,v⟩:=ah7 C p q (l:=lo+m - (b+1)) (h:=lo+m) (by omega) (by omega) (ay6 _) (by omega) a f
      have L:∀ k,e (mirror (arrOf d) (lo+m - (b+1)) (lo+m) ((lo+m - (lo+m - (b+1))) / 2)) k=if lo+m - (b+1)<=k/\k < lo+m then e (arrOf d) (lo+m - (b+1)+(lo+m) - 1 - k) else e (arrOf d) k:=fun k=>acx hz k
      refine wpS_bind (wpS_modify ?_)
      refine wpS_pure ⟨rfl,rfl,G,by dsimp only;omega,?_,fun i j r u D y=>?_⟩
      ·show Des R (mirror (arrOf d) (lo+m - (b+1)) (lo+m) ((lo+m - (lo+m - (b+1))) / 2)) lo (lo+(m+1))
       refine ae4 C (h:=lo+m) (fun k K=>G.sat p (by omega)) (by omega) v ?_
       rw [L,L,aC5 (by omega),aC6 (by omega)]
       rw [show lo+m - (b+1)+(lo+m) - 1 - (lo+m - 1)=lo+m - (b+1) by omega]
       exact C.tr _ _ _ (c _ (by omega)) (c (lo+m - 1) (by omega)) (c _ (by omega)) (C.asy _ _ (c _ (by omega)) (c _ (by omega)) er) (a _ _ (by omega) (by omega) (by omega))
      ·dsimp only at r u D y
       have:i=j:=by omega
       subst this
       exact C.irr (G.sat p (by omega))
     ·have:b=0:=by omega
      subst this
      refine wpS_pure ⟨rfl,rfl,q,by dsimp only;omega,ae4 C (h:=lo+m) (fun k K=>c k (by omega)) (by omega) a (C.asy _ _ (c _ (by omega)) (c _ (by omega)) er),fun i j r u D y=>?_⟩
      dsimp only at r u D y
      have:i=j:=by omega
      subst this
      exact C.irr (c _ (by omega))
    | false =>
     rw [aC6 (by decide)]
     refine wpS_bind (afn C p q (by omega) (by omega) ?_)
     dsimp only
     cases er2:R (e (arrOf d) (lo+m - 1)) (e (arrOf d) (lo+m)) with
     | true =>
      rw [aC5 rfl]
      exact wpS_pure ⟨rfl,q,by dsimp only;omega,J,a,f⟩
     | false =>
      rw [aC6 (by decide)]
      refine wpS_pure ⟨rfl,rfl,q,by dsimp only;omega,ae4 C (h:=lo+m) (fun k K=>c k (by omega)) (by omega) a er2,fun i j r u D y=>?_⟩
      dsimp only at r u D y
      by_cases ci:i=lo+m
      ·by_cases cj:j=lo+m
       ·rw [ci,cj];exact C.irr (c _ (by omega))
       ·rw [ci]
        exact C.tr _ _ _ (c j (by omega)) (c (lo+m - 1) (by omega)) (c _ (by omega)) (f (lo+m - 1) j (by omega) (by omega) (by omega) (by omega)) er
      ·by_cases cj:j=lo+m
       ·rw [cj]
        exact C.tr _ _ _ (c _ (by omega)) (c (lo+m - 1) (by omega)) (c i (by omega)) er2 (f i (lo+m - 1) (by omega) (by omega) (by omega) (by omega))
       ·exact f i j (by omega) (by omega) (by omega) (by omega)
   ·rintro ⟨o,m,b⟩ d ⟨F,T,q,J,a,f⟩
    dsimp only at F T J a f ⊢
    exact ⟨F,q,by omega,J,a,f⟩
   ·exact ae4 C (h:=lo+n) (fun k K=>N.sat p (by omega)) (by omega) U (C.asy _ _ (N.sat p (by omega)) (N.sat p (by omega)) W)
   ·dsimp only at r u D y
    have:i=j:=by omega
    subst this
    exact C.irr (N.sat p (by omega))
  ·rintro ⟨o,m,b⟩ d ⟨F,q,hm,J,a,f⟩
   dsimp only at F hm J a f ⊢
   subst F
   dsimp only
   refine amq (M:=M) (A:=A) (E:=E) (s:=s) (α:=Option Nat) (Q:=Q) (P:=fun H=>Bs κ p0 a0 lo H/\Des R (arrOf H) lo (lo+m)) (prog:=?prog2) (fun O=>?use2) (fun H ⟨G,v⟩=>?pf2)
   case use2 =>
    refine aal (fun g=>?_) (fun g=>?_)
    ·obtain ⟨G,v⟩:=ah7 C p q (l:=lo+m - (b+1)) (h:=lo+m) (by omega) (by omega) (ay6 _) (by omega) a f
     refine wpS_bind (wpS_modify ?_)
     exact O _ ⟨G,v⟩
    ·exact O _ ⟨q,a⟩
   case pf2 =>
    obtain ⟨B5,Y⟩:=aq6 C G (n:=m) (by omega) v
    refine wpS_bind (wpS_modify ?_)
    refine wpS_bind (akt C p B5 (by omega) hm hn Y fun n' a5 X a4 _=>?_)
    exact wpS_pure (h _ n' B5 (by omega) X a4)
end
def flat (rs:List (List Keyed × Nat)):List Keyed:=(rs.map (·.1)).flatten
def pend:Nat->List (List Keyed × Nat)->List (Nat × Nat × Nat)
 | _,[]=>[]
 | k,(r,pw) :: t=>(k,r.length,pw) :: pend (k+r.length) t
theorem agq:flat []=[]:=rfl
theorem abv (r:List Keyed × Nat) (t:List (List Keyed × Nat)):flat (r :: t)=r.1 ++ flat t:=rfl
theorem abl (p q:List (List Keyed × Nat)):flat (p ++ q)=flat p ++ flat q:=by simp [flat]
theorem ab8:∀ (k:Nat) (p q:List (List Keyed × Nat)),pend k (p ++ q)=pend k p ++ pend (k+(flat p).length) q
 | k,[],q=>by simp [pend,agq]
 | k,(r,pw) :: t,q=>by
  simp only [List.cons_append,pend,abv,az0,List.cons.injEq,true_and]
  rw [ab8 (k+r.length) t q,Nat.add_assoc]
theorem adn:∀ (k:Nat) (p:List (List Keyed × Nat)),(pend k p).length=p.length
 | _,[]=>rfl
 | k,(r,pw) :: t=>by simp [pend,adn _ t]
section
variable {M:Model} {A:Around} {E:Value->Shared->Prop} {s:Shared} {κ:SortKind} {S:Keyed->Prop} {R:Keyed->Keyed->Bool} {a0:Array Keyed}
structure Rn (κ:SortKind) (R:Keyed->Keyed->Bool) (a0:Array Keyed) (rs:List (List Keyed × Nat)) (rest:List Keyed) (st:SortSt):Prop where
 k:kindOf st = κ
 f:failedOf st=none
 arr:(arrOf st).toList=flat rs ++ rest
 pn:(pendingOf st).toList=pend 0 rs
 ok:∀ r∈rs,r.1 ≠ []/\Srt R r.1
 perm:(arrOf st).toList.Perm a0.toList
theorem atz {α:Type} (a b:List α) (x c y : α):((a ++ x :: y :: b).set a.length c).eraseIdx (a.length+1)=a ++ c :: b:=by
 rw [List.set_append_right _ _ (ay6 _),Nat.sub_self,List.set_cons_zero,List.eraseIdx_append_of_length_le (by omega)]
 rw [show a.length+1 - a.length=1 by omega]
 rfl
theorem aha (C:Cmp M A E s κ S R) (D:∀ x∈a0.toList,S x) {st:SortSt} {rs:List (List Keyed × Nat)} {rest:List Keyed} (N:Rn κ R a0 rs rest st) {i:Nat} (hi:i+1 < rs.length) {Q:Bool->SortSt->Prop}
  (h:∀ st' n,Rn κ R a0 n rest st'->n.length+1=rs.length->(flat n).length=(flat rs).length->Q true st'):wpS M A E s (akr i) Q st:=by
 obtain ⟨p,a,pw,b,pw2,q,e,G⟩:∃ p a pw b pw2 q,rs=p ++ (a,pw) :: (b,pw2) :: q/\p.length=i:=by
  have H:rs=rs.take i ++ rs.drop i:=(aA0 i rs).symm
  have hd:rs.drop i=rs[i] :: rs[i+1] :: rs.drop (i+2):=by
   rw [List.drop_eq_getElem_cons (by omega),List.drop_eq_getElem_cons hi]
  exact ⟨rs.take i,rs[i].1,rs[i].2,rs[i+1].1,rs[i+1].2,rs.drop (i+2),by rw [← hd];exact H,by simp;omega⟩
 subst G
 have d:=N.ok (a,pw) (by rw [e];simp)
 have g:=N.ok (b,pw2) (by rw [e];simp)
 have l:(pendingOf st).toList=pend 0 p ++ ((flat p).length,a.length,pw) :: ((flat p).length+a.length,b.length,pw2) :: pend ((flat p).length+a.length+b.length) q:=by
  rw [N.pn,e,ab8];simp [pend]
 have c:(pend 0 p).length=p.length:=adn 0 p
 have j:(arrOf st).toList=flat p ++ a ++ b ++ (flat q ++ rest):=by
  rw [N.arr,e,abl,abv,abv];simp [az3]
 refine an3 C (i:=p.length) (pw:=pw) (pw2:=pw2) j (fun x F=>D x (N.perm.mem_iff.mp F)) ?_ ?_ d.1 g.1 d.2 g.2 N.k N.f fun st' m y B v u pm I=>?_
 ·rw [← aB3,l,aA7 (by omega),c,Nat.sub_self];rfl
 ·rw [← aB3,l,aA7 (by omega),c,show p.length+1 - p.length=1 by omega];rfl
 ·refine h st' (p ++ (m,pw) :: q) ⟨y,B,?_,?_,fun r o=>?_,?_⟩ (by rw [e];simp;omega) ?_
  ·rw [u,abl,abv];simp [az3]
  ·rw [v,Array.toList_eraseIdxIfInBounds,Array.toList_setIfInBounds,l,← c,atz,ab8]
   simp [pend,pm.length_eq,Nat.add_assoc]
  ·rcases ay7.mp o with o | o
   ·exact N.ok r (by rw [e];simp [o])
   ·rcases ay8.mp o with rfl | o
    ·refine ⟨?_,I⟩
     intro z
     have:=pm.length_eq
     have w:m=[]:=z
     rw [w] at this
     have:=aC9.mpr d.1
     simp at *
     omega
    ·exact N.ok r (by rw [e];simp [o])
  ·rw [u]
   refine List.Perm.trans ?_ N.perm
   rw [j]
   have:(flat p ++ a ++ b ++ (flat q ++ rest))=flat p ++ (a ++ b) ++ (flat q ++ rest):=by simp [az3]
   rw [this]
   exact (pm.append_left (flat p)).append_right _
  ·rw [e,abl,abl,abv,abv,abv]
   simp [pm.length_eq]
   omega
theorem Rn.run {rs:List (List Keyed × Nat)} {rest:List Keyed} {st st':SortSt} {n:Nat} (N:Rn κ R a0 rs rest st) (B:Bs κ (pendingOf st) (arrOf st) (flat rs).length st') (s:1<=n) (hn:(flat rs).length+n<=(arrOf st).size) (as:Asc R (arrOf st') (flat rs).length ((flat rs).length+n)) :
  ∃ r a,r.length=n/\r ≠ []/\Srt R r/\Rn κ R a0 rs (r ++ a) st':=by
 have hsz:=B.size
 have c:(arrOf st').toList.take (flat rs).length=flat rs:=by
  have o:(arrOf st').toList.take (flat rs).length=(arrOf st).toList.take (flat rs).length:=by
   apply aD2
   intro k
   rw [List.getElem?_take,List.getElem?_take]
   split
   ·rename_i b
    have:=B.pre k b
    simpa using this
   ·rfl
  rw [o,N.arr,List.take_left]
 refine ⟨((arrOf st').toList.drop (flat rs).length).take n,((arrOf st').toList.drop (flat rs).length).drop n,?_,?_,?_,B.k,B.f,?_,?_,N.ok,B.perm.trans N.perm⟩
 ·simp;omega
 ·intro z
  have:=congrArg List.length z
  simp at this
  omega
 ·unfold Srt
  rw [aD7]
  intro i j hi hj q
  have d:j < n:=by simp at hj;omega
  have get:∀ k,k < n->∀ (b:k < (((arrOf st').toList.drop (flat rs).length).take n).length),(((arrOf st').toList.drop (flat rs).length).take n)[k]=e (arrOf st') ((flat rs).length+k):=by
   intro k b h
   rw [List.getElem_take,List.getElem_drop]
   have l:=ag9 (xs:=arrOf st') (k:=(flat rs).length+k) (by omega)
   have m:(flat rs).length+k < (arrOf st').toList.length:=by simp;omega
   have g:(arrOf st').toList[(flat rs).length+k]?=some (e (arrOf st') ((flat rs).length+k)):=by simpa using l
   rw [ay0 m] at g
   exact aA5 g
  rw [get i (by omega) hi,get j d hj]
  exact as _ _ (by omega) (by omega) (by omega)
 ·rw [aA0]
  conv=>lhs;rw [← aA0 (flat rs).length (arrOf st').toList,c]
 ·rw [B.p];exact N.pn
theorem Rn.bs {rs:List (List Keyed × Nat)} {rest:List Keyed} {st:SortSt} (N:Rn κ R a0 rs rest st):Bs κ (pendingOf st) (arrOf st) (flat rs).length st:=⟨N.k,N.f,rfl,List.Perm.refl _,fun _ _=>rfl⟩
theorem Rn.size {rs:List (List Keyed × Nat)} {rest:List Keyed} {st:SortSt} (N:Rn κ R a0 rs rest st):(arrOf st).size=a0.size:=by
 have:=N.perm.length_eq;simpa using this
theorem Rn.len {rs:List (List Keyed × Nat)} {rest:List Keyed} {st:SortSt} (N:Rn κ R a0 rs rest st):(flat rs).length+rest.length=a0.size:=by
 have:=congrArg List.length N.arr
 have a:=N.size
 simp at this
 omega
theorem aq7 {rs:List (List Keyed × Nat)} (h:∀ r∈rs,r.1 ≠ []):rs.length<=(flat rs).length:=by
 induction rs with
 | nil=>simp [flat]
 | cons r t ih =>
  rw [abv,az0,aB8]
  have:=ih fun q a=>h q (az4 _ a)
  have:=aC9.mpr (h r az7)
  omega
theorem aku {α:Type} (f : α->α):∀ (l:List α) (x : α),(l ++ [x]).modify l.length f=l ++ [f x]
 | [],x=>rfl
 | y :: l,x=>by
  show (y :: (l ++ [x])).modify (l.length+1) f=_
  rw [List.modify_succ_cons,aku f l x];rfl
theorem al3 {α:Type} (arr:Array α) (f : α->α) {l:List α} {x : α} (h:arr.toList=l ++ [x]):(arr.modify (arr.size - 1) f).toList=l ++ [f x]:=by
 have hs:arr.size=l.length+1:=by have:=congrArg List.length h;simpa using this
 rw [Array.toList_modify,h,hs,show l.length+1 - 1=l.length by omega]
 exact aku f l x
theorem at3 {α:Type} (arr:Array α) {l:List α} {x : α} (h:arr.toList=l ++ [x]):arr.back?=some x:=by
 have hs:arr.size=l.length+1:=by have:=congrArg List.length h;simpa using this
 rw [Array.back?_eq_getElem?,← aB3,h,hs]
 simp
theorem amr:∀ (rs:List (List Keyed × Nat)),rs ≠ []->∃ p x,rs=p ++ [x]
 | rs,h=>⟨rs.dropLast,rs.getLast h,(List.dropLast_concat_getLast h).symm⟩
theorem Rn.push {rs:List (List Keyed × Nat)} {r rest:List Keyed} {st st':SortSt} (N:Rn κ R a0 rs (r ++ rest) st) (c:r ≠ []) (hs:Srt R r) (k:kindOf st'=kindOf st) (f:failedOf st'=failedOf st) (a:arrOf st'=arrOf st)
  (p:pendingOf st'=(pendingOf st).push ((flat rs).length,r.length,0)):Rn κ R a0 (rs ++ [(r,0)]) rest st':=by
 refine ⟨k.trans N.k,f.trans N.f,?_,?_,fun q b=>?_,by rw [a];exact N.perm⟩
 ·rw [a,N.arr,abl];simp [flat,az3]
 ·rw [p,Array.toList_push,N.pn,ab8];simp [pend]
 ·rcases ay7.mp b with b | b
  ·exact N.ok q b
  ·have:q=(r,0):=by simpa using b
   subst this;exact ⟨c,hs⟩
theorem Rn.pow {rs:List (List Keyed × Nat)} {rest:List Keyed} {st st':SortSt} {pw:Nat} (N:Rn κ R a0 rs rest st) (hz:rs ≠ []) (k:kindOf st'=kindOf st) (f:failedOf st'=failedOf st) (a:arrOf st'=arrOf st)
  (p:pendingOf st'=(pendingOf st).modify ((pendingOf st).size - 1) fun x=>(x.1,x.2.1,pw)):∃ c,Rn κ R a0 c rest st'/\(flat c).length=(flat rs).length:=by
 obtain ⟨q,⟨b,d⟩,e⟩:=amr rs hz
 subst e
 have h:(pendingOf st).toList=pend 0 q ++ [((flat q).length,b.length,d)]:=by rw [N.pn,ab8];simp [pend]
 refine ⟨q ++ [(b,pw)],⟨k.trans N.k,f.trans N.f,?_,?_,fun x g=>?_,by rw [a];exact N.perm⟩,by simp [abl,abv,agq]⟩
 ·rw [a,N.arr];simp [abl,abv,agq]
 ·rw [p,al3 _ _ h,ab8];simp [pend]
 ·rcases ay7.mp g with g | g
  ·exact N.ok x (by simp [g])
  ·have:x=(b,pw):=by simpa using g
   subst this
   exact N.ok (b,d) (by simp)
theorem awa {c:Prop} [Decidable c] {x y z:Nat} (b:x+1 < z) (a:y+1 < z):(if c then x else y)+1 < z:=by
 split
 ·exact b
 ·exact a
theorem Rn.powK {rs:List (List Keyed × Nat)} {rest:List Keyed} {st st':SortSt} {pw:Nat} {G:SortSt->Prop} (N:Rn κ R a0 rs rest st) (hz:rs ≠ []) (h:∀ b,Rn κ R a0 b rest st'->(flat b).length=(flat rs).length->G st') (k:kindOf st'=kindOf st) (f:failedOf st'=failedOf st) (a:arrOf st'=arrOf st)
  (p:pendingOf st'=(pendingOf st).modify ((pendingOf st).size - 1) fun x=>(x.1,x.2.1,pw)):G st':=by
 obtain ⟨b,c,d⟩:=N.pow hz k f a p
 exact h b c d
theorem at4 (C:Cmp M A E s κ S R) (Z:∀ x∈a0.toList,S x) {st:SortSt} (h0:arrOf st=a0) (hk:kindOf st = κ) (hf:failedOf st=none) (hp:pendingOf st = #[]) {Q:Unit->SortSt->Prop}
  (h:∀ st',failedOf st'=none->(arrOf st').toList.Perm a0.toList->Srt R (arrOf st').toList->Q () st'):wpS M A E s axn Q st:=by
 have o:(arrOf st).size=a0.size:=by rw [h0]
 refine wpS_bind (wpS_get ?_)
 dsimp only
 refine wpS_bind (wpS_mono (Q:=fun (c:Option Unit × Nat) u=>c.1=none/\∃ rs,Rn κ R a0 rs [] u) ?_ ?_)
 ·refine wpS_forRange (fun i (c:Option Unit × Nat) u=>c.1=none/\∃ rs rest,Rn κ R a0 rs rest u/\c.2=(flat rs).length/\i<=c.2) ?_ ?_ ⟨rfl,[],a0.toList,⟨hk,hf,by rw [h0];rfl,by rw [hp];rfl,fun r J=>(by cases J),by rw [h0]⟩,rfl,ay6 _⟩
  ·rintro i ⟨c1,lo⟩ u _ hi ⟨F,rs,rest,N,X,D⟩
   dsimp only at F X D ⊢
   subst F X
   have U:=N.len
   have b2:i < a0.size:=by rw [← o];exact hi
   refine aal (fun a6=>?_) (fun a2=>?_)
   ·have b0:a0.size<=(flat rs).length:=by rw [← o];exact a6
    refine wpS_pure ⟨rfl,rs,?_⟩
    have:rest=[]:=aE2 (by omega)
    subst this
    exact N
   ·have a8:(flat rs).length < a0.size:=by
     have:¬ (flat rs).length ≥ (arrOf st).size:=a2
     omega
    refine wpS_bind (api C (fun x hx=>Z x (N.perm.mem_iff.mp hx)) N.bs (nrem:=(arrOf st).size - (flat rs).length) (by omega) (by rw [N.size];omega) fun b4 n B2 n1 n2 P=>?_)
    dsimp only
    have B:=N.size
    refine aal (fun m=>?g1) (fun m=>?g2)
    case' g1 =>
     refine wpS_bind (adh ?_)
     generalize hmr:min (_:Nat) _=nn
     refine wpS_bind (an4 C (fun x hx=>Z x (N.perm.mem_iff.mp hx)) B2 (n:=nn) (ok:=n) ?_ ?_ ?_ P fun b1 B3 a5=>?_)
     ·have:nn<=(arrOf st).size - (flat rs).length:=by rw [← hmr];exact Nat.min_le_left _ _
      rw [B];omega
     ·rw [← hmr];exact Nat.le_min.mpr ⟨n2,aD5 m⟩
     ·have:n<=nn:=by rw [← hmr];exact Nat.le_min.mpr ⟨n2,aD5 m⟩
      omega
     rw [aC6 (by decide)]
     have O:1<=nn:=by
      have:n<=nn:=by rw [← hmr];exact Nat.le_min.mpr ⟨n2,aD5 m⟩
      omega
     have a9:nn<=(arrOf st).size - (flat rs).length:=by rw [← hmr];exact Nat.min_le_left _ _
     obtain ⟨r,g,J,y,I,T⟩:=N.run B3 O (by rw [B];omega) a5
     clear hmr
     subst J
    case' g2 =>
     obtain ⟨r,g,J,y,I,T⟩:=N.run B2 n1 (by rw [B];omega) P
     clear m
     subst J
    all_goals
     refine wpS_bind (wpS_get ?_)
     rcases Classical.em (rs=[]) with hz | hz
     ·have w:=T.pn
      rw [hz] at w
      have hb:=Array.back?_eq_none_iff.mpr (Array.toList_eq_nil_iff.mp w)
      rw [hb]
      dsimp only
      refine wpS_bind (wpS_modify (wpS_pure ⟨rfl,rs ++ [(r,0)],g,T.push y I rfl rfl rfl rfl,?_,?_⟩))
      ·rw [abl,az0];simp [flat]
      ·have:=aC9.mpr y
       show i+1<=(flat rs).length+r.length
       omega
     ·obtain ⟨q,⟨b,W⟩,eq⟩:=amr rs hz
      have w:=T.pn
      rw [eq,ab8,show pend (0+(flat q).length) [(b,W)]=[((flat q).length,b.length,W)] by simp [pend]] at w
      have hb:=at3 _ w
      rw [hb]
      dsimp only
      refine wpS_bind (wpS_mono (Q:=fun (c:Option Unit × Unit) d=>c.1=none/\∃ a,Rn κ R a0 a (r ++ g) d/\a ≠ []/\(flat a).length=(flat rs).length) ?_ ?_)
      ·refine wpS_forRange (fun _ (c:Option Unit × Unit) d=>c.1=none/\∃ a,Rn κ R a0 a (r ++ g) d/\a ≠ []/\(flat a).length=(flat rs).length) ?_ (fun c d h4=>h4) ⟨rfl,rs,T,hz,rfl⟩
       rintro i4 ⟨Y,u4⟩ d _ _ ⟨v,a,l,z4,p⟩
       dsimp only at v
       subst v
       refine wpS_bind (wpS_get ?_)
       have L:(pendingOf d).size=a.length:=by
        have:=congrArg List.length l.pn
        rw [adn] at this
        simpa using this
       by_cases K:(pendingOf d).size > 1
       ·rw [aC5 K]
        obtain ⟨x4,a1⟩:∃ x4,(pendingOf d)[(pendingOf d).size - 2]?=some x4:=⟨_,ay4 (by omega)⟩
        obtain ⟨y1,y2,y3⟩:=x4
        rw [a1]
        dsimp only
        refine aal (fun _=>wpS_pure ⟨rfl,a,l,z4,p⟩) (fun _=>?_)
        rw [L]
        refine wpS_bind (aha C Z l (i:=a.length - 2) (by omega) fun a7 H N5 l5 f5=>?_)
        rw [aC6 (by decide)]
        refine wpS_pure ⟨rfl,H,N5,?_,by omega⟩
        rintro rfl
        simp at l5
        omega
       ·rw [aC6 K]
        exact wpS_pure ⟨rfl,a,l,z4,p⟩
      ·rintro ⟨Y,u4⟩ d ⟨v,a,l,z4,p⟩
       dsimp only at v ⊢
       subst v
       dsimp only
       refine wpS_bind (wpS_modify ?_)
       refine l.powK (G:=fun z=>wpS M A E s _ _ z) z4 (fun a3 N6 l6=>?_) rfl rfl rfl rfl
       refine wpS_bind (wpS_modify (wpS_pure ⟨rfl,a3 ++ [(r,0)],g,N6.push y I rfl rfl rfl ?_,?_,?_⟩))
       ·rw [l6,p]
       ·rw [abl,az0,l6,p];simp [flat]
       ·have:=aC9.mpr y
        show i+1<=(flat rs).length+r.length
        omega
  ·rintro ⟨c1,lo⟩ u ⟨F,rs,rest,N,X,D⟩
   dsimp only at F X D ⊢
   refine ⟨F,rs,?_⟩
   have U:=N.len
   have a4:(arrOf st).size<=lo:=aA9 (Nat.le_max_right 0 _) D
   have:rest=[]:=aE2 (by rw [o] at a4;omega)
   subst this
   exact N
 ·rintro ⟨c1,lo⟩ u ⟨F,rs,N⟩
  dsimp only at F ⊢
  subst F
  dsimp only
  refine wpS_bind (wpS_mono (Q:=fun (c:Option Unit × Unit) d=>c.1=none/\∃ a,Rn κ R a0 a [] d/\a.length<=1) ?_ ?_)
  ·refine wpS_forRange (fun j (c:Option Unit × Unit) d=>c.1=none/\∃ a,Rn κ R a0 a [] d/\(a.length<=1\/a.length+j<=a0.size)) ?_ ?_ ⟨rfl,rs,N,.inr ?_⟩
   ·rintro j ⟨Y,u4⟩ d _ _ ⟨v,a,l,p⟩
    dsimp only at v
    subst v
    refine wpS_bind (wpS_get ?_)
    have L:(pendingOf d).size=a.length:=by
     have:=congrArg List.length l.pn
     rw [adn] at this
     simpa using this
    refine aal (fun K=>wpS_pure ⟨rfl,a,l,?_⟩) (fun K=>?_)
    ·have:(pendingOf d).size<=1:=K
     omega
    ·have b3:¬ (pendingOf d).size<=1:=K
     refine wpS_bind (aha C Z l (i:=_) ?_ fun a7 H N5 l5 f5=>?_)
     ·refine awa ?_ ?_
      ·show (pendingOf d).size - 2 - 1+1 < a.length
       omega
      ·show (pendingOf d).size - 2+1 < a.length
       omega
     rw [aC6 (by decide)]
     exact wpS_pure ⟨rfl,H,N5,by omega⟩
   ·rintro ⟨Y,u4⟩ d ⟨v,a,l,p⟩
    refine ⟨v,a,l,?_⟩
    rcases p with p | p
    ·exact p
    ·have:(arrOf st).size<=max 0 (arrOf st).size:=Nat.le_max_right _ _
     have h3:a.length+max 0 (arrOf st).size<=a0.size:=p
     omega
   ·have:=aq7 fun r J=>(N.ok r J).1
    have:=N.len
    omega
  ·rintro ⟨Y,u4⟩ d ⟨v,a,l,p⟩
   dsimp only at v ⊢
   subst v
   dsimp only
   refine wpS_pure (h d l.f l.perm ?_)
   rw [l.arr]
   match a,p with
   | [],_=>exact List.Pairwise.nil
   | [x],_=>simpa [flat] using (l.ok x (by simp)).2
end
end TS
namespace L2
open PySem PySem.Spec PyProof.Rows
mutual
inductive Rep (H:Hp):V->PyData->Prop
 | non:Rep H .non .none
 | bl (b:Bool):Rep H (.bl b) (.bool b)
 | int (i:Int):Rep H (.int i) (.int i)
 | str (x:Str):Rep H (.str x) (.str x)
 | lst {a:Addr} {xs:List V} {ds:List PyData}:H a=some (.lst xs)->Reps H xs ds->Rep H (.ref a) (.list ds)
 | tup {a:Addr} {xs:List V} {ds:List PyData}:H a=some (.tup xs)->Reps H xs ds->Rep H (.ref a) (.tuple ds)
inductive Reps (H:Hp):List V->List PyData->Prop
 | nil:Reps H [] []
 | cons {v:V} {vs:List V} {d:PyData} {ds:List PyData}:Rep H v d->Reps H vs ds->Reps H (v :: vs) (d :: ds)
end
mutual
theorem Rep.same {H H':Hp} (s:Same H H'):∀ {v:V} {d:PyData},Rep H v d->Rep H' v d
 | _,_,.non => .non
 | _,_,.bl b => .bl b
 | _,_,.int i => .int i
 | _,_,.str x => .str x
 | _,_,.lst h r => .lst (s _ _ h) (Reps.same s r)
 | _,_,.tup h r => .tup (s _ _ h) (Reps.same s r)
theorem Reps.same {H H':Hp} (s:Same H H'):∀ {vs:List V} {ds:List PyData},Reps H vs ds->Reps H' vs ds
 | _,_,.nil => .nil
 | _,_,.cons r t => .cons (Rep.same s r) (Reps.same s t)
end
theorem Reps.length {H:Hp}:∀ {vs:List V} {ds:List PyData},Reps H vs ds->vs.length=ds.length
 | _,_,.nil=>rfl
 | _,_,.cons _ t=>by simp [Reps.length t]
theorem Reps.get {H:Hp}:∀ {vs:List V} {ds:List PyData} {i:Nat} {d:PyData},Reps H vs ds->ds[i]?=some d->∃ v,vs[i]?=some v/\Rep H v d
 | _,_,_,_,.nil,e=>by simp at e
 | _,_,0,_,.cons r _,e=>by simp at e;subst e;exact ⟨_,rfl,r⟩
 | _,_,i+1,d,.cons _ t,e=>by
  obtain ⟨u,b,a⟩:=Reps.get (i:=i) (d:=d) t (by simpa using e)
  exact ⟨u,by simpa using b,a⟩
theorem Reps.append {H:Hp}:∀ {vs a:List V} {ds es:List PyData},Reps H vs ds->Reps H a es->Reps H (vs ++ a) (ds ++ es)
 | _,_,_,_,.nil,s=>s
 | _,_,_,_,.cons r t,s => .cons r (Reps.append t s)
section
variable {X:Cx} {pins:List (Addr × Obj)} {σ:St} {H:Hp} {s:Shared}
mutual
theorem Rep.reads (I:Inv X pins σ H s):∀ {v:V} {d:PyData} {u:Value},Rep H v d->RelV v u->∃ as,Reads s.heap u d as
 | _,_,_,.non,r=>by cases r;exact ⟨_,.none⟩
 | _,_,_,.bl b,r=>by cases r;exact ⟨_,.bool b⟩
 | _,_,_,.int i,r=>by obtain ⟨t,rfl⟩:=r;exact ⟨_,.int i t⟩
 | _,_,_,.str x,r=>by obtain ⟨t,rfl⟩:=r;exact ⟨_,.str x t⟩
 | _,_,_,.lst (a:=a) (xs:=xs) h q,r=>by
  cases r
  obtain ⟨_,its,n,f,e⟩:=(show ObjOk X.prog X.w H s.heap a (.lst xs) from I.hok a _ h)
  obtain ⟨as,g⟩:=Reps.reads I q f
  exact ⟨_,.list e rfl rfl (by simpa using g)⟩
 | _,_,_,.tup (a:=a) (xs:=xs) h q,r=>by
  cases r
  obtain ⟨_,its,f,o,e,c,n,dd⟩:=(show ObjOk X.prog X.w H s.heap a (.tup xs) from I.hok a _ h)
  obtain ⟨as,g⟩:=Reps.reads I q f
  exact ⟨_,.tuple e c dd (by simpa using g)⟩
theorem Reps.reads (I:Inv X pins σ H s):∀ {vs:List V} {ds:List PyData} {us:List Value},Reps H vs ds->Vals vs us->∃ as,ReadsAll s.heap us ds as
 | _,_,_,.nil,.nil=>⟨_,.nil⟩
 | _,_,_,.cons r t,.cons q qs=>by
  obtain ⟨as,a⟩:=Rep.reads I r q
  obtain ⟨bs,rb⟩:=Reps.reads I t qs
  exact ⟨_,.cons a rb⟩
end
end
mutual
def aau:PyData->Bool
 | .none | .int _=>true
 | .list xs | .tuple xs=>plainDs xs
 | _=>false
def plainDs:List PyData->Bool
 | []=>true
 | x :: xs=>aau x && plainDs xs
end
mutual
theorem afo:∀ (d:PyData),aau d=true->d.canLay0=true
 | .none,_=>by simp [PyData.canLay0]
 | .int _,_=>by simp [PyData.canLay0]
 | .list xs,h=>by simp only [PyData.canLay0];exact plain_lays xs (by simpa [aau] using h)
 | .tuple xs,h=>by simp only [PyData.canLay0];exact plain_lays xs (by simpa [aau] using h)
 | .bool _,h=>by simp [aau] at h
 | .str _,h=>by simp [aau] at h
 | .dict _,h=>by simp [aau] at h
theorem plain_lays:∀ (ds:List PyData),plainDs ds=true->PyData.canLayAll0 ds=true
 | [],_=>by simp [PyData.canLayAll0]
 | x :: xs,h=>by
  have h':aau x=true/\plainDs xs=true:=by simpa [plainDs] using h
  simp only [PyData.canLayAll0,afo x h'.1,plain_lays xs h'.2,Bool.and_self]
end
mutual
theorem aix:∀ (d e:PyData),aau d=true->aau e=true->(PyData.eqv d e=true ↔ d=e)
 | .none,e,_,h=>by cases e <;> simp_all [aau,PyData.eqv]
 | .int i,e,_,h=>by cases e <;> simp_all [aau,PyData.eqv]
 | .list xs,e,g,h=>by
  cases e with
  | list ys=>simp only [PyData.eqv,PyData.list.injEq];exact eqvAll_plain xs ys (by simpa [aau] using g) (by simpa [aau] using h)
  | _=>simp_all [aau,PyData.eqv]
 | .tuple xs,e,g,h=>by
  cases e with
  | tuple ys=>simp only [PyData.eqv,PyData.tuple.injEq];exact eqvAll_plain xs ys (by simpa [aau] using g) (by simpa [aau] using h)
  | _=>simp_all [aau,PyData.eqv]
 | .bool _,_,h,_=>by simp [aau] at h
 | .str _,_,h,_=>by simp [aau] at h
 | .dict _,_,h,_=>by simp [aau] at h
theorem eqvAll_plain:∀ (ds es:List PyData),plainDs ds=true->plainDs es=true->(PyData.eqvAll ds es=true ↔ ds=es)
 | [],[],_,_=>by simp [PyData.eqvAll]
 | [],_ :: _,_,_=>by simp [PyData.eqvAll]
 | _ :: _,[],_,_=>by simp [PyData.eqvAll]
 | x :: xs,y :: ys,g,h=>by
  have g':aau x=true/\plainDs xs=true:=by simpa [plainDs] using g
  have h':aau y=true/\plainDs ys=true:=by simpa [plainDs] using h
  simp only [PyData.eqvAll,aE1,List.cons.injEq,aix x y g'.1 h'.1,eqvAll_plain xs ys g'.2 h'.2]
end
theorem al4 (ds:List PyData):plainDs ds=true ↔ ∀ d∈ds,aau d=true:=by
 induction ds with
 | nil=>simp [plainDs]
 | cons d ds ih=>simp [plainDs,ih]
def rEqD:R2:=fun x y H Q=>∃ d e,Rep H x d/\Rep H y e/\aau d=true/\aau e=true/\d.depth<=60/\Q (.bl (PyData.eqv d e)) H
section
variable {X:Cx}
theorem awb (i:X.A.units+64 < cLine):OpR X (compareOp .Eq) rEqD:=by
 intro pins s σ H x y v u Q I c f h
 obtain ⟨d,e,b,re,hd,g,hz,q⟩:=h
 obtain ⟨as,a⟩:=b.reads I c
 obtain ⟨bs,rb⟩:=re.reads I f
 refine SeqAt.compareEq_reads a rb (afo _ hd) (afo _ g) ?_ ⟨.bl _,H,I,rfl,q⟩
 have:=Nat.min_le_left d.depth e.depth
 omega
def rIsi (K:Frag):List V->Hp->VK->Prop:=fun xs H Q=>∃ (x:V) (T:String) (t:Value) (b:Bool),xs=[x,.ty T]/\TyOf K H x t/\kitOne K t (.type T)=some b/\Q (.bl b) H
theorem abh:aba X (.builtin "isinstance") (rIsi X.K):=by
 intro pins s σ H xs us Q I r h
 obtain ⟨x,T,t,b,rfl,ty,e,q⟩:=h
 obtain ⟨u,c,rfl,a,d⟩:=anr r
 cases d
 exact ao5 I a ty e fun f=>⟨.bl b,H,I.tok _,rfl,q⟩
end
end L2
namespace HT
open PySem PyProof.Rows
section
open PySem.SeqAt
open PySem.AutoSeq1 (wpAny_loadPart')
open PySem.MeetsSeq PySem.MeetsSeq2 PySem.MeetsSeq3
end
section
variable {prog:Program} {w:World} {A:Around} {E:Value->Shared->Prop} {s:Shared}
end
end HT
namespace L2
open PySem PySem.Spec PyProof.Rows
section
variable {X:Cx}
end
end L2
namespace HT
open PySem PyProof.Rows
theorem ah8 (val:Nat->Int):∀ k,argBest (fun i j=>decide (val i > val j)) k<=k/\∀ i,i<=k->val i<=val (argBest (fun i j=>decide (val i > val j)) k)
 | 0 => ⟨Nat.le_refl _, fun i hi => by have:i=0 := by omega
                                       subst this;exact Int.le_refl _⟩
 | k+1=>by
  obtain ⟨b,a⟩:=ah8 val k
  unfold argBest
  by_cases hc:val (k+1) > val (argBest (fun i j=>decide (val i > val j)) k)
  ·rw [aC5 (aB5 hc)]
   refine ⟨ay6 _,fun i hi=>?_⟩
   by_cases e:i=k+1
   ·subst e;exact Int.le_refl _
   ·have:=a i (by omega)
    exact Int.le_trans this (Int.le_of_lt hc)
  ·rw [aC6 (by simpa using hc)]
   refine ⟨by omega,fun i hi=>?_⟩
   by_cases e:i=k+1
   ·subst e;omega
   ·exact a i (by omega)
theorem ah9 (val:Nat->Int):∀ k,argBest (fun i j=>decide (val i < val j)) k<=k/\∀ i,i<=k->val (argBest (fun i j=>decide (val i < val j)) k)<=val i
 | 0 => ⟨Nat.le_refl _, fun i hi => by have:i=0 := by omega
                                       subst this;exact Int.le_refl _⟩
 | k+1=>by
  obtain ⟨b,a⟩:=ah9 val k
  unfold argBest
  by_cases hc:val (k+1) < val (argBest (fun i j=>decide (val i < val j)) k)
  ·rw [aC5 (aB5 hc)]
   refine ⟨ay6 _,fun i hi=>?_⟩
   by_cases e:i=k+1
   ·subst e;exact Int.le_refl _
   ·have:=a i (by omega)
    exact Int.le_trans (Int.le_of_lt hc) this
  ·rw [aC6 (by simpa using hc)]
   refine ⟨by omega,fun i hi=>?_⟩
   by_cases e:i=k+1
   ·subst e;omega
   ·exact a i (by omega)
def val (ns:List Int) (i:Nat):Int:=(ns[i]?).getD 0
theorem ac9 {us:List Value} {ns:List Int} (hi:IntsAre us ns) (i:Nat) (v:Value) (h:us.toArray[i]?=some v):∃ t,v=.int (val ns i) t:=by
 induction hi generalizing i with
 | nil=>simp at h
 | cons n t r ih =>
  cases i with
  | zero=>simp at h;subst h;exact ⟨t,by simp [val]⟩
  | succ i =>
   obtain ⟨t',e⟩:=ih i (by simpa using h)
   exact ⟨t',by simpa [val] using e⟩
theorem af7 {ns:List Int} {i:Nat} (h:i < ns.length):val ns i∈ns:=by
 unfold val
 rw [ay0 h]
 exact aC3 h
theorem ahb {ns:List Int} {x:Int} (h:x∈ns):∃ i,i < ns.length/\val ns i=x:=by
 obtain ⟨i,hi,e⟩:=aE5.mp h
 exact ⟨i,hi,by unfold val;rw [ay0 hi];exact e⟩
section
variable {prog:Program} {w:World} {A:Around} {E:Value->Shared->Prop} {s:Shared}
theorem max_list {l:Addr} {us:List Value} {ns:List Int} {Q:Value->Shared->Prop} (hh:A.handled=none) (c:s.heap.IsList l us.toArray) (hi:IntsAre us ns) (d:ns ≠ [])
  (h:∀ m t h' f,m∈ns->(∀ x∈ns,x<=m)->(∀ b o,s.heap.get? b=some o->h'.get? b=some o)->Q (.int m t) { s with heap:=h',toks:=f }) :
  wpAny (model prog w) A (call (.builtin "max") [.ref l]) Q E s:=by
 have a:l < s.heap.objs.size:=by obtain ⟨_,e,_⟩:=c;exact aF8 e
 have hz:us.length=ns.length:=hi.length
 have y:0 < ns.length:=aC9.mpr d
 refine call_max_walk (aG8 c ?_)
 refine ⟨_,[s.heap.objs.size,l],_,_,_,_,_,rfl,Walks.list (A:=A.in1) hh _ l (az5 a) us.toArray,⟨⟨_,aF9 _ rfl,rfl,rfl⟩,c.push _⟩,fun b hb=>?_,by simp;omega,CmpOf.ints_gt (val ns) (fun i v=>ac9 hi i v),fun v h' f q j=>?_⟩
 ·show b < (s.heap.push _).objs.size
  rw [aG5]
  rcases ay8.mp hb with rfl | hb
  ·exact aF3 _
  ·rcases ay8.mp hb with rfl | hb
   ·exact aC8 a
   ·cases hb
 ·obtain ⟨t,e⟩:=ac9 hi _ _ q
  obtain ⟨p,g⟩:=ah8 (val ns) (us.toArray.size - 1)
  have hs:us.toArray.size=ns.length:=by simp [hz]
  rw [hs] at p g
  subst e
  refine h _ t h' f (af7 (by rw [hs];omega)) (fun x r=>?_) fun b o e=>?_
  ·obtain ⟨i,n,e⟩:=ahb r
   have:=g i (by omega)
   rw [e] at this
   rw [hs]
   exact this
  ·refine j b o (fun hm=>?_) (aF7 _ e)
   rcases ay8.mp hm with u | hm
   ·exact absurd (u ▸ aF8 e) (aD4 _)
   ·cases hm
theorem min_list {l:Addr} {us:List Value} {ns:List Int} {Q:Value->Shared->Prop} (hh:A.handled=none) (c:s.heap.IsList l us.toArray) (hi:IntsAre us ns) (d:ns ≠ [])
  (h:∀ m t h' f,m∈ns->(∀ x∈ns,m<=x)->(∀ b o,s.heap.get? b=some o->h'.get? b=some o)->Q (.int m t) { s with heap:=h',toks:=f }) :
  wpAny (model prog w) A (call (.builtin "min") [.ref l]) Q E s:=by
 have a:l < s.heap.objs.size:=by obtain ⟨_,e,_⟩:=c;exact aF8 e
 have hz:us.length=ns.length:=hi.length
 have y:0 < ns.length:=aC9.mpr d
 refine call_min_walk (aG8 c ?_)
 refine ⟨_,[s.heap.objs.size,l],_,_,_,_,_,rfl,Walks.list (A:=A.in1) hh _ l (az5 a) us.toArray,⟨⟨_,aF9 _ rfl,rfl,rfl⟩,c.push _⟩,fun b hb=>?_,by simp;omega,CmpOf.ints_lt (val ns) (fun i v=>ac9 hi i v),fun v h' f q j=>?_⟩
 ·show b < (s.heap.push _).objs.size
  rw [aG5]
  rcases ay8.mp hb with rfl | hb
  ·exact aF3 _
  ·rcases ay8.mp hb with rfl | hb
   ·exact aC8 a
   ·cases hb
 ·obtain ⟨t,e⟩:=ac9 hi _ _ q
  obtain ⟨p,g⟩:=ah9 (val ns) (us.toArray.size - 1)
  have hs:us.toArray.size=ns.length:=by simp [hz]
  rw [hs] at p g
  subst e
  refine h _ t h' f (af7 (by rw [hs];omega)) (fun x r=>?_) fun b o e=>?_
  ·obtain ⟨i,n,e⟩:=ahb r
   have:=g i (by omega)
   rw [e] at this
   rw [hs]
   exact this
  ·refine j b o (fun hm=>?_) (aF7 _ e)
   rcases ay8.mp hm with u | hm
   ·exact absurd (u ▸ aF8 e) (aD4 _)
   ·cases hm
theorem max_tup {l:Addr} {us:List Value} {ns:List Int} {Q:Value->Shared->Prop} (hh:A.handled=none) (f:s.heap.IsTuple l us.toArray) (hi:IntsAre us ns) (g:ns ≠ [])
  (h:∀ m t h' c,m∈ns->(∀ x∈ns,x<=m)->(∀ b o,s.heap.get? b=some o->h'.get? b=some o)->Q (.int m t) { s with heap:=h',toks:=c }) :
  wpAny (model prog w) A.in1 (pyIter (.ref l)) (fun it a=>∃ I fp j n P St p,it=.ref I/\Walks prog w A.in1 I fp j n P St/\St 0 a.heap/\(∀ b∈fp,b < a.heap.objs.size)/\0 < n/\CmpOf prog w A.in1 .Gt P p /\
   ∀ v h' c,P (argBest p (n - 1)) v->(∀ b o,b ∉ j->a.heap.get? b=some o->h'.get? b=some o)->Q v { a with heap:=h',toks:=c }) E s:=by
 have d:l < s.heap.objs.size:=by obtain ⟨_,e,_⟩:=f;exact aF8 e
 have hz:us.length=ns.length:=hi.length
 have D:0 < ns.length:=aC9.mpr g
 refine wpAny_pyIter_tuple f ?_
 refine ⟨_,[s.heap.objs.size,l],[_],_,_,_,_,rfl,Walks.tuple (A:=A.in1) hh _ l (az5 d) us.toArray,⟨⟨_,aF9 _ rfl,rfl,rfl⟩,f.push _⟩,fun b hb=>?_,by simp;omega,CmpOf.ints_gt (val ns) (fun i v=>ac9 hi i v),fun v h' c z r=>?_⟩
 ·show b < (s.heap.push _).objs.size
  rw [aG5]
  rcases ay8.mp hb with rfl | hb
  ·exact aF3 _
  ·rcases ay8.mp hb with rfl | hb
   ·exact aC8 d
   ·cases hb
 ·obtain ⟨t,e⟩:=ac9 hi _ _ z
  obtain ⟨y,q⟩:=ah8 (val ns) (us.toArray.size - 1)
  have hs:us.toArray.size=ns.length:=by simp [hz]
  rw [hs] at y q
  subst e
  refine h _ t h' c (af7 (by rw [hs];omega)) (fun x B=>?_) fun b o e=>?_
  ·obtain ⟨i,u,e⟩:=ahb B
   have:=q i (by omega)
   rw [e] at this
   rw [hs]
   exact this
  ·refine r b o (fun hm=>?_) (aF7 _ e)
   rcases ay8.mp hm with C | hm
   ·exact absurd (C ▸ aF8 e) (aD4 _)
   ·cases hm
theorem min_tup {l:Addr} {us:List Value} {ns:List Int} {Q:Value->Shared->Prop} (hh:A.handled=none) (f:s.heap.IsTuple l us.toArray) (hi:IntsAre us ns) (g:ns ≠ [])
  (h:∀ m t h' c,m∈ns->(∀ x∈ns,m<=x)->(∀ b o,s.heap.get? b=some o->h'.get? b=some o)->Q (.int m t) { s with heap:=h',toks:=c }) :
  wpAny (model prog w) A.in1 (pyIter (.ref l)) (fun it a=>∃ I fp j n P St p,it=.ref I/\Walks prog w A.in1 I fp j n P St/\St 0 a.heap/\(∀ b∈fp,b < a.heap.objs.size)/\0 < n/\CmpOf prog w A.in1 .Lt P p /\
   ∀ v h' c,P (argBest p (n - 1)) v->(∀ b o,b ∉ j->a.heap.get? b=some o->h'.get? b=some o)->Q v { a with heap:=h',toks:=c }) E s:=by
 have d:l < s.heap.objs.size:=by obtain ⟨_,e,_⟩:=f;exact aF8 e
 have hz:us.length=ns.length:=hi.length
 have D:0 < ns.length:=aC9.mpr g
 refine wpAny_pyIter_tuple f ?_
 refine ⟨_,[s.heap.objs.size,l],[_],_,_,_,_,rfl,Walks.tuple (A:=A.in1) hh _ l (az5 d) us.toArray,⟨⟨_,aF9 _ rfl,rfl,rfl⟩,f.push _⟩,fun b hb=>?_,by simp;omega,CmpOf.ints_lt (val ns) (fun i v=>ac9 hi i v),fun v h' c z r=>?_⟩
 ·show b < (s.heap.push _).objs.size
  rw [aG5]
  rcases ay8.mp hb with rfl | hb
  ·exact aF3 _
  ·rcases ay8.mp hb with rfl | hb
   ·exact aC8 d
   ·cases hb
 ·obtain ⟨t,e⟩:=ac9 hi _ _ z
  obtain ⟨y,q⟩:=ah9 (val ns) (us.toArray.size - 1)
  have hs:us.toArray.size=ns.length:=by simp [hz]
  rw [hs] at y q
  subst e
  refine h _ t h' c (af7 (by rw [hs];omega)) (fun x B=>?_) fun b o e=>?_
  ·obtain ⟨i,u,e⟩:=ahb B
   have:=q i (by omega)
   rw [e] at this
   rw [hs]
   exact this
  ·refine r b o (fun hm=>?_) (aF7 _ e)
   rcases ay8.mp hm with C | hm
   ·exact absurd (C ▸ aF8 e) (aD4 _)
   ·cases hm
end
end HT
namespace L2
open PySem PySem.Spec PyProof.Rows
section
variable {X:Cx}
def an5 (ns:List Int) (m:Int):Prop:=m∈ns/\∀ x∈ns,x<=m
def an6 (ns:List Int) (m:Int):Prop:=m∈ns/\∀ x∈ns,m<=x
def aj2 (K:Frag):List V->Hp->VK->Prop:=fun xs H Q=>∃ (a:Addr) (ns:List Int),xs=[.ref a]/\(SqL K H a (ns.map V.int)\/SqT K H a (ns.map V.int))/\ns ≠ []/\∀ m,an5 ns m->Q (.int m) H
def aj3 (K:Frag):List V->Hp->VK->Prop:=fun xs H Q=>∃ (a:Addr) (ns:List Int),xs=[.ref a]/\(SqL K H a (ns.map V.int)\/SqT K H a (ns.map V.int))/\ns ≠ []/\∀ m,an6 ns m->Q (.int m) H
theorem apj (j:X.calm=true):aba X (.builtin "max") (aj2 X.K):=by
 intro pins s σ H xs us Q I r h
 obtain ⟨a,ns,rfl,ha,b,q⟩:=h
 obtain ⟨u,rfl,l⟩:=acj r
 cases l
 rcases ha with ha | ha
 ·obtain ⟨its,c,f,_⟩:=I.list ha
  have d:IntsAre its.toArray.toList ns:=abk c
  exact HT.max_list (I.ok.hd j) f.isList (by simpa using d) b fun m t h' n g i kp=>⟨.int m,H,I.kept kp,⟨_,rfl⟩,q m ⟨g,i⟩⟩
 ·obtain ⟨its,c,f,_⟩:=I.tuple ha
  have d:IntsAre its.toArray.toList ns:=abk c
  refine call_max_walk (HT.max_tup (I.ok.hd j) f (by simpa using d) b fun m t h' n g i kp=>⟨.int m,H,I.kept kp,⟨_,rfl⟩,q m ⟨g,i⟩⟩)
theorem apk (j:X.calm=true):aba X (.builtin "min") (aj3 X.K):=by
 intro pins s σ H xs us Q I r h
 obtain ⟨a,ns,rfl,ha,b,q⟩:=h
 obtain ⟨u,rfl,l⟩:=acj r
 cases l
 rcases ha with ha | ha
 ·obtain ⟨its,c,f,_⟩:=I.list ha
  have d:IntsAre its.toArray.toList ns:=abk c
  exact HT.min_list (I.ok.hd j) f.isList (by simpa using d) b fun m t h' n g i kp=>⟨.int m,H,I.kept kp,⟨_,rfl⟩,q m ⟨g,i⟩⟩
 ·obtain ⟨its,c,f,_⟩:=I.tuple ha
  have d:IntsAre its.toArray.toList ns:=abk c
  refine call_min_walk (HT.min_tup (I.ok.hd j) f (by simpa using d) b fun m t h' n g i kp=>⟨.int m,H,I.kept kp,⟨_,rfl⟩,q m ⟨g,i⟩⟩)
end
section
variable {X:Cx} {a:Expr} {ta:TE}
def acu (K:Frag):R2:=fun x y H Q=>rIxL K x y H Q\/rIxT K x y H Q
theorem aap:IxR X (acu X.K):=ix_list.or avp
theorem aia {i j n:Int} {c d:Nat} {b p2 a:Pos} (h:i ^ j.toNat=n) (f:CPow i j):PE X (.BinOp (.Constant (.int i) c b) .Pow (.Constant (.int j) d p2) a) (tC (.int n)):=by
 intro pins s σ H Q I q
 subst h
 exact aak avm aac aac pins s σ H Q I ⟨i,j,rfl,rfl,f,q⟩
end
section
variable {σ:St} {H:Hp} {D:Ends} {K:Frag}
theorem agr {a:Addr} {xs:List V} {i:Int} {v:V} {Q:VK} (ha:H a=some (.lst xs)) (b:atI xs i=some v) (h:Q v H):acu K (.ref a) (.int i) H Q:=.inl (av1 ha b h)
theorem aq8 {a:Addr} {xs:List V} {i:Int} {v:V} {Q:VK} (ha:H a=some (.tup xs)) (b:atI xs i=some v) (h:Q v H):acu K (.ref a) (.int i) H Q:=.inr (av2 ha b h)
theorem aq9 {a:Addr} {xs:List V} {i:Int} {v:V} {Q:VK} (ha:SqL K H a xs) (b:atI xs i=some v) (h:Q v H):acu K (.ref a) (.int i) H Q:=.inl (av8 ha b h)
theorem ams {b a:TE} {Q:VK} (h:b σ H fun x d=>∃ c,x=.bl c/\if c=true then a σ d Q else Q (.bl false) d):ajv b a σ H Q:=h
theorem abp {A B:Prop} (h:A):if true=true then A else B:=by rw [aC5 rfl];exact h
theorem acg {A B:Prop} (h:B):if false=true then A else B:=by rw [aC6 ay9];exact h
theorem adi {A B:Prop} (h:B):if (!true)=true then A else B:=by rw [aC6 (by decide)];exact h
theorem adj {A B:Prop} (h:A):if (!false)=true then A else B:=by rw [aC5 (by decide)];exact h
theorem ara {c:Prop} [Decidable c] {A B:Prop} (a:c) (h:B):if (!decide c)=true then A else B:=by rw [aB5 a];exact adi h
theorem arb {c:Prop} [Decidable c] {A B:Prop} (a:¬ c) (h:A):if (!decide c)=true then A else B:=by rw [aB4 a];exact adj h
theorem ahc {x:V} {T:String} {t:Value} {b:Bool} {Q:VK} (ty:TyOf K H x t) (e:kitOne K t (.type T)=some b) (h:Q (.bl b) H):rIsi K [x,.ty T] H Q:=⟨x,T,t,b,rfl,ty,e,h⟩
theorem ags {K:Frag}:kitOne K (.type "NoneType") (.type "int")=some false:=by first | rfl | decide
theorem agf {K:Frag}:kitOne K (.type "NoneType") (.type "bool")=some false:=by first | rfl | decide
theorem afp {K:Frag}:kitOne K (.type "NoneType") (.type "tuple")=some false:=by first | rfl | decide
theorem agg {K:Frag}:kitOne K (.type "NoneType") (.type "list")=some false:=by first | rfl | decide
theorem agt {K:Frag}:kitOne K (.type "NoneType") (.type "str")=some false:=by first | rfl | decide
theorem agh {K:Frag}:kitOne K (.type "NoneType") (.type "dict")=some false:=by first | rfl | decide
theorem akv {K:Frag}:kitOne K (.type "bool") (.type "int")=some true:=by first | rfl | decide
theorem ajg {K:Frag}:kitOne K (.type "bool") (.type "bool")=some true:=by first | rfl | decide
theorem aib {K:Frag}:kitOne K (.type "bool") (.type "tuple")=some false:=by first | rfl | decide
theorem ajh {K:Frag}:kitOne K (.type "bool") (.type "list")=some false:=by first | rfl | decide
theorem akw {K:Frag}:kitOne K (.type "bool") (.type "str")=some false:=by first | rfl | decide
theorem aji {K:Frag}:kitOne K (.type "bool") (.type "dict")=some false:=by first | rfl | decide
theorem al5 {K:Frag}:kitOne K (.type "int") (.type "int")=some true:=by first | rfl | decide
theorem akx {K:Frag}:kitOne K (.type "int") (.type "bool")=some false:=by first | rfl | decide
theorem ajj {K:Frag}:kitOne K (.type "int") (.type "tuple")=some false:=by first | rfl | decide
theorem aky {K:Frag}:kitOne K (.type "int") (.type "list")=some false:=by first | rfl | decide
theorem al6 {K:Frag}:kitOne K (.type "int") (.type "str")=some false:=by first | rfl | decide
theorem akz {K:Frag}:kitOne K (.type "int") (.type "dict")=some false:=by first | rfl | decide
theorem al7 {K:Frag}:kitOne K (.type "str") (.type "int")=some false:=by first | rfl | decide
theorem ak0 {K:Frag}:kitOne K (.type "str") (.type "bool")=some false:=by first | rfl | decide
theorem ajk {K:Frag}:kitOne K (.type "str") (.type "tuple")=some false:=by first | rfl | decide
theorem ak1 {K:Frag}:kitOne K (.type "str") (.type "list")=some false:=by first | rfl | decide
theorem al8 {K:Frag}:kitOne K (.type "str") (.type "str")=some true:=by first | rfl | decide
theorem ak2 {K:Frag}:kitOne K (.type "str") (.type "dict")=some false:=by first | rfl | decide
theorem ak3 {K:Frag}:kitOne K (.type "list") (.type "int")=some false:=by first | rfl | decide
theorem ajl {K:Frag}:kitOne K (.type "list") (.type "bool")=some false:=by first | rfl | decide
theorem aic {K:Frag}:kitOne K (.type "list") (.type "tuple")=some false:=by first | rfl | decide
theorem ajm {K:Frag}:kitOne K (.type "list") (.type "list")=some true:=by first | rfl | decide
theorem ak4 {K:Frag}:kitOne K (.type "list") (.type "str")=some false:=by first | rfl | decide
theorem ajn {K:Frag}:kitOne K (.type "list") (.type "dict")=some false:=by first | rfl | decide
theorem ajo {K:Frag}:kitOne K (.type "tuple") (.type "int")=some false:=by first | rfl | decide
theorem aid {K:Frag}:kitOne K (.type "tuple") (.type "bool")=some false:=by first | rfl | decide
theorem ahd {K:Frag}:kitOne K (.type "tuple") (.type "tuple")=some true:=by first | rfl | decide
theorem aie {K:Frag}:kitOne K (.type "tuple") (.type "list")=some false:=by first | rfl | decide
theorem ajp {K:Frag}:kitOne K (.type "tuple") (.type "str")=some false:=by first | rfl | decide
theorem aif {K:Frag}:kitOne K (.type "tuple") (.type "dict")=some false:=by first | rfl | decide
theorem ak5 {K:Frag}:kitOne K (.type "dict") (.type "int")=some false:=by first | rfl | decide
theorem ajq {K:Frag}:kitOne K (.type "dict") (.type "bool")=some false:=by first | rfl | decide
theorem aig {K:Frag}:kitOne K (.type "dict") (.type "tuple")=some false:=by first | rfl | decide
theorem ajr {K:Frag}:kitOne K (.type "dict") (.type "list")=some false:=by first | rfl | decide
theorem ak6 {K:Frag}:kitOne K (.type "dict") (.type "str")=some false:=by first | rfl | decide
theorem ajs {K:Frag}:kitOne K (.type "dict") (.type "dict")=some true:=by first | rfl | decide
end
end L2
namespace L2
open PySem
section
variable {σ:St} {H:Hp} {K:Frag}
theorem aa3 {p:Addr} {o:HO} (a:H p=none):Same H (upd H p o):=fun b u e=>by rw [aad (aas e a)];exact e
theorem Same.new {H H':Hp} {q:Addr} {o:HO} (s:Same H H') (h:H' q=none):Same H (upd H' q o):=fun b u e=>by
 have:=s b u e
 rw [aad (aas this h)];exact this
theorem Same.set {H H':Hp} {q:Addr} {o:HO} (s:Same H H') (h:H q=none):Same H (upd H' q o):=fun b u e=>by
 have:=s b u e
 rw [aad (aas e h)];exact this
theorem Same.at {H H':Hp} {b:Addr} {o:HO} (s:Same H H') (h:H b=some o):H' b=some o:=s b o h
end
section
variable {σ:St} {H:Hp} {K:Frag}
abbrev NewL (Q:VK):List V->Hp->Prop:=fun xs H1=>xs.length<=sizeLine/\∀ p,H1 p=none->Q (.ref p) (upd H1 p (.lst xs))
theorem at5 {t:TA} {Q:VK} (h:t σ H (NewL Q)):tLst t σ H Q:=h
end
end L2
namespace Gr
inductive Walk (T:Int->Int->Prop) (u:Int):Nat->Int->Prop
 | refl:Walk T u 0 u
 | step {k:Nat} {v w:Int}:Walk T u k v->T v w->Walk T u (k+1) w
def Dist (T:Int->Int->Prop) (u v:Int) (d:Nat):Prop:=Walk T u d v/\∀ k,Walk T u k v->d<=k
theorem Dist.uniq {T:Int->Int->Prop} {u v:Int} {d e:Nat} (h:Dist T u v d) (g:Dist T u v e):d=e:=Nat.le_antisymm (h.2 _ g.1) (g.2 _ h.1)
theorem Dist.self (T:Int->Int->Prop) (u:Int):Dist T u u 0:=⟨.refl,fun _ _=>aD0 _⟩
theorem Dist.pred {T:Int->Int->Prop} {u w:Int} {d:Nat} (h:Dist T u w (d+1)):∃ v,T v w/\Dist T u v d:=by
 obtain ⟨a,hm⟩:=h
 cases a with
 | step hv ht =>
  rename_i v
  refine ⟨v,ht,hv,fun k b=>?_⟩
  have:=hm (k+1) (.step b ht)
  omega
structure Bfs (T:Int->Int->Prop) (a:Int) (line:List Int) (ds:List Nat) (at_:Nat):Prop where
 len:ds.length=line.length
 fst:line[0]?=some a
 nd:line.Nodup
 le:at_<=line.length
 dist:∀ (i:Nat) v d,line[i]?=some v->ds[i]?=some d->Dist T a v d
 mono:∀ (i j:Nat) d e,i<=j->ds[i]?=some d->ds[j]?=some e->d<=e
 near:∀ (i j:Nat) d e,at_<=i->ds[i]?=some d->ds[j]?=some e->e<=d+1
 done:∀ (i:Nat) v w,i < at_->line[i]?=some v->T v w->w∈line
theorem Bfs.start (T:Int->Int->Prop) (a:Int):Bfs T a [a] [0] 0:=by
 refine ⟨rfl,rfl,by simp,aD0 _,fun i v d c b=>?_,fun i j d e h c b=>?_,fun i j d e h c b=>?_,fun i v w h=>absurd h (by omega)⟩
 ·match i,c,b with
  | 0,c,b=>simp at c b;subst c b;exact Dist.self T a
  | i+1,c,_=>simp at c
 ·match j,b with
  | 0,b =>
   have:i=0:=by omega
   subst this
   rw [c] at b;cases b;exact ay6 _
  | j+1,b=>simp at b
 ·match i,j,c,b with
  | 0,0,c,b=>rw [c] at b;cases b;omega
  | i+1,_,c,_=>simp at c
  | 0,j+1,_,b=>simp at b
theorem Bfs.all {T:Int->Int->Prop} {a:Int} {line:List Int} {ds:List Nat} {at_:Nat} {d:Nat} (b:Bfs T a line ds at_) (hd:ds[at_]?=some d) :
  ∀ k w,k<=d->Dist T a w k->w∈line:=by
 intro k
 induction k with
 | zero =>
  intro w _ h
  have:w=a:=by
   cases h.1;rfl
  subst this
  exact ay2 b.fst
 | succ k ih =>
  intro w n h
  obtain ⟨v,l,f⟩:=h.pred
  have m:=ih v (by omega) f
  obtain ⟨i,hi,e⟩:=aE5.mp m
  have j:line[i]?=some v:=by rw [ay0 hi,e]
  have c:i < ds.length:=by rw [b.len];exact hi
  have g:ds[i]?=some ds[i]:=ay0 c
  have o:=(b.dist i v _ j g).uniq f
  by_cases hlt:i < at_
  ·exact b.done i v w hlt j l
  ·have:=b.mono at_ i d _ (by omega) hd g
   omega
theorem Bfs.fin {T:Int->Int->Prop} {a:Int} {line:List Int} {ds:List Nat} (b:Bfs T a line ds line.length):∀ k w,Walk T a k w->w∈line:=by
 intro k w h
 induction h with
 | refl=>exact ay2 b.fst
 | step _ t ih =>
  obtain ⟨i,hi,e⟩:=aE5.mp ih
  exact b.done i _ _ hi (by rw [ay0 hi,e]) t
theorem Bfs.last {T:Int->Int->Prop} {a:Int} {line:List Int} {ds:List Nat} (b:Bfs T a line ds line.length) {z:Int} {e:Nat} (hz:line[line.length - 1]?=some z) (g:ds[line.length - 1]?=some e) :
  Dist T a z e/\∀ w k,Dist T a w k->k<=e:=by
 refine ⟨b.dist _ _ _ hz g,fun w k f=>?_⟩
 obtain ⟨i,hi,j⟩:=aE5.mp (b.fin k w f.1)
 have h:line[i]?=some w:=by rw [ay0 hi,j]
 have c:i < ds.length:=by rw [b.len];exact hi
 have d:ds[i]?=some ds[i]:=ay0 c
 rw [f.uniq (b.dist i w _ h d)]
 exact b.mono i _ _ _ (by omega) d g
end Gr
namespace L2
open PySem PySem.Spec PyProof.Rows
section
variable {σ:St} {H:Hp} {D:Ends} {K:Frag}
end
theorem few_places:∀ (n:Nat) (l:List Int),l.Nodup->(∀ v∈l,0<=v/\v < (n:Int))->l.length<=n
 | 0,l,_,h=>by
  cases l with
  | nil=>simp
  | cons v r=>have:=h v (by simp);omega
 | n+1,l,hn,h=>by
  have d:=few_places n (l.erase (n:Int)) (hn.erase _) fun v a=>by
   have hm:=List.mem_of_mem_erase a
   have hb:=h v hm
   have b:v ≠ (n:Int):=by
    rintro rfl
    exact absurd a (List.Nodup.not_mem_erase hn)
   omega
  have c:l.length<=(l.erase (n:Int)).length+1:=by
   rw [List.length_erase]
   split <;> omega
  omega
end L2
namespace L2
open PySem
end L2
namespace HT
open PySem PyProof.Rows
theorem ahe (ns:List Int):∀ k,k<=ns.length->preSum (val ns) k=(ns.take k).sum
 | 0,_=>by simp [preSum]
 | k+1,h=>by
  have a:=ahe ns k (by omega)
  have e:ns.take (k+1)=ns.take k ++ [ns[k]]:=by rw [aE3,ay0 (by omega)];rfl
  rw [e,List.sum_append]
  unfold preSum
  rw [a]
  unfold val
  rw [ay0 (by omega)]
  simp
section
variable {prog:Program} {w:World} {A:Around} {E:Value->Shared->Prop} {s:Shared}
theorem sum_list {l:Addr} {us:List Value} {ns:List Int} {Q:Value->Shared->Prop} (hh:A.handled=none) (c:s.heap.IsList l us.toArray) (hi:IntsAre us ns)
  (h:∀ t h' d,(∀ b o,s.heap.get? b=some o->h'.get? b=some o)->Q (.int ns.sum t) { s with heap:=h',toks:=d }) :
  wpAny (model prog w) A (call (.builtin "sum") [.ref l]) Q E s:=by
 have a:l < s.heap.objs.size:=by obtain ⟨_,e,_⟩:=c;exact aF8 e
 have hz:us.length=ns.length:=hi.length
 refine call_sum_walkG (aG8 c ?_)
 refine ⟨_,[s.heap.objs.size,l],_,_,_,_,val ns,rfl,Walks.list (A:=A.in1) hh _ l (az5 a) us.toArray,⟨⟨_,aF9 _ rfl,rfl,rfl⟩,c.push _⟩,fun b hb=>?_,fun i v=>ac9 hi i v,fun h' d t' f=>?_⟩
 ·show b < (s.heap.push _).objs.size
  rw [aG5]
  rcases ay8.mp hb with rfl | hb
  ·exact aF3 _
  ·rcases ay8.mp hb with rfl | hb
   ·exact aC8 a
   ·cases hb
 ·have hs:us.toArray.size=ns.length:=by simp [hz]
  rw [hs,ahe ns _ (ay6 _),aD8]
  refine h t' h' d fun b o e=>?_
  refine f b o (fun hm=>?_) (aF7 _ e)
  rcases ay8.mp hm with g | hm
  ·exact absurd (g ▸ aF8 e) (aD4 _)
  ·cases hm
end
end HT
namespace L2
open PySem PySem.Spec PyProof.Rows
section
variable {X:Cx}
def an7 (K:Frag):List V->Hp->VK->Prop:=fun xs H Q=>∃ (a:Addr) (ns:List Int),xs=[.ref a]/\SqL K H a (ns.map V.int)/\Q (.int ns.sum) H
theorem aiy (f:X.calm=true):aba X (.builtin "sum") (an7 X.K):=by
 intro pins s σ H xs us Q I r h
 obtain ⟨a,ns,rfl,ha,q⟩:=h
 obtain ⟨u,rfl,c⟩:=acj r
 cases c
 obtain ⟨its,b,g,_⟩:=I.list ha
 have d:IntsAre its.toArray.toList ns:=abk b
 exact HT.sum_list (I.ok.hd f) g.isList (by simpa using d) fun t h' i kp=>⟨.int _,H,I.kept kp,⟨_,rfl⟩,q⟩
end
section
variable {X:Cx} {pins:List (Addr × Obj)} {σ:St} {H:Hp} {s:Shared} {A:Around} {E:Value->Shared->Prop} {Q:Value->Shared->Prop} {b:Bool}
end
section
variable {X:Cx}
end
end L2
namespace HT
open PySem PyProof.Rows L2
def LtAt (A:Around) (s:Shared) (y x:Value) (b:Bool):Prop :=
 ∀ (prog:Program) (w:World) (E:Value->Shared->Prop) (Q:Value->Shared->Prop),Q (.bool b) s->wpAny (model prog w) A (richCompare .Lt y x) Q E s
section
open PySem.SeqAt
open PySem.AutoSeq1 (wpAny_loadPart')
open PySem.MeetsSeq PySem.MeetsSeq2 PySem.MeetsSeq3
inductive Its (A:Around) (s:Shared):List Value->List Value->Bool->Prop
 | nn:Its A s [] [] false
 | nc {x:Value} {ys:List Value}:Its A s [] (x :: ys) true
 | cn {x:Value} {xs:List Value}:Its A s (x :: xs) [] false
 | eq {x y:Value} {xs ys:List Value} {b:Bool}:EqAt A s x y true->Its A s xs ys b->Its A s (x :: xs) (y :: ys) b
 | ne {x y:Value} {xs ys:List Value} {b:Bool}:EqAt A s x y false->LtAt A s x y b->Its A s (x :: xs) (y :: ys) b
theorem ak7 (l b:Addr) (items a:Array Value) (n E:Nat) (dd v:Option Addr) (sl u:Array (Option Value)) (r:Bool) :
  Meets (Builtin.«tuple.__lt__» ⟨[.ref l,.ref b],[]⟩)
   (fun A R s=>s.heap.get? l=some { cls:=.type "tuple",dict:=dd,data:=.seq items n,slots:=sl }/\s.heap.get? b=some { cls:=.type "tuple",dict:=v,data:=.seq a E,slots:=u } /\
    Its A.in1 s items.toList a.toList r/\R (.ok (.ret (.bool r))) s) :=
 .of_wp fun prog w A R s h=>by
  obtain ⟨D,g,d,C,os⟩:=s;obtain ⟨F,hb,hi,h⟩:=h
  have H:=AutoSeq1.sub_tuple_tuple
  wp_walk using wpAny_loadPart' F,wpAny_loadPart' hb,wpAny_forIn_list _ (fun rest b B=>b.1=none/\B=⟨D,g,d,C,os⟩/\∃ (vs m:List Value),rest=vs.zip m /\
   vs.length+a.size=m.length+items.size/\Its A.in1 ⟨D,g,d,C,os⟩ vs m r) _
  case turn =>
   rintro ⟨y,x⟩ rest b B ⟨j,rfl,vs,m,hz,c,p⟩
   cases p with
   | nn=>cases hz
   | nc=>cases hz
   | cn=>cases hz
   | eq he hI' =>
    rw [List.zip_cons_cons] at hz
    injection hz with i f
    injection i with o z
    subst o z
    simp only [aB8] at c
    refine aF5 (he prog w _ _ ?_)
    wp_walk
    exact ⟨rfl,rfl,_,_,f,by omega,hI'⟩
   | ne he hlt =>
    rw [List.zip_cons_cons] at hz
    injection hz with i f
    injection i with o z
    subst o z
    refine aF5 (he prog w _ _ ?_)
    have q:=hlt prog w
    wp_walk using q
    exact ⟨_,rfl,by simpa using h⟩
  case fin =>
   rintro ⟨I,J⟩ B ⟨j,rfl,vs,m,hz,c,p⟩
   simp only at j
   subst j
   have G:r=decide (items.size < a.size):=by
    cases p with
    | nn =>
     simp only [aF4] at c
     exact (aB4 (by omega)).symm
    | nc =>
     simp only [aF4,aB8] at c
     exact (aB5 (by omega)).symm
    | cn =>
     simp only [aF4,aB8] at c
     exact (aB4 (by omega)).symm
    | eq=>cases hz
    | ne=>cases hz
   rw [G] at h
   wp_walk
   exact ⟨_,rfl,by simpa [Builtin.Tuple.tupleCompareSizes] using h⟩
  case h =>
   exact ⟨rfl,rfl,items.toList,a.toList,rfl,by simp;omega,hi⟩
end
section
variable {A:Around} {s:Shared}
theorem LtAt.tup {l b:Addr} {o f:Obj} {items a:Array Value} {n j:Nat} {r:Bool} (m:s.heap.get? l=some o) (p:o.cls=.type "tuple") (hd:o.data=.seq items n) (hb:s.heap.get? b=some f) (c:f.cls=.type "tuple") (d:f.data=.seq a j)
  (v:A.units < cLine) (hi:Its A.in1 s items.toList a.toList r):LtAt A s (.ref l) (.ref b) r:=by
 intro prog w E Q q
 obtain ⟨cls,dd,data,sl⟩:=o
 obtain ⟨u,i,g,h⟩:=f
 simp only at p hd c d
 subst p hd c d
 exact richCompare_meets_room (op:=.Lt) ⟨_,m,rfl⟩ ⟨_,hb,rfl⟩ PySem.F.slot_tuple_lt PySem.F.entry_tuple_lt (PySem.F.args_tuple_lt_2 _ _) (ak7 l b items a n j dd i sl h r)
  ⟨m,hb,hi,show Value.bool r ≠ Value.notImplemented/\Q (.bool r) s from ⟨(fun x=>nomatch x),q⟩⟩ v
end
end HT
namespace L2
open PySem PySem.Spec PyProof.Rows
section
variable {X:Cx}
end
end L2
namespace L2
open PySem
end L2
namespace TS
open PySem PyProof.Rows HT
theorem amt:∀ x y:List Int,HT.lexLt x y=true->HT.lexLt y x=false
 | [],[],h=>by simp [HT.lexLt] at h
 | [],_ :: _,_=>rfl
 | _ :: _,[],h=>by simp [HT.lexLt] at h
 | a :: x,b :: y,h=>by
  rw [ac6] at h ⊢
  by_cases e:a=b
  ·subst e
   rw [aC5 rfl] at h ⊢
   exact amt x y h
  ·rw [aC6 e] at h
   rw [aC6 (fun z=>e z.symm)]
   have:=of_decide_eq_true h
   exact aB4 (by omega)
theorem apl:∀ x y z:List Int,HT.lexLt y x=false->HT.lexLt z y=false->HT.lexLt z x=false
 | _,[],[],h,_=>h
 | [],[],_ :: _,_,_=>rfl
 | _ :: _,[],_ :: _,h,_=>by simp [HT.lexLt] at h
 | _,_ :: _,[],_,h=>by simp [HT.lexLt] at h
 | [],_ :: _,_ :: _,_,_=>rfl
 | a :: x,b :: y,c :: z,h,g=>by
  rw [ac6] at h g ⊢
  by_cases e:b=a
  ·subst e
   rw [aC5 rfl] at h
   by_cases e2:c=b
   ·subst e2
    rw [aC5 rfl] at g ⊢
    exact apl x y z h g
   ·rw [aC6 e2] at g ⊢
    exact g
  ·rw [aC6 e] at h
   have h':=of_decide_eq_false h
   by_cases e2:c=b
   ·subst e2
    rw [aC6 e]
    exact h
   ·rw [aC6 e2] at g
    have g':=of_decide_eq_false g
    rw [aC6 (by omega)]
    exact aB4 (by omega)
def TI (h:Heap) (a:Addr) (ns:List Int):Prop:=∃ o xs n,h.get? a=some o/\o.cls=.type "tuple"/\o.data=.seq xs n/\IntsAre xs.toList ns
def kfV (kf:Addr->List Int):Value->List Int
 | .ref a=>kf a
 | _=>[]
section
variable {prog:Program} {w:World} {A:Around} {E:Value->Shared->Prop} {s:Shared}
theorem agj {fin:Bool} {Q:Bool->Shared->Prop}:∀ {xs ys:List Value} {ns c:List Int} (i:Nat),IntsAre xs ns->IntsAre ys c->(ns.length < c.length->fin=true)->(c.length<=ns.length->fin=false)->Q (HT.lexLt ns c) s ->
  PySem.W.KatLex prog w A true fin Q (xs.zip ys) i s
 | _,_,_,_,i,.nil,.nil,_,h2,q=>by
  rw [h2 (ay6 _)];exact q
 | _,_,_,_,i,.nil,.cons b u r,h1,_,q=>by
  rw [h1 (by simp)];exact q
 | _,_,_,_,i,.cons a t r,.nil,_,h2,q=>by
  rw [List.zip_nil_right,h2 (by simp)];exact q
 | _,_,_,_,i,.cons a t r,.cons b u r2,h1,h2,q=>by
  rw [List.zip_cons_cons]
  refine PySem.W.kat_cons (SeqAt.EqAt.int_int a t b u prog w _ _ ?_)
  rw [ac6] at q
  by_cases e:a=b
  ·subst e
   rw [aC5 rfl] at q
   rw [show (a == a)=true by simp]
   exact PySem.W.kat_yes (agj (i+1) r r2 (fun z=>h1 (by simpa using z)) (fun z=>h2 (by simpa using z)) q)
  ·rw [aC6 e] at q
   rw [show (a == b)=false by simpa using e]
   refine PySem.W.kat_no ?_
   by_cases hi:i=0
   ·subst hi
    exact oneLt_int q
   ·rw [show (true && i == 0)=false by simpa using hi]
    exact PySem.W.kat_one _ _ (PyProof.Rows.lt_int q)
def tS (h:Heap) (kf:Addr->List Int) (x:Keyed):Prop:=x.1=x.2/\∃ a,x.1=.ref a/\TI h a (kf a)
def tR (kf:Addr->List Int) (x y:Keyed):Bool:=HT.lexLt (kfV kf x.1) (kfV kf y.1)
theorem cmp_tups (j:Addr->List Int):Cmp (model prog w) A E s (tuples' true) (tS s.heap j) (tR j):=by
 refine ⟨fun x y u m Q st l q=>?_,fun x y _ _=>amt _ _,fun x y z _ _ _=>apl _ _ _⟩
 obtain ⟨G,D⟩:=x
 obtain ⟨I,H⟩:=y
 obtain ⟨_,a,h,o,xs,n,B,J,r,g⟩:=u
 obtain ⟨_,b,i,o',ys,C,v,F,p,c⟩:=m
 dsimp only at h i
 subst h i
 rw [lt'_eq]
 refine wpS_bind (wpS_get ?_)
 rw [l]
 refine wpS_bind (wpS_lift (wpAny_attempt (PySem.W.kat_lt B r v p (agj 0 g c (fun z=>?_) (fun z=>?_) ⟨rfl,?_⟩))))
 ·have d:=g.length;have f:=c.length
  simp at d f
  exact aB5 (by omega)
 ·have d:=g.length;have f:=c.length
  simp at d f
  exact aB4 (by omega)
 ·exact wpS_pure q
theorem an8 {vs:List Value} {ps:List Keyed} (h:ps.Perm (vs.zip vs)):(∀ p∈ps,p.1=p.2/\p.1∈vs)/\(ps.map (·.2)).Perm vs:=by
 refine ⟨fun p a=>mem_zip_self (h.mem_iff.mp a),?_⟩
 have b:=h.map (fun p=>p.2)
 have e:(vs.zip vs).map (fun p=>p.2)=vs:=List.map_snd_zip (ay6 _)
 rwa [e] at b
theorem afb {a:Addr} {vs:List Value} {n:Nat} {P:PySem.Fin->Shared->Prop} (j:s.heap.get? a=some (seqObj "list" vs.toArray n)) (c:vs.length<=sizeLine)
  (p:2<=vs.length->∀ h',(∀ b o,b ≠ a->s.heap.get? b=some o->h'.get? b=some o)->∃ κ S R,(∀ (Q:SortKind->Shared->Prop),Q κ { s with heap:=h' }->wpAny (model prog w) A (keyKind' vs.toArray) Q E { s with heap:=h' })/\Cmp (model prog w) A E { s with heap:=h' } κ S R/\(∀ v∈vs,S (v,v)) /\
   ∀ out:List Value,out.Perm vs->out.Pairwise (fun x y=>R (y,y) (x,x)=false)->P (.done (.ret .none)) { s with heap:=sortedHeap s.heap a vs out.toArray })
  (J:vs.length < 2->P (.done (.ret .none)) { s with heap:=sortedHeap s.heap a vs vs.toArray }) :
  wpAny (model prog w) A (Builtin.«list.sort» ⟨[.ref a],[]⟩) P E s:=by
 rw [list_sort_plain]
 have ha:a < s.heap.objs.size:=aF8 j
 refine aF5 (listItems_at j rfl ?_)
 refine aF5 (listUpdate_at j rfl ?_ (by rw [az1];exact c) (aD0 _))
 obtain ⟨r,h⟩:∃ r,(s.heap.update a (Obj.mapSeq fun _ => #[])).get? a=some (seqObj "list" #[] r):=⟨_,get?_update_seq j (fun _ => #[])⟩
 refine aF5 (seqEpoch_at h rfl ?_)
 refine aF5 (wpAny_newTuple ?_ (by show vs.length<=_;exact c))
 refine aF5 (wpAny_newList ?_ (aD0 _))
 refine aG0 ?_
 have d:(((s.heap.update a (Obj.mapSeq fun _ => #[])).push (seqObj "tuple" vs.toArray 0)).push (seqObj "list" #[] 0)).get? a=some (seqObj "list" #[] r):=by
  rw [Heap.get?_push_ne _ _ _ (by rw [size_push',Heap.size_update];exact az5 (aC8 ha)),Heap.get?_push_ne _ _ _ (by rw [Heap.size_update];exact az5 ha)]
  exact h
 show wpAny (model prog w) A _ P E { s with heap:=((s.heap.update a (Obj.mapSeq fun _ => #[])).push (seqObj "tuple" vs.toArray 0)).push (seqObj "list" #[] 0) }
 dsimp only
 have hsz:vs.toArray.size=vs.length:=by simp
 have kp:∀ b o,b ≠ a->s.heap.get? b=some o->(((s.heap.update a (Obj.mapSeq fun _ => #[])).push (seqObj "tuple" vs.toArray 0)).push (seqObj "list" #[] 0)).get? b=some o:=fun b o hb e=>by
  refine aF7 _ (aF7 _ ?_)
  rw [Heap.get?_update_ne _ _ _ _ hb];exact e
 by_cases h2:vs.toArray.size < 2
 ·rw [aC5 h2,aC5 h2]
  refine aF5 (aF6 ?_)
  rw [StateT.run_pure]
  refine aF5 (aF6 ?_)
  dsimp only
  have l:(arrOf (SortSt.mk' general' (vs.toArray.zip vs.toArray) #[] 7 none)).map (·.2)=vs.toArray:=by
   show (vs.toArray.zip vs.toArray).map (·.2)=vs.toArray
   apply Array.toList_inj.mp
   rw [Array.toList_map,Array.toList_zip]
   exact List.map_snd_zip (ay6 _)
  rw [l]
  refine aF5 (seqEpoch_at d rfl ?_)
  refine aF5 (listUpdate_at d rfl ?_ (aD0 _) (by rw [az1];exact Nat.le_succ_of_le c))
  simp only [bne_self_eq_false,Bool.false_eq_true,if_false]
  exact aF6 (J (by omega))
 ·rw [aC6 h2,aC6 h2]
  obtain ⟨κ,S,R,D,C,K,g⟩:=p (by omega) _ kp
  refine aF5 (D _ ?_)
  refine aF5 (aG2 (at4 C (a0:=vs.toArray.zip vs.toArray) (st:=SortSt.mk' κ (vs.toArray.zip vs.toArray) #[] 7 none) (Q:=fun _ st'=>failedOf st'=none/\(arrOf st').toList.Perm (vs.zip vs)/\Srt R (arrOf st').toList) (fun x q=>?_) rfl rfl rfl rfl fun st' I B z=>⟨I,by simpa using B,z⟩) ?_ fun _ _ e=>e)
  ·have:x∈vs.zip vs:=by simpa using q
   obtain ⟨f,i⟩:=mem_zip_self this
   obtain ⟨H,F⟩:=x
   dsimp only at f i
   subst f
   exact K _ i
  rintro ⟨⟨⟩,st'⟩ z ⟨rfl,hf,L,hs⟩
  dsimp only
  obtain ⟨f,i⟩:=an8 L
  have l:(arrOf st').map (·.2)=(((arrOf st').toList.map (·.2)).toArray):=by
   apply Array.toList_inj.mp
   simp
  rw [l]
  have m:((arrOf st').toList.map (·.2)).length=vs.length:=i.length_eq
  refine aF5 (seqEpoch_at d rfl ?_)
  refine aF5 (listUpdate_at d rfl ?_ (aD0 _) (by rw [az1,m];exact Nat.le_succ_of_le c))
  rw [hf]
  simp only [bne_self_eq_false,Bool.false_eq_true,if_false]
  refine aF6 (g _ i ?_)
  rw [aD1]
  refine aE8 ?_ hs
  intro x y q G M
  have ex:=(f x q).1
  have u:=(f y G).1
  obtain ⟨H,F⟩:=x
  obtain ⟨O,N⟩:=y
  dsimp only at ex u
  subst ex u
  exact M
theorem sorted_any {l:Addr} {vs:List Value} {Q:Value->Shared->Prop} (j:s.heap.IsList l vs.toArray) (a:vs.length<=sizeLine)
  (h:2<=vs.length->∀ h',(∀ b o,s.heap.get? b=some o->h'.get? b=some o)->∃ κ S R,(∀ (Q:SortKind->Shared->Prop),Q κ { s with heap:=h' }->wpAny (model prog w) A.in1.in1 (keyKind' vs.toArray) Q E { s with heap:=h' })/\Cmp (model prog w) A.in1.in1 E { s with heap:=h' } κ S R/\(∀ v∈vs,S (v,v)) /\
   ∀ out:List Value,out.Perm vs->out.Pairwise (fun x y=>R (y,y) (x,x)=false)->Q (.ref (s.heap.objs.size+1)) { s with heap:=sortedAll s.heap vs out.toArray })
  (p:vs.length < 2->Q (.ref (s.heap.objs.size+1)) { s with heap:=sortedAll s.heap vs vs.toArray }) :
  wpAny (model prog w) A (call (.builtin "sorted") [.ref l]) Q E s:=by
 refine Calls.call_function_entry kind_sorted plain_sorted entry_sorted (args_sorted1 _) ?_
 unfold Builtin.«sorted»
 refine aF5 (m:=checkCount "sorted" 1 1 _) (aF6 ?_)
 refine aF5 (collect_list j ?_ a)
 refine aF5 (wpAny_newList ?_ a)
 have hsz:((s.heap.push (seqObj "list" #[] 0)).update s.heap.objs.size (Obj.mapSeq (· ++ vs.toArray))).objs.size=s.heap.objs.size+1:=by
  rw [Heap.size_update,size_push']
 have d:(((s.heap.push (seqObj "list" #[] 0)).update s.heap.objs.size (Obj.mapSeq (· ++ vs.toArray))).push (seqObj "list" vs.toArray 0)).get? (s.heap.objs.size+1)=some (seqObj "list" vs.toArray 0):=by
  rw [← hsz];exact aF9 _ rfl
 have keep:∀ b o,s.heap.get? b=some o->(((s.heap.push (seqObj "list" #[] 0)).update s.heap.objs.size (Obj.mapSeq (· ++ vs.toArray))).push (seqObj "list" vs.toArray 0)).get? b=some o:=fun b o q=>by
  have c:b < s.heap.objs.size:=aF8 q
  rw [Heap.get?_push_ne _ _ _ (by rw [hsz];exact az5 (aC8 c)),Heap.get?_update_ne _ _ _ _ (az5 c),Heap.get?_push_ne _ _ _ (az5 c)]
  exact q
 show wpAny _ _ _ _ _ { s with heap:=((s.heap.push (seqObj "list" #[] 0)).update s.heap.objs.size (Obj.mapSeq (· ++ vs.toArray))).push (seqObj "list" vs.toArray 0) }
 rw [hsz]
 refine aF5 (aG0 (aG6 slot_list_sort ⟨_,d,rfl⟩ entry_list_sort ?body (args_list_sort _)))
 case body =>
  refine afb (s:={ s with heap:=((s.heap.push (seqObj "list" #[] 0)).update s.heap.objs.size (Obj.mapSeq (· ++ vs.toArray))).push (seqObj "list" vs.toArray 0) }) d a (fun g h' kp=>?_) fun c=>?_
  ·obtain ⟨κ,S,R,i,C,r,f⟩:=h g h' fun b o e=>kp b o (az5 (aC8 (aF8 e))) (keep b o e)
   exact ⟨κ,S,R,i,C,r,fun out n u=>⟨_,rfl,aF6 ⟨_,rfl,f out n u⟩⟩⟩
  ·exact ⟨_,rfl,aF6 ⟨_,rfl,p c⟩⟩
end
end TS
namespace L2
open PySem PySem.Spec PyProof.Rows
def toI:V->Int
 | .int i=>i
 | _=>0
def kH (H:Hp):V->List Int
 | .ref t=>match H t with
  | some (.tup xs)=>xs.map toI
  | _=>[]
 | _=>[]
theorem at6 (ns:List Int):(ns.map V.int).map toI=ns:=by
 rw [aB6]
 have:(toI ∘ V.int)=id:=by funext i;rfl
 rw [this,List.map_id]
theorem aj4 {H:Hp} {t:Addr} {ns:List Int} (h:H t=some (.tup (ns.map V.int))):kH H (.ref t)=ns:=by
 simp only [kH,h];exact at6 ns
def TupI (H:Hp) (v:V):Prop:=∃ t ns,v=.ref t/\H t=some (.tup (ns.map V.int))/\ns ≠ []
def ada:Value->V
 | .ref a => .ref a
 | _ => .non
theorem afq:∀ {us:List Value},(∀ u∈us,∃ a,u=.ref a)->Vals (us.map ada) us
 | [],_ => .nil
 | u :: us,h=>by
  obtain ⟨a,e⟩:=h u az7
  subst e
  exact .cons rfl (afq fun v b=>h v (az4 _ b))
theorem afr {H:Hp}:∀ {vs:List V} {us:List Value},Vals vs us->(∀ v∈vs,TupI H v)->(∀ u∈us,∃ a,u=.ref a)/\us.map ada=vs
 | _,_,.nil,_=>⟨fun u c=>(by cases c),rfl⟩
 | v :: vs,u :: us,.cons r t,h=>by
  obtain ⟨a,ns,rfl,_,_⟩:=h v az7
  cases r
  obtain ⟨f,d⟩:=afr t fun v g=>h v (az4 _ g)
  refine ⟨fun x b=>?_,by rw [aB0,d];rfl⟩
  rcases ay8.mp b with rfl | b
  ·exact ⟨_,rfl⟩
  ·exact f x b
section
variable {X:Cx}
def ahf (K:Frag):List V->Hp->VK->Prop:=fun xs H Q=>∃ (a:Addr) (vs:List V),xs=[.ref a]/\SqL K H a vs/\(∀ v∈vs,TupI H v) /\
 ∀ (vs':List V) (p:Addr),vs'.Perm vs->vs'.Pairwise (fun x y=>HT.lexLt (kH H y) (kH H x)=false)->H p=none->Q (.ref p) (upd H p (.lst vs'))
theorem agu {H:Hp} {pins:List (Addr × Obj)} {σ:St} {s:Shared} (I:Inv X pins σ H s) {h':Heap} (kp:∀ b o,s.heap.get? b=some o->h'.get? b=some o):∀ {vs:List V} {us:List Value},Vals vs us->(∀ v∈vs,TupI H v) ->
  (∃ fs,PySem.W.KatTups h' us fs/\fs.length=us.length/\∀ f∈fs,∃ i t,f=.int i t)/\∀ u∈us,∃ a,u=.ref a/\TS.TI h' a (kH H (.ref a))
 | _,_,.nil,_=>⟨⟨[],trivial,rfl,fun f hf=>by cases hf⟩,fun u y=>by cases y⟩
 | v :: vs,u :: us,.cons r t,h=>by
  obtain ⟨a,ns,rfl,e,c⟩:=h v az7
  cases r
  obtain ⟨⟨fs,B,z,A⟩,F⟩:=agu I kp t fun v D=>h v (az4 _ D)
  obtain ⟨_,its,E,o,q,p,n,m⟩:=(show ObjOk X.prog X.w H s.heap a (.tup (ns.map V.int)) from I.hok a _ e)
  have hi:IntsAre its ns:=by simpa using (abk E:IntsAre its.toArray.toList ns)
  have G:TS.TI h' a (kH H (.ref a)):=⟨o,its.toArray,n,kp _ _ q,p,m,by rw [aj4 e];simpa using hi⟩
  obtain ⟨f,hf,i,d,C⟩:∃ f,its.toArray[0]?=some f/\∃ i t,f=.int i t:=by
   cases hi with
   | nil=>exact absurd rfl c
   | cons i d _=>exact ⟨_,by simp,i,d,rfl⟩
  refine ⟨⟨f :: fs,PySem.W.KatTups.cons (kp _ _ q) p m hf B,by simp [z],fun g j=>?_⟩,fun x l=>?_⟩
  ·rcases ay8.mp j with rfl | j
   ·exact ⟨i,d,C⟩
   ·exact A g j
  ·rcases ay8.mp l with rfl | l
   ·exact ⟨a,rfl,G⟩
   ·exact F x l
theorem ak8 {α:Type} {R : α->α->Prop}:∀ {l:List α},l.length < 2->l.Pairwise R
 | [],_=>List.Pairwise.nil
 | [_],_=>List.pairwise_singleton _ _
 | _ :: _ :: _,h=>absurd h (by simp)
theorem an9:aba X (.builtin "sorted") (ahf X.K):=by
 intro pins s σ H xs us Q I r h
 obtain ⟨a,vs,rfl,ha,p,q⟩:=h
 obtain ⟨u,rfl,w⟩:=acj r
 cases w
 obtain ⟨its,j,F,hz⟩:=I.list ha
 obtain ⟨n,N⟩:=afr j p
 have c:its.length<=sizeLine:=by rw [← j.length];exact hz
 have d:H (s.heap.objs.size+1)=none:=I.hok.fresh (Nat.le_succ _)
 have fin:∀ out:List Value,out.Perm its->(out.map ada).Pairwise (fun x y=>HT.lexLt (kH H y) (kH H x)=false)->EP X pins σ Q (.ref (s.heap.objs.size+1)) { s with heap:=sortedAll s.heap its out.toArray }:=by
  intro out f hs
  obtain ⟨e,M⟩:=sortedAll_at s.heap its out.toArray
  have g:Vals (out.map ada) out:=afq fun u z=>n u (f.mem_iff.mp z)
  refine ⟨.ref (s.heap.objs.size+1),_,I.laid (t':=s.toks) (o:=.lst (out.map ada)) (fun b U q=>sortedAll_old q) (Nat.le_succ _) ?_,rfl,q _ _ ?_ hs d⟩
  ·refine ⟨by rw [ay3,f.length_eq];exact c,out,e,g,by rw [M]⟩
  ·rw [← N];exact f.map ada
 refine TS.sorted_any F.isList c (fun B h' kp=>?_) fun m=>?_
 ·obtain ⟨⟨fs,D,P,A⟩,J⟩:=agu I kp j p
  have l:(Value.type "int" != Value.type "tuple")=true:=by rfl
  refine ⟨tuples' true,TS.tS h' (fun a=>kH H (.ref a)),TS.tR (fun a=>kH H (.ref a)),fun Y E=>?_,TS.cmp_tups (s:={ s with heap:=h' }) (fun a=>kH H (.ref a)),fun v g=>?_,fun out f hs=>fin out f ?_⟩
  ·refine PySem.W.kat_kind (T:=.type "int") (s:={ s with heap:=h' }) D (by omega) (fun v g=>?_) (by rfl) ?_
   ·obtain ⟨i,t,rfl⟩:=A v g
    exact .now
   ·rw [l];exact E
  ·obtain ⟨a,e,L⟩:=J v g
   exact ⟨rfl,a,e,L⟩
  ·rw [aD1]
   refine aE8 ?_ hs
   intro x y G C O
   obtain ⟨R,rfl⟩:=n x (f.mem_iff.mp G)
   obtain ⟨S,rfl⟩:=n y (f.mem_iff.mp C)
   exact O
 ·refine fin its (List.Perm.refl _) ?_
  exact ak8 (by rw [ay3];exact m)
end
end L2
namespace HT
open PySem PySem.Spec PyProof.Rows L2
section
variable {prog:Program} {w:World} {A:Around} {kw:List (Str × Value)} {R:Result->Shared->Prop} {I S:Addr} {fp wr:List Addr} {n:Nat} {P:Nat->Value->Prop} {St:Nat->Heap->Prop} {Hd:Heap->Prop}
end
section
variable {prog:Program} {w:World} {A:Around} {E:Value->Shared->Prop} {s:Shared}
end
end HT
namespace L2
open PySem PySem.Spec PyProof.Rows
section
variable {X:Cx} {x:Str} {p pos kpos:Pos} {e en:Expr} {t:TA}
end
end L2
namespace HT
open PySem PySem.Spec PyProof.Rows
section
variable {prog:Program} {w:World} {A:Around} {E:Value->Shared->Prop} {s:Shared}
end
end HT
namespace L2
open PySem PySem.Spec PyProof.Rows
section
variable {X:Cx}
end
end L2
namespace VL
open PySem PySem.Spec L2
def kD:Key->PyData
 | .inl i => .int i
 | .inr x => .str x
mutual
inductive Rp (G:Hp):V->PyData->Prop
 | non:Rp G .non .none
 | bl (b:Bool):Rp G (.bl b) (.bool b)
 | int (i:Int):Rp G (.int i) (.int i)
 | str (x:Str):Rp G (.str x) (.str x)
 | lst {a:Addr} {xs:List V} {ds:List PyData}:G a=some (.lst xs)->Rps G xs ds->Rp G (.ref a) (.list ds)
 | tup {a:Addr} {xs:List V} {ds:List PyData}:G a=some (.tup xs)->Rps G xs ds->Rp G (.ref a) (.tuple ds)
 | dk {a:Addr} {kvs:List (Key × V)} {es:List (Key × PyData)} {ds:List (PyData × PyData)}:G a=some (.dK kvs)->RpK G kvs es->ds=es.map (fun p=>(kD p.1,p.2))->Rp G (.ref a) (.dict ds)
 | dt {a:Addr} {kvs:List (List Key × V)} {es:List (List Key × PyData)} {ds:List (PyData × PyData)}:G a=some (.dT kvs)->RpT G kvs es->ds=es.map (fun p=>(.tuple (p.1.map kD),p.2))->Rp G (.ref a) (.dict ds)
inductive Rps (G:Hp):List V->List PyData->Prop
 | nil:Rps G [] []
 | cons {v:V} {vs:List V} {d:PyData} {ds:List PyData}:Rp G v d->Rps G vs ds->Rps G (v :: vs) (d :: ds)
inductive RpK (G:Hp):List (Key × V)->List (Key × PyData)->Prop
 | nil:RpK G [] []
 | cons {k:Key} {v:V} {d:PyData} {r:List (Key × V)} {s:List (Key × PyData)}:Rp G v d->RpK G r s->RpK G ((k,v) :: r) ((k,d) :: s)
inductive RpT (G:Hp):List (List Key × V)->List (List Key × PyData)->Prop
 | nil:RpT G [] []
 | cons {k:List Key} {v:V} {d:PyData} {r:List (List Key × V)} {s:List (List Key × PyData)}:Rp G v d->RpT G r s->RpT G ((k,v) :: r) ((k,d) :: s)
end
mutual
theorem Rp.same {G G':Hp} (s:Same G G'):∀ {v:V} {d:PyData},Rp G v d->Rp G' v d
 | _,_,.non => .non
 | _,_,.bl b => .bl b
 | _,_,.int i => .int i
 | _,_,.str x => .str x
 | _,_,.lst h r => .lst (s _ _ h) (Rps.same s r)
 | _,_,.tup h r => .tup (s _ _ h) (Rps.same s r)
 | _,_,.dk h r e => .dk (s _ _ h) (RpK.same s r) e
 | _,_,.dt h r e => .dt (s _ _ h) (RpT.same s r) e
theorem Rps.same {G G':Hp} (s:Same G G'):∀ {vs:List V} {ds:List PyData},Rps G vs ds->Rps G' vs ds
 | _,_,.nil => .nil
 | _,_,.cons r t => .cons (Rp.same s r) (Rps.same s t)
theorem RpK.same {G G':Hp} (s:Same G G'):∀ {vs:List (Key × V)} {ds:List (Key × PyData)},RpK G vs ds->RpK G' vs ds
 | _,_,.nil => .nil
 | _,_,.cons r t => .cons (Rp.same s r) (RpK.same s t)
theorem RpT.same {G G':Hp} (s:Same G G'):∀ {vs:List (List Key × V)} {ds:List (List Key × PyData)},RpT G vs ds->RpT G' vs ds
 | _,_,.nil => .nil
 | _,_,.cons r t => .cons (Rp.same s r) (RpT.same s t)
end
theorem Rps.length {G:Hp}:∀ {vs:List V} {ds:List PyData},Rps G vs ds->vs.length=ds.length
 | _,_,.nil=>rfl
 | _,_,.cons _ t=>by simp [Rps.length t]
theorem Rps.get {G:Hp}:∀ {vs:List V} {ds:List PyData} {i:Nat} {d:PyData},Rps G vs ds->ds[i]?=some d->∃ v,vs[i]?=some v/\Rp G v d
 | _,_,_,_,.nil,e=>by simp at e
 | _,_,0,_,.cons r _,e=>by simp at e;subst e;exact ⟨_,rfl,r⟩
 | _,_,i+1,d,.cons _ t,e=>by
  obtain ⟨u,b,a⟩:=Rps.get (i:=i) (d:=d) t (by simpa using e)
  exact ⟨u,by simpa using b,a⟩
theorem Rps.append {G:Hp}:∀ {vs a:List V} {ds es:List PyData},Rps G vs ds->Rps G a es->Rps G (vs ++ a) (ds ++ es)
 | _,_,_,_,.nil,s=>s
 | _,_,_,_,.cons r t,s => .cons r (Rps.append t s)
theorem Rps.set {G:Hp} {v:V} {d:PyData} (h:Rp G v d):∀ {vs:List V} {ds:List PyData} (i:Nat),Rps G vs ds->Rps G (vs.set i v) (ds.set i d)
 | _,_,_,.nil => .nil
 | _,_,0,.cons _ t => .cons h t
 | _,_,i+1,.cons r t => .cons r (Rps.set h i t)
theorem Rps.erase {G:Hp}:∀ {vs:List V} {ds:List PyData} (i:Nat),Rps G vs ds->Rps G (vs.eraseIdx i) (ds.eraseIdx i)
 | _,_,_,.nil => .nil
 | _,_,0,.cons _ t=>t
 | _,_,i+1,.cons r t => .cons r (Rps.erase i t)
theorem Rps.take {G:Hp}:∀ {vs:List V} {ds:List PyData} (i:Nat),Rps G vs ds->Rps G (vs.take i) (ds.take i)
 | _,_,0,_ => .nil
 | _,_,_+1,.nil => .nil
 | _,_,i+1,.cons r t => .cons r (Rps.take i t)
theorem Rps.drop {G:Hp}:∀ {vs:List V} {ds:List PyData} (i:Nat),Rps G vs ds->Rps G (vs.drop i) (ds.drop i)
 | _,_,0,r=>r
 | _,_,_+1,.nil => .nil
 | _,_,i+1,.cons _ t=>Rps.drop i t
theorem Rps.ints {G:Hp}:∀ (ns:List Int),Rps G (ns.map V.int) (ns.map PyData.int)
 | [] => .nil
 | n :: ns => .cons (.int n) (Rps.ints ns)
theorem Rps.ints_inv {G:Hp}:∀ {ns:List Int} {vs:List V},Rps G vs (ns.map PyData.int)->vs=ns.map V.int
 | [],_,.nil=>rfl
 | n :: ns,_,.cons r t=>by
  cases r
  rw [Rps.ints_inv t];rfl
mutual
theorem Rp.rep {G:Hp}:∀ {v:V} {d:PyData},Rp G v d->aau d=true->Rep G v d
 | _,_,.non,_ => .non
 | _,_,.bl b,_ => .bl b
 | _,_,.int i,_ => .int i
 | _,_,.str x,_ => .str x
 | _,_,.lst h r,p => .lst h (Rps.reps r (by simpa [aau] using p))
 | _,_,.tup h r,p => .tup h (Rps.reps r (by simpa [aau] using p))
 | _,_,.dk h r e,p=>by simp [aau] at p
 | _,_,.dt h r e,p=>by simp [aau] at p
theorem Rps.reps {G:Hp}:∀ {vs:List V} {ds:List PyData},Rps G vs ds->plainDs ds=true->Reps G vs ds
 | _,_,.nil,_ => .nil
 | _,_,.cons r t,p=>by
  simp only [plainDs,aE1] at p
  exact .cons (Rp.rep r p.1) (Rps.reps t p.2)
end
structure Own where
 P:Hp->Hp->V->(Addr->Prop)->Prop
 mono:∀ {G H G' H':Hp} {v:V} {F:Addr->Prop},P G H v F->Same G G'->(∀ a o,F a->H a=some o->H' a=some o)->P G' H' v F
 dom:∀ {G H:Hp} {v:V} {F:Addr->Prop},P G H v F->∀ a,F a->∃ o,H a=some o
inductive Sl where
 | st (d:PyData) | own (A:Own) | io (A:Own) | scr (ns:List Int)
abbrev En:=List (Option Sl)
structure Bs where
 K:Frag
 G:Hp
 H:Hp
 R:Hp
 S:St
 F:Nat->Addr->Prop
def SlOk (B:Bs) (G H:Hp) (i:Nat) (v:V) (F:Addr->Prop):Sl->Prop
 | .st d=>Rp G v d/\∀ a,¬ F a
 | .own A=>A.P G H v F/\∀ a,F a->B.H a=none
 | .io A=>A.P G H v F/\(∀ a,F a->B.F i a\/B.H a=none)/\B.S[i]?=some (some v)
 | .scr ns=>(∃ a,v=.ref a/\SqL B.K G a (ns.map V.int))/\∀ a,¬ F a
def FT (G H:Hp):Prop:=∀ (a:Addr) (ks:List Key),H a=some (.tup (ks.map kV))->G a=some (.tup (ks.map kV))
structure VI (B:Bs) (G H:Hp) (σ:St) (env:En) (F:Nat->Addr->Prop):Prop where
 gh:Same G H
 g0:Same B.G G
 gn:∀ a o,G a=some o->B.G a=some o\/B.H a=none
 rs:Same B.R H
 rb:Same B.R B.H
 bh:∀ a o,B.H a=some o->∃ o',H a=some o'
 fg:∀ i a,F i a->G a=none
 fr:∀ i a,F i a->B.R a=none
 fd:∀ i j a,F i a->F j a->i=j
 fo:∀ i a,F i a->∃ o,H a=some o
 sl:∀ i s,env[i]?=some (some s)->∃ v,σ[i]?=some (some v)/\SlOk B G H i v (F i) s
 ln : σ.length=env.length
 ft:FT G H
def RsOk (G H:Hp) (v:V) (F:Addr->Prop):Sl->Prop
 | .st d=>Rp G v d/\∀ a,¬ F a
 | .own A=>A.P G H v F
 | _=>False
structure RsX (B:Bs) (G H:Hp) (v:V) (Fv:Addr->Prop) (s:Sl) (F:Nat->Addr->Prop):Prop where
 ok:RsOk G H v Fv s
 fb:∀ a,Fv a->B.H a=none
 fg:∀ a,Fv a->G a=none
 fo:∀ a,Fv a->∃ o,H a=some o
 fd:∀ j a,Fv a->¬ F j a
structure Out (G H:Hp) (v:V) (G' H':Hp) (s:Sl) (Fv:Addr->Prop):Prop where
 gg:Same G G'
 gh:Same G' H'
 hh:Same H H'
 gn:∀ a o,G' a=some o->G a=some o\/H a=none
 fn:∀ a,Fv a->H a=none
 fg:∀ a,Fv a->G' a=none
 fo:∀ a,Fv a->∃ o,H' a=some o
 ok:RsOk G' H' v Fv s
 ft:FT G H->FT G' H'
theorem SlOk.mono {B:Bs} {G H G' H':Hp} {i:Nat} {v:V} {F:Addr->Prop} {s:Sl} (h:SlOk B G H i v F s) (g:Same G G') (hh:∀ a o,F a->H a=some o->H' a=some o):SlOk B G' H' i v F s:=by
 cases s with
 | st d=>exact ⟨h.1.same g,h.2⟩
 | own A=>exact ⟨A.mono h.1 g hh,h.2⟩
 | io A=>exact ⟨A.mono h.1 g hh,h.2⟩
 | scr ns =>
  obtain ⟨⟨a,e,q⟩,n⟩:=h
  exact ⟨⟨a,e,g.seq q⟩,n⟩
section
variable {B:Bs} {G H G' H':Hp} {σ:St} {env:En} {F:Nat->Addr->Prop} {v:V} {s:Sl} {Fv:Addr->Prop}
theorem VI.no_r (I:VI B G H σ env F) {a:Addr} (h:H a=none):B.R a=none:=by
 cases e:B.R a with
 | none=>rfl
 | some o=>rw [I.rs a o e] at h;cases h
theorem VI.no_b (I:VI B G H σ env F) {a:Addr} (h:H a=none):B.H a=none:=by
 cases e:B.H a with
 | none=>rfl
 | some o=>obtain ⟨o',b⟩:=I.bh a o e;rw [b] at h;cases h
theorem VI.no_g (I:VI B G H σ env F) {a:Addr} (h:H a=none):G a=none:=by
 cases e:G a with
 | none=>rfl
 | some o=>rw [I.gh a o e] at h;cases h
theorem VI.no_f (I:VI B G H σ env F) {a:Addr} (h:H a=none) (i:Nat):¬ F i a:=fun z=>by
 obtain ⟨o,e⟩:=I.fo i a z;rw [e] at h;cases h
theorem VI.grow (I:VI B G H σ env F) (gg:Same G G') (gh:Same G' H') (hh:Same H H') (gn:∀ a o,G' a=some o->G a=some o\/H a=none) (ft:FT G' H'):VI B G' H' σ env F where
 gh:=gh
 g0:=I.g0.trans gg
 gn:=fun a o e=>by
  rcases gn a o e with e | e
  ·exact I.gn a o e
  ·exact .inr (I.no_b e)
 rs:=I.rs.trans hh
 rb:=I.rb
 bh:=fun a o e=>by obtain ⟨o',b⟩:=I.bh a o e;exact ⟨o',hh _ _ b⟩
 fg:=fun i a z=>by
  cases e:G' a with
  | none=>rfl
  | some o =>
   rcases gn a o e with e | e
   ·rw [I.fg i a z] at e;cases e
   ·exact absurd z (I.no_f e i)
 fr:=I.fr
 fd:=I.fd
 fo:=fun i a z=>by obtain ⟨o,e⟩:=I.fo i a z;exact ⟨o,hh _ _ e⟩
 sl:=fun i s e=>by
  obtain ⟨v,d,c⟩:=I.sl i s e
  exact ⟨v,d,c.mono gg fun a o _ q=>hh _ _ q⟩
 ln:=I.ln
 ft:=ft
theorem VI.out (I:VI B G H σ env F) (o:Out G H v G' H' s Fv):VI B G' H' σ env F/\RsX B G' H' v Fv s F :=
 ⟨I.grow o.gg o.gh o.hh o.gn (o.ft I.ft),o.ok,fun a z=>I.no_b (o.fn a z),o.fg,o.fo,fun j a z y=>I.no_f (o.fn a z) j y⟩
theorem VI.b_r (I:VI B G H σ env F) {a:Addr} (h:B.H a=none):B.R a=none:=by
 cases e:B.R a with
 | none=>rfl
 | some o=>rw [I.rb a o e] at h;cases h
def putF (F:Nat->Addr->Prop) (i:Nat) (Fv:Addr->Prop):Nat->Addr->Prop:=fun j a=>if j=i then Fv a else F j a
theorem putF_same {i:Nat} {a:Addr}:putF F i Fv i a ↔ Fv a:=by unfold putF;rw [aC5 rfl]
theorem aey {i:Nat}:putF F i Fv i=Fv:=by funext a;unfold putF;rw [aC5 rfl]
theorem abb {i j:Nat} (h:j ≠ i):putF F i Fv j=F j:=by funext a;unfold putF;rw [aC6 h]
theorem VI.slot (I:VI B G H σ env F) (i:Nat) (o:Option V) (os:Option Sl) (fg:∀ a,Fv a->G a=none) (fr:∀ a,Fv a->B.R a=none) (fo:∀ a,Fv a->∃ o,H a=some o) (fd:∀ j a,j ≠ i->Fv a->¬ F j a)
  (ok:∀ s,os=some s->∃ v,o=some v/\SlOk B G H i v Fv s):VI B G H (σ.set i o) (env.set i os) (putF F i Fv) where
 gh:=I.gh
 g0:=I.g0
 gn:=I.gn
 rs:=I.rs
 rb:=I.rb
 bh:=I.bh
 fg:=fun j a z=>by
  by_cases h:j=i
  ·subst h;exact fg a (putF_same.mp z)
  ·rw [abb h] at z;exact I.fg j a z
 fr:=fun j a z=>by
  by_cases h:j=i
  ·subst h;exact fr a (putF_same.mp z)
  ·rw [abb h] at z;exact I.fr j a z
 fd:=fun j k a y z=>by
  by_cases h:j=i
  ·by_cases g:k=i
   ·rw [h,g]
   ·subst h;rw [abb g] at z;exact absurd z (fd k a g (putF_same.mp y))
  ·by_cases g:k=i
   ·subst g;rw [abb h] at y;exact absurd y (fd j a h (putF_same.mp z))
   ·rw [abb h] at y;rw [abb g] at z;exact I.fd j k a y z
 fo:=fun j a z=>by
  by_cases h:j=i
  ·subst h;exact fo a (putF_same.mp z)
  ·rw [abb h] at z;exact I.fo j a z
 sl:=fun j t e=>by
  by_cases h:j=i
  ·subst h
   rw [aB1,aC5 rfl] at e
   by_cases hl:j < env.length
   ·rw [aC5 hl] at e
    obtain ⟨v,b,q⟩:=ok t (aA5 e)
    refine ⟨v,by rw [aB1,aC5 rfl,aC5 (by rw [I.ln];exact hl),b],?_⟩
    rw [aey];exact q
   ·rw [aC6 hl] at e;cases e
  ·rw [aB1,aC6 (fun z=>h z.symm)] at e
   obtain ⟨v,b,q⟩:=I.sl j t e
   refine ⟨v,by rw [aB1,aC6 (fun z=>h z.symm)];exact b,?_⟩
   rw [abb h];exact q
 ln:=by simp [I.ln]
 ft:=I.ft
theorem VI.store (I:VI B G H σ env F) (r:RsX B G H v Fv s F) (i:Nat):VI B G H (σ.set i (some v)) (env.set i (some s)) (putF F i Fv):=by
 refine I.slot i (some v) (some s) r.fg (fun a z=>I.b_r (r.fb a z)) r.fo (fun j a _ z=>r.fd j a z) fun t e=>?_
 cases e
 refine ⟨v,rfl,?_⟩
 have:=r.ok
 cases s with
 | st d=>exact this
 | own A=>exact ⟨this,r.fb⟩
 | io A=>exact this.elim
 | scr ns=>exact this.elim
theorem VI.drop (I:VI B G H σ env F) (i:Nat):VI B G H σ (env.set i none) (putF F i fun _=>False):=by
 have:=I.slot (Fv:=fun _=>False) i ((σ[i]?).getD none) none (fun a z=>z.elim) (fun a z=>z.elim) (fun a z=>z.elim) (fun j a _ z=>z.elim) (fun s e=>by cases e)
 rwa [show σ.set i ((σ[i]?).getD none) = σ from ?_] at this
 apply aD2
 intro j
 rw [aB1]
 by_cases h:i=j
 ·subst h
  rw [aC5 rfl]
  by_cases hl:i < σ.length
  ·rw [aC5 hl,ay0 hl];rfl
  ·rw [aC6 hl,aC7.mpr (by omega)]
 ·rw [aC6 h]
theorem VI.change {A:Own} (I:VI B G H σ env F) (i:Nat) {c:Hp} {d:Addr->Prop} {os b:Sl} (e:env[i]?=some (some os)) (m : σ[i]?=some (some v))
  (keep:∀ a o,¬ F i a->H a=some o->c a=some o) (n:∀ a o,H a=some o->∃ o',c a=some o') (f:∀ a,d a->(F i a\/H a=none)/\∃ o,c a=some o) (w:A.P G c v d) (N:FT G c)
  (hs:(b=.own A/\∃ l,os=.own l)\/(b=.io A/\∃ l,os=.io l)):VI B G c σ (env.set i (some b)) (putF F i d):=by
 obtain ⟨S,g,q⟩:=I.sl i os e
 rw [m] at g;cases g
 have p:∀ j a,j ≠ i->F j a->¬ F i a:=fun j a hj y z=>hj (I.fd j i a y z)
 have E:∀ a,d a->G a=none:=fun a z=>by
  rcases (f a z).1 with y | y
  ·exact I.fg i a y
  ·exact I.no_g y
 have J:VI B G c σ (env.set i none) (putF F i fun _=>False):=by
  have D:=I.drop i
  refine ⟨fun a o x=>keep a o (fun z=>by rw [I.fg i a z] at x;cases x) (I.gh a o x),D.g0,D.gn,fun a o x=>keep a o (fun z=>by rw [I.fr i a z] at x;cases x) (I.rs a o x),D.rb,fun a o x=>?_,D.fg,D.fr,D.fd,fun j a z=>?_,fun j s x=>?_,D.ln,N⟩
  ·obtain ⟨o',C⟩:=I.bh a o x
   exact n a o' C
  ·obtain ⟨o,x⟩:=D.fo j a z
   exact n a o x
  ·obtain ⟨u,L,O⟩:=D.sl j s x
   refine ⟨u,L,O.mono (Same.refl G) fun a o z y=>?_⟩
   by_cases hj:j=i
   ·subst hj;exact (putF_same.mp z).elim
   ·rw [abb hj] at z
    exact keep a o (p j a hj z) y
 have r:=J.slot (Fv:=d) i (some v) (some b) E (fun a z=>by
   rcases (f a z).1 with y | y
   ·exact I.fr i a y
   ·exact I.no_r y) (fun a z=>(f a z).2) (fun j a hj z y=>by
   rw [abb hj] at y
   rcases (f a z).1 with x | x
   ·exact p j a hj y x
   ·exact I.no_f x j y) fun t Q=>by
   cases Q
   refine ⟨v,rfl,?_⟩
   rcases hs with ⟨rfl,l,rfl⟩ | ⟨rfl,l,rfl⟩
   ·refine ⟨w,fun a z=>?_⟩
    rcases (f a z).1 with y | y
    ·exact q.2 a y
    ·exact I.no_b y
   ·refine ⟨w,fun a z=>?_,q.2.2⟩
    rcases (f a z).1 with y | y
    ·exact q.2.1 a y
    ·exact .inr (I.no_b y)
 have R : σ.set i (some v) = σ:=by
  apply aD2
  intro j
  rw [aB1]
  by_cases h:i=j
  ·subst h
   rw [aC5 rfl,m,aC5 (ay1.mp m).1]
  ·rw [aC6 h]
 have M:(env.set i none).set i (some b)=env.set i (some b):=by simp
 have K:putF (putF F i fun _=>False) i d=putF F i d:=by
  funext j a
  by_cases h:j=i
  ·subst h;rw [aey,aey]
  ·rw [abb h,abb h,abb h]
 rw [R,M,K] at r
 exact r
end
open Classical in
def jn (G H:Hp) (F:Addr->Prop):Hp:=fun a=>if F a then H a else G a
theorem af8 {G H:Hp} {F:Addr->Prop} {a:Addr} (h:F a):jn G H F a=H a:=aC5 h
theorem aj5 {G H:Hp} {F:Addr->Prop} {a:Addr} (h:¬ F a):jn G H F a=G a:=aC6 h
theorem ab2 {G H:Hp} {F:Addr->Prop} (h:∀ a,F a->G a=none):Same G (jn G H F):=fun a o e=>by
 rw [aj5 (fun z=>by rw [h a z] at e;cases e)];exact e
theorem axo {G H:Hp} {F:Addr->Prop} (h:Same G H):Same (jn G H F) H:=fun a o e=>by
 by_cases z:F a
 ·rw [af8 z] at e;exact e
 ·rw [aj5 z] at e;exact h a o e
def Frz (A:Own) (d:PyData):Prop:=∀ (G H:Hp) (v:V) (F:Addr->Prop),A.P G H v F->(∀ a,F a->G a=none)->Same G H->Rp (jn G H F) v d
def FQ:Sl->(PyData->Prop)->Prop
 | .st d,R=>R d
 | .own A,R=>∃ d,Frz A d/\R d
 | _,_=>False
def OL (ds:List PyData):Own where
 P:=fun G H v F=>∃ a vs,v=.ref a/\H a=some (.lst vs)/\Rps G vs ds/\∀ b,F b ↔ b=a
 mono:=fun ⟨a,vs,e,h,r,f⟩ g hh=>⟨a,vs,e,hh a _ ((f a).mpr rfl) h,r.same g,f⟩
 dom:=fun ⟨a,vs,e,h,r,f⟩ b z=>by rw [(f b).mp z];exact ⟨_,h⟩
def OD (es:List (Key × PyData)):Own where
 P:=fun G H v F=>∃ a kvs,v=.ref a/\H a=some (.dK kvs)/\RpK G kvs es/\∀ b,F b ↔ b=a
 mono:=fun ⟨a,vs,e,h,r,f⟩ g hh=>⟨a,vs,e,hh a _ ((f a).mpr rfl) h,r.same g,f⟩
 dom:=fun ⟨a,vs,e,h,r,f⟩ b z=>by rw [(f b).mp z];exact ⟨_,h⟩
def OT (es:List (List Key × PyData)):Own where
 P:=fun G H v F=>∃ a kvs,v=.ref a/\H a=some (.dT kvs)/\RpT G kvs es/\∀ b,F b ↔ b=a
 mono:=fun ⟨a,vs,e,h,r,f⟩ g hh=>⟨a,vs,e,hh a _ ((f a).mpr rfl) h,r.same g,f⟩
 dom:=fun ⟨a,vs,e,h,r,f⟩ b z=>by rw [(f b).mp z];exact ⟨_,h⟩
theorem ahg {ds:List PyData}:Frz (OL ds) (.list ds):=fun G H v F ⟨a,vs,e,h,r,f⟩ n g=>by
 subst e
 exact .lst (by rw [af8 ((f a).mpr rfl)];exact h) (r.same (ab2 n))
theorem apm {es:List (Key × PyData)}:Frz (OD es) (.dict (es.map fun p=>(kD p.1,p.2))):=fun G H v F ⟨a,vs,e,h,r,f⟩ n g=>by
 subst e
 exact .dk (by rw [af8 ((f a).mpr rfl)];exact h) (r.same (ab2 n)) rfl
theorem apn {es:List (List Key × PyData)}:Frz (OT es) (.dict (es.map fun p=>(.tuple (p.1.map kD),p.2))):=fun G H v F ⟨a,vs,e,h,r,f⟩ n g=>by
 subst e
 exact .dt (by rw [af8 ((f a).mpr rfl)];exact h) (r.same (ab2 n)) rfl
theorem ael {d:PyData} {R:PyData->Prop} (h:R d):FQ (.st d) R:=h
theorem abm {ds:List PyData} {R:PyData->Prop} (h:R (.list ds)):FQ (.own (OL ds)) R:=⟨_,ahg,h⟩
theorem axp {es:List (Key × PyData)} {R:PyData->Prop} (h:R (.dict (es.map fun p=>(kD p.1,p.2)))):FQ (.own (OD es)) R:=⟨_,apm,h⟩
theorem axq {es:List (List Key × PyData)} {R:PyData->Prop} (h:R (.dict (es.map fun p=>(.tuple (p.1.map kD),p.2)))):FQ (.own (OT es)) R:=⟨_,apn,h⟩
section
variable {B:Bs} {G H G' H':Hp} {σ:St} {env:En} {F:Nat->Addr->Prop} {v:V} {s:Sl} {Fv:Addr->Prop}
theorem VI.freeze (I:VI B G H σ env F) (fb:∀ a,Fv a->B.H a=none) (fd:∀ j a,Fv a->¬ F j a) (fg:∀ a,Fv a->G a=none):VI B (jn G H Fv) H σ env F where
 gh:=axo I.gh
 g0:=I.g0.trans (ab2 fg)
 gn:=fun a o e=>by
  by_cases z:Fv a
  ·exact .inr (fb a z)
  ·rw [aj5 z] at e;exact I.gn a o e
 rs:=I.rs
 rb:=I.rb
 bh:=I.bh
 fg:=fun i a z=>by
  rw [aj5 (fun y=>fd i a y z)];exact I.fg i a z
 fr:=I.fr
 fd:=I.fd
 fo:=I.fo
 sl:=fun i s e=>by
  obtain ⟨v,d,b⟩:=I.sl i s e
  exact ⟨v,d,b.mono (ab2 fg) fun a o _ q=>q⟩
 ln:=I.ln
 ft:=fun a c e=>ab2 fg _ _ (I.ft a c e)
theorem VI.frz {A:Own} {d:PyData} {i:Nat} (I:VI B G H σ env F) (e:env[i]?=some (some (.own A))) (f:Frz A d) :
  ∃ v,σ[i]?=some (some v)/\Rp (jn G H (F i)) v d/\Same G (jn G H (F i))/\VI B (jn G H (F i)) H σ (env.set i (some (.st d))) (putF F i fun _=>False):=by
 obtain ⟨v,b,q⟩:=I.sl i _ e
 have c:=f G H v (F i) q.1 (I.fg i) I.gh
 refine ⟨v,b,c,ab2 (I.fg i),?_⟩
 have D:=(I.drop i).freeze (Fv:=F i) q.2 (fun j a z y=>by
  by_cases h:j=i
  ·subst h;exact (putF_same.mp y).elim
  ·rw [abb h] at y;exact h (I.fd j i a y z)) (I.fg i)
 have J:=D.slot (Fv:=fun _=>False) i (some v) (some (.st d)) (fun a z=>z.elim) (fun a z=>z.elim) (fun a z=>z.elim) (fun j a _ z=>z.elim) (fun t l=>by cases l;exact ⟨v,rfl,c,fun a z=>z⟩)
 have m : σ.set i (some v) = σ:=by
  apply aD2
  intro j
  rw [aB1]
  by_cases h:i=j
  ·subst h
   rw [aC5 rfl,b,aC5 (ay1.mp b).1]
  ·rw [aC6 h]
 have g:putF (putF F i fun _=>False) i (fun _=>False)=putF F i fun _=>False:=by
  funext j a
  by_cases h:j=i
  ·subst h;rw [aey,aey]
  ·rw [abb h,abb h]
 rw [m,g,List.set_set] at J
 exact J
theorem Out.refl {d:PyData} (g:Same G H) (r:Rp G v d):Out G H v G H (.st d) (fun _=>False):=⟨Same.refl _,g,Same.refl _,fun a o e => .inl e,fun a z=>z.elim,fun a z=>z.elim,fun a z=>z.elim,⟨r,fun a z=>z⟩,fun t=>t⟩
theorem at7 {p:Addr} {o:HO} (g:Same G H) (h:H p=none):Same (upd G p o) (upd H p o):=fun a u e=>by
 by_cases z:a=p
 ·subst z;rw [aaf] at e ⊢;exact e
 ·rw [aad z] at e ⊢;exact g a u e
theorem ab5 {p:Addr} (g:Same G H) (h:H p=none):G p=none:=by
 cases e:G p with
 | none=>rfl
 | some o=>rw [g p o e] at h;cases h
theorem Out.newT {p:Addr} {xs:List V} {ds:List PyData} (g:Same G H) (h:H p=none) (r:Rps G xs ds):Out G H (.ref p) (upd G p (.tup xs)) (upd H p (.tup xs)) (.st (.tuple ds)) (fun _=>False) where
 gg:=aa3 (ab5 g h)
 gh:=at7 g h
 hh:=aa3 h
 gn:=fun a o e=>by
  by_cases z:a=p
  ·subst z;exact .inr h
  ·rw [aad z] at e;exact .inl e
 fn:=fun a z=>z.elim
 fg:=fun a z=>z.elim
 fo:=fun a z=>z.elim
 ok:=⟨.tup aaf (r.same (aa3 (ab5 g h))),fun a z=>z⟩
 ft:=fun t a b e=>by
  by_cases z:a=p
  ·subst z;rw [aaf] at e ⊢;exact e
  ·rw [aad z] at e ⊢;exact t a b e
theorem Out.newO {p:Addr} {o:HO} {A:Own} (g:Same G H) (h:H p=none) (c:∀ xs,o ≠ .tup xs) (r:A.P G (upd H p o) (.ref p) (· = p)):Out G H (.ref p) G (upd H p o) (.own A) (· = p) where
 gg:=Same.refl _
 gh:=g.trans (aa3 h)
 hh:=aa3 h
 gn:=fun a o e => .inl e
 fn:=fun a z=>by rw [z];exact h
 fg:=fun a z=>by rw [z];exact ab5 g h
 fo:=fun a z=>by rw [z];exact ⟨_,aaf⟩
 ok:=r
 ft:=fun t a b e=>by
  by_cases z:a=p
  ·subst z;rw [aaf] at e;exact absurd (aA5 e) (c _)
  ·rw [aad z] at e;exact t a b e
theorem Out.newL {p:Addr} {xs:List V} {ds:List PyData} (g:Same G H) (h:H p=none) (r:Rps G xs ds):Out G H (.ref p) G (upd H p (.lst xs)) (.own (OL ds)) (· = p) :=
 .newO g h (fun _ z=>nomatch z) ⟨p,xs,rfl,aaf,r,fun b=>Iff.rfl⟩
theorem Out.newD {p:Addr} {xs:List (Key × V)} {ds:List (Key × PyData)} (g:Same G H) (h:H p=none) (r:RpK G xs ds):Out G H (.ref p) G (upd H p (.dK xs)) (.own (OD ds)) (· = p) :=
 .newO g h (fun _ z=>nomatch z) ⟨p,xs,rfl,aaf,r,fun b=>Iff.rfl⟩
theorem Out.newDT {p:Addr} {xs:List (List Key × V)} {ds:List (List Key × PyData)} (g:Same G H) (h:H p=none) (r:RpT G xs ds):Out G H (.ref p) G (upd H p (.dT xs)) (.own (OT ds)) (· = p) :=
 .newO g h (fun _ z=>nomatch z) ⟨p,xs,rfl,aaf,r,fun b=>Iff.rfl⟩
end
def EvO (B:Bs) (te:TE) (env:En) (Q':Sl->En->Prop):Prop:=∀ (σ:St) (G H:Hp) (F:Nat->Addr->Prop) (Q:VK),VI B G H σ env F ->
 (∀ v G' H' F' Fv s env',VI B G' H' σ env' F'->Same G G'->RsX B G' H' v Fv s F'->Q' s env'->Q v H')->te σ H Q
def Ev (B:Bs) (te:TE) (env:En) (Q':PyData->En->Prop):Prop:=∀ (σ:St) (G H:Hp) (F:Nat->Addr->Prop) (Q:VK),VI B G H σ env F ->
 (∀ v G' H' F' d env',VI B G' H' σ env' F'->Same G G'->Rp G' v d->Q' d env'->Q v H')->te σ H Q
def EvT (B:Bs) (tt:TT) (env:En) (Q':Bool->En->Prop):Prop:=∀ (σ:St) (G H:Hp) (F:Nat->Addr->Prop) (Q:Bool->Hp->Prop),VI B G H σ env F ->
 (∀ b G' H' F' env',VI B G' H' σ env' F'->Same G G'->Q' b env'->Q b H')->tt σ H Q
def EvA (B:Bs) (ta:TA) (env:En) (Q':List PyData->En->Prop):Prop:=∀ (σ:St) (G H:Hp) (F:Nat->Addr->Prop) (Q:List V->Hp->Prop),VI B G H σ env F ->
 (∀ vs G' H' F' ds env',VI B G' H' σ env' F'->Same G G'->Rps G' vs ds->Q' ds env'->Q vs H')->ta σ H Q
structure ItOk (G:Hp) (J:It) (ds:List PyData):Prop where
 go:∀ i G' H',Same G G'->Same G' H'->i < ds.length->J.go i H'
 stop:∀ i G' H',Same G G'->Same G' H'->i=ds.length->J.stop i H'
 yld:∀ i G' H' x H'' d,Same G G'->Same G' H'->FT G' H'->ds[i]?=some d->J.yld i H' x H''->∃ G'',Out G' H' x G'' H'' (.st d) (fun _=>False)
def EvI (B:Bs) (ti:TI) (env:En) (Q':List PyData->En->Prop):Prop:=∀ (σ:St) (G H:Hp) (F:Nat->Addr->Prop) (R:It->Hp->Prop),VI B G H σ env F ->
 (∀ J G' H' F' ds env',VI B G' H' σ env' F'->Same G G'->ItOk G' J ds->Q' ds env'->R J H')->ti σ H R
def EvG (B:Bs) (g:TG) (s:Sl) (env:En) (Q':En->Prop):Prop:=∀ (σ:St) (G H:Hp) (F:Nat->Addr->Prop) (v:V) (Fv:Addr->Prop) (Q:St->Hp->Prop),VI B G H σ env F->RsX B G H v Fv s F ->
 (∀ σ' G' H' F' env',VI B G' H' σ' env' F'->Same G G'->Q' env'->Q σ' H')->g v σ H Q
def EvGs (B:Bs) (g:TGs) (ds:List PyData) (env:En) (Q':En->Prop):Prop:=∀ (σ:St) (G H:Hp) (F:Nat->Addr->Prop) (vs:List V) (Q:St->Hp->Prop),VI B G H σ env F->Rps G vs ds ->
 (∀ σ' G' H' F' env',VI B G' H' σ' env' F'->Same G G'->Q' env'->Q σ' H')->g vs σ H Q
structure VEnds where
 nx:En->Prop
 rt:Sl->En->Prop
 bk:En->Prop:=fun _=>False
 ct:En->Prop:=fun _=>False
structure RelE (B:Bs) (G:Hp) (D:Ends) (D':VEnds):Prop where
 nx:∀ σ G' H F env,VI B G' H σ env F->Same G G'->D'.nx env->D.nx σ H
 rt:∀ σ G' H F env v Fv s,VI B G' H σ env F->Same G G'->RsX B G' H v Fv s F->D'.rt s env->D.rt v H
 bk:∀ σ G' H F env,VI B G' H σ env F->Same G G'->D'.bk env->D.bk σ H
 ct:∀ σ G' H F env,VI B G' H σ env F->Same G G'->D'.ct env->D.ct σ H
def EvS (B:Bs) (ts:TS) (D':VEnds) (env:En):Prop:=∀ (σ:St) (G H:Hp) (F:Nat->Addr->Prop) (D:Ends),VI B G H σ env F->RelE B G D D'->ts D σ H
theorem RelE.later {B:Bs} {G G':Hp} {D:Ends} {D':VEnds} (r:RelE B G D D') (g:Same G G'):RelE B G' D D' :=
 ⟨fun σ a H F env I q=>r.nx σ a H F env I (g.trans q),fun σ a H F env v Fv s I q=>r.rt σ a H F env v Fv s I (g.trans q),fun σ a H F env I q=>r.bk σ a H F env I (g.trans q),fun σ a H F env I q=>r.ct σ a H F env I (g.trans q)⟩
section
variable {B:Bs} {env:En} {Q':PyData->En->Prop} {QO:Sl->En->Prop} {QT:Bool->En->Prop} {QA:List PyData->En->Prop} {te ta tb:TE}
theorem aez {G H:Hp} {v:V} {d:PyData} {F:Nat->Addr->Prop} (r:Rp G v d):RsX B G H v (fun _=>False) (.st d) F:=⟨⟨r,fun a z=>z⟩,fun a z=>z.elim,fun a z=>z.elim,fun a z=>z.elim,fun j a z=>z.elim⟩
theorem abd (h:Ev B te env fun d e=>QO (.st d) e):EvO B te env QO:=fun σ G H F Q I k =>
 h σ G H F Q I fun v G' H' F' d a b g r q=>k v G' H' F' _ (.st d) a b g (aez r) q
theorem aa8 (h:EvO B te env fun s e=>FQ s fun d=>Q' d e):Ev B te env Q':=fun σ G H F Q I k =>
 h σ G H F Q I fun v G' H' F' Fv s a b g r q=>by
  cases s with
  | st d=>exact k v G' H' F' d a b g r.ok.1 q
  | own A =>
   obtain ⟨d,f,q⟩:=q
   exact k v _ H' F' d a (b.freeze r.fb r.fd r.fg) (g.trans (ab2 r.fg)) (f G' H' v Fv r.ok r.fg b.gh) q
  | io A=>exact q.elim
  | scr ns=>exact q.elim
theorem awc {i:Nat} {d:PyData} (e:env[i]?=some (some (.st d))) (q:Q' d env):Ev B (tVar i) env Q':=fun σ G H F Q I k=>by
 obtain ⟨v,a,r⟩:=I.sl i _ e
 exact ⟨v,a,k v G H F d env I (Same.refl _) r.1 q⟩
theorem at8 {i:Nat} {A:Own} {d:PyData} (e:env[i]?=some (some (.own A))) (f:Frz A d) (q:Q' d (env.set i (some (.st d)))):Ev B (tVar i) env Q':=fun σ G H F Q I k=>by
 obtain ⟨v,a,r,g,J⟩:=I.frz e f
 exact ⟨v,a,k v _ H _ d _ J g r q⟩
theorem awd {i:Int} (q:Q' (.int i) env):Ev B (tC (.int i)) env Q':=fun σ G H F Q I k=>k _ G H F _ env I (Same.refl _) (.int i) q
theorem axr {b:Bool} (q:Q' (.bool b) env):Ev B (tC (.bl b)) env Q':=fun σ G H F Q I k=>k _ G H F _ env I (Same.refl _) (.bl b) q
theorem awe (q:Q' .none env):Ev B (tC .non) env Q':=fun σ G H F Q I k=>k _ G H F _ env I (Same.refl _) .non q
theorem awf {x:Str} (q:Q' (.str x) env):Ev B (tC (.str x)) env Q':=fun σ G H F Q I k=>k _ G H F _ env I (Same.refl _) (.str x) q
def Op2 (r:R2) (x y:PyData) (R:Sl->Prop):Prop:=∀ (G H:Hp) (vx vy:V) (Q:VK),Same G H->Rp G vx x->Rp G vy y->(∀ v G' H' s Fv,Out G H v G' H' s Fv->R s->Q v H')->r vx vy H Q
def Op1 (r:V->Hp->VK->Prop) (x:PyData) (R:Sl->Prop):Prop:=∀ (G H:Hp) (vx:V) (Q:VK),Same G H->Rp G vx x->(∀ v G' H' s Fv,Out G H v G' H' s Fv->R s->Q v H')->r vx H Q
def OpA (r:List V->Hp->VK->Prop) (ds:List PyData) (R:Sl->Prop):Prop:=∀ (G H:Hp) (vs:List V) (Q:VK),Same G H->Rps G vs ds->(∀ v G' H' s Fv,Out G H v G' H' s Fv->R s->Q v H')->r vs H Q
theorem ahh {r:R2} (h:Ev B ta env fun x d=>Ev B tb d fun y b=>Op2 r x y fun s=>QO s b):EvO B (tOp r ta tb) env QO:=fun σ G H F Q I k =>
 h σ G H F _ I fun n w g q x d m C f l=>l σ w g q _ m fun z D i j y b a c u E =>
  E D i n z Q a.gh (f.same c) u fun v p H3 s Fv o A=>k v p H3 j Fv s b (a.out o).1 (C.trans (c.trans o.gg)) (a.out o).2 A
theorem as6 {r:R2} (h:Ev B ta env fun x b=>Ev B tb b fun y a=>Op2 r x y fun s=>FQ s fun d=>Q' d a):Ev B (tOp r ta tb) env Q':=aa8 (ahh h)
theorem awg {r:V->Hp->VK->Prop} (h:Ev B ta env fun x b=>Op1 r x fun s=>QO s b):EvO B (tUn r ta) env QO:=fun σ G H F Q I k =>
 h σ G H F _ I fun g l d j x b a n c f=>f l d g Q a.gh c fun v i H3 s Fv o m=>k v i H3 j Fv s b (a.out o).1 (n.trans o.gg) (a.out o).2 m
theorem axs {r:V->Hp->VK->Prop} (h:Ev B ta env fun x a=>Op1 r x fun s=>FQ s fun d=>Q' d a):Ev B (tUn r ta) env Q':=aa8 (awg h)
theorem at9 (q:QA [] env):EvA B tNil env QA:=fun σ G H F Q I k=>k [] G H F [] env I (Same.refl _) .nil q
theorem ak9 {tr:TA} (h:Ev B ta env fun x c=>EvA B tr c fun xs a=>QA (x :: xs) a):EvA B (abc ta tr) env QA:=fun σ G H F Q I k =>
 h σ G H F _ I fun u p g n x c m q f l=>l σ p g n _ m fun vs r i j ds a d b o s=>k _ r i j _ a d (q.trans b) (.cons (f.same b) o) s
theorem apo {r:List V->Hp->VK->Prop} {t:TA} (h:EvA B t env fun ds b=>OpA r ds fun s=>QO s b):EvO B (tCB r t) env QO:=fun σ G H F Q I k =>
 h σ G H F _ I fun vs j d i ds b a m c f=>f j d vs Q a.gh c fun v g H3 s Fv o l=>k v g H3 i Fv s b (a.out o).1 (m.trans o.gg) (a.out o).2 l
theorem axt {r:List V->Hp->VK->Prop} {t:TA} (h:EvA B t env fun ds a=>OpA r ds fun s=>FQ s fun d=>Q' d a):Ev B (tCB r t) env Q':=aa8 (apo h)
theorem amu {t:TA} (h:EvA B t env fun ds b=>ds.length<=1000/\QO (.st (.tuple ds)) b):EvO B (tTup t) env QO:=fun σ G H F Q I k =>
 h σ G H F _ I fun vs l j f ds b a g c d=>⟨by rw [c.length];exact aD5 (aeg d.1),fun p i=>by
  have o:=Out.newT a.gh i c
  exact k _ _ _ f _ _ b (a.out o).1 (g.trans o.gg) (a.out o).2 d.2⟩
theorem awh {t:TA} (h:EvA B t env fun ds a=>ds.length<=1000/\Q' (.tuple ds) a):Ev B (tTup t) env Q':=aa8 (amu h)
theorem amv {t:TA} (h:EvA B t env fun ds b=>ds.length<=1000/\QO (.own (OL ds)) b):EvO B (tLst t) env QO:=fun σ G H F Q I k =>
 h σ G H F _ I fun vs l j f ds b a g c d=>⟨by rw [c.length];exact aD5 (aeg d.1),fun p i=>by
  have o:=Out.newL a.gh i c
  exact k _ _ _ f _ _ b (a.out o).1 (g.trans o.gg) (a.out o).2 d.2⟩
theorem awi {t:TA} (h:EvA B t env fun ds a=>ds.length<=1000/\Q' (.list ds) a):Ev B (tLst t) env Q':=aa8 (amv fun σ G H F Q I k=>h σ G H F Q I fun vs G' H' F' ds a b g r q=>k vs G' H' F' ds a b g r ⟨q.1,abm q.2⟩)
theorem ala (h:Ev B te env fun x a=>∃ b,x=.bool b/\QT b a):EvT B (anq te) env QT:=fun σ G H F Q I k =>
 h σ G H F _ I fun v j d i x a f l c g=>by
  obtain ⟨b,e,q⟩:=g
  subst e
  cases c
  exact ⟨b,rfl,k b j d i a f l q⟩
theorem axu (h:Ev B te env fun x a=>∃ b,x=.bool b/\QT b a):EvT B (tB te) env QT:=ala h
theorem x_bl {b:Bool} {R:Bool->Prop} (h:R b):∃ c,PyData.bool b=.bool c/\R c:=⟨b,rfl,h⟩
theorem aua {t u:TT} (h:EvT B t env fun c a=>if c=true then EvT B u a QT else QT false a):EvT B (tAnd t u) env QT:=fun σ G H F Q I k =>
 h σ G H F _ I fun b i d g a f j q=>by
  cases b with
  | true=>rw [aC5 rfl] at q ⊢;exact q σ i d g Q f fun c r m n p l o s=>k c r m n p l (j.trans o) s
  | false=>rw [aC6 ay9] at q ⊢;exact k false i d g a f j q
theorem awj {t u:TT} (h:EvT B t env fun c a=>if c=true then QT true a else EvT B u a QT):EvT B (tOr t u) env QT:=fun σ G H F Q I k =>
 h σ G H F _ I fun b i d g a f j q=>by
  cases b with
  | false=>rw [aC6 ay9] at q ⊢;exact q σ i d g Q f fun c r m n p l o s=>k c r m n p l (j.trans o) s
  | true=>rw [aC5 rfl] at q ⊢;exact k true i d g a f j q
theorem aub {t:TT} (h:EvT B t env fun c a=>QT (!c) a):EvT B (tNot t) env QT:=fun σ G H F Q I k =>
 h σ G H F _ I fun b j f g a i d q=>k (!b) j f g a i d q
theorem aih (q:QT true env):EvT B tYes env QT:=fun σ G H F Q I k=>k true G H F env I (Same.refl _) q
theorem auc (h:Ev B ta env fun x a=>∃ b,x=.bool b/\if b=true then Ev B tb a Q' else Q' (.bool false) a):Ev B (ajv ta tb) env Q':=fun σ G H F Q I k =>
 h σ G H F _ I fun v i c g x a f j m r=>by
  obtain ⟨b,e,q⟩:=r
  subst e
  cases m
  refine ⟨b,rfl,?_⟩
  cases b with
  | true=>rw [aC5 rfl] at q ⊢;exact q σ i c g Q f fun v w n o d u l p s y=>k v w n o d u l (j.trans p) s y
  | false=>rw [aC6 ay9] at q ⊢;exact k _ i c g _ a f j (.bl false) q
theorem aud (h:Ev B ta env fun x a=>∃ b,x=.bool b/\Q' (.bool (!b)) a):Ev B (ang ta) env Q':=fun σ G H F Q I k =>
 h σ G H F _ I fun v j d i x a f l c g=>by
  obtain ⟨b,e,q⟩:=g
  subst e
  cases c
  exact ⟨b,rfl,k _ j d i _ a f l (.bl _) q⟩
theorem arc {r K:R2} {M:TE} (h:Ev B ta env fun x U=>Ev B tb U fun y c=>Op2 r x y fun s=>∃ b,s=.st (.bool b)/\if b=true then Ev B M c fun z e3=>Op2 K y z fun s'=>FQ s' fun d=>Q' d e3 else Q' (.bool false) c):Ev B (akd r K ta tb M) env Q':=fun σ G H F Q I k =>
 h σ G H F _ I fun v1 G1 Y F1 x U I1 R X q1=>q1 σ G1 Y F1 _ I1 fun P G2 Z C y c u l O q2 =>
  q2 G2 Z v1 P _ u.gh (X.same l) O fun v L H3 s Fv o z_=>by
   obtain ⟨b,es,g⟩:=z_
   have S:=(u.out o).1
   have n:=o.ok
   subst es
   obtain ⟨n,_⟩:=n
   cases n
   refine ⟨b,rfl,?_⟩
   cases b with
   | false=>rw [aC6 ay9] at g ⊢;exact k _ L H3 C _ c S (R.trans (l.trans o.gg)) (.bl _) g
   | true =>
    rw [aC5 rfl] at g ⊢
    refine g σ L H3 C _ S fun v3 G4 W N z T E w r4 q4=>q4 G4 W P v3 Q E.gh (O.same (o.gg.trans w)) r4 fun i D j s5 m p a=>?_
    have J:=E.out p
    have gg:=R.trans (l.trans (o.gg.trans (w.trans p.gg)))
    cases s5 with
    | st d=>exact k i D j N d T J.1 gg p.ok.1 a
    | own A =>
     obtain ⟨d,f,q⟩:=a
     exact k i _ j N d T (J.1.freeze J.2.fb J.2.fd J.2.fg) (gg.trans (ab2 J.2.fg)) (f D j i m J.2.ok J.2.fg J.1.gh) q
    | io A=>exact a.elim
    | scr ns=>exact a.elim
end
section
variable {B:Bs} {env:En} {D':VEnds} {t u tb:TS} {te:TE} {g:TG} {c:TT} {QE:En->Prop}
theorem aue (h:EvS B t { D' with nx:=fun e=>EvS B u D' e } env):EvS B (tSeq t u) D' env:=fun σ G H F D I r =>
 h σ G H F { D with nx:=u D } I ⟨fun σ G' H F env a g q=>q σ G' H F D a (r.later g),r.rt,r.bk,r.ct⟩
theorem ard (h:D'.nx env):EvS B anh D' env:=fun σ G H F D I r=>r.nx σ G H F env I (Same.refl _) h
theorem auf (h:EvO B te env fun s e=>EvG B g s e D'.nx):EvS B (tAsg te g) D' env:=fun σ G H F D I r =>
 h σ G H F _ I fun v o c n Fv s x m q l j=>j σ o c n v Fv D.nx m l fun a u d f p b i w=>r.nx a u d f p b (q.trans i) w
theorem abi {i:Nat} {s:Sl} (h:QE (env.set i (some s))):EvG B (ab0 i) s env QE:=fun σ G H F v Fv Q I x k=>k _ G H _ _ (I.store x i) (Same.refl _) h
theorem arf (h:QE env):EvGs B gNil [] env QE:=fun σ G H F vs Q I x k=>by cases x;exact ⟨rfl,k σ G H F env I (Same.refl _) h⟩
theorem app {c:TGs} {d:PyData} {ds:List PyData} (h:EvG B g (.st d) env fun e=>EvGs B c ds e QE):EvGs B (asq g c) (d :: ds) env QE:=fun σ G H F vs Q I x k=>by
 cases x with
 | cons r rs =>
  refine ⟨_,_,rfl,h σ G H F _ _ _ I (aez r) fun b s j q y p f o=>o b s j q _ Q p (rs.same f) fun a v l m u i n w=>k a v l m u i (f.trans n) w⟩
theorem aug {K:Frag} {n:Nat} {a:TGs} {ds:List PyData} (b:ds.length=n) (h:EvGs B a ds env QE):EvG B (gTup K n a) (.st (.tuple ds)) env QE:=fun σ G H F v Fv Q I x k=>by
 obtain ⟨r,_⟩:=x.ok
 cases r with
 | tup ha rs=>exact ⟨_,_,rfl,SqT.of (I.gh _ _ ha),by rw [rs.length,b],h σ G H F _ Q I rs k⟩
theorem auh (h:EvO B te env fun s e=>D'.rt s e):EvS B (tRet te) D' env:=fun σ G H F D I r =>
 h σ G H F _ I fun v g a f Fv s j d i c b=>r.rt σ g a f j v Fv s d i c b
theorem alb (h:EvO B te env fun _ e=>D'.nx e):EvS B (ani te) D' env:=fun σ G H F D I r =>
 h σ G H F _ I fun v f a d Fv s i c g j b=>r.nx σ f a d i c g b
theorem awk (h:EvT B c env fun b e=>if b=true then EvS B t D' e else EvS B u D' e):EvS B (tIfS c t u) D' env:=fun σ G H F D I r =>
 h σ G H F _ I fun b i d f j g a q=>by
  cases b with
  | true=>rw [aC5 rfl] at q ⊢;exact q σ i d f D g (r.later a)
  | false=>rw [aC6 ay9] at q ⊢;exact q σ i d f D g (r.later a)
def ForV (B:Bs) (g:TG) (tb:TS) (D':VEnds) (ds:List PyData) (e1:En):Prop:=∃ J:Nat->En->Prop,J 0 e1/\(∀ i d e,ds[i]?=some d->J i e->EvG B g (.st d) e fun e2=>EvS B tb { D' with nx:=J (i+1),ct:=J (i+1),bk:=D'.nx } e2)/\∀ e,J ds.length e->D'.nx e
theorem aui {L:TI} (h:EvI B L env fun ds K=>ForV B g tb D' ds K):EvS B (tFor L g tb) D' env:=fun σ G H F D I r =>
 h σ G H F _ I fun J C H1 F1 ds K I1 E it z_=>by
  obtain ⟨N,j0,U,S⟩:=z_
  refine ⟨fun i m σ H=>m=ds.length - i/\i<=ds.length/\∃ l u p,VI B l H σ p u/\Same C l/\N i p,⟨ds.length,by simp,aD0 _,C,F1,K,I1,Same.refl _,j0⟩,?_⟩
  rintro i m σ H ⟨rfl,hi,l,u,p,n,s,M⟩
  by_cases hlt:i < ds.length
  ·refine .inr ⟨it.go i l H s n.gh hlt,fun σ H=>∃ v F3 O,VI B v H σ O F3/\Same C v/\N (i+1) O,fun a0 H' h'=>⟨ds.length - (i+1),by omega,rfl,hlt,h'⟩,fun x H' y=>?_⟩
   obtain ⟨v,o⟩:=it.yld i l H x H' _ s n.gh n.ft (ay0 hlt) y
   have P:=n.out o
   refine U i _ p (ay0 hlt) M σ v H' u x _ _ P.1 P.2 fun z X R F4 e4 Y T Z=>?_
   have gg:=s.trans (o.gg.trans T)
   refine Z z X R F4 _ Y ⟨fun a b q d j c f w=>⟨b,d,j,c,gg.trans f,w⟩,fun a b q d j Q A W c f=>r.rt a b q d j Q A W c (E.trans (gg.trans f)),fun a b q d j c f=>r.nx a b q d j c (E.trans (gg.trans f)),fun a b q d j c f w=>⟨b,d,j,c,gg.trans f,w⟩⟩
  ·have e:i=ds.length:=by omega
   subst e
   exact .inl ⟨it.stop _ l H s n.gh rfl,r.nx σ l H u p n (E.trans s) (S p M)⟩
variable {QI:List PyData->En->Prop}
theorem arh {K:Frag} (h:Ev B te env fun d e=>∃ ds,d=.list ds/\QI ds e):EvI B (anm K te) env QI:=fun σ G H F R I k =>
 h σ G H F _ I fun v p f n d s b r c m=>by
  obtain ⟨ds,l,j⟩:=m
  subst l
  cases c with
  | @lst a vs ds ha rs =>
   refine ⟨a,rfl,⟨vs,SqL.of (b.gh _ _ ha)⟩,k _ p f n ds s b r ⟨fun i G' H' g h hi=>?_,fun i G' H' g h hi=>?_,fun i G' H' x H'' d g h ft hd y=>?_⟩ j⟩
   ·have:i < vs.length:=by rw [rs.length];exact hi
    exact ⟨vs,vs[i],SqL.of (h _ _ (g _ _ ha)),ay0 this⟩
   ·exact ⟨vs,SqL.of (h _ _ (g _ _ ha)),by rw [rs.length];exact Nat.le_of_eq hi.symm⟩
   ·obtain ⟨e,y⟩:=y
    subst e
    obtain ⟨v,o,q⟩:=rs.get hd
    have:=y vs (SqL.of (h _ _ (g _ _ ha)))
    rw [o] at this
    cases this
    exact ⟨G',Out.refl h (q.same g)⟩
theorem awl {ds:List PyData} {R:List PyData->Prop} (h:R ds):∃ xs,PyData.list ds=.list xs/\R xs:=⟨ds,rfl,h⟩
def rngD (lo:Int) (n:Nat):List PyData:=(List.range n).map fun (i:Nat) => .int (lo+(i:Int))
theorem ado {lo:Int} {n:Nat}:(rngD lo n).length=n:=by simp [rngD]
theorem agv {lo:Int} {n i:Nat} {d:PyData} (h:(rngD lo n)[i]?=some d):i < n/\d=.int (lo+(i:Int)):=by
 unfold rngD at h
 rw [ay5] at h
 have hi:i < n:=by
  have:=(ay1 (l:=(List.range n).map fun (i:Nat)=>PyData.int (lo+(i:Int)))).mp (by rw [ay5];exact h)
  obtain ⟨q,_⟩:=this
  simpa using q
 rw [ay0 (by simpa using hi)] at h
 simp at h
 exact ⟨hi,h.symm⟩
theorem apq {G:Hp} {lo:Int} {n:Nat}:ItOk G (Itr lo n) (rngD lo n):=by
 refine ⟨fun i G' H' g h hi=>?_,fun i G' H' g h hi=>?_,fun i G' H' x H'' d g h ft hd y=>?_⟩
 ·rw [ado] at hi;exact hi
 ·rw [ado] at hi;exact Nat.le_of_eq hi.symm
 ·obtain ⟨e,y⟩:=y
  subst e y
  rw [(agv hd).2]
  exact ⟨G',Out.refl h (.int _)⟩
def aj6 (ds:List PyData) (R:List PyData->Prop):Prop:=∃ j:Int,ds=[.int j]/\-(2 ^ 62)<=j/\j < 2 ^ 62/\R (rngD 0 j.toNat)
def aj7 (ds:List PyData) (R:List PyData->Prop):Prop:=∃ i j:Int,ds=[.int i,.int j]/\(-(2 ^ 62)<=i/\i < 2 ^ 62/\-(2 ^ 62)<=j/\j < 2 ^ 62)/\R (rngD i (j - i).toNat)
theorem ari {a:TA} (h:EvA B a env fun ds e=>aj6 ds fun xs=>QI xs e):EvI B (ann a) env QI:=fun σ G H F R I k =>
 h σ G H F _ I fun vs n c l ds q f o b i=>by
  obtain ⟨j,g,m,p,d⟩:=i
  subst g
  obtain rfl:vs=[V.int j]:=Rps.ints_inv (ns:=[j]) b
  exact ⟨j,rfl,m,p,k _ n c l _ q f o apq d⟩
theorem arj {a:TA} (h:EvA B a env fun ds e=>aj7 ds fun xs=>QI xs e):EvI B (asr a) env QI:=fun σ G H F R I k =>
 h σ G H F _ I fun vs n c m ds q f p b l=>by
  obtain ⟨i,j,g,o,d⟩:=l
  subst g
  obtain rfl:vs=[V.int i,V.int j]:=Rps.ints_inv (ns:=[i,j]) b
  exact ⟨i,j,rfl,o,k _ n c m _ q f p apq d⟩
theorem awm {j:Int} {R:List PyData->Prop} (b : -4611686018427387904<=j) (a:j < 4611686018427387904) (h:R (rngD 0 j.toNat)):aj6 [.int j] R:=⟨j,rfl,by omega,by omega,h⟩
theorem awn {a b:Int} {R:List PyData->Prop} (c : -4611686018427387904<=a/\a < 4611686018427387904/\-4611686018427387904<=b/\b < 4611686018427387904) (h:R (rngD a (b - a).toNat)):aj7 [.int a,.int b] R:=⟨a,b,rfl,by omega,h⟩
theorem acy {lo:Int} {n:Nat} (J:Nat->En->Prop) (b:J 0 env) (hs:∀ i e,i < n->J i e->EvG B g (.st (.int (lo+(i:Int)))) e fun a=>EvS B tb { D' with nx:=J (i+1),ct:=J (i+1),bk:=D'.nx } a) (hd:∀ e,J n e->D'.nx e):ForV B g tb D' (rngD lo n) env :=
 ⟨J,b,fun i d e h j=>by obtain ⟨hi,rfl⟩:=agv h;exact hs i e hi j,fun e j=>hd e (by rw [ado] at j;exact j)⟩
theorem ark {α:Type} {f : α->PyData} {xs:List α} (J:Nat->En->Prop) (b:J 0 env) (hs:∀ i x e,xs[i]?=some x->J i e->EvG B g (.st (f x)) e fun a=>EvS B tb { D' with nx:=J (i+1),ct:=J (i+1),bk:=D'.nx } a) (hd:∀ e,J xs.length e->D'.nx e):ForV B g tb D' (xs.map f) env :=
 ⟨J,b,fun i d e h j=>by
  rw [ay5] at h
  cases hx:xs[i]? with
  | none=>rw [hx] at h;cases h
  | some x=>rw [hx] at h;cases h;exact hs i x e hx j,fun e j=>hd e (by rw [ay3] at j;exact j)⟩
end
theorem alc {B:Bs} {a b:TS} {D':VEnds} {env:En} (h:∀ c:TS,c=b->EvS B a { D' with nx:=fun e=>EvS B c D' e } env):EvS B (tSeq a b) D' env:=aue (h b rfl)
theorem amw {B:Bs} {c b:TS} {D':VEnds} {env:En} (e:c=b) (h:EvS B b D' env):EvS B c D' env:=by rw [e];exact h
@[elab_as_elim] theorem exS1 {c:Type} {σ:Type} {f : c->σ} {p : c->Prop} {a : σ->Prop} (s : σ) (h:∃ b,s=f b/\p b) (k:∀ b,p b->a (f b)):a s:=by
 obtain ⟨b,e,h⟩:=h
 rw [e];exact k _ h
@[elab_as_elim] theorem exS2 {g:Type} {d:Type} {σ:Type} {f : g->d->σ} {p : g->d->Prop} {a : σ->Prop} (s : σ) (h:∃ c b,s=f c b/\p c b) (k:∀ c b,p c b->a (f c b)):a s:=by
 obtain ⟨c,b,e,h⟩:=h
 rw [e];exact k _ _ h
@[elab_as_elim] theorem exS3 {j:Type} {i:Type} {g:Type} {σ:Type} {f : j->i->g->σ} {p : j->i->g->Prop} {a : σ->Prop} (s : σ) (h:∃ d b c,s=f d b c/\p d b c) (k:∀ d b c,p d b c->a (f d b c)):a s:=by
 obtain ⟨d,b,c,e,h⟩:=h
 rw [e];exact k _ _ _ h
@[elab_as_elim] theorem exE3 {j:Type} {i:Type} {g:Type} {σ:Type} {f : j->i->g->σ} {a : σ->Prop} (s : σ) (h:∃ d b c,s=f d b c) (k:∀ d b c,a (f d b c)):a s:=by
 obtain ⟨d,b,c,e⟩:=h
 rw [e];exact k _ _ _
@[elab_as_elim] theorem exS4 {j:Type} {l:Type} {i:Type} {m:Type} {σ:Type} {f : j->l->i->m->σ} {p : j->l->i->m->Prop} {a : σ->Prop} (s : σ) (h:∃ d b c g,s=f d b c g/\p d b c g) (k:∀ d b c g,p d b c g->a (f d b c g)):a s:=by
 obtain ⟨d,b,c,g,e,h⟩:=h
 rw [e];exact k _ _ _ _ h
@[elab_as_elim] theorem exE5 {l:Type} {m:Type} {j:Type} {n:Type} {o:Type} {σ:Type} {f : l->m->j->n->o->σ} {a : σ->Prop} (s : σ) (h:∃ g c d i b,s=f g c d i b) (k:∀ g c d i b,a (f g c d i b)):a s:=by
 obtain ⟨g,c,d,i,b,e⟩:=h
 rw [e];exact k _ _ _ _ _
@[elab_as_elim] theorem exS6 {l:Type} {m:Type} {o:Type} {n:Type} {q:Type} {r:Type} {σ:Type} {f : l->m->o->n->q->r->σ} {p : l->m->o->n->q->r->Prop} {a : σ->Prop} (s : σ) (h:∃ c d b j i g,s=f c d b j i g/\p c d b j i g) (k:∀ c d b j i g,p c d b j i g->a (f c d b j i g)):a s:=by
 obtain ⟨c,d,b,j,i,g,e,h⟩:=h
 rw [e];exact k _ _ _ _ _ _ h
theorem big {n:Nat} (h:n<=1000000):n < sizeLine:=Nat.lt_of_le_of_lt h (by decide)
section
variable {B B1:Bs} {G H G' H':Hp} {σ σI:St} {env envI:En} {F F':Nat->Addr->Prop} {v:V} {s:Sl} {Fv:Addr->Prop} {inv:Nat->Option Nat}
open Classical in
def ack (H:Hp) (F:Nat->Addr->Prop) (inv:Nat->Option Nat):Hp:=fun a=>if ∃ i j,inv i=some j/\F i a then none else H a
theorem ae5 {i j:Nat} {a:Addr} (h:inv i=some j) (f:F i a):ack H F inv a=none:=aC5 ⟨i,j,h,f⟩
theorem agw {a:Addr} (h:∀ i j,inv i=some j->¬ F i a):ack H F inv a=H a:=aC6 fun ⟨i,j,x,y⟩=>h i j x y
theorem adb:Same (ack H F inv) H:=fun a o e=>by
 unfold ack at e
 split at e
 ·cases e
 ·exact e
theorem VI.enter (I:VI B G H σ env F) (inj:∀ i b j,inv i=some j->inv b=some j->i=b) (ln : σI.length=envI.length)
  (sl:∀ j s,envI[j]?=some (some s)->∃ v,σI[j]?=some (some v)/\((∃ d,s=.st d/\Rp G v d/\∀ i,inv i ≠ some j)\/(∃ ns a,s=.scr ns/\v=.ref a/\SqL B.K G a (ns.map V.int)/\∀ i,inv i ≠ some j) ∨
   ∃ i A,inv i=some j/\s=.io A/\σ[i]?=some (some v)/\(env[i]?=some (some (.own A))\/env[i]?=some (some (.io A))))) :
  VI ⟨B.K,G,H,ack H F inv,σI,fun j a=>∃ i,inv i=some j/\F i a⟩ G H σI envI (fun j a=>∃ i,inv i=some j/\F i a) where
 gh:=I.gh
 g0:=Same.refl _
 gn:=fun a o e => .inl e
 rs:=adb
 rb:=adb
 bh:=fun a o e=>⟨o,e⟩
 fg:=fun j a ⟨i,_,z⟩=>I.fg i a z
 fr:=fun j a ⟨i,h,z⟩=>ae5 h z
 fd:=fun j k a ⟨i,h,z⟩ ⟨b,h',u⟩=>by
  have:=I.fd i b a z u
  subst this
  rw [h] at h';cases h';rfl
 fo:=fun j a ⟨i,h,z⟩=>I.fo i a z
 sl:=fun j s e=>by
  obtain ⟨v,l,q⟩:=sl j s e
  refine ⟨v,l,?_⟩
  rcases q with ⟨d,rfl,r,n⟩ | ⟨ns,a,rfl,rfl,q,n⟩ | ⟨i,A,hi,rfl,hs,c⟩
  ·exact ⟨r,fun a ⟨i,h,_⟩=>n i h⟩
  ·exact ⟨⟨a,rfl,q⟩,fun a ⟨i,h,_⟩=>n i h⟩
  ·refine ⟨?_,fun a z => .inl z,l⟩
   have p:(fun a=>∃ b,inv b=some j/\F b a)=F i:=by
    funext a
    exact propext ⟨fun ⟨b,h,z⟩=>by rw [inj i b j hi h];exact z,fun z=>⟨i,hi,z⟩⟩
   show A.P G H v (fun a=>∃ b,inv b=some j/\F b a)
   rw [p]
   rcases c with c | c
   ·obtain ⟨m,f,g⟩:=I.sl i _ c
    rw [hs] at f;cases f;exact g.1
   ·obtain ⟨m,f,g⟩:=I.sl i _ c
    rw [hs] at f;cases f;exact g.1
 ln:=ln
 ft:=I.ft
theorem VI.leave (I:VI B G H σ env F) (inj:∀ i m j,inv i=some j->inv m=some j->i=m) (r:B1.G=G) (p:B1.H=H) (M:∀ a o,H a=some o->(∀ i j,inv i=some j->¬ F i a)->B1.R a=some o)
  (L:∀ i j,inv i=some j->∀ a,B1.F j a->F i a) (D:∀ i j,inv i=some j->B1.S[j]? = σ[i]?) (J:VI B1 G' H' σI envI F') (io:∀ i j,inv i=some j->∃ A',envI[j]?=some (some (.io A'))) {env2:En} (O:env2.length=env.length)
  (N:∀ i s,env2[i]?=some (some s)->(inv i=none/\env[i]?=some (some s))\/∃ j A A',inv i=some j/\envI[j]?=some (some (.io A'))/\((env[i]?=some (some (.own A))/\s=.own A')\/(env[i]?=some (some (.io A))/\s=.io A'))) :
  VI B G' H' σ env2 (fun i a=>match inv i with | some j=>F' j a | none=>F i a):=by
 have c:∀ a o,G' a=some o->G a=some o\/H a=none:=fun a o e=>by
  have:=J.gn a o e
  rw [r,p] at this;exact this
 have fi:∀ i j a,inv i=some j->F' j a->F i a\/H a=none:=fun i j a hi z=>by
  obtain ⟨A',e⟩:=io i j hi
  obtain ⟨v,_,q⟩:=J.sl j _ e
  rcases q.2.1 a z with y | y
  ·exact .inl (L i j hi a y)
  ·rw [p] at y;exact .inr y
 have kp:∀ a o,H a=some o->(∀ i j,inv i=some j->¬ F i a)->H' a=some o:=fun a o e n=>J.rs a o (M a o e n)
 refine ⟨J.gh,I.g0.trans (r ▸ J.g0),fun a o e=>?_,fun a o e=>?_,I.rb,fun a o e=>?_,fun i a z=>?_,fun i a z=>?_,fun i k a y z=>?_,fun i a z=>?_,fun i t e=>?_,by rw [O];exact I.ln,J.ft⟩
 ·rcases c a o e with e | e
  ·exact I.gn a o e
  ·exact .inr (I.no_b e)
 ·refine kp a o (I.rs a o e) fun i j _ z=>?_
  rw [I.fr i a z] at e;cases e
 ·obtain ⟨K,g⟩:=I.bh a o e
  exact J.bh a K (by rw [p];exact g)
 ·cases hi:inv i with
  | some j=>rw [hi] at z;exact J.fg j a z
  | none =>
   rw [hi] at z
   cases e:G' a with
   | none=>rfl
   | some o =>
    rcases c a o e with e | e
    ·rw [I.fg i a z] at e;cases e
    ·exact absurd z (I.no_f e i)
 ·cases hi:inv i with
  | some j =>
   rw [hi] at z
   rcases fi i j a hi z with y | y
   ·exact I.fr i a y
   ·exact I.no_r y
  | none=>rw [hi] at z;exact I.fr i a z
 ·cases hi:inv i with
  | some j =>
   rw [hi] at y
   cases hk:inv k with
   | some l =>
    rw [hk] at z
    have:=J.fd j l a y z
    subst this
    exact inj i k j hi hk
   | none =>
    rw [hk] at z
    rcases fi i j a hi y with x | x
    ·exact I.fd i k a x z
    ·exact absurd z (I.no_f x k)
  | none =>
   rw [hi] at y
   cases hk:inv k with
   | some l =>
    rw [hk] at z
    rcases fi k l a hk z with x | x
    ·exact I.fd i k a y x
    ·exact absurd y (I.no_f x i)
   | none=>rw [hk] at z;exact I.fd i k a y z
 ·cases hi:inv i with
  | some j=>rw [hi] at z;exact J.fo j a z
  | none =>
   rw [hi] at z
   obtain ⟨o,e⟩:=I.fo i a z
   exact J.bh a o (by rw [p];exact e)
 ·rcases N i t e with ⟨hi,g⟩ | ⟨j,A,A',hi,g,f⟩
  ·obtain ⟨v,u,q⟩:=I.sl i t g
   refine ⟨v,u,?_⟩
   simp only [hi]
   refine q.mono (r ▸ J.g0) fun a o z y=>kp a o y fun m P d E=>?_
   have:=I.fd i m a z E
   subst this
   rw [hi] at d;cases d
  ·obtain ⟨v,u,q⟩:=J.sl j _ g
   have w : σ[i]?=some (some v):=by rw [← D i j hi];exact q.2.2
   refine ⟨v,w,?_⟩
   simp only [hi]
   rcases f with ⟨f,rfl⟩ | ⟨f,rfl⟩
   ·obtain ⟨C,_,h⟩:=I.sl i _ f
    refine ⟨q.1,fun a z=>?_⟩
    rcases fi i j a hi z with y | y
    ·exact h.2 a y
    ·exact I.no_b y
   ·obtain ⟨C,b,h⟩:=I.sl i _ f
    rw [w] at b;cases b
    refine ⟨q.1,fun a z=>?_,h.2.2⟩
    rcases fi i j a hi z with y | y
    ·exact h.2.1 a y
    ·exact .inr (I.no_b y)
theorem RsX.leave (I:VI B G H σ env F) (b:B1.H=H) (r:RsX B1 G' H' v Fv s F'):RsX B G' H' v Fv s (fun i a=>match inv i with | some j=>F' j a | none=>F i a):=by
 have hn:∀ a,Fv a->H a=none:=fun a z=>b ▸ r.fb a z
 refine ⟨r.ok,fun a z=>I.no_b (hn a z),r.fg,r.fo,fun i a z y=>?_⟩
 cases hi:inv i with
 | some j=>rw [hi] at y;exact r.fd j a z y
 | none=>rw [hi] at y;exact I.no_f (hn a z) i y
end
abbrev VP:=List Sl->(Sl->Prop)->Prop
abbrev VIo:=Own->List Sl->(Own->Sl->Prop)->Prop
def noF:Nat->Addr->Prop:=fun _ _=>False
def bsP (K:Frag) (G H:Hp) (vs:List V):Bs:=⟨K,G,H,H,vs.map some,noF⟩
def as7 (K:Frag) (G:Hp):V->Sl->Prop
 | v,.st d=>Rp G v d
 | v,.scr ns=>∃ a,v=.ref a/\SqL K G a (ns.map V.int)
 | _,_=>False
inductive ArgsOk (K:Frag) (G:Hp):List V->List Sl->Prop
 | nil:ArgsOk K G [] []
 | cons {v:V} {s:Sl} {vs:List V} {ss:List Sl}:as7 K G v s->ArgsOk K G vs ss->ArgsOk K G (v :: vs) (s :: ss)
theorem ArgsOk.length {K:Frag} {G:Hp}:∀ {vs:List V} {ss:List Sl},ArgsOk K G vs ss->vs.length=ss.length
 | _,_,.nil=>rfl
 | _,_,.cons _ t=>by simp [ArgsOk.length t]
theorem ArgsOk.get {K:Frag} {G:Hp}:∀ {vs:List V} {ss:List Sl} {i:Nat} {s:Sl},ArgsOk K G vs ss->ss[i]?=some s->∃ v,vs[i]?=some v/\as7 K G v s
 | _,_,_,_,.nil,e=>by simp at e
 | _,_,0,_,.cons r _,e=>by simp at e;subst e;exact ⟨_,rfl,r⟩
 | _,_,i+1,s,.cons _ t,e=>by
  obtain ⟨u,b,a⟩:=ArgsOk.get (i:=i) (s:=s) t (by simpa using e)
  exact ⟨u,by simpa using b,a⟩
theorem ArgsOk.of {K:Frag} {G:Hp}:∀ {vs:List V} {ds:List PyData},Rps G vs ds->ArgsOk K G vs (ds.map Sl.st)
 | _,_,.nil => .nil
 | _,_,.cons r t => .cons r (ArgsOk.of t)
theorem amx {α:Type} {xs:List α} {n i:Nat} {s : α} (e:(xs.map some ++ List.replicate n none)[i]?=some (some s)):xs[i]?=some s:=by
 by_cases h:i < xs.length
 ·rw [aA2 (by simpa using h),ay5] at e
  rw [ay0 h] at e ⊢
  simpa using e
 ·rw [aA7 (by simpa using h),List.getElem?_replicate] at e
  split at e <;> cases e
theorem amy {α:Type} {xs:List α} {n i:Nat} {s : α} (e:xs[i]?=some s):(xs.map some ++ List.replicate n none)[i]?=some (some s):=by
 have h:i < xs.length:=(ay1.mp e).1
 rw [aA2 (by simpa using h),ay5,e];rfl
def spP (K:Frag) (f:VP):Sp:=fun vs H Q _=>∃ G ss Q',Same G H/\FT G H/\ArgsOk K G vs ss/\f ss Q'/\∀ s,Q' s->∀ v G' H' Fv,Out G H v G' H' s Fv->Q v H'
structure OutI (G H R:Hp) (F0:Addr->Prop) (v0:V) (A':Own) (s:Sl) (v:V) (G' H':Hp) (F' Fv:Addr->Prop):Prop where
 gg:Same G G'
 gh:Same G' H'
 ft:FT G' H'
 gn:∀ a o,G' a=some o->G a=some o\/H a=none
 rs:Same R H'
 bh:∀ a o,H a=some o->∃ o',H' a=some o'
 ap:A'.P G' H' v0 F'
 fi:∀ a,F' a->F0 a\/H a=none
 fg:∀ a,F' a->G' a=none
 ok:RsOk G' H' v Fv s
 fv:∀ a,Fv a->H a=none/\G' a=none/\(∃ o,H' a=some o)/\¬ F' a
def spI (K:Frag) (f:VIo):Sp:=fun vs H Q _=>∃ v0 vr G R A ss F0 Q',vs=v0 :: vr/\Same G H/\FT G H/\Same R H/\A.P G H v0 F0/\(∀ a,F0 a->G a=none)/\(∀ a,F0 a->R a=none)/\ArgsOk K G vr ss /\
 f A ss Q'/\∀ A' s,Q' A' s->∀ v G' H' F' Fv,OutI G H R F0 v0 A' s v G' H' F' Fv->Q v H'
theorem adp {K:Frag} {f:VP} {l:TS} {N:List Str} {vs:List V} {H:Hp} {Q:VK} {E:XK} (h:spP K f vs H Q E)
  (hb:∀ ss b,f ss b->∀ B,B.K=K->EvS B l { nx:=fun _=>b (.st .none),rt:=fun s _=>b s } (ss.map some ++ List.replicate (N.length - ss.length) none)):l { nx:=fun _ H'=>Q .non H',rt:=Q } (L2.start N vs) H:=by
 obtain ⟨G,ss,b,gh,ft,m,hf,c⟩:=h
 have fin:∀ {σ G' H' F env v Fv s},VI (bsP K G H vs) G' H' σ env F->RsX (bsP K G H vs) G' H' v Fv s F->Out G H v G' H' s Fv:=fun I r =>
  ⟨I.g0,I.gh,I.rs,I.gn,r.fb,r.fg,r.fo,r.ok,fun _=>I.ft⟩
 refine hb ss _ hf (bsP K G H vs) rfl (L2.start N vs) G H noF _ ?_ ⟨fun σ G' H' F env I g q=>c _ q _ _ _ _ (fin I (aez .non)),fun σ G' H' F env v Fv s I g r q=>c _ q v G' H' Fv (fin I r),fun _ _ _ _ _ _ _ q=>q,fun _ _ _ _ _ _ _ q=>q⟩
 refine ⟨gh,Same.refl _,fun a o e => .inl e,Same.refl _,Same.refl _,fun a o e=>⟨o,e⟩,fun i a z=>z.elim,fun i a z=>z.elim,fun i j a z=>z.elim,fun i a z=>z.elim,fun i s e=>?_,?_,ft⟩
 ·obtain ⟨v,n,q⟩:=m.get (amx e)
  refine ⟨v,by unfold L2.start;exact amy n,?_⟩
  cases s with
  | st d=>exact ⟨q,fun a z=>z⟩
  | scr ns=>exact ⟨q,fun a z=>z⟩
  | own A=>exact q.elim
  | io A=>exact q.elim
 ·unfold L2.start;simp [m.length]
theorem aoa {K:Frag} {f:VIo} {u:TS} {N:List Str} {vs:List V} {H:Hp} {Q:VK} {E:XK} (h:spI K f vs H Q E)
  (hb:∀ A ss c,f A ss c->∀ B,B.K=K->EvS B u { nx:=fun e=>∃ A',e[0]?=some (some (.io A'))/\c A' (.st .none),rt:=fun s e=>∃ A',e[0]?=some (some (.io A'))/\c A' s } (some (.io A) :: (ss.map some ++ List.replicate (N.length - (ss.length+1)) none))):u { nx:=fun _ H'=>Q .non H',rt:=Q } (L2.start N vs) H:=by
 obtain ⟨v0,b,G,R,A,ss,F0,c,rfl,gh,ft,p,ap,fg,fr,l,hf,x⟩:=h
 have O:(v0 :: b).length=ss.length+1:=by simp [l.length]
 refine hb A ss _ hf ⟨K,G,H,R,(v0 :: b).map some,fun i a=>i=0/\F0 a⟩ rfl (L2.start N (v0 :: b)) G H (fun i a=>i=0/\F0 a) _ ?_ ?_
 ·refine ⟨gh,Same.refl _,fun a o e => .inl e,p,p,fun a o e=>⟨o,e⟩,fun i a z=>fg a z.2,fun i a z=>fr a z.2,fun i j a z y=>by rw [z.1,y.1],fun i a z=>A.dom ap a z.2,fun i s e=>?_,?_,ft⟩
  ·cases i with
   | zero =>
    simp at e
    subst e
    refine ⟨v0,rfl,?_,fun a z => .inl z,rfl⟩
    have:(fun a=>0=0/\F0 a)=F0:=by funext a;simp
    rw [this];exact ap
   | succ i =>
    have C:(ss.map some ++ List.replicate (N.length - (ss.length+1)) none)[i]?=some (some s):=by simpa using e
    obtain ⟨v,J,q⟩:=l.get (amx C)
    refine ⟨v,?_,?_⟩
    ·unfold L2.start;exact amy (by simpa using J)
    ·cases s with
     | st d=>exact ⟨q,fun a z=>by cases z.1⟩
     | scr ns=>exact ⟨q,fun a z=>by cases z.1⟩
     | own A=>exact q.elim
     | io A=>exact q.elim
  ·unfold L2.start;simp [l.length]
 ·have fin:∀ σ G' H' F env v Fv s,VI ⟨K,G,H,R,(v0 :: b).map some,fun i a=>i=0/\F0 a⟩ G' H' σ env F->RsX ⟨K,G,H,R,(v0 :: b).map some,fun i a=>i=0/\F0 a⟩ G' H' v Fv s F->(∃ A',env[0]?=some (some (.io A'))/\c A' s)->Q v H':=by
   intro σ G' H' F env v Fv s I r ⟨A',e,q⟩
   obtain ⟨n,w,D,M,L⟩:=I.sl 0 _ e
   have:n=v0:=by
    have m:((v0 :: b).map some)[0]?=some (some n):=L
    simpa using m.symm
   subst this
   exact x A' s q v G' H' (F 0) Fv ⟨I.g0,I.gh,I.ft,I.gn,I.rs,I.bh,D,fun a z=>by
    rcases M a z with y | y
    ·exact .inl y.2
    ·exact .inr y,I.fg 0,r.ok,fun a z=>⟨r.fb a z,r.fg a z,r.fo a z,r.fd 0 a z⟩⟩
  refine ⟨fun σ G' H' F env I g q=>fin σ G' H' F env .non _ (.st .none) I (aez .non) q,fun σ G' H' F env v Fv s I g r q=>fin σ G' H' F env v Fv s I r q,fun _ _ _ _ _ _ _ q=>q,fun _ _ _ _ _ _ _ q=>q⟩
section
variable {B:Bs} {env:En} {Q':PyData->En->Prop} {QO:Sl->En->Prop} {K:Frag} {E:XK}
theorem aiz {f:VP} {t:TA} (h:EvA B t env fun ds b=>f (ds.map Sl.st) fun s=>QO s b):EvO B (acd (spP K f) [] E t) env QO:=fun σ G H F Q I k=>by
 unfold acd
 simp only [aC1]
 exact h σ G H F _ I fun vs i l g ds b a j c d=>⟨i,_,_,a.gh,a.ft,ArgsOk.of c,d,fun s q v G' H' Fv o=>k v G' H' g Fv s b (a.out o).1 (j.trans o.gg) (a.out o).2 q⟩
theorem arl {f:VP} {t:TA} (h:EvA B t env fun ds a=>f (ds.map Sl.st) fun s=>FQ s fun d=>Q' d a):Ev B (acd (spP K f) [] E t) env Q':=aa8 (aiz h)
theorem apr {f:VP} {t:TA} {i:Nat} {ns:List Int} (e:env[i]?=some (some (.scr ns))) (l:B.K=K) (h:EvA B t env fun ds c=>f (.scr ns :: ds.map Sl.st) fun s=>QO s c):EvO B (acd (spP K f) [] E (abc (tVar i) t)) env QO:=fun σ G H F Q I k=>by
 subst l
 unfold acd
 simp only [aC1]
 obtain ⟨v0,r,⟨a,m,j⟩,_⟩:=I.sl i _ e
 refine ⟨v0,r,h σ G H F _ I fun vs u w p ds c b d g n=>⟨u,_,_,b.gh,b.ft,.cons (s:=.scr ns) ⟨a,m,d.seq j⟩ (ArgsOk.of g),n,fun s q v G' H' Fv o=>k v G' H' p Fv s c (b.out o).1 (d.trans o.gg) (b.out o).2 q⟩⟩
def reS:Sl->Own->Sl
 | .io _,A => .io A
 | _,A => .own A
theorem ai0 {f:VIo} {t:TA} {i:Nat} (S:∃ s,env[i]?=some (some s)) (h:EvA B t env fun ds D=>∃ w A,D[i]?=some (some w)/\(w=.own A\/w=.io A)/\f A (ds.map Sl.st) fun A' s=>QO s (D.set i (some (reS w A')))):EvO B (acd (spI K f) [] E (abc (tVar i) t)) env QO:=fun σ G H F Q I k=>by
 unfold acd
 simp only [aC1]
 obtain ⟨s,e⟩:=S
 obtain ⟨v0,O,_⟩:=I.sl i _ e
 refine ⟨v0,O,h σ G H F _ I fun vs N p m ds D r U R ⟨w,A,M,hs,T⟩=>?_⟩
 obtain ⟨W,C,q⟩:=r.sl i _ M
 rw [O] at C;cases C
 have ap:A.P N p v0 (m i):=by
  rcases hs with rfl | rfl
  ·exact q.1
  ·exact q.1
 let inv:Nat->Option Nat:=fun j=>if j=i then some 0 else none
 have d:inv i=some 0:=aC5 rfl
 have g:∀ j,j ≠ i->inv j=none:=fun j h=>aC6 h
 have c:∀ j l,inv j=some l->j=i/\l=0:=fun j l h=>by
  by_cases hj:j=i
  ·subst hj;rw [d] at h;cases h;exact ⟨rfl,rfl⟩
  ·rw [g j hj] at h;cases h
 refine ⟨v0,vs,N,ack p m inv,A,_,m i,_,rfl,r.gh,r.ft,adb,ap,r.fg i,fun a z=>ae5 d z,ArgsOk.of R,T,fun A' s q v G' H' F' Fv o=>?_⟩
 have hi:i < D.length:=(ay1.mp M).1
 have J:VI ⟨K,N,p,ack p m inv,[some v0],fun j a=>j=0/\m i a⟩ G' H' [some v0] [some (.io A')] (fun j a=>j=0/\F' a):=by
  refine ⟨o.gh,o.gg,o.gn,o.rs,adb,o.bh,fun j a z=>o.fg a z.2,fun j a z=>?_,fun j l a y z=>by rw [y.1,z.1],fun j a z=>A'.dom o.ap a z.2,fun j s e=>?_,rfl,o.ft⟩
  ·rcases o.fi a z.2 with y | y
   ·exact ae5 d y
   ·cases e:ack p m inv a with
    | none=>exact e
    | some u=>rw [adb a u e] at y;cases y
  ·cases j with
   | zero =>
    simp at e
    subst e
    refine ⟨v0,rfl,?_,fun a z=>?_,rfl⟩
    ·have:(fun a=>0=0/\F' a)=F':=by funext a;simp
     rw [this];exact o.ap
    ·rcases o.fi a z.2 with y | y
     ·exact .inl ⟨rfl,y⟩
     ·exact .inr y
   | succ j=>simp at e
 have L:=r.leave (inv:=inv) (env2:=D.set i (some (reS w A'))) (fun a b j ha hb=>by rw [(c a j ha).1,(c b j hb).1]) rfl rfl (fun a u e n=>by show ack p m inv a=_;rw [agw n];exact e)
  (fun a j ha x z=>by rw [(c a j ha).1];exact z.2) (fun a j ha=>by rw [(c a j ha).1,(c a j ha).2,O];rfl) J (fun a j ha=>⟨A',by rw [(c a j ha).2];rfl⟩) (by simp) fun j Y e=>by
   by_cases hj:j=i
   ·subst hj
    rw [aB1,aC5 rfl,aC5 hi] at e
    cases e
    refine .inr ⟨0,A,A',d,rfl,?_⟩
    rcases hs with rfl | rfl
    ·exact .inl ⟨M,rfl⟩
    ·exact .inr ⟨M,rfl⟩
   ·rw [aB1,aC6 (fun z=>hj z.symm)] at e
    exact .inl ⟨g j hj,e⟩
 have X:RsX ⟨K,N,p,ack p m inv,[some v0],fun j a=>j=0/\m i a⟩ G' H' v Fv s (fun j a=>j=0/\F' a):=⟨o.ok,fun a z=>(o.fv a z).1,fun a z=>(o.fv a z).2.1,fun a z=>(o.fv a z).2.2.1,fun j a z y=>(o.fv a z).2.2.2 y.2⟩
 exact k v G' H' _ Fv s _ L (U.trans o.gg) (X.leave (inv:=inv) r rfl) q
end
def ahi:Option Sl->Option Sl
 | some (.own A)=>some (.io A)
 | s=>s
def aa4 (src:List (Option Nat)) (env:En):En:=src.map fun o=>match o with | some j=>ahi ((env[j]?).getD none) | none=>none
def isIo:Option Sl->Bool
 | some (.io _)=>true
 | _=>false
def idxE (i:Nat):List (Option Nat)->Nat->Option Nat
 | [],_=>none
 | o :: r,k=>if o=some i then some k else idxE i r (k+1)
def af9 (src:List (Option Nat)) (e:En) (i:Nat) (s:Option Sl):Option Sl :=
 match s with
 | some (.own A)=>(match idxE i src 0 with | some j=>(match e[j]? with | some (some (.io A'))=>some (.own A') | _=>none) | none=>some (.own A))
 | some (.io A)=>(match idxE i src 0 with | some j=>(match e[j]? with | some (some (.io A'))=>some (.io A') | _=>none) | none=>some (.io A))
 | s=>s
def ae0 (src:List (Option Nat)) (e:En):Nat->En->En
 | _,[]=>[]
 | k,s :: r=>af9 src e k s :: ae0 src e (k+1) r
def ahj (src:List (Option Nat)) (e1 e:En):En:=ae0 src e 0 e1
theorem ae6 (src:List (Option Nat)) (e:En):∀ (k:Nat) (l:En) (i:Nat),(ae0 src e k l)[i]?=(l[i]?).map (af9 src e (k+i))
 | _,[],i=>by simp [ae0]
 | k,s :: r,0=>by simp [ae0]
 | k,s :: r,i+1=>by
  have:=ae6 src e (k+1) r i
  simp only [ae0,List.getElem?_cons_succ,this]
  rw [show k+1+i=k+(i+1) by omega]
theorem aem {i:Nat}:∀ {src:List (Option Nat)} {k j:Nat},idxE i src k=some j->k<=j/\src[j - k]?=some (some i)
 | [],_,_,h=>by cases h
 | o :: r,k,j,h=>by
  unfold idxE at h
  by_cases e:o=some i
  ·rw [aC5 e] at h;cases h
   exact ⟨ay6 _,by simp [e]⟩
  ·rw [aC6 e] at h
   obtain ⟨b,a⟩:=aem h
   refine ⟨by omega,?_⟩
   rw [show j - k=(j - (k+1))+1 by omega]
   simpa using a
theorem ai1 {i:Nat}:∀ {src:List (Option Nat)} {k:Nat},idxE i src k=none->∀ j:Nat,src[j]? ≠ some (some i)
 | [],_,_,j=>by simp
 | o :: r,k,h,j=>by
  unfold idxE at h
  by_cases e:o=some i
  ·rw [aC5 e] at h;cases h
  ·rw [aC6 e] at h
   cases j with
   | zero=>simpa using e
   | succ j=>simpa using ai1 h j
theorem ald:∀ (src:List (Option Nat)),(src.filterMap id).Nodup->∀ j a i:Nat,src[j]?=some (some i)->src[a]?=some (some i)->j=a
 | [],_,j,_,_,h,_=>by simp at h
 | none :: r,h,j,a,i,h1,h2=>by
  cases j with
  | zero=>simp at h1
  | succ j =>
   cases a with
   | zero=>simp at h2
   | succ a=>rw [ald r (by simpa using h) j a i (by simpa using h1) (by simpa using h2)]
 | some x :: r,h,j,a,i,h1,h2=>by
  have h':=aF1.mp (show (x :: r.filterMap id).Nodup by simpa using h)
  have c:∀ k,r[k]?=some (some x)->False:=fun k d=>h'.1 (List.mem_filterMap.mpr ⟨some x,ay2 d,rfl⟩)
  cases j with
  | zero =>
   have b:x=i:=by simpa using h1
   subst b
   cases a with
   | zero=>rfl
   | succ a=>exact (c a (by simpa using h2)).elim
  | succ j =>
   cases a with
   | zero =>
    have b:x=i:=by simpa using h2
    subst b
    exact (c j (by simpa using h1)).elim
   | succ a=>rw [ald r h'.2 j a i (by simpa using h1) (by simpa using h2)]
def aga:Option Sl->Bool
 | some (.own _)=>true
 | _=>false
def ioLe:En->En->Prop
 | a :: r,b :: s=>(isIo a=isIo b/\aga b=false)/\ioLe r s
 | [],[]=>True
 | _,_=>False
theorem ale {x:Option Sl} (h:isIo x=true):∃ A,x=some (.io A):=by
 cases x with
 | none=>simp [isIo] at h
 | some y =>
  cases y with
  | io A=>exact ⟨A,rfl⟩
  | _=>simp [isIo] at h
theorem ioLe.get:∀ {a b:En} {j:Nat} {x:Option Sl},ioLe a b->a[j]?=some x->isIo x=true->∃ A,b[j]?=some (some (.io A))
 | [],_,_,_,_,e,_=>by simp at e
 | x :: r,[],_,_,h,_,_=>h.elim
 | x :: r,y :: s,0,z,h,e,p=>by
  simp at e;subst e
  have:=h.1.1
  rw [p] at this
  obtain ⟨A,q⟩:=ale this.symm
  exact ⟨A,by simp [q]⟩
 | x :: r,y :: s,j+1,z,h,e,p=>by
  obtain ⟨A,q⟩:=ioLe.get (j:=j) h.2 (by simpa using e) p
  exact ⟨A,by simpa using q⟩
theorem ioLe.got:∀ {a b:En} {j:Nat} {x:Option Sl},ioLe a b->b[j]?=some x->(isIo x=true->∃ A,a[j]?=some (some (.io A)))/\aga x=false
 | [],[],_,_,_,e=>by simp at e
 | [],_ :: _,_,_,h,e=>h.elim
 | x :: r,[],_,_,h,_=>h.elim
 | x :: r,y :: s,0,z,h,e=>by
  simp at e;subst e
  refine ⟨fun p=>?_,h.1.2⟩
  have:=h.1.1
  rw [p] at this
  obtain ⟨A,q⟩:=ale this
  exact ⟨A,by simp [q]⟩
 | x :: r,y :: s,j+1,z,h,e=>by
  obtain ⟨p,q⟩:=ioLe.got (j:=j) (x:=z) h.2 (by simpa using e)
  exact ⟨fun t=>by obtain ⟨A,u⟩:=p t;exact ⟨A,by simpa using u⟩,q⟩
section
variable {B:Bs} {G H:Hp} {σ:St} {env:En} {F:Nat->Addr->Prop}
theorem VI.aside (I:VI B G H σ env F) {p:Addr} {o:HO} (f:∀ xs,o ≠ .tup xs) (c:G p=none) (hf:∀ j,¬ F j p) (hb:B.H p=none):VI B G (upd H p o) σ env F where
 gh:=fun a u e=>by rw [aad (aas e c)];exact I.gh a u e
 g0:=I.g0
 gn:=I.gn
 rs:=fun a u e=>by rw [aad (aas e (I.b_r hb))];exact I.rs a u e
 rb:=I.rb
 bh:=fun a u e=>by rw [aad (aas e hb)];exact I.bh a u e
 fg:=I.fg
 fr:=I.fr
 fd:=I.fd
 fo:=fun j a z=>by rw [aad (fun e:a=p=>hf j (e ▸ z))];exact I.fo j a z
 sl:=fun i s e=>by
  obtain ⟨v,d,q⟩:=I.sl i s e
  exact ⟨v,d,q.mono (Same.refl _) fun a u z y=>by rw [aad (fun e:a=p=>hf i (e ▸ z))];exact y⟩
 ln:=I.ln
 ft:=fun a b e=>by
  by_cases z:a=p
  ·subst z;rw [aaf] at e;exact absurd (aA5 e) (f _)
  ·rw [aad z] at e;exact I.ft a b e
def LcV (K:Frag) (src:List (Option Nat)) (g:TG) (tif:TT) (te:TE) (ds:List PyData) (e1:En) (R:List PyData->En->Prop):Prop:=∃ J:Nat->List PyData->En->Prop,J 0 [] (aa4 src e1)/\(∀ i ys e,J i ys e->ioLe (aa4 src e1) e) /\
 (∀ i d ys e,ds[i]?=some d->J i ys e->∀ B':Bs,B'.K=K->EvG B' g (.st d) e fun e2=>EvT B' tif e2 fun b e3=>if b=true then Ev B' te e3 fun y e4=>ys.length<=999999/\J (i+1) (ys ++ [y]) e4 else J (i+1) ys e3)/\∀ ys e,J ds.length ys e->R ys (ahj src e1 e)
theorem ai2 {src:List (Option Nat)} {j:Nat} {s:Sl} (h:(aa4 src env)[j]?=some (some s)):∃ i t,src[j]?=some (some i)/\env[i]?=some (some t)/\ahi (some t)=some s:=by
 unfold aa4 at h
 rw [ay5] at h
 cases e:src[j]? with
 | none=>rw [e] at h;cases h
 | some o =>
  rw [e] at h
  cases o with
  | none=>cases h
  | some i =>
   simp only [aE9,Option.some.injEq] at h
   cases e2:env[i]? with
   | none=>rw [e2] at h;cases h
   | some o2 =>
    rw [e2] at h
    cases o2 with
    | none=>cases h
    | some t=>exact ⟨i,t,rfl,e2,h⟩
theorem arm {src:List (Option Nat)} {i j:Nat} {v:V} (h:src[j]?=some (some i)) (a : σ[i]?=some (some v)):(pick src σ)[j]?=some (some v):=by
 unfold pick
 rw [ay5,h]
 simp [a]
theorem aps {src:List (Option Nat)} {wi:TI} {g:TG} {b0:TT} {te:TE} {QO:Sl->En->Prop} (nd:(src.filterMap id).Nodup) (h:EvI B wi env fun ds W=>LcV B.K src g b0 te ds W fun ys U=>QO (.own (OL ys)) U):EvO B (tLC src wi g b0 te) env QO:=fun σ G H F Q I k=>by
 refine h σ G H F _ I fun J G1 H1 F1 ds W I1 g1 it ⟨Jv,j0,a9,js,jd⟩ p T=>?_
 let M:Nat->Bool:=fun i=>match W[i]? with | some (some (.own _))=>true | some (some (.io _))=>true | _=>false
 let inv:Nat->Option Nat:=fun i=>if M i=true then idxE i src 0 else none
 have E:∀ i j,inv i=some j->src[j]?=some (some i)/\M i=true:=fun i j hi=>by
  by_cases hm:M i=true
  ·have f:idxE i src 0=some j:=by simpa [inv,hm] using hi
   have:=(aem f).2
   exact ⟨by simpa using this,hm⟩
  ·simp [inv,hm] at hi
 have a1:∀ i j,src[j]?=some (some i)->M i=true->inv i=some j:=fun i j hs hm=>by
  have e0:inv i=idxE i src 0:=by simp [inv,hm]
  cases e:idxE i src 0 with
  | none=>exact absurd hs (ai1 e j)
  | some j' =>
   have:=(aem e).2
   rw [e0,e,ald src nd j j' i hs (by simpa using this)]
 have inj:∀ i c j,inv i=some j->inv c=some j->i=c:=fun i c j Y C=>by
  have a:=(E i j Y).1
  rw [(E c j C).1] at a
  simpa using a.symm
 have b4:∀ i,M i=true->∃ A,W[i]?=some (some (.own A))\/W[i]?=some (some (.io A)):=fun i hm=>by
  cases e:W[i]? with
  | none=>simp [M,e] at hm
  | some o =>
   cases o with
   | none=>simp [M,e] at hm
   | some s =>
    cases s with
    | own A=>exact ⟨A,.inl rfl⟩
    | io A=>exact ⟨A,.inr rfl⟩
    | st d=>simp [M,e] at hm
    | scr ns=>simp [M,e] at hm
 have b2:∀ i ys e,Jv i ys e->∀ c j,inv c=some j->∃ A,e[j]?=some (some (.io A)):=fun i ys e hj c j hi=>by
  obtain ⟨hs,hm⟩:=E c j hi
  obtain ⟨A,P⟩:=b4 c hm
  refine (a9 i ys e hj).get (x:=some (.io A)) ?_ rfl
  unfold aa4
  rw [ay5,hs]
  rcases P with P | P <;> simp [P,ahi]
 -- between two turns
 let Wv:Nat->List V->St->Hp->Prop:=fun i ys σI H=>∃ G2 F2 e env2 yd,VI B G2 H σ env2 F2/\Same G1 G2/\H p=some (.lst ys)/\Rps G2 ys yd/\G2 p=none/\(∀ j,¬ F2 j p)/\Jv i yd e/\σI.length=e.length/\env2.length=W.length /\
  (∀ j s,e[j]?=some (some s)->∃ v,σI[j]?=some (some v)/\((∃ d,s=.st d/\Rp G2 v d/\∀ i,inv i ≠ some j)\/(∃ ns a,s=.scr ns/\v=.ref a/\SqL B.K G2 a (ns.map V.int)/\∀ i,inv i ≠ some j) ∨
   ∃ i A,inv i=some j/\s=.io A/\σ[i]?=some (some v)/\(env2[i]?=some (some (.own A))\/env2[i]?=some (some (.io A))))) /\
  (∀ i,inv i=none->env2[i]?=W[i]?)/\(∀ i j,inv i=some j->∃ A0 A,e[j]?=some (some (.io A))/\((W[i]?=some (some (.own A0))/\env2[i]?=some (some (.own A)))\/(W[i]?=some (some (.io A0))/\env2[i]?=some (some (.io A)))))
 have hb:B.H p=none:=I1.no_b T
 refine ⟨fun i m ys σI H=>m=ds.length - i/\i<=ds.length/\Wv i ys σI H,⟨ds.length,by simp,aD0 _,?_⟩,?_⟩
 ·refine ⟨G1,F1,aa4 src W,W,[],I1.aside (fun _ z=>nomatch z) (I1.no_g T) (I1.no_f T) hb,Same.refl _,aaf,.nil,I1.no_g T,I1.no_f T,j0,by simp [pick,aa4],rfl,fun j s e=>?_,fun _ _=>rfl,fun i j hi=>?_⟩
  ·obtain ⟨i,t,hs,ht,hp⟩:=ai2 e
   obtain ⟨v,hv,q⟩:=I1.sl i t ht
   refine ⟨v,arm hs hv,?_⟩
   cases t with
   | st d =>
    cases hp
    refine .inl ⟨d,rfl,q.1,fun c f=>?_⟩
    have a:=(E c j f).1
    rw [hs] at a
    have:i=c:=by simpa using a
    subst this
    have:=(E i j f).2
    simp [M,ht] at this
   | scr ns =>
    cases hp
    obtain ⟨⟨a,ea,sq⟩,_⟩:=q
    refine .inr (.inl ⟨ns,a,rfl,ea,sq,fun c f=>?_⟩)
    have a:=(E c j f).1
    rw [hs] at a
    have:i=c:=by simpa using a
    subst this
    have:=(E i j f).2
    simp [M,ht] at this
   | own A=>cases hp;exact .inr (.inr ⟨i,A,a1 i j hs (by simp [M,ht]),rfl,hv,.inl ht⟩)
   | io A=>cases hp;exact .inr (.inr ⟨i,A,a1 i j hs (by simp [M,ht]),rfl,hv,.inr ht⟩)
  ·obtain ⟨hs,hm⟩:=E i j hi
   obtain ⟨A,P⟩:=b4 i hm
   refine ⟨A,A,?_,?_⟩
   ·unfold aa4
    rw [ay5,hs]
    rcases P with P | P <;> simp [P,ahi]
   ·rcases P with P | P
    ·exact .inl ⟨P,P⟩
    ·exact .inr ⟨P,P⟩
 ·rintro i m ys σI H2 ⟨rfl,hi,G2,F2,e,env2,yd,I2,g2,a4,ry,ga,fa,jv,ln,b5,sl,un,mv⟩
  refine ⟨a4,?_⟩
  by_cases hlt:i < ds.length
  ·refine .inr ⟨it.go i G2 H2 g2 I2.gh hlt,Wv (i+1),fun a3 c2 H' hw=>⟨ds.length - (i+1),by omega,rfl,hlt,hw⟩,fun x H3 y=>?_⟩
   obtain ⟨G3,o⟩:=it.yld i G2 H2 x H3 _ g2 I2.gh I2.ft (ay0 hlt) y
   obtain ⟨I3,X3⟩:=I2.out o
   have a6:=o.hh _ _ a4
   have a8:=fa
   have c1:G3 p=none:=by
    cases e':G3 p with
    | none=>rfl
    | some u =>
     rcases o.gn p u e' with q | q
     ·rw [ga] at q;cases q
     ·rw [a4] at q;cases q
   have b9:∀ j s,e[j]?=some (some s)->∃ v,σI[j]?=some (some v)/\((∃ d,s=.st d/\Rp G3 v d/\∀ i,inv i ≠ some j)\/(∃ ns a,s=.scr ns/\v=.ref a/\SqL B.K G3 a (ns.map V.int)/\∀ i,inv i ≠ some j) ∨
     ∃ i A,inv i=some j/\s=.io A/\σ[i]?=some (some v)/\(env2[i]?=some (some (.own A))\/env2[i]?=some (some (.io A)))):=fun j s es=>by
    obtain ⟨v,hv,q⟩:=sl j s es
    refine ⟨v,hv,?_⟩
    rcases q with ⟨d,a7,r,n⟩ | ⟨ns,a,a7,b8,r,n⟩ | q
    ·exact .inl ⟨d,a7,r.same o.gg,n⟩
    ·exact .inr (.inl ⟨ns,a,a7,b8,o.gg.seq r,n⟩)
    ·exact .inr (.inr q)
   have E3:=I3.enter (inv:=inv) (σI:=σI) (envI:=e) inj ln b9
   -- back from the turn
   have fin:∀ (S:St) (G4 H4:Hp) (F4:Nat->Addr->Prop) (e4:En) (a2:List PyData) (a3:List V) (o4:HO),VI ⟨B.K,G3,H3,ack H3 F2 inv,σI,fun j a=>∃ i,inv i=some j/\F2 i a⟩ G4 H4 S e4 F4->Jv (i+1) a2 e4->Rps G4 a3 a2 ->
     Wv (i+1) a3 S (upd H4 p (.lst a3))/\H4 p=some (.lst ys):=by
    intro S G4 H4 F4 e4 a2 a3 o4 I4 j4 r4
    have Z:=b2 (i+1) a2 e4 j4
    have b7:H4 p=some (.lst ys):=I4.rs p _ (by show ack H3 F2 inv p=_;rw [agw (fun c _ _=>a8 c)];exact a6)
    have b1:G4 p=none:=by
     cases e':G4 p with
     | none=>rfl
     | some u =>
      rcases I4.gn p u e' with q | q
      ·change G3 p=_ at q;rw [c1] at q;cases q
      ·change H3 p=_ at q;rw [a6] at q;cases q
    -- the slots of the outer frame
    let D:En:=(List.range env2.length).map fun c=>match inv c with
     | some j=>(match env2[c]?,e4[j]? with | some (some (.own _)),some (some (.io A))=>some (.own A) | some (some (.io _)),some (some (.io A))=>some (.io A) | _,_=>none)
     | none=>(env2[c]?).getD none
    have O:∀ c,c < env2.length->D[c]?=some (match inv c with
     | some j=>(match env2[c]?,e4[j]? with | some (some (.own _)),some (some (.io A))=>some (.own A) | some (some (.io _)),some (some (.io A))=>some (.io A) | _,_=>none)
     | none=>(env2[c]?).getD none):=fun c hl=>by
     simp only [D,ay5]
     rw [ay0 (by simpa using hl)]
     simp
    have L:=I3.leave (inv:=inv) (env2:=D) inj rfl rfl (fun a u q n=>by show ack H3 F2 inv a=_;rw [agw n];exact q) (fun c j f a z=>by obtain ⟨X,Y,C⟩:=z;rw [inj c X j f Y];exact C)
     (fun c j f=>by
      obtain ⟨A0,A,Y,C⟩:=mv c j f
      obtain ⟨v,hv,q⟩:=sl j _ Y
      rcases q with ⟨d,q,_⟩ | ⟨ns,a,q,_⟩ | ⟨X,c0,q1,q2,q3,_⟩
      ·cases q
      ·cases q
      ·rw [inj c X j f q1]
       show σI[j]?=_
       rw [hv,q3]) I4 Z (by simp [D]) (fun c s es=>by
      have hl:c < env2.length:=by
       have:=(ay1.mp es).1
       simpa [D] using this
      rw [O c hl] at es
      cases f:inv c with
      | none =>
       refine .inl ⟨rfl,?_⟩
       rw [f] at es
       simp only [Option.some.injEq] at es
       cases q:env2[c]? with
       | none=>rw [q] at es;cases es
       | some u=>rw [q] at es;simp at es;rw [es]
      | some j =>
       rw [f] at es
       obtain ⟨A',R⟩:=Z c j f
       obtain ⟨A0,A,Y,C⟩:=mv c j f
       simp only [R] at es
       rcases C with ⟨_,C⟩ | ⟨_,C⟩
       ·rw [C] at es
        simp only [Option.some.injEq] at es
        exact .inr ⟨j,A,A',rfl,R,.inl ⟨C,es.symm⟩⟩
       ·rw [C] at es
        simp only [Option.some.injEq] at es
        exact .inr ⟨j,A,A',rfl,R,.inr ⟨C,es.symm⟩⟩)
    have b3:∀ j,¬ (match inv j with | some j=>F4 j p | none=>F2 j p):=fun j z=>by
     cases hj:inv j with
     | none=>rw [hj] at z;exact a8 j z
     | some l =>
      rw [hj] at z
      obtain ⟨A',R⟩:=Z j l hj
      obtain ⟨v,_,q⟩:=I4.sl l _ R
      rcases q.2.1 p z with ⟨X,_,q⟩ | q
      ·exact a8 X q
      ·change H3 p=_ at q;rw [a6] at q;cases q
    refine ⟨⟨G4,_,e4,D,a2,L.aside (fun _ z=>nomatch z) b1 b3 hb,g2.trans (o.gg.trans I4.g0),aaf,r4,b1,b3,j4,I4.ln,by simp [D,b5],fun j s es=>?_,fun c f=>?_,fun c j f=>?_⟩,b7⟩
    ·obtain ⟨v,hv,q⟩:=I4.sl j s es
     refine ⟨v,hv,?_⟩
     have a0:(∀ A,s ≠ .io A)->∀ c,inv c ≠ some j:=fun hn c f=>by
      obtain ⟨A,P⟩:=Z c j f
      rw [es] at P
      exact hn A (by simpa using P)
     cases s with
     | st d=>exact .inl ⟨d,rfl,q.1,a0 (by intro A z;cases z)⟩
     | scr ns =>
      obtain ⟨⟨a,ea,sq⟩,_⟩:=q
      exact .inr (.inl ⟨ns,a,rfl,ea,sq,a0 (by intro A z;cases z)⟩)
     | own A =>
      have:=((a9 _ _ _ j4).got es).2
      simp [aga] at this
     | io A =>
      obtain ⟨A0,h0⟩:=((a9 _ _ _ j4).got es).1 rfl
      obtain ⟨c,t,hs,ht,hp⟩:=ai2 h0
      have hm:M c=true:=by
       cases t with
       | own A=>simp [M,ht]
       | io A=>simp [M,ht]
       | st d=>cases hp
       | scr ns=>cases hp
      have f:=a1 c j hs hm
      obtain ⟨B0,A1,Y,C⟩:=mv c j f
      have hl:c < env2.length:=by
       rcases C with ⟨_,C⟩ | ⟨_,C⟩ <;> exact (ay1.mp C).1
      refine .inr (.inr ⟨c,A,f,rfl,?_,?_⟩)
      ·have hS : σI[j]?=some (some v):=q.2.2
       obtain ⟨v',b6,q'⟩:=sl j _ Y
       rcases q' with ⟨d,q',_⟩ | ⟨ns,a,q',_⟩ | ⟨X,c0,q1,q2,q3,_⟩
       ·cases q'
       ·cases q'
       ·rw [inj c X j f q1,q3,← b6,hS]
      ·rw [O c hl,f]
       simp only [es]
       rcases C with ⟨_,C⟩ | ⟨_,C⟩
       ·rw [C];exact .inl rfl
       ·rw [C];exact .inr rfl
    ·by_cases hl:c < env2.length
     ·rw [O c hl,f]
      simp only
      rw [← un c f]
      rw [ay0 hl];rfl
     ·rw [aC7.mpr (by simp [D];omega),← un c f,aC7.mpr (by omega)]
    ·obtain ⟨A',R⟩:=Z c j f
     obtain ⟨A0,A,Y,C⟩:=mv c j f
     have hl:c < env2.length:=by
      rcases C with ⟨_,C⟩ | ⟨_,C⟩ <;> exact (ay1.mp C).1
     refine ⟨A0,A',R,?_⟩
     rw [O c hl,f]
     simp only [R]
     rcases C with ⟨h3,C⟩ | ⟨h3,C⟩
     ·rw [C];exact .inl ⟨h3,rfl⟩
     ·rw [C];exact .inr ⟨h3,rfl⟩
   have hd:ds[i]?=some ds[i]:=ay0 hlt
   refine js i _ yd e hd jv ⟨B.K,G3,H3,ack H3 F2 inv,σI,fun j a=>∃ i,inv i=some j/\F2 i a⟩ rfl σI G3 H3 _ x _ _ E3 (aez o.ok.1) fun S G4 H4 F4 e4 I4 g4 q4=>?_
   refine q4 S G4 H4 F4 _ I4 fun b G5 H5 F5 e5 I5 g5 q5=>?_
   cases b with
   | false =>
    rw [aC6 ay9] at q5 ⊢
    obtain ⟨w,ac⟩:=fin S G5 H5 F5 e5 yd ys (.lst ys) I5 q5 (ry.same (o.gg.trans (g4.trans g5)))
    have:upd H5 p (.lst ys)=H5:=by
     funext b
     unfold upd
     split
     ·rename_i hb';rw [hb'];exact ac.symm
     ·rfl
    rw [this] at w
    exact w
   | true =>
    rw [aC5 rfl] at q5 ⊢
    refine q5 S G5 H5 F5 _ I5 fun y G6 H6 F6 d6 e6 I6 g6 r6 q6=>?_
    obtain ⟨w,ac⟩:=fin S G6 H6 F6 e6 (yd ++ [d6]) (ys ++ [y]) (.lst ys) I6 q6.2 ((ry.same (o.gg.trans (g4.trans (g5.trans g6)))).append (.cons r6 .nil))
    exact ⟨ac,by rw [ry.length];exact big (by have:=q6.1;omega),w⟩
  ·have ei:i=ds.length:=by omega
   subst ei
   refine .inl ⟨it.stop _ G2 H2 g2 I2.gh rfl,?_⟩
   have q:=jd yd e jv
   have eb:ahj src W e=env2:=by
    apply aD2
    intro c
    unfold ahj
    rw [ae6,Nat.zero_add]
    have N:M c=false->env2[c]?=W[c]?:=fun hm=>un c (by simp [inv,hm])
    cases U:W[c]? with
    | none =>
     rw [N (by simp [M,U]),U];rfl
    | some o =>
     cases o with
     | none=>rw [N (by simp [M,U]),U];rfl
     | some t =>
      have a5:∀ A,(t=.own A\/t=.io A)->M c=true:=fun A h=>by rcases h with rfl | rfl <;> simp [M,U]
      cases t with
      | st d=>rw [N (by simp [M,U]),U];rfl
      | scr ns=>rw [N (by simp [M,U]),U];rfl
      | own A =>
       have hm:=a5 A (.inl rfl)
       simp only [aE9,af9]
       cases e3:idxE c src 0 with
       | none =>
        have:inv c=none:=by simp [inv,e3]
        rw [un c this,U]
       | some j =>
        have f:inv c=some j:=by simp [inv,hm,e3]
        obtain ⟨A0,A1,Y,C⟩:=mv c j f
        simp only [Y]
        rcases C with ⟨h3,C⟩ | ⟨h3,C⟩
        ·rw [C]
        ·rw [U] at h3;cases h3
      | io A =>
       have hm:=a5 A (.inr rfl)
       simp only [aE9,af9]
       cases e3:idxE c src 0 with
       | none =>
        have:inv c=none:=by simp [inv,e3]
        rw [un c this,U]
       | some j =>
        have f:inv c=some j:=by simp [inv,hm,e3]
        obtain ⟨A0,A1,Y,C⟩:=mv c j f
        simp only [Y]
        rcases C with ⟨h3,C⟩ | ⟨h3,C⟩
        ·rw [U] at h3;cases h3
        ·rw [C]
   rw [eb] at q
   refine k (.ref p) G2 H2 F2 (· = p) (.own (OL yd)) env2 I2 (g1.trans g2) ⟨⟨p,ys,rfl,a4,ry,fun b=>Iff.rfl⟩,fun a z=>by rw [z];exact hb,fun a z=>by rw [z];exact ga,fun a z=>by rw [z];exact ⟨_,a4⟩,fun j a z=>by rw [z];exact fa j⟩ q
end
def noIo (e:En):Bool:=e.all fun s => !isIo s
theorem arn {e:En} {j:Nat} {x:Option Sl} (h:noIo e=true) (a:e[j]?=some x):isIo x=false:=by
 have:=aC4.mp h x (ay2 a)
 simpa using this
theorem amz {src:List (Option Nat)} {b e:En} (h:noIo (aa4 src b)=true):ahj src b e=b:=by
 apply aD2
 intro i
 unfold ahj
 rw [ae6,Nat.zero_add]
 cases e2:b[i]? with
 | none=>rfl
 | some o =>
  have a:∀ A,(o=some (.own A)\/o=some (.io A))->idxE i src 0=none:=fun A c=>by
   cases e3:idxE i src 0 with
   | none=>rfl
   | some j =>
    have hs:=(aem e3).2
    have:(aa4 src b)[j]?=some (some (.io A)):=by
     unfold aa4
     rw [ay5,show src[j]?=some (some i) by simpa using hs]
     rcases c with rfl | rfl <;> simp [e2,ahi]
    have:=arn h this
    simp [isIo] at this
  cases o with
  | none=>rfl
  | some t =>
   cases t with
   | st d=>rfl
   | scr ns=>rfl
   | own A=>simp only [aE9,af9,a A (.inl rfl)]
   | io A=>simp only [aE9,af9,a A (.inr rfl)]
def stO:Option PyData->Option Sl:=Option.map Sl.st
theorem isIo_stO {o:Option PyData}:isIo (stO o)=false:=by cases o <;> rfl
theorem ai3 {o:Option PyData}:aga (stO o)=false:=by cases o <;> rfl
theorem agk {src:List (Option Nat)} {b:En}:∀ x∈aa4 src b,aga x=false:=by
 intro x a
 unfold aa4 at a
 obtain ⟨o,_,rfl⟩:=az6.mp a
 cases o with
 | none=>rfl
 | some j =>
  dsimp only
  cases (b[j]?).getD none with
  | none=>rfl
  | some t=>cases t <;> rfl
theorem afs:∀ {e:En},(∀ x∈e,aga x=false)->ioLe e e
 | [],_=>True.intro
 | x :: r,h=>⟨⟨rfl,h x az7⟩,afs fun y a=>h y (az4 _ a)⟩
section
variable {B:Bs} {env:En} {g:TG} {tif:TT} {te:TE} {K:Frag} {src:List (Option Nat)} {ds:List PyData} {e1:En} {R:List PyData->En->Prop}
theorem aro (f:PyData->PyData) (p:PyData->Bool) (g:noIo (aa4 src e1)=true) (B:ds.length<=999999)
  (h:∀ d∈ds,∀ a:Bs,a.K=K->EvT a tif (some (.st d) :: aa4 src e1) fun b l=>b=p d/\l=some (.st d) :: aa4 src e1/\(b=true->Ev a te (some (.st d) :: aa4 src e1) fun y n=>y=f d/\n=some (.st d) :: aa4 src e1))
  (x:R ((ds.filter p).map f) e1):LcV K (none :: src) (ab0 0) tif te ds e1 R:=by
 have c:noIo (aa4 (none :: src) e1)=true:=by
  show ((none :: aa4 src e1).all fun s => !isIo s)=true
  rw [List.all_cons]
  exact (aE1 _ _).mpr ⟨rfl,g⟩
 refine ⟨fun i ys e=>ys=((ds.take i).filter p).map f/\∃ o,e=stO o :: aa4 src e1,⟨by simp,none,rfl⟩,?_,?_,?_⟩
 ·rintro i ys e ⟨_,o,rfl⟩
  exact ⟨⟨isIo_stO.symm,ai3⟩,afs agk⟩
 ·rintro i d ys e hd ⟨rfl,o,rfl⟩ a z
  have hi:i < ds.length:=(ay1.mp hd).1
  have q:ds.take (i+1)=ds.take i ++ [d]:=by rw [aE3,hd];rfl
  refine abi ?_
  show EvT a tif (some (.st d) :: aa4 src e1) _
  intro σ G H F Q I k
  refine h d (ay2 hd) a z σ G H F Q I fun b G' H' F' l m g' ⟨hb,A,u⟩=>k b G' H' F' l m g' ?_
  subst A
  by_cases hp:b=true
  ·rw [aC5 hp]
   intro σ G H F Q I k
   refine u hp σ G H F Q I fun v G' H' F' d' n m g' w ⟨r,j⟩=>k v G' H' F' d' n m g' w ?_
   subst r j
   refine ⟨?_,?_,some d,rfl⟩
   ·have:=List.length_filter_le p (ds.take i)
    simp only [ay3]
    have C:(ds.take i).length<=i:=by simp;omega
    omega
   ·rw [q,List.filter_append,aB7]
    have:p d=true:=by rw [← hb];exact hp
    simp [this]
  ·rw [aC6 hp]
   refine ⟨?_,some d,rfl⟩
   rw [q,List.filter_append,aB7]
   have:p d=false:=by rw [← hb];simpa using hp
   simp [this]
 ·rintro ys e ⟨rfl,o,rfl⟩
  rw [amz c,aD8]
  exact x
theorem aob {α:Type} (xs:List α):xs.filter (fun _=>true)=xs:=by simp
theorem am0 (f:PyData->PyData) (b:noIo (aa4 src e1)=true) (g:ds.length<=999999)
  (h:∀ d∈ds,∀ a:Bs,a.K=K->Ev a te (some (.st d) :: aa4 src e1) fun y i=>y=f d/\i=some (.st d) :: aa4 src e1)
  (c:R (ds.map f) e1):LcV K (none :: src) (ab0 0) tYes te ds e1 R :=
 aro f (fun _=>true) b g (fun d hd a j=>aih ⟨rfl,rfl,fun _=>h d hd a j⟩) (by rw [aob];exact c)
end
section
variable {R:Sl->Prop}
theorem auj {g:Int->Int->Int} {i j:Int} (h:R (.st (.int (g i j)))):Op2 (rI0 fun i j => .int (g i j)) (.int i) (.int j) R:=fun G H d c Q gh a b k=>by
 cases a;cases b
 exact ⟨i,j,rfl,rfl,k _ _ _ _ _ (Out.refl gh (.int _)) h⟩
theorem auk {g:Int->Int->Bool} {i j:Int} (h:R (.st (.bool (g i j)))):Op2 (rI0 fun i j => .bl (g i j)) (.int i) (.int j) R:=fun G H d c Q gh a b k=>by
 cases a;cases b
 exact ⟨i,j,rfl,rfl,k _ _ _ _ _ (Out.refl gh (.bl _)) h⟩
theorem awo {C:Int->Int->Prop} {g:Int->Int->Int} {i j:Int} (c:C i j) (h:R (.st (.int (g i j)))):Op2 (rI C fun i j => .int (g i j)) (.int i) (.int j) R:=fun G H f d Q gh a b k=>by
 cases a;cases b
 exact ⟨i,j,rfl,rfl,c,k _ _ _ _ _ (Out.refl gh (.int _)) h⟩
theorem awp {g:Int->Int} {i:Int} (h:R (.st (.int (g i)))):Op1 (rU fun i => .int (g i)) (.int i) R:=fun G H b Q gh a k=>by
 cases a
 exact ⟨i,rfl,k _ _ _ _ _ (Out.refl gh (.int _)) h⟩
theorem aul {i j:Int} (h:R (.st (.bool (decide (i=j))))):Op2 rEq (.int i) (.int j) R:=fun G H d c Q gh a b k=>by
 cases a;cases b
 exact apd (k _ _ _ _ _ (Out.refl gh (.bl _)) h)
theorem aum {i j:Int} (h:R (.st (.bool (!decide (i=j))))):Op2 rNe (.int i) (.int j) R:=fun G H d c Q gh a b k=>by
 cases a;cases b
 exact avz (k _ _ _ _ _ (Out.refl gh (.bl _)) h)
theorem aun {x y:PyData} (b:aau x=true) (a:aau y=true) (hd:x.depth<=60) (h:R (.st (.bool (PyData.eqv x y)))):Op2 rEqD x y R:=fun G H g f Q gh c d k =>
 ⟨x,y,(c.rep b).same gh,(d.rep a).same gh,b,a,hd,k _ _ _ _ _ (Out.refl gh (.bl _)) h⟩
theorem Rps.at {G:Hp} {vs:List V} {ds:List PyData} {i:Int} {d:PyData} (r:Rps G vs ds) (h:atI ds i=some d):∃ v,atI vs i=some v/\Rp G v d:=by
 unfold atI at h ⊢
 rw [r.length]
 cases e:ixN ds.length i with
 | none=>rw [e] at h;cases h
 | some j =>
  rw [e] at h
  exact r.get h
theorem am1 {K:Frag} {ds:List PyData} {i:Int} {d:PyData} (hd:atI ds i=some d) (h:R (.st d)):Op2 (acu K) (.list ds) (.int i) R:=fun G H j g Q gh a c k=>by
 cases c
 cases a with
 | lst ha rs =>
  obtain ⟨v,f,b⟩:=rs.at hd
  exact agr (gh _ _ ha) f (k _ _ _ _ _ (Out.refl gh b) h)
theorem auo {K:Frag} {ds:List PyData} {i:Int} {d:PyData} (hd:atI ds i=some d) (h:R (.st d)):Op2 (acu K) (.tuple ds) (.int i) R:=fun G H j g Q gh a c k=>by
 cases c
 cases a with
 | tup ha rs =>
  obtain ⟨v,f,b⟩:=rs.at hd
  exact aq8 (gh _ _ ha) f (k _ _ _ _ _ (Out.refl gh b) h)
def isNone:PyData->Bool
 | .none=>true
 | _=>false
theorem ab3 {xs ys:List PyData} (d:xs.length+ys.length<=1000000) (h:R (.own (OL (xs ++ ys)))):Op2 rCat (.list xs) (.list ys) R:=fun G H g f Q gh a c k=>by
 cases a with
 | lst ha ra =>
  cases c with
  | lst hb rb =>
   refine av4 (gh _ _ ha) (gh _ _ hb) ?_ fun p b=>k _ _ _ _ _ (Out.newL gh b (ra.append rb)) h
   rw [ra.length,rb.length];exact aD5 (big d)
theorem arp {K:Frag} {xs:List PyData} (h:R (.st (.int xs.length))):OpA (rLen K) [.list xs] R:=fun G H vs Q gh rs k=>by
 cases rs with
 | cons r t =>
  cases t
  cases r with
  | lst ha ra =>
   refine aml (gh _ _ ha) ?_
   rw [ra.length]
   exact k _ _ _ _ _ (Out.refl gh (.int _)) h
theorem arq {K:Frag} {xs:List PyData} (h:R (.st (.int xs.length))):OpA (rLen K) [.tuple xs] R:=fun G H vs Q gh rs k=>by
 cases rs with
 | cons r t =>
  cases t
  cases r with
  | tup ha ra =>
   refine ats (gh _ _ ha) ?_
   rw [ra.length]
   exact k _ _ _ _ _ (Out.refl gh (.int _)) h
theorem ars {i j:Int} (h:R (.st (.int (if j > i then j else i)))):OpA ajz [.int i,.int j] R:=fun G H vs Q gh rs k=>by
 obtain rfl:vs=[V.int i,V.int j]:=Rps.ints_inv (ns:=[i,j]) rs
 exact amm (k _ _ _ _ _ (Out.refl gh (.int _)) h)
theorem art {i j:Int} (h:R (.st (.int (if j < i then j else i)))):OpA aj0 [.int i,.int j] R:=fun G H vs Q gh rs k=>by
 obtain rfl:vs=[V.int i,V.int j]:=Rps.ints_inv (ns:=[i,j]) rs
 exact amn (k _ _ _ _ _ (Out.refl gh (.int _)) h)
theorem aru {K:Frag} {ns:List Int} {ds:List PyData} (e:ds=ns.map .int) (a:ns ≠ []) (h:∀ m,an5 ns m->R (.st (.int m))):OpA (aj2 K) [.tuple ds] R:=fun G H vs Q gh rs k=>by
 subst e
 cases rs with
 | cons r t =>
  cases t
  cases r with
  | tup ha ra =>
   have:=Rps.ints_inv ra
   subst this
   exact ⟨_,ns,rfl,.inr (SqT.of (gh _ _ ha)),a,fun m hm=>k _ _ _ _ _ (Out.refl gh (.int _)) (h m hm)⟩
theorem arv {K:Frag} {ns:List Int} {ds:List PyData} (e:ds=ns.map .int) (a:ns ≠ []) (h:∀ m,an6 ns m->R (.st (.int m))):OpA (aj3 K) [.tuple ds] R:=fun G H vs Q gh rs k=>by
 subst e
 cases rs with
 | cons r t =>
  cases t
  cases r with
  | tup ha ra =>
   have:=Rps.ints_inv ra
   subst this
   exact ⟨_,ns,rfl,.inr (SqT.of (gh _ _ ha)),a,fun m hm=>k _ _ _ _ _ (Out.refl gh (.int _)) (h m hm)⟩
theorem am2 {K:Frag} {ns:List Int} {ds:List PyData} (e:ds=ns.map .int) (h:R (.st (.int ns.sum))):OpA (an7 K) [.list ds] R:=fun G H vs Q gh rs k=>by
 subst e
 cases rs with
 | cons r t =>
  cases t
  cases r with
  | lst ha ra =>
   have:=Rps.ints_inv ra
   subst this
   exact ⟨_,ns,rfl,SqL.of (gh _ _ ha),k _ _ _ _ _ (Out.refl gh (.int _)) h⟩
end
section
variable {B:Bs} {env:En} {QO:Sl->En->Prop} {Q':PyData->En->Prop} {te tl th:TE} {K:Frag}
def cutD (xs:List PyData) (lo hi:Option Int):List PyData:=(xs.drop (HT.sIx xs.length 0 lo)).take (HT.sIx xs.length xs.length hi - HT.sIx xs.length 0 lo)
def EvOp (B:Bs) (t:TO) (env:En) (Q':Option Int->En->Prop):Prop:=∀ (σ:St) (G H:Hp) (F:Nat->Addr->Prop) (Q:Option Int->Hp->Prop),VI B G H σ env F->(∀ o G' H' F' env',VI B G' H' σ env' F'->Same G G'->Q' o env'->Q o H')->t σ H Q
theorem arw {a:Option Int->En->Prop} (q:a none env):EvOp B amh env a:=fun σ G H F Q I k=>k none G H F env I (Same.refl _) q
theorem arx {a:Option Int->En->Prop} (h:Ev B te env fun d e=>∃ i,d=.int i/\a (some i) e):EvOp B (ast te) env a:=fun σ G H F Q I k =>
 h σ G H F _ I fun v m c l d o f n b j=>by
  obtain ⟨i,g,q⟩:=j
  subst g;cases b
  exact ⟨i,rfl,k _ m c l o f n q⟩
theorem axv {i:Int} {R:Int->Prop} (h:R i):∃ j,PyData.int i=.int j/\R j:=⟨i,rfl,h⟩
theorem ai4 {tl j:TO} (h:Ev B te env fun d m=>∃ ds,d=.list ds/\EvOp B tl m fun lo l=>EvOp B j l fun hi i=>QO (.own (OL (cutD ds lo hi))) i):EvO B (tSl (rSlL K) te tl j) env QO:=fun σ G H F Q I k =>
 h σ G H F _ I fun v C r A d m x E q z=>by
  obtain ⟨ds,y,w⟩:=z
  subst y
  cases q with
  | @lst a vs _ ha rs =>
   refine w σ C r A _ x fun lo J s u l n c M=>M σ J s u _ n fun hi O H3 L i b f D=>?_
   have g:=rs.same (c.trans f)
   refine ⟨a,vs,rfl,SqL.of (b.gh _ _ (f _ _ (c _ _ ha))),fun p N=>?_⟩
   have e:cutV vs lo hi=(vs.drop (HT.sIx ds.length 0 lo)).take (HT.sIx ds.length ds.length hi - HT.sIx ds.length 0 lo):=by unfold cutV;rw [rs.length]
   have o:=Out.newL (xs:=cutV vs lo hi) (ds:=cutD ds lo hi) b.gh N (by rw [e];exact (g.drop _).take _)
   exact k _ _ _ L _ _ i (b.out o).1 (E.trans (c.trans (f.trans o.gg))) (b.out o).2 D
theorem ary {tl c:TO} (h:Ev B te env fun d b=>∃ ds,d=.list ds/\EvOp B tl b fun lo l=>EvOp B c l fun hi j=>Q' (.list (cutD ds lo hi)) j):Ev B (tSl (rSlL K) te tl c) env Q':=aa8 (ai4 (by
 intro σ G H F Q I k
 refine h σ G H F Q I fun v G' H' F' d b g m f ⟨ds,i,q⟩=>k v G' H' F' d b g m f ⟨ds,i,?_⟩
 intro σ G H F Q I k
 refine q σ G H F Q I fun lo G' H' F' e a g' q=>k lo G' H' F' e a g' ?_
 intro σ G H F Q I k
 exact q σ G H F Q I fun hi G' H' F' e a g' q=>k hi G' H' F' e a g' (abm q)))
end
def Has (env:En) (i:Nat) (A:Own):Prop:=env[i]?=some (some (.own A))\/env[i]?=some (some (.io A))
section
variable {B:Bs} {env:En} {QO:Sl->En->Prop} {Q':PyData->En->Prop} {QT:Bool->En->Prop} {QE:En->Prop} {te ta tb tk:TE} {K:Frag} {i:Nat}
theorem VI.has {G H:Hp} {σ:St} {F:Nat->Addr->Prop} {A:Own} (I:VI B G H σ env F) (h:Has env i A):∃ v,σ[i]?=some (some v)/\A.P G H v (F i):=by
 rcases h with h | h
 ·obtain ⟨v,a,q⟩:=I.sl i _ h;exact ⟨v,a,q.1⟩
 ·obtain ⟨v,a,q⟩:=I.sl i _ h;exact ⟨v,a,q.1⟩
theorem awq {g:List PyData} (o:Has env i (OL g)) (h:Ev B tb env fun y c=>∃ ds k d,Has c i (OL ds)/\y=.int k/\atI ds k=some d/\Q' d c):Ev B (tOp (acu K) (tVar i) tb) env Q':=fun σ G H F Q I k=>by
 obtain ⟨v,n,_⟩:=I.has o
 refine ⟨v,n,h σ G H F _ I fun u D p r y c m x C ⟨ds,j,d,A,s,f,q⟩=>?_⟩
 subst s
 cases C
 obtain ⟨J,b,a,vs,z,ha,rs,_⟩:=m.has A
 rw [n] at b;cases b
 subst z
 obtain ⟨w,E,l⟩:=rs.at f
 exact agr ha E (k w D p r d c m x l q)
theorem VI.upd1 {G H:Hp} {σ:St} {F:Nat->Addr->Prop} {s:Sl} {A A':Own} {a:Addr} {o:HO} (I:VI B G H σ env F) (e:env[i]?=some (some s)) (hs:s=.own A\/s=.io A) (g : σ[i]?=some (some (.ref a))) (hf:∀ b,F i b ↔ b=a) (h:A'.P G (upd H a o) (.ref a) (· = a)) (f:∀ xs,o ≠ .tup xs:=by intro _ z;cases z) :
  VI B G (upd H a o) σ (env.set i (some (reS s A'))) (putF F i (· = a)):=by
 refine I.change (A:=A') i e g (fun b u hb c=>by rw [aad (fun z=>hb ((hf b).mpr z))];exact c) (fun b u c=>?_) (fun b z=>⟨.inl ((hf b).mpr z),by rw [z];exact ⟨_,aaf⟩⟩) h (fun b d e=>?_) ?_
 ·by_cases z:b=a
  ·rw [z];exact ⟨_,aaf⟩
  ·rw [aad z];exact ⟨u,c⟩
 ·by_cases z:b=a
  ·subst z;rw [aaf] at e;exact absurd (aA5 e) (f _)
  ·rw [aad z] at e;exact I.ft b d e
 ·rcases hs with rfl | rfl
  ·exact .inl ⟨rfl,A,rfl⟩
  ·exact .inr ⟨rfl,A,rfl⟩
theorem apt {m:List PyData} (o:Has env i (OL m)) (h:Ev B te env fun y f=>∃ s ds,f[i]?=some (some s)/\(s=.own (OL ds)\/s=.io (OL ds))/\ds.length<=999999/\Q' .none (f.set i (some (reS s (OL (ds ++ [y])))))):Ev B (tBM K "list" af0 (tVar i) (abc te tNil)) env Q':=fun σ G H F Q I k=>by
 obtain ⟨v,l,a,vs,w,ha,rs,_⟩:=I.has o
 subst w
 refine ⟨_,l,.inl ⟨rfl,_,SqL.of ha⟩,h σ G H F _ I fun u A D J y f n r z ⟨s,ds,es,hs,E,q⟩=>?_⟩
 have x:Has f i (OL ds):=by rcases hs with rfl | rfl;exact .inl es;exact .inr es
 obtain ⟨C,c,L,p,g,j,d,hf⟩:=n.has x
 rw [l] at c;cases c;cases g
 refine aiu j (by rw [d.length];exact big (by omega)) ?_
 exact k _ A _ _ _ _ (n.upd1 (A':=OL (ds ++ [y])) es hs l hf ⟨a,_,rfl,aaf,d.append (.cons z .nil),fun b=>Iff.rfl⟩) r .non q
theorem aoc {a:List PyData} (c:Has env i (OL a)) (h:Ev B te env fun y b=>∃ ds,b[i]?=some (some (.own (OL ds)))/\ds.length<=999999/\Q' .none (b.set i (some (.own (OL (ds ++ [y])))))):Ev B (tBM K "list" af0 (tVar i) (abc te tNil)) env Q' :=
 apt c fun σ G H F Q I k=>h σ G H F Q I fun v G' H' F' d e j g r ⟨ds,f,l,q⟩=>k v G' H' F' d e j g r ⟨_,ds,f,.inl rfl,l,q⟩
theorem aod {m:List PyData} (o:Has env i (OL m)) (h:Ev B te env fun y n=>∃ ds ys,y=.list ys/\n[i]?=some (some (.own (OL ds)))/\ds.length+ys.length<=1000000/\Q' .none (n.set i (some (.own (OL (ds ++ ys)))))):Ev B (tBM K "list" ahz (tVar i) (abc te tNil)) env Q':=fun σ G H F Q I k=>by
 obtain ⟨v,l,a,vs,x,ha,rs,_⟩:=I.has o
 subst x
 refine ⟨_,l,.inl ⟨rfl,_,SqL.of ha⟩,h σ G H F _ I fun u A D E y n f w z ⟨ds,ys,s,es,p,q⟩=>?_⟩
 subst s
 cases z with
 | lst hb rb =>
  obtain ⟨C,c,J,r,g,j,d,hf⟩:=f.has (.inl es)
  rw [l] at c;cases c;cases g
  refine ape j (f.gh _ _ hb) (by rw [d.length,rb.length];exact aD5 (big p)) ?_
  exact k _ A _ _ _ _ (f.upd1 (A':=OL (ds ++ ys)) es (.inl rfl) l hf ⟨a,_,rfl,aaf,d.append rb,fun b=>Iff.rfl⟩) w .non q
theorem arz {d:PyData} {p:List PyData} (z:Has env i (OL p)) (h:Ev B tk env fun y g=>∃ s ds k j,y=.int k/\g[i]?=some (some s)/\(s=.own (OL ds)\/s=.io (OL ds))/\ixN ds.length k=some j/\QE (g.set i (some (reS s (OL (ds.set j d)))))):EvG B (gSub (tVar i) tk ant) (.st d) env QE:=fun σ G H F v Fv Q I x k=>by
 obtain ⟨K,_⟩:=x.ok
 obtain ⟨P,o,a,vs,D,ha,rs,_⟩:=I.has z
 subst D
 refine ⟨_,o,h σ G H F _ I fun u L N O y g r w J ⟨s,ds,n,j,C,es,hs,hj,q⟩=>?_⟩
 subst C
 cases J
 have E:Has g i (OL ds):=by rcases hs with rfl | rfl;exact .inl es;exact .inr es
 obtain ⟨M,c,R,A,l,m,f,hf⟩:=r.has E
 rw [o] at c;cases c;cases l
 refine amk m (by rw [f.length];exact hj) ?_
 exact k _ L _ _ _ (r.upd1 (A':=OL (ds.set j d)) es hs o hf ⟨a,_,rfl,aaf,f.set (K.same w) j,fun b=>Iff.rfl⟩) w q
end
def tyD:PyData->String
 | .none => "NoneType" | .bool _ => "bool" | .int _ => "int" | .str _ => "str" | .list _ => "list" | .tuple _ => "tuple" | .dict _ => "dict"
def ady (T:String):Prop:=T = "int"\/T = "bool"\/T = "tuple"\/T = "list"\/T = "str"\/T = "dict"
def isiD (T:String) (d:PyData):Bool:=tyD d == T || (T == "int" && tyD d == "bool")
theorem aj8 {K:Frag} {H:Hp} {v:V} {d:PyData} (r:Rp H v d):TyOf K H v (.type (tyD d)):=by
 cases r with
 | non=>exact .non
 | bl b=>exact .bl b
 | int i=>exact .int i
 | str x=>exact .str x
 | lst h _=>exact .lst h
 | tup h _=>exact .tup h
 | dk h _ _=>exact .dK h
 | dt h _ _=>exact .dT h
theorem ahk {K:Frag} {T:String} (h:ady T) (d:PyData):kitOne K (.type (tyD d)) (.type T)=some (isiD T d):=by
 rcases h with rfl | rfl | rfl | rfl | rfl | rfl
 ·cases d with
  | none=>exact ags
  | bool _=>exact akv
  | int _=>exact al5
  | str _=>exact al7
  | list _=>exact ak3
  | tuple _=>exact ajo
  | dict _=>exact ak5
 ·cases d with
  | none=>exact agf
  | bool _=>exact ajg
  | int _=>exact akx
  | str _=>exact ak0
  | list _=>exact ajl
  | tuple _=>exact aid
  | dict _=>exact ajq
 ·cases d with
  | none=>exact afp
  | bool _=>exact aib
  | int _=>exact ajj
  | str _=>exact ajk
  | list _=>exact aic
  | tuple _=>exact ahd
  | dict _=>exact aig
 ·cases d with
  | none=>exact agg
  | bool _=>exact ajh
  | int _=>exact aky
  | str _=>exact ak1
  | list _=>exact ajm
  | tuple _=>exact aie
  | dict _=>exact ajr
 ·cases d with
  | none=>exact agt
  | bool _=>exact akw
  | int _=>exact al6
  | str _=>exact al8
  | list _=>exact ak4
  | tuple _=>exact ajp
  | dict _=>exact ak6
 ·cases d with
  | none=>exact agh
  | bool _=>exact aji
  | int _=>exact akz
  | str _=>exact ak2
  | list _=>exact ajn
  | tuple _=>exact aif
  | dict _=>exact ajs
section
variable {B:Bs} {env:En} {QO:Sl->En->Prop} {Q':PyData->En->Prop} {QT:Bool->En->Prop} {QE:En->Prop} {te ta tb tk:TE} {K:Frag} {i:Nat}
theorem awr {T:String} (l:ady T) (h:Ev B te env fun d e=>Q' (.bool (isiD T d)) e):Ev B (tCB (rIsi K) (abc te (abc (tC (.ty T)) tNil))) env Q':=fun σ G H F Q I k =>
 h σ G H F _ I fun v i c g d m a j b f=>⟨v,T,_,_,rfl,aj8 (b.same a.gh),ahk l d,k _ i c g _ m a j (.bl _) f⟩
theorem aws:ady "int":=.inl rfl
theorem am3:ady "bool":=.inr (.inl rfl)
theorem agx:ady "tuple":=.inr (.inr (.inl rfl))
theorem am4:ady "list":=.inr (.inr (.inr (.inl rfl)))
theorem axw {n m:Nat} {P:Prop} (h:n<=m) (q:P):n<=m/\P:=⟨h,q⟩
theorem awt {ds:List PyData} {a:En} {R:List PyData->Prop} (e:a[i]?=some (some (.own (OL ds)))) (b:ds.length<=999999) (q:R ds):∃ ds,a[i]?=some (some (.own (OL ds)))/\ds.length<=999999/\R ds:=⟨ds,e,b,q⟩
theorem x_rt {A:Own} {a:En} {R:Own->Prop} (e:a[0]?=some (some (.io A))) (q:R A):∃ A',a[0]?=some (some (.io A'))/\R A':=⟨A,e,q⟩
theorem x_st {b:Bool} {R:Bool->Prop} (h:R b):∃ c,Sl.st (.bool b)=.st (.bool c)/\R c:=⟨b,rfl,h⟩
theorem lenP {f:VP} {n:Nat} {vs:List V} {H:Hp} {Q:VK} {E:XK} (h:spP K f vs H Q E) (hf:∀ ss a,f ss a->ss.length=n):vs.length=n:=by
 obtain ⟨G,ss,a,_,_,b,q,_⟩:=h
 rw [b.length];exact hf ss a q
theorem lenI {f:VIo} {n:Nat} {vs:List V} {H:Hp} {Q:VK} {E:XK} (h:spI K f vs H Q E) (hf:∀ A ss a,f A ss a->ss.length+1=n):vs.length=n:=by
 obtain ⟨v0,c,G,R,A,ss,F0,a,rfl,_,_,_,_,_,_,b,q,_⟩:=h
 rw [aB8,b.length];exact hf A ss a q
theorem ahl {f:VIo} {t:TA} {E:XK} {A:Own} (b:env[i]?=some (some (.io A))) (h:EvA B t env fun ds a=>a[i]?=some (some (.io A))/\f A (ds.map Sl.st) fun A' s=>QO s (a.set i (some (.io A')))):EvO B (acd (spI K f) [] E (abc (tVar i) t)) env QO :=
 ai0 ⟨_,b⟩ fun σ G H F Q I k=>h σ G H F Q I fun vs G' H' F' ds a d g r ⟨c,q⟩=>k vs G' H' F' ds a d g r ⟨_,A,c,.inr rfl,q⟩
theorem ahm {f:VIo} {t:TA} {E:XK} {A:Own} (b:env[i]?=some (some (.own A))) (h:EvA B t env fun ds a=>a[i]?=some (some (.own A))/\f A (ds.map Sl.st) fun A' s=>QO s (a.set i (some (.own A')))):EvO B (acd (spI K f) [] E (abc (tVar i) t)) env QO :=
 ai0 ⟨_,b⟩ fun σ G H F Q I k=>h σ G H F Q I fun vs G' H' F' ds a d g r ⟨c,q⟩=>k vs G' H' F' ds a d g r ⟨_,A,c,.inl rfl,q⟩
theorem ai5 {f:VIo} {t:TA} {E:XK} {A:Own} (b:env[i]?=some (some (.io A))) (h:EvA B t env fun ds a=>a[i]?=some (some (.io A))/\f A (ds.map Sl.st) fun A' s=>FQ s fun d=>Q' d (a.set i (some (.io A')))):Ev B (acd (spI K f) [] E (abc (tVar i) t)) env Q':=aa8 (ahl b h)
theorem apu {f:VIo} {t:TA} {E:XK} {A:Own} (b:env[i]?=some (some (.own A))) (h:EvA B t env fun ds a=>a[i]?=some (some (.own A))/\f A (ds.map Sl.st) fun A' s=>FQ s fun d=>Q' d (a.set i (some (.own A')))):Ev B (acd (spI K f) [] E (abc (tVar i) t)) env Q':=aa8 (ahm b h)
theorem axx {P Q:Prop} (h:P) (q:Q):P/\Q:=⟨h,q⟩
theorem axy {src:List (Option Nat)} {j:TI} {g:TG} {f:TT} (nd:(src.filterMap id).Nodup) (h:EvI B j env fun ds i=>LcV B.K src g f te ds i fun ys m=>Q' (.list ys) m):Ev B (tLC src j g f te) env Q':=aa8 (aps nd fun σ G H F R I k=>h σ G H F R I fun J G' H' F' ds i n g' it ⟨l,a,b,c,d⟩=>k J G' H' F' ds i n g' it ⟨l,a,b,c,fun ys e q=>abm (d ys e q)⟩)
end
end VL
namespace VL
open PySem L2
section
variable {B:Bs} {QE:En->Prop} {Q':PyData->En->Prop} {s:Sl} {r:En} {A:Own} {d:PyData} {x0 x1 x2 x3 x4 x5 x6 x7 x8 x9 x10 x11 x12 x13 x14 x15 x16 x17 x18 x19 x20 x21 x22 x23 x24 x25:Option Sl}
theorem awu (h:QE (x0 :: some s :: r)):EvG B (ab0 1) s (x0 :: x1 :: r) QE:=abi h
theorem awv (h:QE (x0 :: x1 :: some s :: r)):EvG B (ab0 2) s (x0 :: x1 :: x2 :: r) QE:=abi h
theorem aww (h:QE (x0 :: x1 :: x2 :: some s :: r)):EvG B (ab0 3) s (x0 :: x1 :: x2 :: x3 :: r) QE:=abi h
theorem awx (h:QE (x0 :: x1 :: x2 :: x3 :: some s :: r)):EvG B (ab0 4) s (x0 :: x1 :: x2 :: x3 :: x4 :: r) QE:=abi h
theorem awy (h:QE (x0 :: x1 :: x2 :: x3 :: x4 :: some s :: r)):EvG B (ab0 5) s (x0 :: x1 :: x2 :: x3 :: x4 :: x5 :: r) QE:=abi h
theorem awz (h:QE (x0 :: x1 :: x2 :: x3 :: x4 :: x5 :: some s :: r)):EvG B (ab0 6) s (x0 :: x1 :: x2 :: x3 :: x4 :: x5 :: x6 :: r) QE:=abi h
theorem aw0 (h:QE (x0 :: x1 :: x2 :: x3 :: x4 :: x5 :: x6 :: some s :: r)):EvG B (ab0 7) s (x0 :: x1 :: x2 :: x3 :: x4 :: x5 :: x6 :: x7 :: r) QE:=abi h
theorem aw1 (h:QE (x0 :: x1 :: x2 :: x3 :: x4 :: x5 :: x6 :: x7 :: some s :: r)):EvG B (ab0 8) s (x0 :: x1 :: x2 :: x3 :: x4 :: x5 :: x6 :: x7 :: x8 :: r) QE:=abi h
theorem aw2 (h:QE (x0 :: x1 :: x2 :: x3 :: x4 :: x5 :: x6 :: x7 :: x8 :: some s :: r)):EvG B (ab0 9) s (x0 :: x1 :: x2 :: x3 :: x4 :: x5 :: x6 :: x7 :: x8 :: x9 :: r) QE:=abi h
theorem aup (h:QE (x0 :: x1 :: x2 :: x3 :: x4 :: x5 :: x6 :: x7 :: x8 :: x9 :: x10 :: x11 :: some s :: r)):EvG B (ab0 12) s (x0 :: x1 :: x2 :: x3 :: x4 :: x5 :: x6 :: x7 :: x8 :: x9 :: x10 :: x11 :: x12 :: r) QE:=abi h
end
end VL
namespace Gr
structure Ring (T:Int->Int->Prop) (a:Int) (k:Nat) (far:Int->Option Nat) (edge:List Int):Prop where
 lab:∀ v d,far v=some d ↔ (Dist T a v d/\d<=k)
 edg:∀ v,v∈edge ↔ Dist T a v k
structure Mid (T:Int->Int->Prop) (k:Nat) (far0:Int->Option Nat) (edge:List Int) (done:Int->Prop) (far:Int->Option Nat) (beyond:List Int):Prop where
 old:∀ v d,far0 v=some d->far v=some d
 new:∀ v,v∈beyond ↔ (far0 v=none/\far v ≠ none)
 val:∀ v d,far0 v=none->far v=some d->d=k+1/\∃ u,u∈edge/\T u v
 dn:∀ u w,done u->T u w->far w ≠ none
def aoe (far:Int->Option Nat) (w:Int) (d:Nat):Int->Option Nat:=fun v=>if v=w then some d else far v
theorem aof {far:Int->Option Nat} {w:Int} {d:Nat}:aoe far w d w=some d:=aC5 rfl
theorem ar0 {far:Int->Option Nat} {w v:Int} {d:Nat} (h:v ≠ w):aoe far w d v=far v:=aC6 h
variable {T:Int->Int->Prop} {a:Int} {k:Nat} {far0 far:Int->Option Nat} {edge beyond:List Int} {done:Int->Prop}
theorem Ring.start:Ring T a 0 (aoe (fun _=>none) a 0) [a]:=by
 refine ⟨fun v d=>?_,fun v=>?_⟩
 ·by_cases h:v=a
  ·subst h
   rw [aof]
   constructor
   ·intro e;cases e;exact ⟨Dist.self T v,ay6 _⟩
   ·rintro ⟨h,_⟩;rw [h.uniq (Dist.self T v)]
  ·rw [ar0 h]
   constructor
   ·intro e;cases e
   ·rintro ⟨b,c⟩
    have:d=0:=by omega
    subst this
    cases b.1
    exact absurd rfl h
 ·simp only [aA1]
  constructor
  ·rintro rfl;exact Dist.self T v
  ·intro h;cases h.1;rfl
theorem Mid.start:Mid T k far0 edge (fun _=>False) far0 [] :=
 ⟨fun v d h=>h,fun v=>⟨fun h=>by simp at h,fun h=>absurd h.1 h.2⟩,fun v d h g=>(by rw [h] at g;cases g),fun u w h=>h.elim⟩
theorem Dist.down {v:Int}:∀ {d:Nat},Dist T a v d->∀ j,j<=d->∃ u,Dist T a u j
 | 0,h,j,hj=>⟨v,by rw [show j=0 by omega];exact h⟩
 | d+1,h,j,hj=>by
  by_cases e:j=d+1
  ·rw [e];exact ⟨v,h⟩
  ·obtain ⟨u,_,b⟩:=h.pred
   exact Dist.down b j (by omega)
def farO (T:Int->Int->Prop) (a v:Int):Option Nat:=open Classical in if h:∃ d,Dist T a v d then some (Classical.choose h) else none
theorem farO_some {v:Int} {d:Nat}:farO T a v=some d ↔ Dist T a v d:=by
 unfold farO
 constructor
 ·intro h
  split at h
  ·rename_i b
   cases h
   exact Classical.choose_spec b
  ·cases h
 ·intro h
  have b:∃ d,Dist T a v d:=⟨d,h⟩
  rw [dif_pos b,(Classical.choose_spec b).uniq h]
theorem farO_none {v:Int}:farO T a v=none ↔ ∀ d,¬ Dist T a v d:=by
 constructor
 ·intro h d hd
  rw [farO_some.mpr hd] at h;cases h
 ·intro h
  cases e:farO T a v with
  | none=>rfl
  | some d=>exact absurd (farO_some.mp e) (h d)
theorem auq {v:Int} {o:Option Nat} (h:∀ d,o=some d ↔ Dist T a v d):o=farO T a v:=by
 cases o with
 | some d=>exact (farO_some.mpr ((h d).mp rfl)).symm
 | none=>exact (farO_none.mpr fun d hd=>by cases (h d).mpr hd).symm
theorem Ring.fin (r:Ring T a k far0 []) (v:Int):far0 v=farO T a v:=by
 refine auq fun d=>?_
 rw [r.lab]
 refine ⟨fun h=>h.1,fun h=>⟨h,?_⟩⟩
 apply Classical.byContradiction
 intro c
 obtain ⟨u,b⟩:=h.down k (by omega)
 have:=(r.edg u).mpr b
 simp at this
theorem Dist.lt {n:Nat} (s:∀ u v,T u v->0<=v/\v < (n:Int)) (ha:0<=a/\a < (n:Int)) {v:Int} {d:Nat} (h:Dist T a v d):d < n:=by
 -- the places of a shortest way are unlike
 have g:∀ d v,Dist T a v d->∃ l:List Int,l.length=d+1/\l.Nodup/\∀ x∈l,(0<=x/\x < (n:Int))/\∃ j,j<=d/\Dist T a x j:=by
  intro d
  induction d with
  | zero =>
   intro v h
   have:v=a:=by cases h.1;rfl
   subst this
   exact ⟨[v],rfl,by simp,fun x b=>by simp at b;subst b;exact ⟨ha,0,ay6 _,h⟩⟩
  | succ d ih =>
   intro v h
   obtain ⟨u,t,o⟩:=h.pred
   obtain ⟨l,i,f,c⟩:=ih u o
   refine ⟨v :: l,by simp [i],aF1.mpr ⟨fun hm=>?_,f⟩,fun x b=>?_⟩
   ·obtain ⟨_,j,hj,hd⟩:=c v hm
    have:=hd.uniq h
    omega
   ·rcases ay8.mp b with rfl | b
    ·exact ⟨s _ _ t,d+1,ay6 _,h⟩
    ·obtain ⟨q,j,hj,hd⟩:=c x b
     exact ⟨q,j,by omega,hd⟩
 obtain ⟨l,i,f,c⟩:=g d v h
 have few:∀ (n:Nat) (l:List Int),l.Nodup->(∀ v∈l,0<=v/\v < (n:Int))->l.length<=n:=by
  intro n
  induction n with
  | zero =>
   intro l _ h
   cases l with
   | nil=>simp
   | cons v r=>have:=h v (by simp);omega
  | succ n ih =>
   intro l hn h
   have i:=ih (l.erase (n:Int)) (hn.erase _) fun v m=>by
    have hm:=List.mem_of_mem_erase m
    have hb:=h v hm
    have p:v ≠ (n:Int):=by
     rintro rfl
     exact absurd m (List.Nodup.not_mem_erase hn)
    omega
   have f:l.length<=(l.erase (n:Int)).length+1:=by
    rw [List.length_erase]
    split <;> omega
   omega
 have:=few n l f fun x b=>(c x b).1
 omega
end Gr
namespace VL
open PySem PySem.Spec L2
theorem nodup_ix {α:Type} {xs:List α} (h:xs.Nodup) {i j:Nat} (hi:i < xs.length) (hj:j < xs.length) (e:xs[i]=xs[j]):i=j:=by
 have p:=aD7.mp h
 rcases Nat.lt_trichotomy i j with q | q | q
 ·exact absurd e (p i j hi hj q)
 ·exact q
 ·exact absurd e.symm (p j i hj hi q)
theorem apv {G:Hp}:∀ {vs:List V} {ds:List PyData},vs.length=ds.length->(∀ (i:Nat) v d,vs[i]?=some v->ds[i]?=some d->Rp G v d)->Rps G vs ds
 | [],[],_,_ => .nil
 | [],_ :: _,h,_=>by simp at h
 | _ :: _,[],h,_=>by simp at h
 | v :: vs,d :: ds,h,k => .cons (k 0 v d rfl rfl) (apv (by simpa using h) fun i v d b a=>k (i+1) v d (by simpa using b) (by simpa using a))
section
variable {B:Bs} {env:En} {QO:Sl->En->Prop} {Q':PyData->En->Prop} {D':VEnds} {K:Frag} {i:Nat}
end
@[reducible] def prD (p:Int × Int):PyData:=.tuple [.int p.1,.int p.2]
@[reducible] def webD (n:Int) (es:List (Int × Int)):PyData:=.tuple [.int n,.list (es.map prD)]
def Tied (es:List (Int × Int)) (u v:Int):Prop:=(u,v)∈es\/(v,u)∈es
theorem Tied.symm {es:List (Int × Int)} {u v:Int} (h:Tied es u v):Tied es v u:=h.elim .inr .inl
theorem Tied.snoc {es:List (Int × Int)} {i:Nat} {a b:Int} (h:es[i]?=some (a,b)) (u v:Int):Tied (es.take (i+1)) u v ↔ (Tied (es.take i) u v\/(u=a/\v=b))\/(u=b/\v=a):=by
 have e:es.take (i+1)=es.take i ++ [(a,b)]:=by rw [aE3,h];rfl
 unfold Tied
 rw [e]
 simp only [ay7,aA1,Prod.mk.injEq]
 constructor
 ·rintro ((h | ⟨rfl,rfl⟩) | (h | ⟨rfl,rfl⟩))
  ·exact .inl (.inl (.inl h))
  ·exact .inl (.inr ⟨rfl,rfl⟩)
  ·exact .inl (.inl (.inr h))
  ·exact .inr ⟨rfl,rfl⟩
 ·rintro (((h | h) | ⟨rfl,rfl⟩) | ⟨rfl,rfl⟩)
  ·exact .inl (.inl h)
  ·exact .inr (.inl h)
  ·exact .inl (.inr ⟨rfl,rfl⟩)
  ·exact .inr (.inr ⟨rfl,rfl⟩)
def TiedL (n:Int) (T:Int->Int->Prop) (tl:List (List Int)):Prop:=(tl.length:Int)=n/\∀ (i:Nat) ws,tl[i]?=some ws->∀ w,w∈ws ↔ T i w
def oD:Option Nat->PyData
 | none => .none
 | some d => .int d
def lab (n:Nat) (far:Int->Option Nat):List PyData:=(List.range n).map fun (i:Nat)=>oD (far (i:Int))
theorem apw {n:Nat} {v:Int} (a:0<=v) (h:v < n):ixN n v=some v.toNat:=by
 unfold ixN;rw [aC5 a,aC5 h]
theorem ahn {α:Type} {f : α->PyData} {xs:List α} {i:Int} {x : α} (h:atI xs i=some x):atI (xs.map f) i=some (f x):=by
 unfold atI at h ⊢
 rw [ay3]
 cases e:ixN xs.length i with
 | none=>rw [e] at h;cases h
 | some j=>rw [e] at h;simp at h ⊢;exact ⟨_,h,rfl⟩
theorem acv {α:Type} {xs:List α} {i:Int} {x : α} (a:0<=i) (h:xs[i.toNat]?=some x):atI xs i=some x:=by
 have:=afz (xs:=xs) (j:=i.toNat) h
 rwa [show ((i.toNat:Nat):Int)=i by omega] at this
theorem TiedL.get {n:Int} {T:Int->Int->Prop} {tl:List (List Int)} (h:TiedL n T tl) {v:Int} (c:0<=v) (d:v < n):∃ a,tl[v.toNat]?=some a/\∀ w,w∈a ↔ T v w:=by
 have b:v.toNat < tl.length:=by have:=h.1;omega
 refine ⟨tl[v.toNat],ay0 b,fun w=>?_⟩
 rw [h.2 _ _ (ay0 b) w,show ((v.toNat:Nat):Int)=v by omega]
theorem TiedL.put {n:Int} {T:Int->Int->Prop} {tl:List (List Int)} (h:TiedL n T tl) {v q:Int} {c:List Int} (g:0<=v) (l:v < n) (d:tl[v.toNat]?=some c):TiedL n (fun a b=>T a b\/(a=v/\b=q)) (tl.set v.toNat (c ++ [q])):=by
 refine ⟨by rw [List.length_set];exact h.1,fun i us hi w=>?_⟩
 rw [aB1] at hi
 by_cases e:v.toNat=i
 ·rw [aC5 e] at hi
  have j:v.toNat < tl.length:=(ay1.mp d).1
  rw [aC5 (by omega)] at hi
  cases hi
  have f:(i:Int)=v:=by omega
  rw [ay7,aA1,h.2 i c (by rw [← e];exact d) w,f]
  simp
 ·rw [aC6 e] at hi
  rw [h.2 i us hi w]
  exact ⟨.inl,fun z=>z.elim id fun z=>by omega⟩
end VL
namespace VL
open PySem L2
end VL
namespace DI
open PySem PySem.W
def Raw (h:Heap) (d:Addr) (es:Array DictEntry) (ep:Nat):Prop:=∃ o,h.get? d=some o/\o.ExactDict/\o.data=.dict es ep
theorem Raw.keep {h h':Heap} {d:Addr} {es:Array DictEntry} {a:Nat} (r:Raw h d es a) (k:∀ o,h.get? d=some o->h'.get? d=some o):Raw h' d es a:=let ⟨o,e,x⟩:=r;⟨o,k o e,x⟩
theorem Raw.ty {s:Shared} {d:Addr} {es:Array DictEntry} {a:Nat} (r:Raw s.heap d es a):s.TypeIs (.ref d) "dict":=let ⟨o,e,x,_⟩:=r;⟨o,e,x.1⟩
section
variable {prog:Program} {w:World} {A:Around} {E:Value->Shared->Prop} {s:Shared} {d it:Addr} {es:Array DictEntry} {ep i:Nat}
theorem ar1 {Q:Value->Shared->Prop} (hd:(d == sysModules)=false) (r:Raw s.heap d es ep)
  (c:Q (.ref s.heap.objs.size) { s with heap:=s.heap.push { cls:=.type "dict_keyiterator",data:=.fields #[.ref d,.int 0 0,.int es.size 0,.int ep 0] } }):wpAny (model prog w) A (pyIter (.ref d)) Q E s:=by
 obtain ⟨o,b,f,a⟩:=id r
 refine wpAny_pyIter_slot r.ty PySem.F.slot_dict_iter (aG6 PySem.F.slot_dict_iter r.ty PySem.F.entry_dict_iter ?body (PySem.F.args_dict_iter_1 _))
 case body =>
  unfold Builtin.«dict.__iter__»
  refine aF5 ?slot
  case slot =>
   unfold Builtin.Dict.dictSlotNone
   refine aF5 (wpAny_notOrdered_dict r.ty ?pl)
   case pl =>
    show wpAny _ _ (pure (Value.ref d)) _ _ s
    refine aF6 ?rest
    case rest =>
     show wpAny _ _ (Builtin.Dict.showsAll d >>= _) _ _ s
     unfold Builtin.Dict.showsAll
     rw [aC6 (by rw [hd];exact ay9)]
     refine aF5 (aF6 (aF5 (wpAny_dictEntries b a (aF5 (wpAny_dictEpoch b a (aF5 (aG3 (aF6 ⟨_,rfl,"dict_keyiterator",_,⟨_,aF9 _ rfl,rfl⟩,PySem.F.slot_dict_keyiterator_next.lookup,?fin⟩))))))))
     case fin=>simpa [rawInt] using c
theorem ar2 {Q:Option Value->Shared->Prop} (a:s.heap.IsKeyIter it d i es.size ep) (r:Raw s.heap d es ep) (hi:i < es.size)
  (v:∀ h',h'.IsKeyIter it d (i+1) es.size ep->Heap.SameBut it s.heap h'->Q (some es[i].key) { s with heap:=h' }):wpAny (model prog w) A (pyNext (.ref it)) Q E s:=by
 obtain ⟨o,q,x,hd⟩:=id a
 obtain ⟨od,n,u,p⟩:=r
 unfold pyNext
 refine aF5 (wpAny_attempt (wpAny_callSpecial?_slot (name:=Str.ofString "__next__") a.typeIs PySem.F.slot_dict_keyiterator_next (aG6 PySem.F.slot_dict_keyiterator_next a.typeIs PySem.F.entry_dict_keyiterator_next ?b (PySem.F.args_dict_keyiterator_next_1 _))))
 case b =>
  refine aF5 (aF6 (aF5 (aF5 ?c)))
  case c =>
   first | refine aF5 (wpAny_typeNameOfWhole_keyiter a.typeIs (aF6 (aF5 (wpAny_fieldsOf q hd ?e)))) | refine aF5 (wpAny_typeNameOf_keyiter a.typeIs (aF6 (aF5 (wpAny_fieldsOf q hd ?e))))
   case e =>
    simp only [show Builtin.Dict_items.ownsTuple "dict_keyiterator" = false by decide,Bool.false_eq_true,if_false]
    show wpAny _ _ (if (Value.ref d == Value.none)=true then _ else _) _ _ s;rw [aC6 (show ¬ ((Value.ref d == Value.none)=true) from ay9)]
    refine aF5 (aF6 (aF5 (wpAny_dictEntries n p ?f)))
    case f =>
     rw [aC6 (by simp)];refine aF5 (aF6 (aF5 (wpAny_dictEpoch n p ?g)))
     case g =>
      rw [aC6 (by simp)];refine aF6 ?h
      case h =>
       simp only [show ¬ ((i:Int) < 0) by omega,if_false,Int.toNat_natCast,ay4 hi];refine aF5 ?j
       case j =>
        first | refine aF5 (wpAny_typeNameOfWhole_keyiter a.typeIs (aF6 (aF5 (wpAny_isOneOf_keyiter a.typeIs ?k)))) | refine aF5 (wpAny_typeNameOf_keyiter a.typeIs (aF6 (aF5 (wpAny_isOneOf_keyiter a.typeIs ?k))))
        case k =>
         show wpAny _ _ (setField (.ref it) 1 (rawInt ((i:Int)+1)) >>= _) _ _ s;refine aF5 (wpAny_setField q hd (by simp) ?l)
         case l =>
          have nx:(s.heap.update it (Obj.mapFields (·.setIfInBounds 1 (rawInt ((i:Int)+1))))).IsKeyIter it d (i+1) es.size ep:=⟨_,Heap.get?_update_self _ q (Obj.isFreed_of_fields (Obj.data_mapFields hd _)),(Obj.cls_mapFields ..).trans x,by rw [Obj.data_mapFields hd];simp [rawInt]⟩
          refine aF5 (aG0 (aF5 (wpAny_isOneOf_keyiter (s:={ s with heap:=s.heap.update it (Obj.mapFields (·.setIfInBounds 1 (rawInt ((i:Int)+1)))) }) nx.typeIs ?m)))
          case m=>show wpAny _ _ (pure es[i].key) _ _ _;exact aF6 (aF6 ⟨_,rfl,aF6 (v _ nx (Heap.SameBut.update ..))⟩)
theorem aur {Q:Option Value->Shared->Prop} (hh:A.handled=none) (i:s.heap.IsKeyIter it d es.size es.size ep) (r:Raw s.heap d es ep) (x:∀ h',Heap.ExtBut it s.heap h'->Q none { s with heap:=h' }):wpAny (model prog w) A (pyNext (.ref it)) Q E s:=by
 obtain ⟨o,u,y,hd⟩:=id i
 obtain ⟨od,n,v,p⟩:=r
 unfold pyNext
 refine aF5 (wpAny_attempt (wpAny_callSpecial?_slot (name:=Str.ofString "__next__") i.typeIs PySem.F.slot_dict_keyiterator_next (aG6 PySem.F.slot_dict_keyiterator_next i.typeIs PySem.F.entry_dict_keyiterator_next ?b (PySem.F.args_dict_keyiterator_next_1 _))))
 case b =>
  refine aF5 (aF6 (aF5 (aF5 ?c)))
  case c =>
   first | refine aF5 (wpAny_typeNameOfWhole_keyiter i.typeIs (aF6 (aF5 (wpAny_fieldsOf u hd ?e)))) | refine aF5 (wpAny_typeNameOf_keyiter i.typeIs (aF6 (aF5 (wpAny_fieldsOf u hd ?e))))
   case e =>
    simp only [show Builtin.Dict_items.ownsTuple "dict_keyiterator" = false by decide,Bool.false_eq_true,if_false]
    show wpAny _ _ (if (Value.ref d == Value.none)=true then _ else _) _ _ s;rw [aC6 (show ¬ ((Value.ref d == Value.none)=true) from ay9)]
    refine aF5 (aF6 (aF5 (wpAny_dictEntries n p ?f)))
    case f =>
     rw [aC6 (by simp)];refine aF5 (aF6 (aF5 (wpAny_dictEpoch n p ?g)))
     case g =>
      rw [aC6 (by simp)];refine aF6 ?h
      case h =>
       simp only [show ¬ ((es.size:Int) < 0) by omega,if_false,Int.toNat_natCast,Array.getElem?_eq_none (ay6 es.size)];refine aF5 ?j
       case j =>
        first | refine aF5 (wpAny_typeNameOfWhole_keyiter i.typeIs (aF6 ?k)) | refine aF5 (wpAny_typeNameOf_keyiter i.typeIs (aF6 ?k))
        case k =>
         show wpAny _ _ (setField (.ref it) 0 .none >>= _) _ _ s;refine aF5 (wpAny_setField u hd (by simp) ?l)
         case l =>
          show wpAny _ _ (newExc (.type "StopIteration") [] >>= _) _ _ _;refine aF5 ?m
          case m =>
           simp only [newExc,newTuple];refine aF5 (aG3 ?zz2 (by size_fits))
           case zz2 =>
            refine aF5 (m:=firstArgMember _ _) (wpAny_of_eq (a:=Value.none) (by first | rfl | (simp only [firstArgMember];rfl)) (aG3 ?zz1 (by size_fits)))
            case zz1 =>
             simp only [raiseNew];refine aF5 (wpAny_handled ?q)
             case q =>
              rw [show A.in1.handled=none from hh];refine aF5 (aF6 (wpAny_throw ?u1))
              case u1=>refine aF5 (wpAny_isInstance (T:="StopIteration") (b:=true) ⟨_,aF9 _ rfl,rfl⟩ isSubtype_stop ?u2);exact aF6 (x _ (((Heap.SameBut.update ..).extBut.push _).push _))
end
theorem walks {prog:Program} {w:World} {A:Around} (hh:A.handled=none) (I d:Addr) (c:d ≠ I) (es:Array DictEntry) (g:Nat) :
  Walks prog w A I [I,d] [I] es.size (fun i v=>(es[i]?).map (·.key)=some v) (fun i h=>h.IsKeyIter I d i es.size g/\Raw h d es g) where
 sub:=fun b hb=>by simp at hb;simp [hb]
 frame:=fun _ _ _ st f=>⟨st.1.at fun o e=>f I (by simp) o e,st.2.keep fun o e=>f d (by simp) o e⟩
 item:=fun i s Q E hi st a=>ar2 st.1 st.2 hi fun h' nx sb=>a _ h' s.toks (by rw [ay4 hi];rfl) ⟨nx,st.2.keep fun o e=>sb.extBut d o c e⟩ fun b o hb e=>sb.extBut b o (fun z=>hb (by simp [z])) e
 done:=fun s Q E st a=>aur hh st.1 st.2 fun h' j=>a h' s.toks fun b o hb e=>j b o (fun z=>hb (by simp [z])) e
 self:=fun _ _ _ _ st a=>wpAny_pyIter_keyiter st.1 a
end DI
namespace DI
open PySem PySem.W PyProof.Rows
section
variable {prog:Program} {w:World} {A:Around} {E:Value->Shared->Prop} {s:Shared}
theorem src (d:Addr) (es:Array DictEntry) (a:Nat) (hd:(d == sysModules)=false):KdlSrc prog w "dict" d d es.size (fun i v=>(es[i]?).map (·.key)=some v) (fun h=>Raw h d es a) where
 type:=fun s r=>r.ty
 there:=fun h r=>let ⟨o,e,_⟩:=r;⟨aF8 e,aF8 e⟩
 keep:=fun h h' r k=>r.keep fun o e=>k d (.inl rfl) o e
 notList:=by decide
 notTuple:=by decide
 hint:=fun A E s Q r q=>kdl_hint_dict r.ty q
 iter:=fun A s hh r=>⟨{ cls:=.type "dict_keyiterator",data:=.fields #[.ref d,.int 0 0,.int es.size 0,.int a 0] },fun i h=>h.IsKeyIter s.heap.objs.size d i es.size a/\Raw h d es a,fun E Q q=>ar1 hd r q,
  walks hh s.heap.objs.size d (by obtain ⟨o,e,_⟩:=r;exact az5 (aF8 e)) es a,⟨_,aF9 _ rfl,rfl,rfl⟩,r.keep fun o e=>aF7 _ e⟩
theorem collect_src {T:String} {r d:Addr} {n:Nat} {P:Nat->Value->Prop} {j:Heap->Prop} {Q:List Value->Shared->Prop} (K:KdlSrc prog w T r d n P j) (hh:A.handled=none) (hok:j s.heap) (hn:n<=sizeLine)
  (m:∀ h' i (f:Array Value),(∀ b o,s.heap.get? b=some o->h'.get? b=some o)->s.heap.objs.size<=h'.objs.size->ItemsOf P f n->Q f.toList { s with heap:=h',toks:=i }):wpAny (model prog w) A (collect (.ref r)) Q E s:=by
 unfold collect
 refine aF5 (wpAny_runValue (codeAny_builtin PySem.F.entry_proto_collect ?a1))
 case a1 =>
  rw [aG4 PySem.F.plain_proto_collect _];show wpAny _ A.in1 (newList [] >>= fun l=>again (.builtin "list.__iadd__" ⟨[l,.ref r],[]⟩)) _ _ s
  refine aF5 (aG3 (aF6 ⟨plainId_quiet PySem.F.plain_list_iadd _,codeAny_builtin PySem.F.entry_list_iadd ?a2⟩))
  case a2 =>
   rw [aG4 PySem.F.plain_list_iadd _];show wpAny _ A.in1 (Builtin.List.listExtendWith (.ref s.heap.objs.size) (.ref r) (.ref s.heap.objs.size)) _ _ _
   have p:(s.heap.push { cls:=.type "list",data:=.seq ([]:List Value).toArray }).get? s.heap.objs.size=some { cls:=.type "list",data:=.seq #[] 0 }:=aF9 _ rfl
   obtain ⟨q,x⟩:=K.there _ hok
   refine kdl_extend (R:=wants (fun v u=>wpAny (model prog w) A (match v with | .ref a=>(do match (← load a).data with | .seq xs _=>pure xs.toList | _=>unsupported "internal:collect") | _=>unsupported "internal:collect") Q E u) E) (s:={ s with heap:=s.heap.push { cls:=.type "list",data:=.seq ([]:List Value).toArray } }) K hh (K.keep _ _ hok fun b _ o e=>aF7 _ e) s.heap.objs.size (Nat.ne_of_gt q) (Nat.ne_of_gt x) _ 0 p (fun h' i f c k h g=>?a3) hn
   case a3 =>
    show wpAny (model prog w) A _ Q E _
    refine aF5 (wpAny_load h ?a4)
    case a4=>exact aF6 (m h' i f (fun b o e=>k b o (az5 (aF8 e)) (aF7 _ e)) (aD5 (aF8 h)) g)
end
end DI
namespace TS
open PySem PySem.W PyProof.Rows
section
variable {prog:Program} {w:World} {A:Around} {E:Value->Shared->Prop} {s:Shared}
theorem sorted_gen {l:Addr} {Ok:List Value->Prop} {Q:Value->Shared->Prop}
  (h:∀ (D:List Value->Shared->Prop),(∀ vs j d,(∀ b o,s.heap.get? b=some o->j.get? b=some o)->s.heap.objs.size<=j.objs.size->Ok vs->D vs { s with heap:=j,toks:=d })->wpAny (model prog w) A.in1 (collect (.ref l)) D E s)
  (c:∀ vs,Ok vs->vs.length<=sizeLine)
  (u:∀ vs,Ok vs->2<=vs.length->∀ h' d,(∀ b o,s.heap.get? b=some o->h'.get? b=some o)->∃ κ S R,(∀ (Q:SortKind->Shared->Prop),Q κ { s with heap:=h',toks:=d }->wpAny (model prog w) A.in1.in1 (keyKind' vs.toArray) Q E { s with heap:=h',toks:=d }) /\
   Cmp (model prog w) A.in1.in1 E { s with heap:=h',toks:=d } κ S R/\(∀ v∈vs,S (v,v))/\∀ out:List Value,out.Perm vs->out.Pairwise (fun x y=>R (y,y) (x,x)=false) ->
    ∀ a h' d e,(∀ b o,s.heap.get? b=some o->h'.get? b=some o)->s.heap.objs.size<=a->h'.get? a=some (seqObj "list" out.toArray e)->Q (.ref a) { s with heap:=h',toks:=d })
  (j:∀ vs,Ok vs->vs.length < 2->∀ a h' d e,(∀ b o,s.heap.get? b=some o->h'.get? b=some o)->s.heap.objs.size<=a->h'.get? a=some (seqObj "list" vs.toArray e)->Q (.ref a) { s with heap:=h',toks:=d }) :
  wpAny (model prog w) A (call (.builtin "sorted") [.ref l]) Q E s:=by
 refine Calls.call_function_entry kind_sorted plain_sorted entry_sorted (args_sorted1 _) ?_
 unfold Builtin.«sorted»
 refine aF5 (m:=checkCount "sorted" 1 1 _) (aF6 (aF5 (h _ fun vs g d kp hsz z=>?_)))
 have c:=c vs z
 refine aF5 (wpAny_newList ?_ c)
 have f:(g.push (seqObj "list" vs.toArray 0)).get? g.objs.size=some (seqObj "list" vs.toArray 0):=aF9 _ rfl
 have keep:∀ b o,s.heap.get? b=some o->(g.push (seqObj "list" vs.toArray 0)).get? b=some o:=fun b o q=>aF7 _ (kp b o q)
 refine aF5 (aG0 (aG6 slot_list_sort ⟨_,f,rfl⟩ entry_list_sort ?body (args_list_sort _)))
 case body =>
  have fin:∀ out:List Value,∃ e,(sortedHeap (g.push (seqObj "list" vs.toArray 0)) g.objs.size vs out.toArray).get? g.objs.size=some (seqObj "list" out.toArray e):=fun out=>sortedHeap_at (n:=0) f
  have old:∀ (out:List Value) b o,s.heap.get? b=some o->(sortedHeap (g.push (seqObj "list" vs.toArray 0)) g.objs.size vs out.toArray).get? b=some o:=fun out b o e=>by
   have lt:=aF8 (kp b o e)
   rw [sortedHeap_old (az5 lt) (by rw [size_push'];exact aC8 lt)];exact keep b o e
  refine afb (s:={ s with heap:=g.push (seqObj "list" vs.toArray 0),toks:=d }) f c (fun p h' H=>?_) fun r=>?_
  ·obtain ⟨κ,S,R,F,C,I,i⟩:=u vs z p h' d fun b o e=>H b o (az5 (aF8 (kp b o e))) (keep b o e)
   refine ⟨κ,S,R,F,C,I,fun out G J=>⟨_,rfl,aF6 ⟨_,rfl,?_⟩⟩⟩
   obtain ⟨e,B⟩:=fin out
   exact i out G J _ _ _ e (old out) hsz B
  ·obtain ⟨e,B⟩:=fin vs
   exact ⟨_,rfl,aF6 ⟨_,rfl,j vs z r _ _ _ e (old vs) hsz B⟩⟩
end
end TS
namespace L2
open PySem PySem.Spec PyProof.Rows
section
variable {X:Cx} {pins:List (Addr × Obj)} {σ:St} {H:Hp} {s:Shared} {h':Heap}
end
section
variable {X:Cx} {elts:List Expr} {k:Nat} {tpos:Pos}
end
section
variable {X:Cx} {elts:List Expr} {k:Nat} {tpos:Pos}
end
theorem aii:∀ {xs:List V} {us:List Value},xs.length=us.length->(∀ (i:Nat) v u,xs[i]?=some v->us[i]?=some u->RelV v u)->Vals xs us
 | [],[],_,_ => .nil
 | [],_ :: _,h,_=>by simp at h
 | _ :: _,[],h,_=>by simp at h
 | x :: xs,u :: us,h,k => .cons (k 0 x u rfl rfl) (aii (by simpa using h) fun i v w b a=>k (i+1) v w (by simpa using b) (by simpa using a))
theorem al9 (prog:Program) (w:World) (A:Around) {bs:List Bool} {us:List Value} (r:Vals (bs.map V.bl) us):TruthOf prog w A (fun i v=>us.toArray[i]?=some v) (fun i=>bs.getD i false):=by
 intro i v s Q E d h
 have b:us[i]?=some v:=by simpa using d
 have hi:i < us.length:=(ay1.mp b).1
 have hb:i < bs.length:=by have:=r.length;simp at this;omega
 obtain ⟨u,a,c⟩:=r.get (i:=i) (x:=.bl bs[i]) (by simp [hb])
 rw [b] at a;cases a
 cases (show v=Value.bool bs[i] from c)
 have e:bs.getD i false=bs[i]:=by simp [List.getD,hb]
 have h':Q (bs.getD i false) s:=h
 rw [e] at h'
 exact aG7 h'
section
variable {X:Cx}
theorem apx (bs:List Bool):((List.range bs.length).all fun i=>bs.getD i false)=bs.all id:=by
 rw [aE6,aC4,aC4]
 constructor
 ·intro h b hb
  obtain ⟨i,hi,e⟩:=aE5.mp hb
  have:=h i (az8.mpr hi)
  simp [List.getD,hi,e] at this
  exact this
 ·intro h i hi
  have a:=az8.mp hi
  have:=h bs[i] (aC3 a)
  simp [List.getD,a];exact this
def rAll (K:Frag):List V->Hp->VK->Prop:=fun xs H Q=>∃ (a:Addr) (bs:List Bool),xs=[.ref a]/\SqL K H a (bs.map V.bl)/\Q (.bl (bs.all id)) H
theorem ai6 (i:X.calm=true):aba X (.builtin "all") (rAll X.K):=by
 intro pins s σ H xs us Q I r h
 obtain ⟨a,bs,rfl,ha,q⟩:=h
 obtain ⟨u,rfl,f⟩:=acj r
 cases f
 obtain ⟨its,d,c,_⟩:=I.list ha
 have g:a < s.heap.objs.size:=by obtain ⟨o,n,e,_⟩:=c;exact aF8 e
 have hz:its.toArray.size=bs.length:=by have:=d.length;simp at this;simp [this]
 refine call_all_walk (aG8 c.isList ⟨_,[s.heap.objs.size,a],_,_,_,_,_,rfl,Walks.list (A:=X.A.in1) (I.ok.hd i) _ a (az5 g) its.toArray,⟨⟨_,aF9 _ rfl,rfl,rfl⟩,c.isList.push _⟩,al9 _ _ _ d,fun l j kp=>?_⟩)
 rw [hz,apx]
 refine ⟨.bl _,H,I.kept fun b o e=>kp b o (fun z=>?_) (aF7 _ e),rfl,q⟩
 exact absurd (aF8 e) (by rw [aA1.mp z];exact aD4 _)
def alf (K:Frag):List V->Hp->VK->Prop:=fun xs H Q=>∃ p ys,xs=[.ref p]/\(SqL K H p ys\/SqT K H p ys)/\∀ l,H l=none->Q (.ref l) (upd H l (.lst ys))
theorem aog:aba X (.type "list") (alf X.K):=akk
def aho (ta:TA):TE:=fun σ H Q=>ta σ H fun vs H1=>∃ j:Int,vs=[.int j]/\0<=j/\j<=1000000/\∀ l,H1 l=none->Q (.ref l) (upd H1 l (.lst ((List.range j.toNat).map fun (i:Nat)=>V.int (i:Int))))
theorem alg {a:Expr} {z:TA} {G p2 p d:Pos} (K:Gl X "list") (hm:X.mg "list" = none) (y:Gl X "range") (x:X.mg "range" = none) (F:X.calm=true) (ha:PA X [a] z) (hs:starEach [a] X.env=[(false,eval a X.env)]:=by rfl)
  (m:starEach [.Call (.Name "range" p2) [a] [] d] X.env=[(false,eval (.Call (.Name "range" p2) [a] [] d) X.env)]:=by rfl):PE X (.Call (.Name "list" G) [.Call (.Name "range" p2) [a] [] d] [] p) (aho z):=by
 intro pins s σ H Q I h
 refine Call_ (ad2 I K hm aex (PyProof.Rows.callWith_type1 ?_ m rfl))
 rw [m]
 refine Calls.spliced_cons (Call_ (ad2 I y x boot_range (PyProof.Rows.callWith_type1 (thn (ha d pins s σ H _ I h) fun us s1 ⟨vs,P,w,A,j,E,S,R,q⟩=>?_) hs rfl)))
 subst E
 obtain ⟨u,rfl,t,rfl⟩:=acj A
 refine call_range_1 (Calls.spliced_nil ?_)
 have O:IsRange (s1.heap.push { cls:=.type "range",data:=.fields #[.int 0 s1.toks,.int j t,.int 1 (s1.toks+1)] }) s1.heap.objs.size 0 j 1 s1.toks t (s1.toks+1):=aF9 _ rfl
 have hn:Builtin.Range.rangeSize 0 j 1=((j.toNat:Nat):Int):=by rw [rangeSize_one];split <;> omega
 refine call_list_range (s:={ s1 with heap:=s1.heap.push { cls:=.type "range",data:=.fields #[.int 0 s1.toks,.int j t,.int 1 (s1.toks+1)] },toks:=s1.toks+1+1 }) (w.ok.hd F) O (small_one (by omega) (by omega) (by omega) (by omega)) hn (by omega) fun N J l c kp M items=>?_
 have C:∀ b o,s1.heap.get? b=some o->N.get? b=some o:=fun b o e=>kp b o (aF7 _ e)
 have f:s1.heap.objs.size<=(s1.heap.push { cls:=.type "range",data:=.fields #[.int 0 s1.toks,.int j t,.int 1 (s1.toks+1)] }).objs.size:=by rw [aG5];exact Nat.le_succ _
 refine ⟨.ref _,_,w.laid (t':=J) (o:=.lst ((List.range j.toNat).map fun (i:Nat)=>V.int (i:Int))) C f ?_,rfl,q _ (w.hok.fresh f)⟩
 refine ⟨by rw [ay3,List.length_range];exact aD5 (VL.big (by omega)),l.toList,c,?_,by simpa using M⟩
 obtain ⟨L,r⟩:=items
 refine aii (by simp [L]) fun i v u n B=>?_
 have g:l[i]?=some u:=by simpa using B
 obtain ⟨t',D⟩:=r i u g
 rw [ay5] at n
 have hi:i < j.toNat:=by
  have:=(Array.getElem?_eq_some_iff.mp g).1
  omega
 rw [ay0 (by simpa using hi)] at n
 simp at n
 subst n
 exact ⟨t',by rw [D];simp⟩
end
section
variable {X:Cx} {pins:List (Addr × Obj)} {σ:St} {H:Hp} {s:Shared}
end
theorem KT.get {H:Hp}:∀ {kvs:List (List Key × V)} {xs:List (List Key × Addr × Value)} {i:Nat} {p:List Key × V},KT H kvs xs->kvs[i]?=some p->∃ q,xs[i]?=some q/\p.1=q.1/\H q.2.1=some (.tup (p.1.map kV))
 | _,_,_,_,.nil,e=>by simp at e
 | _,_,0,_,.cons r _,e=>by simp at e;subst e;exact ⟨_,rfl,r.1,r.2.1⟩
 | _,_,i+1,p,.cons _ t,e=>by
  obtain ⟨q,b,a⟩:=KT.get (i:=i) (p:=p) t (by simpa using e)
  exact ⟨q,by simpa using b,a⟩
section
variable {X:Cx} {tg:Expr}
def agb:List V->Hp->VK->Prop:=fun xs H Q=>∃ (a:Addr) (kvs:List (List Key × V)) (kss:List (List Int)),xs=[.ref a]/\H a=some (.dT kvs)/\kvs.map (·.1)=kss.map (fun ns=>ns.map Sum.inl)/\(∀ ns∈kss,ns ≠ []) /\
 ∀ (vs:List V) (p:Addr),(∀ v∈vs,TupI H v)->(vs.map (kH H)).Perm kss->vs.Pairwise (fun x y=>HT.lexLt (kH H y) (kH H x)=false)->H p=none->Q (.ref p) (upd H p (.lst vs))
theorem am5 {H:Hp}:∀ {kvs:List (List Key × V)} {xs:List (List Key × Addr × Value)} {a:List (List Int)},KT H kvs xs->kvs.map (·.1)=a.map (fun ns=>ns.map Sum.inl)->(∀ ns∈a,ns ≠ []) ->
  (∀ v∈xs.map (fun q=>V.ref q.2.1),TupI H v)/\(xs.map (fun q=>V.ref q.2.1)).map (kH H)=a
 | _,_,[],.nil,_,_=>⟨fun v b=>by simp at b,rfl⟩
 | _,_,_ :: _,.nil,h,_=>by simp at h
 | _,_,[],.cons _ _,h,_=>by simp at h
 | p :: kvs,q :: xs,ns :: a,.cons r t,h,hn=>by
  simp only [aB0,List.cons.injEq] at h
  obtain ⟨c,f⟩:=am5 t h.2 fun d hm=>hn d (az4 _ hm)
  have e:H q.2.1=some (.tup (ns.map V.int)):=by
   rw [r.2.1,h.1,aB6];rfl
  refine ⟨fun v b=>?_,?_⟩
  ·rcases ay8.mp b with rfl | b
   ·exact ⟨_,ns,rfl,e,hn ns az7⟩
   ·exact c v b
  ·rw [aB0,aB0,aj4 e,f]
theorem agl (hc:X.calm=true):aba X (.builtin "sorted") agb:=by
 intro pins s σ H xs us Q I r h
 obtain ⟨a,kvs,Y,rfl,hH,R,G,q⟩:=h
 obtain ⟨u,rfl,P⟩:=acj r
 cases P
 obtain ⟨z,y,ys,B,o,es,S,h1,m,h3,O,h5⟩:=(show ObjOk X.prog X.w H s.heap a (.dT kvs) from I.hok a _ hH)
 obtain ⟨F,t2⟩:=am5 B R G
 have hz:es.size=ys.length:=by
  have e1:es.toList.length=ys.length:=by rw [O];simp
  simpa using e1
 have g:ys.length<=sizeLine:=by have:=Paired.length B;omega
 let c:List Value:=ys.map fun q => .ref q.2.1
 have N:Vals (ys.map fun q=>V.ref q.2.1) c:=aii (by simp [c]) fun i v u d A=>by
  rw [ay5] at d A
  cases e:ys[i]? with
  | none=>rw [e] at d;cases d
  | some q=>rw [e] at d A;cases d;cases A;rfl
 obtain ⟨J,M⟩:=afr N F
 have fin:∀ out:List Value,out.Perm c->(out.map ada).Pairwise (fun x y=>HT.lexLt (kH H y) (kH H x)=false)->∀ p m f e,(∀ b o,s.heap.get? b=some o->m.get? b=some o)->s.heap.objs.size<=p->m.get? p=some (seqObj "list" out.toArray e)->EP X pins σ Q (.ref p) { s with heap:=m,toks:=f }:=by
  intro out j hs p m f e kp hsz he
  have d:Vals (out.map ada) out:=afq fun u A=>J u (j.mem_iff.mp A)
  refine ⟨.ref p,_,I.laid (t':=f) (o:=.lst (out.map ada)) kp hsz ?_,rfl,q _ _ (fun v E=>?_) ?_ hs (I.hok.fresh hsz)⟩
  ·refine ⟨by rw [ay3,j.length_eq];simp [c];exact g,out,e,d,by rw [he]⟩
  ·have:=(j.map ada).mem_iff.mp E
   rw [M] at this;exact F v this
  ·have:=(j.map ada).map (kH H)
   rw [M,t2] at this;exact this
 refine TS.sorted_gen (Ok:=fun vs=>vs=c) (fun Qc C=>DI.collect_src (DI.src a es S y) (I.ok.hd hc) ⟨o,h1,m,h3⟩ (by omega) fun h' f l kp hsz items=>C _ h' f kp hsz ?_) (fun vs e=>by subst e;simp [c];exact g) (fun vs e a0 h' f kp=>?_) fun vs e D=>?_
 ·obtain ⟨i1,i2⟩:=items
  apply aD2
  intro i
  simp only [c,ay5]
  by_cases hi:i < ys.length
  ·have ha:l[i]?=some l[i]:=ay4 (by omega)
   have:(es[i]?).map (·.key)=some l[i]:=i2 i _ ha
   have L:es[i]?=some es[i]:=ay4 (by omega)
   rw [L] at this
   have K:es.toList[i]?=some es[i]:=by rw [aB3];exact L
   rw [O,ay5,ay0 hi] at K
   rw [ay0 hi]
   simp at this K
   rw [aB3,ha,← this,← K];rfl
  ·rw [aC7.mpr (by simp;omega),aC7.mpr (by omega)];rfl
 ·subst e
  obtain ⟨⟨fs,k1,k2,k3⟩,k4⟩:=agu I kp N F
  have n:(Value.type "int" != Value.type "tuple")=true:=by rfl
  refine ⟨tuples' true,TS.tS h' (fun a=>kH H (.ref a)),TS.tR (fun a=>kH H (.ref a)),fun Q' C=>?_,TS.cmp_tups (s:={ s with heap:=h',toks:=f }) (fun a=>kH H (.ref a)),fun v d=>?_,fun out j hs=>fin out j ?_⟩
  ·refine PySem.W.kat_kind (T:=.type "int") (s:={ s with heap:=h',toks:=f }) k1 (by omega) (fun v d=>?_) (by rfl) ?_
   ·obtain ⟨i,t,rfl⟩:=k3 v d
    exact .now
   ·rw [n];exact C
  ·obtain ⟨a,e,ht⟩:=k4 v d
   exact ⟨rfl,a,e,ht⟩
  ·rw [aD1]
   refine aE8 ?_ hs
   intro x y Z U hr
   obtain ⟨ax,rfl⟩:=J x (j.mem_iff.mp Z)
   obtain ⟨ay,rfl⟩:=J y (j.mem_iff.mp U)
   exact hr
 ·subst e
  exact fin c (List.Perm.refl _) (ak8 (by rw [ay3];exact D))
end
end L2
namespace VL
open PySem PySem.Spec L2
section
variable {B:Bs} {env:En} {QI:List PyData->En->Prop} {QO:Sl->En->Prop} {Q':PyData->En->Prop} {K:Frag} {i:Nat} {ta:TA}
theorem RpT.len {G:Hp}:∀ {kvs:List (List Key × V)} {es:List (List Key × PyData)},RpT G kvs es->kvs.length=es.length/\kvs.map (·.1)=es.map (·.1)
 | _,_,.nil=>⟨rfl,rfl⟩
 | _,_,.cons _ t=>by
  obtain ⟨b,a⟩:=RpT.len t
  exact ⟨by simp [b],by simp [a]⟩
@[reducible] def tkD (ks:List Key):PyData:=.tuple (ks.map kD)
@[reducible] def tiD (ns:List Int):PyData:=.tuple (ns.map .int)
def lexS (pss:List (List Int)):Prop:=pss.Pairwise fun x y=>HT.lexLt y x=false
theorem agy {G H:Hp} (ft:FT G H):∀ {vs:List V},(∀ v∈vs,TupI H v)->Rps G vs ((vs.map (kH H)).map tiD)
 | [],_ => .nil
 | v :: vs,h=>by
  obtain ⟨t,ns,rfl,e,_⟩:=h v az7
  rw [aB0,aB0,aj4 e]
  have:(ns.map V.int)=(ns.map (fun i=>(Sum.inl i:Key))).map kV:=by rw [aB6];rfl
  refine .cons (.tup ?_ (Rps.ints ns)) (agy ft fun u a=>h u (az4 _ a))
  rw [this];exact ft t _ (by rw [← this];exact e)
theorem agm {G H:Hp} (gh:Same G H):∀ {vs:List V} {pss:List (List Int)},Rps G vs (pss.map tiD)->(∀ ns∈pss,ns ≠ [])->(∀ v∈vs,TupI H v)/\vs.map (kH H)=pss
 | _,[],.nil,_=>⟨fun v c=>by simp at c,rfl⟩
 | v :: vs,ns :: pss,.cons r t,hn=>by
  obtain ⟨b,f⟩:=agm gh t fun d hm=>hn d (az4 _ hm)
  cases r with
  | tup h rs =>
   have:=Rps.ints_inv rs
   subst this
   have e:=gh _ _ h
   refine ⟨fun u a=>?_,by rw [aB0,aj4 e,f]⟩
   rcases ay8.mp a with rfl | a
   ·exact ⟨_,ns,rfl,e,hn ns az7⟩
   ·exact b u a
theorem apy {pss:List (List Int)} (hn:∀ ns∈pss,ns ≠ []) (h:EvA B ta env fun ds e=>ds=[.list (pss.map tiD)]/\∀ b:List (List Int),b.Perm pss->lexS b->QO (.own (OL (b.map tiD))) e):EvO B (tCB (ahf K) ta) env QO:=fun σ G H F Q I k =>
 h σ G H F _ I fun vs z d s ds y c w j q=>by
  obtain ⟨m,l⟩:=q
  subst m
  cases j with
  | cons r t =>
   cases t
   cases r with
   | @lst a us _ ha rs =>
    obtain ⟨f,x⟩:=agm c.gh rs hn
    refine ⟨a,us,rfl,SqL.of (c.gh _ _ ha),f,fun n p g hs hf=>?_⟩
    have i:∀ v∈n,TupI d v:=fun v u=>f v (g.mem_iff.mp u)
    have o:=Out.newL c.gh hf (agy c.ft i)
    refine k _ _ _ s _ _ y (c.out o).1 (w.trans o.gg) (c.out o).2 (l _ ?_ ?_)
    ·have:=g.map (kH d);rw [x] at this;exact this
    ·unfold lexS;rw [aD1];exact hs
theorem aoh {es:List (List Key × PyData)} {b:List (List Int)} (h:Has env i (OT es)) (g:es.map (·.1)=b.map (fun ns=>ns.map Sum.inl)) (hn:∀ ns∈b,ns ≠ []) (q:∀ c:List (List Int),c.Perm b->lexS c->QO (.own (OL (c.map tiD))) env):EvO B (tCB agb (abc (tVar i) tNil)) env QO:=fun σ G H F Q I k=>by
 obtain ⟨v,j,a,kvs,rfl,ha,rt,hf⟩:=I.has h
 obtain ⟨n,l⟩:=RpT.len rt
 refine ⟨_,j,a,kvs,b,rfl,ha,by rw [l,g],hn,fun r p f m hs d=>?_⟩
 have o:=Out.newL I.gh d (agy I.ft f)
 refine k _ _ _ F _ _ env (I.out o).1 o.gg (I.out o).2 (q _ m ?_)
 unfold lexS;rw [aD1];exact hs
end
section
variable {B:Bs} {env:En} {QO:Sl->En->Prop} {Q':PyData->En->Prop} {K:Frag} {i:Nat} {ta:TA} {R:Sl->Prop}
theorem Rps.bools_inv {G:Hp}:∀ {bs:List Bool} {vs:List V},Rps G vs (bs.map PyData.bool)->vs=bs.map V.bl
 | [],_,.nil=>rfl
 | b :: bs,_,.cons r t=>by
  cases r
  rw [Rps.bools_inv t];rfl
theorem am6 {bs:List Bool} (h:R (.st (.bool (bs.all id)))):OpA (rAll K) [.list (bs.map .bool)] R:=fun G H vs Q gh rs k=>by
 cases rs with
 | cons r t =>
  cases t
  cases r with
  | lst ha ra =>
   have:=Rps.bools_inv ra
   subst this
   exact ⟨_,bs,rfl,SqL.of (gh _ _ ha),k _ _ _ _ _ (Out.refl gh (.bl _)) h⟩
theorem ar3 {ds:List PyData} (h:R (.own (OL ds))):OpA (alf K) [.list ds] R:=fun G H vs Q gh rs k=>by
 cases rs with
 | cons r t =>
  cases t
  cases r with
  | lst ha ra=>exact ⟨_,_,rfl,.inl (SqL.of (gh _ _ ha)),fun p a=>k _ _ _ _ _ (Out.newL gh a ra) h⟩
theorem apz {G:Hp} (n:Nat):Rps G ((List.range n).map fun (i:Nat)=>V.int (i:Int)) (rngD 0 n):=by
 unfold rngD
 refine apv (by simp) fun i v d a hd=>?_
 rw [ay5] at a hd
 cases e:(List.range n)[i]? with
 | none=>rw [e] at a;cases a
 | some m=>rw [e] at a hd;cases a;cases hd;show Rp G (.int (m:Int)) (.int (0+(m:Int)));rw [Int.zero_add];exact .int _
theorem ai7 (h:EvA B ta env fun ds e=>∃ j:Int,ds=[.int j]/\0<=j/\j<=1000000/\QO (.own (OL (rngD 0 j.toNat))) e):EvO B (aho ta) env QO:=fun σ G H F Q I k =>
 h σ G H F _ I fun vs s r i ds q a l b g=>by
  obtain ⟨j,f,m,d,c⟩:=g
  subst f
  obtain rfl:vs=[V.int j]:=Rps.ints_inv (ns:=[j]) b
  refine ⟨j,rfl,m,d,fun p n=>?_⟩
  have o:=Out.newL a.gh n (apz j.toNat)
  exact k _ _ _ i _ _ q (a.out o).1 (l.trans o.gg) (a.out o).2 c
theorem ar4 (h:EvA B ta env fun ds e=>∃ j:Int,ds=[.int j]/\0<=j/\j<=1000000/\Q' (.list (rngD 0 j.toNat)) e):Ev B (aho ta) env Q':=aa8 (ai7 fun σ G H F Q I k=>h σ G H F Q I fun vs G' H' F' ds f d g r ⟨j,a,b,c,q⟩=>k vs G' H' F' ds f d g r ⟨j,a,b,c,abm q⟩)
end
section
variable {κ:Type} [DecidableEq κ] {α:Type}
def valD (es:List (κ × α)) (k : κ):Option α:=(es.find? fun e=>decide (e.1=k)).map (·.2)
def putD (es:List (κ × α)) (k : κ) (d : α):List (κ × α):=if (es.any fun e=>decide (e.1=k))=true then es.map (fun e=>if e.1=k then (e.1,d) else e) else es ++ [(k,d)]
end
theorem RpK.val {G:Hp} {k:Key}:∀ {kvs:List (Key × V)} {es:List (Key × PyData)},RpK G kvs es->(valD es k=none->valV kvs k=none)/\∀ d,valD es k=some d->∃ v,valV kvs k=some v/\Rp G v d
 | _,_,.nil=>⟨fun _=>rfl,fun d h=>by cases h⟩
 | _,_,.cons (k:=k') r t=>by
  obtain ⟨a,f⟩:=RpK.val (k:=k) t
  by_cases e:k'=k
  ·refine ⟨fun h=>by simp [valD,e] at h,fun d h=>?_⟩
   simp [valD,e] at h
   subst h
   exact ⟨_,by simp [valV,e],r⟩
  ·refine ⟨fun h=>?_,fun d h=>?_⟩
   ·simp [valV,e];simp [valD,e] at h
    have:=a (by simp [valD];exact h)
    simpa [valV] using this
   ·obtain ⟨v,c,b⟩:=f d (by simpa [valD,e] using h)
    exact ⟨v,by simpa [valV,e] using c,b⟩
theorem RpK.any {G:Hp} {k:Key}:∀ {kvs:List (Key × V)} {es:List (Key × PyData)},RpK G kvs es->(kvs.any fun e=>decide (e.1=k))=es.any fun e=>decide (e.1=k)
 | _,_,.nil=>rfl
 | _,_,.cons r t=>by simp [RpK.any t]
theorem RpK.map {G:Hp} {k:Key} {v:V} {d:PyData} (h:Rp G v d):∀ {kvs:List (Key × V)} {es:List (Key × PyData)},RpK G kvs es->RpK G (kvs.map fun e=>if e.1=k then (e.1,v) else e) (es.map fun e=>if e.1=k then (e.1,d) else e)
 | _,_,.nil => .nil
 | _,_,.cons (k:=k') r t=>by
  by_cases e:k'=k
  ·simp only [aB0,e,if_true];exact .cons h (RpK.map h t)
  ·simp only [aB0,e,if_false];exact .cons r (RpK.map h t)
theorem RpK.append {G:Hp}:∀ {a b:List (Key × V)} {c d:List (Key × PyData)},RpK G a c->RpK G b d->RpK G (a ++ b) (c ++ d)
 | _,_,_,_,.nil,s=>s
 | _,_,_,_,.cons r t,s => .cons r (RpK.append t s)
theorem RpK.put {G:Hp} {k:Key} {v:V} {d:PyData} (h:Rp G v d) {kvs:List (Key × V)} {es:List (Key × PyData)} (r:RpK G kvs es):RpK G (putK kvs k v) (putD es k d):=by
 unfold putK putD
 rw [r.any]
 split
 ·exact r.map h
 ·exact r.append (.cons h .nil)
theorem RpT.any {G:Hp} {k:List Key}:∀ {kvs:List (List Key × V)} {es:List (List Key × PyData)},RpT G kvs es->(kvs.any fun e=>decide (e.1=k))=es.any fun e=>decide (e.1=k)
 | _,_,.nil=>rfl
 | _,_,.cons r t=>by simp [RpT.any t]
theorem RpT.map {G:Hp} {k:List Key} {v:V} {d:PyData} (h:Rp G v d):∀ {kvs:List (List Key × V)} {es:List (List Key × PyData)},RpT G kvs es->RpT G (kvs.map fun e=>if e.1=k then (e.1,v) else e) (es.map fun e=>if e.1=k then (e.1,d) else e)
 | _,_,.nil => .nil
 | _,_,.cons (k:=k') r t=>by
  by_cases e:k'=k
  ·simp only [aB0,e,if_true];exact .cons h (RpT.map h t)
  ·simp only [aB0,e,if_false];exact .cons r (RpT.map h t)
theorem RpT.append {G:Hp}:∀ {a b:List (List Key × V)} {c d:List (List Key × PyData)},RpT G a c->RpT G b d->RpT G (a ++ b) (c ++ d)
 | _,_,_,_,.nil,s=>s
 | _,_,_,_,.cons r t,s => .cons r (RpT.append t s)
theorem RpT.put {G:Hp} {k:List Key} {v:V} {d:PyData} (h:Rp G v d) {kvs:List (List Key × V)} {es:List (List Key × PyData)} (r:RpT G kvs es):RpT G (putK kvs k v) (putD es k d):=by
 unfold putK putD
 rw [r.any]
 split
 ·exact r.map h
 ·exact r.append (.cons h .nil)
theorem RpK.length {G:Hp}:∀ {kvs:List (Key × V)} {es:List (Key × PyData)},RpK G kvs es->kvs.length=es.length
 | _,_,.nil=>rfl
 | _,_,.cons _ t=>by simp [RpK.length t]
theorem axz {G:Hp} {v:V} {k:Key} (r:Rp G v (kD k)):v=kV k:=by
 cases k with
 | inl i=>cases r;rfl
 | inr x=>cases r;rfl
theorem alh {G:Hp}:∀ {a:List Key} {vs:List V},Rps G vs (a.map kD)->vs=a.map kV
 | [],_,.nil=>rfl
 | k :: a,_,.cons r t=>by rw [axz r,alh t];rfl
section
variable {B:Bs} {env:En} {QO:Sl->En->Prop} {Q':PyData->En->Prop} {D':VEnds} {i:Nat} {te ty tv td:TE}
theorem adt (q:QO (.own (OD [])) env):EvO B ao9 env QO:=fun σ G H F Q I k p a=>by
 have o:=Out.newD (ds:=[]) I.gh a .nil
 exact k _ _ _ F _ _ env (I.out o).1 o.gg (I.out o).2 q
theorem ap0 (q:QO (.own (OT [])) env):EvO B akn env QO:=fun σ G H F Q I k p a=>by
 have o:=Out.newDT (ds:=[]) I.gh a .nil
 exact k _ _ _ F _ _ env (I.out o).1 o.gg (I.out o).2 q
theorem ap1 {n:List (List Key × PyData)} (h:Ev B tv env fun d s=>Has s i (OT n)/\Ev B ty s fun y q=>∃ es j,q[i]?=some (some (.own (OT es)))/\y=tkD j/\es.length<=999999/\D'.nx (q.set i (some (.own (OT (putD es j d)))))):EvS B (anu (tVar i) ty tv) D' env:=fun σ G H F D I r =>
 h σ G H F _ I fun v N A L d s x O z K=>by
  obtain ⟨C,J⟩:=K
  obtain ⟨v0,p,a,kvs,rfl,ha,rt,_⟩:=x.has C
  refine ⟨_,p,J σ N A L _ x fun W P S T y q l w M ⟨es,j,g,E,U,Q⟩=>?_⟩
  subst E
  obtain ⟨R,f,⟨X,u,m,o,c,hf⟩,hb⟩:=l.sl i _ g
  rw [p] at f;cases f;cases m
  cases M with
  | tup hk rs =>
   have:=alh rs
   subst this
   refine ⟨a,_,rfl,DPut.t o (l.gh _ _ hk) (by rw [(RpT.len c).1];exact big (by omega)),?_⟩
   exact r.nx σ P _ _ _ (l.upd1 (A':=OT (putD es j d)) g (.inl rfl) p hf ⟨a,_,rfl,aaf,c.put (z.same w),fun b=>Iff.rfl⟩) (O.trans w) Q
end
section
variable {B:Bs} {env:En} {QO:Sl->En->Prop} {Q':PyData->En->Prop} {QE:En->Prop} {D':VEnds} {K:Frag} {i:Nat} {ta:TA}
theorem aus {j:Int} {R:Int->Prop} (a:0<=j) (b:j<=1000000) (h:R j):∃ i:Int,[PyData.int j]=[.int i]/\0<=i/\i<=1000000/\R i:=⟨j,rfl,a,b,h⟩
theorem x_dT {es:List (List Key × PyData)} {a b:Int} {c:En} {R:List (List Key × PyData)->List Key->Prop} (e:c[i]?=some (some (.own (OT es)))) (f:es.length<=999999) (q:R es [.inl a,.inl b]):∃ es d,c[i]?=some (some (.own (OT es)))/\PyData.tuple [.int a,.int b]=tkD d/\es.length<=999999/\R es d:=⟨es,_,e,rfl,f,q⟩
end
def ltP (p q:Int × Int):Prop:=p.1 < q.1\/(p.1=q.1/\p.2 < q.2)
@[reducible] def p2 (p:Int × Int):List Int:=[p.1,p.2]
theorem lex2 (p q:Int × Int):HT.lexLt (p2 p) (p2 q)=true ↔ ltP p q:=by
 obtain ⟨a,b⟩:=p
 obtain ⟨c,d⟩:=q
 simp [p2,HT.lexLt,ltP]
 split <;> omega
theorem ahp {a:List (List Int)} {ps:List (Int × Int)} (h:a.Perm (ps.map p2)):∃ qs:List (Int × Int),a=qs.map p2/\qs.Perm ps:=by
 refine ⟨a.map fun l=>(l.getD 0 0,l.getD 1 0),?_,?_⟩
 ·rw [aB6]
  symm
  conv=>rhs;rw [← List.map_id a]
  apply aC0
  intro l b
  obtain ⟨p,_,rfl⟩:=az6.mp (h.mem_iff.mp b)
  rfl
 ·have:=h.map fun l=>(l.getD 0 0,l.getD 1 0)
  rw [aB6] at this
  have e:((fun l:List Int=>(l.getD 0 0,l.getD 1 0)) ∘ p2)=id:=by funext p;rfl
  rw [e,List.map_id] at this
  exact this
def Rise (es:List (Int × Int)):Prop:=es.Pairwise ltP
theorem agc (p:Int × Int):¬ ltP p p:=by unfold ltP;omega
theorem aut (p q:Int × Int):ltP p q\/p=q\/ltP q p:=by
 obtain ⟨a,b⟩:=p
 obtain ⟨c,d⟩:=q
 unfold ltP
 simp only [Prod.mk.injEq]
 omega
theorem ali {p q r:Int × Int} (h:ltP p q) (g:ltP q r):ltP p r:=by unfold ltP at *;omega
theorem am7 {qs ps:List (Int × Int)} (c:qs.Perm ps) (hn:ps.Nodup) (hs:lexS (qs.map p2)):Rise qs:=by
 have a:qs.Nodup:=c.nodup_iff.mpr hn
 unfold lexS at hs
 rw [aD1] at hs
 unfold Rise
 refine (List.Pairwise.and hs a).imp fun {p q} h=>?_
 have b:¬ ltP q p:=fun z=>by rw [(lex2 q p).mpr z] at h;exact absurd h.1 (by simp)
 rcases aut p q with z | z | z
 ·exact z
 ·exact absurd z h.2
 ·exact absurd z b
theorem Rise.nodup {es:List (Int × Int)} (h:Rise es):es.Nodup:=h.imp fun {p q} z (e:p=q)=>agc q (by rw [e] at z;exact z)
theorem Rise.eq:∀ {as bs:List (Int × Int)},Rise as->Rise bs->(∀ p,p∈as ↔ p∈bs)->as=bs
 | [],[],_,_,_=>rfl
 | [],b :: _,_,_,h=>by have:=(h b).mpr az7;simp at this
 | a :: _,[],_,_,h=>by have:=(h a).mp az7;simp at this
 | a :: as,b :: bs,ha,hb,h=>by
  obtain ⟨d,f⟩:=aF2.mp ha
  obtain ⟨c,i⟩:=aF2.mp hb
  have e:a=b:=by
   rcases ay8.mp ((h a).mp az7) with e | e
   ·exact e
   ·rcases ay8.mp ((h b).mpr az7) with g | g
    ·exact g.symm
    ·exact absurd (ali (d b g) (c a e)) (agc a)
  subst e
  have:=Rise.eq f i fun p=>by
   have j:=h p
   simp only [ay8] at j
   constructor
   ·intro m
    rcases j.mp (.inr m) with e | e
    ·subst e;exact absurd (d p m) (agc p)
    ·exact e
   ·intro m
    rcases j.mpr (.inr m) with e | e
    ·subst e;exact absurd (c p m) (agc p)
    ·exact e
  rw [this]
structure WebOk (n:Int) (es:List (Int × Int)):Prop where
 lo:1<=n
 hi:n<=60
 inn:∀ p∈es,0<=p.1/\p.1 < p.2/\p.2 < n
 rise:Rise es
theorem ai8 {n:Nat} {es:List (Int × Int)} (hn:es.Nodup) (hi:∀ p∈es,0<=p.1/\p.1 < (n:Int)/\0<=p.2/\p.2 < (n:Int)):es.length<=n * n:=by
 have i:(es.map fun (p:Int × Int)=>p.1 * (n:Int)+p.2).Nodup:=by
  unfold List.Nodup
  rw [aD1]
  refine aE8 ?_ hn
  intro p q d g c e
  have a:=hi p d
  have b:=hi q g
  apply c
  have f:p.1=q.1:=by
   rcases Int.lt_trichotomy p.1 q.1 with z | z | z
   ·have:(p.1+1) * n<=q.1 * n:=Int.mul_le_mul_of_nonneg_right (by omega) (by omega)
    rw [Int.add_mul] at this;omega
   ·exact z
   ·have:(q.1+1) * n<=p.1 * n:=Int.mul_le_mul_of_nonneg_right (by omega) (by omega)
    rw [Int.add_mul] at this;omega
  rw [f] at e
  exact Prod.ext f (by omega)
 have:=L2.few_places (n * n) _ i fun v j=>by
  obtain ⟨p,d,rfl⟩:=az6.mp j
  have a:=hi p d
  have l:0<=p.1 * (n:Int):=Int.mul_nonneg a.1 (by omega)
  have h:(p.1+1) * (n:Int)<=n * n:=Int.mul_le_mul_of_nonneg_right (by omega) (by omega)
  rw [Int.add_mul] at h
  push_cast
  omega
 simpa using this
theorem WebOk.len {n:Int} {es:List (Int × Int)} (h:WebOk n es):es.length<=3600:=by
 have:=ai8 (n:=n.toNat) h.rise.nodup fun p b=>by have:=h.inn p b;have:=h.lo;omega
 have a:n.toNat<=60:=by have:=h.hi;omega
 exact aA9 this (Nat.mul_le_mul a a)
def kE (ps:List (Int × Int)):List (List Key × PyData):=ps.map fun p=>([Sum.inl p.1,Sum.inl p.2],.bool true)
def addP (ps:List (Int × Int)) (p:Int × Int):List (Int × Int):=if p∈ps then ps else ps ++ [p]
theorem aen {ps:List (Int × Int)}:(kE ps).length=ps.length:=by simp [kE]
theorem alj (ps:List (Int × Int)) (a b:Int):putD (kE ps) [Sum.inl a,Sum.inl b] (.bool true)=kE (addP ps (a,b)):=by
 have c:((kE ps).any fun e=>decide (e.1=[Sum.inl a,Sum.inl b]))=decide ((a,b)∈ps):=by
  rw [aE6,List.any_eq_true,decide_eq_true_iff]
  constructor
  ·rintro ⟨e,f,h⟩
   obtain ⟨p,d,rfl⟩:=az6.mp f
   simp at h
   obtain ⟨g,p2⟩:=p
   simp at h
   rw [← h.1,← h.2];exact d
  ·intro h
   exact ⟨_,az6.mpr ⟨(a,b),h,rfl⟩,by simp⟩
 unfold putD
 rw [c]
 unfold addP
 by_cases h:(a,b)∈ps
 ·rw [aC5 (by simpa using h),aC5 h]
  unfold kE
  rw [aB6]
  apply aC0
  intro p _
  simp only [Function.comp]
  split <;> rfl
 ·rw [aC6 (by simpa using h),aC6 h]
  simp [kE]
theorem addP_mem {ps:List (Int × Int)} {p q:Int × Int}:q∈addP ps p ↔ q∈ps\/q=p:=by
 unfold addP
 split
 ·rename_i h
  exact ⟨.inl,fun z=>z.elim id fun e=>e ▸ h⟩
 ·simp
theorem aoi {ps:List (Int × Int)} {p:Int × Int} (h:ps.Nodup):(addP ps p).Nodup:=by
 unfold addP
 split
 ·exact h
 ·rename_i hn
  rw [List.nodup_append]
  exact ⟨h,by simp,fun x b y a=>by simp at a;subst a;rintro rfl;exact hn b⟩
theorem agz {ps:List (Int × Int)} {p:Int × Int}:(addP ps p).length<=ps.length+1:=by
 unfold addP;split <;> simp
theorem auu (ps:List (Int × Int)):(kE ps).map (·.1)=(ps.map p2).map (fun ns=>ns.map Sum.inl):=by
 unfold kE;rw [aB6,aB6];rfl
theorem aw3:([]:List (List Key × PyData))=kE []:=rfl
theorem alk (ps:List (Int × Int)):(ps.map p2).map tiD=ps.map prD:=by rw [aB6];rfl
theorem as8 {ps:List (Int × Int)}:∀ ns∈ps.map p2,ns ≠ []:=fun ns h=>by
 obtain ⟨p,_,rfl⟩:=az6.mp h
 simp
section
variable {B:Bs} {env:En} {QO:Sl->En->Prop} {K:Frag} {i:Nat} {ta:TA}
theorem ap2 {ps:List (Int × Int)} (h:EvA B ta env fun ds e=>ds=[.list (ps.map prD)]/\∀ qs:List (Int × Int),qs.Perm ps->lexS (qs.map p2)->QO (.own (OL (qs.map prD))) e):EvO B (tCB (ahf K) ta) env QO :=
 apy (pss:=ps.map p2) as8 fun σ G H F Q I k=>h σ G H F Q I fun vs G' H' F' ds e f g r ⟨c,q⟩=>k vs G' H' F' ds e f g r ⟨by rw [alk];exact c,fun a d hs=>by
  obtain ⟨qs,rfl,b⟩:=ahp d
  rw [alk];exact q qs b hs⟩
theorem ahq {ps:List (Int × Int)} (d:Has env i (OT (kE ps))) (q:∀ qs:List (Int × Int),qs.Perm ps->lexS (qs.map p2)->QO (.own (OL (qs.map prD))) env):EvO B (tCB agb (abc (tVar i) tNil)) env QO :=
 aoh d (auu ps) as8 fun a b hs=>by
  obtain ⟨qs,rfl,c⟩:=ahp b
  rw [alk];exact q qs c hs
end
def OW (d:PyData) (ds:List PyData):Own where
 P:=fun G H v F=>∃ t l u vs,v=.ref t/\H t=some (.tup [u,.ref l])/\Rp G u d/\H l=some (.lst vs)/\Rps G vs ds/\∀ b,F b ↔ b=t\/b=l
 mono:=fun ⟨t,l,u,vs,e,h1,r1,h2,r2,f⟩ g hh=>⟨t,l,u,vs,e,hh t _ ((f t).mpr (.inl rfl)) h1,r1.same g,hh l _ ((f l).mpr (.inr rfl)) h2,r2.same g,f⟩
 dom:=fun ⟨t,l,u,vs,e,h1,r1,h2,r2,f⟩ b z=>by
  rcases (f b).mp z with rfl | rfl
  ·exact ⟨_,h1⟩
  ·exact ⟨_,h2⟩
theorem ap3 {d:PyData} {ds:List PyData}:Frz (OW d ds) (.tuple [d,.list ds]):=fun G H v F ⟨t,l,u,vs,e,h,a,b,c,f⟩ n g=>by
 subst e
 exact .tup (by rw [af8 ((f t).mpr (.inl rfl))];exact h) (.cons (a.same (ab2 n)) (.cons (.lst (by rw [af8 ((f l).mpr (.inr rfl))];exact b) (c.same (ab2 n))) .nil))
theorem as9 {d:PyData} {ds:List PyData} {R:PyData->Prop} (h:R (.tuple [d,.list ds])):FQ (.own (OW d ds)) R:=⟨_,ap3,h⟩
section
variable {B:Bs} {env:En} {QO:Sl->En->Prop} {Q':PyData->En->Prop} {K:Frag} {i j:Nat} {ta te:TE}
theorem ar5 {u:V} {l:Addr} {a:List Key}:HO.tup [u,.ref l] ≠ .tup (a.map kV):=by
 intro z
 injection z with z
 match a,z with
 | [],z=>cases z
 | [_],z=>cases z
 | [_,k],z =>
  simp at z
  cases k <;> simp [kV] at z
 | _ :: _ :: _ :: _,z=>simp at z
theorem ar6 {s:List PyData} (O:env[j]?=some (some (.own (OL s)))) (h:Ev B ta env fun d g=>∃ ds,g[j]?=some (some (.own (OL ds)))/\QO (.own (OW d ds)) (g.set j none)):EvO B (tTup (abc ta (abc (tVar j) tNil))) env QO:=fun σ G H F Q I k =>
 h σ G H F _ I fun v x A r d g c L y K=>by
  obtain ⟨ds,N,q⟩:=K
  obtain ⟨w,M,⟨l,vs,rfl,i,rs,hf⟩,hb⟩:=c.sl j _ N
  refine ⟨_,M,⟨by show (2:Nat)<=sizeLine;decide,fun p f=>?_⟩⟩
  have n:r j l:=(hf l).mpr rfl
  have u:p ≠ l:=(aas i f).symm
  have D:=c.drop j
  have E:∀ m a,(a=p\/a=l)->¬ putF r j (fun _=>False) m a:=fun m a ha z=>by
   by_cases hm:m=j
   ·subst hm;exact putF_same.mp z
   ·rw [abb hm] at z
    rcases ha with rfl | rfl
    ·exact c.no_f f m z
    ·exact hm (c.fd m j a z n)
  have J:VI B x (upd A p (.tup [v,.ref l])) σ (g.set j none) (putF r j fun _=>False):=D.grow (Same.refl _) (c.gh.trans (aa3 f)) (aa3 f) (fun a o e => .inl e) fun a C e=>by
   by_cases z:a=p
   ·subst z;rw [aaf] at e;exact absurd (aA5 e) ar5
   ·rw [aad z] at e;exact c.ft a C e
  refine k _ x _ _ (fun a=>a=p\/a=l) (.own (OW d ds)) _ J L ⟨⟨p,l,v,vs,rfl,aaf,y,by rw [aad u.symm];exact i,rs,fun b=>Iff.rfl⟩,fun a z=>?_,fun a z=>?_,fun a z=>?_,fun m a z=>E m a z⟩ q
  ·rcases z with rfl | rfl
   ·exact c.no_b f
   ·exact hb a n
  ·rcases z with rfl | rfl
   ·exact c.no_g f
   ·exact c.fg j a n
  ·rcases z with rfl | rfl
   ·exact ⟨_,aaf⟩
   ·exact ⟨_,by rw [aad u.symm];exact i⟩
theorem x_ow {ds:List PyData} {a:En} {R:List PyData->Prop} (e:a[j]?=some (some (.own (OL ds)))) (q:R ds):∃ ds,a[j]?=some (some (.own (OL ds)))/\R ds:=⟨ds,e,q⟩
end
section
variable {B:Bs} {env:En} {Q':PyData->En->Prop} {D':VEnds} {i:Nat} {ty tv:TE}
theorem aoj {a:List (List Key × PyData)} (g:env[i]?=some (some (.own (OT a)))) (h:Ev B tv env fun d f=>Has f i (OT a)/\Ev B ty f fun y b=>∃ es c,b[i]?=some (some (.own (OT es)))/\y=tkD c/\es.length<=999999/\D'.nx (b.set i (some (.own (OT (putD es c d)))))):EvS B (anu (tVar i) ty tv) D' env:=ap1 h
end
section
variable {R:Sl->Prop} {K:Frag}
theorem auv {p q:Int × Int} (h:R (.st (.bool (HT.lexLt (p2 p) (p2 q))))):Op2 (rLtT K) (prD p) (prD q) R:=fun G H g f Q gh a c k=>by
 cases a with
 | tup ha ra =>
  cases c with
  | tup hb rb =>
   have d:=Rps.ints_inv (ns:=p2 p) ra
   have b:=Rps.ints_inv (ns:=p2 q) rb
   subst d b
   exact ⟨_,_,p2 p,p2 q,rfl,rfl,SqT.of (gh _ _ ha),SqT.of (gh _ _ hb),k _ _ _ _ _ (Out.refl gh (.bl _)) h⟩
end
theorem aok (ps:List (Int × Int)):plainDs (ps.map prD)=true:=by
 rw [al4]
 intro d hd
 obtain ⟨p,_,rfl⟩:=az6.mp hd
 rfl
theorem ama {ds:List PyData} {m:Nat} (h:∀ d∈ds,d.depth<=m):PyData.depthAll ds<=m:=by
 induction ds with
 | nil=>simp [PyData.depthAll]
 | cons d ds ih =>
  simp only [PyData.depthAll]
  exact Nat.max_le.mpr ⟨h d az7,ih fun e a=>h e (az4 _ a)⟩
end VL
namespace VL
theorem alm {α:Type} (R : α->α->Prop) (tr:∀ {a b c},R a b->R b c->R a c) {xs:List α}:xs.Pairwise R ↔ ∀ i (h:i+1 < xs.length),R (xs[i]'(by omega)) xs[i+1]:=by
 constructor
 ·intro h i hi
  exact aD7.mp h i (i+1) (by omega) hi (by omega)
 ·intro h
  rw [aD7]
  intro i j hi hj d
  induction j with
  | zero=>omega
  | succ j ih =>
   by_cases e:i=j
   ·subst e;exact h i hj
   ·exact tr (ih (by omega) (by omega)) (h j hj)
end VL
namespace VL
open PySem PySem.Spec L2
section
variable {B:Bs} {env:En} {Q':PyData->En->Prop} {K:Frag} {E:XK} {i:Nat}
end
end VL
namespace VL
open PySem L2
theorem ax0 {B:Bs} {t:TS} {D':VEnds} {e:En} (h:EvS B t D' e):EvS B t D' e:=h
theorem ax1 {B:Bs} {g:TG} {s:Sl} {e:En} {Q:En->Prop} (h:EvG B g s e Q):EvG B g s e Q:=h
theorem aw4 {B:Bs} {g:TGs} {s:List PyData} {e:En} {Q:En->Prop} (h:EvGs B g s e Q):EvGs B g s e Q:=h
theorem g_Ev {B:Bs} {t:TE} {e:En} {Q:PyData->En->Prop} (h:Ev B t e Q):Ev B t e Q:=h
theorem ax2 {B:Bs} {t:TE} {e:En} {Q:Sl->En->Prop} (h:EvO B t e Q):EvO B t e Q:=h
theorem ax3 {B:Bs} {t:TT} {e:En} {Q:Bool->En->Prop} (h:EvT B t e Q):EvT B t e Q:=h
theorem ax4 {B:Bs} {t:TA} {e:En} {Q:List PyData->En->Prop} (h:EvA B t e Q):EvA B t e Q:=h
theorem ax5 {B:Bs} {t:TI} {e:En} {Q:List PyData->En->Prop} (h:EvI B t e Q):EvI B t e Q:=h
theorem aw5 {B:Bs} {t:TO} {e:En} {Q:Option Int->En->Prop} (h:EvOp B t e Q):EvOp B t e Q:=h
theorem ax6 {r:R2} {x y:PyData} {R:Sl->Prop} (h:Op2 r x y R):Op2 r x y R:=h
theorem ax7 {r:V->Hp->VK->Prop} {x:PyData} {R:Sl->Prop} (h:Op1 r x R):Op1 r x R:=h
theorem ax8 {r:List V->Hp->VK->Prop} {x:List PyData} {R:Sl->Prop} (h:OpA r x R):OpA r x R:=h
theorem g_FQ {s:Sl} {R:PyData->Prop} (h:FQ s R):FQ s R:=h
theorem auw {ds:List PyData} {R:List PyData->Prop} (h:aj6 ds R):aj6 ds R:=h
theorem aux {ds:List PyData} {R:List PyData->Prop} (h:aj7 ds R):aj7 ds R:=h
structure PsOk (n:Int) (ps:List (Int × Int)):Prop where
 nd:ps.Nodup
 inn:∀ p∈ps,0<=p.1/\p.1 < p.2/\p.2 < n
theorem PsOk.nil (n:Int):PsOk n []:=⟨List.nodup_nil,fun p a=>by simp at a⟩
theorem PsOk.add {n a b:Int} {ps:List (Int × Int)} (h:PsOk n ps) (c:0<=a) (g:a < b) (f:b < n):PsOk n (addP ps (a,b)) :=
 ⟨aoi h.nd,fun p d=>by
  rcases addP_mem.mp d with q | q
  ·exact h.inn p q
  ·subst q;exact ⟨c,g,f⟩⟩
theorem PsOk.len {n:Int} {ps:List (Int × Int)} (h:PsOk n ps) (hn:n<=100):ps.length<=10000:=by
 by_cases h0:0<=n
 ·have:=ai8 (n:=n.toNat) h.nd fun p b=>by have:=h.inn p b;omega
  have a:n.toNat<=100:=by omega
  exact aA9 this (Nat.mul_le_mul a a)
 ·cases ps with
  | nil=>simp
  | cons p r=>have:=h.inn p az7;omega
def Tr (n:Int) (ps:List (Int × Int)):Prop:=∀ k,1<=k->k < n->∃ h,0<=h/\h < k/\(h,k)∈ps
def Conn (n:Int) (T:Int->Int->Prop):Prop:=∀ u v,0<=u->u < n->0<=v->v < n->∃ k,Gr.Walk T u k v
theorem Conn.mono {n:Int} {T a:Int->Int->Prop} (h:Conn n T) (g:∀ u v,T u v->a u v):Conn n a:=fun u v d f v0 b=>by
 obtain ⟨k,w⟩:=h u v d f v0 b
 exact ⟨k,w.rec .refl fun _ t c => .step c (g _ _ t)⟩
def Order (n:Int) (row:List Int):Prop:=row.Perm ((List.range n.toNat).map fun (i:Nat)=>(i:Int))
theorem Order.len {n:Int} {a:List Int} (h:Order n a):a.length=n.toNat:=by have:=h.length_eq;simpa using this
theorem Order.nodup {n:Int} {c:List Int} (h:Order n c):c.Nodup:=by
 refine h.nodup_iff.mpr ?_
 unfold List.Nodup
 rw [aD1]
 exact List.nodup_range.imp fun {a b} d e=>d (by omega)
theorem Order.mem {n:Int} {a:List Int} (h:Order n a) {v:Int}:v∈a ↔ 0<=v/\v < n:=by
 rw [h.mem_iff,az6]
 constructor
 ·rintro ⟨i,hi,rfl⟩
  have:=az8.mp hi
  omega
 ·rintro ⟨b,c⟩
  exact ⟨v.toNat,az8.mpr (by omega),by omega⟩
theorem Order.get {n:Int} {b:List Int} (h:Order n b) {a:Int} (c:0<=a) (f:a < n):∃ x,b[a.toNat]?=some x/\atI b a=some x/\0<=x/\x < n:=by
 have d:a.toNat < b.length:=by rw [h.len];omega
 have e:b[a.toNat]?=some b[a.toNat]:=ay0 d
 have:=h.mem.mp (ay2 e)
 exact ⟨_,e,acv c e,this.1,this.2⟩
theorem Order.inj {n:Int} {c:List Int} (h:Order n c) {a b x:Int} (a0:0<=a) (b0:0<=b) (ha:c[a.toNat]?=some x) (hb:c[b.toNat]?=some x):a=b:=by
 obtain ⟨g,i⟩:=ay1.mp ha
 obtain ⟨d,f⟩:=ay1.mp hb
 have:=nodup_ix h.nodup g d (i.trans f.symm)
 omega
theorem Order.id (n:Int):Order n ((List.range n.toNat).map fun (i:Nat)=>(i:Int)):=List.Perm.refl _
def aa6 (row:List Int) (a:Int):Int:=row.getD a.toNat 0
def reP (row:List Int) (p:Int × Int):Int × Int:=if aa6 row p.1 < aa6 row p.2 then (aa6 row p.1,aa6 row p.2) else (aa6 row p.2,aa6 row p.1)
theorem Order.at {n:Int} {b:List Int} (h:Order n b) {a:Int} (d:0<=a) (g:a < n):b[a.toNat]?=some (aa6 b a)/\0<=aa6 b a/\aa6 b a < n:=by
 obtain ⟨x,e,_,f,c⟩:=h.get d g
 have:aa6 b a=x:=by unfold aa6;rw [aB2,e];rfl
 rw [this];exact ⟨e,f,c⟩
theorem Order.ne {n:Int} {c:List Int} (h:Order n c) {a b:Int} (a0:0<=a) (g:a < n) (b0:0<=b) (j:b < n) (d:a ≠ b):aa6 c a ≠ aa6 c b:=fun e=>by
 have f:=(h.at a0 g).1
 have i:=(h.at b0 j).1
 rw [e] at f
 exact d (h.inj a0 b0 f i)
theorem PsOk.re {n:Int} {ps:List (Int × Int)} {c:List Int} (h:PsOk n ps) (o:Order n c):PsOk n (ps.map (reP c)):=by
 have inn:∀ p∈ps,0<=(reP c p).1/\(reP c p).1 < (reP c p).2/\(reP c p).2 < n:=fun p d=>by
  obtain ⟨p0,v,p2⟩:=h.inn p d
  have a:=o.at p0 (by omega)
  have b:=o.at (a:=p.2) (by omega) p2
  have ne:=o.ne p0 (by omega) (by omega) p2 (by omega)
  unfold reP
  split <;> dsimp only <;> omega
 refine ⟨?_,fun q i=>by obtain ⟨p,d,rfl⟩:=az6.mp i;exact inn p d⟩
 unfold List.Nodup
 rw [aD1]
 refine aE8 ?_ h.nd
 intro p q d i g e
 apply g
 obtain ⟨p0,v,p2⟩:=h.inn p d
 obtain ⟨l,y,s⟩:=h.inn q i
 have inj:∀ a b,0<=a->a < n->0<=b->b < n->aa6 c a=aa6 c b->a=b:=fun a b a0 w b0 x e=>by
  apply Classical.byContradiction
  intro f
  exact o.ne a0 w b0 x f e
 have r:=inj p.1 q.1 p0 (by omega) l (by omega)
 have u:=inj p.2 q.2 (by omega) p2 (by omega) s
 have j:=inj p.1 q.2 p0 (by omega) (by omega) s
 have m:=inj p.2 q.1 (by omega) p2 l (by omega)
 unfold reP at e
 split at e <;> split at e <;> simp only [Prod.mk.injEq] at e
 ·exact Prod.ext (r e.1) (u e.2)
 ·have:=j e.1;have:=m e.2;omega
 ·have:=m e.1;have:=j e.2;omega
 ·exact Prod.ext (r e.2) (u e.1)
theorem Tied.perm {qs ps:List (Int × Int)} (h:qs.Perm ps) {u v:Int}:Tied qs u v ↔ Tied ps u v:=by unfold Tied;rw [h.mem_iff,h.mem_iff]
theorem ahr {α:Type}:∀ {l:List α} {k:Nat} {x : α},l[k]?=some x->(x :: l.eraseIdx k).Perm l
 | [],_,_,h=>by simp at h
 | a :: l,0,x,h=>by simp at h;subst h;exact List.Perm.refl _
 | a :: l,k+1,x,h=>by
  have b:=ahr (l:=l) (k:=k) (x:=x) (by simpa using h)
  exact (List.Perm.swap a x _).trans (b.cons a)
theorem aol {n:Int} {a left:List Int} {k:Nat} {x:Int} (h:Order n (a ++ left)) (b:left[k]?=some x):Order n ((a ++ [x]) ++ left.eraseIdx k):=by
 refine List.Perm.trans ?_ h
 rw [az3]
 refine List.Perm.append_left a ?_
 exact ahr b
section
variable {B:Bs} {env:En} {g:TG} {tif:TT} {te:TE} {K:Frag} {src:List (Option Nat)} {ds:List PyData} {e1:En} {R:List PyData->En->Prop}
end
theorem auy (n:Nat):rngD 0 n=((List.range n).map fun (i:Nat)=>(i:Int)).map PyData.int:=by simp [rngD]
theorem ar7 {B:Bs} {t:TS} {D':VEnds} {env:En} (J:En->Prop) (h:EvS B t { D' with nx:=J } env) (k:∀ e,J e->D'.nx e):EvS B t D' env:=fun σ G H F D I r=>h σ G H F D I ⟨fun σ G' H F env a g q=>r.nx _ _ _ _ _ a g (k _ q),r.rt,r.bk,r.ct⟩
theorem am8 {B:Bs} {g:TG} {A:Own} {d:PyData} {env:En} {b:En->Prop} (f:Frz A d) (h:EvG B g (.st d) env b):EvG B g (.own A) env b:=fun σ G H F v Fv Q I x k =>
 h σ _ H F v _ Q (I.freeze x.fb x.fd x.fg) (aez (f G H v Fv x.ok x.fg I.gh)) fun a G' H' F' c i g' q=>k a G' H' F' c i ((ab2 x.fg).trans g') q
theorem cutR {R X:Prop} (h:R->X) (r:R):X:=h r
end VL
namespace VL
open PySem PySem.Spec L2
def Sls (K:Frag) (G:Hp) (σ:St) (e:En):Prop:=∀ (j:Nat) (s:Sl),e[j]?=some (some s)->∃ v,σ[j]?=some (some v)/\((∃ d,s=.st d/\Rp G v d)\/∃ (ns:List Int) (a:Addr),s=.scr ns/\v=.ref a/\SqL K G a (ns.map V.int))
theorem Sls.same {K:Frag} {G G':Hp} {σ:St} {e:En} (h:Sls K G σ e) (g:Same G G'):Sls K G' σ e:=fun j s es=>by
 obtain ⟨v,c,q⟩:=h j s es
 refine ⟨v,c,?_⟩
 rcases q with ⟨d,b,r⟩ | ⟨ns,a,b,f,r⟩
 ·exact .inl ⟨d,b,r.same g⟩
 ·exact .inr ⟨ns,a,b,f,g.seq r⟩
section
variable {B:Bs} {env:En}
end
section
variable {B:Bs} {env:En} {Q':PyData->En->Prop} {QO:Sl->En->Prop} {c:TT} {ta tb:TE}
end
end VL
namespace VL
open PySem PySem.Spec L2 PyProof.Rows
end VL
namespace VL
open PySem PySem.Spec L2
section
variable {B:Bs} {env:En} {QO:Sl->En->Prop} {i:Nat}
end
section
variable {X:Cx}
end
section
variable {R:Sl->Prop}
end
end VL
namespace L2
open PySem PySem.Spec PyProof.Rows
section
variable {X:Cx}
variable {e est:Expr} {te:TE} {ts:TO} {pos p2:Pos}
end
end L2
namespace VL
open PySem PySem.Spec L2
section
variable {B:Bs} {env:En} {QO:Sl->En->Prop} {Q':PyData->En->Prop} {te tl:TE} {ts:TO} {K:Frag} {i:Nat}
end
theorem ata {α:Type} [DecidableEq α]:∀ {as bs:List α},as.Nodup->(∀ a∈as,a∈bs)->as.length<=bs.length
 | [],_,_,_=>aD0 _
 | a :: as,bs,hn,hs=>by
  have ha:a∈bs:=hs a (az7 ..)
  have b:=aF1.mp hn
  have h:=ata (bs:=bs.erase a) b.2 fun x c=>(List.mem_erase_of_ne (show x ≠ a from fun e=>b.1 (by rw [← e];exact c))).mpr (hs x (az4 _ c))
  rw [List.length_erase_of_mem ha] at h
  have:0 < bs.length:=List.length_pos_of_mem ha
  simp only [aB8]
  omega
structure But (n:Int) (es rem:List (Int × Int)):Prop where
 rise:Rise es
 inn:∀ p∈es,0<=p.1/\p.1 < p.2/\p.2 < n
 all:∀ p:Int × Int,0<=p.1->p.1 < p.2->p.2 < n->p∈es\/p∈rem
theorem But.len {n:Int} {es rem:List (Int × Int)} (h:But n es rem) (hn:8<=n) (b:rem.length<=5):2<=es.length:=by
 have:=ata (as:=[((0:Int),(1:Int)),(0,2),(0,3),(0,4),(0,5),(0,6),(0,7)]) (bs:=es ++ rem) (by decide) (fun p a=>by
  have:0<=p.1/\p.1 < p.2/\p.2 < 8:=by
   simp only [ay8,List.not_mem_nil,or_false] at a
   rcases a with rfl | rfl | rfl | rfl | rfl | rfl | rfl <;> decide
  exact ay7.mpr (h.all p this.1 this.2.1 (by omega)))
 simp at this
 omega
end VL
namespace HT
open PySem PyProof.Rows
theorem ar8 (A:Around) (s:Shared) (a:Int) (t:Tok) (c:Int) (u:Tok) (prog:Program) (w:World) (E:Value->Shared->Prop) (Q:Value->Shared->Prop) (h:Q (.bool (decide (a<=c))) s) :
  wpAny (model prog w) A (richCompare .LtE (.int a t) (.int c u)) Q E s :=
 (PyProof.Rows.le_int h:wpAny (model prog w) A (compareOp .LtE (.int a t) (.int c u)) Q E s)
section
open PySem.SeqAt
open PySem.AutoSeq1 (wpAny_loadPart')
open PySem.MeetsSeq PySem.MeetsSeq2 PySem.MeetsSeq3
theorem ajt (l b:Addr) (items f:Array Value) (n M:Nat) (dd J:Option Addr) (sl I:Array (Option Value)) (ns C:List Int) (hi:IntsAre items.toList ns) (hj:IntsAre f.toList C) :
  Meets (Builtin.«tuple.__le__» ⟨[.ref l,.ref b],[]⟩)
   (fun _ R s=>s.heap.get? l=some { cls:=.type "tuple",dict:=dd,data:=.seq items n,slots:=sl }/\s.heap.get? b=some { cls:=.type "tuple",dict:=J,data:=.seq f M,slots:=I } /\
    R (.ok (.ret (.bool (!lexLt C ns)))) s) :=
 .of_wp fun prog w A R s h=>by
  obtain ⟨F,g,d,E,os⟩:=s;obtain ⟨N,hb,h⟩:=h
  have W:=AutoSeq1.sub_tuple_tuple
  have U:items.size=ns.length:=by rw [← hi.length];simp
  have T:f.size=C.length:=by rw [← hj.length];simp
  wp_walk using wpAny_loadPart' N,wpAny_loadPart' hb,wpAny_forIn_list _ (fun rest b K=>b.1=none/\K=⟨F,g,d,E,os⟩/\∃ (vs D:List Value) (m j:List Int),rest=vs.zip D /\
   IntsAre vs m/\IntsAre D j/\m.length+f.size=j.length+items.size/\R (.ok (.ret (.bool (!lexLt j m)))) ⟨F,g,d,E,os⟩) _
  case turn =>
   rintro ⟨y,x⟩ rest b K ⟨z,rfl,vs,D,m,j,hz,v,o,i,p⟩
   cases v with
   | nil=>rw [List.zip_nil_left] at hz;cases hz
   | cons a t hvi' =>
    cases o with
    | nil=>rw [List.zip_nil_right] at hz;cases hz
    | cons c u hwi' =>
     rw [List.zip_cons_cons] at hz
     injection hz with H B
     injection H with O P
     subst O P
     rw [ac6] at p
     simp only [aB8] at i
     obtain ⟨e,S,r⟩:=akh A.in1 ⟨F,g,d,E,os⟩ a t c u
     refine aF5 (S prog w _ _ ?_)
     cases e with
     | true =>
      rw [aC5 (r.mp rfl).symm] at p
      wp_walk
      exact ⟨rfl,rfl,_,_,_,_,B,hvi',hwi',by omega,p⟩
     | false =>
      rw [aC6 (fun q=>absurd (r.mpr q.symm) ay9)] at p
      have G:=ar8 A.in1 ⟨F,g,d,E,os⟩ a t c u prog w
      have Q:(!decide (c < a))=decide (a<=c):=by
       rw [aE6];simp
      rw [Q] at p
      wp_walk using G
      exact ⟨_,rfl,by simpa using p⟩
  case fin =>
   rintro ⟨X,Y⟩ K ⟨z,rfl,vs,D,m,j,hz,v,o,i,p⟩
   simp only at z
   subst z
   have L:(!lexLt j m)=decide (items.size<=f.size):=by
    cases v with
    | nil =>
     cases o with
     | nil =>
      simp only [aF4] at i
      rw [afa]
      exact (aB5 (by omega)).symm
     | cons c u hw =>
      simp only [aF4,aB8] at i
      rw [aet]
      exact (aB5 (by omega)).symm
    | cons a t L =>
     cases o with
     | nil =>
      simp only [aF4,aB8] at i
      rw [aes]
      exact (aB4 (by omega)).symm
     | cons c u hw =>
      rw [List.zip_cons_cons] at hz
      cases hz
   rw [L] at p
   wp_walk
   exact ⟨_,rfl,by simpa [Builtin.Tuple.tupleCompareSizes] using p⟩
  case h =>
   exact ⟨rfl,rfl,items.toList,f.toList,ns,C,rfl,hi,hj,by omega,h⟩
end
section
variable {prog:Program} {w:World} {A:Around} {E:Value->Shared->Prop} {s:Shared}
theorem le_tupInts {l b:Addr} {items a:Array Value} {ns c:List Int} {Q:Value->Shared->Prop} (v:IsTup s.heap l items) (hb:IsTup s.heap b a) (hi:IntsAre items.toList ns) (hj:IntsAre a.toList c)
  (u:A.units < cLine) (h:Q (.bool (!lexLt c ns)) s):wpAny (model prog w) A (compareOp .LtE (.ref l) (.ref b)) Q E s:=by
 obtain ⟨⟨cls,dd,data,sl⟩,o,p,n,hd⟩:=id v
 obtain ⟨⟨q,m,i,j⟩,d,f,r,g⟩:=id hb
 simp only at p hd f g
 subst p hd f g
 exact richCompare_meets_room (op:=.LtE) ⟨_,o,rfl⟩ ⟨_,d,rfl⟩ PySem.F.slot_tuple_le PySem.F.entry_tuple_le (PySem.F.args_tuple_le_2 _ _) (ajt l b items a n r dd m sl j ns c hi hj)
  ⟨o,d,show Value.bool (!lexLt c ns) ≠ Value.notImplemented/\Q (.bool (!lexLt c ns)) s from ⟨(fun x=>nomatch x),h⟩⟩ u
end
end HT
namespace L2
open PySem PySem.Spec PyProof.Rows
section
variable {X:Cx}
def rLeT (K:Frag):R2:=fun x y H Q=>∃ a b ns ms,x=.ref a/\y=.ref b/\SqT K H a (ns.map V.int)/\SqT K H b (ms.map V.int)/\Q (.bl (!HT.lexLt ms ns)) H
theorem aw6 (g:X.A.units < cLine):OpR X (compareOp .LtE) (rLeT X.K):=by
 intro pins s σ H x y v u Q I n o h
 obtain ⟨a,b,ns,d,rfl,rfl,ha,hb,q⟩:=h
 cases n
 cases o
 obtain ⟨its,f,j,_⟩:=I.tuple ha
 obtain ⟨c,l,p2,_⟩:=I.tuple hb
 have i:IntsAre its.toArray.toList ns:=abk f
 have m:IntsAre c.toArray.toList d:=abk l
 exact HT.le_tupInts j p2 i m g ⟨.bl (!HT.lexLt d ns),H,I,rfl,q⟩
end
end L2
namespace VL
open PySem PySem.Spec L2
theorem auz {K:Frag} {R:Sl->Prop} {p q:Int × Int} (h:R (.st (.bool (!HT.lexLt (p2 q) (p2 p))))):Op2 (rLeT K) (prD p) (prD q) R:=fun G H g f Q gh a c k=>by
 cases a with
 | tup ha ra =>
  cases c with
  | tup hb rb =>
   have d:=Rps.ints_inv (ns:=p2 p) ra
   have b:=Rps.ints_inv (ns:=p2 q) rb
   subst d b
   exact ⟨_,_,p2 p,p2 q,rfl,rfl,SqT.of (gh _ _ ha),SqT.of (gh _ _ hb),k _ _ _ _ _ (Out.refl gh (.bl _)) h⟩
end VL
namespace PopT
open PySem PyProof.Rows
section
variable {prog:Program} {w:World} {K:Type} [DecidableEq K] {knd:HeapKind prog w K} {A:Around} {E:Value->Shared->Prop} {s:Shared}
theorem aln {d a:Addr} {xs:List (K × Addr × Value)} {k:K} {j:Nat} {p:Addr × Value} {Q:Option DictEntry->Shared->Prop} (u:knd.room A) (b:knd.is s.heap k a) (hm:s.heap.DictOfH knd d xs) (hj:xs[j]?=some (k,p))
  (z:∀ e h',e.val=p.2->h'.DictOfH knd d (xs.eraseIdx j)->Heap.SameBut d s.heap h'->Q (some e) { s with heap:=h',toks:=s.toks+knd.draws k })
  (hsz:xs.length<=sizeLine):wpAny (model prog w) A (Builtin.Dict.takeOut d (.ref a)) Q E s:=by
 obtain ⟨o,es,D,c,F,hd,h,g,hn⟩:=hm
 unfold Builtin.Dict.takeOut
 try with_reducible refine aG0 ?_
 refine aF5 (knd.pyHash u b ?_)
 refine aF5 (wpAny_dictFind_heap (s:={ s with toks:=s.toks+knd.draws k }) u b c hd h g hn (fun n=>absurd hj (n j p)) ?_)
 intro i q hi
 have r:i=j:=by
  have y:(xs.map (·.1))[i]?=some k:=by rw [ay5,hi];rfl
  have v:(xs.map (·.1))[j]?=some k:=by rw [ay5,hj];rfl
  have B:=(ay1.mp y).1
  have I:=(ay1.mp v).1
  exact (List.getElem?_inj B hn).mp (y.trans v.symm)
 subst r
 have m:es.size<=sizeLine:=by have e:=size_of_entries h;omega
 refine aF5 (wpAny_dictEntries (s:={ s with toks:=s.toks+knd.draws k }) c hd ?_)
 rw [entry_at h i,hj]
 refine aF5 (wpAny_updateDictKeys (hz:=m) (s:={ s with toks:=s.toks+knd.draws k }) c hd (aF6 (z _ _ rfl ⟨_,_,D+1,Heap.get?_update_self _ c (Obj.isFreed_of_dict (Obj.data_mapDictKeys hd _)),
  F.mapDictKeys _,Obj.data_mapDictKeys hd _,?_,?_,?_⟩ (Heap.SameBut.update ..))))
 ·have G:∀ {α β:Type} (f : α->β) (l:List α) (k:Nat),(l.map f).eraseIdx k=(l.eraseIdx k).map f:=by
   intro α β f l
   induction l with
   | nil=>intro k;rfl
   | cons a l ih =>
    intro k
    cases k with
    | zero=>rfl
    | succ k=>simp [ih k]
  rw [← G,← h]
  obtain ⟨l⟩:=es
  have C:i < l.length:=by
   have:=(ay1.mp hj).1
   have e:=size_of_entries h
   simp at e;omega
  simp [Array.eraseIdxIfInBounds,C]
 ·intro x H
  exact knd.keeps (g x ((List.eraseIdx_sublist xs i).mem H)) c hd (Heap.SameBut.update ..)
 ·exact hn.sublist ((List.eraseIdx_sublist xs i).map _)
theorem meetsH_dict_pop {d a:Addr} (kp:keyPart (.ref a)=none) :
  MeetsIn prog w (Builtin.«dict.pop» ⟨[.ref d,.ref a],[]⟩) (fun A R s=>knd.room A.in1/\∃ k xs j p,knd.is s.heap k a/\s.heap.DictOfH knd d xs/\xs.length<=sizeLine/\xs[j]?=some (k,p) /\
   ∀ h',h'.DictOfH knd d (xs.eraseIdx j)->Heap.SameBut d s.heap h'->R (.ok (.ret p.2)) { s with heap:=h',toks:=s.toks+knd.draws k }) :=
 .of_wp fun A R s u=>by
  obtain ⟨m,k,xs,j,p,b,hm,hsz,hj,h⟩:=u
  have f:=hm
  obtain ⟨o,es,x,n,y,hd,v,r,hn⟩:=f
  have g:es.isEmpty=false:=by
   have e:=size_of_entries v
   have:=(ay1.mp hj).1
   cases q:es.isEmpty with
   | false=>rfl
   | true=>have:=Array.isEmpty_iff.mp q;rw [this] at e;simp at e;omega
  unfold Builtin.«dict.pop»
  refine aF5 ?_
  unfold Builtin.Dict.keyAndDefault
  refine aF5 (wpAny_notOrdered_dict hm.typeIs ?_)
  show wpAny _ _ (pure (d,Value.ref a,none)) _ _ s
  refine aF6 ?_
  simp only [kp,Option.isSome_none,Bool.false_eq_true,if_false]
  refine aF5 (wpAny_dictEntries n hd ?_)
  refine aF5 (aF6 ?_)
  simp only [g,Bool.false_eq_true,if_false]
  refine aF5 (aln m b hm hj (fun e h' c l i=>?_) hsz)
  simp only [Option.isNone_some,Bool.false_eq_true,if_false]
  exact aF5 (wpAny_letGo (aF6 ⟨e.val,rfl,by rw [c];exact h h' l i⟩))
end
end PopT
namespace L2
open PySem PySem.Spec PySem.W PyProof.Rows
theorem KT.at {H:Hp} {kvs:List (List Key × V)} {xs:List (List Key × Addr × Value)} (r:KT H kvs xs):∀ {j:Nat} {k:List Key} {v:V},kvs[j]?=some (k,v)->∃ p:Addr × Value,xs[j]?=some (k,p)/\RelV v p.2:=by
 induction r with
 | nil=>intro j k v e;simp at e
 | @cons p q ps qs hq t ih =>
  intro j k v e
  cases j with
  | zero =>
   have e:p=(k,v):=by simpa using e
   subst e
   exact ⟨q.2,by rw [List.getElem?_cons_zero,show k=q.1 from hq.1],hq.2.2⟩
  | succ j=>exact ih (by simpa using e)
theorem KT.erase {H:Hp} {kvs:List (List Key × V)} {xs:List (List Key × Addr × Value)} (r:KT H kvs xs):∀ (j:Nat),KT H (kvs.eraseIdx j) (xs.eraseIdx j):=by
 induction r with
 | nil=>intro j;exact .nil
 | @cons p q ps qs hq t ih =>
  intro j
  cases j with
  | zero=>exact t
  | succ j=>exact .cons hq (ih j)
section
variable {X:Cx} {pins:List (Addr × Obj)} {σ:St} {H:Hp} {s:Shared} {a b:Addr} {A:Around} {E:Value->Shared->Prop}
theorem aw7 {kvs:List (List Key × V)} {k:List Key} {j:Nat} {v:V} {Q:Value->Shared->Prop} (r:A.units+1 < cLine) (I:Inv X pins σ H s) (e:H a=some (.dT kvs)) (D:H b=some (.tup (k.map kV))) (l:kvs[j]?=some (k,v))
  (h:∀ g n,Inv X pins σ (upd H a (.dT (kvs.eraseIdx j))) n->RelV v g->Q g n):wpAny (model X.prog X.w) A (call (.builtin "dict.pop") [.ref a,.ref b]) Q E s:=by
 obtain ⟨z,hd,xs,d,dd⟩:=af1 I.hok e
 have hz:xs.length<=sizeLine:=by rw [← Paired.length d];exact z
 obtain ⟨p,G,o⟩:=KT.at d l
 refine call_meetsIn PySem.F.slot_dict_pop dd.typeIs PySem.F.entry_dict_pop (PySem.F.args_dict_pop_2 _ _) (PopT.meetsH_dict_pop (knd:=tupleKind (abf X.prog X.w)) rfl)
  ⟨tupleKind_room_in1 r,k,xs,j,p,ag5 I.hok D,dd,hz,G,fun h' f hs=>h p.2 _ ?_ o⟩
 obtain ⟨q,es,x,i,y,B,u,_,C⟩:=f
 refine ah0 I (by rw [e];exact True.intro) hs ⟨q,i⟩ ⟨aA9 (List.length_eraseIdx_le kvs j) z,hd,_,(KT.erase d j).keeps fun c ys m=>?_,q,es,x,i,y,B,u,C⟩
 rw [aad (aso m e (fun z=>nomatch z))]
 exact m
end
def ap4 (td ty:TE):TE:=fun σ H Q=>td σ H fun x H1=>∃ a,x=.ref a/\IsD H1 a/\ty σ H1 fun y H2=>∃ kvs k j v b,H2 a=some (.dT kvs)/\y=.ref b/\H2 b=some (.tup (k.map kV))/\kvs[j]?=some (k,v)/\Q v (upd H2 a (.dT (kvs.eraseIdx j)))
section
variable {X:Cx} {o e f:Expr} {apos cpos:Pos} {td ty tx:TE}
theorem ar9 (p:X.A.units+1 < cLine) (q:PE X o td) (L:PE X e ty) (m:M1 X o "pop" apos e cpos):PE X (.Call (.Attribute o "pop" apos) [e] [] cpos) (ap4 td ty):=by
 intro pins s σ H Q I h
 refine wpAny_Call_method m.base m.few m.line PySem.F.plainAttrs_dict PySem.F.slot_dict_pop PySem.F.type_dict_pop (thn (q pins s σ H _ I h) fun u s1 ⟨x,n,f,D,a,ex,d,w⟩=>?_)
 subst ex
 obtain rfl:u=Value.ref a:=D
 obtain ⟨C,G,_⟩:=avs f d
 refine ⟨C,G,?_⟩
 rw [m.trees]
 refine Calls.callWith_builtin rfl (Calls.evalArgs_plain (Calls.spliced_cons (thn (L pins s1 σ n _ f w) fun g s2 ⟨y,M,i,K,kvs,k,j,v,b,z,r,B,l,E⟩=>Calls.spliced_nil ?_)))
 subst r
 obtain rfl:g=Value.ref b:=K
 exact aw7 p i z B l fun N O J c=>⟨v,_,J,c,E⟩
end
end L2
namespace DNe
open PySem PyProof.Rows
theorem dict_ne_some (l b:Addr) (es:Array DictEntry) (n i:Nat) (dd c:Option Addr) (sl a:Array (Option Value)) (m:(l == sysModules)=false) (f:(b == sysModules)=false) (j:(es.size != 0)=true) :
  Meets (Builtin.«dict.__ne__» ⟨[.ref l,.ref b],[]⟩)
   (fun _ R s=>s.heap.get? l=some { cls:=.type "dict",dict:=dd,data:=.dict es n,slots:=sl }/\s.heap.get? b=some { cls:=.type "dict",dict:=c,data:=.dict #[] i,slots:=a } /\
    R (.ok (.ret (.bool true))) s) :=
 .of_wp fun prog w A R s h=>by
  obtain ⟨r,g,d,q,os⟩:=s;obtain ⟨o,hb,h⟩:=h
  have p:=PySem.F.sub_dict_dict
  wp_walk
  exact ⟨_,rfl,h⟩
theorem ai9 {prog:Program} {w:World} {A:Around} {E:Value->Shared->Prop} {s:Shared} {Q:Bool->Shared->Prop} {id:String} {l b:Addr} {o g:Obj} {n i:Nat} (c:(l == sysModules)=false) (a:(b == sysModules)=false)
  (f:s.heap.get? l=some o) (hd:o.data=.dict #[] n) (hb:s.heap.get? b=some g) (d:g.data=.dict #[] i) (h:Q true s):wpAny (model prog w) A (Builtin.Dict.samePairs id l b) Q E s:=by
 unfold Builtin.Dict.samePairs Builtin.Dict.showsAll
 rw [c,a]
 simp only [Bool.false_eq_true,if_false]
 refine aF5 (aF6 (aF5 (aF6 ?_)))
 refine aF5 (wpAny_dictEntries f hd (aF5 (wpAny_dictEntries hb d ?_)))
 simp only [bne_self_eq_false,Bool.false_eq_true,if_false]
 refine aF5 (wpAny_dictEpoch f hd ?_)
 rw [Std.Legacy.Range.forIn_eq_forIn_range']
 simp only [Std.Legacy.Range.size]
 exact aF5 (aF6 (aF6 h))
theorem dict_ne_none (l b:Addr) (n j:Nat) (dd i:Option Addr) (sl f:Array (Option Value)) (c:(l == sysModules)=false) (a:(b == sysModules)=false) :
  Meets (Builtin.«dict.__ne__» ⟨[.ref l,.ref b],[]⟩)
   (fun _ R s=>s.heap.get? l=some { cls:=.type "dict",dict:=dd,data:=.dict #[] n,slots:=sl }/\s.heap.get? b=some { cls:=.type "dict",dict:=i,data:=.dict #[] j,slots:=f } /\
    R (.ok (.ret (.bool false))) s) :=
 .of_wp fun prog w A R s h=>by
  obtain ⟨q,g,d,p,os⟩:=s;obtain ⟨m,hb,h⟩:=h
  have o:=PySem.F.sub_dict_dict
  wp_walk using ai9 c a m rfl hb rfl
  exact ⟨_,rfl,h⟩
end DNe
namespace L2
open PySem PySem.Spec PySem.W PyProof.Rows
def rNeE:R2:=fun x y H Q=>∃ a b kvs,x=.ref a/\y=.ref b/\H a=some (.dT kvs)/\H b=some (.dT [])/\Q (.bl (!kvs.isEmpty)) H
theorem aw8 {X:Cx} (S:X.A.units+64 < cLine):OpR X (compareOp .NotEq) rNeE:=by
 intro pins s σ H x y v u Q I O R h
 obtain ⟨a,b,kvs,rfl,rfl,K,N,q⟩:=h
 obtain rfl:v=Value.ref a:=O
 obtain rfl:u=Value.ref b:=R
 obtain ⟨_,d,xs,p,⟨cls,dd,data,sl⟩,es,D,n,P,G,w,_,_⟩:=af1 I.hok K
 obtain ⟨_,c,ys,f,⟨m,i,r,g⟩,fs,j,o,J,E,C,_,_⟩:=af1 I.hok N
 cases f
 have hf:fs = #[]:=by
  obtain ⟨l⟩:=fs
  simp at C
  rw [C]
 subst hf
 have L:cls=.type "dict":=P.1
 have M:m=.type "dict":=J.1
 simp only at G E
 subst L M G E
 have hn:Value.bool true ≠ Value.notImplemented:=fun x=>nomatch x
 have B:Value.bool false ≠ Value.notImplemented:=fun x=>nomatch x
 cases p with
 | nil =>
  have z:es = #[]:=by
   obtain ⟨l⟩:=es
   simp at w
   rw [w]
  subst z
  exact richCompare_meets_room (op:=.NotEq) ⟨_,n,rfl⟩ ⟨_,o,rfl⟩ PySem.F.slot_dict_ne PySem.F.entry_dict_ne (PySem.F.args_dict_ne_2 _ _) (DNe.dict_ne_none a b D j dd i sl g d c)
   ⟨n,o,show Value.bool false ≠ Value.notImplemented/\_ from ⟨B,⟨.bl false,H,I,rfl,q⟩⟩⟩ (by omega)
 | cons hq t =>
  have z:(es.size != 0)=true:=by
   have:=congrArg List.length w
   simp at this
   simp [this]
  exact richCompare_meets_room (op:=.NotEq) ⟨_,n,rfl⟩ ⟨_,o,rfl⟩ PySem.F.slot_dict_ne PySem.F.entry_dict_ne (PySem.F.args_dict_ne_2 _ _) (DNe.dict_ne_some a b es D j dd i sl g d c z)
   ⟨n,o,show Value.bool true ≠ Value.notImplemented/\_ from ⟨hn,⟨.bl true,H,I,rfl,q⟩⟩⟩ (by omega)
end L2
namespace DNe
open PySem PyProof.Rows
theorem alo (l:Addr) (es:Array DictEntry) (n:Nat) (dd:Option Addr) (sl:Array (Option Value)) (a:(l == sysModules)=false) :
  Meets (Builtin.«dict.__len__» ⟨[.ref l],[]⟩)
   (fun _ R s=>s.heap.get? l=some { cls:=.type "dict",dict:=dd,data:=.dict es n,slots:=sl }/\R (.ok (.ret (.int (es.size:Int) s.toks))) { s with toks:=s.toks+1 }) :=
 .of_wp fun prog w A R s h=>by
  obtain ⟨f,g,d,c,os⟩:=s;obtain ⟨b,h⟩:=h
  wp_walk
  exact ⟨_,rfl,h⟩
section
variable {prog:Program} {w:World} {A:Around} {E:Value->Shared->Prop} {s:Shared}
theorem call_len_raw {d:Addr} {es:Array DictEntry} {n:Nat} {dd:Option Addr} {sl:Array (Option Value)} {Q:Value->Shared->Prop} (hd:(d == sysModules)=false) (c:s.heap.get? d=some { cls:=.type "dict",dict:=dd,data:=.dict es n,slots:=sl }) (b:(es.size:Int) < 2 ^ 63)
  (h:Q (.int (es.size:Int) (s.toks+1)) { s with toks:=s.toks+1+1 }):wpAny (model prog w) A (call (.builtin "len") [.ref d]) Q E s:=by
 have a:s.TypeIs (.ref d) "dict":=⟨_,c,rfl⟩
 refine Calls.call_function_entry kind_len plain_len entry_len (args_len1 _) ?_
 unfold Builtin.«len»
 refine aF5 (m:=oneArg "len" _) (aF6 ?_)
 refine aF5 (m:=callSpecial? (.ref d) (Str.ofString "__len__")) (wpAny_callSpecial?_slot (name:=Str.ofString "__len__") a PySem.F.slot_dict_len
  (call_meets PySem.F.slot_dict_len a PySem.F.entry_dict_len (PySem.F.args_dict_len_1 _) (alo d es n dd sl hd) ⟨c,?_⟩))
 show wpAny _ _ _ _ _ { s with toks:=s.toks+1 }
 refine aF5 (aG0 (aF6 ?_))
 refine aF5 (wpAny_letGo ?_)
 show wpAny _ _ (if (es.size:Int) < 0 then _ else _) _ _ _
 rw [aC6 (by omega)]
 show wpAny _ _ (if (es.size:Int) ≥ 2 ^ 63 then _ else _) _ _ _
 rw [aC6 (by omega)]
 exact aF5 (wpAny_mkInt (aF6 ⟨_,rfl,h⟩))
end
end DNe
namespace L2
open PySem PySem.Spec PySem.W PyProof.Rows
def atb:List V->Hp->VK->Prop:=fun xs H Q=>∃ a kvs,xs=[V.ref a]/\H a=some (.dT kvs)/\Q (.int kvs.length) H
theorem ap5 {X:Cx}:aba X (.builtin "len") atb:=by
 intro pins s σ H xs us Q I r h
 obtain ⟨a,kvs,rfl,ha,q⟩:=h
 obtain ⟨u,rfl,d⟩:=acj r
 cases d
 obtain ⟨z,hd,ys,b,⟨cls,dd,data,sl⟩,es,l,g,j,c,i,_,_⟩:=af1 I.hok ha
 have f:cls=.type "dict":=j.1
 simp only at c
 subst f c
 have hs:es.size=kvs.length:=by
  have:=congrArg List.length i
  simp at this
  rw [this];exact (Paired.length b).symm
 refine DNe.call_len_raw hd g (by rw [sizeLine_eq] at z;omega) ?_
 rw [hs]
 exact ⟨.int kvs.length,H,(I.tok _).tok _,⟨_,rfl⟩,q⟩
end L2
namespace VL
open PySem PySem.Spec L2
section
variable {B:Bs} {env:En} {Q':PyData->En->Prop} {QO:Sl->En->Prop} {i:Nat} {ty:TE}
theorem RpT.at {G:Hp}:∀ {kvs:List (List Key × V)} {es:List (List Key × PyData)},RpT G kvs es->∀ {j:Nat} {a:List Key} {d:PyData},es[j]?=some (a,d)->∃ v,kvs[j]?=some (a,v)/\Rp G v d
 | _,_,.nil,j,a,d,e=>by simp at e
 | _,_,.cons (k:=k) (v:=v) (d:=d0) h t,0,a,d,e=>by
  have e:(k,d0)=(a,d):=by simpa using e
  cases e
  exact ⟨v,rfl,h⟩
 | _,_,.cons h t,j+1,a,d,e=>by
  obtain ⟨v,b,r⟩:=RpT.at t (j:=j) (by simpa using e)
  exact ⟨v,by simpa using b,r⟩
theorem RpT.erase {G:Hp}:∀ {kvs:List (List Key × V)} {es:List (List Key × PyData)},RpT G kvs es->∀ (j:Nat),RpT G (kvs.eraseIdx j) (es.eraseIdx j)
 | _,_,.nil,_ => .nil
 | _,_,.cons _ t,0=>t
 | _,_,.cons h t,j+1 => .cons h (RpT.erase t j)
theorem asa {p:List (List Key × PyData)} (x:Has env i (OT p)) (h:Ev B ty env fun y w=>∃ es m j d,w[i]?=some (some (.own (OT es)))/\y=tkD m/\es[j]?=some (m,d)/\Q' d (w.set i (some (.own (OT (es.eraseIdx j)))))):Ev B (ap4 (tVar i) ty) env Q':=fun σ G H F Q I k=>by
 obtain ⟨v,s,a,kvs,D,ha,rt,_⟩:=I.has x
 subst D
 refine ⟨_,s,a,rfl,.inr ⟨kvs,.inl ha⟩,h σ G H F _ I fun u L N O y w n C E ⟨es,m,j,d,l,A,hj,q⟩=>?_⟩
 subst A
 obtain ⟨M,g,⟨P,c,o,r,f,hf⟩,hb⟩:=n.sl i _ l
 rw [s] at g;cases g;cases o
 cases E with
 | @tup b vs ds hk rs =>
  have:=alh rs
  subst this
  obtain ⟨J,z,K⟩:=RpT.at f hj
  refine ⟨c,m,j,J,b,r,rfl,n.gh _ _ hk,z,?_⟩
  exact k _ L _ _ _ _ (n.upd1 (A':=OT (es.eraseIdx j)) l (.inl rfl) s hf ⟨a,_,rfl,aaf,RpT.erase f j,fun b=>Iff.rfl⟩) C K q
theorem aw9 {es:List (List Key × PyData)} (d:Has env i (OT es)) (q:Q' (.bool (!es.isEmpty)) env):Ev B (tOp rNeE (tVar i) akn) env Q':=fun σ G H F Q I k=>by
 obtain ⟨v,f,a,kvs,c,ha,rt,_⟩:=I.has d
 subst c
 refine ⟨_,f,fun p b=>⟨a,p,kvs,rfl,rfl,by rw [aad (aas ha b)];exact ha,aaf,?_⟩⟩
 have o:=Out.newDT (xs:=[]) (ds:=[]) I.gh b .nil
 have e:kvs.isEmpty=es.isEmpty:=by cases rt <;> rfl
 rw [e]
 exact k _ G _ F _ env (I.out o).1 (Same.refl _) (.bl _) q
theorem au0 {es:List (List Key × PyData)} (d:Has env i (OT es)) (q:Q' (.int es.length) env):Ev B (tCB atb (abc (tVar i) tNil)) env Q':=fun σ G H F Q I k=>by
 obtain ⟨v,c,a,kvs,b,ha,rt,_⟩:=I.has d
 subst b
 refine ⟨_,c,a,kvs,rfl,ha,?_⟩
 rw [(RpT.len rt).1]
 exact k _ G H F _ env I (Same.refl _) (.int _) q
end
end VL
namespace DNe
open PySem PyProof.Rows
theorem dict_eq_none (l b:Addr) (n j:Nat) (dd i:Option Addr) (sl f:Array (Option Value)) (c:(l == sysModules)=false) (a:(b == sysModules)=false) :
  Meets (Builtin.«dict.__eq__» ⟨[.ref l,.ref b],[]⟩)
   (fun _ R s=>s.heap.get? l=some { cls:=.type "dict",dict:=dd,data:=.dict #[] n,slots:=sl }/\s.heap.get? b=some { cls:=.type "dict",dict:=i,data:=.dict #[] j,slots:=f } /\
    R (.ok (.ret (.bool true))) s) :=
 .of_wp fun prog w A R s h=>by
  obtain ⟨q,g,d,p,os⟩:=s;obtain ⟨m,hb,h⟩:=h
  have o:=PySem.F.sub_dict_dict
  wp_walk using ai9 c a m rfl hb rfl
  exact ⟨_,rfl,h⟩
end DNe
namespace L2
open PySem PySem.Spec PyProof.Rows PySem.SeqAt
def okV:V->Bool
 | .byt _ | .flt _=>false
 | _=>true
inductive Sam (H:Hp):Nat->V->V->Prop
 | same {n:Nat} (v:V):okV v=true->Sam H n v v
 | lst {n:Nat} {a b:Addr} {xs ys:List V}:H a=some (.lst xs)->H b=some (.lst ys)->xs.length=ys.length->(∀ (i:Nat) x y,xs[i]?=some x->ys[i]?=some y->Sam H n x y)->Sam H (n+1) (.ref a) (.ref b)
 | tup {n:Nat} {a b:Addr} {xs ys:List V}:H a=some (.tup xs)->H b=some (.tup ys)->xs.length=ys.length->(∀ (i:Nat) x y,xs[i]?=some x->ys[i]?=some y->Sam H n x y)->Sam H (n+1) (.ref a) (.ref b)
theorem Sam.keep {H H':Hp} (s:Same H H') {n:Nat} {v w:V} (h:Sam H n v w):Sam H' n v w:=by
 induction h with
 | same v e=>exact .same v e
 | lst h1 h2 h3 _ ih=>exact .lst (s _ _ h1) (s _ _ h2) h3 ih
 | tup h1 h2 h3 _ ih=>exact .tup (s _ _ h1) (s _ _ h2) h3 ih
theorem Sam.more {H:Hp} {n:Nat} {v w:V} (h:Sam H n v w):∀ {m:Nat},n<=m->Sam H m v w:=by
 induction h with
 | same v e=>exact fun _ => .same v e
 | @lst n a b xs ys h1 h2 h3 _ ih =>
  intro m hm
  obtain ⟨k,rfl⟩:∃ k,m=k+1:=⟨m - 1,by omega⟩
  exact .lst h1 h2 h3 fun i x y d c=>ih i x y d c (by omega)
 | @tup n a b xs ys h1 h2 h3 _ ih =>
  intro m hm
  obtain ⟨k,rfl⟩:∃ k,m=k+1:=⟨m - 1,by omega⟩
  exact .tup h1 h2 h3 fun i x y d c=>ih i x y d c (by omega)
section
variable {X:Cx} {pins:List (Addr × Obj)} {σ:St} {H:Hp} {s:Shared}
theorem au1 {A:Around} {v:V} {u w:Value} (a:okV v=true) (r:RelV v u) (q:RelV v w):EqAt A s u w true:=by
 cases v with
 | int i =>
  obtain ⟨t,rfl⟩:=r
  obtain ⟨t',rfl⟩:=q
  have:=EqAt.int_int (A:=A) (s:=s) i t i t'
  simpa using this
 | str x =>
  obtain ⟨t,rfl⟩:=r
  obtain ⟨t',rfl⟩:=q
  have:=EqAt.str_str (A:=A) (s:=s) x t x t'
  simpa using this
 | byt _=>cases a
 | flt _=>cases a
 | _ =>
  have e:u=w:=Eq.trans r (Eq.symm q)
  subst e
  exact EqAt.same _
theorem ap6 (I:Inv X pins σ H s) {A:Around} {a b:Addr} {xs ys:List V} (v:H a=some (.lst xs)) (C:H b=some (.lst ys)) (G:xs.length=ys.length) (m:A.units < cLine)
  (w:∀ (i:Nat) x y,xs[i]?=some x->ys[i]?=some y->∀ {u z:Value},RelV x u->RelV y z->EqAt A.in1 s u z true):RcAt A s (.ref a) (.ref b) true:=by
 obtain ⟨is,f,q,_⟩:=I.list (SqL.of v)
 obtain ⟨n,h,p2,_⟩:=I.list (SqL.of C)
 have D:=f.length
 have J:=h.length
 have:((List.range is.toArray.size).all fun _=>true)=true:=aC4.mpr fun _ _=>rfl
 rw [← this]
 refine RcAt.lists q.isList p2.isList (by simp;omega) m fun j p r=>?_
 have c:j < is.length:=by simpa using p
 have d:j < n.length:=by simpa using r
 obtain ⟨E,g,B⟩:=f.get (ay0 (show j < xs.length by omega))
 obtain ⟨F,l,o⟩:=h.get (ay0 (show j < ys.length by omega))
 rw [ay0 c] at g
 rw [ay0 d] at l
 cases g;cases l
 exact w j _ _ (ay0 (show j < xs.length by omega)) (ay0 (show j < ys.length by omega)) (by simpa using B) (by simpa using o)
theorem ap7 (I:Inv X pins σ H s) {A:Around} {a b:Addr} {xs ys:List V} (v:H a=some (.tup xs)) (C:H b=some (.tup ys)) (G:xs.length=ys.length) (n:A.units < cLine)
  (w:∀ (i:Nat) x y,xs[i]?=some x->ys[i]?=some y->∀ {u z:Value},RelV x u->RelV y z->EqAt A.in1 s u z true):RcAt A s (.ref a) (.ref b) true:=by
 obtain ⟨is,g,q,_⟩:=I.tuple (SqT.of v)
 obtain ⟨c,l,p2,_⟩:=I.tuple (SqT.of C)
 have D:=g.length
 have J:=l.length
 have:((List.range (min is.toArray.size c.toArray.size)).all (fun _=>true) && is.toArray.size == c.toArray.size)=true:=by
  rw [aC4.mpr fun _ _=>rfl];simp;omega
 rw [← this]
 refine RcAt.tuples q p2 n fun j p r=>?_
 have d:j < is.length:=by simpa using p
 have f:j < c.length:=by simpa using r
 obtain ⟨E,h,B⟩:=g.get (ay0 (show j < xs.length by omega))
 obtain ⟨F,m,o⟩:=l.get (ay0 (show j < ys.length by omega))
 rw [ay0 d] at h
 rw [ay0 f] at m
 cases h;cases m
 exact w j _ _ (ay0 (show j < xs.length by omega)) (ay0 (show j < ys.length by omega)) (by simpa using B) (by simpa using o)
theorem ap8 (I:Inv X pins σ H s) {n:Nat} {v w:V} (h:Sam H n v w):∀ {A:Around} {u z:Value},RelV v u->RelV w z->A.units+n < cLine->EqAt A s u z true:=by
 induction h with
 | same v e=>exact fun r q _=>au1 e r q
 | @lst n a b xs ys h1 h2 h3 _ ih =>
  intro A u z r q f
  obtain rfl:u=Value.ref a:=r
  obtain rfl:z=Value.ref b:=q
  by_cases e:a=b
  ·subst e;exact EqAt.same _
  ·exact EqAt.of_refs e (ap6 I h1 h2 h3 (by omega) fun i x y d c u z r q=>ih i x y d c r q (by show A.units+1+n < cLine;omega))
 | @tup n a b xs ys h1 h2 h3 _ ih =>
  intro A u z r q f
  obtain rfl:u=Value.ref a:=r
  obtain rfl:z=Value.ref b:=q
  by_cases e:a=b
  ·subst e;exact EqAt.same _
  ·exact EqAt.of_refs e (ap7 I h1 h2 h3 (by omega) fun i x y d c u z r q=>ih i x y d c r q (by show A.units+1+n < cLine;omega))
end
inductive TopS (H:Hp):V->V->Prop
 | non:TopS H .non .non
 | bl (b:Bool):TopS H (.bl b) (.bl b)
 | int (i:Int):TopS H (.int i) (.int i)
 | str (t:Str):TopS H (.str t) (.str t)
 | lst {n:Nat} {a b:Addr} {xs ys:List V}:n<=60->H a=some (.lst xs)->H b=some (.lst ys)->xs.length=ys.length->(∀ (i:Nat) x y,xs[i]?=some x->ys[i]?=some y->Sam H n x y)->TopS H (.ref a) (.ref b)
 | tup {n:Nat} {a b:Addr} {xs ys:List V}:n<=60->H a=some (.tup xs)->H b=some (.tup ys)->xs.length=ys.length->(∀ (i:Nat) x y,xs[i]?=some x->ys[i]?=some y->Sam H n x y)->TopS H (.ref a) (.ref b)
 | dk {a:Addr}:H a=some (.dK [])->TopS H (.ref a) (.ref a)
 | dt {a:Addr}:H a=some (.dT [])->TopS H (.ref a) (.ref a)
def rEqS:R2:=fun x y H Q=>TopS H x y/\Q (.bl true) H
theorem axa {X:Cx} (K:X.A.units+64 < cLine):OpR X (compareOp .Eq) rEqS:=by
 intro pins s σ H x y v u Q I g j ⟨h,q⟩
 have fin:RcAt X.A s v u true->wpAny (model X.prog X.w) X.A (compareOp .Eq v u) (EP X pins σ Q) X.xe s:=fun h=>h _ _ _ _ ⟨.bl true,H,I,rfl,q⟩
 cases h with
 | non =>
  obtain rfl:v=Value.none:=g
  obtain rfl:u=Value.none:=j
  exact fin RcAt.none_none
 | bl b =>
  obtain rfl:v=Value.bool b:=g
  obtain rfl:u=Value.bool b:=j
  exact fin (by have:=RcAt.bool_bool (A:=X.A) (s:=s) b b;simpa using this)
 | int i =>
  obtain ⟨t,rfl⟩:=g
  obtain ⟨t',rfl⟩:=j
  exact fin (by have:=RcAt.int_int (A:=X.A) (s:=s) i t i t';simpa using this)
 | str i =>
  obtain ⟨t,rfl⟩:=g
  obtain ⟨t',rfl⟩:=j
  exact fin (by have:=RcAt.str_str (A:=X.A) (s:=s) i t i t';simpa using this)
 | @lst n a b xs ys hn c o f ih =>
  obtain rfl:v=Value.ref a:=g
  obtain rfl:u=Value.ref b:=j
  exact fin (ap6 I c o f (by omega) fun i x y J D u z r q=>ap8 I (ih i x y J D) r q (by show X.A.units+1+n < cLine;omega))
 | @tup n a b xs ys hn c o f ih =>
  obtain rfl:v=Value.ref a:=g
  obtain rfl:u=Value.ref b:=j
  exact fin (ap7 I c o f (by omega) fun i x y J D u z r q=>ap8 I (ih i x y J D) r q (by show X.A.units+1+n < cLine;omega))
 | @dk a ea =>
  obtain rfl:v=Value.ref a:=g
  obtain rfl:u=Value.ref a:=j
  obtain ⟨_,d,xs,m,⟨cls,dd,data,sl⟩,es,p,c,o,f,E,B,_⟩:=asz I.hok ea
  cases m
  have G:es = #[]:=by
   obtain ⟨l⟩:=es
   have B:Pairs _ l []:=B
   cases B
   rfl
  subst G
  have C:cls=.type "dict":=o.1
  simp only at f
  subst C f
  have hn:Value.bool true ≠ Value.notImplemented:=fun x=>nomatch x
  exact richCompare_meets_room (op:=.Eq) ⟨_,c,rfl⟩ ⟨_,c,rfl⟩ PySem.F.slot_dict_eq PySem.F.entry_dict_eq (PySem.F.args_dict_eq_2 _ _) (DNe.dict_eq_none a a p p dd dd sl sl d d)
   ⟨c,c,show Value.bool true ≠ Value.notImplemented/\_ from ⟨hn,⟨.bl true,H,I,rfl,q⟩⟩⟩ (by omega)
 | @dt a ea =>
  obtain rfl:v=Value.ref a:=g
  obtain rfl:u=Value.ref a:=j
  obtain ⟨_,d,xs,m,⟨cls,dd,data,sl⟩,es,p,c,o,f,E,_,_⟩:=af1 I.hok ea
  cases m
  have G:es = #[]:=by
   obtain ⟨l⟩:=es
   simp at E
   rw [E]
  subst G
  have C:cls=.type "dict":=o.1
  simp only at f
  subst C f
  have hn:Value.bool true ≠ Value.notImplemented:=fun x=>nomatch x
  exact richCompare_meets_room (op:=.Eq) ⟨_,c,rfl⟩ ⟨_,c,rfl⟩ PySem.F.slot_dict_eq PySem.F.entry_dict_eq (PySem.F.args_dict_eq_2 _ _) (DNe.dict_eq_none a a p p dd dd sl sl d d)
   ⟨c,c,show Value.bool true ≠ Value.notImplemented/\_ from ⟨hn,⟨.bl true,H,I,rfl,q⟩⟩⟩ (by omega)
section
variable {g:TG} {tif:TT} {te:TE} {acc:Addr} {Qd:List V->Hp->Prop} {σ0:St} {H0:Hp}
theorem axb {K:Frag} {a:Addr} {xs:List V} (d:Nat->List V->St->Hp->Prop) (l:d 0 [] σ0 H0) (ha:∀ i ys σ H,d i ys σ H->H acc=some (.lst ys)) (n:∀ i ys σ H,i<=xs.length->d i ys σ H->SqT K H a xs)
  (hs:∀ i x ys σ H,xs[i]?=some x->d i ys σ H->g x σ H fun c H3=>tif c H3 fun b f=>if b=true then te c f fun y h=>h acc=some (.lst ys)/\ys.length < sizeLine/\d (i+1) (ys ++ [y]) c (upd h acc (.lst (ys ++ [y]))) else d (i+1) ys c f)
  (hd:∀ ys σ H,d xs.length ys σ H->Qd ys H):∃ W:LW,(∃ m,W 0 m [] σ0 H0)/\ad8 (Itt K a) g tif te acc Qd W:=by
 refine ⟨fun i m ys σ H=>m=xs.length - i/\i<=xs.length/\d i ys σ H,⟨xs.length,by simp,aD0 _,l⟩,?_⟩
 rintro i m ys σ H ⟨rfl,hi,p⟩
 refine ⟨ha i ys σ H p,?_⟩
 have q:=n i ys σ H hi p
 by_cases hlt:i < xs.length
 ·refine .inr ⟨⟨xs,xs[i],q,by simp [hlt]⟩,d (i+1),fun o r H' j=>⟨xs.length - (i+1),by omega,rfl,hlt,j⟩,fun x H' y=>?_⟩
  obtain ⟨e,y⟩:=y
  subst e
  exact hs i x ys σ _ (y xs q) p
 ·have e:i=xs.length:=by omega
  subst e
  exact .inl ⟨⟨xs,q,ay6 _⟩,hd ys σ H p⟩
end
end L2
namespace L2
open PySem PySem.Spec PyProof.Rows
section
variable {X:Cx}
end
end L2
namespace VL
open PySem PySem.Spec L2
theorem alp {b:Nat}:∀ {ds:List PyData},(∀ d∈ds,d.showable=true/\d.shown.length<=b)->PyData.showableAll ds=true/\(PyData.shownAll ds).length=ds.length/\∀ t∈PyData.shownAll ds,t.length<=b
 | [],_=>⟨rfl,rfl,fun t h=>nomatch h⟩
 | d :: ds,h=>by
  obtain ⟨i,g,f⟩:=alp (b:=b) (ds:=ds) fun x c=>h x (az4 _ c)
  have hd:=h d (az7 ..)
  refine ⟨by simp [PyData.showableAll,hd.1,i],by simp [PyData.shownAll,g],fun t a=>?_⟩
  rcases ay8.mp a with rfl | a
  ·exact hd.2
  ·exact f t a
end VL
namespace L2
open PySem PySem.Spec PyProof.Rows
section
variable {X:Cx}
end
end L2
namespace VL
open PySem PySem.Spec L2
end VL
namespace L2
open PySem PySem.Spec PyProof.Rows
def atc (K:Frag):List V->Hp->VK->Prop:=fun xs H Q=>∃ p ys,xs=[.ref p]/\SqL K H p ys/\∀ l,H l=none->Q (.ref l) (upd H l (.tup ys))
theorem aja {X:Cx}:aba X (.type "tuple") (atc X.K):=by
 intro pins s σ H xs us Q I r h
 obtain ⟨p,ys,e,hs,q⟩:=h
 exact ajf pins s σ H xs us Q I r ⟨p,ys,e,.inl ⟨hs,q⟩⟩
end L2
namespace VL
open PySem PySem.Spec L2
theorem asb {K:Frag} {ds:List PyData} {R:Sl->Prop} (h:R (.st (.tuple ds))):OpA (atc K) [.list ds] R:=fun G H vs Q gh rs k=>by
 cases rs with
 | cons r t =>
  cases t
  cases r with
  | lst ha ra =>
   refine ⟨_,_,rfl,SqL.of (gh _ _ ha),fun p a=>?_⟩
   exact k _ _ _ _ _ (Out.newT gh a ra) h
structure Sm (b k:Nat) (d:PyData):Prop where
 lay:d.canLay0=true
 sh:d.showable=true/\d.shown.length<=b
 dp:d.depth<=k
theorem Sm.mono {b k c j:Nat} {d:PyData} (h:Sm b k d) (hb:b<=c) (a:k<=j):Sm c j d:=⟨h.lay,⟨h.sh.1,aA9 h.sh.2 hb⟩,aA9 h.dp a⟩
theorem sm_all {ds:List PyData} (h:∀ d∈ds,d.canLay0=true):PyData.canLayAll0 ds=true:=by
 induction ds with
 | nil=>rfl
 | cons d ds ih=>simp only [PyData.canLayAll0,h d (az7 ..),ih fun x a=>h x (az4 _ a),Bool.and_self]
theorem am9 (b:Nat):∀ (a:List Str),(∀ t∈a,t.length<=b)->(Str.join (Str.ofString ", ") a).length<=a.length * (b+2)
 | [],_=>by show (Str.empty).length<=_;exact aD0 _
 | [x],h=>by
  have:=h x (az7 ..)
  show x.length<=_
  simp only [List.length_singleton]
  omega
 | x :: y :: r,h=>by
  have d:=am9 b (y :: r) fun t c=>h t (az4 _ c)
  have f:=h x (az7 ..)
  show (x ++ Str.ofString ", " ++ Str.join (Str.ofString ", ") (y :: r)).length<=_
  rw [strLen_append,strLen_append]
  have g:(Str.ofString ", ").length=2:=by decide
  rw [aB8,Nat.add_one_mul]
  omega
theorem asc {b:Nat} {ds:List PyData} (h:∀ d∈ds,d.showable=true/\d.shown.length<=b):(PyData.tuple ds).showable=true/\(PyData.tuple ds).shown.length<=ds.length * (b+2)+3:=by
 obtain ⟨f,c,a⟩:=alp h
 refine ⟨f,?_⟩
 show (tupleText (PyData.shownAll ds)).length<=_
 unfold tupleText
 rw [strLen_append,strLen_append]
 have:=am9 b (PyData.shownAll ds) a
 rw [c] at this
 have j:(Str.ofString "(").length=1:=by decide
 have g:(Str.ofString (if (PyData.shownAll ds).length == 1 then ",)" else ")" : String)).length<=2:=by split <;> decide
 have i:(Str.join (Str.ofString ", ") (PyData.shownAll ds)).length<=ds.length * (b+2):=this
 show (Str.ofString "(").length+(Str.join (Str.ofString ", ") (PyData.shownAll ds)).length+(Str.ofString (if (PyData.shownAll ds).length == 1 then ",)" else ")" : String)).length<=_
 omega
theorem sm_tup {b k:Nat} {ds:List PyData} (h:∀ d∈ds,Sm b k d):Sm (ds.length * (b+2)+3) (k+1) (.tuple ds):=⟨by simp only [PyData.canLay0];exact sm_all fun d hd=>(h d hd).lay,asc fun d hd=>(h d hd).sh,by
 have:PyData.depthAll ds<=k:=ama fun d hd=>(h d hd).dp
 simp only [PyData.depth]
 omega⟩
end VL
namespace L2
open PySem PySem.Spec
structure PSq (X:Cx) (sts:List Stmt) (t:TS):Prop where
 out:PSs X sts t
theorem aav {X:Cx} {st:Stmt} {rest:List Stmt} {t u:TS} (b:PS X st t) (a:PSq X rest u):PSq X (st :: rest) (tSeq t u):=⟨aag b a.out⟩
theorem abz {X:Cx} {st:Stmt} {t:TS} (h:PS X st t):PSq X [st] t:=⟨aam h⟩
end L2
namespace DictL
open PySem PyProof.Rows
theorem ahs:entryFor table "dict.update.loop" = some Builtin.«dict.update.loop»:=entryFor_of_tree (by kernel_rfl)
theorem adw:plainId "dict.update.loop" = true:=by decide +kernel
section
variable {prog:Program} {w:World} {A:Around} {R:Result->Shared->Prop} {I:Addr} {fp wr:List Addr} {n:Nat} {P:Nat->Value->Prop} {St:Nat->Heap->Prop} {K:Type} [DecidableEq K] {knd:KeyKind prog w K}
theorem au2 {M:Model} {E:Value->Shared->Prop} {s:Shared} {t:Addr} {k v:Value} {Q:List Value->Shared->Prop} {c:Value->Sem (List Value)} (b:s.heap.IsTuple t #[k,v]) (h:Q [k,v] s):wpAny M A ((Builtin.Dict.pairItems (.ref t)).tryCatch c) Q E s:=by
 obtain ⟨⟨cls,dd,data,sl⟩,f,a,m,hd⟩:=b
 simp only at a hd
 subst a hd
 refine wpAny_tryCatch ?_
 unfold Builtin.Dict.pairItems
 obtain ⟨j,g,d,i,os⟩:=s
 wp_walk
 exact h
end
section
variable {prog:Program} {w:World} {A:Around} {E:Value->Shared->Prop} {s:Shared}
theorem axc:typeLookup (.type "list") (Str.ofString "keys")=pure none:=by rw [typeLookup_type,builtinLookup_eq_fast];kernel_rfl
theorem au3 {a:Addr} {xs:Array Value} {k:Nat} {Q:Option Value->Shared->Prop} (j:s.heap.get? a=some { cls:=.type "list",data:=.seq xs k }) (m:A.handled=none)
  (h:∀ h' i,(∀ b o,s.heap.get? b=some o->h'.get? b=some o)->Q none { s with heap:=h',toks:=i }):wpAny (model prog w) A (getAttr? (.ref a) (Str.ofString "keys")) Q E s:=by
 obtain ⟨n,g,d,i,os⟩:=s
 have l:∀ c,(⟨n,g,d,c,os⟩:Shared).TypeIs (.ref a) "list":=fun _=>⟨_,j,rfl⟩
 have q:=sub_AttributeError
 have u:=PySem.F.slot_list_getattribute.lookup
 have p:=PySem.F.slot_list_getattribute.bind (.ref a)
 have v:=am_list_getattr_none
 unfold getAttr? getAttrBy? getAttrBy
 repeat (any_goals (first | assumption | exact l _ | ((with_reducible show wpAny _ _ (call (Value.builtin "list.__getattribute__") _ _) _ _ _);refine call_meets PySem.F.slot_list_getattribute (l _) am_entry_list_getattribute (PySem.F.args_list_getattribute_2 _ _) (meets_getattribute_miss_list a xs k #[] (Str.ofString "keys") _ axc (by decide +kernel) (by size_fits)) ⟨j,m,fun h' c e f=>?_⟩) | wp_step))
 obtain ⟨t',r,x⟩:=f.there
 show wpAny _ _ (getattributeRaised _ _ _ _ _ _ _) _ _ _
 unfold getattributeRaised
 repeat (any_goals (first | assumption | wp_step))
 exact h _ _ f.keeps
end
section
variable {prog:Program} {w:World} {A:Around} {E:Value->Shared->Prop} {s:Shared} {K:Type} [DecidableEq K] {knd:KeyKind prog w K}
end
end DictL
namespace L2
open PySem PySem.W PyProof.Rows
section
variable {K:Type} [DecidableEq K]
end
section
variable {X:Cx}
end
end L2
namespace VL
open PySem PySem.Spec L2
section
variable {B:Bs} {env:En} {QO:Sl->En->Prop} {Q':PyData->En->Prop} {D':VEnds} {K:Frag} {i:Nat}
end
end VL
namespace DictL
open PySem PyProof.Rows
section
variable {prog:Program} {w:World} {A:Around} {R:Result->Shared->Prop} {I:Addr} {fp wr:List Addr} {n:Nat} {P:Nat->Value->Prop} {St:Nat->Heap->Prop} {K:Type} [DecidableEq K] {knd:HeapKind prog w K}
theorem aom (W:Walks prog w A.in1 I fp wr n P St) (S:Addr) (C:S ∉ fp) (hu:knd.room A.in1) (L:Heap) (p:Nat->K) (u:Nat->Addr) (val:Nat->Value) (tup:Nat->Addr) (g:Nat->List (K × Addr × Value)) (hk:∀ i,g (i+1)=storedH (g i) (p i) (u i) (val i)) (hz:∀ i,i<=n->(g i).length<=sizeLine)
  (hP:∀ i v,P i v->v=.ref (tup i)) (D:∀ i x,x∈g i->∃ j,j < i/\x.1=p j/\x.2.1=u j) (m:∀ i,i < n->tup i ≠ S/\tup i ∉ wr) (l:∀ h',(∀ b o,b ≠ S->b ∉ wr->L.get? b=some o->h'.get? b=some o)->∀ i,i < n->knd.is h' (p i) (u i)) :
  ∀ (k i:Nat) (s:Shared),n - i=k->i<=n->St i s.heap->(∀ b o,b ≠ S->b ∉ wr->L.get? b=some o->s.heap.get? b=some o)->(∀ j,i<=j->j < n->s.heap.IsTuple (tup j) #[.ref (u j),val j])->s.heap.DictOfH knd S (g i)->
   (∀ h' H,h'.DictOfH knd S (g n)->(∀ b o,b ≠ S->b ∉ wr->s.heap.get? b=some o->h'.get? b=some o)->R (.ok (.ret .none)) { s with heap:=h',toks:=H }) ->
   codeAny (model prog w) A (.builtin "dict.update.loop" ⟨[.ref S,.ref I,rawInt i,.none],[]⟩) R s:=by
 have a0:S ∉ wr:=fun h=>C (W.sub _ h)
 have G:∀ (h h':Heap) (i:Nat),i<=n->(∀ b o,b ≠ S->b ∉ wr->L.get? b=some o->h'.get? b=some o)->h.DictOfH knd S (g i)->(∀ b o,b ∉ wr->h.get? b=some o->h'.get? b=some o)->h'.DictOfH knd S (g i):=fun h h' i hi c E hm=>by
  obtain ⟨o,es,ep,B,g1,g2,g3,_,g5⟩:=E
  refine ⟨o,es,ep,hm S o a0 B,g1,g2,g3,fun x hx=>?_,g5⟩
  obtain ⟨j,hj,e1,e2⟩:=D i x hx
  rw [e1,e2]
  exact l h' c j (by omega)
 intro k
 induction k with
 | zero =>
  intro i s U hi q c hT E Y
  have M:i=n:=by omega
  subst M
  refine codeAny_builtin ahs ?_
  rw [aG4 adw _]
  show wpAny _ A.in1 (pyNext (.ref I) >>= _) _ _ s
  refine aF5 (W.done s _ _ q fun h' H hm=>?_)
  dsimp only
  unfold Builtin.Dict.addKeywords
  refine aF5 (aF5 (aF6 (aF6 ?_)))
  refine aF6 ?_
  exact Y h' H (G _ _ _ (ay6 _) (fun b o d a e=>hm b o a (c b o d a e)) E hm) fun b o _ hb e=>hm b o hb e
 | succ k ih =>
  intro i s U hi q c hT E Y
  have f:i < n:=by omega
  refine codeAny_builtin ahs ?_
  rw [aG4 adw _]
  show wpAny _ A.in1 (pyNext (.ref I) >>= _) _ _ s
  refine aF5 (W.item i s _ _ f q fun v h' H Z y hm=>?_)
  have ev:=hP i v Z
  subst ev
  dsimp only
  have J:h'.IsTuple (tup i) #[.ref (u i),val i]:=by
   obtain ⟨o,B,r⟩:=hT i (ay6 _) f
   exact ⟨o,hm _ o (m i f).2 B,r⟩
  have Q:h'.DictOfH knd S (g i):=G _ _ _ hi (fun b o d a e=>hm b o a (c b o d a e)) E hm
  refine aF5 (aG0 ?_)
  refine aF5 (au2 J ?_)
  dsimp only
  refine aG0 (wpAny_dictSet_heap hu (l h' (fun b o d a e=>hm b o a (c b o d a e)) i f) Q (fun h2 N F=>?_) (hz i hi))
  have keep:∀ b o,b ≠ S->b ∉ wr->s.heap.get? b=some o->h2.get? b=some o:=fun b o d a e=>by rw [F.2 b d];exact hm b o a e
  refine aF6 ⟨plainId_quiet adw _,ih (i+1) _ (by omega) f ?_ ?_ ?_ (by rw [hk];exact N) ?_⟩
  ·exact W.frame _ _ _ y fun b hb o e=>by rw [F.2 b (fun z:b=S=>C (by rw [← z];exact hb))];exact e
  ·exact fun b o d a e=>keep b o d a (c b o d a e)
  ·intro j j1 X
   obtain ⟨o,B,r⟩:=hT j (by omega) X
   exact ⟨o,keep _ o (m j X).1 (m j X).2 B,r⟩
  ·intro h3 O a1 T
   exact Y h3 O a1 fun b o d a e=>T b o d a (keep b o d a e)
theorem call_dict_listH {E:Value->Shared->Prop} {s:Shared} {l:Addr} {items:Array Value} {nl:Nat} {Q:Value->Shared->Prop} (R:knd.room A.in1.in1) (a:Nat->K) (q:Nat->Addr) (val:Nat->Value) (tup:Nat->Addr) (m:Nat->List (K × Addr × Value)) (S:m 0=[]) (T:∀ i,m (i+1)=storedH (m i) (a i) (q i) (val i)) (hz:∀ i,i<=items.size->(m i).length<=sizeLine) (G:∀ i x,x∈m i->∃ j,j < i/\x.1=a j/\x.2.1=q j)
  (hh:A.handled=none) (C:s.heap.get? l=some { cls:=.type "list",data:=.seq items nl }) (Y:∀ i v,items[i]?=some v->v=Value.ref (tup i)) (P:∀ j,j < items.size->s.heap.IsTuple (tup j) #[.ref (q j),val j]) (H:∀ h',(∀ b o,s.heap.get? b=some o->h'.get? b=some o)->∀ i,i < items.size->knd.is h' (a i) (q i))
  (h:∀ (h':Heap) (M:Nat),h'.DictOfH knd s.heap.objs.size (m items.size)->(∀ b o,s.heap.get? b=some o->h'.get? b=some o)->Q (.ref s.heap.objs.size) { s with heap:=h',toks:=M }) :
  wpAny (model prog w) A (call (.type "dict") [.ref l]) Q E s:=by
 refine callType_codes (Q₁:=fun obj c=>obj=.ref s.heap.objs.size/\c={ s with heap:=s.heap.push { cls:=.type "dict",data:=.dict #[] } }) F.kt_called_dict (F.kt_typeCall_dict_1 _) F.entry_dict_init (kt_code_dict_new (.ref l) ⟨rfl,rfl⟩) fun obj c u=>?_
 obtain ⟨rfl,rfl⟩:=u
 have O:(s.heap.push { cls:=.type "dict",data:=.dict #[] }).get? s.heap.objs.size=some { cls:=.type "dict",data:=.dict #[] }:=aF9 _ rfl
 refine ⟨⟨_,O,rfl⟩,F.args_dict_init_2 _ _,?_⟩
 have f:(s.heap.push { cls:=.type "dict",data:=.dict #[] }).get? l=some { cls:=.type "list",data:=.seq items nl }:=aF7 _ C
 have W:(Value.type "list" == Value.type "dict")=false:=by decide
 unfold Builtin.«dict.__init__» Builtin.Dict.updateCommon Builtin.Dict.updateFrom
 obtain ⟨n,g,d,M,os⟩:=s
 dsimp only at *
 generalize hPI:pyIter=PI
 generalize hGA:getAttr?=GA
 wp_walk
 subst hGA hPI
 refine au3 (s:={ heap:=n.push { cls:=.type "dict",data:=.dict #[] },gens:=g,drawn:=d,toks:=M,os:=os }) f hh fun p N D=>?_
 rw [aC5 (show (none:Option Value).isNone=true from rfl)]
 refine aF5 (wpAny_rule ?_)
 have y:p.IsList l items:=⟨_,D _ _ f,rfl,nl,rfl⟩
 have I:l < n.objs.size:=aF8 C
 have z:=D _ _ O
 have hsz:n.objs.size < p.objs.size:=aF8 z
 refine aF5 (aG8 (s:={ heap:=p,gens:=g,drawn:=d,toks:=N,os:=os }) y ?_)
 refine aF6 ⟨plainId_quiet adw _,?_⟩
 have B:l ≠ p.objs.size:=az5 (Nat.lt_trans I hsz)
 have L:n.objs.size ∉ [p.objs.size,l]:=by
  simp only [ay8,List.not_mem_nil,or_false,not_or]
  exact ⟨az5 hsz,Nat.ne_of_gt I⟩
 have tl:∀ j,j < items.size->tup j < n.objs.size:=fun j hj=>let ⟨_,e,_⟩:=P j hj;aF8 e
 refine aom (A:=A.in1) (knd:=knd) (Walks.list (A:=A.in1.in1) hh p.objs.size l B items) n.objs.size L R n a q val tup m T hz Y G (fun i hi=>⟨az5 (tl i hi),by simp only [aA1];exact az5 (Nat.lt_trans (tl i hi) hsz)⟩)
  (fun h' U=>H h' fun b o e=>U b o (az5 (aF8 e)) (by simp only [aA1];exact az5 (Nat.lt_trans (aF8 e) hsz)) e) (items.size - 0) 0 _ (by omega) (aD0 _)
  ⟨⟨_,aF9 _ rfl,rfl,rfl⟩,y.push _⟩ (fun b o _ _ e=>aF7 _ (D _ _ (aF7 _ e))) (fun j _ hj=>?_) ?_ fun h' J X kp=>?_
 ·obtain ⟨o,e,r⟩:=P j hj
  exact ⟨o,aF7 _ (D _ _ (aF7 _ e)),r⟩
 ·rw [S]
  exact ⟨_,#[],0,aF7 _ z,⟨rfl,rfl,rfl⟩,rfl,rfl,fun x Z=>by simp at Z,List.nodup_nil⟩
 ·refine ⟨rfl,h h' J X fun b o e=>kp b o (az5 (aF8 e)) (by simp only [aA1];exact az5 (Nat.lt_trans (aF8 e) hsz)) (aF7 _ (D _ _ (aF7 _ e)))⟩
end
end DictL
namespace L2
open PySem PySem.W PyProof.Rows
def adc (kvs:List (List Key × Addr × V)):List (List Key × V):=kvs.foldl (fun acc kv=>putK acc kv.1 kv.2.2) []
def ap9:List V->Hp->VK->Prop:=fun xs H Q=>∃ (a:Addr) (ts:List Addr) (kvs:List (List Key × Addr × V)),xs=[.ref a]/\H a=some (.lst (ts.map V.ref))/\ts.length=kvs.length/\kvs.length < 40000 /\
 (∀ (i:Nat) t kv,ts[i]?=some t->kvs[i]?=some kv->H t=some (.tup [.ref kv.2.1,kv.2.2])/\H kv.2.1=some (.tup (kv.1.map kV)))/\∀ p,H p=none->Q (.ref p) (upd H p (.dT (adc kvs)))
section
variable {K:Type} [DecidableEq K]
def kfH (key:Nat->K) (ka:Nat->Addr) (val:Nat->Value):Nat->List (K × Addr × Value)
 | 0=>[]
 | i+1=>storedH (kfH key ka val i) (key i) (ka i) (val i)
theorem aon (xs:List (K × Addr × Value)) (k:K) (a:Addr) (v:Value):(storedH xs k a v).length<=xs.length+1:=by
 unfold storedH
 split
 ·rw [ay3];omega
 ·simp
theorem aij (a:Nat->K) (b:Nat->Addr) (val:Nat->Value):∀ i,(kfH a b val i).length<=i
 | 0=>ay6 _
 | i+1=>aA9 (aon _ _ _ _) (Nat.succ_le_succ (aij a b val i))
theorem ana (a:Nat->K) (b:Nat->Addr) (val:Nat->Value):∀ i x,x∈kfH a b val i->∃ j,j < i/\x.1=a j/\x.2.1=b j
 | 0,x,h=>by cases h
 | i+1,x,h=>by
  have c:=ana a b val i
  change x∈storedH (kfH a b val i) (a i) (b i) (val i) at h
  unfold storedH at h
  split at h
  ·obtain ⟨y,g,rfl⟩:=az6.mp h
   obtain ⟨j,hj,f,d⟩:=c y g
   refine ⟨j,by omega,?_⟩
   unfold putAt
   split
   ·exact ⟨f,d⟩
   ·exact ⟨f,d⟩
  ·rcases ay7.mp h with h | h
   ·obtain ⟨j,hj,e⟩:=c x h
    exact ⟨j,by omega,e⟩
   ·have:x=(a i,b i,val i):=by simpa using h
    subst this
    exact ⟨i,by omega,rfl,rfl⟩
end
theorem amb {kvs:List (List Key × Addr × V)} {a:List Key × Addr × V}:adc (kvs ++ [a])=putK (adc kvs) a.1 a.2.2:=by unfold adc;rw [List.foldl_append];rfl
section
variable {X:Cx}
theorem aoo (hc:X.calm=true) (C:X.A.units+64 < cLine):aba X (.type "dict") ap9:=by
 intro pins s σ H xs us Q I r h
 obtain ⟨a,c,kvs,rfl,ha,J,h4,G,q⟩:=h
 obtain ⟨u,rfl,B⟩:=acj r
 cases B
 obtain ⟨hz,its,nl,K,e⟩:=(show ObjOk X.prog X.w H s.heap a (.lst (c.map V.ref)) from I.hok a _ ha)
 have d:its.length=c.length:=by have:=K.length;rw [ay3] at this;omega
 have y:∀ {i},i < c.length->c[i]?=some (c.getD i 0):=fun {i} hi=>by rw [aB2,ay0 hi];rfl
 have z:∀ {i},i < c.length->kvs[i]?=some (kvs.getD i ([],0,.non)):=fun {i} hi=>by rw [aB2,ay0 (show i < kvs.length by omega)];rfl
 obtain ⟨l,g⟩:∃ l:Nat->List Key × Addr × V,l=fun i=>kvs.getD i ([],0,.non):=⟨_,rfl⟩
 have E:∀ i:Nat,∃ p:Value,i < c.length->s.heap.IsTuple (c.getD i 0) #[.ref (l i).2.1,p]/\RelV (l i).2.2 p:=fun i=>by
  by_cases hi:i < c.length
  ·obtain ⟨T,L⟩:=G i _ _ (y hi) (z hi)
   obtain ⟨_,a0,n,p2⟩:=(show ObjOk X.prog X.w H s.heap _ (.tup _) from I.hok _ _ T)
   cases n with
   | cons r1 n =>
    cases n with
    | cons n r3 =>
     cases r3
     cases r1
     exact ⟨_,fun _=>⟨by rw [g];exact p2,by rw [g];exact n⟩⟩
  ·exact ⟨.none,fun h=>absurd h hi⟩
 obtain ⟨f,hf⟩:=Classical.skolem.mp E
 have F:∀ i,i<=c.length->KT H (adc (kvs.take i)) (kfH (fun i=>(l i).1) (fun i=>(l i).2.1) f i):=fun i=>by
  induction i with
  | zero=>intro _;exact .nil
  | succ i ih =>
   intro hi
   have W:kvs.take (i+1)=kvs.take i ++ [l i]:=by rw [aE3,z (by omega),g];rfl
   rw [W,amb]
   refine (ih (by omega)).put _ ?_ (hf i (by omega)).2
   rw [g]
   exact (G i _ _ (y (by omega)) (z (by omega))).2
 refine DictL.call_dict_listH (knd:=tupleKind (abf X.prog X.w)) (items:=its.toArray) (nl:=nl) (tupleKind_room_in1 (by show X.A.units+1+1 < cLine;omega)) (fun i=>(l i).1) (fun i=>(l i).2.1) f (fun i=>c.getD i 0) (kfH (fun i=>(l i).1) (fun i=>(l i).2.1) f) rfl (fun i=>rfl) (fun i hi=>aA9 (aij _ _ _ i) (aA9 hi (by rw [sizeLine_eq];simp;omega))) (ana _ _ _)
  (I.ok.hd hc) e (fun i v x=>?_) (fun j hj=>(hf j (by simpa [d] using hj)).1) (fun h' kp i hi=>?_) fun h' R M kp=>?_
 ·have x:its[i]?=some v:=by simpa using x
  have hi:=(ay1.mp x).1
  have Y:(c.map V.ref)[i]?=some (.ref (c.getD i 0)):=by rw [ay5,y (by omega)];rfl
  obtain ⟨u,C,B⟩:=K.get Y
  rw [x] at C
  cases C
  exact B
 ·have hi:i < c.length:=by simpa [d] using hi
  have L:=(G i _ _ (y hi) (z hi)).2
  rw [g]
  exact ag5 (I.hok.kept kp) L
 ·have hsz:its.toArray.size=c.length:=by simp [d]
  rw [hsz] at M
  have D:=F c.length (ay6 _)
  rw [J,aD8,← J] at D
  have m:=I.hok.fresh (a:=s.heap.objs.size) (ay6 _)
  refine ⟨.ref s.heap.objs.size,_,I.laid (t':=R) (o:=.dT (adc kvs)) kp (ay6 _) ?_,rfl,q _ m⟩
  obtain ⟨S,es,P,O,U,b2,Z,_,b5⟩:=M
  refine ⟨?_,beq_eq_false_iff_ne.mpr (Ne.symm (az5 I.big)),_,D.keeps fun b ys N=>?_,S,es,P,O,U,b2,Z,b5⟩
  ·have:=D.length
   rw [this,sizeLine_eq]
   exact aA9 (aij _ _ _ _) (by omega)
  ·rw [aad (aas N m)]
   exact N
end
end L2
namespace VL
open PySem PySem.Spec L2
def addC (acc:List (List Key × PyData)) (e:Int × Int):List (List Key × PyData):=putD acc [Sum.inl e.1,Sum.inl e.2] (.int 1)
theorem alq {G:Hp}:∀ {es:List (Int × Int)} {kvs:List (List Key × V)} {ps:List (List Key × PyData)},RpT G kvs ps->∀ (as:List Addr),as.length=es.length ->
  RpT G ((es.zip as).foldl (fun b x=>putK b [Sum.inl x.1.1,Sum.inl x.1.2] (.int 1)) kvs) (es.foldl addC ps)
 | [],_,_,h,as,_=>by simpa using h
 | e :: es,kvs,ps,h,[],hl=>by simp at hl
 | e :: es,kvs,ps,h,a :: as,hl=>by
  rw [List.zip_cons_cons,List.foldl_cons,List.foldl_cons]
  exact alq (h.put (.int 1)) as (by simpa using hl)
section
variable {B:Bs} {env:En} {QO:Sl->En->Prop}
theorem aqa {src:List (Option Nat)} {wi:TI} (h:EvI B wi env fun ds P=>∃ es:List (Int × Int),ds=es.map prD/\es.length<=30000/\QO (.own (OT (es.foldl addC []))) P) :
  EvO B (tCB ap9 (abc (tLC (none :: src) wi (ab0 0) tYes (tTup (abc (tVar 0) (abc (tC (V.int 1)) tNil)))) tNil)) env QO:=fun σ G H F Q I k=>by
 refine h σ G H F _ I fun J G1 H1 F1 ds P I1 g1 it ⟨es,ed,a3,q⟩ f j=>?_
 subst ed
 have hL:(es.map prD).length=es.length:=ay3 ..
 let W:Nat->List V->St->Hp->Prop:=fun n ys σI H=>∃ (A as:List Addr) (s:Hp),ys=A.map V.ref/\A.length=n/\as.length=n/\0 < σI.length /\
  (∀ (i:Nat) t b p,A[i]?=some t->as[i]?=some b->es[i]?=some p->H t=some (.tup [.ref b,.int 1])/\s b=some (.tup [.int p.1,.int p.2]))/\(∀ t∈A,t ≠ f) /\
  H f=some (.lst ys)/\s f=none/\Same G1 s/\Same s H/\Same H1 H/\(∀ a o,s a=some o->G1 a=some o\/H1 a=none)/\FT s H
 refine ⟨fun n m ys σI H=>m=es.length - n/\n<=es.length/\W n ys σI H,⟨es.length,by simp,aD0 _,[],[],G1,rfl,rfl,rfl,by simp [pick],fun i t b p h=>by simp at h,fun t N=>by simp at N,aaf,I1.no_g j,Same.refl _,I1.gh.trans (aa3 j),aa3 j,fun a o e => .inl e,fun a Z e=>?_⟩,?_⟩
 ·by_cases z:a=f
  ·subst z;rw [aaf] at e;cases e
  ·rw [aad z] at e;exact I1.ft a Z e
 rintro n m ys σI R ⟨rfl,hn,A,as,s,rfl,hl,D,Y,C,T,l,ga,O,r,L,U,M⟩
 refine ⟨l,?_⟩
 by_cases hlt:n < es.length
 ·refine .inr ⟨it.go n s R O r (by omega),fun S X H'=>W (n+1) S X H',fun S X H' hw=>⟨es.length - (n+1),by omega,rfl,hlt,hw⟩,fun x H3 y=>?_⟩
  obtain ⟨p,hp⟩:∃ p,es[n]?=some p:=⟨_,ay0 hlt⟩
  obtain ⟨G3,o⟩:=it.yld n s R x H3 (prD p) O r M (by rw [ay5,hp];rfl) y
  have rx:Rp G3 x (.tuple [.int p.1,.int p.2]):=o.ok.1
  cases rx with
  | @tup b vs ds' hb rs =>
  cases rs with
  | cons r1 rs =>
  cases rs with
  | cons r2 rs =>
  cases rs
  cases r1
  cases r2
  refine af2 (ag8 (abp (avy (abt (ab4 (v:=.ref b) (by rw [aB1,aC5 rfl,aC5 Y]) (abt (go_c (acs ⟨show (2:Nat)<=sizeLine by rw [sizeLine_eq];decide,fun t N=>?_⟩))))))))
  have t2:R t=none:=ab5 o.hh N
  have ta:t ≠ f:=(aas (o.hh _ _ l) N).symm
  have old:∀ a u,R a=some u->a ≠ f->upd (upd H3 t (.tup [.ref b,.int 1])) f (.lst (A.map V.ref ++ [.ref t])) a=some u:=fun a u e aa=>by
   have e3:=o.hh _ _ e
   rw [aad aa,aad (aas e3 N)]
   exact e3
  refine ⟨by rw [aad ta.symm];exact o.hh _ _ l,by rw [ay3,hl];exact big (by omega),A ++ [t],as ++ [b],G3,by simp,by simp [hl],by simp [D],by rw [List.length_set];exact Y,fun i c d p' g hd K=>?_,fun c g=>?_,aaf,?_,O.trans o.gg,fun a u e=>?_,fun a u e=>?_,fun a u e=>?_,fun a Z e=>?_⟩
  ·by_cases hi:i < n
   ·rw [aA2 (by omega)] at g hd
    obtain ⟨q1,q2⟩:=C i c d p' g hd K
    exact ⟨old c _ q1 (T c (ay2 g)),o.gg _ _ q2⟩
   ·have a0:i=n:=by
     have:=(ay1.mp g).1
     simp at this
     omega
    subst a0
    rw [aA7 (by omega),hl,Nat.sub_self] at g
    rw [aA7 (by omega),D,Nat.sub_self] at hd
    rw [hp] at K
    cases g
    cases hd
    cases K
    exact ⟨by rw [aad ta,aaf],hb⟩
  ·rcases ay7.mp g with g | g
   ·exact T c g
   ·have e:=aA1.mp g
    subst e
    exact ta
  ·cases e:G3 f with
   | none=>rfl
   | some w =>
    rcases o.gn f w e with e | e
    ·rw [ga] at e;cases e
    ·rw [l] at e;cases e
  ·have a2:a ≠ t:=aas (o.gh a u e) N
   have aa:a ≠ f:=by
    rintro rfl
    rcases o.gn _ u e with e | e
    ·rw [ga] at e;cases e
    ·rw [l] at e;cases e
   rw [aad aa,aad a2];exact o.gh a u e
  ·exact old a u (L a u e) (aas e j)
  ·rcases o.gn a u e with e | e
   ·exact U a u e
   ·exact .inr (ab5 L e)
  ·by_cases z:a=f
   ·subst z;rw [aaf] at e;cases e
   ·rw [aad z] at e
    by_cases y:a=t
    ·subst y
     rw [aaf] at e
     exfalso
     have e:=HO.tup.inj (aA5 e)
     match Z,e with
     | [],e=>simp at e
     | .inl _ :: _,e=>simp [kV] at e
     | .inr _ :: _,e=>simp [kV] at e
    ·rw [aad y] at e;exact o.ft M a Z e
 ·have e:n=es.length:=by omega
  subst e
  refine .inl ⟨it.stop _ s R O r hL.symm,?_⟩
  have I2:=I1.grow O r L U M
  obtain ⟨kvs,hk⟩:∃ kvs:List (List Key × Addr × V),kvs=(es.zip as).map fun x=>([Sum.inl x.1.1,Sum.inl x.1.2],x.2,V.int 1):=⟨_,rfl⟩
  have a4:kvs.length=es.length:=by rw [hk,ay3,List.length_zip];omega
  have a1:adc kvs=(es.zip as).foldl (fun f x=>putK f [Sum.inl x.1.1,Sum.inl x.1.2] (.int 1)) []:=by
   unfold adc
   rw [hk,List.foldl_map]
  refine acs ⟨f,A,kvs,rfl,l,by omega,by omega,fun i t kv g E=>?_,fun p hp=>?_⟩
  ·rw [hk,ay5] at E
   have hi:=(ay1.mp g).1
   have P:es[i]?=some es[i]:=ay0 (by omega)
   have e2:as[i]?=some as[i]:=ay0 (by omega)
   have e3:(es.zip as)[i]?=some (es[i],as[i]):=by
    rw [ay0 (by rw [List.length_zip];omega)]
    simp
   rw [e3] at E
   cases E
   obtain ⟨q1,q2⟩:=C i t _ _ g e2 P
   exact ⟨q1,r _ _ q2⟩
  ·have o:=Out.newDT (xs:=adc kvs) (ds:=es.foldl addC []) I2.gh hp (by rw [a1];exact alq .nil as D)
   exact k _ _ _ F1 _ _ P (I2.out o).1 ((g1.trans O).trans o.gg) (I2.out o).2 q
end
section
variable {B:Bs} {env:En} {QO:Sl->En->Prop} {Q':PyData->En->Prop} {K:Frag} {i:Nat}
end
section
variable {B:Bs} {env:En} {QO:Sl->En->Prop} {Q':PyData->En->Prop} {K:Frag} {i:Nat}
end
end VL
namespace L2
open PySem PySem.W PyProof.Rows
section
variable {X:Cx}
end
end L2
namespace VL
open PySem PySem.Spec L2
section
variable {B:Bs} {env:En} {Q':PyData->En->Prop} {R:Sl->Prop} {td:TE}
end
end VL
namespace L2
open PySem PySem.W PyProof.Rows
def atd:R2:=fun x y H Q=>∃ b c,x=.bl b/\y=.bl c/\Q (.bl (!decide (b=c))) H
section
variable {X:Cx}
theorem au4:OpR X (compareOp .IsNot) atd:=by
 intro pins s σ H x y v u Q I d a h
 obtain ⟨b,c,rfl,rfl,q⟩:=h
 cases d
 cases a
 refine wpAny_isNot_plain rfl (aay I q ?_)
 cases b <;> cases c <;> rfl
end
end L2
namespace VL
open PySem PySem.Spec L2
theorem asd {R:Sl->Prop} {b c:Bool} (h:R (.st (.bool (!decide (b=c))))):Op2 atd (.bool b) (.bool c) R:=fun G H g f Q gh a d k=>by
 cases a
 cases d
 exact ⟨b,c,rfl,rfl,k _ _ _ _ _ (Out.refl gh (.bl _)) h⟩
end VL
namespace L2
open PySem PySem.Spec PyProof.Rows PySem.W
def LamH (P:Addr) (H H':Hp):Prop:=H'=H\/∃ c,H c=none/\H'=upd H c (.own P)
theorem LamH.same {P:Addr} {H H':Hp} (l:LamH P H H') {a:Addr} {o:HO} (e:H a=some o):H' a=some o:=by
 rcases l with rfl | ⟨c,n,rfl⟩
 ·exact e
 ·rw [aad (aas e n)];exact e
section
variable {X:Cx} {pins:List (Addr × Obj)} {σ:St} {H:Hp} {s:Shared} {c P:Addr}
variable {p pos kpos lpos p1 p2 p3:Pos} {e:Expr} {t:TA} {params:Arguments} {scope:Scope} {x:Str} {j:Nat} {k:Nat}
end
def LamAt (K:Frag) (mg:Str->Option Value):Prop:=∃ f c P,mg lamN=some (.ref f)/\tabIn K lamN=some (c,P)/\codeHdIn K c P=true/\∀ oc od fd sl,K.lookup f=some ⟨oc,od,.func fd,sl⟩->fd.code=.ref c
theorem LamAt.at {K:Frag} {mg:Str->Option Value} (L:LamAt K mg) {f:Addr} {fd:FuncData} (hm:mg lamN=some (.ref f)) (a:∃ oc od sl,K.lookup f=some ⟨oc,od,.func fd,sl⟩):∃ c P,tabIn K lamN=some (c,P)/\codeHdIn K c P=true/\fd.code=.ref c:=by
 obtain ⟨i,c,P,b,h,g,d⟩:=L
 rw [hm] at b;cases b
 obtain ⟨oc,od,sl,a⟩:=a
 exact ⟨c,P,h,g,d _ _ _ _ a⟩
theorem tabs0_none {K:Frag} {h:Heap} (e:tabIn K lamN=none):aeu K h:=fun c P q=>by rw [e] at q;cases q
end L2
namespace L2
open PySem PySem.W
theorem tab_no {K:Frag} (a:nsIn K mainGlobals lamN=some none):tabIn K lamN=none:=by
 unfold tabIn
 rw [a]
end L2
namespace G
open PySem L2 VL
def top (i:Nat):Stmt:=PySem.Challenge.pw_fewties_k01_what_is_a_web.main.body.getD i (.Pass ⟨0,0,0,0⟩)
abbrev s_is_whole:Stmt:=top 2
abbrev s_is_between:Stmt:=top 3
abbrev s_is_place:Stmt:=top 4
abbrev s_is_tie:Stmt:=top 5
abbrev s_are_ties:Stmt:=top 6
abbrev s_is_rising:Stmt:=top 7
abbrev s_is_web:Stmt:=top 8
abbrev s_law_deck:Stmt:=top 10
abbrev s_law_draw:Stmt:=top 11
abbrev s_law_order:Stmt:=top 12
abbrev s_law_crowds:Stmt:=top 13
abbrev s_law_web:Stmt:=top 14
abbrev s_law_deep:Stmt:=top 15
abbrev s_law_is:Stmt:=top 16
abbrev s_law_good:Stmt:=top 17
abbrev s_law_changed:Stmt:=top 18
abbrev s_law_right:Stmt:=top 19
abbrev s_law:Stmt:=top 20
structure Txt (K:Frag) (mg:Str->Option Value):Prop where
 b_all:mg "all" = none
 b_range:mg "range" = none
 b_list:mg "list" = none
 b_isinstance:mg "isinstance" = none
 b_tuple:mg "tuple" = none
 b_int:mg "int" = none
 b_max:mg "max" = none
 b_sum:mg "sum" = none
 b_sorted:mg "sorted" = none
 b_len:mg "len" = none
 b_bool:mg "bool" = none
 b_min:mg "min" = none
 b_dict:mg "dict" = none
 v_MOST_PLACES:∃ t,mg "MOST_PLACES" = some (.int 60 t)
 d_is_whole:∃ f fd,DefAt K mg "is_whole" s_is_whole ["thing"] f fd
 d_is_between:∃ f fd,DefAt K mg "is_between" s_is_between ["least","most","thing"] f fd
 d_is_place:∃ f fd,DefAt K mg "is_place" s_is_place ["n","thing"] f fd
 d_is_tie:∃ f fd,DefAt K mg "is_tie" s_is_tie ["n","thing"] f fd
 d_are_ties:∃ f fd,DefAt K mg "are_ties" s_are_ties ["n","thing"] f fd
 d_is_rising:∃ f fd,DefAt K mg "is_rising" s_is_rising ["things"] f fd
 d_is_web:∃ f fd,DefAt K mg "is_web" s_is_web ["thing"] f fd
 d_law_deck:∃ f fd,DefAt K mg "_law_deck" s_law_deck ["script"] f fd
 d_law_draw:∃ f fd,DefAt K mg "_law_draw" s_law_draw ["deck","many"] f fd
 d_law_order:∃ f fd,DefAt K mg "_law_order" s_law_order ["deck","n"] f fd
 d_law_crowds:∃ f fd,DefAt K mg "_law_crowds" s_law_crowds ["deck"] f fd
 d_law_web:∃ f fd,DefAt K mg "_law_web" s_law_web ["deck"] f fd
 d_law_deep:∃ f fd,DefAt K mg "_law_deep" s_law_deep ["thing"] f fd
 d_law_is:∃ f fd,DefAt K mg "_law_is" s_law_is ["thing","low","high"] f fd
 d_law_good:∃ f fd,DefAt K mg "_law_good" s_law_good ["thing"] f fd
 d_law_changed:∃ f fd,DefAt K mg "_law_changed" s_law_changed ["deck","web"] f fd
 d_law_right:∃ f fd,DefAt K mg "_law_right" s_law_right ["thing"] f fd
 d_law:∃ f fd,DefAt K mg "law" s_law ["script"] f fd
local macro_rules | `(tactic| row_cond sc) => `(tactic| exact ⟨rfl,rfl,rfl,by decide +kernel,rfl,by decide +kernel,by decide +kernel⟩)
local macro_rules | `(tactic| row_cond gn) => `(tactic| first | (with_reducible first | refine evg_n0 ?_ | refine awu ?_ | refine awv ?_ | refine aww ?_ | refine awx ?_ | refine awy ?_ | refine awz ?_ | refine aw0 ?_ | refine aw1 ?_ | refine aw2 ?_ | refine evg_n10 ?_ | refine evg_n11 ?_ | refine aup ?_ | refine evg_n13 ?_ | refine evg_n14 ?_ | refine evg_n15 ?_ | refine evg_n16 ?_ | refine evg_n17 ?_ | refine evg_n18 ?_ | refine evg_n19 ?_ | refine evg_n20 ?_ | refine evg_n21 ?_ | refine evg_n22 ?_ | refine evg_n23 ?_ | refine evg_n24 ?_ | refine evg_n25 ?_) | ((with_reducible refine abi ?_); dsimp only [List.set_cons_zero, List.set_cons_succ]))
local macro_rules | `(tactic| row_cond dc) => `(tactic| first | assumption | omega | (with_reducible rfl))
local macro_rules | `(tactic| row_cond ar) => `(tactic| first | assumption | (refine ⟨?_, ?_, ?_⟩ <;> decide) | (constructor <;> first | assumption | omega) | (show (0 : Int) < _; first | assumption | omega) | (left; constructor <;> first | assumption | omega) | (right; constructor <;> first | assumption | omega))
local macro_rules | `(tactic| row_cond hs) => `(tactic| first | exact Or.inl rfl | exact Or.inr rfl)
local macro_rules | `(tactic| row_cond fz) => `(tactic| first | exact ahg | exact apm | exact apn | exact ap3 | exact frz_OLL | assumption)
local macro_rules | `(tactic| row_cond le) => `(tactic| first | exact Nat.le_of_ble_eq_true rfl | assumption | omega | (simp only [List.length_append, List.length_map, List.length_cons, List.length_nil, List.length_set, List.length_replicate]; omega))
local macro_rules | `(tactic| row_cond ia) => `(tactic| first | assumption | exact at0 | exact at1 | exact at2 | exact rfl)
local macro_rules | `(tactic| row_cond ty) => `(tactic| first | exact aws | exact am3 | exact agx | exact am4 | exact ty_str | exact ty_dict)
local macro_rules | `(tactic| row_cond sEvS) => `(tactic| first | (with_reducible refine alc (fun c_ hc_ => ?_)) | (with_reducible first | refine auf ?_ | refine awk ?_ | refine alb ?_) | (with_reducible first | refine auh ?_ | refine aui ?_ | refine ard ?_) | ((with_reducible refine' aoj ?h0 ?_); (case h0 => exact rfl)) | ((with_reducible refine' amw ?h0 ?_); (case h0 => assumption)))
local macro_rules | `(tactic| row_cond sEvG) => `(tactic| first | row_cond gn | ((with_reducible refine' aug ?h0 ?_); (case h0 => exact rfl)) | ((with_reducible refine' arz ?h0 ?_); (case h0 => row_cond hs)) | (with_reducible refine evg_st ?_))
local macro_rules | `(tactic| row_cond sEvGs) => `(tactic| first | (with_reducible first | refine app ?_ | refine arf ?_))
local macro_rules | `(tactic| row_cond sEv) => `(tactic| first | ((with_reducible refine' awc ?h0 ?_); (case h0 => exact rfl)) | (with_reducible refine awd ?_) | ((with_reducible refine' awq ?h0 ?_); (case h0 => row_cond hs)) | (with_reducible refine as6 ?_) | ((with_reducible refine' awr ?h0 ?_); (case h0 => row_cond ty)) | ((with_reducible refine' ai5 ?h0 ?_); (case h0 => exact rfl)) | ((with_reducible refine' apu ?h0 ?_); (case h0 => exact rfl)) | (with_reducible refine arl ?_) | ((with_reducible refine' at8 ?h0 ?h1 ?_); (case h0 => exact rfl); (case h1 => row_cond fz); dsimp only [List.set_cons_zero, List.set_cons_succ]) | (with_reducible first | refine awh ?_ | refine awi ?_ | refine axr ?_ | refine awe ?_ | refine awf ?_ | refine axs ?_ | refine auc ?_ | refine aud ?_ | refine arc ?_ | refine aa8 (te:=tCB (ahf _) _) ?_ | refine aa8 (te:=tCB agb _) ?_ | refine axt ?_) | ((with_reducible refine' aoc ?h0 ?_); (case h0 => row_cond hs)) | ((with_reducible refine' aod ?h0 ?_); (case h0 => row_cond hs)) | (with_reducible refine ar4 ?_) | ((with_reducible refine' axy ?h0 ?_); (case h0 => decide)) | (with_reducible first | refine ary ?_))
local macro_rules | `(tactic| row_cond sEvO) => `(tactic| first | (with_reducible first | refine ahh (r:=rCat) ?_ | refine abd (te:=tOp _ _ _) ?_ | refine abd (te:=tVar _) ?_ | refine abd (te:=tC _) ?_ | refine amv ?_) | ((with_reducible refine' ar6 ?h0 ?_); (case h0 => exact rfl)) | (with_reducible refine amu ?_) | ((with_reducible refine' ahl ?h0 ?_); (case h0 => exact rfl)) | ((with_reducible refine' ahm ?h0 ?_); (case h0 => exact rfl)) | ((with_reducible refine' apr ?h0 ?h1 ?_); (case h0 => exact rfl); (case h1 => assumption)) | (with_reducible first | refine aiz ?_) | ((with_reducible refine' aps ?h0 ?_); (case h0 => decide)) | (with_reducible first | refine ai4 ?_ | refine adt ?_ | refine ap0 ?_ | refine ai7 ?_ | refine apo (r:=alf _) ?_ | refine abd (te:=tUn _ _) ?_ | refine abd (te:=ajv _ _) ?_ | refine abd (te:=ang _) ?_ | refine abd (te:=akd _ _ _ _ _) ?_ | refine abd (te:=tCB (rLen _) _) ?_ | refine abd (te:=tCB (rIsi _) _) ?_ | refine abd (te:=tCB ajz _) ?_ | refine abd (te:=tCB aj0 _) ?_ | refine abd (te:=tCB anv _) ?_ | refine abd (te:=tCB (aj2 _) _) ?_ | refine abd (te:=tCB (aj3 _) _) ?_ | refine abd (te:=tCB (an7 _) _) ?_ | refine abd (te:=tCB (rAll _) _) ?_ | refine abd (te:=tBM _ _ _ _ _) ?_))
local macro_rules | `(tactic| row_cond sEvT) => `(tactic| first | (with_reducible first | refine ala ?_ | refine axu ?_ | refine aua ?_ | refine awj ?_ | refine aub ?_ | refine aih ?_) | (with_reducible refine evt_tru ?_))
local macro_rules | `(tactic| row_cond sEvA) => `(tactic| first | (with_reducible first | refine ak9 ?_ | refine at9 ?_))
local macro_rules | `(tactic| row_cond sEvI) => `(tactic| first | (with_reducible first | refine ari ?_ | refine arj ?_ | refine evi_down ?_ | refine arh ?_) | (with_reducible refine evi_tup ?_))
local macro_rules | `(tactic| row_cond sEvOp) => `(tactic| first | (with_reducible first | refine arw ?_ | refine arx ?_))
local macro_rules | `(tactic| row_cond sOp2) => `(tactic| first | (with_reducible first | refine auj ?_ | refine auk ?_) | ((with_reducible refine' awo ?h0 ?_); (case h0 => row_cond ar)) | (with_reducible first | refine aul ?_ | refine aum ?_) | ((with_reducible refine' am1 ?h0 ?_); (case h0 => row_cond ia)) | ((with_reducible refine' auo ?h0 ?_); (case h0 => row_cond ia)) | ((with_reducible refine' ab3 ?h0 ?_); (case h0 => row_cond le)))
local macro_rules | `(tactic| row_cond sOp1) => `(tactic| first | (with_reducible refine awp ?_))
local macro_rules | `(tactic| row_cond sOpA) => `(tactic| first | (with_reducible first | refine arp ?_ | refine arq ?_ | refine ars ?_ | refine art ?_ | refine ar3 ?_))
local macro_rules | `(tactic| row_cond sFQ) => `(tactic| first | (with_reducible first | refine ael ?_ | refine abm ?_ | refine axp ?_ | refine as9 ?_))
local macro_rules | `(tactic| row_cond sRngA1) => `(tactic| first | ((with_reducible refine' awm ?h0 ?h1 ?_); (case h0 => omega); (case h1 => omega)))
local macro_rules | `(tactic| row_cond sRngA2) => `(tactic| first | ((with_reducible refine' awn ?h0 ?_); (case h0 => omega)))
local macro_rules | `(tactic| row_cond sRest) => `(tactic| first | (with_reducible first | refine x_bl ?_ | refine x_st ?_ | refine awl ?_ | refine axv ?_) | ((with_reducible refine' axw ?h0 ?_); (case h0 => row_cond le)) | (with_reducible first | refine abp ?_ | refine acg ?_ | refine adi ?_ | refine adj ?_) | ((with_reducible refine' af5 ?h0 ?_); (case h0 => row_cond dc)) | ((with_reducible refine' ah3 ?h0 ?_); (case h0 => row_cond dc)) | ((with_reducible refine' ara ?h0 ?_); (case h0 => row_cond dc)) | ((with_reducible refine' arb ?h0 ?_); (case h0 => row_cond dc)) | ((with_reducible refine' axx ?h0 ?_); (case h0 => first | exact rfl | row_cond hs)) | ((with_reducible refine' x_rt ?h0 ?_); (case h0 => exact rfl)) | ((with_reducible refine' awt ?h0 ?h1 ?_); (case h0 => exact rfl); (case h1 => row_cond le); dsimp only [List.set_cons_zero, List.set_cons_succ]) | ((with_reducible refine' x_dT ?h0 ?h1 ?_); (case h0 => exact rfl); (case h1 => row_cond le); dsimp only [List.set_cons_zero, List.set_cons_succ]) | ((with_reducible refine' aus ?h0 ?h1 ?_); (case h0 => omega); (case h1 => omega)) | ((with_reducible refine' x_ow ?h0 ?_); (case h0 => exact rfl); dsimp only [List.set_cons_zero, List.set_cons_succ]))
local macro_rules | `(tactic| row_cond st) => `(tactic| first | ((with_reducible refine ax0 ?_); row_cond sEvS) | ((with_reducible refine ax1 ?_); row_cond sEvG) | ((with_reducible refine aw4 ?_); row_cond sEvGs) | ((with_reducible refine g_Ev ?_); row_cond sEv) | ((with_reducible refine ax2 ?_); row_cond sEvO) | ((with_reducible refine ax3 ?_); row_cond sEvT) | ((with_reducible refine ax4 ?_); row_cond sEvA) | ((with_reducible refine ax5 ?_); row_cond sEvI) | ((with_reducible refine aw5 ?_); row_cond sEvOp) | ((with_reducible refine ax6 ?_); row_cond sOp2) | ((with_reducible refine ax7 ?_); row_cond sOp1) | ((with_reducible refine ax8 ?_); row_cond sOpA) | ((with_reducible refine g_FQ ?_); row_cond sFQ) | ((with_reducible refine auw ?_); row_cond sRngA1) | ((with_reducible refine aux ?_); row_cond sRngA2) | row_cond sRest)
local macro_rules | `(tactic| row_cond go) => `(tactic| repeat row_cond st)
local macro_rules | `(tactic| row_cond hnx) => `(tactic| first | assumption | (apply Ne.symm; assumption) | exact aas (by assumption) (by assumption) | exact (aas (by assumption) (by assumption)).symm)
local macro_rules | `(tactic| row_cond hhp) => `(tactic| first | assumption | exact aaf | (rw [aad (by row_cond hnx)]; row_cond hhp) | ((refine' Same.at ?ss ?hh); (case ss => assumption); (case hh => row_cond hhp)))
local macro_rules | `(tactic| row_cond hix) => `(tactic| first | assumption | exact at0 | exact at1 | exact at2)
local macro_rules | `(tactic| row_cond hst) => `(tactic| first | (with_reducible first | refine avu ?_ | refine avv ?_ | refine af2 ?_ | refine anx ?_ | refine go_c ?_ | refine axm ?_ | refine go_U ?_ | refine apd ?_ | refine atr ?_ | refine af3 ?_ | refine avw ?_ | refine avx ?_ | refine akp ?_ | refine ato ?_ | refine atp ?_ | refine af4 ?_ | refine abt ?_ | refine acs ?_ | refine ah2 ?_ | refine amm ?_ | refine amn ?_ | refine att ?_ | refine atq ?_ | refine at5 ?_ | refine av3 ?_ | refine av5 ?_ | refine an0 ?_ | refine aqy ?_ | refine ag8 ?_ | refine abp ?_ | refine acg ?_) | ((with_reducible refine' ab4 ?hv ?_); (case hv => exact rfl)) | ((with_reducible refine' agr ?ha ?hv ?_); (case ha => row_cond hhp); (case hv => row_cond hix)) | ((with_reducible refine go_I ?hc ?_); (case hc => row_cond ar)) | ((with_reducible refine' aml ?ha ?_); (case ha => row_cond hhp)) | ((with_reducible refine' amk ?ha ?hj ?_); (case ha => row_cond hhp); (case hj => first | exact ixN0 | exact ixN1 | exact ixN2)) | ((with_reducible refine' av9 ?ha ?_); (case ha => row_cond hhp)) | ((with_reducible refine' aiu ?ha ?hl ?_); (case ha => row_cond hhp); (case hl => exact aeg (by simp; omega))) | ((with_reducible refine' af5 ?hc ?_); (case hc => row_cond dc)) | ((with_reducible refine' ah3 ?hc ?_); (case hc => row_cond dc)) | dsimp only [List.set_cons_zero, List.set_cons_succ])
local macro_rules | `(tactic| row_cond hgo) => `(tactic| repeat row_cond hst)
def isInt:PyData->Bool
 | .int _=>true
 | _=>false
def btwD (a b:Int):PyData->Bool
 | .int i=>decide (a<=i/\i<=b)
 | _=>false
def au5:VP:=fun ss Q=>∃ d,ss=[.st d]/\Q (.st (.bool (isInt d)))
def aqb:VP:=fun ss Q=>∃ (a b:Int) (d:PyData),ss=[.st (.int a),.st (.int b),.st d]/\Q (.st (.bool (btwD a b d)))
def au6:VP:=fun ss Q=>∃ (n:Int) (d:PyData),ss=[.st (.int n),.st d]/\Q (.st (.bool (btwD 0 (n - 1) d)))
section
variable {P:Program} {w:World} {K:Frag} {mg:Str->Option Value} {base:Heap}
theorem sc_is_whole:FnScope ["thing"] ["thing"] (aar s_is_whole):=by row_cond sc
theorem alr (T:Txt K mg):Can P w K mg base "is_whole" 1 ["thing"] (spP K (au5)):=by
 obtain ⟨f,fd,D⟩:=T.d_is_whole
 refine D.can (D.fn.ok sc_is_whole (fun vs H Q E h=>lenP h fun ss c q=>by obtain ⟨d,rfl,k⟩:=q;rfl) (fun cdv A outer s H vs Q E j h=>?_))
 have nd:=sc_is_whole.nd
 refine ⟨_,(aam (aat (acl (aai abh (by rfl) T.b_isinstance aa0 (aaa (pv 0) (aaa (abw (v:=.ty "int") rfl T.b_int akq rfl) aab))) (ad3 (aox (aai abh (by rfl) T.b_isinstance aa0 (aaa (pv 0) (aaa (abw (v:=.ty "bool") rfl T.b_bool ah4 rfl) aab)))))))),?_⟩
 refine adp h fun ss c q B g=>?_
 refine exS1 ss q fun d a=>?_
 have k:=a
 clear a q
 show EvS B _ _ [some (.st d)]
 row_cond go
 cases d with
 | int i => refine abp ?_; row_cond go; exact k
 | bool b => refine abp ?_; row_cond go; exact k
 | _=>refine acg ?_;exact k
theorem sc_is_between:FnScope ["least","most","thing"] ["least","most","thing"] (aar s_is_between):=by row_cond sc
theorem ae1 (T:Txt K mg):Can P w K mg base "is_between" 2 ["least","most","thing"] (spP K (aqb)):=by
 obtain ⟨f,fd,D⟩:=T.d_is_between
 refine D.can (D.fn.ok sc_is_between (fun vs H Q E h=>lenP h fun ss j q=>by obtain ⟨a,b,d,rfl,k⟩:=q;rfl) (fun cdv A outer s H vs Q E l h=>?_))
 have nd:=sc_is_between.nd
 refine ⟨_,(aam (aat (acl (aae (alr T) l (aaa (pv 2) aab)) (ad3 (ake ajw ajw (pv 0) (pv 2) (pv 1)))))),?_⟩
 refine adp h fun ss j q B m=>?_
 refine exS3 ss q fun a b d c=>?_
 have k:=c
 clear c q
 show EvS B _ _ [some (.st (.int a)),some (.st (.int b)),some (.st d)]
 row_cond go
 refine ⟨d,rfl,?_⟩
 row_cond go
 cases d with
 | int i =>
  refine abp ?_
  row_cond go
  refine abo (fun g=>?_) (fun g=>?_)
  ·row_cond go
   have e:decide (i<=b)=btwD a b (.int i):=by
    show _=decide (a<=i/\i<=b)
    rw [aE6];simp [g]
   rw [e];exact k
  ·have e:false=btwD a b (.int i):=by
    show _=decide (a<=i/\i<=b)
    exact (aB4 (fun z=>g z.1)).symm
   rw [e];exact k
 | _=>exact acg k
theorem sc_is_place:FnScope ["n","thing"] ["n","thing"] (aar s_is_place):=by row_cond sc
theorem aft (T:Txt K mg):Can P w K mg base "is_place" 3 ["n","thing"] (spP K (au6)):=by
 obtain ⟨f,fd,D⟩:=T.d_is_place
 refine D.can (D.fn.ok sc_is_place (fun vs H Q E h=>lenP h fun ss b q=>by obtain ⟨n,d,rfl,k⟩:=q;rfl) (fun cdv A outer s H vs Q E c h=>?_))
 have nd:=sc_is_place.nd
 refine ⟨_,(aam (aat (aae (ae1 T) c (aaa aac (aaa (aak acr (pv 0) aac) (aaa (pv 1) aab)))))),?_⟩
 refine adp h fun ss b q B g=>?_
 refine exS2 ss q fun n d a=>?_
 have k:=a
 clear a q
 show EvS B _ _ [some (.st (.int n)),some (.st d)]
 row_cond go
 exact ⟨_,_,_,rfl,k⟩
end
def abq (n:Int):PyData->Bool
 | .tuple [.int a,.int b]=>decide (0<=a/\a<=n - 1) && decide (0<=b/\b<=n - 1) && decide (a < b)
 | _=>false
def aea (n:Int):PyData->Bool
 | .list ds=>ds.all (abq n)
 | _=>false
def ax9:VP:=fun ss Q=>∃ (n:Int) (d:PyData),ss=[.st (.int n),.st d]/\Q (.st (.bool (abq n d)))
def axd:VP:=fun ss Q=>∃ (n:Int) (d:PyData),ss=[.st (.int n),.st d]/\(∀ ds,d=.list ds->ds.length<=100000)/\Q (.st (.bool (aea n d)))
def ase:VP:=fun ss Q=>∃ (ps:List (Int × Int)),ss=[.st (.list (ps.map prD))]/\ps.length<=100000/\∀ b:Bool,(b=true ↔ Rise ps)->Q (.st (.bool b))
section
variable {P:Program} {w:World} {K:Frag} {mg:Str->Option Value} {base:Heap}
theorem sc_is_tie:FnScope ["n","thing","a","b"] ["n","thing"] (aar s_is_tie):=by row_cond sc
theorem aop (T:Txt K mg):Can P w K mg base "is_tie" 4 ["n","thing"] (spP K (ax9)):=by
 obtain ⟨f,fd,D⟩:=T.d_is_tie
 refine D.can (D.fn.ok sc_is_tie (fun vs H Q E h=>lenP h fun ss m q=>by obtain ⟨n,d,rfl,k⟩:=q;rfl) (fun cdv A outer s H vs Q E l h=>?_))
 have nd:=sc_is_tie.nd
 refine ⟨_,(aag (aa9 (PW.pt (aee (acq (ace (aai abh (by rfl) T.b_isinstance aa0 (aaa (pv 1) (aaa (abw (v:=.ty "tuple") rfl T.b_tuple acw rfl) aab))))) (adq (aa2 ag3 (aai abn (by rfl) T.b_len acf (aaa (pv 1) aab)) aac (aa1 _)))))
   (aam (aat abr))
   aaz)
  (aag (ac5 (pv 1) (ag2 rfl (acm (aax (i:=2) nd rfl (Or.inl rfl)) (acm (aax (i:=3) nd rfl (Or.inl rfl)) afx))))
  (aam (aat (acl (aae (aft T) l (aaa (pv 0) (aaa (pv 2) aab))) (acl (aae (aft T) l (aaa (pv 0) (aaa (pv 3) aab))) (ad3 (aer ano (pv 2) (pv 3) (aa1 _))))))))),?_⟩
 refine adp h fun ss m q B o=>?_
 refine exS2 ss q fun n d g=>?_
 have k:=g
 clear g q
 show EvS B _ _ [some (.st (.int n)),some (.st d),none,none]
 row_cond go
 cases d with
 | tuple xs =>
  refine adi ?_
  row_cond go
  rcases (show xs.length=2\/xs.length ≠ 2 by omega) with j | j
  ·match xs,j with
   | [x,y],_ =>
    row_cond go
    refine ⟨n,x,rfl,?_⟩
    row_cond go
    have c:abq n (.tuple [x,y])=(btwD 0 (n - 1) x && (btwD 0 (n - 1) y && match x,y with | .int a,.int b=>decide (a < b) | _,_=>false)):=by
     cases x <;> cases y <;> simp [abq,btwD,Bool.and_assoc]
    cases hx:btwD 0 (n - 1) x with
    | false =>
     rw [hx,Bool.false_and] at c
     refine acg ?_
     rw [← c];exact k
    | true =>
     refine abp ?_
     row_cond go
     refine ⟨n,y,rfl,?_⟩
     row_cond go
     cases hy:btwD 0 (n - 1) y with
     | false =>
      rw [hx,hy] at c
      refine acg ?_
      rw [show false=abq n (.tuple [x,y]) by rw [c];rfl];exact k
     | true =>
      refine abp ?_
      cases x with
      | int a =>
       cases y with
       | int b =>
        row_cond go
        rw [hx,hy] at c
        rw [show decide (a < b)=abq n (.tuple [.int a,.int b]) by rw [c];rfl];exact k
       | _=>simp [btwD] at hy
      | _=>simp [btwD] at hx
  ·row_cond go
   have:abq n (.tuple xs)=false:=by
    match xs,j with
    | [],_=>rfl
    | [x],_=>cases x <;> rfl
    | [_,_],h=>exact absurd rfl h
    | x :: y :: _ :: _,_=>cases x <;> cases y <;> rfl
   rw [← this];exact k
 | _ =>
  refine adj ?_
  row_cond go
  exact k
theorem sc_are_ties:FnScope ["n","thing"] ["n","thing"] (aar s_are_ties):=by row_cond sc
theorem als (T:Txt K mg):Can P w K mg base "are_ties" 5 ["n","thing"] (spP K (axd)):=by
 obtain ⟨f,fd,D⟩:=T.d_are_ties
 refine D.can (D.fn.ok sc_are_ties (fun vs H Q E h=>lenP h fun ss c q=>by obtain ⟨n,d,rfl,b,k⟩:=q;rfl) (fun cdv A outer s H vs Q E g h=>?_))
 have nd:=sc_are_ties.nd
 refine ⟨_,(aam (aat (acl (aai abh (by rfl) T.b_isinstance aa0 (aaa (pv 1) (aaa (abw (v:=.ty "list") rfl T.b_list aex rfl) aab))) (ad3 (aai (ai6 rfl) (by rfl) T.b_all apg (aaa (aek rfl (N:=["tie","n"]) (src:=[none,some 0]) (by exact ac0 rfl rfl rfl rfl rfl rfl) (adg (pv 1)) (fun _ _ _ _=>(aax (i:=0) (show List.Nodup (["tie","n"]:List Str) by decide +kernel) rfl (Or.inl rfl) (hf:=Or.inr rfl))) (fun _ _ _ _=>acz) (fun _ _ _ _=>(aae (aop T) g (aaa (pv 1) (aaa (pv 0) aab))))) aab)))))),?_⟩
 refine adp h fun ss c q B l=>?_
 refine exS2 ss q fun n d a=>?_
 have b:=a.1
 have k:=a.2
 clear a q
 show EvS B _ _ [some (.st (.int n)),some (.st d)]
 row_cond go
 cases d with
 | list ds =>
  have b:=b ds rfl
  refine abp ?_
  row_cond go
  refine am0 (fun t => .bool (abq n t)) rfl (by omega) (fun t _ j m=>?_) ?_
  ·row_cond go
   exact ⟨n,t,rfl,rfl,rfl⟩
  ·row_cond go
   rw [show (ds.map fun t=>PyData.bool (abq n t))=(ds.map (abq n)).map .bool by rw [aB6];rfl]
   refine am6 ?_
   row_cond go
   rw [show (ds.map (abq n)).all id=aea n (.list ds) by simp [aea,List.all_map]]
   exact k
 | _ =>
  refine acg ?_
  exact k
theorem sc_is_rising:FnScope ["things"] ["things"] (aar s_is_rising):=by row_cond sc
theorem aju (T:Txt K mg):Can P w K mg base "is_rising" 1 ["things"] (spP K (ase)):=by
 obtain ⟨f,fd,D⟩:=T.d_is_rising
 refine D.can (D.fn.ok sc_is_rising (fun vs H Q E h=>lenP h fun ss m q=>by obtain ⟨ps,rfl,l,k⟩:=q;rfl) (fun cdv A outer s H vs Q E n h=>?_))
 have nd:=sc_is_rising.nd
 refine ⟨_,(aam (aat (aai (ai6 rfl) (by rfl) T.b_all apg (aaa (aek rfl (N:=["at","things"]) (src:=[none,some 0]) (by exact ac0 rfl rfl rfl rfl rfl rfl) (acn rfl T.b_range (aaa (aak acr (aai abn (by rfl) T.b_len acf (aaa (pv 0) aab)) aac) aab)) (fun _ _ _ _=>(aax (i:=0) (show List.Nodup (["at","things"]:List Str) by decide +kernel) rfl (Or.inl rfl) (hf:=Or.inr rfl))) (fun _ _ _ _=>acz) (fun _ _ _ _=>(aer (show OpR _ (compareOp .Lt) (rLtT K) from avo n.units0) (aao (show IxR _ (acu K) from aap) (pv 1) (pv 0) (fun _ _=>rfl)) (aao (show IxR _ (acu K) from aap) (pv 1) (aak aa7 (pv 0) aac) (fun _ _=>rfl)) (aa1 _)))) aab)))),?_⟩
 refine adp h fun ss m q B u=>?_
 refine exS1 ss q fun ps a=>?_
 have l:=a.1
 have k:=a.2
 clear a q
 show EvS B _ _ [some (.st (.list (ps.map prD)))]
 row_cond go
 rw [ay3]
 row_cond go
 refine am0 (fun d=>match d with | .int i => .bool (match ps[i.toNat]?,ps[i.toNat+1]? with | some p,some q=>HT.lexLt (p2 p) (p2 q) | _,_=>false) | _ => .none) rfl (by rw [ado];omega) (fun d hd o x=>?_) ?_
 ·obtain ⟨i,hi⟩:=List.mem_iff_getElem?.mp hd
  obtain ⟨hi,rfl⟩:=agv hi
  have c:i < ps.length:=by omega
  have j:i+1 < ps.length:=by omega
  have v:atI (ps.map prD) (0+(i:Int))=some (prD ps[i]):=ahn (f:=prD) (acv (by omega) (by rw [show (0+(i:Int)).toNat=i by omega];exact ay0 c))
  have r:atI (ps.map prD) (0+(i:Int)+1)=some (prD ps[i+1]):=ahn (f:=prD) (acv (by omega) (by rw [show (0+(i:Int)+1).toNat=i+1 by omega];exact ay0 j))
  row_cond go
  refine auv ?_
  row_cond go
  refine ⟨?_,rfl⟩
  simp [c,j]
 ·row_cond go
  have e:(rngD 0 ((ps.length:Int) - 1).toNat).map (fun d=>match d with | .int i=>PyData.bool (match ps[i.toNat]?,ps[i.toNat+1]? with | some p,some q=>HT.lexLt (p2 p) (p2 q) | _,_=>false) | _ => .none)=((List.range (ps.length - 1)).map fun i=>match ps[i]?,ps[i+1]? with | some p,some q=>HT.lexLt (p2 p) (p2 q) | _,_=>false).map .bool:=by
   unfold rngD
   rw [aB6,aB6,show ((ps.length:Int) - 1).toNat=ps.length - 1 by omega]
   apply aC0
   intro i _
   simp
  rw [e]
  refine am6 ?_
  row_cond go
  refine k _ ?_
  rw [List.all_map,aC4]
  unfold Rise
  rw [alm ltP (fun h g=>ali h g)]
  constructor
  ·intro h i hi
   have:=h i (az8.mpr (by omega))
   simp [show i < ps.length by omega,hi] at this
   exact (lex2 _ _).mp this
  ·intro h i hi
   have b:i+1 < ps.length:=by have:=az8.mp hi;omega
   have:=(lex2 _ _).mpr (h i b)
   simp [show i < ps.length by omega,b,this]
end
def IsWD (d:PyData):Prop:=∃ (n:Int) (es:List (Int × Int)),d=webD n es/\1<=n/\n<=60/\(∀ p∈es,0<=p.1/\p.1 < p.2/\p.2 < n)/\Rise es
def lnOk (d:PyData):Prop:=∀ d0 ds,d=.tuple [d0,.list ds]->ds.length<=10000
def ag0:VP:=fun ss Q=>∃ d:PyData,ss=[.st d]/\lnOk d/\∀ b:Bool,(b=true ↔ IsWD d)->Q (.st (.bool b))
theorem ae7 {a b:Int} {d:PyData} (h:btwD a b d=true):∃ n,d=.int n/\a<=n/\n<=b:=by
 cases d with
 | int n=>exact ⟨n,rfl,(of_decide_eq_true h).1,(of_decide_eq_true h).2⟩
 | _=>cases h
theorem asf {n:Int} {d:PyData} (h:abq n d=true):∃ p:Int × Int,d=prD p/\0<=p.1/\p.1 < p.2/\p.2 < n:=by
 unfold abq at h
 split at h
 ·rename_i a b
  simp only [aE1,decide_eq_true_eq] at h
  exact ⟨(a,b),rfl,by simp only;omega,by simp only;omega,by simp only;omega⟩
 ·cases h
theorem anb {n:Int}:∀ {ds:List PyData},ds.all (abq n)=true->∃ es:List (Int × Int),ds=es.map prD/\∀ p∈es,0<=p.1/\p.1 < p.2/\p.2 < n
 | [],_=>⟨[],rfl,by simp⟩
 | d :: ds,h=>by
  rw [List.all_cons,aE1] at h
  obtain ⟨p,rfl,b⟩:=asf h.1
  obtain ⟨es,rfl,c⟩:=anb h.2
  refine ⟨p :: es,rfl,fun q a=>?_⟩
  rcases ay8.mp a with rfl | a
  ·exact b
  ·exact c q a
theorem asg {n:Int} {es:List (Int × Int)} (h:∀ p∈es,0<=p.1/\p.1 < p.2/\p.2 < n):(es.map prD).all (abq n)=true:=by
 rw [List.all_map,aC4]
 intro p a
 have:=h p a
 simp [abq,prD];omega
theorem aik {p q:Int × Int} (h:prD p=prD q):p=q:=by
 obtain ⟨a,b⟩:=p
 obtain ⟨c,d⟩:=q
 simp only [prD,PyData.tuple.injEq,List.cons.injEq,PyData.int.injEq,and_true] at h
 rw [h.1,h.2]
theorem ash {as bs:List (Int × Int)} (h:as.map prD=bs.map prD):as=bs:=(List.map_inj_right (f:=prD) fun x y e=>aik e).mp h
def aeo:PyData->Option (Int × Int)
 | .tuple [.int a,.int b]=>some (a,b)
 | _=>none
theorem adx {d:PyData} {p:Int × Int} (h:aeo d=some p):d=prD p:=by
 unfold aeo at h
 split at h
 ·cases h;rfl
 ·cases h
def ade (n:Int):Int × Int->List PyData->Bool
 | _,[]=>true
 | last,d :: ds=>match aeo d with
  | some p=>if 0<=p.1/\p.1 < p.2/\p.2 < n/\(last.1 < p.1\/(last.1=p.1/\last.2 < p.2)) then ade n p ds else false
  | none=>false
theorem aht {n:Int} {l:Int × Int} {d:PyData} {ds:List PyData} (h:aeo d=none):ade n l (d :: ds)=false:=by
 unfold ade
 rw [h]
theorem goodF_some {n:Int} {l p:Int × Int} {ds:List PyData}:ade n l (prD p :: ds)=if 0<=p.1/\p.1 < p.2/\p.2 < n/\(l.1 < p.1\/(l.1=p.1/\l.2 < p.2)) then ade n p ds else false:=by
 conv=>lhs;unfold ade
 rfl
theorem ajb {n:Int}:∀ {ds:List PyData} {last:Int × Int},ade n last ds=true ↔ ∃ es:List (Int × Int),ds=es.map prD/\(∀ p∈es,0<=p.1/\p.1 < p.2/\p.2 < n)/\Rise es/\∀ p∈es,ltP last p
 | [],last=>⟨fun _=>⟨[],rfl,by simp,List.Pairwise.nil,by simp⟩,fun _=>rfl⟩
 | d :: ds,last=>by
  cases e:aeo d with
  | none =>
   rw [aht e]
   refine ⟨(fun h=>by cases h),?_⟩
   rintro ⟨es,a,_⟩
   cases es with
   | nil=>cases a
   | cons p es =>
    rw [aB0] at a
    injection a with a _
    rw [a] at e
    cases e
  | some p =>
   rw [adx e,goodF_some]
   by_cases hc:0<=p.1/\p.1 < p.2/\p.2 < n/\(last.1 < p.1\/(last.1=p.1/\last.2 < p.2))
   ·rw [aC5 hc,ajb (ds:=ds) (last:=p)]
    constructor
    ·rintro ⟨es,a,g,f,c⟩
     refine ⟨p :: es,by rw [aB0,a],fun q b=>?_,aF2.mpr ⟨c,f⟩,fun q b=>?_⟩
     ·rcases ay8.mp b with rfl | b
      ·exact ⟨hc.1,hc.2.1,hc.2.2.1⟩
      ·exact g q b
     ·rcases ay8.mp b with rfl | b
      ·exact hc.2.2.2
      ·exact ali hc.2.2.2 (c q b)
    ·rintro ⟨es,a,g,f,c⟩
     cases es with
     | nil=>cases a
     | cons q es =>
      rw [aB0] at a
      injection a with i a
      obtain rfl:=aik i
      exact ⟨es,a,fun x j=>g x (az4 _ j),(aF2.mp f).2,(aF2.mp f).1⟩
   ·rw [aC6 hc]
    refine ⟨(fun h=>by cases h),?_⟩
    rintro ⟨es,a,g,f,c⟩
    cases es with
    | nil=>cases a
    | cons q es =>
     rw [aB0] at a
     injection a with i a
     obtain rfl:=aik i
     have:=g p (by simp)
     exact absurd ⟨this.1,this.2.1,this.2.2,c p (by simp)⟩ hc
theorem asi {n:Int} {ds:List PyData} (f:1<=n) (d:n<=60):IsWD (.tuple [.int n,.list ds]) ↔ ade n (-1,-1) ds=true:=by
 rw [ajb]
 constructor
 ·rintro ⟨g,es,e,_,_,a,b⟩
  cases e
  exact ⟨es,rfl,a,b,fun p c=>by have:=a p c;exact .inl (by simp only;omega)⟩
 ·rintro ⟨es,rfl,a,b,_⟩
  exact ⟨n,es,rfl,f,d,a,b⟩
section
variable {P:Program} {w:World} {K:Frag} {mg:Str->Option Value} {base:Heap}
theorem sc_is_web:FnScope ["thing","n","ties"] ["thing"] (aar s_is_web):=by row_cond sc
theorem ahu (T:Txt K mg):Can P w K mg base "is_web" 6 ["thing"] (spP K (ag0)):=by
 obtain ⟨f,fd,D⟩:=T.d_is_web
 obtain ⟨c,a⟩:=T.v_MOST_PLACES
 refine D.can (D.fn.ok sc_is_web (fun vs H Q E h=>lenP h fun ss I q=>by obtain ⟨d,rfl,r,k⟩:=q;rfl) (fun cdv A outer s H vs Q E F h=>?_))
 have nd:=sc_is_web.nd
 refine ⟨_,(aag (aa9 (PW.pt (aee (acq (ace (aai abh (by rfl) T.b_isinstance aa0 (aaa (pv 0) (aaa (abw (v:=.ty "tuple") rfl T.b_tuple acw rfl) aab))))) (adq (aa2 ag3 (aai abn (by rfl) T.b_len acf (aaa (pv 0) aab)) aac (aa1 _)))))
   (aam (aat abr))
   aaz)
  (aag (ac5 (pv 0) (ag2 rfl (acm (aax (i:=1) nd rfl (Or.inl rfl)) (acm (aax (i:=2) nd rfl (Or.inl rfl)) afx))))
  (aam (aat (acl (aae (ae1 T) F (aaa aac (aaa (ath (v:=.int 60) rfl a ⟨_,rfl⟩) (aaa (pv 1) aab)))) (acl (aae (als T) F (aaa (pv 1) (aaa (pv 2) aab))) (ad3 (aae (aju T) F (aaa (pv 2) aab))))))))),?_⟩
 refine adp h fun ss I q B R=>?_
 refine exS1 ss q fun d j=>?_
 have r:=j.1
 have k:=j.2
 clear j q
 show EvS B _ _ [some (.st d),none,none]
 have p:¬ IsWD d->I (.st (.bool false)):=fun h=>k false ⟨(fun z=>by cases z),fun z=>absurd z h⟩
 row_cond go
 cases d with
 | tuple xs =>
  refine adi ?_
  row_cond go
  rcases (show xs.length=2\/xs.length ≠ 2 by omega) with o | o
  ·match xs,o with
   | [x,y],_ =>
    row_cond go
    refine ⟨1,60,x,rfl,?_⟩
    cases e:btwD 1 60 x with
    | false =>
     row_cond go
     refine p ?_
     rintro ⟨n,es,u,O,o,_⟩
     cases u
     simp [btwD] at e
     omega
    | true =>
     obtain ⟨n,rfl,M,J⟩:=ae7 e
     row_cond go
     refine ⟨n,y,rfl,fun ds u=>by subst u;have:=r _ _ rfl;omega,?_⟩
     cases e2:aea n y with
     | false =>
      row_cond go
      refine p ?_
      rintro ⟨L,es,l,O,o,g,_⟩
      cases l
      have:aea n (.list (es.map prD))=true:=asg g
      rw [this] at e2
      cases e2
     | true =>
      cases y with
      | list ds =>
       obtain ⟨es,rfl,g⟩:=anb (show ds.all (abq n)=true from e2)
       have C:=r _ _ rfl
       rw [ay3] at C
       row_cond go
       refine ⟨es,rfl,by omega,fun b hb=>?_⟩
       row_cond go
       refine k b (hb.trans ⟨fun G=>⟨n,es,rfl,M,J,g,G⟩,?_⟩)
       rintro ⟨L,N,l,_,_,_,G⟩
       injection l with l
       injection l with S m
       injection m with m _
       injection m with m
       rw [ash m]
       exact G
      | _=>cases e2
  ·row_cond go
   refine p ?_
   rintro ⟨n,es,e,_⟩
   cases e
   exact o rfl
 | _ =>
  refine adj ?_
  row_cond go
  exact p (by rintro ⟨n,es,e,_⟩;cases e)
def axe:VP:=fun ss Q=>∃ (d:PyData) (a b:Int),ss=[.st d,.st (.int a),.st (.int b)]/\Q (.st (.bool (btwD a b d)))
theorem sc_law_is:FnScope ["thing","low","high"] ["thing","low","high"] (aar s_law_is):=by row_cond sc
theorem ae8 (T:Txt K mg):Can P w K mg base "_law_is" 1 ["thing","low","high"] (spP K (axe)):=by
 obtain ⟨f,fd,D⟩:=T.d_law_is
 refine D.can (D.fn.ok sc_law_is (fun vs H Q E h=>lenP h fun ss j q=>by obtain ⟨d,a,b,rfl,k⟩:=q;rfl) (fun cdv A outer s H vs Q E m h=>?_))
 have nd:=sc_law_is.nd
 refine ⟨_,(aam (aat (acl (aai abh (by rfl) T.b_isinstance aa0 (aaa (pv 0) (aaa (abw (v:=.ty "int") rfl T.b_int akq rfl) aab))) (acl (aox (aai abh (by rfl) T.b_isinstance aa0 (aaa (pv 0) (aaa (abw (v:=.ty "bool") rfl T.b_bool ah4 rfl) aab)))) (ad3 (ake ajw ajw (pv 1) (pv 0) (pv 2))))))),?_⟩
 refine adp h fun ss j q B l=>?_
 refine exS3 ss q fun d a b c=>?_
 have k:=c
 clear c q
 show EvS B _ _ [some (.st d),some (.st (.int a)),some (.st (.int b))]
 row_cond go
 cases d with
 | int i =>
  refine abp ?_
  row_cond go
  refine abp ?_
  row_cond go
  refine abo (fun g=>?_) (fun g=>?_)
  ·row_cond go
   have e:decide (i<=b)=btwD a b (.int i):=by
    show _=decide (a<=i/\i<=b)
    rw [aE6];simp [g]
   rw [e];exact k
  ·have e:false=btwD a b (.int i):=by
    show _=decide (a<=i/\i<=b)
    exact (aB4 (fun z=>g z.1)).symm
   rw [e];exact k
 | bool b' =>
  refine abp ?_
  row_cond go
  exact k
 | _=>exact acg k
theorem sc_law_good:FnScope ["thing","last","tie"] ["thing"] (aar s_law_good):=by row_cond sc
theorem alt (T:Txt K mg):Can P w K mg base "_law_good" 2 ["thing"] (spP K (ag0)):=by
 obtain ⟨f,fd,D⟩:=T.d_law_good
 refine D.can (D.fn.ok sc_law_good (fun vs H Q E h=>lenP h fun ss r q=>by obtain ⟨d,rfl,O,k⟩:=q;rfl) (fun cdv A outer s H vs Q E I h=>?_))
 have nd:=sc_law_good.nd
 refine ⟨_,(aag (aa9 (PW.pt (aee (acq (ace (aai abh (by rfl) T.b_isinstance aa0 (aaa (pv 0) (aaa (abw (v:=.ty "tuple") rfl T.b_tuple acw rfl) aab))))) (adq (aa2 ag3 (aai abn (by rfl) T.b_len acf (aaa (pv 0) aab)) aac (aa1 _)))))
   (aam (aat abr))
   aaz)
  (aag (aa9 (PW.pt (aee (acq (ace (aae (ae8 T) I (aaa (aao aap (pv 0) aac (fun _ _=>rfl)) (aaa aac (aaa aac aab)))))) (adq (acq (ace (aai abh (by rfl) T.b_isinstance aa0 (aaa (aao aap (pv 0) aac (fun _ _=>rfl)) (aaa (abw (v:=.ty "list") rfl T.b_list aex rfl) aab))))))))
   (aam (aat abr))
   aaz)
  (aag (aaq (i:=1) nd rfl (Or.inl rfl) (aaj (aaa (ae2 ad5 aac) (aaa (ae2 ad5 aac) aab))))
  (aag (aco aG1 rfl (adg (aao aap (pv 0) aac (fun _ _=>rfl))) (aax (i:=2) nd rfl (Or.inl rfl))
   (aag (aa9 (PW.pt (aee (acq (ace (aai abh (by rfl) T.b_isinstance aa0 (aaa (pv 2) (aaa (abw (v:=.ty "tuple") rfl T.b_tuple acw rfl) aab))))) (adq (aa2 ag3 (aai abn (by rfl) T.b_len acf (aaa (pv 2) aab)) aac (aa1 _)))))
     (aam (aat abr))
     aaz)
    (aag (aa9 (PW.pt (aee (acq (ace (aae (ae8 T) I (aaa (aao aap (pv 2) aac (fun _ _=>rfl)) (aaa aac (aaa (aak acr (aao aap (pv 0) aac (fun _ _=>rfl)) aac) aab)))))) (adq (acq (ace (aae (ae8 T) I (aaa (aao aap (pv 2) aac (fun _ _=>rfl)) (aaa aac (aaa (aak acr (aao aap (pv 0) aac (fun _ _=>rfl)) aac) aab)))))))))
     (aam (aat abr))
     aaz)
    (aag (aa9 (PW.pt (aee (aa2 ass (aao aap (pv 2) aac (fun _ _=>rfl)) (aao aap (pv 2) aac (fun _ _=>rfl)) (aa1 _)) (adq (aa2 (aw6 I.units0) (pv 2) (pv 1) (aa1 _)))))
     (aam (aat abr))
     aaz)
    (aam (aaq (i:=1) nd rfl (Or.inl rfl) (pv 2)))))))
  (aam (aat abr)))))),?_⟩
 refine adp h fun ss r q B X=>?_
 refine exS1 ss q fun d c=>?_
 have O:=c.1
 have k:=c.2
 clear c q
 show EvS B _ _ [some (.st d),none,none]
 have u:¬ IsWD d->r (.st (.bool false)):=fun h=>k false ⟨(fun z=>by cases z),fun z=>absurd z h⟩
 row_cond go
 cases d with
 | tuple xs =>
  refine adi ?_
  row_cond go
  rcases (show xs.length=2\/xs.length ≠ 2 by omega) with o | o
  ·match xs,o with
   | [x,y],_ =>
    have Y:atI [x,y] 0=some x:=rfl
    have t1:atI [x,y] 1=some y:=rfl
    row_cond go
    refine ⟨x,1,60,rfl,?_⟩
    cases e:btwD 1 60 x with
    | false =>
     row_cond go
     refine u ?_
     rintro ⟨n,es,R,Z,o,_⟩
     cases R
     simp [btwD] at e
     omega
    | true =>
     obtain ⟨n,rfl,S,N⟩:=ae7 e
     row_cond go
     cases y with
     | list ds =>
      refine adi ?_
      row_cond go
      have M:=asi (ds:=ds) S N
      have noF:ade n (-1,-1) ds=false->r (.st (.bool false)):=fun h=>u (fun z=>by
       rw [M.mp z] at h
       cases h)
      refine ⟨fun i e=>∃ last L,e=[some (.st (.tuple [.int n,.list ds])),some (.st (prD last)),L]/\ade n (-1,-1) ds=ade n last (ds.drop i),⟨(-1,-1),_,rfl,rfl⟩,?_,?_⟩
      ·rintro i d e hd j
       refine exS2 e j fun last L c=>?_
       have m:=c
       clear c j
       have J:ds.drop i=d :: ds.drop (i+1):=by
        obtain ⟨hi,rfl⟩:=ay1.mp hd
        exact List.drop_eq_getElem_cons hi
       rw [J] at m
       have F:aeo d=none->r (.st (.bool false)):=fun h=>noF (m.trans (aht h))
       row_cond go
       cases d with
       | tuple zs =>
        refine adi ?_
        row_cond go
        rcases (show zs.length=2\/zs.length ≠ 2 by omega) with o | o
        ·match zs,o with
         | [a,b],_ =>
          have u0:atI [a,b] 0=some a:=rfl
          have W:atI [a,b] 1=some b:=rfl
          row_cond go
          refine ⟨a,0,n - 1,rfl,?_⟩
          cases ea:btwD 0 (n - 1) a with
          | false =>
           have g:r (.st (.bool false)):=by
            cases ht:aeo (.tuple [a,b]) with
            | none=>exact F ht
            | some p =>
             have C:=adx ht
             simp only [prD,PyData.tuple.injEq,List.cons.injEq,and_true] at C
             obtain ⟨rfl,rfl⟩:=C
             refine noF (m.trans (goodF_some.trans (aC6 fun z=>?_)))
             simp [btwD] at ea
             omega
           row_cond go
           exact g
          | true =>
           obtain ⟨a,rfl,a0,a1⟩:=ae7 ea
           row_cond go
           refine ⟨b,0,n - 1,rfl,?_⟩
           cases eb:btwD 0 (n - 1) b with
           | false =>
            have g:r (.st (.bool false)):=by
             cases ht:aeo (.tuple [.int a,b]) with
             | none=>exact F ht
             | some p =>
              have C:=adx ht
              simp only [prD,PyData.tuple.injEq,List.cons.injEq,and_true] at C
              obtain ⟨_,rfl⟩:=C
              refine noF (m.trans ?_)
              rw [adx ht,goodF_some]
              refine aC6 fun z=>?_
              simp [btwD] at eb
              omega
            row_cond go
            exact g
           | true =>
            obtain ⟨b,rfl,b0,b1⟩:=ae7 eb
            have l:=m.trans (goodF_some (p:=(a,b)))
            row_cond go
            refine abo (fun U=>?_) (fun U=>?_)
            ·have g:=noF (l.trans (aC6 fun z=>by have:=z.2.1;simp only at this;omega))
             row_cond go
             exact g
            ·row_cond go
             refine auz (p:=(a,b)) (q:=last) ?_
             have G:=lex2 last (a,b)
             cases hlt:HT.lexLt (p2 last) (p2 (a,b)) with
             | false =>
              rw [hlt] at G
              have g:=noF (l.trans (aC6 fun z=>by have:=G.mpr z.2.2.2;cases this))
              row_cond go
              exact g
             | true =>
              rw [hlt] at G
              rw [aC5 ⟨a0,by simp only;omega,by simp only;omega,G.mp rfl⟩] at l
              row_cond go
              exact ⟨(a,b),_,rfl,l⟩
        ·have g:=F (by
          match zs,o with
          | [],_=>rfl
          | [x],_=>cases x <;> rfl
          | [_,_],h=>exact absurd rfl h
          | x :: y :: _ :: _,_=>cases x <;> cases y <;> rfl)
         row_cond go
         exact g
       | _ =>
        have g:=F rfl
        refine adj ?_
        row_cond go
        exact g
      ·rintro e j
       refine exS2 e j fun last L c=>?_
       have m:=c
       clear c j
       rw [List.drop_length] at m
       row_cond go
       exact k true ⟨fun _=>M.mpr m,fun _=>rfl⟩
     | _ =>
      have g:=u (by rintro ⟨n,es,e,_⟩;cases e)
      refine adj ?_
      row_cond go
      exact g
  ·row_cond go
   refine u ?_
   rintro ⟨n,es,e,_⟩
   cases e
   exact o rfl
 | _ =>
  refine adj ?_
  row_cond go
  exact u (by rintro ⟨n,es,e,_⟩;cases e)
end
theorem alu {α:Type} {K:Frag} {src:List (Option Nat)} {a:En} {te:TE} {R:List PyData->En->Prop} {xs:List α} {f : α->PyData} (g : α->PyData) (j:noIo (aa4 src a)=true) (z:xs.length<=999999)
  (h:∀ x∈xs,∀ c:Bs,c.K=K->Ev c te (some (.st (f x)) :: aa4 src a) fun y l=>y=g x/\l=some (.st (f x)) :: aa4 src a)
  (n:R (xs.map g) a):LcV K (none :: src) (ab0 0) tYes te (xs.map f) a R:=by
 have b:noIo (aa4 (none :: src) a)=true:=by
  show ((none :: aa4 src a).all fun s => !isIo s)=true
  rw [List.all_cons]
  exact (aE1 _ _).mpr ⟨rfl,j⟩
 refine ⟨fun i ys e=>ys=(xs.take i).map g/\∃ o,e=stO o :: aa4 src a,⟨by simp,none,rfl⟩,?_,?_,?_⟩
 ·rintro i ys e ⟨_,o,rfl⟩
  exact ⟨⟨isIo_stO.symm,ai3⟩,afs agk⟩
 ·rintro i d ys e hd ⟨rfl,o,rfl⟩ c r
  rw [ay5] at hd
  cases hx:xs[i]? with
  | none=>rw [hx] at hd;cases hd
  | some x =>
   rw [hx] at hd
   cases hd
   have hi:i < xs.length:=(ay1.mp hx).1
   have u:xs.take (i+1)=xs.take i ++ [x]:=by rw [aE3,hx];rfl
   refine abi (aih ?_)
   rw [aC5 rfl]
   intro σ G H F Q I k
   refine h x (ay2 hx) c r σ G H F Q I fun v G' H' F' d' l q g' w ⟨p,m⟩=>k v G' H' F' d' l q g' w ?_
   subst p m
   refine ⟨by simp;omega,by rw [u];simp,some _,rfl⟩
 ·rintro ys e ⟨rfl,o,rfl⟩
  rw [amz b]
  simpa using n
structure Dk (H:Hp) (d p:Addr) (i:Int) (qs:List Addr):Prop where
 dd:H d=some (.lst [.ref p,.int i])
 pp:H p=some (.lst (qs.map V.ref))
 ne:qs ≠ []
 le:qs.length<=63
 dp:d ≠ p
 dq:d ∉ qs
 pq:p ∉ qs
 ql:∀ q∈qs,∃ c f k:Int,H q=some (.lst [.int c,.int f,.int k])
def anc:Sp:=fun vs H Q _=>∃ (d p:Addr) (i many:Int) (qs:List Addr),vs=[.ref d,.int many]/\Dk H d p i qs/\0 < many/\many < 1073741824 /\
 ∀ (r:Int) (H':Hp) (i':Int),0<=r->r < many->Dk H' d p i' qs->(∀ a,a ≠ d->a ∉ qs->H' a=H a)->Q (.int r) H'
theorem Dk.pick {H:Hp} {d p:Addr} {i:Int} {qs:List Addr} (h:Dk H d p i qs) (j:Int):∃ q,q∈qs/\atI (qs.map V.ref) (j % ((qs.map V.ref).length:Int))=some (.ref q):=by
 have c:0 < qs.length:=aC9.mpr h.ne
 have b:=Int.emod_nonneg j (show ((qs.map V.ref).length:Int) ≠ 0 by rw [ay3];omega)
 have a:=aB9 j (show (0:Int) < ((qs.map V.ref).length:Int) by rw [ay3];omega)
 generalize j % ((qs.map V.ref).length:Int)=m at b a
 have hm:m.toNat < qs.length:=by rw [ay3] at a;omega
 exact ⟨qs[m.toNat],aC3 _,acv b (by rw [ay5,ay0 hm];rfl)⟩
theorem Dk.put {H:Hp} {d p q:Addr} {i a:Int} {qs:List Addr} (h:Dk H d p i qs) (b:q∈qs) (c f k:Int):Dk (upd (upd H d (.lst [.ref p,.int a])) q (.lst [.int c,.int f,.int k])) d p a qs:=by
 have g:d ≠ q:=fun e=>h.dq (e ▸ b)
 have j:p ≠ q:=fun e=>h.pq (e ▸ b)
 refine ⟨by rw [aad g,aaf],by rw [aad j,aad h.dp.symm];exact h.pp,h.ne,h.le,h.dp,h.dq,h.pq,fun z hz=>?_⟩
 by_cases e:z=q
 ·subst e;exact ⟨c,f,k,aaf⟩
 ·rw [aad e,aad (show z ≠ d from fun e=>h.dq (e ▸ hz))];exact h.ql z hz
def ODk:Own where
 P:=fun _ H v F=>∃ d p i qs,v=.ref d/\Dk H d p i qs/\∀ b,F b ↔ b=d\/b=p\/b∈qs
 mono:=fun ⟨d,p,i,qs,e,h,f⟩ _ hh=>⟨d,p,i,qs,e,⟨hh d _ ((f d).mpr (.inl rfl)) h.dd,hh p _ ((f p).mpr (.inr (.inl rfl))) h.pp,h.ne,h.le,h.dp,h.dq,h.pq,fun q hq=>by
  obtain ⟨c,g,k,e⟩:=h.ql q hq
  exact ⟨c,g,k,hh q _ ((f q).mpr (.inr (.inr hq))) e⟩⟩,f⟩
 dom:=fun ⟨d,p,i,qs,e,h,f⟩ b z=>by
  rcases (f b).mp z with rfl | rfl | z
  ·exact ⟨_,h.dd⟩
  ·exact ⟨_,h.pp⟩
  ·obtain ⟨c,g,k,e⟩:=h.ql b z
   exact ⟨_,e⟩
theorem au7 {P:Program} {w:World} {K:Frag} {mg:Str->Option Value} {base:Heap} {x:Str} {k:Nat} {ps:List Str} {sp a:Sp} (c:Can P w K mg base x k ps sp) (h:∀ vs H Q E,a vs H Q E->sp vs H Q E):Can P w K mg base x k ps a:=by
 obtain ⟨f,fd,ok,m,kp,b⟩:=c
 exact ⟨f,fd,ok.imp h,m,kp,b⟩
def aqc:VIo:=fun A ss Q=>∃ many:Int,A=ODk/\ss=[.st (.int many)]/\0 < many/\many < 1073741824/\∀ r:Int,0<=r->r < many->Q ODk (.st (.int r))
theorem au8 {K:Frag} {vs:List V} {H:Hp} {Q:VK} {E:XK} (h:spI K aqc vs H Q E):anc vs H Q E:=by
 obtain ⟨v0,D,G,R,A,ss,F0,F,rfl,gh,ft,s,ap,fg,fr,q,⟨many,rfl,rfl,w,y,k⟩,m⟩:=h
 obtain ⟨d,p,i,qs,rfl,v,j⟩:=ap
 cases q with
 | cons ha hr =>
  cases hr
  cases (show Rp G _ (.int many) from ha)
  refine ⟨d,p,i,many,qs,rfl,v,w,y,fun r H' x u l b B=>m ODk _ (k r u l) _ G H' F0 (fun _=>False) ?_⟩
  have out:∀ a,¬ F0 a->H' a=H a:=fun a z=>B a (fun e=>z ((j a).mpr (.inl e))) (fun e=>z ((j a).mpr (.inr (.inr e))))
  have g:∀ a,F0 a->(∃ o,H' a=some o)/\∀ xs,H' a ≠ some (.tup xs):=fun a z=>by
   rcases (j a).mp z with rfl | rfl | z
   ·rw [b.dd];exact ⟨⟨_,rfl⟩,fun xs e=>by cases e⟩
   ·rw [b.pp];exact ⟨⟨_,rfl⟩,fun xs e=>by cases e⟩
   ·obtain ⟨c,f,C,e⟩:=b.ql a z
    rw [e];exact ⟨⟨_,rfl⟩,fun xs e=>by cases e⟩
  refine ⟨Same.refl _,fun a o e=>?_,fun a n e=>?_,fun a o e => .inl e,fun a o e=>?_,fun a o e=>?_,⟨d,p,x,qs,rfl,b,j⟩,fun a z => .inl z,fg,⟨.int _,fun a z=>z⟩,fun a z=>z.elim⟩
  ·rw [out a fun z=>by rw [fg a z] at e;cases e];exact gh a o e
  ·by_cases z:F0 a
   ·exact absurd e ((g a z).2 _)
   ·rw [out a z] at e;exact ft a n e
  ·rw [out a fun z=>by rw [fr a z] at e;cases e];exact s a o e
  ·by_cases z:F0 a
   ·exact (g a z).1
   ·rw [out a z];exact ⟨o,e⟩
def aqd:VP:=fun ss Q=>∃ ns:List Int,ss=[.scr ns]/\ns.length<=63/\Q (.own ODk)
theorem ane {K:Frag} {vs:List V} {H:Hp} {Q:VK} {E:XK} (h:spP K aqd vs H Q E):∃ (a:Addr) (ns:List Int),vs=[.ref a]/\SqL K H a (ns.map V.int)/\ns.length<=63 /\
  ∀ (d p:Addr) (i:Int) (qs:List Addr) (H':Hp),Dk H' d p i qs->(∀ b,b=d\/b=p\/b∈qs->H b=none)->(∀ b,b ≠ d->b ≠ p->b ∉ qs->H' b=H b)->Q (.ref d) H':=by
 obtain ⟨G,ss,v,gh,ft,s,⟨ns,rfl,hn,k⟩,n⟩:=h
 cases s with
 | cons ha hr =>
  cases hr
  obtain ⟨a,rfl,r⟩:=(show ∃ a,_=V.ref a/\SqL K G a (ns.map V.int) from ha)
  refine ⟨a,ns,rfl,gh.seq r,hn,fun d p i qs H' l g m=>n _ k _ G H' (fun b=>b=d\/b=p\/b∈qs) ?_⟩
  have hh:Same H H':=fun a o e=>by
   rw [m a (fun z=>by rw [g a (.inl z)] at e;cases e) (fun z=>by rw [g a (.inr (.inl z))] at e;cases e) (fun z=>by rw [g a (.inr (.inr z))] at e;cases e)];exact e
  have j:∀ a,a=d\/a=p\/a∈qs->(∃ o,H' a=some o)/\∀ xs,H' a ≠ some (.tup xs):=fun a z=>by
   rcases z with rfl | rfl | z
   ·rw [l.dd];exact ⟨⟨_,rfl⟩,fun xs e=>by cases e⟩
   ·rw [l.pp];exact ⟨⟨_,rfl⟩,fun xs e=>by cases e⟩
   ·obtain ⟨c,f,u,e⟩:=l.ql a z
    rw [e];exact ⟨⟨_,rfl⟩,fun xs e=>by cases e⟩
  refine ⟨Same.refl _,gh.trans hh,hh,fun a o e => .inl e,g,fun a z=>?_,fun a z=>(j a z).1,⟨d,p,i,qs,rfl,l,fun b=>Iff.rfl⟩,fun _ a q e=>?_⟩
  ·cases e:G a with
   | none=>rfl
   | some o=>have:=gh a o e;rw [g a z] at this;cases this
  ·by_cases z:a=d\/a=p\/a∈qs
   ·exact absurd e ((j a z).2 _)
   ·rw [m a (fun y=>z (.inl y)) (fun y=>z (.inr (.inl y))) (fun y=>z (.inr (.inr y)))] at e;exact ft a q e
section
variable {P:Program} {w:World} {K:Frag} {mg:Str->Option Value} {base:Heap}
theorem sc_law_draw:FnScope ["deck","many","pool","found","number"] ["deck","many"] (aar s_law_draw):=by row_cond sc
theorem afc (T:Txt K mg):Can P w K mg base "_law_draw" 1 ["deck","many"] anc:=by
 obtain ⟨f,fd,D⟩:=T.d_law_draw
 refine D.can (D.fn.ok sc_law_draw (fun vs H Q E h=>by obtain ⟨d,p,i,many,qs,rfl,b,j,y,k⟩:=h;rfl) (fun cdv A outer s H vs Q E C h=>?_))
 obtain ⟨d,p,i,many,qs,rfl,b,j,y,k⟩:=h
 have nd:=sc_law_draw.nd
 refine ⟨_,(aag (aaq (i:=2) nd rfl (Or.inl rfl) (aao aap (aao aap (pv 0) aac (fun _ _=>rfl)) (aak ad4 (aao aap (pv 0) aac (fun _ _=>rfl)) (aai abn (by rfl) T.b_len acf (aaa (aao aap (pv 0) aac (fun _ _=>rfl)) aab))) (fun _ _=>rfl)))
  (aag (ac5 (aak aa7 (aao aap (pv 0) aac (fun _ _=>rfl)) aac) (afg (pv 0) aac ad6))
  (aag (aa9 (PW.pt (aow (aa2 adm (aao aap (pv 2) aac (fun _ _=>rfl)) aac (aa1 _)) (ame (aa2 anp (aao aap (pv 2) aac (fun _ _=>rfl)) aac (aa1 _)))))
   (aag (aaq (i:=3) nd rfl (Or.inl rfl) (aak ad4 (aao aap (pv 2) aac (fun _ _=>rfl)) (pv 1)))
    (aag (ac5 (aak ahy (aao aap (pv 2) aac (fun _ _=>rfl)) (pv 1)) (afg (pv 2) aac ad6))
    (aam (aat (pv 3)))))
   aaz)
  (aag (ac5 (aak aa7 (aao aap (pv 2) aac (fun _ _=>rfl)) aac) (afg (pv 2) aac ad6))
  (aag (aaq (i:=4) nd rfl (Or.inl rfl) (aak ad4 (aak aa7 (aak ad4 (aao aap (pv 2) aac (fun _ _=>rfl)) aac) (aak afi aac (aao aap (pv 2) aac (fun _ _=>rfl)))) aac))
  (aag (aaq (i:=4) nd rfl (Or.inl rfl) (aak ad4 (aak afi (pv 4) (pv 4)) aac))
  (aag (aaq (i:=4) nd rfl (Or.inl rfl) (aak ad4 (aak afi (pv 4) (aak aa7 (pv 4) aac)) aac))
  (aam (aat (aak ad4 (aak ahy (pv 4) aac) (pv 1))))))))))),?_⟩
 show (_:TS) _ [some (.ref d),some (.int many),none,none,none] H
 obtain ⟨q,g,l⟩:=b.pick i
 obtain ⟨c,f,B,x⟩:=b.ql q g
 have m:=b.dd
 have o:=b.pp
 have u:(0:Int) < ((qs.map V.ref).length:Int):=by have:=aC9.mpr b.ne;rw [ay3];omega
 have z:q ≠ d:=fun e=>b.dq (e ▸ g)
 have fin:∀ (c f k:Int) (a:Addr),a ≠ d->a ∉ qs->upd (upd H d (.lst [.ref p,.int (i+1)])) q (.lst [.int c,.int f,.int k]) a=H a:=fun c f k a n r=>by
  rw [aad (show a ≠ q from fun e=>r (e ▸ g)),aad n]
 row_cond hgo
 refine abo (fun hf=>?_) (fun hf=>?_)
 ·row_cond hgo
  refine abo (fun v=>?_) (fun v=>?_)
  ·row_cond hgo
   exact k _ _ (i+1) (Int.emod_nonneg _ (by omega)) (aB9 _ j) (b.put g _ _ _) (fin _ _ _)
  ·row_cond hgo
   exact k _ _ (i+1) (Int.emod_nonneg _ (by omega)) (aB9 _ j) (b.put g _ _ _) (fin _ _ _)
 ·row_cond hgo
  exact k _ _ (i+1) (Int.emod_nonneg _ (by omega)) (aB9 _ j) (b.put g _ _ _) (fin _ _ _)
theorem aah (T:Txt K mg):Can P w K mg base "_law_draw" 1 ["deck","many"] (spI K aqc):=au7 (afc T) fun _ _ _ _ h=>au8 h
theorem sc_law_deck:FnScope ["script","pools","k","cell"] ["script"] (aar s_law_deck):=by row_cond sc
theorem alv (T:Txt K mg):Can P w K mg base "_law_deck" 1 ["script"] (spP K aqd):=by
 obtain ⟨f,fd,D⟩:=T.d_law_deck
 refine D.can (D.fn.ok sc_law_deck (fun vs H Q E h=>by obtain ⟨a,ns,rfl,I,hn,k⟩:=ane h;rfl) (fun cdv A outer s H vs Q E hr h=>?_))
 obtain ⟨a,ns,rfl,I,hn,k⟩:=ane h
 have nd:=sc_law_deck.nd
 refine ⟨_,(aag (aaq (i:=1) nd rfl (Or.inl rfl) (aan aab))
  (aag (aco aG1 rfl (acn rfl T.b_range (aaa (aai (ac7 rfl) (by rfl) T.b_max aev (aaa aac (aaa (aai (ac8 rfl) (by rfl) T.b_min aew (aaa aac (aaa (aai abn (by rfl) T.b_len acf (aaa (pv 0) aab)) aab))) aab))) aab)) (aax (i:=2) nd rfl (Or.inl rfl))
   (aag (aaq (i:=3) nd rfl (Or.inl rfl) aac)
    (aag (aa9 (aa2 ano (pv 2) (aai abn (by rfl) T.b_len acf (aaa (pv 0) aab)) (aa1 _))
     (aam (aaq (i:=3) nd rfl (Or.inl rfl) (aao aap (pv 0) (pv 2) (fun _ _=>rfl))))
     aaz)
    (aam (afw (ajx PySem.F.plainAttrs_list PySem.F.slot_list_append PySem.F.type_list_append afj (pv 1) (aaa (aan (aaa (pv 3) (aaa (adr anw (by rfl) T.b_int akq (aaa (aer ass (pv 3) (aia (n:=1000000000000000000) (by decide) (by refine ⟨by decide,by decide,by decide⟩)) (aa1 _)) aab)) (aaa (aak afi aac (pv 2)) aab)))) aab)))))))
  (aam (aat (aan (aaa (pv 1) (aaa aac aab))))))),?_⟩
 show (_:TS) _ [some (.ref a),none,none,none] H
 row_cond hgo
 refine ⟨by show 0<=sizeLine;decide,fun p J=>?_⟩
 row_cond hgo
 refine amp ((aa3 J).seq I) ?_
 rw [ay3]
 row_cond hgo
 refine amo (by split <;> split <;> omega) (by split <;> split <;> omega) ?_
 refine ao0 (fun i σ l=>∃ (u v:Option V) (qs:List Addr),σ=[some (.ref a),some (.ref p),u,v]/\l p=some (.lst (qs.map V.ref))/\qs.length=i/\p ∉ qs/\(∀ q∈qs,H q=none/\∃ c f k:Int,l q=some (.lst [.int c,.int f,.int k]))/\∀ b,b ≠ p->b ∉ qs->l b=H b)
  ⟨_,_,[],rfl,aaf,rfl,by simp,(fun q r=>nomatch r),fun b hb _=>aad hb⟩ ?_ ?_
 ·rintro i σ l hi ⟨u,v,qs,rfl,j,x,pq,r,C⟩
  have U:i < 63:=by
   revert hi
   split <;> split <;> omega
  have s2:Same H l:=fun b o e=>by
   rw [C b (fun z=>by rw [z,J] at e;cases e) (fun z=>by rw [(r b z).1] at e;cases e)];exact e
  have fin:∀ (c f k:Int) (q:Addr) (u v:Option V),l q=none->∃ (N S:Option V) (m:List Addr),[some (V.ref a),some (.ref p),u,v]=[some (.ref a),some (.ref p),N,S]/\upd (upd l q (.lst [.int c,.int f,.int k])) p (.lst (qs.map V.ref ++ [.ref q])) p=some (.lst (m.map V.ref))/\m.length=i+1/\p ∉ m/\(∀ z∈m,H z=none/\∃ W f' Z:Int,upd (upd l q (.lst [.int c,.int f,.int k])) p (.lst (qs.map V.ref ++ [.ref q])) z=some (.lst [.int W,.int f',.int Z]))/\∀ b,b ≠ p->b ∉ m->upd (upd l q (.lst [.int c,.int f,.int k])) p (.lst (qs.map V.ref ++ [.ref q])) b=H b:=fun c f k q u v g=>by
   have G:q ≠ p:=fun e=>by rw [e,j] at g;cases g
   have L:H q=none:=by
    cases e:H q with
    | none=>rfl
    | some o=>rw [s2 q o e] at g;cases g
   refine ⟨u,v,qs ++ [q],rfl,by rw [aaf,aB7];rfl,by simp [x],fun z=>?_,fun z hz=>?_,fun b hb B=>?_⟩
   ·rcases ay7.mp z with z | z
    ·exact pq z
    ·exact G (aA1.mp z).symm
   ·have zp:z ≠ p:=fun e=>by
     subst e
     rcases ay7.mp hz with z | z
     ·exact pq z
     ·exact G (aA1.mp z).symm
    rw [aad zp]
    by_cases zq:z=q
    ·subst zq;exact ⟨L,c,f,k,aaf⟩
    ·rw [aad zq]
     exact r z ((ay7.mp hz).resolve_right fun y=>zq (aA1.mp y))
   ·rw [aad hb,aad (show b ≠ q from fun e=>B (ay7.mpr (.inr (aA1.mpr e))))]
    exact C b hb fun z=>B (ay7.mpr (.inl z))
  row_cond hgo
  refine amp (s2.seq I) ?_
  rw [ay3]
  row_cond hgo
  refine abo (fun X=>?_) (fun X=>?_)
  ·have O:i < ns.length:=by omega
   have R:atI (ns.map V.int) (0+(i:Int))=some (.int ns[i]):=acv (by omega) (by rw [ay5,show (0+(i:Int)).toNat=i by omega,ay0 O];rfl)
   row_cond hgo
   refine aq9 (s2.seq I) R ?_
   row_cond hgo
   refine ⟨by show 3<=sizeLine;decide,fun q g=>?_⟩
   have G:p ≠ q:=fun e=>by rw [← e,j] at g;cases g
   row_cond hgo
   exact fin _ _ _ q _ _ g
  ·row_cond hgo
   refine ⟨by show 3<=sizeLine;decide,fun q g=>?_⟩
   have G:p ≠ q:=fun e=>by rw [← e,j] at g;cases g
   row_cond hgo
   exact fin _ _ _ q _ _ g
 ·rintro σ l ⟨u,v,qs,rfl,j,x,pq,r,C⟩
  have s2:Same H l:=fun b o e=>by
   rw [C b (fun z=>by rw [z,J] at e;cases e) (fun z=>by rw [(r b z).1] at e;cases e)];exact e
  row_cond hgo
  refine ⟨by show 2<=sizeLine;decide,fun d hd=>?_⟩
  have dp:d ≠ p:=fun e=>by rw [e,j] at hd;cases hd
  have dq:d ∉ qs:=fun z=>by obtain ⟨_,c,f,k,e⟩:=r d z;rw [e] at hd;cases hd
  have M:H d=none:=by
   cases e:H d with
   | none=>rfl
   | some o=>rw [s2 d o e] at hd;cases hd
  refine k d p 0 qs _ ⟨aaf,by rw [aad dp.symm];exact j,?_,?_,dp,dq,pq,fun q z=>?_⟩ ?_ ?_
  ·intro e
   rw [e] at x
   revert x
   simp only [aF4]
   split <;> split <;> omega
  ·rw [x]
   split <;> split <;> omega
  ·rw [aad (show q ≠ d from fun e=>dq (e ▸ z))];exact (r q z).2
  ·rintro b (rfl | rfl | z)
   ·exact M
   ·exact J
   ·exact (r b z).1
  ·intro b b1 b2 Y
   rw [aad b1];exact C b b2 Y
end
theorem afu {α β:Type} (f : α->β):∀ (l:List α) (k:Nat),(l.map f).eraseIdx k=(l.eraseIdx k).map f
 | [],_=>rfl
 | _ :: _,0=>rfl
 | a :: l,k+1=>by simp [afu f l k]
theorem axf {j:Int} {n:Nat} (b:0<=j) (a:j < n):seqIndex? j n=some j.toNat:=by unfold seqIndex?;simp;omega
theorem Dk.frame {H H':Hp} {d p:Addr} {i:Int} {qs:List Addr} (h:Dk H d p i qs) (e:∀ a,a=d\/a=p\/a∈qs->H' a=H a):Dk H' d p i qs :=
 ⟨(e d (.inl rfl)).trans h.dd,(e p (.inr (.inl rfl))).trans h.pp,h.ne,h.le,h.dp,h.dq,h.pq,fun q b=>by rw [e q (.inr (.inr b))];exact h.ql q b⟩
def alw:VIo:=fun A ss Q=>∃ n:Int,A=ODk/\ss=[.st (.int n)]/\0<=n/\n<=61/\∀ row:List Int,Order n row->Q ODk (.own (OL (row.map .int)))
theorem alx {K:Frag} {vs:List V} {H:Hp} {Q:VK} {E:XK} (h:spI K alw vs H Q E):∃ (d p:Addr) (i n:Int) (qs:List Addr),vs=[.ref d,.int n]/\Dk H d p i qs/\0<=n/\n<=61 /\
  ∀ (g:List Int) (l:Addr) (H':Hp) (u:Int),Order n g->Dk H' d p u qs->H l=none->H' l=some (.lst (g.map V.int))->(∀ a o,a ≠ d->a ∉ qs->H a=some o->H' a=some o)->(∀ a xs,H' a=some (.tup xs)->H a=some (.tup xs))->Q (.ref l) H':=by
 obtain ⟨v0,M,G,R,A,ss,F0,N,rfl,gh,ft,C,ap,fg,fr,B,⟨n,rfl,rfl,F,J,k⟩,v⟩:=h
 obtain ⟨d,p,i,qs,rfl,s,q⟩:=ap
 cases B with
 | cons ha hr =>
  cases hr
  cases (show Rp G _ (.int n) from ha)
  refine ⟨d,p,i,n,qs,rfl,s,F,J,fun g l H' u y m j r L I=>v ODk _ (k g y) _ G H' F0 (fun b=>b=l) ?_⟩
  have out:∀ a o,¬ F0 a->H a=some o->H' a=some o:=fun a o z=>L a o (fun e=>z ((q a).mpr (.inl e))) (fun e=>z ((q a).mpr (.inr (.inr e))))
  have D:G l=none:=by
   cases e:G l with
   | none=>rfl
   | some o=>rw [gh l o e] at j;cases j
  refine ⟨Same.refl _,fun a o e=>?_,fun a w e=>?_,fun a o e => .inl e,fun a o e=>?_,fun a o e=>?_,⟨d,p,u,qs,rfl,m,q⟩,fun a z => .inl z,fg,⟨l,g.map V.int,rfl,r,Rps.ints g,fun b=>Iff.rfl⟩,fun a z=>?_⟩
  ·exact out a o (fun z=>by rw [fg a z] at e;cases e) (gh a o e)
  ·exact ft a w (I a _ e)
  ·exact out a o (fun z=>by rw [fr a z] at e;cases e) (C a o e)
  ·by_cases z:F0 a
   ·rcases (q a).mp z with rfl | rfl | z
    ·exact ⟨_,m.dd⟩
    ·exact ⟨_,m.pp⟩
    ·obtain ⟨c,f,x,e⟩:=m.ql a z
     exact ⟨_,e⟩
   ·exact ⟨o,out a o z e⟩
  ·subst z
   refine ⟨j,D,⟨_,r⟩,fun z=>?_⟩
   rcases (q a).mp z with rfl | rfl | z
   ·rw [s.dd] at j;cases j
   ·rw [s.pp] at j;cases j
   ·obtain ⟨c,f,x,e⟩:=s.ql a z
    rw [e] at j;cases j
section
variable {P:Program} {w:World} {K:Frag} {mg:Str->Option Value} {base:Heap}
theorem sc_law_order:FnScope ["deck","n","left"] ["deck","n"] (aar s_law_order):=by row_cond sc
theorem afd (T:Txt K mg):Can P w K mg base "_law_order" 2 ["deck","n"] (spI K alw):=by
 obtain ⟨f,fd,D⟩:=T.d_law_order
 refine D.can (D.fn.ok sc_law_order (fun vs H Q E h=>by obtain ⟨d,p,i,n,qs,rfl,M,h1,h2,k⟩:=alx h;rfl) (fun cdv A outer s H vs Q E hr h=>?_))
 obtain ⟨d,p,i,n,qs,rfl,M,h1,h2,k⟩:=alx h
 have nd:=sc_law_order.nd
 refine ⟨_,(aag (aaq (i:=2) nd rfl (Or.inr rfl) (alg rfl T.b_list rfl T.b_range rfl (aaa (pv 1) aab)))
  (aam (aat (aek rfl (N:=["k","left","deck"]) (src:=[none,some 2,some 0]) (by exact ac0 rfl rfl rfl rfl rfl rfl) (acn rfl T.b_range (aaa (pv 1) aab)) (fun _ _ _ _=>(aax (i:=0) (show List.Nodup (["k","left","deck"]:List Str) by decide +kernel) rfl (Or.inl rfl) (hf:=Or.inr rfl))) (fun _ _ _ _=>acz) (fun _ _ _ _=>(show PE _ _ (tBM K "list" akl _ _) from (ajx PySem.F.plainAttrs_list PySem.F.slot_list_pop PySem.F.type_list_pop aqr (pv 1) (aaa (aae (afc T) hr (aaa (pv 2) (aaa (aai (show aba _ (.builtin "len") (rLen K) from abn) (by rfl) T.b_len acf (aaa (pv 1) aab)) aab))) aab)))))))),?_⟩
 show (_:TS) _ [some (.ref d),some (.int n),none] H
 row_cond hgo
 unfold aho
 row_cond hgo
 refine ⟨n,rfl,h1,by omega,fun m hm=>?_⟩
 row_cond hgo
 refine amo (by omega) (by omega) ?_
 intro g b
 have L:∀ a,a=d\/a=p\/a∈qs->∃ o,H a=some o:=fun a z=>by
  rcases z with rfl | rfl | z
  ·exact ⟨_,M.dd⟩
  ·exact ⟨_,M.pp⟩
  ·obtain ⟨c,f,kk,e⟩:=M.ql a z
   exact ⟨_,e⟩
 have X:∀ a,a=d\/a=p\/a∈qs->a ≠ m:=fun a z e=>by
  obtain ⟨o,O⟩:=L a z
  rw [e,hm] at O;cases O
 have W:g ≠ m:=fun e=>by rw [e,aaf] at b;cases b
 rw [aad W] at b
 have U:∀ a,a=d\/a=p\/a∈qs->a ≠ g:=fun a z e=>by
  obtain ⟨o,O⟩:=L a z
  rw [e,b] at O;cases O
 refine aqx (fun j ys σ B=>∃ (v:Option V) (l left:List Int) (I:Int),σ=[v,some (.ref m),some (.ref d)]/\ys=l.map V.int/\l.length=j/\Order n (l ++ left)/\B m=some (.lst (left.map V.int))/\B g=some (.lst ys)/\Dk B d p I qs/\∀ a,a ≠ d->a ∉ qs->a ≠ m->a ≠ g->B a=H a)
  ⟨_,[],(List.range n.toNat).map fun (i:Nat)=>(i:Int),i,rfl,rfl,rfl,?_,?_,aaf,?_,?_⟩ (fun j ys σ B h=>by obtain ⟨v,l,left,I,_,_,_,_,_,e,_⟩:=h;exact e) ?_ ?_
 ·exact Order.id n
 ·rw [aad W.symm,aaf,aB6];rfl
 ·exact M.frame fun a z=>by rw [aad (U a z),aad (X a z)]
 ·intro a _ _ a1 Z
  rw [aad Z,aad a1]
 ·rintro j ys σ B hj ⟨v,l,left,I,rfl,rfl,R,J,G,u,q,x⟩
  have S:left.length=n.toNat - j:=by have:=J.len;simp at this;omega
  have md:m ≠ d:=(X d (.inl rfl)).symm
  have mq:m ∉ qs:=fun z=>X m (.inr (.inr z)) rfl
  have ad:g ≠ d:=(U d (.inl rfl)).symm
  have aq:g ∉ qs:=fun z=>U g (.inr (.inr z)) rfl
  row_cond hgo
  refine ⟨d,p,I,_,qs,rfl,q,by rw [ay3];omega,by rw [ay3];omega,fun r H3 i3 r0 r1 Y C=>?_⟩
  rw [ay3] at r1
  row_cond hgo
  obtain ⟨y,hy⟩:∃ y,left[r.toNat]?=some y:=⟨_,ay0 (show r.toNat < left.length by omega)⟩
  refine aq0 (y:=.int y) ((C m md mq).trans G) (by omega) (by omega) (axf r0 (by rw [ay3];exact r1)) (by rw [ay5,hy];rfl) ?_
  refine ⟨by rw [aad W];exact (C g ad aq).trans u,aeg (by simp;omega),_,l ++ [y],left.eraseIdx r.toNat,i3,rfl,by simp,by simp [R],aol J hy,?_,aaf,?_,?_⟩
  ·rw [aad W.symm,aaf,afu]
  ·exact Y.frame fun a z=>by rw [aad (U a z),aad (X a z)]
  ·intro a b1 b2 b3 b4
   rw [aad b4,aad b3,C a b1 b2];exact x a b1 b2 b3 b4
 ·rintro ys σ B ⟨v,l,left,I,rfl,rfl,R,J,G,u,q,x⟩
  have S:left=[]:=by have:=J.len;simp at this;exact List.length_eq_zero_iff.mp (by omega)
  subst S
  rw [aC1] at J
  row_cond hgo
  refine k l g B I J q b u (fun a o a1 Z e=>?_) fun a xs e=>?_
  ·rw [x a a1 Z (fun z=>by rw [z,hm] at e;cases e) (fun z=>by rw [z,b] at e;cases e)];exact e
  ·rw [← x a (fun z=>?_) (fun z=>?_) (fun z=>?_) (fun z=>?_)]
   ·exact e
   ·rw [z,q.dd] at e;cases e
   ·obtain ⟨c,f,kk,e2⟩:=q.ql a z
    rw [e2] at e;cases e
   ·rw [z,G] at e;cases e
   ·rw [z,u] at e;cases e
end
def aqe:VIo:=fun A ss Q=>A=ODk/\ss=[]/\∀ (n:Int) (es:List (Int × Int)),1<=n->n<=60->PsOk n es->es.length<=1900->Rise es->Q ODk (.st (webD n es))
def mmP (p:Int × Int):Int × Int:=if p.2 < p.1 then (p.2,p.1) else p
theorem axg {p:Int × Int} {x y:Int} (b:an6 [p.1,p.2] x) (a:an5 [p.1,p.2] y):mmP p=(x,y):=by
 have h:=b.2 p.1 (by simp)
 have g:=b.2 p.2 (by simp)
 have f:=a.2 p.1 (by simp)
 have i:=a.2 p.2 (by simp)
 have d:=b.1
 have c:=a.1
 simp only [ay8,List.not_mem_nil,or_false] at d c
 unfold mmP
 split
 ·exact Prod.ext (by show p.2=x;omega) (by show p.1=y;omega)
 ·exact Prod.ext (by omega) (by omega)
def ixR (row:List Int) (p:Int × Int):Int × Int:=(aa6 row p.1,aa6 row p.2)
theorem aya {n:Int} {c:List Int} {d:List (Int × Int)} (f:Order n c) (h:PsOk n d):(d.map (ixR c)).map mmP=d.map (reP c):=by
 rw [aB6]
 refine aC0 fun p i=>?_
 have:=h.inn p i
 have g:=f.ne (a:=p.1) (b:=p.2) (by omega) (by omega) (by omega) (by omega) (by omega)
 show mmP (aa6 c p.1,aa6 c p.2)=reP c p
 unfold mmP reP
 by_cases h1:aa6 c p.1 < aa6 c p.2
 ·rw [aC6 (by simp only;omega),aC5 h1]
 ·rw [aC5 (by simp only;omega),aC6 h1]
theorem aqf {n:Int} {ps qs:List (Int × Int)} (h:PsOk n ps) (g:PsOk n qs) (d:∀ p∈ps,∀ q∈qs,p ≠ q):PsOk n (ps ++ qs) :=
 ⟨List.nodup_append.mpr ⟨h.nd,g.nd,d⟩,fun p a=>by
  rcases ay7.mp a with z | z
  ·exact h.inn p z
  ·exact g.inn p z⟩
theorem aqg {l:List Int} (h:∀ x∈l,2<=x):0<=l.sum:=by
 induction l with
 | nil=>simp
 | cons a l ih =>
  have:=h a (by simp)
  have:=ih fun x b=>h x (by simp [b])
  simp;omega
theorem asj {sz:List Int} (h:∀ x∈sz,2<=x) {i:Nat} {x:Int} (b:sz[i]?=some x):(sz.take (i+1)).sum=(sz.take i).sum+x/\(sz.take (i+1)).sum<=sz.sum/\0<=(sz.take i).sum:=by
 refine ⟨by rw [aE3,b];simp,?_,aqg fun y a=>h y (az9 a)⟩
 have:=congrArg List.sum (aA0 (i+1) sz)
 rw [List.sum_append] at this
 have:=aqg fun y (a:y∈sz.drop (i+1))=>h y (aA3 a)
 omega
section
variable {P:Program} {w:World} {K:Frag} {mg:Str->Option Value} {base:Heap}
theorem sc_law_crowds:FnScope ["deck","sizes","n","row","ties","at","size","a","b"] ["deck"] (aar s_law_crowds):=by row_cond sc
theorem ail (T:Txt K mg):Can P w K mg base "_law_crowds" 3 ["deck"] (spI K (aqe)):=by
 obtain ⟨f,fd,D⟩:=T.d_law_crowds
 refine D.can (D.fn.ok sc_law_crowds (fun vs H Q E h=>lenI h fun A ss Q' q=>by obtain ⟨rfl,rfl,k⟩:=q;rfl) (fun cdv A outer s H vs Q E J h=>?_))
 have nd:=sc_law_crowds.nd
 refine ⟨_,(aag (aaq (i:=1) nd rfl (Or.inl rfl) (aao aap (aan (aaa (aan (aaa (aak aa7 aac (aae (aah T) J (aaa (pv 0) (aaa aac aab)))) aab)) (aaa (aan (aaa (aak aa7 aac (aae (aah T) J (aaa (pv 0) (aaa aac aab)))) (aaa (aak aa7 aac (aae (aah T) J (aaa (pv 0) (aaa aac aab)))) aab))) aab))) (aae (aah T) J (aaa (pv 0) (aaa aac aab))) (fun _ _=>rfl)))
  (aag (aaq (i:=2) nd rfl (Or.inl rfl) (aak aa7 (aai (aiy rfl) (by rfl) T.b_sum apf (aaa (pv 1) aab)) (aae (aah T) J (aaa (pv 0) (aaa (aak acr aac (aai (aiy rfl) (by rfl) T.b_sum apf (aaa (pv 1) aab))) aab)))))
  (aag (aaq (i:=3) nd rfl (Or.inr rfl) (aae (afd T) J (aaa (pv 0) (aaa (pv 2) aab))))
  (aag (aaq (i:=4) nd rfl (Or.inl rfl) (aan aab))
  (aag (aaq (i:=5) nd rfl (Or.inl rfl) aac)
  (aag (aco aG1 rfl (adg (pv 1)) (aax (i:=6) nd rfl (Or.inl rfl))
   (aag (aco aG1 rfl (aef rfl T.b_range (aaa (pv 5) (aaa (aak aa7 (pv 5) (pv 6)) aab))) (aax (i:=7) nd rfl (Or.inr rfl))
     (aam (afw (ajx PySem.F.plainAttrs_list PySem.F.slot_list_extend PySem.F.type_list_extend ao7 (pv 4) (aaa (aek rfl (N:=["b","row","a"]) (src:=[none,some 3,some 7]) (by exact ac0 rfl rfl rfl rfl rfl rfl) (aef rfl T.b_range (aaa (aak aa7 (pv 7) aac) (aaa (aak aa7 (pv 5) (pv 6)) aab))) (fun _ _ _ _=>(aax (i:=0) (show List.Nodup (["b","row","a"]:List Str) by decide +kernel) rfl (Or.inl rfl) (hf:=Or.inr rfl))) (fun _ _ _ _=>acz) (fun _ _ _ _=>(aaj (aaa (aao (show IxR _ (acu K) from aap) (pv 1) (pv 2) (fun _ _=>rfl)) (aaa (aao (show IxR _ (acu K) from aap) (pv 1) (pv 0) (fun _ _=>rfl)) aab))))) aab)))))
    (aam (aaq (i:=5) nd rfl (Or.inl rfl) (aak aa7 (pv 5) (pv 6))))))
  (aag (aco aG1 rfl (aef rfl T.b_range (aaa (pv 5) (aaa (pv 2) aab))) (aax (i:=8) nd rfl (Or.inl rfl))
   (aam (aa9 (aa2 anp (aae (aah T) J (aaa (pv 0) (aaa aac aab))) aac (aa1 _))
     (aam (afw (ajx PySem.F.plainAttrs_list PySem.F.slot_list_append PySem.F.type_list_append afj (pv 4) (aaa (aaj (aaa (aao aap (pv 3) (aae (aah T) J (aaa (pv 0) (aaa (pv 8) aab))) (fun _ _=>rfl)) (aaa (aao aap (pv 3) (pv 8) (fun _ _=>rfl)) aab))) aab))))
     aaz)))
  (aam (aat (aaj (aaa (pv 2) (aaa (aai an9 (by rfl) T.b_sorted afl (aaa (aek rfl (N:=["tie"]) (src:=[none]) (by exact ac0 rfl rfl rfl rfl rfl rfl) (adg (pv 4)) (fun _ _ _ _=>(aax (i:=0) (show List.Nodup (["tie"]:List Str) by decide +kernel) rfl (Or.inl rfl) (hf:=Or.inr rfl))) (fun _ _ _ _=>acz) (fun _ _ _ _=>(aaj (aaa (aai (show aba _ (.builtin "min") (aj3 K) from (apk rfl)) (by rfl) T.b_min aew (aaa (pv 0) aab)) (aaa (aai (show aba _ (.builtin "max") (aj2 K) from (apj rfl)) (by rfl) T.b_max aev (aaa (pv 0) aab)) aab))))) aab)) aab)))))))))))),?_⟩
 refine aoa h fun A0 ss Q' q B hK=>?_
 obtain ⟨rfl,rfl,k⟩:=q
 show EvS B _ _ [some (.io ODk),none,none,none,none,none,none,none,none]
 row_cond go
 refine ⟨11,rfl,rfl,by omega,by omega,fun r1 c2 a9=>?_⟩
 row_cond go
 refine ⟨15,rfl,rfl,by omega,by omega,fun r2 b7 b9=>?_⟩
 row_cond go
 refine ⟨15,rfl,rfl,by omega,by omega,fun r3 c6 b6=>?_⟩
 row_cond go
 refine ⟨2,rfl,rfl,by omega,by omega,fun r4 c3 b4=>?_⟩
 obtain ⟨sz,I,U,a7,a6⟩:∃ sz:List Int,atI [PyData.list [.int (12+r1)],.list [.int (2+r2),.int (2+r3)]] r4=some (.list (sz.map .int))/\(∀ x∈sz,2<=x)/\(2<=sz.sum/\sz.sum<=32)/\sz.length<=2:=by
  rcases (show r4=0\/r4=1 by omega) with rfl | rfl
  ·exact ⟨[12+r1],rfl,fun x O=>by simp at O;omega,by simp;omega,by simp⟩
  ·exact ⟨[2+r2,2+r3],rfl,fun x O=>by simp at O;omega,by simp;omega,by simp⟩
 row_cond go
 refine am2 rfl ?_
 row_cond go
 refine am2 rfl ?_
 row_cond go
 refine ⟨61 - sz.sum,rfl,rfl,by omega,by omega,fun r5 c5 b2=>?_⟩
 row_cond go
 refine ⟨sz.sum+r5,rfl,rfl,by omega,by omega,fun l M=>am8 ahg ?_⟩
 obtain ⟨n,hn,c4,a5⟩:∃ n,n=sz.sum+r5/\sz.sum<=n/\n<=60:=⟨_,rfl,by omega,by omega⟩
 rw [← hn] at M
 rw [← hn]
 have I:∀ j:Int,0<=j->j < n->∃ x,atI (l.map PyData.int) j=some (.int x)/\0<=x/\x < n/\x=aa6 l j:=fun j X Z=>⟨aa6 l j,acv X (by rw [ay5,(M.at X Z).1];rfl),(M.at X Z).2.1,(M.at X Z).2.2,rfl⟩
 row_cond go
 refine ark (fun i e=>∃ L C G ps,e=[some (.io ODk),some (.st (.list (sz.map .int))),some (.st (.int n)),some (.st (.list (l.map .int))),some (.own (OL ((ps.map (ixR l)).map prD))),some (.st (.int (sz.take i).sum)),L,C,G]/\PsOk n ps/\(ps.length:Int)<=32 * (sz.take i).sum/\∀ p∈ps,p.2 < (sz.take i).sum) ⟨none,none,none,[],rfl,PsOk.nil n,by simp,fun p m=>by cases m⟩ ?_ ?_
 ·rintro i x e O g
  refine exS4 e g fun L C G ps d=>?_
  have r:=d.1
  have v:=d.2.1
  have o:=d.2.2
  clear d g
  have c0:=U x (ay2 O)
  obtain ⟨t1,t2,t3⟩:=asj U O
  rw [t1] at t2
  rw [t1]
  generalize (sz.take i).sum=c at v t2 t3 o
  row_cond go
  refine acy (fun j e=>∃ C G ps,e=[some (.io ODk),some (.st (.list (sz.map .int))),some (.st (.int n)),some (.st (.list (l.map .int))),some (.own (OL ((ps.map (ixR l)).map prD))),some (.st (.int c)),some (.st (.int x)),C,G]/\PsOk n ps/\(ps.length:Int)<=32 * (c+j)/\∀ p∈ps,p.1 < c+(j:Int)/\p.2 < c+x) ⟨_,_,ps,rfl,r,by simpa using v,fun p m=>by have:=o p m;have:=r.inn p m;omega⟩ ?_ ?_
  ·clear r v o ps
   rintro j e hj g
   refine exS3 e g fun C G ps d=>?_
   have r:=d.1
   have v:=d.2.1
   have o:=d.2.2
   clear d g
   have b1:c+(j:Int) < c+x:=by omega
   obtain ⟨xa,ea,a8,b8,a0⟩:=I (c+(j:Int)) (by omega) (by omega)
   row_cond go
   unfold rngD
   refine alu (fun u:Nat=>prD (xa,aa6 l (c+(j:Int)+1+(u:Int)))) rfl (by simp;omega) (fun u R B' hB=>?_) ?_
   ·have W:=az8.mp R
    have hb:=M.at (a:=c+(j:Int)+1+(u:Int)) (by omega) (by omega)
    have eb:atI (l.map PyData.int) (c+(j:Int)+1+(u:Int))=some (.int (aa6 l (c+(j:Int)+1+(u:Int)))):=acv (by omega) (by rw [ay5,hb.1];rfl)
    row_cond go
    rfl
   ·refine ⟨_,_,rfl,rfl,by simp;omega,?_⟩
    dsimp only [List.set_cons_zero,List.set_cons_succ]
    subst a0
    refine ⟨_,_,ps ++ (List.range (c+x - (c+(j:Int)+1)).toNat).map fun u:Nat=>(c+(j:Int),c+(j:Int)+1+(u:Int)),by simp only [aB7,aB6];rfl,aqf r ⟨?_,fun p m=>?_⟩ fun p m q S e=>?_,by simp;omega,fun p m=>?_⟩
    ·exact aD1.mpr (List.nodup_range.imp fun {a b} h e=>h (by have:=congrArg Prod.snd e;simp only at this;omega))
    ·obtain ⟨u,R,rfl⟩:=az6.mp m
     have W:=az8.mp R
     exact ⟨by simp only;omega,by simp only;omega,by simp only;omega⟩
    ·obtain ⟨u,R,rfl⟩:=az6.mp S
     have:=o p m
     rw [e] at this
     simp only at this
     omega
    ·rcases ay7.mp m with z | z
     ·have:=o p z
      omega
     ·obtain ⟨u,R,rfl⟩:=az6.mp z
      have W:=az8.mp R
      exact ⟨by simp only;omega,by simp only;omega⟩
  ·clear r v o ps
   rintro e g
   refine exS3 e g fun C G ps d=>?_
   have r:=d.1
   have v:=d.2.1
   have o:=d.2.2
   clear d g
   row_cond go
   exact ⟨_,_,_,ps,rfl,r,by omega,fun p m=>(o p m).2⟩
 ·rintro e g
  refine exS4 e g fun L C G ps d=>?_
  have r:=d.1
  have v:=d.2.1
  have o:=d.2.2
  clear d g
  rw [aD8] at v o ⊢
  row_cond go
  refine acy (fun j e=>∃ L C G ps,e=[some (.io ODk),some (.st (.list (sz.map .int))),some (.st (.int n)),some (.st (.list (l.map .int))),some (.own (OL ((ps.map (ixR l)).map prD))),some (.st (.int sz.sum)),L,C,G]/\PsOk n ps/\(ps.length:Int)<=1024+j/\∀ p∈ps,p.2 < sz.sum+(j:Int)) ⟨_,_,_,ps,rfl,r,by omega,fun p m=>by have:=o p m;omega⟩ ?_ ?_
  ·clear r v o ps
   rintro j e hj g
   refine exS4 e g fun L C G ps d=>?_
   have r:=d.1
   have v:=d.2.1
   have o:=d.2.2
   clear d g
   obtain ⟨xb,eb,b0,b3,Y⟩:=I (sz.sum+(j:Int)) (by omega) (by omega)
   row_cond go
   refine ⟨5,rfl,rfl,by omega,by omega,fun q qa qb=>?_⟩
   row_cond go
   refine abo (fun S=>?_) (fun S=>?_)
   ·row_cond go
    refine ⟨sz.sum+(j:Int),rfl,rfl,by omega,by omega,fun y ya yb=>?_⟩
    obtain ⟨xy,ey,b5,c1,a1⟩:=I y ya (by omega)
    row_cond go
    subst a1 Y
    refine ⟨_,_,_,ps ++ [(y,sz.sum+(j:Int))],by rw [aB7,aB7];rfl,aqf r ⟨by simp,fun p m=>by cases aA1.mp m;exact ⟨by simp only;omega,by simp only;omega,by simp only;omega⟩⟩ fun p m q S e=>?_,by simp;omega,fun p m=>?_⟩
    ·cases aA1.mp S
     have:=o p m
     rw [e] at this
     simp only at this
     omega
    ·rcases ay7.mp m with z | z
     ·have:=o p z
      push_cast
      omega
     ·cases aA1.mp z
      simp only
      push_cast
      omega
   ·row_cond go
    exact ⟨_,_,_,ps,rfl,r,by push_cast;omega,fun p m=>by have:=o p m;push_cast;omega⟩
  ·clear r v o ps
   rintro e g
   refine exS4 e g fun L C G ps d=>?_
   have r:=d.1
   have v:=d.2.1
   have o:=d.2.2
   clear d g
   row_cond go
   refine ap2 (ps:=ps.map (reP l)) ?_
   row_cond go
   refine alu (xs:=ps.map (ixR l)) (fun p:Int × Int=>prD (mmP p)) rfl (by rw [ay3];omega) (fun p m B' hB=>?_) ?_
   ·row_cond go
    refine arv (ns:=[p.1,p.2]) rfl (by simp) fun m1 a3=>?_
    row_cond go
    refine aru (ns:=[p.1,p.2]) rfl (by simp) fun m2 a4=>?_
    row_cond go
    exact ⟨by rw [axg a3 a4],rfl⟩
   ·row_cond go
    refine ⟨by rw [← aya M r];simp only [aB6];rfl,fun qs m hs=>abm ?_⟩
    row_cond go
    have hR:=r.re M
    exact k n qs (by omega) a5 ⟨m.nodup_iff.mpr hR.nd,fun p a2=>hR.inn p (m.mem_iff.mp a2)⟩ (by rw [m.length_eq,ay3];omega) (am7 m hR.nd hs)
end
section
variable {P:Program} {w:World} {K:Frag} {mg:Str->Option Value} {base:Heap}
theorem sc_law_web:FnScope ["deck","n","row","kind","ties","k","heads","head","a","b"] ["deck"] (aar s_law_web):=by row_cond sc
theorem amc (T:Txt K mg):Can P w K mg base "_law_web" 4 ["deck"] (spI K (aqe)):=by
 obtain ⟨f,fd,D⟩:=T.d_law_web
 refine D.can (D.fn.ok sc_law_web (fun vs H Q E h=>lenI h fun A ss Q' q=>by obtain ⟨rfl,rfl,k⟩:=q;rfl) (fun cdv A outer s H vs Q E c h=>?_))
 have nd:=sc_law_web.nd
 refine ⟨_,(aag (aa9 (aa2 adm (aae (aah T) c (aaa (pv 0) (aaa aac aab))) aac (aa1 _))
   (aam (aat (aae (ail T) c (aaa (pv 0) aab))))
   aaz)
  (aag (aaq (i:=1) nd rfl (Or.inl rfl) (aak aa7 aac (aae (aah T) c (aaa (pv 0) (aaa (aao aap (aan (aaa aac (aaa aac (aaa aac (aaa aac aab))))) (aae (aah T) c (aaa (pv 0) (aaa aac aab))) (fun _ _=>rfl)) aab)))))
  (aag (aaq (i:=2) nd rfl (Or.inl rfl) (aao aap (aan (aaa (alg rfl T.b_list rfl T.b_range rfl (aaa (pv 1) aab)) (aaa (aae (afd T) c (aaa (pv 0) (aaa (pv 1) aab))) aab))) (aae (aah T) c (aaa (pv 0) (aaa aac aab))) (fun _ _=>rfl)))
  (aag (aaq (i:=3) nd rfl (Or.inl rfl) (aae (aah T) c (aaa (pv 0) (aaa aac aab))))
  (aag (aaq (i:=4) nd rfl (Or.inl rfl) ako)
  (aag (aco aG1 rfl (aef rfl T.b_range (aaa aac (aaa (pv 1) aab))) (aax (i:=5) nd rfl (Or.inl rfl))
   (aag (aaq (i:=6) nd rfl (Or.inl rfl) (aan (aaa (aak acr (pv 5) aac) (aaa (aae (aah T) c (aaa (pv 0) (aaa (pv 5) aab))) (aaa (aai (ac7 rfl) (by rfl) T.b_max aev (aaa aac (aaa (aak acr (aak acr (pv 5) aac) (aae (aah T) c (aaa (pv 0) (aaa aac aab)))) aab))) (aaa aac (aaa (aak ahy (pv 5) aac) aab)))))))
    (aag (aaq (i:=7) nd rfl (Or.inl rfl) (aao aap (aak aby (pv 6) (aan (aaa (aae (aah T) c (aaa (pv 0) (aaa (aai (ac8 rfl) (by rfl) T.b_min aew (aaa (pv 5) (aaa aac aab))) aab))) aab))) (pv 3) (fun _ _=>rfl)))
    (aam (ah1 (ajy c) (pv 4) (aaj (aaa (aai (ac8 rfl) (by rfl) T.b_min aew (aaa (aao aap (pv 2) (pv 5) (fun _ _=>rfl)) (aaa (aao aap (pv 2) (pv 7) (fun _ _=>rfl)) aab))) (aaa (aai (ac7 rfl) (by rfl) T.b_max aev (aaa (aao aap (pv 2) (pv 5) (fun _ _=>rfl)) (aaa (aao aap (pv 2) (pv 7) (fun _ _=>rfl)) aab))) aab))) abr rfl)))))
  (aag (aa9 (PW.pt (aow (aa2 adm (aae (aah T) c (aaa (pv 0) (aaa aac aab))) aac (aa1 _)) (ame (aa2 anp (pv 1) aac (aa1 _)))))
   (aam (ah1 (ajy c) (pv 4) (aaj (aaa (aai (ac8 rfl) (by rfl) T.b_min aew (aaa (aao aap (pv 2) aac (fun _ _=>rfl)) (aaa (aao aap (pv 2) (ae2 ad5 aac) (fun _ _=>rfl)) aab))) (aaa (aai (ac7 rfl) (by rfl) T.b_max aev (aaa (aao aap (pv 2) aac (fun _ _=>rfl)) (aaa (aao aap (pv 2) (ae2 ad5 aac) (fun _ _=>rfl)) aab))) aab))) abr rfl))
   aaz)
  (aag (aco aG1 rfl (acn rfl T.b_range (aaa (aao aap (aan (aaa aac (aaa (aae (aah T) c (aaa (pv 0) (aaa aac aab))) (aaa (aae (aah T) c (aaa (pv 0) (aaa (aak aa7 (pv 1) aac) aab))) (aaa (aae (aah T) c (aaa (pv 0) (aaa (aak afi aac (pv 1)) aab))) aab))))) (aae (aah T) c (aaa (pv 0) (aaa aac aab))) (fun _ _=>rfl)) aab)) (aax (i:=5) nd rfl (Or.inl rfl))
   (aag (aaq (i:=8) nd rfl (Or.inl rfl) (aae (aah T) c (aaa (pv 0) (aaa (pv 1) aab))))
    (aag (aaq (i:=9) nd rfl (Or.inl rfl) (aae (aah T) c (aaa (pv 0) (aaa (pv 1) aab))))
    (aam (aa9 (aa2 ag3 (pv 8) (pv 9) (aa1 _))
     (aam (ah1 (ajy c) (pv 4) (aaj (aaa (aai (ac8 rfl) (by rfl) T.b_min aew (aaa (pv 8) (aaa (pv 9) aab))) (aaa (aai (ac7 rfl) (by rfl) T.b_max aev (aaa (pv 8) (aaa (pv 9) aab))) aab))) abr rfl))
     aaz)))))
  (aag (aco aG1 rfl (acn rfl T.b_range (aaa (aao aap (aan (aaa aac (aaa aac (aaa (aae (aah T) c (aaa (pv 0) (aaa aac aab))) (aaa (aae (aah T) c (aaa (pv 0) (aaa (aak aa7 (pv 1) aac) aab))) aab))))) (aae (aah T) c (aaa (pv 0) (aaa aac aab))) (fun _ _=>rfl)) aab)) (aax (i:=5) nd rfl (Or.inl rfl))
   (aam (aa9 (aa2 (aw8 c.units) (pv 4) ako (aa1 _))
     (aam (afw (ar9 (ajy c) (pv 4) (aao aap (aai (agl rfl) (by rfl) T.b_sorted afl (aaa (pv 4) aab)) (aae (aah T) c (aaa (pv 0) (aaa (aai ap5 (by rfl) T.b_len acf (aaa (pv 4) aab)) aab))) (fun _ _=>rfl)) ⟨rfl,rfl,rfl,rfl⟩)))
     aaz)))
  (aam (aat (aaj (aaa (pv 1) (aaa (aai (agl rfl) (by rfl) T.b_sorted afl (aaa (pv 4) aab)) aab)))))))))))))),?_⟩
 refine aoa h fun A0 ss Q' q B hK=>?_
 obtain ⟨rfl,rfl,k⟩:=q
 show EvS B _ _ [some (.io ODk),none,none,none,none,none,none,none,none,none]
 row_cond go
 refine ⟨8,rfl,rfl,by omega,by omega,fun r0 c9 f3=>?_⟩
 row_cond go
 refine abo (fun a6=>?_) (fun a6=>?_)
 ·row_cond go
  exact ⟨rfl,rfl,fun n es Y n1 g z c=>⟨ODk,rfl,k n es Y n1 g z c⟩⟩
 ·row_cond go
  refine ⟨4,rfl,rfl,by omega,by omega,fun L g3 b8=>?_⟩
  obtain ⟨M,d9,c3,e7⟩:∃ M:Int,atI [PyData.int 4,PyData.int 12,PyData.int 12,PyData.int 60] L=some (.int M)/\4<=M/\M<=60:=by
   rcases (show L=0\/L=1\/L=2\/L=3 by omega) with rfl | rfl | rfl | rfl
   ·exact ⟨4,rfl,by omega,by omega⟩
   ·exact ⟨12,rfl,by omega,by omega⟩
   ·exact ⟨12,rfl,by omega,by omega⟩
   ·exact ⟨60,rfl,by omega,by omega⟩
  row_cond go
  refine ⟨M,rfl,rfl,by omega,by omega,fun r2 e2 f1=>?_⟩
  row_cond go
  obtain ⟨n,hn,Y,n1⟩:∃ n,1+r2=n/\1<=n/\n<=60:=⟨_,rfl,by omega,by omega⟩
  rw [hn]
  row_cond go
  refine ⟨n,rfl,rfl,by omega,by omega,fun G S=>abm ?_⟩
  row_cond go
  refine ⟨2,rfl,rfl,by omega,by omega,fun r3 g6 e1=>?_⟩
  obtain ⟨d,b7,J⟩:∃ d:List Int,atI [PyData.list (rngD 0 n.toNat),PyData.list (G.map .int)] r3=some (.list (d.map .int))/\Order n d:=by
   rcases (show r3=0\/r3=1 by omega) with rfl | rfl
   ·exact ⟨(List.range n.toNat).map fun (i:Nat)=>(i:Int),by show some _=some _;rw [auy],Order.id n⟩
   ·exact ⟨G,rfl,S⟩
  have C:∀ j:Int,0<=j->j < n->∃ x,atI (d.map PyData.int) j=some (.int x)/\0<=x/\x < n/\x=aa6 d j:=fun j R U=>⟨aa6 d j,acv R (by rw [ay5,(J.at R U).1];rfl),(J.at R U).2.1,(J.at R U).2.2,rfl⟩
  row_cond go
  refine ⟨6,rfl,rfl,by omega,by omega,fun kind ka kb=>?_⟩
  row_cond go
  rw [aw3]
  refine acy (fun i e=>∃ y u l v o ps,e=[some (.io ODk),some (.st (.int n)),some (.st (.list (d.map .int))),some (.st (.int kind)),some (.own (OT (kE ps))),y,u,l,v,o]/\PsOk n ps/\ps.length<=i) ⟨_,_,_,_,_,[],rfl,PsOk.nil n,ay6 _⟩ ?_ ?_
  ·rintro i e hi b
   refine exS6 e b fun y u l v o ps a=>?_
   have g:=a.1
   have z:=a.2
   clear a b
   have a5:1+(i:Int) < n:=by omega
   obtain ⟨xk,ek,g1,f9,Z⟩:=C (1+(i:Int)) (by omega) a5
   have I:(kE ps).length<=999999:=by rw [aen];omega
   row_cond go
   refine ⟨1+(i:Int),rfl,rfl,by omega,by omega,fun d1 c5 e6=>?_⟩
   row_cond go
   refine ⟨3,rfl,rfl,by omega,by omega,fun d2 g7 e9=>?_⟩
   iterate 16 row_cond st
   refine am8 ahg ?_
   row_cond go
   refine ⟨_,rfl,rfl,by split <;> omega,by split <;> omega,fun d3 b9 a9=>?_⟩
   have e4:d3 < 1+(i:Int):=by split at a9 <;> omega
   obtain ⟨hd,d0,X,f7⟩:∃ hd:Int,atI ([PyData.int (1+(i:Int) - 1),PyData.int d1,PyData.int (if 1+(i:Int) - 1 - d2 > 0 then 1+(i:Int) - 1 - d2 else 0),PyData.int 0,PyData.int ((1+(i:Int)) / 2)] ++ [PyData.int d3]) kind=some (.int hd)/\0<=hd/\hd < 1+(i:Int):=by
    rcases (show kind=0\/kind=1\/kind=2\/kind=3\/kind=4\/kind=5 by omega) with rfl | rfl | rfl | rfl | rfl | rfl
    ·exact ⟨_,rfl,by omega,by omega⟩
    ·exact ⟨_,rfl,by omega,by omega⟩
    ·exact ⟨_,rfl,by split <;> omega,by split <;> omega⟩
    ·exact ⟨_,rfl,by omega,by omega⟩
    ·exact ⟨_,rfl,by omega,by omega⟩
    ·exact ⟨_,rfl,by omega,by omega⟩
   obtain ⟨xh,eh,f8,c7,b5⟩:=C hd X (by omega)
   have b0:xk ≠ xh:=by rw [Z,b5];exact J.ne (by omega) (by omega) (by omega) (by omega) (by omega)
   row_cond go
   rw [alj]
   exact ⟨_,_,_,_,_,_,rfl,g.add (by split <;> omega) (by split <;> split <;> omega) (by split <;> omega),aA9 agz (by omega)⟩
  ·rintro e b
   refine exS6 e b fun y u l v o ps a=>?_
   have g:=a.1
   have z:=a.2
   clear a b
   have I:(kE ps).length<=999999:=by rw [aen];omega
   obtain ⟨x0,e0,e5,g2,b4⟩:=C 0 (by omega) (by omega)
   obtain ⟨xl,el,f0,c6,a8⟩:∃ x,atI (d.map PyData.int) (-1)=some (.int x)/\0<=x/\x < n/\x=aa6 d (n - 1):=by
    obtain ⟨x,ex,x0,x1,W⟩:=C (n - 1) (by omega) (by omega)
    refine ⟨x,?_,x0,x1,W⟩
    have hl:(d.map PyData.int).length=n.toNat:=by rw [ay3];exact J.len
    have h2:ixN n.toNat (-1)=some (n.toNat - 1):=by unfold ixN;rw [aC6 (by omega),aC5 (by omega)];congr 1;omega
    have h3:ixN n.toNat (n - 1)=some (n.toNat - 1):=by unfold ixN;rw [aC5 (by omega),aC5 (by omega)];congr 1;omega
    unfold atI at ex ⊢
    rw [hl,h3] at ex
    rw [hl,h2]
    exact ex
   refine' amw (by assumption) ?_
   refine alc (fun c_ e3=>?_)
   refine ar7 (fun e=>∃ ps,e=[some (.io ODk),some (.st (.int n)),some (.st (.list (d.map .int))),some (.st (.int kind)),some (.own (OT (kE ps))),y,u,l,v,o]/\PsOk n ps/\ps.length<=61) ?_ ?_
   ·row_cond go
    refine ⟨4,rfl,rfl,by omega,by omega,fun q qa qb=>?_⟩
    row_cond go
    refine abo (fun h=>?_) (fun h=>?_)
    ·row_cond go
     refine abo (fun h=>?_) (fun h=>?_)
     ·row_cond go
      rw [alj]
      have b0:x0 ≠ xl:=by rw [b4,a8];exact J.ne (by omega) (by omega) (by omega) (by omega) (by omega)
      exact ⟨_,rfl,g.add (by split <;> omega) (by split <;> split <;> omega) (by split <;> omega),aA9 agz (by omega)⟩
     ·row_cond go
      exact ⟨ps,rfl,g,by omega⟩
    ·row_cond go
     exact ⟨ps,rfl,g,by omega⟩
   ·clear g z I ps
    rintro e b
    refine exS1 e b fun ps a=>?_
    have g:=a.1
    have z:=a.2
    clear a b
    row_cond go
    refine ⟨4,rfl,rfl,by omega,by omega,fun a1 c2 c0=>?_⟩
    row_cond go
    refine ⟨n+1,rfl,rfl,by omega,by omega,fun a2 d8 f4=>?_⟩
    row_cond go
    refine ⟨4 * n,rfl,rfl,by omega,by omega,fun a3 c1 g4=>?_⟩
    row_cond go
    refine ⟨4,rfl,rfl,by omega,by omega,fun O c4 g5=>?_⟩
    obtain ⟨m,em,m0,m1⟩:∃ m:Int,atI [PyData.int 0,PyData.int a1,PyData.int a2,PyData.int a3] O=some (.int m)/\0<=m/\m<=240:=by
     rcases (show O=0\/O=1\/O=2\/O=3 by omega) with rfl | rfl | rfl | rfl <;> exact ⟨_,rfl,by omega,by omega⟩
    row_cond go
    refine acy (fun i e=>∃ y u l v o ps,e=[some (.io ODk),some (.st (.int n)),some (.st (.list (d.map .int))),some (.st (.int kind)),some (.own (OT (kE ps))),y,u,l,v,o]/\PsOk n ps/\ps.length<=61+i) ⟨_,_,_,_,_,ps,rfl,g,z⟩ ?_ ?_
    ·rintro i e hi b
     refine exS6 e b fun y u l v o ps a=>?_
     have g:=a.1
     have z:=a.2
     clear a b
     have I:(kE ps).length<=999999:=by rw [aen];omega
     row_cond go
     refine ⟨n,rfl,rfl,by omega,by omega,fun ba d6 d4=>?_⟩
     row_cond go
     refine ⟨n,rfl,rfl,by omega,by omega,fun bb f2 c8=>?_⟩
     row_cond go
     refine atu (fun h=>?_) (fun h=>?_)
     ·row_cond go
      rw [alj]
      exact ⟨_,_,_,_,_,_,rfl,g.add (by split <;> omega) (by split <;> split <;> omega) (by split <;> omega),aA9 agz (by omega)⟩
     ·row_cond go
      exact ⟨_,_,_,_,_,ps,rfl,g,by omega⟩
    ·rintro e b
     refine exS6 e b fun y u l v o ps a=>?_
     have g:=a.1
     have z:=a.2
     clear a b
     row_cond go
     refine ⟨6,rfl,rfl,by omega,by omega,fun b1 g8 e8=>?_⟩
     row_cond go
     refine ⟨n+1,rfl,rfl,by omega,by omega,fun b2 g9 h0=>?_⟩
     row_cond go
     refine ⟨4,rfl,rfl,by omega,by omega,fun N f5 d7=>?_⟩
     obtain ⟨m',g0,f6,d5⟩:∃ m:Int,atI [PyData.int 0,PyData.int 1,PyData.int b1,PyData.int b2] N=some (.int m)/\0<=m/\m<=61:=by
      rcases (show N=0\/N=1\/N=2\/N=3 by omega) with rfl | rfl | rfl | rfl <;> exact ⟨_,rfl,by omega,by omega⟩
     row_cond go
     have a0:ps.length<=301:=by omega
     refine acy (fun i e=>∃ y u l v o ps,e=[some (.io ODk),some (.st (.int n)),some (.st (.list (d.map .int))),some (.st (.int kind)),some (.own (OT (kE ps))),y,u,l,v,o]/\PsOk n ps/\ps.length<=301) ⟨_,_,_,_,_,ps,rfl,g,a0⟩ ?_ ?_
     ·rintro i e hi b
      refine exS6 e b fun y u l v o ps a=>?_
      have g:=a.1
      have z:=a.2
      clear a b
      iterate 3 row_cond st
      refine aw9 (.inl rfl) ?_
      row_cond go
      cases hps:ps with
      | nil =>
       refine acg ?_
       row_cond go
       exact ⟨_,_,_,_,_,[],rfl,PsOk.nil n,by simp⟩
      | cons p0 pr =>
       have b6:0 < ps.length:=by rw [hps];simp
       rw [← hps]
       rw [aC5 (show (!(kE ps).isEmpty)=true by rw [hps];rfl)]
       refine alb (abd ?_)
       refine asa (.inl rfl) ?_
       refine as6 ?_
       refine aa8 (ahq (.inl rfl) fun qs F hs=>abm ?_)
       refine ai5 rfl ?_
       refine ak9 (au0 (.inl rfl) ?_)
       row_cond go
       rw [aen]
       refine ⟨_,rfl,rfl,by omega,by omega,fun r ra rb=>?_⟩
       obtain ⟨q,hq⟩:∃ q,qs[r.toNat]?=some q:=⟨_,ay0 (show r.toNat < qs.length by rw [F.length_eq];omega)⟩
       have eq:atI (qs.map prD) r=some (prD q):=acv ra (by rw [ay5,hq];rfl)
       obtain ⟨j,hj⟩:=List.getElem?_of_mem (F.mem_iff.mp (ay2 hq))
       row_cond go
       refine ⟨kE ps,[Sum.inl q.1,Sum.inl q.2],j,.bool true,rfl,rfl,by unfold kE;rw [ay5,hj];rfl,?_⟩
       dsimp only [List.set_cons_zero,List.set_cons_succ]
       row_cond go
       exact ⟨_,_,_,_,_,ps.eraseIdx j,by rw [show (kE ps).eraseIdx j=kE (ps.eraseIdx j) from afu _ _ _],⟨g.nd.sublist (List.eraseIdx_sublist ps j),fun p F=>g.inn p ((List.eraseIdx_sublist ps j).mem F)⟩,aA9 (List.length_eraseIdx_le ps j) z⟩
     ·rintro e b
      refine exS6 e b fun y u l v o ps a=>?_
      have g:=a.1
      have z:=a.2
      clear a b
      iterate 6 row_cond st
      refine aa8 (ahq (.inl rfl) fun qs F hs=>abm ?_)
      row_cond go
      exact k n qs Y n1 ⟨F.nodup_iff.mpr g.nd,fun p a7=>g.inn p (F.mem_iff.mp a7)⟩ (by rw [F.length_eq];omega) (am7 F g.nd hs)
end
mutual
def fewD:PyData->Bool
 | .list xs | .tuple xs=>decide (xs.length<=10000) && fewDs xs
 | _=>true
def fewDs:List PyData->Bool
 | []=>true
 | x :: xs=>fewD x && fewDs xs
end
theorem aqh (ds:List PyData):fewDs ds=true ↔ ∀ d∈ds,fewD d=true:=by
 induction ds with
 | nil=>simp [fewDs]
 | cons d ds ih=>simp [fewDs,ih]
theorem ahv {ds:List PyData} (h:(decide (ds.length<=10000) && fewDs ds)=true):ds.length<=10000/\∀ d∈ds,fewD d=true:=by
 have:ds.length<=10000/\fewDs ds=true:=by simpa using h
 exact ⟨this.1,(aqh ds).mp this.2⟩
theorem ag1:∀ (ds:List PyData) (d:PyData),d∈ds->d.depth<=PyData.depthAll ds
 | x :: xs,d,h=>by
  have e:PyData.depthAll (x :: xs)=max x.depth (PyData.depthAll xs):=by simp [PyData.depthAll]
  rw [e]
  rcases ay8.mp h with rfl | h
  ·exact Nat.le_max_left _ _
  ·exact aA9 (ag1 xs d h) (Nat.le_max_right _ _)
def aoq (D:PyData):Prop:=∀ kvs,D=.dict kvs->kvs=[]
structure Grw (G H G' H':Hp):Prop where
 hh:Same H H'
 gg:Same G G'
 gh:Same G' H'
 gn:∀ a o,G' a=some o->G a=some o\/H a=none
theorem Grw.refl {G H:Hp} (g:Same G H):Grw G H G H:=⟨Same.refl _,Same.refl _,g,fun a o e => .inl e⟩
theorem Grw.trans {G H f b c d:Hp} (x:Grw G H f b) (y:Grw f b c d):Grw G H c d:=⟨x.hh.trans y.hh,x.gg.trans y.gg,y.gh,fun a o e=>by
 rcases y.gn a o e with z | z
 ·exact x.gn a o z
 ·cases q:H a with
  | none=>exact .inr rfl
  | some u=>rw [x.hh a u q] at z;cases z⟩
theorem Grw.put {G H c d:Hp} (x:Grw G H c d) {a:Addr} (e:d a=none) (o:HO):Grw G H (upd c a o) (upd d a o):=by
 have f:c a=none:=by
  cases q:c a with
  | none=>rfl
  | some u=>rw [x.gh a u q] at e;cases e
 refine ⟨x.hh.trans (aa3 e),x.gg.trans (aa3 f),fun b u q=>?_,fun b u q=>?_⟩
 ·by_cases z:b=a
  ·subst z;rw [aaf] at q ⊢;exact q
  ·rw [aad z] at q ⊢;exact x.gh b u q
 ·by_cases z:b=a
  ·subst z
   refine .inr ?_
   cases q:H b with
   | none=>rfl
   | some v=>rw [x.hh b v q] at e;cases e
  ·rw [aad z] at q;exact x.gn b u q
def axh (d:Nat):Sp:=fun vs H Q _=>∃ (x:V) (D:PyData) (G:Hp),vs=[x]/\Same G H/\Rp G x D/\D.depth+1<=d/\D.depth<=50/\fewD D=true/\∀ y G' H',Grw G H G' H'->Rp G' y D->Sam G' D.depth y x->(aoq D->TopS G' y x)->Q y H'
theorem aim {G:Hp}:∀ {vs:List V} {ds:List PyData} {i:Nat} {d:PyData},Rps G vs ds->ds[i]?=some d->∃ v,vs[i]?=some v/\Rp G v d
 | _,_,0,_,.cons r _,e=>by simp at e;subst e;exact ⟨_,rfl,r⟩
 | _,_,i+1,_,.cons _ t,e=>by
  obtain ⟨v,b,a⟩:=aim t (i:=i) (by simpa using e)
  exact ⟨v,by simpa using b,a⟩
 | _,_,_,_,.nil,e=>by simp at e
theorem aly {G:Hp} {vs:List V} {ds:List PyData} {v:V} {d:PyData} (h:Rps G vs ds) (r:Rp G v d):Rps G (vs ++ [v]) (ds ++ [d]):=by
 induction vs generalizing ds with
 | nil=>cases h;exact .cons r .nil
 | cons x xs ih =>
  cases h with
  | cons h1 h2=>exact .cons h1 (ih h2)
section
variable {P:Program} {w:World} {K:Frag} {mg:Str->Option Value} {base:Heap}
theorem sc_law_deep:FnScope ["thing"] ["thing"] (aar s_law_deep):=by row_cond sc
theorem alz (T:Txt K mg):∀ d,Can P w K mg base "_law_deep" d ["thing"] (axh d):=by
 intro d
 obtain ⟨f,fd,D⟩:=T.d_law_deep
 induction d with
 | zero=>exact D.can ⟨fun vs H Q E h=>(by obtain ⟨x,DD,G,_,_,_,h,_⟩:=h;omega),fun A outer s H args us vs Q E _ _ _ _ h=>(by obtain ⟨x,DD,G,_,_,_,h,_⟩:=h;omega)⟩
 | succ d ih =>
  refine D.can (D.fn.ok sc_law_deep (fun vs H Q E h=>?_) (fun cdv A outer s H vs Q E F h=>?_))
  ·obtain ⟨x,DD,G,rfl,_⟩:=h
   rfl
  obtain ⟨x,DD,G,rfl,gh,rx,hd,a1,S,k⟩:=h
  have nd:=sc_law_deep.nd
  refine ⟨_,(aag (aa9 (ace (aai abh (by rfl) T.b_isinstance aa0 (aaa (pv 0) (aaa (abw (v:=.ty "list") rfl T.b_list aex rfl) aab))))
   (aam (aat (aek rfl (N:=["one"]) (src:=[none]) (by exact ac0 rfl rfl rfl rfl rfl rfl) (adg (pv 0)) (fun _ _ _ _=>(aax (i:=0) (show List.Nodup (["one"]:List Str) by decide +kernel) rfl (Or.inl rfl) (hf:=Or.inr rfl))) (fun _ _ _ _=>acz) (fun _ _ _ _=>(aae ih F (aaa (pv 0) aab) (hj:=ay6 _))))))
   aaz)
  (aag (aa9 (ace (aai abh (by rfl) T.b_isinstance aa0 (aaa (pv 0) (aaa (abw (v:=.ty "tuple") rfl T.b_tuple acw rfl) aab))))
   (aam (aat (adr aja (by rfl) T.b_tuple acw (aaa (aek rfl (N:=["one"]) (src:=[none]) (by exact ac0 rfl rfl rfl rfl rfl rfl) (avl (pv 0)) (fun _ _ _ _=>(aax (i:=0) (show List.Nodup (["one"]:List Str) by decide +kernel) rfl (Or.inl rfl) (hf:=Or.inr rfl))) (fun _ _ _ _=>acz) (fun _ _ _ _=>(aae ih F (aaa (pv 0) aab) (hj:=ay6 _)))) aab))))
   aaz)
  (aam (aat (pv 0))))),?_⟩
  show (_:TS) _ [some x] H
  row_cond hgo
  refine anz (af4 (abt (ab4 rfl (abt (go_c (acs (ahc (aj8 (rx.same gh)) (ahk am4 DD) (af3 ?_))))))))
  have a2:=rx
  cases a2 with
  | @lst a xs ds ha qx =>
   have hf:=ahv (ds:=ds) (by simpa [fewD] using S)
   have Z:=qx.length
   have a3:PyData.depthAll ds+1+1<=d+1/\PyData.depthAll ds+1<=50:=⟨hd,a1⟩
   refine abp ?_
   refine akp (an0 (aqz (ab4 rfl (av6 (gh _ _ ha) ?_))))
   intro c m
   refine atn (xs:=xs) (fun i ys σ C=>∃ v n,σ=[v]/\C c=some (.lst ys)/\Grw G H n C/\n c=none/\ys.length=i/\Rps n ys (ds.take i)/\∀ (j:Nat) y x,ys[j]?=some y->xs[j]?=some x->Sam n (PyData.depthAll ds) y x) ⟨_,G,rfl,aaf,⟨aa3 m,Same.refl _,gh.trans (aa3 m),fun a o e => .inl e⟩,ab5 gh m,rfl,.nil,fun j y x e=>by simp at e⟩ (fun i ys σ C h=>by obtain ⟨v,n,_,h,_⟩:=h;exact h) (fun i ys σ C hi h=>by obtain ⟨v,n,_,_,g,_⟩:=h;exact SqL.of (g.hh _ _ (gh _ _ ha))) ?_ ?_
   ·rintro i x ys σ C X ⟨v,n,rfl,I,r,U,J,F,hs⟩
    have hi:i < xs.length:=(ay1.mp X).1
    have p:i < ds.length:=by omega
    obtain ⟨x',R,r1⟩:=aim qx (ay0 p)
    rw [X] at R
    cases R
    have Y:=ag1 ds ds[i] (aC3 p)
    refine af2 (ag8 (abp (ah2 (abt (ab4 rfl (acs ⟨x,ds[i],n,rfl,r.gh,r1.same r.gg,by omega,by omega,hf.2 _ (aC3 p),fun y W H3 u ry sy _=>?_⟩))))))
    have e3:=u.hh _ _ I
    have n3:W c=none:=by
     cases q:W c with
     | none=>rfl
     | some o =>
      rcases u.gn c o q with z | z
      ·rw [U] at z;cases z
      ·rw [I] at z;cases z
    have M:=r.trans u
    refine ⟨e3,by rw [J];exact big (by omega),_,W,rfl,aaf,⟨fun b o q=>?_,M.gg,fun b o q=>?_,M.gn⟩,n3,by simp [J],?_,fun j y' x' B L=>?_⟩
    ·rw [aad (fun z=>by rw [z,m] at q;cases q)];exact M.hh b o q
    ·rw [aad (fun z=>by rw [z,n3] at q;cases q)];exact M.gh b o q
    ·rw [List.take_succ_eq_append_getElem p]
     exact aly (Rps.same u.gg F) ry
    ·by_cases hj:j < ys.length
     ·rw [aA2 hj] at B
      exact (hs j y' x' B L).keep u.gg
     ·have:j=i:=by
       have:=(ay1.mp B).1
       simp at this
       omega
      subst this
      rw [aA7 (by omega),show j - ys.length=0 by omega] at B
      cases B
      rw [X] at L
      cases L
      exact sy.more Y
   ·rintro ys σ C ⟨v,n,rfl,I,r,U,J,F,hs⟩
    rw [Z,aD8] at F
    have n0:H c=none:=m
    have u:Grw G H (upd n c (.lst ys)) C:=by
     refine ⟨r.hh,r.gg.trans (aa3 U),fun b o q=>?_,fun b o q=>?_⟩
     ·by_cases z:b=c
      ·subst z;rw [aaf] at q;cases q;exact I
      ·rw [aad z] at q;exact r.gh b o q
     ·by_cases z:b=c
      ·subst z;exact .inr n0
      ·rw [aad z] at q;exact r.gn b o q
    have O:Same n (upd n c (.lst ys)):=aa3 U
    have hi:∀ (i:Nat) x y,ys[i]?=some x->xs[i]?=some y->Sam (upd n c (.lst ys)) (PyData.depthAll ds) x y:=fun i x y B L=>(hs i x y B L).keep O
    exact k _ _ _ u (.lst aaf (Rps.same O F)) (.lst aaf (O _ _ (r.gg _ _ ha)) J hi) fun _ => .lst (by omega) aaf (O _ _ (r.gg _ _ ha)) J hi
  | @tup a xs ds ha qx =>
   have hf:=ahv (ds:=ds) (by simpa [fewD] using S)
   have Z:=qx.length
   have a3:PyData.depthAll ds+1+1<=d+1/\PyData.depthAll ds+1<=50:=⟨hd,a1⟩
   refine acg ?_
   row_cond hgo
   refine anz (af4 (abt (ab4 rfl (abt (go_c (acs (ahc (aj8 (rx.same gh)) (ahk agx _) (af3 (abp ?_)))))))))
   refine akp (af4 (abt (an0 (atv (ab4 rfl (av7 (gh _ _ ha) ?_))))))
   intro c m
   refine axb (xs:=xs) (fun i ys σ C=>∃ v n,σ=[v]/\C c=some (.lst ys)/\Grw G H n C/\n c=none/\ys.length=i/\Rps n ys (ds.take i)/\∀ (j:Nat) y x,ys[j]?=some y->xs[j]?=some x->Sam n (PyData.depthAll ds) y x) ⟨_,G,rfl,aaf,⟨aa3 m,Same.refl _,gh.trans (aa3 m),fun a o e => .inl e⟩,ab5 gh m,rfl,.nil,fun j y x e=>by simp at e⟩ (fun i ys σ C h=>by obtain ⟨v,n,_,h,_⟩:=h;exact h) (fun i ys σ C hi h=>by obtain ⟨v,n,_,_,g,_⟩:=h;exact SqT.of (g.hh _ _ (gh _ _ ha))) ?_ ?_
   ·rintro i x ys σ C X ⟨v,n,rfl,I,r,U,J,F,hs⟩
    have hi:i < xs.length:=(ay1.mp X).1
    have p:i < ds.length:=by omega
    obtain ⟨x',R,r1⟩:=aim qx (ay0 p)
    rw [X] at R
    cases R
    have Y:=ag1 ds ds[i] (aC3 p)
    refine af2 (ag8 (abp (ah2 (abt (ab4 rfl (acs ⟨x,ds[i],n,rfl,r.gh,r1.same r.gg,by omega,by omega,hf.2 _ (aC3 p),fun y W H3 u ry sy _=>?_⟩))))))
    have e3:=u.hh _ _ I
    have n3:W c=none:=by
     cases q:W c with
     | none=>rfl
     | some o =>
      rcases u.gn c o q with z | z
      ·rw [U] at z;cases z
      ·rw [I] at z;cases z
    have M:=r.trans u
    refine ⟨e3,by rw [J];exact big (by omega),_,W,rfl,aaf,⟨fun b o q=>?_,M.gg,fun b o q=>?_,M.gn⟩,n3,by simp [J],?_,fun j y' x' B L=>?_⟩
    ·rw [aad (fun z=>by rw [z,m] at q;cases q)];exact M.hh b o q
    ·rw [aad (fun z=>by rw [z,n3] at q;cases q)];exact M.gh b o q
    ·rw [List.take_succ_eq_append_getElem p]
     exact aly (Rps.same u.gg F) ry
    ·by_cases hj:j < ys.length
     ·rw [aA2 hj] at B
      exact (hs j y' x' B L).keep u.gg
     ·have:j=i:=by
       have:=(ay1.mp B).1
       simp at this
       omega
      subst this
      rw [aA7 (by omega),show j - ys.length=0 by omega] at B
      cases B
      rw [X] at L
      cases L
      exact sy.more Y
   ·rintro ys σ C ⟨v,n,rfl,I,r,U,J,F,hs⟩
    rw [Z,aD8] at F
    refine acs ⟨c,ys,rfl,SqL.of I,fun l a0=>?_⟩
    have u:=r.put a0 (.tup ys)
    have O:Same n (upd n l (.tup ys)):=aa3 (ab5 r.gh a0)
    have hi:∀ (i:Nat) x y,ys[i]?=some x->xs[i]?=some y->Sam (upd n l (.tup ys)) (PyData.depthAll ds) x y:=fun i x y B L=>(hs i x y B L).keep O
    exact k _ _ _ u (.tup aaf (Rps.same O F)) (.tup aaf (O _ _ (r.gg _ _ ha)) J hi) fun _ => .tup (by omega) aaf (O _ _ (r.gg _ _ ha)) J hi
  | _ =>
   refine acg ?_
   row_cond hgo
   refine anz (af4 (abt (ab4 rfl (abt (go_c (acs (ahc (aj8 (rx.same gh)) (ahk agx _) (af3 (acg ?_)))))))))
   row_cond hgo
   refine k _ _ _ (Grw.refl gh) rx (.same _ rfl) fun ht=>?_
   first
   | exact .non
   | exact .bl _
   | exact .int _
   | exact .str _
   | (rename_i R I e3
      subst e3
      have e4:=ht _ rfl
      rw [List.map_eq_nil_iff] at e4
      subst e4
      cases I
      first | exact .dk R | exact .dt R)
end
def au9:VP:=fun ss Q=>∃ D:PyData,ss=[.st D]/\D.depth<=8/\fewD D=true/\lnOk D/\aoq D/\Q (.st (.bool true))
theorem anf {K:Frag} {H:Hp} {x:V} {D:PyData} {Q:VK} {E:XK} (r:Rp H x D) (c:lnOk D) (h:∀ (b:Bool) H',Same H H'->(b=true ↔ IsWD D)->Q (.bl b) H'):spP K ag0 [x] H Q E :=
 ⟨H,[.st D],fun s=>∃ b:Bool,s=.st (.bool b)/\(b=true ↔ IsWD D),Same.refl _,fun a d e=>e,.cons r .nil,⟨D,rfl,c,fun b hb=>⟨b,rfl,hb⟩⟩,fun s ⟨b,e,hb⟩ v G' H' Fv o=>by
  subst e
  obtain ⟨ok,_⟩:=o.ok
  cases ok
  exact h b H' o.hh hb⟩
def newG (G H H':Hp):Hp:=fun a=>match H a with
 | none=>H' a
 | some _=>G a
theorem ava {G H H':Hp} {b:Bool} (gh:Same G H) (hh:Same H H'):Out G H (.bl b) (newG G H H') H' (.st (.bool b)) fun _=>False:=by
 refine ⟨fun a o e=>?_,fun a o e=>?_,hh,fun a o e=>?_,fun a z=>z.elim,fun a z=>z.elim,fun a z=>z.elim,⟨.bl b,fun a z=>z⟩,fun ft a d e=>?_⟩
 ·unfold newG
  rw [gh a o e]
  exact e
 ·unfold newG at e
  cases q:H a with
  | none=>rw [q] at e;exact e
  | some u=>rw [q] at e;exact hh a o (gh a o e)
 ·unfold newG at e
  cases q:H a with
  | none=>exact .inr rfl
  | some u=>rw [q] at e;exact .inl e
 ·unfold newG
  cases q:H a with
  | none=>exact e
  | some u =>
   have c:=hh a u q
   rw [e] at c
   cases c
   exact ft a d q
theorem asl {H H':Hp} (s:Same H H') {v w:V} (h:TopS H v w):TopS H' v w:=by
 cases h with
 | non=>exact .non
 | bl b=>exact .bl b
 | int i=>exact .int i
 | str t=>exact .str t
 | lst hn h1 h2 h3 h4=>exact .lst hn (s _ _ h1) (s _ _ h2) h3 fun i x y c a=>(h4 i x y c a).keep s
 | tup hn h1 h2 h3 h4=>exact .tup hn (s _ _ h1) (s _ _ h2) h3 fun i x y c a=>(h4 i x y c a).keep s
 | dk h=>exact .dk (s _ _ h)
 | dt h=>exact .dt (s _ _ h)
section
variable {P:Program} {w:World} {K:Frag} {mg:Str->Option Value} {base:Heap}
theorem sc_law_right:FnScope ["thing","due","handed","found"] ["thing"] (aar s_law_right):=by row_cond sc
theorem afe (T:Txt K mg):Can P w K mg base "_law_right" 11 ["thing"] (spP K au9):=by
 obtain ⟨f,fd,D⟩:=T.d_law_right
 refine D.can (D.fn.ok sc_law_right (fun vs H Q E h=>lenP h fun ss C q=>by obtain ⟨D,rfl,_⟩:=q;rfl) (fun cdv A outer s H vs Q E d h=>?_))
 have nd:=sc_law_right.nd
 refine ⟨_,(aag (aaq (i:=1) nd rfl (Or.inl rfl) (aae (alt T) d (aaa (pv 0) aab)))
  (aag (aaq (i:=2) nd rfl (Or.inl rfl) (aae (alz T 10) d (aaa (pv 0) aab)))
  (aag (aaq (i:=3) nd rfl (Or.inl rfl) (aae (ahu T) d (aaa (pv 2) aab)))
  (aam (aat (acl (aai abh (by rfl) T.b_isinstance aa0 (aaa (pv 3) (aaa (abw (v:=.ty "bool") rfl T.b_bool ah4 rfl) aab))) (acl (aer adm (pv 3) (pv 1) (aa1 _)) (ad3 (aer (axa d.units) (pv 2) (pv 0) (aa1 _)))))))))),?_⟩
 obtain ⟨G,ss,C,gh,ft,g,⟨r,rfl,hd,c,b,a,z⟩,u⟩:=h
 obtain ⟨x,rfl,o⟩:∃ x,vs=[x]/\Rp G x r:=by
  cases g with
  | cons ha g =>
   cases g
   exact ⟨_,rfl,ha⟩
 show (_:TS) _ [some x,none,none,none] H
 row_cond hgo
 refine anf (o.same gh) b fun B I s1 l=>?_
 row_cond hgo
 refine ⟨x,r,G,rfl,gh.trans s1,o,by omega,by omega,c,fun y M J j F L ty=>?_⟩
 row_cond hgo
 refine anf (F.same j.gh) b fun n H3 p m=>?_
 obtain rfl:n=B:=aE6.mpr (m.trans l.symm)
 row_cond hgo
 refine ams (af4 (abt (ab4 rfl (abt (go_c (acs (ahc (.bl n) (ahk am3 (.bool n)) (af3 (abp ?_)))))))))
 refine ams (anx (ab4 rfl (ab4 rfl (av0 (af3 (af5 rfl ?_))))))
 refine anx (ab4 rfl (ab4 rfl ⟨asl (j.gh.trans p) (ty a),?_⟩))
 exact u _ z _ _ _ _ (ava gh (s1.trans (j.hh.trans p)))
end
def smD (k:Nat) (d:PyData):Prop:=d.depth<=k/\fewD d=true
theorem smD.mono {k j:Nat} {d:PyData} (h:smD k d) (a:k<=j):smD j d:=⟨aA9 h.1 a,h.2⟩
theorem sm_all {k:Nat}:∀ {ds:List PyData},(∀ d∈ds,smD k d)->PyData.depthAll ds<=k/\fewDs ds=true
 | [],_=>⟨by simp [PyData.depthAll],by simp [fewDs]⟩
 | d :: ds,h=>by
  have b:=h d (by simp)
  have a:=sm_all (ds:=ds) fun x c=>h x (az4 _ c)
  refine ⟨?_,by simp [fewDs,b.2,a.2]⟩
  have e:PyData.depthAll (d :: ds)=max d.depth (PyData.depthAll ds):=by simp [PyData.depthAll]
  rw [e]
  exact Nat.max_le.mpr ⟨b.1,a.1⟩
theorem sm_tup {k:Nat} {ds:List PyData} (h:∀ d∈ds,smD k d) (a:ds.length<=10000):smD (k+1) (.tuple ds):=by
 have:=sm_all h
 exact ⟨by simp only [PyData.depth];omega,by simp only [fewD,this.2,Bool.and_true];exact aB5 a⟩
theorem adf {k:Nat} {ds:List PyData} (h:∀ d∈ds,smD k d) (a:ds.length<=10000):smD (k+1) (.list ds):=by
 have:=sm_all h
 exact ⟨by simp only [PyData.depth];omega,by simp only [fewD,this.2,Bool.and_true];exact aB5 a⟩
theorem act {k:Nat} (i:Int):smD k (.int i):=⟨by simp [PyData.depth],by simp [fewD]⟩
theorem aeb {k:Nat}:smD k .none:=⟨by simp [PyData.depth],by simp [fewD]⟩
theorem ae9 {k:Nat} (b:Bool):smD k (.bool b):=⟨by simp [PyData.depth],by simp [fewD]⟩
theorem aec {k:Nat} (s:Str):smD k (.str s):=⟨by simp [PyData.depth],by simp [fewD]⟩
theorem aqi {k:Nat}:∀ d∈([]:List PyData),smD k d:=fun d h=>by simp at h
theorem agd {k:Nat} {x:PyData} {ds:List PyData} (h:smD k x) (t:∀ d∈ds,smD k d):∀ d∈x :: ds,smD k d:=fun d hd=>by
 rcases ay8.mp hd with rfl | hd
 ·exact h
 ·exact t d hd
theorem aep {k:Nat} (p:Int × Int):smD (k+1) (prD p):=sm_tup (agd (act _) (agd (act _) aqi)) (by simp)
theorem aa5 {k:Nat} (es:List (Int × Int)):∀ d∈es.map prD,smD (k+1) d:=fun d hd=>by
 obtain ⟨p,_,rfl⟩:=az6.mp hd
 exact aep p
theorem abu {k:Nat} {ds:List PyData} {lo hi:Option Int} (h:∀ d∈ds,smD k d):∀ d∈cutD ds lo hi,smD k d:=fun d hd=>h d (aA3 (az9 hd))
theorem avb {ds:List PyData} {lo hi:Option Int}:(cutD ds lo hi).length<=ds.length:=by
 unfold cutD
 rw [aE0,List.length_drop]
 omega
theorem adz {k:Nat} (kvs:List (PyData × PyData)) (h:(PyData.dict kvs).depth<=k):smD k (.dict kvs):=⟨h,by simp [fewD]⟩
def okC (D:PyData):Prop:=smD 7 D/\aoq D
theorem adk {ds:List PyData} (h:∀ d∈ds,smD 6 d) (a:ds.length<=10000):okC (.tuple ds):=⟨sm_tup h a,fun kvs e=>by cases e⟩
theorem ad0 {ds:List PyData} (h:∀ d∈ds,smD 6 d) (a:ds.length<=10000):okC (.list ds):=⟨adf h a,fun kvs e=>by cases e⟩
theorem adl {n:Int} {ds:List PyData} (h:∀ d∈ds,smD 5 d) (a:ds.length<=10000):okC (.tuple [.int n,.list ds]):=adk (agd (act _) (agd (adf h a) aqi)) (by simp)
theorem ad1 (i:Int):okC (.int i):=⟨act i,fun kvs e=>by cases e⟩
theorem aqj {D:PyData} (h:okC D):lnOk D:=fun a ds e=>by
 subst e
 have b:=ahv (ds:=[a,.list ds]) (by simpa [fewD] using h.1.2)
 exact (ahv (ds:=ds) (by simpa [fewD] using b.2 (.list ds) (by simp))).1
theorem adu {P:PyData->Prop}:∀ d∈([]:List PyData),P d:=fun d h=>by simp at h
theorem ac1 {P:PyData->Prop} {x:PyData} {ds:List PyData} (h:P x) (t:∀ d∈ds,P d):∀ d∈x :: ds,P d:=fun d hd=>by
 rcases ay8.mp hd with rfl | hd
 ·exact h
 ·exact t d hd
theorem ab6 {P:PyData->Prop} {xs ys:List PyData} (h:∀ d∈xs,P d) (t:∀ d∈ys,P d):∀ d∈xs ++ ys,P d:=fun d hd=>by
 rcases ay7.mp hd with hd | hd
 ·exact h d hd
 ·exact t d hd
theorem aqk {k j:Nat} {x:PyData} {ds:List PyData} (h:∀ d∈ds,smD k d) (a:smD k x):∀ d∈ds.set j x,smD k d:=fun d hd=>by
 rcases List.mem_or_eq_of_mem_set hd with h' | rfl
 ·exact h d h'
 ·exact a
def aj9 (e:List Key × PyData):Prop:=e.2=.int 1/\∃ a b:Int,e.1=[.inl a,.inl b]
theorem aql {es:List (List Key × PyData)} {p:Int × Int} (h:∀ e∈es,aj9 e):∀ e∈addC es p,aj9 e:=fun e a=>by
 unfold addC putD at a
 split at a
 ·obtain ⟨y,b,rfl⟩:=az6.mp a
  have:=h y b
  split
  ·rename_i q
   exact ⟨rfl,this.2⟩
  ·exact this
 ·rcases ay7.mp a with a | a
  ·exact h e a
  ·rw [aA1.mp a]
   exact ⟨rfl,_,_,rfl⟩
theorem ajc:∀ {ps:List (Int × Int)} {es:List (List Key × PyData)},(∀ e∈es,aj9 e)->∀ e∈ps.foldl addC es,aj9 e
 | [],_,h=>h
 | p :: ps,es,h=>ajc (ps:=ps) (aql h)
theorem ahw {c:Nat}:∀ {kvs:List (PyData × PyData)},(∀ p∈kvs,p.1.depth<=c/\p.2.depth<=c)->PyData.depthKv kvs<=c
 | [],_=>by simp [PyData.depthKv]
 | (a,b) :: r,h=>by
  have f:=h (a,b) (by simp)
  have g:=ahw (kvs:=r) fun x d=>h x (az4 _ d)
  simp only [PyData.depthKv]
  simp only at f
  omega
theorem aed {k:Nat} (ps:List (Int × Int)):smD (k+2) (.dict ((ps.foldl addC []).map fun p=>(PyData.tuple (p.1.map kD),p.2))):=by
 refine ⟨?_,by simp [fewD]⟩
 have:=ahw (c:=1) (kvs:=(ps.foldl addC []).map fun p=>(PyData.tuple (p.1.map kD),p.2)) fun q h=>by
  obtain ⟨e,f,rfl⟩:=az6.mp h
  obtain ⟨g,a,b,d⟩:=ajc (ps:=ps) (es:=[]) (by simp) e f
  rw [g,d]
  exact ⟨by simp [kD,PyData.depth,PyData.depthAll],by simp [PyData.depth]⟩
 simp only [PyData.depth]
 omega
theorem avc {ds:List PyData} {k:Int} (f:0<=k) (g:k<=ds.length):(cutD ds none (some k)).length+(cutD ds (some k) none).length=ds.length:=by
 have d:HT.sIx ds.length ds.length (some k)=k.toNat:=by show (if k < 0 then _ else _)=_;rw [aC6 (by omega)];omega
 have a:HT.sIx ds.length 0 (some k)=k.toNat:=by show (if k < 0 then _ else _)=_;rw [aC6 (by omega)];omega
 have b:HT.sIx ds.length 0 none=0:=rfl
 have c:HT.sIx ds.length ds.length none=ds.length:=rfl
 unfold cutD
 rw [d,a,b,c]
 simp
 omega
theorem aqm {L:List PyData} {r:Int} {m:Nat} (c:L.length=m) (b:0<=r) (d:r < m):∃ v,atI L r=some v/\v∈L:=by
 have a:r.toNat < L.length:=by omega
 exact ⟨L[r.toNat]'a,acv b (ay0 a),aC3 _⟩
theorem age {K:Frag} {L:List PyData} {r:Int} {m:Nat} {R:Sl->Prop} (b:L.length=m) (d:0<=r) (a:r < m) {P:PyData->Prop} (f:∀ v∈L,P v) (h:∀ v,P v->R (.st v)):Op2 (acu K) (.list L) (.int r) R:=by
 obtain ⟨v,c,hm⟩:=aqm b d a
 exact am1 c (h v (f v hm))
theorem ayb {env:En} {i:Nat} {L:List PyData} {r:Int} {m:Nat} {R:PyData->Prop} (e:Has env i (OL L)) (b:L.length=m) (c:0<=r) (a:r < m) {P:PyData->Prop} (g:∀ v∈L,P v) (h:∀ v,P v->R v):∃ ds k d,Has env i (OL ds)/\PyData.int r=.int k/\atI ds k=some d/\R d:=by
 obtain ⟨v,f,hm⟩:=aqm b c a
 exact ⟨L,r,v,e,rfl,f,h v (g v hm)⟩
theorem prsP (es:List (Int × Int)):aau (.list (es.map prD))=true:=by
 rw [aau];exact aok es
theorem ayc (es:List (Int × Int)):(PyData.list (es.map prD)).depth<=60:=by
 have:=(adf (k:=2) (aa5 es) (ds:=es.map prD))
 have h:=(sm_all (k:=2) (aa5 (k:=1) es)).1
 simp only [PyData.depth]
 omega
def aqn:VIo:=fun A ss Q=>∃ (n:Int) (es:List (Int × Int)),A=ODk/\ss=[.st (webD n es)]/\WebOk n es/\∀ (D:PyData) (s:Sl),okC D->(∀ R:PyData->Prop,R D->FQ s R)->Q ODk s
section
variable {P:Program} {w:World} {K:Frag} {mg:Str->Option Value} {base:Heap}
theorem sc_law_changed:FnScope ["deck","web","n","ties","way","odd","some","at","a","b","new","other","turned"] ["deck","web"] (aar s_law_changed):=by row_cond sc
theorem ahx (T:Txt K mg):Can P w K mg base "_law_changed" 2 ["deck","web"] (spI K (aqn)):=by
 obtain ⟨f,fd,D⟩:=T.d_law_changed
 refine D.can (D.fn.ok sc_law_changed (fun vs H Q E h=>lenI h fun A ss Y q=>by obtain ⟨n,es,rfl,rfl,L,k⟩:=q;rfl) (fun cdv A outer s H vs Q E o h=>?_))
 have nd:=sc_law_changed.nd
 refine ⟨_,(PSq.out (aav (ac5 (pv 1) (ag2 rfl (acm (aax (i:=2) nd rfl (Or.inl rfl)) (acm (aax (i:=3) nd rfl (Or.inl rfl)) afx)))) (aav (@aaq _ _ 4 _ _ _ _ nd rfl (Or.inl rfl) (aae (aah T) o (@aaa _ _ _ _ _ (pv 0) (@aaa _ _ _ _ _ aac aab rfl) rfl)) rfl (by first | exact .inl rfl | exact .inr rfl)) (aav (@aa9 _ _ _ _ _ _ _ _ (PW.pt (aee (aa2 adm (pv 4) aac (aa1 _)) (adq (aa2 (awb o.units) (pv 3) (@aan _ _ _ _ aab) (aa1 _)))))
   (PSq.out (aav (@aaq _ _ 5 _ _ _ _ nd rfl (Or.inl rfl) (aao aap (@aan _ _ _ _ (by (refine' aaa (hs:=?C60) ?A60 ?B60;(case C60=>exact rfl);(case A60=>exact aac);(case B60=>refine' aaa (hs:=?C59) ?A59 ?B59;(case C59=>exact rfl);(case A59=>exact aac);(case B59=>refine' aaa (hs:=?C58) ?A58 ?B58;(case C58=>exact rfl);(case A58=>exact aac);(case B58=>refine' aaa (hs:=?C57) ?A57 ?B57;(case C57=>exact rfl);(case A57=>exact aac);(case B57=>refine' aaa (hs:=?C56) ?A56 ?B56;(case C56=>exact rfl);(case A56=>exact (aak acr (pv 2) aac));(case B56=>refine' aaa (hs:=?C55) ?A55 ?B55;(case C55=>exact rfl);(case A55=>exact (aak aa7 (pv 2) aac));(case B55=>refine' aaa (hs:=?C54) ?A54 ?B54;(case C54=>exact rfl);(case A54=>exact abr);(case B54=>refine' aaa (hs:=?C53) ?A53 ?B53;(case C53=>exact rfl);(case A53=>exact aeq);(case B53=>refine' aaa (hs:=?C52) ?A52 ?B52;(case C52=>exact rfl);(case A52=>exact aff);(case B52=>refine' aaa (hs:=?C51) ?A51 ?B51;(case C51=>exact rfl);(case A51=>exact (@aaj _ _ _ _ _ (@aaa _ _ _ _ _ aac aab rfl)));(case B51=>refine' aaa (hs:=?C50) ?A50 ?B50;(case C50=>exact rfl);(case A50=>exact (ae2 ad5 aac));(case B50=>refine' aaa (hs:=?C49) ?A49 ?B49;(case C49=>exact rfl);(case A49=>exact (aia (n:=100000000000000000000) (by decide) (by refine ⟨by decide,by decide,by decide⟩)));(case B49=>refine' aaa (hs:=?C48) ?A48 ?B48;(case C48=>exact rfl);(case A48=>exact (@aan _ _ _ _ (@aaa _ _ _ _ _ (pv 2) aab rfl)));(case B48=>refine' aaa (hs:=?C47) ?A47 ?B47;(case C47=>exact rfl);(case A47=>exact ae3);(case B47=>exact aab))))))))))))))))) (aae (aah T) o (@aaa _ _ _ _ _ (pv 0) (@aaa _ _ _ _ _ aac aab rfl) rfl)) (fun _ _=>rfl)) rfl (by first | exact .inl rfl | exact .inr rfl)) (aav (@aaq _ _ 6 _ _ _ _ nd rfl (Or.inl rfl) (@aan _ _ _ _ (by (refine' aaa (hs:=?C46) ?A46 ?B46;(case C46=>exact rfl);(case A46=>exact (@aaj _ _ _ _ _ (@aaa _ _ _ _ _ (pv 5) (@aaa _ _ _ _ _ (pv 3) aab rfl) rfl)));(case B46=>refine' aaa (hs:=?C45) ?A45 ?B45;(case C45=>exact rfl);(case A45=>exact (@aaj _ _ _ _ _ (@aaa _ _ _ _ _ (pv 2) (@aaa _ _ _ _ _ (adr aja (by rfl) T.b_tuple acw (@aaa _ _ _ _ _ (pv 3) aab rfl)) aab rfl) rfl)));(case B45=>refine' aaa (hs:=?C44) ?A44 ?B44;(case C44=>exact rfl);(case A44=>exact (@aan _ _ _ _ (@aaa _ _ _ _ _ (pv 2) (@aaa _ _ _ _ _ (pv 3) aab rfl) rfl)));(case B44=>refine' aaa (hs:=?C43) ?A43 ?B43;(case C43=>exact rfl);(case A43=>exact (@aaj _ _ _ _ _ (@aaa _ _ _ _ _ (pv 2) (@aaa _ _ _ _ _ (pv 3) (@aaa _ _ _ _ _ aac aab rfl) rfl) rfl)));(case B43=>refine' aaa (hs:=?C42) ?A42 ?B42;(case C42=>exact rfl);(case A42=>exact (@aaj _ _ _ _ _ (@aaa _ _ _ _ _ (pv 2) aab rfl)));(case B42=>refine' aaa (hs:=?C41) ?A41 ?B41;(case C41=>exact rfl);(case A41=>exact (@aaj _ _ _ _ _ (@aaa _ _ _ _ _ (pv 3) (@aaa _ _ _ _ _ (pv 2) aab rfl) rfl)));(case B41=>refine' aaa (hs:=?C38) ?A38 ?B38;(case C38=>exact rfl);(case A38=>exact (@aaj _ _ _ _ _ (by (refine' aaa (hs:=?C40) ?A40 ?B40;(case C40=>exact rfl);(case A40=>exact (pv 2));(case B40=>refine' aaa (hs:=?C39) ?A39 ?B39;(case C39=>exact rfl);(case A39=>exact aeq);(case B39=>exact aab))))));(case B38=>refine' aaa (hs:=?C37) ?A37 ?B37;(case C37=>exact rfl);(case A37=>exact (@aaj _ _ _ _ _ (@aaa _ _ _ _ _ (pv 2) (@aaa _ _ _ _ _ ae3 aab rfl) rfl)));(case B37=>refine' aaa (hs:=?C36) ?A36 ?B36;(case C36=>exact rfl);(case A36=>exact (pv 3));(case B36=>refine' aaa (hs:=?C35) ?A35 ?B35;(case C35=>exact rfl);(case A35=>exact (pv 2));(case B35=>exact aab))))))))))))) rfl (by first | exact .inl rfl | exact .inr rfl)) (aav (@aaq _ _ 6 _ _ _ _ nd rfl (Or.inl rfl) (aak aby (pv 6) (@aan _ _ _ _ (by (refine' aaa (hs:=?C34) ?A34 ?B34;(case C34=>exact rfl);(case A34=>exact (@aaj _ _ _ _ _ (@aaa _ _ _ _ _ (pv 2) (@aaa _ _ _ _ _ (@aan _ _ _ _ (@aaa _ _ _ _ _ (@aaj _ _ _ _ _ aab) aab rfl)) aab rfl) rfl)));(case B34=>refine' aaa (hs:=?C30) ?A30 ?B30;(case C30=>exact rfl);(case A30=>exact (@aaj _ _ _ _ _ (by (refine' aaa (hs:=?C33) ?A33 ?B33;(case C33=>exact rfl);(case A33=>exact (pv 2));(case B33=>refine' aaa (hs:=?C31) ?A31 ?B31;(case C31=>exact rfl);(case A31=>exact (aak aby (pv 3) (@aan _ _ _ _ (by (refine' aaa (hs:=?C32) ?A32 ?B32;(case C32=>exact rfl);(case A32=>exact aeq);(case B32=>exact aab))))));(case B31=>exact aab))))));(case B30=>refine' aaa (hs:=?C29) ?A29 ?B29;(case C29=>exact rfl);(case A29=>exact (@aaj _ _ _ _ _ (@aaa _ _ _ _ _ (pv 2) (@aaa _ _ _ _ _ (aak aby (pv 3) (@aan _ _ _ _ (@aaa _ _ _ _ _ (@aaj _ _ _ _ _ (@aaa _ _ _ _ _ aac (@aaa _ _ _ _ _ (pv 2) aab rfl) rfl)) aab rfl))) aab rfl) rfl)));(case B29=>refine' aaa (hs:=?C28) ?A28 ?B28;(case C28=>exact rfl);(case A28=>exact (@aaj _ _ _ _ _ (@aaa _ _ _ _ _ (pv 2) (@aaa _ _ _ _ _ (aak aby (pv 3) (@aan _ _ _ _ (@aaa _ _ _ _ _ (@aaj _ _ _ _ _ (@aaa _ _ _ _ _ aac (@aaa _ _ _ _ _ aac aab rfl) rfl)) aab rfl))) aab rfl) rfl)));(case B28=>exact aab)))))))) rfl (by first | exact .inl rfl | exact .inr rfl)) (abz (aat (aao aap (aak aby (pv 6) (@aan _ _ _ _ (by (refine' aaa (hs:=?C25) ?A25 ?B25;(case C25=>exact rfl);(case A25=>exact (@aaj _ _ _ _ _ (by (refine' aaa (hs:=?C27) ?A27 ?B27;(case C27=>exact rfl);(case A27=>exact (pv 2));(case B27=>refine' aaa (hs:=?C26) ?A26 ?B26;(case C26=>exact rfl);(case A26=>exact aff);(case B26=>exact aab))))));(case B25=>refine' aaa (hs:=?C24) ?A24 ?B24;(case C24=>exact rfl);(case A24=>exact (@aaj _ _ _ _ _ (@aaa _ _ _ _ _ (pv 2) (@aaa _ _ _ _ _ (adr (aoo rfl o.units) (by rfl) T.b_dict atw (@aaa _ _ _ _ _ (aek rfl (N:=["tie"]) (src:=[none]) (by exact ac0 rfl rfl rfl rfl rfl rfl) (@adg _ _ _ _ (pv 3)) (fun _ _ _ _=>(aax (i:=0) (show List.Nodup (["tie"]:List Str) by decide +kernel) rfl (Or.inl rfl) (hf:=Or.inr rfl))) (fun _ _ _ _=>acz) (fun _ _ _ _=>(@aaj _ _ _ _ _ (@aaa _ _ _ _ _ (pv 0) (@aaa _ _ _ _ _ aac aab rfl) rfl)))) aab rfl)) aab rfl) rfl)));(case B24=>exact aab)))))) (aae (aah T) o (@aaa _ _ _ _ _ (pv 0) (@aaa _ _ _ _ _ aac aab rfl) rfl)) (fun _ _=>rfl))))))))
   aaz) (aav (@aaq _ _ 7 _ _ _ _ nd rfl (Or.inl rfl) (aae (aah T) o (@aaa _ _ _ _ _ (pv 0) (@aaa _ _ _ _ _ (aai abn (by rfl) T.b_len acf (@aaa _ _ _ _ _ (pv 3) aab rfl)) aab rfl) rfl)) rfl (by first | exact .inl rfl | exact .inr rfl)) (aav (ac5 (aao aap (pv 3) (pv 7) (fun _ _=>rfl)) (ag2 rfl (acm (aax (i:=8) nd rfl (Or.inl rfl)) (acm (aax (i:=9) nd rfl (Or.inl rfl)) afx)))) (aav (@aa9 _ _ _ _ _ _ _ _ (aa2 ano (pv 4) aac (aa1 _))
   (PSq.out (aav (@aaq _ _ 5 _ _ _ _ nd rfl (Or.inl rfl) (@aan _ _ _ _ (by (refine' aaa (hs:=?C23) ?A23 ?B23;(case C23=>exact rfl);(case A23=>exact (pv 8));(case B23=>refine' aaa (hs:=?C22) ?A22 ?B22;(case C22=>exact rfl);(case A22=>exact (pv 9));(case B22=>refine' aaa (hs:=?C21) ?A21 ?B21;(case C21=>exact rfl);(case A21=>exact (pv 2));(case B21=>refine' aaa (hs:=?C20) ?A20 ?B20;(case C20=>exact rfl);(case A20=>exact (ae2 ad5 aac));(case B20=>refine' aaa (hs:=?C19) ?A19 ?B19;(case C19=>exact rfl);(case A19=>exact abr);(case B19=>refine' aaa (hs:=?C18) ?A18 ?B18;(case C18=>exact rfl);(case A18=>exact abr);(case B18=>refine' aaa (hs:=?C17) ?A17 ?B17;(case C17=>exact rfl);(case A17=>exact aeq);(case B17=>refine' aaa (hs:=?C16) ?A16 ?B16;(case C16=>exact rfl);(case A16=>exact aff);(case B16=>refine' aaa (hs:=?C15) ?A15 ?B15;(case C15=>exact rfl);(case A15=>exact (aak aa7 (pv 8) aac));(case B15=>refine' aaa (hs:=?C14) ?A14 ?B14;(case C14=>exact rfl);(case A14=>exact (aak aa7 (pv 9) aac));(case B14=>refine' aaa (hs:=?C13) ?A13 ?B13;(case C13=>exact rfl);(case A13=>exact (aak acr (pv 9) aac));(case B13=>refine' aaa (hs:=?C12) ?A12 ?B12;(case C12=>exact rfl);(case A12=>exact (@aaj _ _ _ _ _ (@aaa _ _ _ _ _ (pv 8) aab rfl)));(case B12=>refine' aaa (hs:=?C11) ?A11 ?B11;(case C11=>exact rfl);(case A11=>exact (@aan _ _ _ _ (@aaa _ _ _ _ _ (pv 8) aab rfl)));(case B11=>refine' aaa (hs:=?C10) ?A10 ?B10;(case C10=>exact rfl);(case A10=>exact ae3);(case B10=>refine' aaa (hs:=?C9) ?A9 ?B9;(case C9=>exact rfl);(case A9=>exact (ae2 ad5 (aia (n:=100000000000000000000) (by decide) (by refine ⟨by decide,by decide,by decide⟩))));(case B9=>exact aab)))))))))))))))))) rfl (by first | exact .inl rfl | exact .inr rfl)) (aav (@aaq _ _ 5 _ _ _ _ nd rfl (Or.inl rfl) (aao aap (pv 5) (aae (aah T) o (@aaa _ _ _ _ _ (pv 0) (@aaa _ _ _ _ _ aac aab rfl) rfl)) (fun _ _=>rfl)) rfl (by first | exact .inl rfl | exact .inr rfl)) (aav (@aaq _ _ 10 _ _ _ _ nd rfl (Or.inl rfl) (aao aap (@aan _ _ _ _ (@aaa _ _ _ _ _ (@aaj _ _ _ _ _ (@aaa _ _ _ _ _ (pv 5) (@aaa _ _ _ _ _ (pv 9) aab rfl) rfl)) (@aaa _ _ _ _ _ (@aaj _ _ _ _ _ (@aaa _ _ _ _ _ (pv 8) (@aaa _ _ _ _ _ (pv 5) aab rfl) rfl)) aab rfl) rfl)) (aae (aah T) o (@aaa _ _ _ _ _ (pv 0) (@aaa _ _ _ _ _ aac aab rfl) rfl)) (fun _ _=>rfl)) rfl (by first | exact .inl rfl | exact .inr rfl)) (abz (aat (@aaj _ _ _ _ _ (@aaa _ _ _ _ _ (pv 2) (@aaa _ _ _ _ _ (aak aby (aak aby (abx ab9 (pv 3) ach (ab1 (pv 7))) (@aan _ _ _ _ (@aaa _ _ _ _ _ (pv 10) aab rfl))) (abx ab9 (pv 3) (ab1 (aak aa7 (pv 7) aac)) ach)) aab rfl) rfl))))))))
   aaz) (aav (@aa9 _ _ _ _ _ _ _ _ (aa2 adm (pv 4) aac (aa1 _))
   (PSq.out (aav (@aaq _ _ 10 _ _ _ _ nd rfl (Or.inl rfl) (aao aap (@aan _ _ _ _ (by (refine' aaa (hs:=?C8) ?A8 ?B8;(case C8=>exact rfl);(case A8=>exact (@aaj _ _ _ _ _ (@aaa _ _ _ _ _ (pv 9) (@aaa _ _ _ _ _ (pv 8) aab rfl) rfl)));(case B8=>refine' aaa (hs:=?C7) ?A7 ?B7;(case C7=>exact rfl);(case A7=>exact (@aan _ _ _ _ (@aaa _ _ _ _ _ (pv 8) (@aaa _ _ _ _ _ (pv 9) aab rfl) rfl)));(case B7=>refine' aaa (hs:=?C6) ?A6 ?B6;(case C6=>exact rfl);(case A6=>exact (@aaj _ _ _ _ _ (@aaa _ _ _ _ _ (pv 8) aab rfl)));(case B6=>refine' aaa (hs:=?C5) ?A5 ?B5;(case C5=>exact rfl);(case A5=>exact (@aaj _ _ _ _ _ (@aaa _ _ _ _ _ (pv 8) (@aaa _ _ _ _ _ (pv 9) (@aaa _ _ _ _ _ (pv 9) aab rfl) rfl) rfl)));(case B5=>refine' aaa (hs:=?C4) ?A4 ?B4;(case C4=>exact rfl);(case A4=>exact (@aaj _ _ _ _ _ (@aaa _ _ _ _ _ (pv 8) (@aaa _ _ _ _ _ (pv 8) aab rfl) rfl)));(case B4=>refine' aaa (hs:=?C3) ?A3 ?B3;(case C3=>exact rfl);(case A3=>exact (pv 8));(case B3=>refine' aaa (hs:=?C2) ?A2 ?B2;(case C2=>exact rfl);(case A2=>exact aeq);(case B2=>refine' aaa (hs:=?C1) ?A1 ?B1;(case C1=>exact rfl);(case A1=>exact (@aaj _ _ _ _ _ (@aaa _ _ _ _ _ (pv 8) (@aaa _ _ _ _ _ (pv 9) (@aaa _ _ _ _ _ aac aab rfl) rfl) rfl)));(case B1=>exact aab))))))))))) (aae (aah T) o (@aaa _ _ _ _ _ (pv 0) (@aaa _ _ _ _ _ aac aab rfl) rfl)) (fun _ _=>rfl)) rfl (by first | exact .inl rfl | exact .inr rfl)) (abz (aat (@aaj _ _ _ _ _ (@aaa _ _ _ _ _ (pv 2) (@aaa _ _ _ _ _ (aak aby (aak aby (abx ab9 (pv 3) ach (ab1 (pv 7))) (@aan _ _ _ _ (@aaa _ _ _ _ _ (pv 10) aab rfl))) (abx ab9 (pv 3) (ab1 (aak aa7 (pv 7) aac)) ach)) aab rfl) rfl))))))
   aaz) (aav (@aa9 _ _ _ _ _ _ _ _ (aa2 adm (pv 4) aac (aa1 _))
   (PSq.out (abz (aat (@aaj _ _ _ _ _ (@aaa _ _ _ _ _ (pv 2) (@aaa _ _ _ _ _ (aak aby (aak aby (abx ab9 (pv 3) ach (ab1 (pv 7))) (abx ab9 (pv 3) (ab1 (pv 7)) (ab1 (aak aa7 (pv 7) aac)))) (abx ab9 (pv 3) (ab1 (pv 7)) ach)) aab rfl) rfl)))))
   aaz) (aav (@aa9 _ _ _ _ _ _ _ _ (aa2 adm (pv 4) aac (aa1 _))
   (PSq.out (abz (aat (@aaj _ _ _ _ _ (@aaa _ _ _ _ _ (pv 2) (@aaa _ _ _ _ _ (aak aby (abx ab9 (pv 3) ach (ab1 (pv 7))) (abx ab9 (pv 3) (ab1 (aak aa7 (pv 7) aac)) ach)) aab rfl) rfl)))))
   aaz) (aav (@aa9 _ _ _ _ _ _ _ _ (aa2 adm (pv 4) aac (aa1 _))
   (PSq.out (abz (aat (@aaj _ _ _ _ _ (@aaa _ _ _ _ _ (pv 9) (@aaa _ _ _ _ _ (pv 3) aab rfl) rfl)))))
   aaz) (aav (@aa9 _ _ _ _ _ _ _ _ (aa2 adm (pv 4) aac (aa1 _))
   (PSq.out (abz (aat (@aaj _ _ _ _ _ (@aaa _ _ _ _ _ (pv 2) (@aaa _ _ _ _ _ (aak aby (abx ab9 (pv 3) (ab1 (pv 7)) ach) (abx ab9 (pv 3) ach (ab1 (pv 7)))) aab rfl) rfl)))))
   aaz) (aav (@aaq _ _ 11 _ _ _ _ nd rfl (Or.inl rfl) (aae (aah T) o (@aaa _ _ _ _ _ (pv 0) (@aaa _ _ _ _ _ (aai abn (by rfl) T.b_len acf (@aaa _ _ _ _ _ (pv 3) aab rfl)) aab rfl) rfl)) rfl (by first | exact .inl rfl | exact .inr rfl)) (aav (@aaq _ _ 12 _ _ _ _ nd rfl (Or.inl rfl) (adr aog (by rfl) T.b_list aex (@aaa _ _ _ _ _ (pv 3) aab rfl)) rfl (by first | exact .inl rfl | exact .inr rfl)) (aav (ac5 (aao aap (pv 3) (pv 11) (fun _ _=>rfl)) (afg (pv 12) (pv 7) ad6)) (aav (ac5 (aao aap (pv 3) (pv 7) (fun _ _=>rfl)) (afg (pv 12) (pv 11) ad6)) (abz (aat (@aaj _ _ _ _ _ (@aaa _ _ _ _ _ (pv 2) (@aaa _ _ _ _ _ (pv 12) aab rfl) rfl)))))))))))))))))))),?_⟩
 refine aoa h fun A0 ss Y q B hK=>?_
 obtain ⟨n,es,rfl,rfl,L,k⟩:=q
 show EvS B _ _ [some (.io ODk),some (.st (webD n es)),none,none,none,none,none,none,none,none,none,none,none]
 have hl:=L.len
 row_cond go
 refine ⟨10,rfl,rfl,by omega,by omega,fun G w0 w1=>?_⟩
 row_cond go
 refine' cutR (R:=EvS B ?c1 ?d1 [some (.io ODk),some (.st (webD n es)),some (.st (.int n)),some (.st (.list (es.map prD))),some (.st (.int G)),none,none,none,none,none,none,none,none]) (fun R=>?K1) ?K2
 case K1 =>
  refine abo (fun X=>?_) (fun X=>?_)
  ·repeat (first | exact R | row_cond st)
  ·row_cond go
   refine aun (prsP es) rfl (ayc es) ?_
   cases hb:PyData.eqv (.list (es.map prD)) (.list []) with
   | true => repeat (first | exact R | row_cond st)
   | false =>
    clear R
    have M:0 < es.length:=by
     cases es with
     | nil =>
      have:PyData.eqv (.list (([]:List (Int × Int)).map prD)) (.list [])=true:=(aix _ _ rfl rfl).mpr rfl
      rw [this] at hb
      cases hb
     | cons p r=>simp
    row_cond go
    rw [ay3]
    refine ⟨_,rfl,rfl,by omega,by omega,fun at_ at0 at1=>?_⟩
    obtain ⟨p,hp⟩:∃ p,es[at_.toNat]?=some p:=⟨_,ay0 (by omega)⟩
    have Z:atI (es.map prD) at_=some (.tuple [.int p.1,.int p.2]):=ahn (f:=prD) (acv at0 hp)
    have a:=fun lo hi=>avb (ds:=es.map prD) (lo:=lo) (hi:=hi)
    rw [ay3] at a
    have b:=avc (ds:=es.map prD) at0 (by rw [ay3];omega)
    rw [ay3] at b
    row_cond go
    refine abo (fun c=>?_) (fun c=>?_)
    ·repeat (first | (refine aa8 (adt ?_)) | row_cond st)
     refine ⟨15,rfl,rfl,by omega,by omega,fun r z y=>?_⟩
     row_cond go
     refine ayb (m:=15) (P:=smD 2) (.inl rfl) rfl z y ?_ fun F C=>?_
     ·repeat' (first | exact act _ | exact ae9 _ | exact aeb | exact aec _ | exact aep _ | exact aa5 _ | exact abu (aa5 _) | exact aed _ | exact adz _ (by simp [PyData.depth,PyData.depthKv]) | exact ad1 _ | exact adu | refine ac1 ?_ ?_ | refine ab6 ?_ ?_ | refine adk ?_ (by first | (simp;done) | (simp;omega)) | refine ad0 ?_ (by first | (simp;done) | (simp;omega)) | refine sm_tup ?_ (by first | (simp;done) | (simp;omega)) | refine adf ?_ (by first | (simp;done) | (simp;omega)))
     row_cond go
     refine ⟨2,rfl,rfl,by omega,by omega,fun S x u=>?_⟩
     row_cond go
     refine age (m:=2) (P:=smD 3) rfl x u ?_ fun new hn=>?_
     ·repeat' (first | exact C.mono (by decide) | exact act _ | exact ae9 _ | exact aeb | exact aec _ | exact aep _ | exact aa5 _ | exact abu (aa5 _) | exact aed _ | exact adz _ (by simp [PyData.depth,PyData.depthKv]) | exact ad1 _ | exact adu | refine ac1 ?_ ?_ | refine ab6 ?_ ?_ | refine adk ?_ (by first | (simp;done) | (simp;omega)) | refine ad0 ?_ (by first | (simp;done) | (simp;omega)) | refine sm_tup ?_ (by first | (simp;done) | (simp;omega)) | refine adf ?_ (by first | (simp;done) | (simp;omega)))
     row_cond go
     first | (refine ab3 (by have g:=a none (some at_);have j:=a (some (at_+1)) none;have l:=a (some at_) none;have c:=a (some at_) (some (at_+1));have d:=b;(try simp only [az0,aB8,aF4]);omega) (abm ?_)) | skip
     row_cond go
     first | (refine ab3 (by have g:=a none (some at_);have j:=a (some (at_+1)) none;have l:=a (some at_) none;have c:=a (some at_) (some (at_+1));have d:=b;(try simp only [az0,aB8,aF4]);omega) (abm ?_)) | skip
     row_cond go
     exact k _ _ (adl (ab6 (ab6 (abu (aa5 _)) (ac1 (hn.mono (by decide)) adu)) (abu (aa5 _))) (by have g:=a none (some at_);have j:=a (some (at_+1)) none;have l:=a (some at_) none;have c:=a (some at_) (some (at_+1));have d:=b;(try simp only [az0,aB8,aF4]);omega)) fun R h=>ael h
    ·row_cond go
     refine abo (fun c=>?_) (fun c=>?_)
     ·row_cond go
      refine ⟨8,rfl,rfl,by omega,by omega,fun r z y=>?_⟩
      row_cond go
      refine age (m:=8) (P:=smD 3) rfl z y ?_ fun new hn=>?_
      ·repeat' (first | exact act _ | exact ae9 _ | exact aeb | exact aec _ | exact aep _ | exact aa5 _ | exact abu (aa5 _) | exact aed _ | exact adz _ (by simp [PyData.depth,PyData.depthKv]) | exact ad1 _ | exact adu | refine ac1 ?_ ?_ | refine ab6 ?_ ?_ | refine adk ?_ (by first | (simp;done) | (simp;omega)) | refine ad0 ?_ (by first | (simp;done) | (simp;omega)) | refine sm_tup ?_ (by first | (simp;done) | (simp;omega)) | refine adf ?_ (by first | (simp;done) | (simp;omega)))
      row_cond go
      first | (refine ab3 (by have g:=a none (some at_);have j:=a (some (at_+1)) none;have l:=a (some at_) none;have c:=a (some at_) (some (at_+1));have d:=b;(try simp only [az0,aB8,aF4]);omega) (abm ?_)) | skip
      row_cond go
      first | (refine ab3 (by have g:=a none (some at_);have j:=a (some (at_+1)) none;have l:=a (some at_) none;have c:=a (some at_) (some (at_+1));have d:=b;(try simp only [az0,aB8,aF4]);omega) (abm ?_)) | skip
      row_cond go
      exact k _ _ (adl (ab6 (ab6 (abu (aa5 _)) (ac1 (hn.mono (by decide)) adu)) (abu (aa5 _))) (by have g:=a none (some at_);have j:=a (some (at_+1)) none;have l:=a (some at_) none;have c:=a (some at_) (some (at_+1));have d:=b;(try simp only [az0,aB8,aF4]);omega)) fun R h=>ael h
     ·row_cond go
      refine abo (fun d=>?_) (fun d=>?_)
      ·row_cond go
       first | (refine ab3 (by have g:=a none (some at_);have j:=a (some (at_+1)) none;have l:=a (some at_) none;have c:=a (some at_) (some (at_+1));have d:=b;(try simp only [az0,aB8,aF4]);omega) (abm ?_)) | skip
       row_cond go
       first | (refine ab3 (by have g:=a none (some at_);have j:=a (some (at_+1)) none;have l:=a (some at_) none;have c:=a (some at_) (some (at_+1));have d:=b;(try simp only [az0,aB8,aF4]);omega) (abm ?_)) | skip
       row_cond go
       exact k _ _ (adl (ab6 (ab6 (abu (aa5 _)) (abu (aa5 _))) (abu (aa5 _))) (by have g:=a none (some at_);have j:=a (some (at_+1)) none;have l:=a (some at_) none;have c:=a (some at_) (some (at_+1));have d:=b;(try simp only [az0,aB8,aF4]);omega)) fun R h=>ael h
      ·row_cond go
       refine abo (fun h6=>?_) (fun h6=>?_)
       ·row_cond go
        first | (refine ab3 (by have g:=a none (some at_);have j:=a (some (at_+1)) none;have l:=a (some at_) none;have c:=a (some at_) (some (at_+1));have d:=b;(try simp only [az0,aB8,aF4]);omega) (abm ?_)) | skip
        row_cond go
        exact k _ _ (adl (ab6 (abu (aa5 _)) (abu (aa5 _))) (by have g:=a none (some at_);have j:=a (some (at_+1)) none;have l:=a (some at_) none;have c:=a (some at_) (some (at_+1));have d:=b;(try simp only [az0,aB8,aF4]);omega)) fun R h=>ael h
       ·row_cond go
        refine abo (fun h7=>?_) (fun h7=>?_)
        ·row_cond go
         exact k _ _ (adl (aa5 es) (by rw [ay3];omega)) fun R h=>ael h
        ·row_cond go
         refine abo (fun W=>?_) (fun W=>?_)
         ·row_cond go
          first | (refine ab3 (by have g:=a none (some at_);have j:=a (some (at_+1)) none;have l:=a (some at_) none;have c:=a (some at_) (some (at_+1));have d:=b;(try simp only [az0,aB8,aF4]);omega) (abm ?_)) | skip
          row_cond go
          exact k _ _ (adl (ab6 (abu (aa5 _)) (abu (aa5 _))) (by have g:=a none (some at_);have j:=a (some (at_+1)) none;have l:=a (some at_) none;have c:=a (some at_) (some (at_+1));have d:=b;(try simp only [az0,aB8,aF4]);omega)) fun R h=>ael h
         ·row_cond go
          rw [ay3]
          refine ⟨_,rfl,rfl,by omega,by omega,fun J I o1=>?_⟩
          obtain ⟨q,O⟩:∃ q,es[J.toNat]?=some q:=⟨_,ay0 (by omega)⟩
          have a0:atI (es.map prD) J=some (.tuple [.int q.1,.int q.2]):=ahn (f:=prD) (acv I O)
          row_cond go
          refine ⟨_,_,_,_,rfl,rfl,.inl rfl,apw at0 (by rw [ay3];omega),?_⟩
          dsimp only [List.set_cons_zero,List.set_cons_succ,reS]
          row_cond go
          refine ⟨_,_,_,_,rfl,rfl,.inl rfl,apw I (by rw [List.length_set,ay3];omega),?_⟩
          dsimp only [List.set_cons_zero,List.set_cons_succ,reS]
          row_cond go
          exact k _ _ (adl (aqk (aqk (aa5 _) (aep q)) (aep p)) (by rw [List.length_set,List.length_set,ay3];omega)) fun R h=>as9 h
 case K2 =>
  repeat (first | (refine aa8 (adt ?_)) | row_cond st)
  refine ⟨14,rfl,rfl,by omega,by omega,fun r z y=>?_⟩
  row_cond go
  refine age (m:=14) (P:=smD 2) rfl z y ?_ fun F C=>?_
  ·repeat' (first | exact act _ | exact ae9 _ | exact aeb | exact aec _ | exact aep _ | exact aa5 _ | exact abu (aa5 _) | exact aed _ | exact adz _ (by simp [PyData.depth,PyData.depthKv]) | exact ad1 _ | exact adu | refine ac1 ?_ ?_ | refine ab6 ?_ ?_ | refine adk ?_ (by first | (simp;done) | (simp;omega)) | refine ad0 ?_ (by first | (simp;done) | (simp;omega)) | refine sm_tup ?_ (by first | (simp;done) | (simp;omega)) | refine adf ?_ (by first | (simp;done) | (simp;omega)))
  repeat (first | (refine aa8 (adt ?_)) | (refine asb ?_) | (refine aa8 (aqa ?_)) | (refine aa8 (te:=tOp rCat _ _) (ahh (r:=rCat) ?_)) | (refine ab3 (by simp;omega) (abm ?_)) | row_cond st)
  refine ⟨es,rfl,by omega,axq ?_⟩
  row_cond go
  first | (refine ab3 (by simp) (abm ?_)) | (refine abm ?_) | skip
  row_cond go
  refine ⟨16,rfl,rfl,by omega,by omega,fun S x u=>?_⟩
  row_cond go
  refine age (m:=16) (P:=okC) rfl x u ?_ fun v U=>?_
  ·repeat' (first | exact C.mono (by decide) | exact act _ | exact ae9 _ | exact aeb | exact aec _ | exact aep _ | exact aa5 _ | exact abu (aa5 _) | exact aed _ | exact adz _ (by simp [PyData.depth,PyData.depthKv]) | exact ad1 _ | exact adu | refine ac1 ?_ ?_ | refine ab6 ?_ ?_ | refine adk ?_ (by first | (simp;done) | (simp;omega)) | refine ad0 ?_ (by first | (simp;done) | (simp;omega)) | refine sm_tup ?_ (by first | (simp;done) | (simp;omega)) | refine adf ?_ (by first | (simp;done) | (simp;omega)))
  ·row_cond go
   exact k v _ U fun R h=>ael h
end
def aor (K:Frag):Sp:=fun vs H Q _=>∃ (a:Addr) (ns:List Int),vs=[.ref a]/\SqL K H a (ns.map V.int)/\ns.length<=63/\∀ H',Q (.bl true) H'
def ate:VP:=fun ss Q=>∃ ns:List Int,ss=[.scr ns]/\ns.length<=63/\Q (.st (.bool true))
theorem asm {K:Frag} {vs:List V} {H:Hp} {Q:VK} {E:XK} (h:aor K vs H Q E):spP K ate vs H Q E:=by
 obtain ⟨a,ns,rfl,c,b,k⟩:=h
 refine ⟨H,[.scr ns],fun s=>s=.st (.bool true),Same.refl _,fun a d h=>h,.cons ⟨a,rfl,c⟩ .nil,⟨ns,rfl,b,rfl⟩,fun s e v G' H' Fv o=>?_⟩
 subst e
 have r:=o.ok.1
 cases r
 exact k _
theorem ayd {P:PyData->Prop} {L:List PyData} (h:∀ d∈L,P d) (d:PyData):d∈L->P d:=h d
theorem avd:okC .none:=⟨aeb,fun kvs e=>by cases e⟩
theorem axi (b:Bool):okC (.bool b):=⟨ae9 b,fun kvs e=>by cases e⟩
theorem ave (t:Str):okC (.str t):=⟨aec t,fun kvs e=>by cases e⟩
theorem asn:okC (.dict (List.map (fun p:Key × PyData=>(kD p.1,p.2)) [])):=⟨adz _ (by simp [PyData.depth,PyData.depthKv]),fun kvs e=>by cases e;rfl⟩
section
variable {P:Program} {w:World} {K:Frag} {mg:Str->Option Value} {base:Heap}
theorem sc_law:FnScope ["script","deck","k","web","turn","things","thing"] ["script"] (aar s_law):=by row_cond sc
theorem avf (T:Txt K mg) {f:Addr} {fd:FuncData} (D:DefAt K mg "law" s_law ["script"] f fd):FnOk P w K mg base CX0 12 f fd ["script"] (spP K (ate)):=by
 refine D.fn.ok sc_law (fun vs H Q E h=>lenP h fun ss L q=>by obtain ⟨ns,rfl,z,C⟩:=q;rfl) (fun cdv A outer s H vs Q E y h=>?_)
 have nd:=sc_law.nd
 refine ⟨_,(PSq.out (aav (@aaq _ _ 1 _ _ _ _ nd rfl (Or.inl rfl) (aae (alv T) y (@aaa _ _ _ _ _ (pv 0) aab rfl)) rfl (by first | exact .inl rfl | exact .inr rfl)) (aav (@aco _ _ _ _ _ _ _ _ aG1 rfl (acn rfl T.b_range (@aaa _ _ _ _ _ aac aab rfl)) (aax (i:=2) nd rfl (Or.inl rfl))
   (PSq.out (aav (@aaq _ _ 3 _ _ _ _ nd rfl (Or.inl rfl) (aae (amc T) y (@aaa _ _ _ _ _ (pv 1) aab rfl)) rfl (by first | exact .inl rfl | exact .inr rfl)) (aav (@aa9 _ _ _ _ _ _ _ _ (aa2 au4 (aae (ahu T) y (@aaa _ _ _ _ _ (pv 3) aab rfl)) abr (aa1 _))
   (PSq.out (abz (aat abr)))
   aaz) (abz (@aco _ _ _ _ _ _ _ _ aG1 rfl (acn rfl T.b_range (@aaa _ _ _ _ _ aac aab rfl)) (aax (i:=4) nd rfl (Or.inl rfl))
   (PSq.out (abz (@aa9 _ _ _ _ _ _ _ _ (acq (ace (aae (afe T) y (@aaa _ _ _ _ _ (aae (ahx T) y (@aaa _ _ _ _ _ (pv 1) (@aaa _ _ _ _ _ (pv 3) aab rfl) rfl)) aab rfl))))
   (PSq.out (abz (aat abr)))
   aaz))) (fun _=>rfl)))))) (fun _=>rfl)) (aav (@aaq _ _ 5 _ _ _ _ nd rfl (Or.inl rfl) (@aan _ _ _ _ (by (refine' aaa (hs:=?C14) ?A14 ?B14;(case C14=>exact rfl);(case A14=>exact aeq);(case B14=>refine' aaa (hs:=?C13) ?A13 ?B13;(case C13=>exact rfl);(case A13=>exact aac);(case B13=>refine' aaa (hs:=?C12) ?A12 ?B12;(case C12=>exact rfl);(case A12=>exact aff);(case B12=>refine' aaa (hs:=?C11) ?A11 ?B11;(case C11=>exact rfl);(case A11=>exact aff);(case B11=>refine' aaa (hs:=?C10) ?A10 ?B10;(case C10=>exact rfl);(case A10=>exact (@aaj _ _ _ _ _ aab));(case B10=>refine' aaa (hs:=?C9) ?A9 ?B9;(case C9=>exact rfl);(case A9=>exact (@aan _ _ _ _ aab));(case B9=>refine' aaa (hs:=?C8) ?A8 ?B8;(case C8=>exact rfl);(case A8=>exact ae3);(case B8=>refine' aaa (hs:=?C7) ?A7 ?B7;(case C7=>exact rfl);(case A7=>exact abr);(case B7=>refine' aaa (hs:=?C6) ?A6 ?B6;(case C6=>exact rfl);(case A6=>exact (@aaj _ _ _ _ _ (@aaa _ _ _ _ _ aac (@aaa _ _ _ _ _ (@aan _ _ _ _ aab) aab rfl) rfl)));(case B6=>refine' aaa (hs:=?C5) ?A5 ?B5;(case C5=>exact rfl);(case A5=>exact (@aaj _ _ _ _ _ (@aaa _ _ _ _ _ aac (@aaa _ _ _ _ _ (@aan _ _ _ _ aab) aab rfl) rfl)));(case B5=>refine' aaa (hs:=?C4) ?A4 ?B4;(case C4=>exact rfl);(case A4=>exact (@aaj _ _ _ _ _ (@aaa _ _ _ _ _ aac (@aaa _ _ _ _ _ (@aan _ _ _ _ aab) aab rfl) rfl)));(case B4=>refine' aaa (hs:=?C3) ?A3 ?B3;(case C3=>exact rfl);(case A3=>exact (@aaj _ _ _ _ _ (@aaa _ _ _ _ _ aac (@aaa _ _ _ _ _ (@aan _ _ _ _ aab) aab rfl) rfl)));(case B3=>refine' aaa (hs:=?C2) ?A2 ?B2;(case C2=>exact rfl);(case A2=>exact (@aaj _ _ _ _ _ (@aaa _ _ _ _ _ aac (@aaa _ _ _ _ _ (@aan _ _ _ _ (@aaa _ _ _ _ _ (@aaj _ _ _ _ _ (@aaa _ _ _ _ _ aac (@aaa _ _ _ _ _ aac aab rfl) rfl)) aab rfl)) aab rfl) rfl)));(case B2=>refine' aaa (hs:=?C1) ?A1 ?B1;(case C1=>exact rfl);(case A1=>exact (@aaj _ _ _ _ _ (@aaa _ _ _ _ _ (@aan _ _ _ _ aab) (@aaa _ _ _ _ _ aac aab rfl) rfl)));(case B1=>exact aab))))))))))))))))) rfl (by first | exact .inl rfl | exact .inr rfl)) (aav (@aco _ _ _ _ _ _ _ _ aG1 rfl (@adg _ _ _ _ (aak aby (pv 5) (@aan _ _ _ _ (@aaa _ _ _ _ _ (@aaj _ _ _ _ _ (@aaa _ _ _ _ _ aac (@aaa _ _ _ _ _ (@aan _ _ _ _ (@aaa _ _ _ _ _ (@aaj _ _ _ _ _ (@aaa _ _ _ _ _ aac (@aaa _ _ _ _ _ aac aab rfl) rfl)) (@aaa _ _ _ _ _ (@aaj _ _ _ _ _ (@aaa _ _ _ _ _ aac (@aaa _ _ _ _ _ aac aab rfl) rfl)) aab rfl) rfl)) aab rfl) rfl)) (@aaa _ _ _ _ _ (@aaj _ _ _ _ _ (@aaa _ _ _ _ _ aac (@aaa _ _ _ _ _ (@aan _ _ _ _ (@aaa _ _ _ _ _ (@aaj _ _ _ _ _ (@aaa _ _ _ _ _ aac (@aaa _ _ _ _ _ aac aab rfl) rfl)) aab rfl)) aab rfl) rfl)) (@aaa _ _ _ _ _ (@aaj _ _ _ _ _ (@aaa _ _ _ _ _ aac (@aaa _ _ _ _ _ (@aan _ _ _ _ (@aaa _ _ _ _ _ (@aaj _ _ _ _ _ (@aaa _ _ _ _ _ aac (@aaa _ _ _ _ _ aac aab rfl) rfl)) (@aaa _ _ _ _ _ (@aaj _ _ _ _ _ (@aaa _ _ _ _ _ aac (@aaa _ _ _ _ _ aac aab rfl) rfl)) aab rfl) rfl)) aab rfl) rfl)) aab rfl) rfl) rfl)))) (aax (i:=6) nd rfl (Or.inl rfl))
   (PSq.out (abz (@aa9 _ _ _ _ _ _ _ _ (acq (ace (aae (afe T) y (@aaa _ _ _ _ _ (pv 6) aab rfl))))
   (PSq.out (abz (aat abr)))
   aaz))) (fun _=>rfl)) (abz (aat abr))))))),?_⟩
 refine adp h fun ss L q B N=>?_
 refine exS1 ss q fun ns v=>?_
 have z:=v.1
 have C:=v.2
 clear v q
 show EvS B _ _ [some (.scr ns),none,none,none,none,none,none]
 row_cond go
 refine ⟨ns,rfl,by omega,?_⟩
 row_cond go
 refine acy (fun i e=>∃ u p g c m,e=[some (.scr ns),some (.own ODk),u,p,g,c,m]) ⟨_,_,_,_,_,rfl⟩ ?_ ?_
 ·rintro i e hi a
  refine exE5 e a fun u p g c m=>?_
  clear a
  row_cond go
  refine ⟨rfl,rfl,fun n es G F J M I=>?_⟩
  have x:WebOk n es:=⟨G,F,J.inn,I⟩
  row_cond go
  refine ⟨_,rfl,fun O ds e=>by cases e;rw [ay3];have:=x.len;omega,fun b hb=>?_⟩
  obtain rfl:b=true:=hb.mpr ⟨n,es,rfl,x.lo,x.hi,x.inn,x.rise⟩
  row_cond go
  refine asd ?_
  row_cond go
  refine acy (fun j e=>∃ g c m,e=[some (.scr ns),some (.own ODk),some (.st (.int (0+(i:Int)))),some (.st (webD n es)),g,c,m]) ⟨_,_,_,rfl⟩ ?_ ?_
  ·rintro j e hj a
   refine exE3 e a fun g c m=>?_
   clear a
   row_cond go
   refine ⟨n,es,rfl,rfl,x,fun D s o hs=>hs _ ?_⟩
   row_cond go
   refine ⟨D,rfl,by have:=o.1.1;omega,o.1.2,aqj o,o.2,?_⟩
   row_cond go
   exact ⟨_,_,_,rfl⟩
  ·rintro e a
   refine exE3 e a fun g c m=>?_
   clear a
   exact ⟨_,_,_,_,_,rfl⟩
 ·rintro e a
  refine exE5 e a fun u p g c m=>?_
  clear a
  repeat (first | (refine aa8 (adt ?_)) | (refine aa8 (te:=tOp rCat _ _) (ahh (r:=rCat) ?_)) | (refine ab3 (by first | decide | simp) (abm ?_)) | row_cond st)
  refine ⟨fun l e=>∃ u p g c m,e=[some (.scr ns),some (.own ODk),u,p,g,c,m],⟨_,_,_,_,_,rfl⟩,?_,?_⟩
  ·rintro l d e hd a
   refine exE5 e a fun u p g c m=>?_
   clear a
   have o:okC d:=by
    have hm:=ay2 hd
    revert hm
    refine ayd ?_ d
    repeat' (first | exact act _ | exact ae9 _ | exact aeb | exact aec _ | exact ad1 _ | exact avd | exact axi _ | exact ave _ | exact asn | exact adu | refine ac1 ?_ ?_ | refine ab6 ?_ ?_ | refine adk ?_ (by first | (simp;done) | (simp;omega)) | refine ad0 ?_ (by first | (simp;done) | (simp;omega)) | refine sm_tup ?_ (by first | (simp;done) | (simp;omega)) | refine adf ?_ (by first | (simp;done) | (simp;omega)))
   row_cond go
   refine ⟨d,rfl,by have:=o.1.1;omega,o.1.2,aqj o,o.2,?_⟩
   row_cond go
   exact ⟨_,_,_,_,_,rfl⟩
  ·rintro e a
   refine exE5 e a fun u p g c m=>?_
   clear a
   row_cond go
   exact C
theorem axj (T:Txt K mg) {f:Addr} {fd:FuncData} (D:DefAt K mg "law" s_law ["script"] f fd):FnOk P w K mg base CX0 12 f fd ["script"] (aor K):=(avf T D).imp fun _ _ _ _ h=>asm h
end
theorem len0 {α:Type} {us:List α} (h:us.length=0):us=[]:=aE2 h
theorem len1 {α:Type} {us:List α} (h:us.length=1):∃ a0,us=[a0]:=by
 cases us with
 | nil=>cases h
 | cons a us=>exact ⟨a,by rw [len0 (Nat.succ.inj h)]⟩
theorem len2 {α:Type} {us:List α} (h:us.length=2):∃ a0 b,us=[a0,b]:=by
 cases us with
 | nil=>cases h
 | cons a us=>obtain ⟨b,e⟩:=len1 (Nat.succ.inj h);exact ⟨a,b,by rw [e]⟩
theorem len3 {α:Type} {us:List α} (h:us.length=3):∃ a0 c b,us=[a0,c,b]:=by
 cases us with
 | nil=>cases h
 | cons a us=>obtain ⟨c,b,e⟩:=len2 (Nat.succ.inj h);exact ⟨a,c,b,by rw [e]⟩
def Bnd (x:Str) (st:Stmt) (ps:List Str):Prop:=∀ (kV doc pm:Value) (an:Option Addr) (cdv ct:Value) (us:List Value),us.length=ps.length->bindArgs (fnOf x x (aci st) (aca st) (aar st) .none kV doc pm an cdv ct) ⟨us,[]⟩=pure (ps.zip us)
def FnIn (K:Frag) (x:Str) (st:Stmt):Prop:=∃ f oc od kV dc pm an cd ct sl,nsIn K mainGlobals x=some (some (.ref f))/\K.lookup f=some ⟨oc,od,.func (fnOf x x (aci st) (aca st) (aar st) .none kV dc pm an cd ct),sl⟩/\codeIn K cd x=true/\keepIn K (.ref f)=true
theorem fn_in {K:Frag} {x:Str} {st:Stmt} {f:Addr} {od an:Option Addr} {sl:Array (Option Value)} {oc kV d pm b ct:Value} (a:nsIn K mainGlobals x=some (some (.ref f))) (l:K.lookup f=some ⟨oc,od,.func (fnOf x x (aci st) (aca st) (aar st) .none kV d pm an b ct),sl⟩) (c:codeIn K b x=true) (k:keepIn K (.ref f)=true):FnIn K x st:=⟨f,oc,od,kV,d,pm,an,b,ct,sl,a,l,c,k⟩
theorem bnd1 {st:Stmt} {x:Str} {ps:List Str} (c:ps.length=1) (h:∀ (kV doc pm:Value) (an:Option Addr) (cdv ct:Value) (a:Value),bindArgs (fnOf x x (aci st) (aca st) (aar st) .none kV doc pm an cdv ct) ⟨[a],[]⟩=pure (ps.zip [a])):Bnd x st ps:=by
 intro kV doc pm an cdv ct us b
 rw [c] at b
 obtain ⟨_,rfl⟩:=len1 b
 exact h _ _ _ _ _ _ _
theorem bnd2 {st:Stmt} {x:Str} {ps:List Str} (d:ps.length=2) (h:∀ (kV doc pm:Value) (an:Option Addr) (cdv ct:Value) (a c:Value),bindArgs (fnOf x x (aci st) (aca st) (aar st) .none kV doc pm an cdv ct) ⟨[a,c],[]⟩=pure (ps.zip [a,c])):Bnd x st ps:=by
 intro kV doc pm an cdv ct us b
 rw [d] at b
 obtain ⟨_,_,rfl⟩:=len2 b
 exact h _ _ _ _ _ _ _ _
theorem bnd3 {st:Stmt} {x:Str} {ps:List Str} (f:ps.length=3) (h:∀ (kV doc pm:Value) (an:Option Addr) (cdv ct:Value) (a d c:Value),bindArgs (fnOf x x (aci st) (aca st) (aar st) .none kV doc pm an cdv ct) ⟨[a,d,c],[]⟩=pure (ps.zip [a,d,c])):Bnd x st ps:=by
 intro kV doc pm an cdv ct us b
 rw [f] at b
 obtain ⟨_,_,_,rfl⟩:=len3 b
 exact h _ _ _ _ _ _ _ _ _
theorem abe {K:Frag} {h:Heap} {mg:Str->Option Value} {x:Str} {st:Stmt} {ps:List Str} (X:K.In h) (G:h.Ns mainGlobals mg) (q:FnIn K x st)
  (hb:Bnd x st ps):∃ f fd,DefAt K mg x st ps f fd:=by
 obtain ⟨f,oc,od,kV,d,pm,an,b,ct,sl,a,l,c,k⟩:=q
 exact ⟨_,_,have F:=avt (st:=st) l c k;⟨F,mg_of X G a,F.binds hb⟩⟩
theorem txt_mk {K:Frag} {h:Heap} {mg:Str->Option Value} (X:K.In h) (G:h.Ns mainGlobals mg)
  {a:Tok} 
  (B:FnIn K "is_whole" s_is_whole)
  (I:FnIn K "is_between" s_is_between)
  (M:FnIn K "is_place" s_is_place)
  (H:FnIn K "is_tie" s_is_tie)
  (J:FnIn K "are_ties" s_are_ties)
  (D:FnIn K "is_rising" s_is_rising)
  (F:FnIn K "is_web" s_is_web)
  (E:FnIn K "_law_deck" s_law_deck)
  (L:FnIn K "_law_draw" s_law_draw)
  (C:FnIn K "_law_order" s_law_order)
  (A:FnIn K "_law_crowds" s_law_crowds)
  (z:FnIn K "_law_web" s_law_web)
  (w:FnIn K "_law_deep" s_law_deep)
  (x:FnIn K "_law_is" s_law_is)
  (v:FnIn K "_law_good" s_law_good)
  (y:FnIn K "_law_changed" s_law_changed)
  (u:FnIn K "_law_right" s_law_right)
  (s:FnIn K "law" s_law)
  (q:nsIn K mainGlobals "all" = some none)
  (g:nsIn K mainGlobals "range" = some none)
  (j:nsIn K mainGlobals "list" = some none)
  (c:nsIn K mainGlobals "isinstance" = some none)
  (f:nsIn K mainGlobals "tuple" = some none)
  (r:nsIn K mainGlobals "int" = some none)
  (n:nsIn K mainGlobals "max" = some none)
  (o:nsIn K mainGlobals "sum" = some none)
  (d:nsIn K mainGlobals "sorted" = some none)
  (m:nsIn K mainGlobals "len" = some none)
  (i:nsIn K mainGlobals "bool" = some none)
  (p:nsIn K mainGlobals "min" = some none)
  (l:nsIn K mainGlobals "dict" = some none)
  (b:nsIn K mainGlobals "MOST_PLACES" = some (some (.int 60 a)))
  : Txt K mg where
  b_all:=mg_none_of X G q
  b_range:=mg_none_of X G g
  b_list:=mg_none_of X G j
  b_isinstance:=mg_none_of X G c
  b_tuple:=mg_none_of X G f
  b_int:=mg_none_of X G r
  b_max:=mg_none_of X G n
  b_sum:=mg_none_of X G o
  b_sorted:=mg_none_of X G d
  b_len:=mg_none_of X G m
  b_bool:=mg_none_of X G i
  b_min:=mg_none_of X G p
  b_dict:=mg_none_of X G l
  v_MOST_PLACES:=⟨_,mg_of X G b⟩
  d_is_whole:=abe X G B (bnd1 rfl fun _ _ _ _ _ _ _=>rfl)
  d_is_between:=abe X G I (bnd3 rfl fun _ _ _ _ _ _ _ _ _=>rfl)
  d_is_place:=abe X G M (bnd2 rfl fun _ _ _ _ _ _ _ _=>rfl)
  d_is_tie:=abe X G H (bnd2 rfl fun _ _ _ _ _ _ _ _=>rfl)
  d_are_ties:=abe X G J (bnd2 rfl fun _ _ _ _ _ _ _ _=>rfl)
  d_is_rising:=abe X G D (bnd1 rfl fun _ _ _ _ _ _ _=>rfl)
  d_is_web:=abe X G F (bnd1 rfl fun _ _ _ _ _ _ _=>rfl)
  d_law_deck:=abe X G E (bnd1 rfl fun _ _ _ _ _ _ _=>rfl)
  d_law_draw:=abe X G L (bnd2 rfl fun _ _ _ _ _ _ _ _=>rfl)
  d_law_order:=abe X G C (bnd2 rfl fun _ _ _ _ _ _ _ _=>rfl)
  d_law_crowds:=abe X G A (bnd1 rfl fun _ _ _ _ _ _ _=>rfl)
  d_law_web:=abe X G z (bnd1 rfl fun _ _ _ _ _ _ _=>rfl)
  d_law_deep:=abe X G w (bnd1 rfl fun _ _ _ _ _ _ _=>rfl)
  d_law_is:=abe X G x (bnd3 rfl fun _ _ _ _ _ _ _ _ _=>rfl)
  d_law_good:=abe X G v (bnd1 rfl fun _ _ _ _ _ _ _=>rfl)
  d_law_changed:=abe X G y (bnd2 rfl fun _ _ _ _ _ _ _ _=>rfl)
  d_law_right:=abe X G u (bnd1 rfl fun _ _ _ _ _ _ _=>rfl)
  d_law:=abe X G s (bnd1 rfl fun _ _ _ _ _ _ _=>rfl)
theorem walk {l:PySem.W.OpenLaw} {q:Program} {b:List Str} {p:(Str->Option Value)->Heap->Prop} {o:World->Heap->Prop} {d:DefRec} {K:Params->Frag} (hn:l.most=some 63) (g:d.params.defaults=[]) (i:d.name = "law")
  (y:∀ (w:World) (h:Heap),o w h->(K w.params).In h)
  (j:∀ (w:World) (lo:List Str) (mg mb:Str->Option Value) (c:ExcName->Option Value) (h:Heap),PyProof.Rows.Top q lo c mg mb h->o w h->aeu (K w.params) h)
  (F:∀ (w:World) (mg:Str->Option Value) (h:Heap),(K w.params).In h->h.Ns mainGlobals mg->Txt (K w.params) mg) :
  PySem.W.WalkO q b p o l.row.toRowW d [] (fun f vs=>PySem.call f vs):=by
 refine L2.walk_of (n:=63) (k:=12) (x:="script") (CX:=fun _=>CX0) (sp:=fun w=>aor (K w.params)) hn (by decide) g ⟨rfl,by decide,by decide,rfl⟩ y j (fun w mg C h X G e=>?_) (fun _ _ a ns v _ A=>⟨a,ns,rfl,A,v,fun _=>rfl⟩) fun _ _ _ _ _ z=>z
 have T:=F w mg h X G
 rw [i] at e
 obtain ⟨E,m,D⟩:=T.d_law
 have B:=e.symm.trans D.mgx
 cases B
 refine ⟨m,fun s u=>?_,fun base _ _=>?_⟩
 ·obtain ⟨oc,od,kV,doc,pm,an,cdv,ct,osl,rfl,H,r⟩:=D.fn.ex
  exact .of_eq rfl
 ·exact axj T D
end G
end
theorem PySem.W.Fast.tw14996055203343762844 : True := trivial
theorem PySem.W.Fast.tw5253285437860970590 : True := trivial
theorem PySem.W.Fast.tw8314423143421374466 : True := trivial
theorem PySem.W.Fast.tw7362934475448170387 : True := trivial
theorem PySem.W.Fast.tw16870769341865780956 : True := trivial
theorem PySem.W.Fast.tw13355286995361629491 : True := trivial
theorem PySem.W.Fast.tw5760302027095763415 : True := trivial
theorem PySem.W.Fast.tw5652776091821535551 : True := trivial
theorem PySem.W.Fast.tw3512334681094709450 : True := trivial
theorem PySem.W.Fast.tw10118468971451995114 : True := trivial
theorem PySem.W.Fast.tw4931864139983931569 : True := trivial
theorem PySem.W.Fast.tw4659950653325933295 : True := trivial
theorem PySem.W.Fast.tw5832599250965928725 : True := trivial
theorem PySem.W.Fast.tw16886768157236202268 : True := trivial
theorem PySem.W.Fast.tw16858464782455142105 : True := trivial
theorem PySem.W.Fast.tw3403516281186725889 : True := trivial
theorem PySem.W.Fast.tw16454328347727263360 : True := trivial
theorem PySem.W.Fast.tw7043096954061043131 : True := trivial
theorem PySem.W.Fast.tw17876862027892741536 : True := trivial
theorem PySem.W.Fast.tw12717144406692897295 : True := trivial
theorem PySem.W.Fast.tw18182896292537970763 : True := trivial
theorem PySem.W.Fast.tw17677454141315239187 : True := trivial
theorem PySem.W.Fast.tw11563887157157362304 : True := trivial
theorem PySem.W.Fast.tw6311053890880541674 : True := trivial
theorem PySem.W.Fast.tw7346323992014936101 : True := trivial
theorem PySem.W.Fast.tw8552987863585834327 : True := trivial
theorem PySem.W.Fast.tw15086285087723571993 : True := trivial
theorem PySem.W.Fast.tw9402337140431943325 : True := trivial
theorem PySem.W.Fast.tw929638373498307335 : True := trivial
theorem PySem.W.Fast.tw17755281250489841484 : True := trivial
theorem PySem.W.Fast.tw2165048245329822059 : True := trivial
theorem PySem.W.Fast.tw5697225499589168506 : True := trivial
theorem PySem.W.Fast.tw7898045923381084882 : True := trivial
theorem PySem.W.Fast.tw10601065087048144465 : True := trivial
theorem PySem.W.Fast.tw16751723163136353655 : True := trivial
theorem PySem.W.Fast.tw14260439542294123690 : True := trivial
theorem PySem.W.Fast.tw471921011626500639 : True := trivial
theorem PySem.W.Fast.tw4508572923458865093 : True := trivial
theorem PySem.W.Fast.tw7314613106582149380 : True := trivial
theorem PySem.W.Fast.tw18423137632435329935 : True := trivial
theorem PySem.W.Fast.tw3794952464662829093 : True := trivial
theorem PySem.W.Fast.tw15101207114336517514 : True := trivial
theorem PySem.W.Fast.tw6636373227219889391 : True := trivial
theorem PySem.W.Fast.tw8526669765792050001 : True := trivial
theorem PySem.W.Fast.tw13401431483237895231 : True := trivial
theorem PySem.W.Fast.tw7591508000854053065 : True := trivial
theorem PySem.W.Fast.tw14316850971202007884 : True := trivial
theorem PySem.W.Fast.tw9770458768705331531 : True := trivial
theorem PySem.W.Fast.tw9139340889832874606 : True := trivial
theorem PySem.W.Fast.tw778576753661376402 : True := trivial
theorem PySem.W.Fast.tw10966314561428581166 : True := trivial
theorem PySem.W.Fast.tw5898293859050973159 : True := trivial
theorem PySem.W.Fast.tw15002831416916896410 : True := trivial
theorem PySem.W.Fast.tw1306035624497313507 : True := trivial
theorem PySem.W.Fast.tw17378269756148749658 : True := trivial
theorem PySem.W.Fast.tw7069329291943099453 : True := trivial
theorem PySem.W.Fast.tw16700031695304379752 : True := trivial
theorem PySem.W.Fast.tw14120027957464972706 : True := trivial
theorem PySem.W.Fast.tw5191080405176917090 : True := trivial
theorem PySem.W.Fast.tw15886599827844731307 : True := trivial
theorem PySem.W.Fast.tw11260408506521289922 : True := trivial
theorem PySem.W.Fast.tw4010994214076638608 : True := trivial
theorem PySem.W.Fast.tw5855844101702382172 : True := trivial
theorem PySem.W.Fast.tw5322569251114082002 : True := trivial
theorem PySem.W.Fast.tw3824712837149458998 : True := trivial
theorem PySem.W.Fast.tw4515061029573031387 : True := trivial
theorem PySem.W.Fast.tw10872367938904544022 : True := trivial
theorem PySem.W.Fast.tw7681942966865511786 : True := trivial
theorem PySem.W.Fast.tw13978048770859490874 : True := trivial
theorem PySem.W.Fast.tw5825529296770337734 : True := trivial
theorem PySem.W.Fast.tw16350505998224901625 : True := trivial
open PySem PySem.W PyProof.Rows
set_option maxRecDepth 100000 in
set_option maxHeartbeats 0 in
theorem PySem.Challenge.cw_fewties_k01_what_is_a_web_holds : PySem.Challenge.rw_fewties_k01_what_is_a_web.Holds := by
 w_on;o_law;k_head;(case hw=>w_witness2)
 k_fill
 refine G.walk (l:=PySem.Challenge.rw_fewties_k01_what_is_a_web) rfl rfl rfl (fun w h Y=>PySem.W.kIn_of Y) ?TB ?F
 case TB =>
  intro w lo mg mb mean h T Y
  refine' L2.tabs0_none (L2.tab_no ?ht_)
  case ht_=>k_is
 case F =>
  intro w mg h KX GG
  refine' G.txt_mk KX GG ..
  all_goals try (refine' G.fn_in ?a_ ?l_ ?c_ ?k_;(case a_=>k_is);(case l_=>k_is);(case c_=>k_is);(case k_=>k_is))
  all_goals try k_is
#print axioms PySem.Challenge.cw_fewties_k01_what_is_a_web_holds
