import PyProof.Rows.All
import Wide.All
import OpenK.AllK
import Wide.FinOn
import PyProof.EqAt
import PyProof.EqKinds
import PyProof.TupleCall
import KE.KLam
import KE.KMinKey
import PyProof.NeData
import PyProof.P3In
import PyProof.WalkInts
import PyProof.Rows.SortWalk
import PyProof.SumWalkG
import PyProof.Rows.CallKwBuiltin
import KE.KDictList
import PyProof.WalksEnum
import PyProof.ZipIter
import PyProof.ConsumeWalk
import PyProof.ListRange
import PyProof.TupleOfSeq
import PyProof.Rows.RuleN_abs
import KE.KRevIter
import PySem.Challenge.RW_fewties_k15_best_few_ties
open PySem.W (Frag kitOne mg_of nsIn mg_none_of excIn fnOf mroIn keepIn codeIn)
set_option Elab.async false
set_option linter.all false
set_option compiler.extract_closed false
set_option maxRecDepth 100000
set_option maxHeartbeats 4000000
noncomputable section
abbrev aA0:=@List.getElem?_eq_getElem
abbrev aA1:=@List.getElem?_eq_some_iff
abbrev aA2:=@List.mem_of_getElem?
abbrev aA3:=@List.length_map
abbrev aA4:=@Array.getElem?_eq_getElem
abbrev aA5:=@List.getElem?_map
abbrev aA6:=@Nat.le_refl
abbrev aA7:=@List.mem_append
abbrev aA8:=@List.mem_cons
abbrev aA9:=@Bool.false_ne_true
abbrev aB0:=@List.length_append
abbrev aB1:=@List.size_toArray
abbrev aB2:=@List.mem_append_right
abbrev aB3:=@List.append_assoc
abbrev aB4:=@List.mem_cons_of_mem
abbrev aB5:=@Nat.ne_of_lt
abbrev aB6:=@List.mem_map
abbrev aB7:=@List.mem_cons_self
abbrev aB8:=@List.mem_range
abbrev aB9:=@List.mem_of_mem_take
abbrev aC0:=@List.take_append_drop
abbrev aC1:=@List.mem_singleton
abbrev aC2:=@List.getElem?_append_left
abbrev aC3:=@List.mem_of_mem_drop
abbrev aC4:=@Nat.lt_of_lt_of_le
abbrev aC5:=@Option.some.inj
abbrev aC6:=@List.mem_append_left
abbrev aC7:=@List.getElem?_append_right
abbrev aC8:=@List.pairwise_append
abbrev aC9:=@Nat.le_trans
abbrev aD0:=@List.map_cons
abbrev aD1:=@List.getElem?_set
abbrev aD2:=@Array.getElem?_toList
abbrev aD3:=@decide_eq_false
abbrev aD4:=@decide_eq_true
abbrev aD5:=@List.map_map
abbrev aD6:=@Nat.lt_of_le_of_lt
abbrev aD7:=@List.map_append
abbrev aD8:=@List.length_cons
abbrev aD9:=@Int.emod_nonneg
abbrev aE0:=@Int.emod_lt_of_pos
abbrev aE1:=@List.map_congr_left
abbrev aE2:=@List.append_nil
abbrev aE3:=@List.take_of_length_le
abbrev aE4:=@List.all_eq_true
abbrev aE5:=@if_pos
abbrev aE6:=@if_neg
abbrev aE7:=@List.getElem?_eq_none_iff
abbrev aE8:=@Nat.lt_succ_of_lt
abbrev aE9:=@List.length_pos_iff
abbrev aF0:=@Nat.zero_le
abbrev aF1:=@List.pairwise_map
abbrev aF2:=@List.ext_getElem?
abbrev aF3:=@beq_iff_eq
abbrev aF4:=@Nat.lt_irrefl
abbrev aF5:=@Nat.le_of_lt
abbrev aF6:=@Array.toList_append
abbrev aF7:=@List.pairwise_iff_getElem
abbrev aF8:=@List.take_length
abbrev aF9:=@List.lookup_cons
abbrev aG0:=@List.length_take
abbrev aG1:=@Bool.and_eq_true
abbrev aG2:=@List.eq_nil_of_length_eq_zero
abbrev aG3:=@List.replicate_succ
abbrev aG4:=@List.take_add_one
abbrev aG5:=@List.getElem?_take_of_lt
abbrev aG6:=@List.mem_iff_getElem
abbrev aG7:=@List.getElem?_replicate
abbrev aG8:=@Bool.eq_iff_iff
abbrev aG9:=@Array.size_push
abbrev aH0:=@List.Pairwise.imp_of_mem
abbrev aH1:=@List.getElem?_cons_succ
abbrev aH2:=@Option.map_some
abbrev aH3:=@List.getElem?_drop
abbrev aH4:=@List.not_mem_nil
abbrev aH5:=@List.nodup_cons
abbrev aH6:=@Int.zero_add
abbrev aH7:=@List.length_drop
abbrev aH8:=@List.length_nil
open PySem PySem.Spec in
abbrev aH9:=@wpAny_bind
open PySem PySem.Spec in
abbrev aI0:=@wpAny_pure
open PySem PySem.Spec in
abbrev aI1:=@Heap.get?_push_of_some
open PySem PySem.Spec in
abbrev aI2:=@Heap.lt_size
open PySem PySem.Spec in
abbrev aI3:=@Heap.get?_push_size
open PySem PySem.Spec in
abbrev aI4:=@wpAny_holding
open PySem PySem.Spec in
abbrev aI5:=@PassesOwn.never
open PySem PySem.Spec in
abbrev aI6:=@wpAny_mono
open PySem PySem.Spec in
abbrev aI7:=@wpAny_newObj_type
open PySem PySem.Spec in
abbrev aI8:=@wpAny_truthy_bool
namespace L2
open PySem PySem.Spec PyProof.Rows
abbrev Key:=Sum Int Str
def agg:Key->Value->Bool
 | .inl k,v=>Value.isInt k v
 | .inr x,v=>Value.isStrOf x v
def keyH (w:World):Key->Int
 | .inl k=>hashInt k
 | .inr x=>hashStr w x
theorem abr:∀ {k:Key} {v:Value},agg k v=true->(∃ i t,k=Sum.inl i/\v=Value.int i t)\/(∃ x t,k=Sum.inr x/\v=Value.str x t)
 | .inl i,v,h=>by
  obtain ⟨t,e⟩:=Value.isInt_shape (k:=i) (v:=v) h
  exact .inl ⟨i,t,rfl,e⟩
 | .inr x,v,h=>by
  obtain ⟨t,e⟩:=Value.isStrOf_shape (x:=x) (v:=v) h
  exact .inr ⟨x,t,rfl,e⟩
theorem apt (i:Int) (t:Tok):agg (.inl i) (.int i t)=true:=by simp [agg,Value.isInt]
theorem apu (x:Str) (t:Tok):agg (.inr x) (.str x t)=true:=by simp [agg,Value.isStrOf]
theorem axb (a b:Int):decide ((Sum.inl a:Key)=Sum.inl b)=(a == b):=by
 by_cases e:a=b
 ·subst e;simp
 ·have h:¬ (Sum.inl a:Key)=Sum.inl b:=fun q=>e (Sum.inl.inj q)
  rw [aD3 h]
  exact (beq_eq_false_iff_ne.mpr e).symm
theorem axc (a b:Str):decide ((Sum.inr a:Key)=Sum.inr b)=decide (a=b):=by
 by_cases e:a=b
 ·subst e;simp
 ·have h:¬ (Sum.inr a:Key)=Sum.inr b:=fun q=>e (Sum.inr.inj q)
  rw [aD3 h,aD3 e]
theorem axd (a:Int) (b:Str):decide ((Sum.inl a:Key)=Sum.inr b)=false:=aD3 (fun q=>nomatch q)
theorem axe (a:Str) (b:Int):decide ((Sum.inr a:Key)=Sum.inl b)=false:=aD3 (fun q=>nomatch q)
def abc (prog:Program) (w:World):PySem.KeyKind prog w Key where
 is:=agg
 hash:=keyH w
 inj:=fun v a b ha hb=>by
  rcases abr ha with ⟨i,t,rfl,rfl⟩ | ⟨x,t,rfl,rfl⟩
  ·rcases abr hb with ⟨j,u,rfl,e⟩ | ⟨y,u,rfl,e⟩
   ·injection e with e1 _;rw [e1]
   ·exact nomatch e
  ·rcases abr hb with ⟨j,u,rfl,e⟩ | ⟨y,u,rfl,e⟩
   ·exact nomatch e
   ·injection e with e1 _;rw [e1]
 byValue:=fun k v h=>by
  rcases abr h with ⟨i,t,rfl,rfl⟩ | ⟨x,t,rfl,rfl⟩ <;> rfl
 pyHash:=fun hv h=>by
  rcases abr hv with ⟨i,t,rfl,rfl⟩ | ⟨x,t,rfl,rfl⟩
  ·exact wpAny_pyHash_int h
  ·exact wpAny_pyHash_str h
 eqBool:=fun hu hv h=>by
  rcases abr hu with ⟨i,t,rfl,rfl⟩ | ⟨x,t,rfl,rfl⟩
  ·rcases abr hv with ⟨j,u,rfl,rfl⟩ | ⟨y,u,rfl,rfl⟩
   ·rw [axb] at h;exact wpAny_eqBool_int h
   ·rw [axd] at h;exact SeqAt.EqAt.int_str i t y u _ _ _ _ h
  ·rcases abr hv with ⟨j,u,rfl,rfl⟩ | ⟨y,u,rfl,rfl⟩
   ·rw [axe] at h;exact SeqAt.EqAt.str_int x t j u _ _ _ _ h
   ·rw [axc] at h;exact wpAny_eqBool_str h
 «strs»:=fun k x t v h=>by
  rcases abr h with ⟨i,u,rfl,e⟩ | ⟨y,u,rfl,e⟩
  ·exact nomatch e
  ·injection e with e1 _
   subst e1
   cases v <;> rfl
theorem am4 (prog:Program) (w:World) (i:Int) (t:Tok):(abc prog w).is (.inl i) (.int i t)=true:=apt i t
theorem am5 (prog:Program) (w:World) (x:Str) (t:Tok):(abc prog w).is (.inr x) (.str x t)=true:=apu x t
inductive V where
 | non | bl (b:Bool) | int (i:Int) | str (x:Str) | byt (b:Array UInt8) | flt (b:UInt64) | ref (a:Addr) | ty (n:String)
 deriving DecidableEq
def RelV:V->Value->Prop
 | .non,u=>u=Value.none
 | .bl b,u=>u=Value.bool b
 | .int i,u=>∃ t,u=Value.int i t
 | .str x,u=>∃ t,u=Value.str x t
 | .byt b,u=>∃ t,u=Value.bytes b t
 | .flt b,u=>∃ t,u=Value.float b t
 | .ref a,u=>u=Value.ref a
 | .ty n,u=>u=Value.type n
abbrev Vals:List V->List Value->Prop:=Paired RelV
theorem Vals.length {xs:List V} {us:List Value} (r:Vals xs us):xs.length=us.length:=Paired.length r
theorem Vals.get:∀ {xs:List V} {us:List Value} {i:Nat} {x:V},Vals xs us->xs[i]?=some x->∃ u,us[i]?=some u/\RelV x u
 | _,_,_,_,.nil,e=>by simp at e
 | _,_,0,_,.cons r _,e=>by simp at e;subst e;exact ⟨_,rfl,r⟩
 | _,_,i+1,x,.cons _ t,e=>by
  obtain ⟨u,b,a⟩:=Vals.get (i:=i) (x:=x) t (by simpa using e)
  exact ⟨u,by simpa using b,a⟩
theorem Vals.set {x:V} {u:Value} (r:RelV x u):∀ {xs:List V} {us:List Value} (i:Nat),Vals xs us->Vals (xs.set i x) (us.set i u)
 | _,_,_,.nil => .nil
 | _,_,0,.cons _ t => .cons r t
 | _,_,i+1,.cons q t => .cons q (Vals.set r i t)
theorem Vals.append:∀ {xs ys:List V} {us a:List Value},Vals xs us->Vals ys a->Vals (xs ++ ys) (us ++ a)
 | _,_,_,_,.nil,s=>s
 | _,_,_,_,.cons r t,s => .cons r (Vals.append t s)
theorem Vals.take:∀ {xs:List V} {us:List Value} (n:Nat),Vals xs us->Vals (xs.take n) (us.take n)
 | _,_,0,_ => .nil
 | _,_,_+1,.nil => .nil
 | _,_,n+1,.cons r t => .cons r (Vals.take n t)
theorem Vals.drop:∀ {xs:List V} {us:List Value} (n:Nat),Vals xs us->Vals (xs.drop n) (us.drop n)
 | _,_,0,r=>r
 | _,_,_+1,.nil => .nil
 | _,_,n+1,.cons _ t=>Vals.drop n t
def RelO:Option V->Option Value->Prop
 | some v,some u=>RelV v u
 | none,none=>True
 | _,_=>False
def KV {κ:Type}:List (κ × V)->List (κ × Value)->Prop:=Paired fun (p : κ × V) (q : κ × Value)=>p.1=q.1/\RelV p.2 q.2
def kV:Key->V
 | .inl i => .int i
 | .inr x => .str x
inductive HO where
 /-- a list -/
 | lst (xs:List V)
 /-- a tuple (never changes) -/
 | tup (xs:List V)
 /-- a dict whose keys are ints and texts; one whose keys are tuples of ints and texts (the empty one is both) -/
 | dK (kvs:List (Key × V)) | dT (kvs:List (List Key × V))
 /-- a set of ints: its members, its size -/
 | set (S:Int->Bool) (n:Nat)
 /-- an instance of the class at C, its dict at dx, its attributes -/
 | ins (C dx:Addr) (fs:List (Str × V))
 /-- the dict of the instance at x -/
 | own (x:Addr)
 /-- the dict of an exception -/
 | xd (fs:List (Str × V))
 /-- a bound method, f of x -/
 | met (f x:Addr)
 /-- a range object lo, lo + 1, .. below hi -/
 | rng (lo hi:Int)
 /-- a thing that is known to the object (the script; a dict while a loop walks it): read, never written while it is so -/
 | frz (o:Obj) (u:HO)
 /-- a code object's table -/
 | tbl (ps:Array Value)
 /-- any other thing, by what is true of its one object (a def of one's own: SetO a S n:=HO.ext fun h => ..) -/
 | ext (φ:Heap->Prop)
abbrev Hp:=Addr->Option HO
def upd (H:Hp) (a:Addr) (o:HO):Hp:=fun b=>if b=a then some o else H b
theorem aah {H:Hp} {a:Addr} {o:HO}:upd H a o a=some o:=by unfold upd;rw [aE5 rfl]
theorem aae {H:Hp} {a b:Addr} {o:HO} (h:b ≠ a):upd H a o b=H b:=by unfold upd;rw [aE6 h]
theorem at3 {H:Hp} {a b:Addr} {o u:HO} (h:H a=some o) (h':H b=some u) (d:o ≠ u):a ≠ b:=by
 intro e;subst e;rw [h] at h';exact d (aC5 h')
theorem aak {H:Hp} {a b:Addr} {o:HO} (h:H a=some o) (h':H b=none):a ≠ b:=by
 intro e;subst e;rw [h] at h';cases h'
section
variable (P:Program) (w:World)
def ObjOk (H:Hp) (h:Heap) (a:Addr):HO->Prop
 | .lst xs=>xs.length<=sizeLine/\∃ (its:List Value) (n:Nat),Vals xs its/\h.get? a=some { cls:=.type "list",data:=.seq its.toArray n }
 | .tup xs=>xs.length<=sizeLine/\∃ its:List Value,Vals xs its/\IsTup h a its.toArray
 | .dK kvs=>kvs.length<=sizeLine/\(a == sysModules)=false/\∃ vs,KV kvs vs/\h.DictOf (abc P w) a vs
 | .dT kvs=>kvs.length<=sizeLine/\(a == sysModules)=false/\∃ xs:List (List Key × Addr × Value),
   Paired (fun (p:List Key × V) (q:List Key × Addr × Value)=>p.1=q.1/\H q.2.1=some (.tup (p.1.map kV))/\RelV p.2 q.2.2) kvs xs /\
   ∃ o es ep,h.get? a=some o/\o.ExactDict/\o.data=.dict es ep/\es.toList=xs.map (entryOfKey (tupleKind (abc P w)))/\(xs.map (·.1)).Nodup
 | .set S n=>h.SetOf (intKind P w) a S n
 | .ins C dx fs=>H dx=some (.own a)/\fs.length<=1000/\dx ≠ a/\h.get? a=some (PySem.W.instObj C dx) /\
   ∃ mA,h.Ns1 dx mA/\(∀ f,RelO (fs.lookup f) (mA f))/\PySem.Within mA (fs.map (·.1))
 | .own _=>∃ o,h.get? a=some o
 | .xd fs=>∃ mA,h.Ns1 a mA/\∀ f,RelO (fs.lookup f) (mA f)
 | .rng lo hi=>∃ t u v,h.get? a=some { cls:=.type "range",data:=.fields #[.int lo t,.int hi u,.int 1 v] }
 | .frz o u=>h.get? a=some o/\ObjOk H h a u
 | .tbl gs=>∃ ps:Array Value,h.get? a=some { cls:=.none,data:=.fields ps }/\TriplesOk ps.toList/\∀ (pos:Pos) (cv:Value),codeAmong pos ps.toList=some cv->∃ c oc vs q t t',cv=.ref c/\H c=some (.own a)/\h.get? c=some oc/\oc.data=.fields vs/\vs[1]?=some (.str q t)/\gs[0]?=some (.str q t')
 | .met f x=>h.get? a=some (PySem.W.methodObj (.ref f) (.ref x))
 | .ext φ => φ h/\(∃ o,h.get? a=some o)/\∀ h1 h2:Heap,φ h1->(∀ o,h1.get? a=some o->h2.get? a=some o)->φ h2
def HOk (H:Hp) (h:Heap):Prop:=∀ a o,H a=some o->ObjOk P w H h a o
end
section
variable {P:Program} {w:World} {H H':Hp} {h h':Heap} {a:Addr} {o:HO}
theorem ObjOk.lt (x:ObjOk P w H h a o):a < h.objs.size:=by
 cases o with
 | lst xs=>obtain ⟨_,_,_,_,e⟩:=x;exact aI2 e
 | tup xs=>obtain ⟨_,_,_,p⟩:=x;exact p.lt
 | dK kvs=>obtain ⟨_,_,_,_,o,_,_,e,_⟩:=x;exact aI2 e
 | dT kvs=>obtain ⟨_,_,_,_,o,_,_,e,_⟩:=x;exact aI2 e
 | set S n=>obtain ⟨o,_,_,_,e,_⟩:=x;exact aI2 e
 | ins C dx fs=>obtain ⟨_,_,_,e,_⟩:=x;exact aI2 e
 | own y=>obtain ⟨_,e⟩:=x;exact aI2 e
 | xd fs=>obtain ⟨_,⟨_,_,_,e,_⟩,_⟩:=x;exact aI2 e
 | rng lo hi=>obtain ⟨_,_,_,e⟩:=x;exact aI2 e
 | frz ob u=>obtain ⟨e,_⟩:=x;exact aI2 e
 | tbl ps=>obtain ⟨_,e,_⟩:=x;exact aI2 e
 | met f y=>exact aI2 (show h.get? a=some _ from x)
 | ext φ=>obtain ⟨_,⟨_,e⟩,_⟩:=x;exact aI2 e
theorem Paired.mapP {α β:Type} {F G : α->β->Prop}:∀ {c:List α} {d:List β},Paired F c d->(∀ a b,F a b->G a b)->Paired G c d
 | _,_,.nil,_ => .nil
 | _,_,.cons r t,f => .cons (f _ _ r) (Paired.mapP t f)
theorem ObjOk.stay (x:ObjOk P w H h a o) (k:∀ b u,(b=a\/H b=some (.own a))->h.get? b=some u->h'.get? b=some u)
  (l:∀ b,H b=some (.own a)->H' b=some (.own a)) (m:∀ b xs,H b=some (.tup xs)->H' b=some (.tup xs)):ObjOk P w H' h' a o:=by
 induction o with
 | lst xs=>obtain ⟨z,its,n,r,e⟩:=x;exact ⟨z,its,n,r,k _ _ (.inl rfl) e⟩
 | tup xs=>obtain ⟨z,its,r,g,e,c⟩:=x;exact ⟨z,its,r,g,k _ _ (.inl rfl) e,c⟩
 | dK kvs=>obtain ⟨z,y,vs,r,g,es,i,e,c⟩:=x;exact ⟨z,y,vs,r,g,es,i,k _ _ (.inl rfl) e,c⟩
 | dT kvs =>
  obtain ⟨z,y,xs,r,g,es,i,e,c⟩:=x
  exact ⟨z,y,xs,Paired.mapP r fun p q z=>⟨z.1,m _ _ z.2.1,z.2.2⟩,g,es,i,k _ _ (.inl rfl) e,c⟩
 | set S n=>obtain ⟨g,es,i,t,e,c⟩:=x;exact ⟨g,es,i,t,k _ _ (.inl rfl) e,c⟩
 | ins C dx fs =>
  obtain ⟨d,z,ne,e,mA,⟨od,es,i,e2,c⟩,r⟩:=x
  exact ⟨l _ d,z,ne,k _ _ (.inl rfl) e,mA,⟨od,es,i,k _ _ (.inr d) e2,c⟩,r⟩
 | own y=>obtain ⟨g,e⟩:=x;exact ⟨g,k _ _ (.inl rfl) e⟩
 | xd fs=>obtain ⟨mA,⟨od,es,i,e,c⟩,r⟩:=x;exact ⟨mA,⟨od,es,i,k _ _ (.inl rfl) e,c⟩,r⟩
 | rng lo hi=>obtain ⟨t,u,v,e⟩:=x;exact ⟨t,u,v,k _ _ (.inl rfl) e⟩
 | frz g u ih=>obtain ⟨e,q⟩:=x;exact ⟨k _ _ (.inl rfl) e,ih q⟩
 | tbl ps =>
  obtain ⟨j,e,T,f⟩:=x
  exact ⟨j,k a _ (.inl rfl) e,T,fun pos s z=>let ⟨c,oc,vs,q,t,t',B,e2,A,r⟩:=f pos s z;⟨c,oc,vs,q,t,t',B,l c e2,k c oc (.inr e2) A,r⟩⟩
 | met f y =>
  have e:h.get? a=some (PySem.W.methodObj (.ref f) (.ref y)):=x
  show h'.get? a=some (PySem.W.methodObj (.ref f) (.ref y))
  exact k a _ (.inl rfl) e
 | ext φ=>obtain ⟨p,⟨o,e⟩,st⟩:=x;exact ⟨st _ _ p fun o q=>k _ _ (.inl rfl) q,⟨o,k _ _ (.inl rfl) e⟩,st⟩
theorem HOk.lt (x:HOk P w H h) (e:H a=some o):a < h.objs.size:=(x a o e).lt
theorem HOk.fresh (x:HOk P w H h) (e:h.objs.size<=a):H a=none:=by
 cases q:H a with
 | none=>rfl
 | some u=>exact absurd (aC4 (x.lt q) e) (aF4 _)
theorem HOk.kept (x:HOk P w H h) (k:∀ b u,h.get? b=some u->h'.get? b=some u):HOk P w H h':=fun a o e =>
 (x a o e).stay (fun b u _ q=>k b u q) (fun _ q=>q) fun _ _ q=>q
theorem HOk.laid (x:HOk P w H h) (k:∀ b u,h.get? b=some u->h'.get? b=some u) (d:h.objs.size<=a) (new:ObjOk P w (upd H a o) h' a o):HOk P w (upd H a o) h':=fun b u e=>by
 have hn:=x.fresh d
 by_cases hb:b=a
 ·subst hb;rw [aah] at e;cases e;exact new
 ·rw [aae hb] at e
  exact (x b u e).stay (fun c v _ q=>k c v q) (fun c q=>by rw [aae (aak q hn)];exact q) fun c xs q=>by rw [aae (aak q hn)];exact q
end
def Rd (H:Hp) (a:Addr) (u:HO):Prop:=H a=some u\/∃ o,H a=some (.frz o u)
theorem Rd.of {H:Hp} {a:Addr} {u:HO} (h:H a=some u):Rd H a u:=.inl h
theorem Rd.ok {P:Program} {w:World} {H:Hp} {h:Heap} {a:Addr} {u:HO} (r:Rd H a u) (x:HOk P w H h):ObjOk P w H h a u:=by
 rcases r with r | ⟨o,r⟩
 ·exact x a u r
 ·obtain ⟨_,q⟩:=x a _ r
  exact q
def Mut:Option HO->Prop
 | some (.lst _)=>True
 | some (.dK _)=>True
 | some (.dT _)=>True
 | some (.set _ _)=>True
 | some (.ins _ _ _)=>True
 | some (.ext _)=>True
 | _=>False
section
variable {P:Program} {w:World} {H:Hp} {h h':Heap} {x e:Addr} {o':HO}
theorem HOk.write (ok:HOk P w H h) (g:Mut (H x)) (j:e=x\/H e=some (.own x)) (k:∀ b u,b ≠ e->h.get? b=some u->h'.get? b=some u) (i:∃ u,h'.get? e=some u)
  (new:ObjOk P w (upd H x o') h' x o'):HOk P w (upd H x o') h':=fun b u q=>by
 have a:∀ c y,H c=some (.own y)->c ≠ x:=fun c y r z=>by subst z;rw [r] at g;exact g
 have d:∀ c xs,H c=some (.tup xs)->c ≠ x:=fun c xs r z=>by subst z;rw [r] at g;exact g
 by_cases hb:b=x
 ·subst hb;rw [aah] at q;cases q;exact new
 ·rw [aae hb] at q
  by_cases hbe:b=e
  ·have l:H b=some (.own x):=by
    rcases j with z | z
    ·exact absurd (hbe.trans z) hb
    ·rw [hbe];exact z
   rw [q] at l;cases l
   obtain ⟨v,m⟩:=i
   exact ⟨v,by rw [hbe];exact m⟩
  ·refine (ok b u q).stay (fun c v f r=>k c v ?_ r) (fun c r=>by rw [aae (a c b r)];exact r) fun c xs r=>by rw [aae (d c xs r)];exact r
   rcases f with rfl | f
   ·exact hbe
   ·rintro rfl
    rcases j with z | z
    ·exact a c b f z
    ·rw [f] at z;cases z;exact hb rfl
end
structure Un (fs ex:List Addr) (H H':Hp) (h h':Heap):Prop where
 keep:∀ b o,h.get? b=some o->H b=none->b ∉ fs->b ∉ ex->h'.get? b=some o
 slot:∀ b o,h.get? b=some o->H b=none->b∈fs->b ∉ ex->∃ sl,h'.get? b=some { o with slots:=sl }
 free:∀ b o,h.get? b=some o->H b=none->b ∉ ex->H' b=none
 there:∀ b o,h.get? b=some o->b ∉ ex->∃ o',h'.get? b=some o'
 tups:∀ b xs,H b=some (.tup xs)->H' b=some (.tup xs)
 frzs:∀ b o u,H b=some (.frz o u)->H' b=some (.frz o u)
 tbls:∀ b ps,H b=some (.tbl ps)->∃ more,H' b=some (.tbl (ps ++ more))
section
variable {fs fs' ex ex':List Addr} {H H1 H2:Hp} {h h1 h2 h':Heap} {a x e:Addr} {o:HO}
theorem Un.any (u:Un fs ex H H1 h h1) {b:Addr} {a:Obj} (q:h.get? b=some a) (n:H b=none) (c:b ∉ ex):∃ sl,h1.get? b=some { a with slots:=sl }:=by
 by_cases hb:b∈fs
 ·exact u.slot b a q n hb c
 ·exact ⟨a.slots,u.keep b a q n hb c⟩
theorem Un.trans (a:Un fs ex H H1 h h1) (b:Un fs ex H1 H2 h1 h2):Un fs ex H H2 h h2 where
 keep:=fun c f q n i d=>b.keep c f (a.keep c f q n i d) (a.free c f q n d) i d
 slot:=fun c f q n i d=>by
  obtain ⟨sl,g⟩:=a.slot c f q n i d
  obtain ⟨j,e2⟩:=b.slot c _ g (a.free c f q n d) i d
  exact ⟨j,e2⟩
 free:=fun c f q n d=>by
  obtain ⟨o',g⟩:=a.there c f q d
  exact b.free c o' g (a.free c f q n d) d
 there:=fun c f q d=>by
  obtain ⟨o',g⟩:=a.there c f q d
  exact b.there c o' g d
 tups:=fun c xs q=>b.tups c xs (a.tups c xs q)
 frzs:=fun c f xs q=>b.frzs c f xs (a.frzs c f xs q)
 tbls:=fun c ps q=>by
  obtain ⟨l,g⟩:=a.tbls c ps q
  obtain ⟨m,e2⟩:=b.tbls c _ g
  exact ⟨l ++ m,by rw [e2,Array.append_assoc]⟩
theorem Un.kept (k:∀ b u,h.get? b=some u->h'.get? b=some u):Un fs ex H H h h' :=
 ⟨fun b a q _ _ _=>k b a q,fun b a q _ _ _=>⟨a.slots,k b a q⟩,fun _ _ _ n _=>n,fun b a q _=>⟨a,k b a q⟩,fun _ _ q=>q,fun _ _ _ q=>q,fun _ ps q=>⟨#[],by rw [q];simp⟩⟩
theorem Un.refl:Un fs ex H H h h:=Un.kept fun _ _ q=>q
theorem Un.laid (k:∀ b u,h.get? b=some u->h'.get? b=some u) (c:h.objs.size<=a) (hn:H a=none):Un fs ex H (upd H a o) h h' where
 keep:=fun b u q _ _ _=>k b u q
 slot:=fun b u q _ _ _=>⟨u.slots,k b u q⟩
 free:=fun b u q n _=>by rw [aae (aB5 (aC4 (aI2 q) c))];exact n
 there:=fun b u q _=>⟨u,k b u q⟩
 tups:=fun b xs q=>by rw [aae (aak q hn)];exact q
 frzs:=fun b u xs q=>by rw [aae (aak q hn)];exact q
 tbls:=fun b ps q=>⟨#[],by rw [aae (aak q hn),q];simp⟩
theorem Un.write (a:Mut (H x)) (f:e=x\/H e=some (.own x)) (k:∀ b u,b ≠ e->h.get? b=some u->h'.get? b=some u) (c:∃ u,h'.get? e=some u):Un fs ex H (upd H x o) h h':=by
 have d:∀ b,H b=none->b ≠ x:=fun b n z=>by subst z;rw [n] at a;exact a
 have hb:∀ b,H b=none->b ≠ e:=fun b n z=>by
  subst z
  rcases f with r | r
  ·exact d b n r
  ·rw [n] at r;cases r
 have hm:∀ b u,H b=some u->¬ Mut (some u)->b ≠ x:=fun b u q nm z=>by subst z;rw [q] at a;exact nm a
 refine ⟨fun b u q n _ _=>k b u (hb b n) q,fun b u q n _ _=>⟨u.slots,k b u (hb b n) q⟩,fun b u q n _=>by rw [aae (d b n)];exact n,fun b u q _=>?_,
  fun b xs q=>by rw [aae (hm b _ q fun z=>z)];exact q,fun b u xs q=>by rw [aae (hm b _ q fun z=>z)];exact q,fun b ps q=>⟨#[],by rw [aae (hm b _ q fun z=>z),q];simp⟩⟩
 by_cases hbe:b=e
 ·subst hbe;exact c
 ·exact ⟨u,k b u hbe q⟩
theorem Un.mono (u:Un fs ex H H1 h h1) (f:∀ b∈fs,b∈fs') (d:∀ b∈ex,b∈ex'):Un fs' ex' H H1 h h1 :=
 ⟨fun b c q n hb a=>u.keep b c q n (fun z=>hb (f b z)) fun z=>a (d b z),fun _ _ q n _ a=>u.any q n fun z=>a (d _ z),fun b c q n a=>u.free b c q n fun z=>a (d b z),fun b c q a=>u.there b c q fun z=>a (d b z),u.tups,u.frzs,u.tbls⟩
end
def trk (h:Heap) (H:Hp):List Addr:=(List.range h.objs.size).filter fun a=>(H a).isSome
def hidT (h:Heap) (H:Hp):Heap:=PySem.W.hideAll h (trk h H)
theorem apv (h:Heap) (H:Hp):(hidT h H).objs.size=h.objs.size:=PySem.W.hideAll_size _ _
theorem arz {h:Heap} {H:Hp} {b:Addr} {o:Obj} (e:h.get? b=some o) (n:H b=none):(hidT h H).get? b=some o :=
 PySem.W.hideAll_get _ e fun hm=>by
  have q:(H b).isSome=true:=(List.mem_filter.mp hm).2
  rw [n] at q;simp at q
theorem auw {h:Heap} {H:Hp} {b:Addr} {o:Obj} (e:(hidT h H).get? b=some o):h.get? b=some o/\H b=none:=by
 have a:h.get? b=some o:=PySem.W.of_hideAll (trk h H) e
 refine ⟨a,?_⟩
 cases q:H b with
 | none=>rfl
 | some x =>
  have hm:b∈trk h H:=List.mem_filter.mpr ⟨aB8.mpr (aI2 a),by simp [q]⟩
  have z:(hidT h H).get? b=none:=PySem.W.hideAll_none (trk h H) hm
  rw [z] at e;cases e
def ae4 (g h:Heap) (L:Addr):List (Addr × Obj):=(List.range h.objs.size).filterMap fun a=>if a=L\/(g.get? a).isSome=true then none else (h.get? a).map fun o=>(a,o)
theorem am6 {g h:Heap} {L a:Addr} {o:Obj} (d:a ≠ L) (c:g.get? a=none) (b:h.get? a=some o):(a,o)∈ae4 g h L :=
 List.mem_filterMap.mpr ⟨a,aB8.mpr (aI2 b),by simp [d,c,b]⟩
theorem ai4 {g h:Heap} {L:Addr} {p:Addr × Obj} (a:p∈ae4 g h L):p.1 ≠ L/\g.get? p.1=none/\h.get? p.1=some p.2:=by
 obtain ⟨b,_,e⟩:=List.mem_filterMap.mp a
 split at e
 ·cases e
 ·rename_i hn
  cases q:h.get? b with
  | none=>rw [q] at e;simp at e
  | some u =>
   rw [q] at e
   simp only [aH2,Option.some.injEq] at e
   subst e
   refine ⟨fun z=>hn (.inl z),?_,q⟩
   show g.get? b=none
   cases r:g.get? b with
   | none=>rfl
   | some v=>exact (hn (.inr (by simp [r]))).elim
def rest (g h:Heap) (L d:Addr):List (Addr × Obj):=(ae4 g h L).filter fun p=>decide (p.1 ≠ d)
theorem ar0 {g h:Heap} {L:Addr}:News g L h (ae4 g h L):=fun p d=>let ⟨a,b,c⟩:=ai4 d;⟨c,a,b⟩
def lamN:Str:="best_few"
def lamQ:Str:="best_few.<locals>.<lambda>"
def at4 (mg:Str->Option Value) (h:Heap):Prop:=∃ bm ob,mg "__builtins__" = some (.ref bm)/\bm ≠ builtinsNs/\h.get? bm=some ob/\ob.cls=.type "module"/\ob.dict=some builtinsNs/\ob.data=.plain
def TabsOk (K:Frag) (H:Hp):Prop:=∀ c P,PySem.W.tabIn K lamN=some (c,P)->∃ more,H P=some (.tbl (#[.str lamQ 0] ++ more))
structure Mod (K:Frag) (mg:Str->Option Value) (base:Heap):Prop where
 kin:K.In base
 glob:base.Ns mainGlobals mg
 blt:∃ mb,base.Ns builtinsNs mb/\∀ x:Str,x ≠ "__name__"->mb x=bootBuiltins x
 nolimit:base.NoLimit
 bmain:at4 mg base
/-- the context: a def's body (or a comprehension's block) running. base: fixed through the whole law; s₀, H₀: the entry; outer: the frames whose slots others may change (a def's callers); stack: all frames that run;
  ex: iterators that were made ahead of the entry and are walked here (a comprehension's);fn: the names whose cells were made at the entry (a def: all;a comprehension's block: its own);calm: not within an except suite;pn: pins that every state bears;xe: what is wanted of an exception that leaves the code -/
structure Cx where
 prog:Program
 w:World
 K:Frag
 mg:Str->Option Value
 base:Heap
 A:Around
 N:List Str
 s₀:Shared
 H₀:Hp
 env:Env
 outer:List Env
 stack:List Env
 ex:List Addr
 fn:Str->Bool
 calm:Bool
 pn:List (Addr × Obj)
 xe:Value->Shared->Prop
def frs (l:List Env):List Addr:=l.filterMap (·.frame)
abbrev Cx.fs (X:Cx):List Addr:=frs X.outer
def Vis (sc:Scope) (x:Str):Prop:=sc.names.lookup x=some .local\/sc.names.lookup x=some .cell\/sc.names.lookup x=some .free
def Loc (sc:Scope) (x:Str):Prop:=sc.names.lookup x=some .local\/sc.names.lookup x=some .cell
def Look (env:Env) (h:Heap) (m:Str->Option Value) (x:Str) (u:Value):Prop :=
 (env.kindOf x=some .local/\m x=some u)\/((env.kindOf x=some .cell\/env.kindOf x=some .free)/\∃ c,env.cells.lookup x=some c/\h.IsCell c (some u))
structure Cx.Ok (X:Cx):Prop where
 mod:Mod X.K X.mg X.base
 kind:X.env.scope.kind=.function
 glob:X.env.globals=mainGlobals
 blt:X.env.builtins=builtinsNs
 above:X.s₀.heap.objs.size<=X.env.locals
 inj:∀ x y c,X.env.cells.lookup x=some c->X.env.cells.lookup y=some c->x=y
 has:∀ x,(X.env.kindOf x=some .cell\/X.env.kindOf x=some .free)->∃ c,X.env.cells.lookup x=some c
 cab:∀ x c,X.fn x=true->X.env.cells.lookup x=some c->X.s₀.heap.objs.size<=c
 hd:X.calm=true->X.A.handled=none
 frames:X.A.frames=some X.stack
 stk:X.stack=X.outer\/(X.stack=X.env :: X.outer/\X.env.frame=some X.env.locals)
 exf:∀ b∈X.ex,b ≠ X.env.locals/\∀ x c,X.env.cells.lookup x=some c->c ≠ b
 bs:∀ b o,X.base.get? b=some o->X.s₀.heap.get? b=some o/\X.H₀ b=none
 bsz:X.base.objs.size<=X.s₀.heap.objs.size
 noex:∀ b o,X.base.get? b=some o->b ∉ X.ex
 exfs:∀ b∈X.ex,b ∉ X.fs
 funs:X.s₀.heap.FunFrames X.base X.outer
 frf:∀ b∈X.fs,X.H₀ b=none
 tab:TabsOk X.K X.H₀
structure Inv (X:Cx) (pins:List (Addr × Obj)) (σ:List (Option V)) (H:Hp) (s:Shared):Prop where
 ok:X.Ok
 os:s.os=X.s₀.os
 bare:AllBare s.gens
 base:Un X.fs X.ex X.H₀ H X.s₀.heap s.heap
 loc:∃ m,s.heap.Ns X.env.locals m/\∀ (i:Nat) (x:Str) (v:V),X.N[i]?=some x->σ[i]?=some (some v)->Vis X.env.scope x->∃ u,RelV v u/\Look X.env s.heap m x u
 cell:∀ x c,X.env.cells.lookup x=some c->∃ v,s.heap.IsCell c v
 free:H X.env.locals=none
 freeC:∀ x c,X.env.cells.lookup x=some c->H c=none
 pin:∀ p∈X.pn ++ pins,s.heap.get? p.1=some p.2/\H p.1=none/\p.1 ≠ X.env.locals/\p.1 ∉ X.fs/\∀ v,p.2.data ≠ .cell v
 hok:HOk X.prog X.w H s.heap
 len : σ.length=X.N.length
section
variable {X:Cx} {pins:List (Addr × Obj)} {σ:List (Option V)} {H H':Hp} {s:Shared} {h':Heap}
theorem Cx.Ok.nofr (ok:X.Ok) {b:Addr} {o:Obj} (e:X.base.get? b=some o):b ∉ X.fs:=fun hb=>by
 have:=(ok.funs.mem hb).1
 rw [e] at this;cases this
theorem Inv.bs (I:Inv X pins σ H s):∀ b o,X.base.get? b=some o->s.heap.get? b=some o/\H b=none:=fun b o e =>
 ⟨I.base.keep b o (I.ok.bs b o e).1 (I.ok.bs b o e).2 (I.ok.nofr e) (I.ok.noex b o e),I.base.free b o (I.ok.bs b o e).1 (I.ok.bs b o e).2 (I.ok.noex b o e)⟩
theorem Inv.bk (I:Inv X pins σ H s):∀ b o,X.base.get? b=some o->s.heap.get? b=some o:=fun b o e=>(I.bs b o e).1
theorem Inv.mod (I:Inv X pins σ H s):Mod X.K X.mg X.base:=I.ok.mod
theorem Inv.kIn (I:Inv X pins σ H s):X.K.In s.heap:=I.ok.mod.kin.keeps I.bk
theorem Inv.nolimit (I:Inv X pins σ H s):s.heap.NoLimit:=I.ok.mod.nolimit.keeps I.bk
theorem Inv.fr (I:Inv X pins σ H s):∃ m,Fr X.base X.env.locals s.heap m :=
 let ⟨m,hn,_⟩:=I.loc
 ⟨m,hn,I.bk,aC9 I.ok.bsz I.ok.above⟩
theorem Inv.lt (I:Inv X pins σ H s):X.env.locals < s.heap.objs.size:=let ⟨_,hn,_⟩:=I.loc;hn.lt
theorem Inv.sz (I:Inv X pins σ H s):X.s₀.heap.objs.size<=s.heap.objs.size:=aC9 I.ok.above (aF5 I.lt)
theorem Inv.nofs (I:Inv X pins σ H s) {a:Addr} (h:s.heap.objs.size<=a):a ∉ X.fs:=fun hb=>by
 obtain ⟨_,o,b,_⟩:=I.ok.funs.mem hb
 exact absurd (aC4 (aI2 b) (aC9 I.sz h)) (aF4 _)
theorem Inv.cne (I:Inv X pins σ H s):∀ x c,X.env.cells.lookup x=some c->c ≠ X.env.locals:=fun x c e z=>by
 obtain ⟨v,o,d,hd⟩:=I.cell x c e
 obtain ⟨m,⟨o',es,f,b,a,_⟩,_⟩:=I.loc
 rw [z,b] at d;cases d;rw [a] at hd;cases hd
theorem Inv.funs (I:Inv X pins σ H s):s.heap.FunFrames X.base X.outer:=by
 have all:∀ (l:List Env),(∀ b∈frs l,b∈X.fs)->X.s₀.heap.FunFrames X.base l->s.heap.FunFrames X.base l:=by
  intro l
  induction l with
  | nil=>intro _ _;trivial
  | cons env r ih =>
   intro c d
   obtain ⟨f,⟨L,o,hf,hn,g,hd⟩,h⟩:=d
   have a:L∈X.fs:=c L (by unfold frs;rw [List.filterMap_cons,hf];exact aB7)
   obtain ⟨sl,e⟩:=I.base.slot L o g (I.ok.frf L a) a fun z=>I.ok.exfs L z a
   exact ⟨f,⟨L,_,hf,hn,e,hd⟩,ih (fun b hb=>c b (by unfold frs;rw [List.filterMap_cons,hf];exact aB4 _ hb)) h⟩
 exact all X.outer (fun _ hb=>hb) I.ok.funs
theorem TabsOk.un {K:Frag} {fs ex:List Addr} {H H':Hp} {h h':Heap} (t:TabsOk K H) (u:Un fs ex H H' h h'):TabsOk K H':=fun c P e =>
 let ⟨m,q⟩:=t c P e
 let ⟨a,b⟩:=u.tbls P _ q
 ⟨m ++ a,by rw [b,Array.append_assoc]⟩
theorem Inv.tab (I:Inv X pins σ H s):TabsOk X.K H:=I.ok.tab.un I.base
theorem Inv.stack (I:Inv X pins σ H s):s.heap.FunFrames X.base X.stack:=by
 rcases I.ok.stk with e | ⟨e,hf⟩
 ·rw [e];exact I.funs
 ·rw [e]
  obtain ⟨m,hn,_⟩:=I.loc
  refine .cons (by rw [I.ok.kind];decide) hf hn ?_ I.funs
  exact Heap.get?_none_of_le (aC9 I.ok.bsz I.ok.above)
theorem Inv.stkSub (I:Inv X pins σ H s):∀ b∈frs X.stack,b∈X.env.locals :: X.fs:=fun b hb=>by
 rcases I.ok.stk with e | ⟨e,hf⟩
 ·rw [e] at hb;exact aB4 _ hb
 ·rw [e] at hb
  unfold frs at hb
  rw [List.filterMap_cons,hf] at hb
  exact hb
theorem Inv.stkFree (I:Inv X pins σ H s):∀ b∈frs X.stack,H b=none:=fun b hb=>by
 rcases aA8.mp (I.stkSub b hb) with e | hb
 ·rw [e];exact I.free
 ·obtain ⟨_,o,a,_⟩:=I.ok.funs.mem hb
  exact I.base.free b o a (I.ok.frf b hb) fun z=>I.ok.exfs b z hb
theorem Inv.step {g':Array GenState} {t':Nat} {d':Drawn} {ch:List Addr} (I:Inv X pins σ H s)
  (f:∀ b∈ch,(b∈X.ex\/X.s₀.heap.objs.size<=b)/\b ≠ X.env.locals/\(∀ x c,X.env.cells.lookup x=some c->c ≠ b)/\∀ p∈X.pn ++ pins,p.1 ≠ b)
  (keep:∀ b o,b ≠ X.env.locals->b ∉ X.fs->b ∉ ch->s.heap.get? b=some o->H b=none->h'.get? b=some o)
  (slot:∀ b o,b ≠ X.env.locals->b∈X.fs->b ∉ ch->s.heap.get? b=some o->H b=none->∃ sl,h'.get? b=some { o with slots:=sl }) (free:∀ b o,b ∉ ch->s.heap.get? b=some o->H b=none->H' b=none)
  (there:∀ b o,b ∉ ch->s.heap.get? b=some o->∃ o',h'.get? b=some o')
  (tups:∀ b xs,H b=some (.tup xs)->H' b=some (.tup xs)) (frzs:∀ b o u,H b=some (.frz o u)->H' b=some (.frz o u)) (tbls:∀ b ps,H b=some (.tbl ps)->∃ more,H' b=some (.tbl (ps ++ more)))
  (ns:∀ m,s.heap.Ns X.env.locals m->h'.Ns X.env.locals m) (hok:HOk X.prog X.w H' h') (G:AllBare g') :
  Inv X pins σ H' { s with heap:=h',gens:=g',drawn:=d',toks:=t' }:=by
 have B:∀ b o,X.s₀.heap.get? b=some o->b ≠ X.env.locals:=fun b o e=>aB5 (aC4 (aI2 e) I.ok.above)
 have j:∀ b o,X.s₀.heap.get? b=some o->b ∉ X.ex->b ∉ ch:=fun b o e a hb=>by
  rcases (f b hb).1 with z | z
  ·exact a z
  ·exact absurd (aC4 (aI2 e) z) (aF4 _)
 have g:∀ x c,X.env.cells.lookup x=some c->∀ v,s.heap.IsCell c v->h'.IsCell c v:=fun x c e v J=>by
  obtain ⟨o,A,hd⟩:=J
  have h:c ∉ ch:=fun z=>(f c z).2.2.1 x c e rfl
  by_cases hc:c∈X.fs
  ·obtain ⟨sl,q⟩:=slot c o (I.cne x c e) hc h A (I.freeC x c e)
   exact ⟨_,q,hd⟩
  ·exact ⟨o,keep c o (I.cne x c e) hc h A (I.freeC x c e),hd⟩
 refine ⟨I.ok,I.os,G,⟨fun b o e n hb a=>?_,fun b o e n hb a=>?_,fun b o e n a=>?_,fun b o e a=>?_,fun b xs e=>tups b xs (I.base.tups b xs e),fun b o xs e=>frzs b o xs (I.base.frzs b o xs e),fun b ps e=>?_⟩,?_,fun x c e=>?_,?_,fun x c e=>?_,fun p D=>?_,hok,I.len⟩
 ·exact keep b o (B b o e) hb (j b o e a) (I.base.keep b o e n hb a) (I.base.free b o e n a)
 ·obtain ⟨sl,y⟩:=I.base.slot b o e n hb a
  obtain ⟨C,e2⟩:=slot b _ (B b o e) hb (j b o e a) y (I.base.free b o e n a)
  exact ⟨C,e2⟩
 ·obtain ⟨o',y⟩:=I.base.there b o e a
  exact free b o' (j b o e a) y (I.base.free b o e n a)
 ·obtain ⟨o',y⟩:=I.base.there b o e a
  exact there b o' (j b o e a) y
 ·obtain ⟨M,y⟩:=I.base.tbls b ps e
  obtain ⟨L,e2⟩:=tbls b _ y
  exact ⟨M ++ L,by rw [e2,Array.append_assoc]⟩
 ·obtain ⟨m,hn,F⟩:=I.loc
  refine ⟨m,ns m hn,fun i x v y e2 K=>?_⟩
  obtain ⟨u,r,l⟩:=F i x v y e2 K
  refine ⟨u,r,?_⟩
  rcases l with l | ⟨k,c,e,z⟩
  ·exact .inl l
  ·exact .inr ⟨k,c,e,g x c e _ z⟩
 ·obtain ⟨v,z⟩:=I.cell x c e
  exact ⟨v,g x c e v z⟩
 ·obtain ⟨m,⟨o,_,_,A,_⟩,_⟩:=I.loc
  exact free _ o (fun z=>(f _ z).2.1 rfl) A I.free
 ·obtain ⟨v,o,A,hd⟩:=I.cell x c e
  exact free c o (fun z=>(f c z).2.2.1 x c e rfl) A (I.freeC x c e)
 ·obtain ⟨e,n,ne,E,d⟩:=I.pin p D
  have h:p.1 ∉ ch:=fun z=>(f p.1 z).2.2.2 p D rfl
  exact ⟨keep p.1 p.2 ne E h e n,free p.1 p.2 h e n,ne,E,d⟩
theorem Inv.un {t':Nat} (I:Inv X pins σ H s) (u:Un X.fs [] H H' s.heap h') (hok:HOk X.prog X.w H' h'):Inv X pins σ H' { s with heap:=h',toks:=t' }:=by
 obtain ⟨m,⟨o,es,j,f,r⟩,_⟩:=id I.loc
 obtain ⟨sl,g⟩:=u.any f I.free (by simp)
 exact I.step (g':=s.gens) (d':=s.drawn) (ch:=[]) (fun _ z=>nomatch z) (fun b o _ hb _ e n=>u.keep b o e n hb (by simp)) (fun b o _ hb _ e n=>u.slot b o e n hb (by simp)) (fun b o _ e n=>u.free b o e n (by simp)) (fun b o _ e=>u.there b o e (by simp)) u.tups u.frzs u.tbls (fun i hm=>by
  obtain ⟨o',c,d,a,h⟩:=hm
  rw [f] at a;cases a
  exact ⟨_,c,d,g,h⟩) hok I.bare
theorem Inv.call {g':Array GenState} {t':Nat} {d':Drawn} {ch:List Addr} (I:Inv X pins σ H s) (u:Un (frs X.stack) ch H H' s.heap h') (hok:HOk X.prog X.w H' h') (l:AllBare g')
  (f:∀ b∈ch,(b∈X.ex\/X.s₀.heap.objs.size<=b)/\b ≠ X.env.locals/\(∀ x c,X.env.cells.lookup x=some c->c ≠ b)/\∀ p∈X.pn ++ pins,p.1 ≠ b) :
  Inv X pins σ H' { s with heap:=h',gens:=g',drawn:=d',toks:=t' }:=by
 obtain ⟨m,⟨o,es,y,j,r⟩,_⟩:=id I.loc
 obtain ⟨sl,g⟩:=u.any j I.free fun z=>(f _ z).2.1 rfl
 exact I.step (ch:=ch) f (fun b o g hb a e n=>u.keep b o e n (fun z=>(aA8.mp (I.stkSub b z)).elim g hb) a) (fun b o _ _ a e n=>u.any e n a) (fun b o a e n=>u.free b o e n a) (fun b o a e=>u.there b o e a) u.tups u.frzs u.tbls (fun v hm=>by
  obtain ⟨o',h,i,d,q⟩:=hm
  rw [j] at d;cases d
  exact ⟨_,h,i,g,q⟩) hok l
theorem Inv.turned {t':Nat} {it:Addr} (I:Inv X pins σ H s) (k:∀ b o,b ≠ it->s.heap.get? b=some o->h'.get? b=some o) (hn:H it=none) (f:it ≠ X.env.locals)
  (j:it∈X.ex\/X.s₀.heap.objs.size<=it) (i:∀ x c,X.env.cells.lookup x=some c->c ≠ it) (l:∀ p∈X.pn ++ pins,p.1 ≠ it):Inv X pins σ H { s with heap:=h',toks:=t' }:=by
 have d:∀ b u,H b=some u->b ≠ it:=fun b u e z=>by rw [z,hn] at e;cases e
 refine I.step (g':=s.gens) (d':=s.drawn) (ch:=[it]) (fun b hb=>?_) (fun b o _ _ a e _=>k b o (fun z=>a (by simp [z])) e) (fun b o _ _ a e _=>⟨o.slots,k b o (fun z=>a (by simp [z])) e⟩) (fun _ _ _ _ n=>n)
  (fun b o a e=>⟨o,k b o (fun z=>a (by simp [z])) e⟩) (fun _ _ e=>e) (fun _ _ _ e=>e) (fun b ps e=>⟨#[],by rw [e];simp⟩) (fun m hm=>?_) (fun b u e=>?_) I.bare
 ·have e:b=it:=by simpa using hb
  subst e
  exact ⟨j,f,i,l⟩
 ·obtain ⟨o,es,g,h,r⟩:=hm
  exact ⟨o,es,g,k _ o (Ne.symm f) h,r⟩
 ·refine (I.hok b u e).stay (fun c v a q=>k c v ?_ q) (fun _ q=>q) fun _ _ q=>q
  rcases a with z | z
  ·rw [z];exact d b u e
  ·exact d c _ z
theorem Inv.tok (I:Inv X pins σ H s) (t:Nat):Inv X pins σ H { s with toks:=t }:=I.un (h':=s.heap) (t':=t) Un.refl I.hok
theorem Inv.kept {t':Nat} (I:Inv X pins σ H s) (k:∀ b u,s.heap.get? b=some u->h'.get? b=some u):Inv X pins σ H { s with heap:=h',toks:=t' }:=I.un (Un.kept k) (I.hok.kept k)
theorem Inv.laid {a:Addr} {o:HO} {t':Nat} (I:Inv X pins σ H s) (k:∀ b u,s.heap.get? b=some u->h'.get? b=some u) (c:s.heap.objs.size<=a) (new:ObjOk X.prog X.w (upd H a o) h' a o) :
  Inv X pins σ (upd H a o) { s with heap:=h',toks:=t' }:=I.un (Un.laid k c (I.hok.fresh c)) (I.hok.laid k c new)
theorem Inv.write {x e:Addr} {o:HO} {t':Nat} (I:Inv X pins σ H s) (d:Mut (H x)) (c:e=x\/H e=some (.own x)) (k:∀ b u,b ≠ e->s.heap.get? b=some u->h'.get? b=some u) (a:∃ u,h'.get? e=some u)
  (new:ObjOk X.prog X.w (upd H x o) h' x o):Inv X pins σ (upd H x o) { s with heap:=h',toks:=t' }:=I.un (Un.write d c k a) (I.hok.write d c k a new)
theorem Inv.pins_of {a:List (Addr × Obj)} (I:Inv X pins σ H s) (h:∀ p∈a,s.heap.get? p.1=some p.2/\H p.1=none/\p.1 ≠ X.env.locals/\p.1 ∉ X.fs/\∀ v,p.2.data ≠ .cell v):Inv X a σ H s :=
 ⟨I.ok,I.os,I.bare,I.base,I.loc,I.cell,I.free,I.freeC,fun p b=>(aA7.mp b).elim (fun z=>I.pin p (aC6 _ z)) (h p),I.hok,I.len⟩
theorem nodup_ix {N:List Str} (c:N.Nodup) {i j:Nat} {x:Str} (a:N[i]?=some x) (b:N[j]?=some x):i=j:=by
 obtain ⟨g,d⟩:=aA1.mp a
 obtain ⟨f,e2⟩:=aA1.mp b
 exact (List.getElem_inj c).mp (d.trans e2.symm)
theorem aju {M:Model} {A:Around} {E:Value->Shared->Prop} {i:Nat} {x:Str} {v:V} {u:Value} {Q:Unit->Shared->Prop} (I:Inv X pins σ H s) (hN:X.N.Nodup) (hi:X.N[i]?=some x) (C:Loc X.env.scope x) (r:RelV v u)
  (h:∀ T,Inv X pins (σ.set i (some v)) H T->(∃ a,Heap.SameBut a s.heap T.heap/\(a=X.env.locals\/X.env.cells.lookup x=some a))->Q () T) (hf:X.fn x=true\/X.env.scope.names.lookup x=some .local:=by first | exact .inl rfl | exact .inr rfl | assumption):wpAny M A (storeName X.env x u) Q E s:=by
 obtain ⟨m,hn,hl⟩:=id I.loc
 have O:(X.env.scope.kind == .class || (X.env.scope.kind == .module && X.env.locals != X.env.globals))=false:=by rw [I.ok.kind];rfl
 have F:i < σ.length:=by rw [I.len];exact (aA1.mp hi).1
 have cne:=I.cne
 have g:∀ {a:Addr} {h':Heap},(∃ o,s.heap.get? a=some o/\H a=none)->Heap.SameBut a s.heap h'->HOk X.prog X.w H h':=fun {a h'} ha f b ob e=>by
  obtain ⟨_,_,D⟩:=ha
  refine (I.hok b ob e).stay (fun c R B q=>(f.2 c ?_).trans q) (fun _ q=>q) fun _ _ q=>q
  rintro rfl
  rcases B with rfl | B
  ·rw [D] at e;cases e
  ·rw [D] at B;cases B
 rcases C with G | G
 ·refine wpAny_storeName_local G hn (fun h' a0 f=>?_) O
  obtain ⟨oL,_,_,U,_⟩:=id hn
  refine h _ ⟨I.ok,I.os,I.bare,⟨fun b o e n hb C=>?_,fun b o e n hb C=>?_,I.base.free,fun b o e C=>?_,I.base.tups,I.base.frzs,I.base.tbls⟩,⟨_,a0,fun j y v' l e2 e3=>?_⟩,fun y c e=>?_,I.free,I.freeC,fun p Z=>?_,g ⟨oL,U,I.free⟩ f,by simpa using I.len⟩ ⟨_,f,.inl rfl⟩
  ·exact (f.2 b (aB5 (aC4 (aI2 e) I.ok.above))).trans (I.base.keep b o e n hb C)
  ·obtain ⟨sl,l⟩:=I.base.slot b o e n hb C
   exact ⟨sl,(f.2 b (aB5 (aC4 (aI2 e) I.ok.above))).trans l⟩
  ·obtain ⟨o',l⟩:=I.base.there b o e C
   exact ⟨o',(f.2 b (aB5 (aC4 (aI2 e) I.ok.above))).trans l⟩
  ·by_cases hj:j=i
   ·subst hj
    rw [hi] at l;cases l
    rw [List.getElem?_set_self F] at e2
    cases e2
    exact ⟨u,r,.inl ⟨G,by simp⟩⟩
   ·rw [List.getElem?_set_ne (Ne.symm hj)] at e2
    obtain ⟨Y,r',q⟩:=hl j y v' l e2 e3
    refine ⟨Y,r',?_⟩
    rcases q with ⟨k,e⟩ | ⟨k,c,e,z⟩
    ·refine .inl ⟨k,?_⟩
     have:y ≠ x:=fun e=>hj (nodup_ix hN l (e ▸ hi))
     simp [this,e]
    ·exact .inr ⟨k,c,e,z.sameBut f (cne y c e)⟩
  ·obtain ⟨R,z⟩:=I.cell y c e
   exact ⟨R,z.sameBut f (cne y c e)⟩
  ·obtain ⟨e,n,ne,W,d⟩:=I.pin p Z
   exact ⟨(f.2 p.1 ne).trans e,n,ne,W,d⟩
 ·have J:X.fn x=true:=by
   rcases hf with z | z
   ·exact z
   ·rw [z] at G;cases G
  obtain ⟨c,B⟩:=I.ok.has x (.inl G)
  obtain ⟨R,z⟩:=I.cell x c B
  refine wpAny_storeName_cell I.ok.kind G B z (fun h' L f=>?_)
  obtain ⟨oc,K,P⟩:=id z
  refine h { s with heap:=h' } ⟨I.ok,I.os,I.bare,⟨fun b o e n hb C=>?_,fun b o e n hb C=>?_,I.base.free,fun b o e C=>?_,I.base.tups,I.base.frzs,I.base.tbls⟩,⟨m,hn.sameBut f (Ne.symm (cne x c B)),fun j y v' l e2 e3=>?_⟩,fun y S e=>?_,I.free,I.freeC,fun p Z=>?_,g ⟨oc,K,I.freeC x c B⟩ f,by simpa using I.len⟩ ⟨c,f,.inr B⟩
  ·exact (f.2 b (aB5 (aC4 (aI2 e) (I.ok.cab x c J B)))).trans (I.base.keep b o e n hb C)
  ·obtain ⟨sl,l⟩:=I.base.slot b o e n hb C
   exact ⟨sl,(f.2 b (aB5 (aC4 (aI2 e) (I.ok.cab x c J B)))).trans l⟩
  ·obtain ⟨o',l⟩:=I.base.there b o e C
   exact ⟨o',(f.2 b (aB5 (aC4 (aI2 e) (I.ok.cab x c J B)))).trans l⟩
  ·by_cases hj:j=i
   ·subst hj
    rw [hi] at l;cases l
    rw [List.getElem?_set_self F] at e2
    cases e2
    exact ⟨u,r,.inr ⟨.inl G,c,B,L⟩⟩
   ·rw [List.getElem?_set_ne (Ne.symm hj)] at e2
    obtain ⟨Y,r',q⟩:=hl j y v' l e2 e3
    refine ⟨Y,r',?_⟩
    rcases q with q | ⟨k,S,e,z'⟩
    ·exact .inl q
    ·refine .inr ⟨k,S,e,z'.sameBut f ?_⟩
     rintro rfl
     exact hj (nodup_ix hN l (I.ok.inj _ _ _ e B ▸ hi))
  ·by_cases hcc:S=c
   ·subst hcc;exact ⟨_,L⟩
   ·obtain ⟨w2,z2⟩:=I.cell y S e
    exact ⟨w2,z2.sameBut f hcc⟩
  ·obtain ⟨e,n,ne,W,d⟩:=I.pin p Z
   refine ⟨(f.2 p.1 ?_).trans e,n,ne,W,d⟩
   intro q
   rw [q,K] at e
   have q':oc=p.2:=aC5 e
   exact d R (by rw [← q'];exact P)
theorem ag8 {M:Model} {A:Around} {E:Value->Shared->Prop} {i:Nat} {x:Str} {v:V} {u:Value} {Q:Unit->Shared->Prop} (I:Inv X pins σ H s) (b:X.N.Nodup) (hi:X.N[i]?=some x) (c:Loc X.env.scope x) (r:RelV v u)
  (h:∀ a,Inv X pins (σ.set i (some v)) H a->Q () a) (hf:X.fn x=true\/X.env.scope.names.lookup x=some .local:=by first | exact .inl rfl | exact .inr rfl | assumption):wpAny M A (storeName X.env x u) Q E s :=
 aju I b hi c r (fun a d _=>h a d) hf
theorem Inv.call' {a:Shared} {ch:List Addr} (I:Inv X pins σ H s) (f:a.os=s.os) (u:Un (frs X.stack) ch H H' s.heap a.heap) (hok:HOk X.prog X.w H' a.heap) (g:AllBare a.gens)
  (d:∀ b∈ch,(b∈X.ex\/X.s₀.heap.objs.size<=b)/\b ≠ X.env.locals/\(∀ x c,X.env.cells.lookup x=some c->c ≠ b)/\∀ p∈X.pn ++ pins,p.1 ≠ b):Inv X pins σ H' a:=by
 obtain ⟨h',g',d',t',o'⟩:=a
 have e:o'=s.os:=f
 subst e
 exact I.call (g':=g') (t':=t') (d':=d') u hok g d
end
abbrev XK:=Value->Option Addr->Hp->Prop
abbrev St:=List (Option V)
abbrev VK:=V->Hp->Prop
abbrev TE:=St->Hp->VK->Prop
abbrev TT:=St->Hp->(Bool->Hp->Prop)->Prop
abbrev TA:=St->Hp->(List V->Hp->Prop)->Prop
structure Ends where
 nx:St->Hp->Prop
 rt:VK
 bk:St->Hp->Prop:=fun _ _=>False
 ct:St->Hp->Prop:=fun _ _=>False
abbrev TS:=Ends->St->Hp->Prop
def EP (X:Cx) (pins:List (Addr × Obj)) (σ:St) (Q:VK) (u:Value) (s':Shared):Prop:=∃ v H',Inv X pins σ H' s'/\RelV v u/\Q v H'
def TP (X:Cx) (pins:List (Addr × Obj)) (σ:St) (Q:Bool->Hp->Prop) (b:Bool) (s':Shared):Prop:=∃ H',Inv X pins σ H' s'/\Q b H'
def AP (X:Cx) (pins:List (Addr × Obj)) (σ:St) (Q:List V->Hp->Prop) (us:List Value) (s':Shared):Prop:=∃ vs H',Inv X pins σ H' s'/\Vals vs us/\Q vs H'
def SP (X:Cx) (pins:List (Addr × Obj)) (D:Ends) (f:Flow) (s':Shared):Prop :=
 match f with
 | .next=>∃ σ' H',Inv X pins σ' H' s'/\D.nx σ' H'
 | .brk=>∃ σ' H',Inv X pins σ' H' s'/\D.bk σ' H'
 | .cont=>∃ σ' H',Inv X pins σ' H' s'/\D.ct σ' H'
 | .ret u=>∃ v σ' H',Inv X pins σ' H' s'/\RelV v u/\D.rt v H'
def PE (X:Cx) (e:Expr) (t:TE):Prop :=
 ∀ (pins:List (Addr × Obj)) (s:Shared) (σ:St) (H:Hp) (Q:VK),Inv X pins σ H s->t σ H Q->wpAny (model X.prog X.w) X.A (eval e X.env) (EP X pins σ Q) X.xe s
def PT (X:Cx) (e:Expr) (t:TT):Prop :=
 ∀ (pins:List (Addr × Obj)) (s:Shared) (σ:St) (H:Hp) (Q:Bool->Hp->Prop),Inv X pins σ H s->t σ H Q->wpAny (model X.prog X.w) X.A (isTrue e X.env (eval e X.env)) (TP X pins σ Q) X.xe s
def PW (X:Cx) (e:Expr) (t:TT):Prop :=
 ∀ (whole:Sem Value) (pins:List (Addr × Obj)) (s:Shared) (σ:St) (H:Hp) (Q:Bool->Hp->Prop),Inv X pins σ H s->t σ H Q->wpAny (model X.prog X.w) X.A (isTrue e X.env whole) (TP X pins σ Q) X.xe s
theorem PW.pt {X:Cx} {e:Expr} {t:TT} (h:PW X e t):PT X e t:=h _
def PA (X:Cx) (es:List Expr) (t:TA):Prop :=
 ∀ (pos:Pos) (pins:List (Addr × Obj)) (s:Shared) (σ:St) (H:Hp) (Q:List V->Hp->Prop),Inv X pins σ H s->t σ H Q->wpAny (model X.prog X.w) X.A (spliced (backTo pos (starEach es X.env))) (AP X pins σ Q) X.xe s
def PS (X:Cx) (st:Stmt) (t:TS):Prop :=
 ∀ (pins:List (Addr × Obj)) (s:Shared) (σ:St) (H:Hp) (D:Ends),Inv X pins σ H s->t D σ H->wpAny (model X.prog X.w) X.A (exec st X.env) (SP X pins D) X.xe s
def PSs (X:Cx) (st:List Stmt) (t:TS):Prop :=
 ∀ (pins:List (Addr × Obj)) (s:Shared) (σ:St) (H:Hp) (D:Ends),Inv X pins σ H s->t D σ H->wpAny (model X.prog X.w) X.A (execs st X.env) (SP X pins D) X.xe s
theorem thn {α:Type} {t:Sem α} {Q b : α->Shared->Prop} {M:Model} {A:Around} {E:Value->Shared->Prop} {s:Shared} (h:wpAny M A t Q E s) (c:∀ a s,Q a s->b a s):wpAny M A t b E s:=aI6 h c fun _ _ x=>x
section
variable {X:Cx}
def tVar (i:Nat):TE:=fun σ H Q=>∃ v,σ[i]?=some (some v)/\Q v H
def tC (v:V):TE:=fun _ H Q=>Q v H
theorem axf {i:Nat} {x:Str} {pos:Pos} (j:X.N[i]?=some x) (n:Vis X.env.scope x) (hd:(x == ("__debug__" : Str))=false:=by decide) (d:(x == ("__classdict__" : Str))=false:=by decide):PE X (.Name x pos) (tVar i):=by
 intro pins s σ H Q I h
 obtain ⟨v,e,h⟩:=h
 obtain ⟨m,hn,g⟩:=I.loc
 obtain ⟨u,r,l⟩:=g i x v j e n
 have fin:EP X pins σ Q u s:=⟨v,H,I,r,h⟩
 rcases l with ⟨b,hm⟩ | ⟨b,c,f,a⟩
 ·exact wpAny_Name (wpAny_loadName_local I.ok.kind b hn hm fin) hd
 ·rcases b with b | b
  ·exact wpAny_Name (wpAny_loadName_cell I.ok.kind b f a fin) hd
  ·exact wpAny_Name (wpAny_loadName_free I.ok.kind b f a fin d) hd
theorem aac {i j pos}:PE X (.Constant (.int i) j pos) (tC (.int i)):=fun _ _ _ H _ I h=>wpAny_Constant_int ⟨.int i,H,I.tok _,⟨_,rfl⟩,h⟩
theorem adw {b j pos}:PE X (.Constant (.bool b) j pos) (tC (.bl b)):=fun _ _ _ H _ I h=>Constant_bool ⟨.bl b,H,I,rfl,h⟩
theorem alc {j pos}:PE X (.Constant .none j pos) (tC .non):=fun _ _ _ H _ I h=>Constant_none ⟨.non,H,I,rfl,h⟩
def Gl (X:Cx) (x:Str):Prop:=X.env.kindOf x=some .globalImplicit
theorem anm {E:Value->Shared->Prop} {pins:List (Addr × Obj)} {s:Shared} {σ:St} {H:Hp} {x:Str} {u:Value} {pos:Pos} {Q:Value->Shared->Prop} (I:Inv X pins σ H s) (a:Gl X x) (hm:X.mg x=some u) (h:Q u s)
  (hd:(x == ("__debug__" : Str))=false:=by decide):wpAny (model X.prog X.w) X.A (eval (.Name x pos) X.env) Q E s :=
 Calls.Name_function_global I.ok.kind a (Calls.loadGlobal_global (by rw [I.ok.glob];exact I.mod.glob.keeps I.bk) hm h) hd
theorem acs {E:Value->Shared->Prop} {pins:List (Addr × Obj)} {s:Shared} {σ:St} {H:Hp} {x:Str} {u:Value} {pos:Pos} {Q:Value->Shared->Prop} (I:Inv X pins σ H s) (a:Gl X x) (hm:X.mg x=none) (d:bootBuiltins x=some u) (h:Q u s)
  (hn:x ≠ "__name__":=by decide) (hd:(x == ("__debug__" : Str))=false:=by decide):wpAny (model X.prog X.w) X.A (eval (.Name x pos) X.env) Q E s:=by
 obtain ⟨mb,c,b⟩:=I.mod.blt
 exact Calls.Name_function_global I.ok.kind a (Calls.loadGlobal_builtin (by rw [I.ok.glob];exact I.mod.glob.keeps I.bk) hm (by rw [I.ok.blt];exact c.keeps I.bk) ((b x hn).trans d) h) hd
theorem ann {x:Str} {v:V} {u:Value} {pos:Pos} (a:Gl X x) (hm:X.mg x=some u) (r:RelV v u) (hd:(x == ("__debug__" : Str))=false:=by decide):PE X (.Name x pos) (tC v) :=
 fun _ _ _ H _ I h=>anm I a hm ⟨v,H,I,r,h⟩ hd
theorem ad3 {x:Str} {v:V} {u:Value} {pos:Pos} (b:Gl X x) (hm:X.mg x=none) (a:bootBuiltins x=some u) (r:RelV v u) (hn:x ≠ "__name__":=by decide) (hd:(x == ("__debug__" : Str))=false:=by decide):PE X (.Name x pos) (tC v) :=
 fun _ _ _ H _ I h=>acs I b hm a ⟨v,H,I,r,h⟩ hn hd
variable {a b:Expr} {ta tb:TE} {pos:Pos}
def PC (X:Cx) (op:CmpOp) (a b:Expr) (t:TE):Prop :=
 ∀ (pins:List (Addr × Obj)) (s:Shared) (σ:St) (H:Hp) (Q:VK),Inv X pins σ H s->t σ H Q ->
  wpAny (model X.prog X.w) X.A (eval a X.env) (fun v s₁=>wpAny (model X.prog X.w) X.A (eval b X.env) (fun u s₂=>wpAny (model X.prog X.w) X.A (compareOp op v u) (EP X pins σ Q) X.xe s₂) X.xe s₁) X.xe s
def tB (t:TE):TT:=fun σ H Q=>t σ H fun x H1=>∃ c,x=.bl c/\Q c H1
theorem axg {op:CmpOp} {t:TE} (h:PC X op a b t) (f:behindInMarks op b=false:=by first | exact nobehind _ (by decide) (by decide) | rfl):PT X (.Compare a [op] [b] pos) (tB t):=by
 intro pins s σ H Q I m
 refine wpAny_isTrue_Compare1 (thn (h pins s σ H _ I m) fun v s1 f=>thn f fun u s2 j=>thn j fun c o ⟨x,g,l,n,i⟩=>?_) f
 obtain ⟨d,rfl,q⟩:=i
 cases n
 exact aI8 ⟨g,l,q⟩
theorem aec {e:Expr} {t:TE} (h:PE X e t) (c:∀ whole,isTrue e X.env whole=(do let v ← whole;standAt e.pos;holding [v] (truthy v)):=by intro _;rfl):PT X e (tB t):=by
 intro pins s σ H Q I g
 refine isTrue_plain (thn (h pins s σ H _ I g) fun v s1 ⟨x,a,f,i,b⟩=>?_) (c _)
 obtain ⟨d,rfl,q⟩:=b
 cases i
 exact aI8 ⟨a,f,q⟩
variable {tA tB':TT} {rest:List Expr}
def tAnd (t u:TT):TT:=fun σ H Q=>t σ H fun c H1=>if c=true then u σ H1 Q else Q false H1
def tOr (t u:TT):TT:=fun σ H Q=>t σ H fun c H1=>if c=true then Q true H1 else u σ H1 Q
def tNot (t:TT):TT:=fun σ H Q=>t σ H fun c H1=>Q (!c) H1
theorem ai5 (ha:PT X a tA):PW X (.BoolOp .And [a] pos) tA:=by
 intro b pins s σ H Q I h
 refine isTrue_and (thn (ha pins s σ H Q I h) fun c s1 e=>?_)
 cases c with
 | true=>exact isTrue_and_nil e
 | false=>exact e
theorem ah4 (ha:PT X a tA):PW X (.BoolOp .Or [a] pos) tA:=by
 intro b pins s σ H Q I h
 refine isTrue_or (thn (ha pins s σ H Q I h) fun c s1 e=>?_)
 cases c with
 | false=>exact isTrue_or_nil e
 | true=>exact e
theorem ald (ha:PT X a tA) (hb:PW X (.BoolOp .And (b :: rest) pos) tB'):PW X (.BoolOp .And (a :: b :: rest) pos) (tAnd tA tB'):=by
 intro i pins s σ H Q I h
 refine isTrue_and (thn (ha pins s σ H _ I h) fun c s1 ⟨d,f,g⟩=>?_)
 cases c with
 | true=>exact hb i pins s1 σ d Q f g
 | false=>exact ⟨d,f,g⟩
theorem ah5 (ha:PT X a tA) (hb:PW X (.BoolOp .Or (b :: rest) pos) tB'):PW X (.BoolOp .Or (a :: b :: rest) pos) (tOr tA tB'):=by
 intro i pins s σ H Q I h
 refine isTrue_or (thn (ha pins s σ H _ I h) fun c s1 ⟨d,f,g⟩=>?_)
 cases c with
 | true=>exact ⟨d,f,g⟩
 | false=>exact hb i pins s1 σ d Q f g
theorem ae5 (ha:PT X a tA):PT X (.UnaryOp .Not a pos) (tNot tA):=by
 intro pins s σ H Q I h
 exact isTrue_not (ha pins s σ H (fun c b=>Q (!c) b) I h)
def aoq (ta tb:TE):TE:=fun σ H Q=>ta σ H fun x H1=>∃ c,x=.bl c/\if c=true then tb σ H1 Q else Q (.bl false) H1
def aor (ta:TE):TE:=fun σ H Q=>ta σ H fun x H1=>∃ c,x=.bl c/\Q (.bl (!c)) H1
theorem ale {op} {t:TE} (h:PE X a t):PE X (.BoolOp op [a] pos) t:=fun pins s σ H Q I b=>BoolOp_one (h pins s σ H Q I b)
theorem ah6 (ha:PE X a ta) (hb:PE X (.BoolOp .And (b :: rest) pos) tb):PE X (.BoolOp .And (a :: b :: rest) pos) (aoq ta tb):=by
 intro pins s σ H Q I h
 refine BoolOp_and (thn (ha pins s σ H _ I h) fun v s1 ⟨x,g,f,i,d⟩=>?_)
 obtain ⟨c,rfl,d⟩:=d
 cases i
 refine aI8 ?_
 cases c with
 | true=>exact hb pins s1 σ g Q f d
 | false=>exact ⟨.bl false,g,f,rfl,d⟩
theorem axh (ha:PE X a ta):PE X (.UnaryOp .Not a pos) (aor ta):=by
 intro pins s σ H Q I h
 refine UnaryOp_ (thn (ha pins s σ H _ I h) fun v s1 ⟨x,f,d,g,b⟩=>?_)
 obtain ⟨c,rfl,b⟩:=b
 cases g
 exact not_of (aI8 ⟨.bl (!c),f,d,rfl,b⟩)
def tIf (t:TT) (ta tb:TE):TE:=fun σ H Q=>t σ H fun c H1=>if c=true then ta σ H1 Q else tb σ H1 Q
theorem ar1 {c:Expr} (j:PT X c tA) (ha:PE X a ta) (hb:PE X b tb):PE X (.IfExp c a b pos) (tIf tA ta tb):=by
 intro pins s σ H Q I h
 refine wpAny_IfExp (thn (j pins s σ H _ I h) fun d s1 ⟨f,g,i⟩=>?_)
 cases d with
 | true=>exact ha pins s1 σ f Q g i
 | false=>exact hb pins s1 σ f Q g i
end
def SqL (K:Frag) (H:Hp) (a:Addr) (xs:List V):Prop :=
 Rd H a (.lst xs) ∨
  ∃ (o:Obj) (its:Array Value) (n:Nat),K.lookup a=some o/\o.cls=.type "list"/\o.dict=none/\o.data=.seq its n/\its.size<=sizeLine/\Vals xs its.toList
def SqT (K:Frag) (H:Hp) (a:Addr) (xs:List V):Prop :=
 Rd H a (.tup xs) ∨
  ∃ (o:Obj) (its:Array Value) (n:Nat),K.lookup a=some o/\o.cls=.type "tuple"/\o.data=.seq its n/\its.size<=sizeLine/\Vals xs its.toList
def absV:Value->Option V
 | .none=>some .non
 | .bool b=>some (.bl b)
 | .int i _=>some (.int i)
 | .str x _=>some (.str x)
 | .bytes b _=>some (.byt b)
 | .float b _=>some (.flt b)
 | .ref a=>some (.ref a)
 | .type n=>some (.ty n)
 | _=>none
theorem RelV.abs {x:V} {u:Value} (r:RelV x u):absV u=some x:=by
 cases x with
 | non=>cases r;rfl
 | bl _=>cases r;rfl
 | int _=>obtain ⟨t,rfl⟩:=r;rfl
 | str _=>obtain ⟨t,rfl⟩:=r;rfl
 | byt _=>obtain ⟨t,rfl⟩:=r;rfl
 | flt _=>obtain ⟨t,rfl⟩:=r;rfl
 | ref _=>cases r;rfl
 | ty _=>cases r;rfl
theorem RelV.inj {x y:V} {u:Value} (r:RelV x u) (q:RelV y u):x=y:=aC5 (r.abs.symm.trans q.abs)
theorem Vals.inj:∀ {xs ys:List V} {us:List Value},Vals xs us->Vals ys us->xs=ys
 | _,_,_,.nil,.nil=>rfl
 | _,_,_,.cons r t,.cons r' t'=>by rw [r.inj r',Vals.inj t t']
section
variable {X:Cx} {pins:List (Addr × Obj)} {σ:St} {H:Hp} {s:Shared} {a:Addr} {xs ys:List V}
theorem SqL.of {K:Frag} (h:H a=some (.lst xs)):SqL K H a xs:=.inl (.inl h)
theorem SqT.of {K:Frag} (h:H a=some (.tup xs)):SqT K H a xs:=.inl (.inl h)
theorem Inv.list (I:Inv X pins σ H s) (h:SqL X.K H a xs):∃ its:List Value,Vals xs its/\PlainL s.heap a its.toArray/\xs.length<=sizeLine:=by
 rcases h with h | ⟨o,its,n,d,c,hd,b,f,r⟩
 ·obtain ⟨z,its,n,r,e⟩:=h.ok I.hok
  exact ⟨its,r,⟨_,n,e,rfl,rfl,rfl⟩,z⟩
 ·refine ⟨its.toList,r,⟨o,n,I.kIn a o d,c,hd,by simpa using b⟩,?_⟩
  have e:=r.length
  simp only [Array.length_toList] at e
  omega
theorem Inv.tuple (I:Inv X pins σ H s) (h:SqT X.K H a xs):∃ its:List Value,Vals xs its/\IsTup s.heap a its.toArray/\xs.length<=sizeLine:=by
 rcases h with h | ⟨o,its,n,d,c,b,f,r⟩
 ·obtain ⟨z,its,r,p⟩:=h.ok I.hok
  exact ⟨its,r,p,z⟩
 ·refine ⟨its.toList,r,⟨o,I.kIn a o d,c,n,by simpa using b⟩,?_⟩
  have e:=r.length
  simp only [Array.length_toList] at e
  omega
theorem Inv.list_inj (I:Inv X pins σ H s) (h:SqL X.K H a xs) (h':SqL X.K H a ys):xs=ys:=by
 obtain ⟨its,r,⟨o,n,e,_,_,d⟩,_⟩:=I.list h
 obtain ⟨its',f,⟨o',g,b,_,_,d'⟩,_⟩:=I.list h'
 rw [e] at b;cases b
 rw [d] at d'
 injection d' with c _
 have:its=its':=by simpa using congrArg Array.toList c
 subst this
 exact r.inj f
end
abbrev Cx.wish (X:Cx) (E:Value->Shared->Prop):Cx:={ X with xe:=E }
abbrev Cx.nox (X:Cx):Cx:=X.wish fun _ _=>False
theorem Cx.Ok.wish {X:Cx} (ok:X.Ok) (E:Value->Shared->Prop):(X.wish E).Ok :=
 ⟨ok.mod,ok.kind,ok.glob,ok.blt,ok.above,ok.inj,ok.has,ok.cab,ok.hd,ok.frames,ok.stk,ok.exf,ok.bs,ok.bsz,ok.noex,ok.exfs,ok.funs,ok.frf,ok.tab⟩
theorem Cx.Ok.unwish {X:Cx} {E:Value->Shared->Prop} (ok:(X.wish E).Ok):X.Ok :=
 ⟨ok.mod,ok.kind,ok.glob,ok.blt,ok.above,ok.inj,ok.has,ok.cab,ok.hd,ok.frames,ok.stk,ok.exf,ok.bs,ok.bsz,ok.noex,ok.exfs,ok.funs,ok.frf,ok.tab⟩
section
variable {X:Cx} {pins:List (Addr × Obj)} {σ:St} {H:Hp} {s:Shared} {E:Value->Shared->Prop}
theorem Inv.wish (I:Inv X pins σ H s) (E:Value->Shared->Prop):Inv (X.wish E) pins σ H s:=⟨I.ok.wish E,I.os,I.bare,I.base,I.loc,I.cell,I.free,I.freeC,I.pin,I.hok,I.len⟩
theorem Inv.unwish (I:Inv (X.wish E) pins σ H s):Inv X pins σ H s:=⟨I.ok.unwish,I.os,I.bare,I.base,I.loc,I.cell,I.free,I.freeC,I.pin,I.hok,I.len⟩
theorem SP.unwish {D:Ends} {f:Flow} {b:Shared} (h:SP (X.wish E) pins D f b):SP X pins D f b:=by
 cases f with
 | next=>obtain ⟨a,H',I,q⟩:=h;exact ⟨a,H',I.unwish,q⟩
 | brk=>obtain ⟨a,H',I,q⟩:=h;exact ⟨a,H',I.unwish,q⟩
 | cont=>obtain ⟨a,H',I,q⟩:=h;exact ⟨a,H',I.unwish,q⟩
 | ret u=>obtain ⟨v,a,H',I,r,q⟩:=h;exact ⟨v,a,H',I.unwish,r,q⟩
theorem PSs.nox {st:List Stmt} {t:TS} (h:PSs X.nox st t):PSs X st t:=fun pins s σ H D I a =>
 aI6 (h pins s σ H D (I.wish _) a) (fun _ _ q=>q.unwish) fun _ _ z=>False.elim z
end
section
variable {X:Cx} {st:Stmt} {rest:List Stmt} {t u:TS} {e:Expr} {te:TE} {pos:Pos}
def at6:TS:=fun D σ H=>D.nx σ H
def tSeq (t u:TS):TS:=fun D σ H=>t { D with nx:=u D } σ H
theorem abo:PSs X [] at6:=fun _ _ σ H _ I h=>wpAny_execs_nil ⟨σ,H,I,h⟩
theorem aad (c:PS X st t) (b:PSs X rest u):PSs X (st :: rest) (tSeq t u):=by
 intro pins s σ H D I h
 refine wpAny_execs_cons (thn (c pins s σ H { D with nx:=u D } I h) fun f s1 q=>?_)
 cases f with
 | next =>
  obtain ⟨a,H',d,q⟩:=q
  exact b pins s1 a H' D d q
 | ret v=>exact q
 | brk=>exact q
 | cont=>exact q
theorem aag (a:PS X st t):PSs X [st] t:=by
 intro pins s σ H D I h
 refine wpAny_execs_cons (thn (a pins s σ H D I h) fun f s1 q=>?_)
 cases f with
 | next=>exact wpAny_execs_nil q
 | ret v=>exact q
 | brk=>exact q
 | cont=>exact q
theorem Inv.quiet {pins:List (Addr × Obj)} {σ:St} {H:Hp} {s:Shared} (I:Inv X pins σ H s):interactive X.env=false:=by simp [interactive,I.ok.kind]
def at7 (te:TE):TS:=fun D σ H=>te σ H fun _ H1=>D.nx σ H1
theorem aaz (a:PE X e te) (b:swapsWith e none pos.line X.env=pure false:=by rfl):PS X (.Expr e pos) (at7 te):=by
 intro pins s σ H D I h
 exact wpAny_Expr_any (thn (a pins s σ H _ I h) fun v s1 ⟨x,c,d,g,f⟩=>⟨σ,c,d,f⟩) I.quiet b
def tRet (te:TE):TS:=fun D σ H=>te σ H D.rt
theorem aa2 (a:PE X e te):PS X (.Return (some e) pos) (tRet te):=by
 intro pins s σ H D I h
 exact wpAny_Return_some (thn (a pins s σ H _ I h) fun v s1 ⟨x,b,c,d,f⟩=>⟨x,σ,b,c,d,f⟩)
def tIfS (c:TT) (t u:TS):TS:=fun D σ H=>c σ H fun b H1=>if b=true then t D σ H1 else u D σ H1
theorem ab5 {c:Expr} {a b:List Stmt} {i:TT} (l:PT X c i) (ha:PSs X a t) (hb:PSs X b u):PS X (.If c a b pos) (tIfS i t u):=by
 intro pins s σ H D I h
 refine wpAny_If (thn (l pins s σ H _ I h) fun d s1 ⟨f,j,g⟩=>?_)
 cases d with
 | true=>exact ha pins s1 σ f D j g
 | false=>exact hb pins s1 σ f D j g
def axi:TS:=fun _ _ _=>False
theorem ag9:PS X st axi:=fun _ _ _ _ _ _ h=>h.elim
end
abbrev TG:=V->St->Hp->(St->Hp->Prop)->Prop
abbrev TGs:=List V->St->Hp->(St->Hp->Prop)->Prop
def PG (X:Cx) (target:Expr) (t:TG):Prop :=
 ∀ (pins:List (Addr × Obj)) (s:Shared) (σ:St) (H:Hp) (v:V) (u:Value) (Q:St->Hp->Prop),Inv X pins σ H s->RelV v u->t v σ H Q ->
  wpAny (model X.prog X.w) X.A (assign target X.env u) (fun _ s'=>∃ σ' H',Inv X pins σ' H' s'/\Q σ' H') X.xe s
def PGs (X:Cx) (ts:List Expr) (t:TGs):Prop :=
 ∀ (pins:List (Addr × Obj)) (s:Shared) (σ:St) (H:Hp) (vs:List V) (us:List Value) (Q:St->Hp->Prop),Inv X pins σ H s->Vals vs us->t vs σ H Q ->
  wpAny (model X.prog X.w) X.A (assignInOrder ((assignEach ts X.env).map (·.2)) us) (fun _ s'=>∃ σ' H',Inv X pins σ' H' s'/\Q σ' H') X.xe s
abbrev TSet:=V->V->V->Hp->(Hp->Prop)->Prop
def PSet (X:Cx) (t:TSet):Prop :=
 ∀ (pins:List (Addr × Obj)) (s:Shared) (σ:St) (H:Hp) (o i v:V) (ov iv u:Value) (Q:Hp->Prop),Inv X pins σ H s->RelV o ov->RelV i iv->RelV v u->t o i v H Q ->
  wpAny (model X.prog X.w) X.A (setItem ov iv u) (fun _ s'=>∃ H',Inv X pins σ H' s'/\Q H') X.xe s
abbrev TIp:=V->V->Hp->VK->Prop
def PIp (X:Cx) (op:Operator) (t:TIp):Prop :=
 ∀ (pins:List (Addr × Obj)) (s:Shared) (σ:St) (H:Hp) (x y:V) (v u:Value) (Q:VK),Inv X pins σ H s->RelV x v->RelV y u->t x y H Q ->
  wpAny (model X.prog X.w) X.A (inplaceOp op v u) (EP X pins σ Q) X.xe s
section
variable {X:Cx} {pos:Pos}
def aas (i:Nat):TG:=fun v σ H Q=>Q (σ.set i (some v)) H
theorem aai {i:Nat} {x:Str} (a:X.N.Nodup) (hi:X.N[i]?=some x) (b:Loc X.env.scope x) (hf:X.fn x=true\/X.env.scope.names.lookup x=some .local:=by first | exact .inl rfl | exact .inr rfl | assumption):PG X (.Name x pos) (aas i):=by
 intro pins s σ H v u Q I r h
 exact wpAny_assign_Name (ag8 I a hi b r (fun d c=>⟨_,H,c,h⟩) hf)
def gNil:TGs:=fun vs σ H Q=>vs=[]/\Q σ H
def aa8 (t:TG) (u:TGs):TGs:=fun vs σ H Q=>∃ v r,vs=v :: r/\t v σ H fun σ' H'=>u r σ' H' Q
theorem abp:PGs X [] gNil:=by
 intro pins s σ H vs us Q I r h
 obtain ⟨e,h⟩:=h
 subst e
 cases r
 exact assignInOrder_nil ⟨σ,H,I,h⟩
theorem aau {e:Expr} {es:List Expr} {t:TG} {u:TGs} (f:PG X e t) (d:PGs X es u)
  (i:(assignEach (e :: es) X.env).map (·.2)=assign e X.env :: (assignEach es X.env).map (·.2):=by rfl):PGs X (e :: es) (aa8 t u):=by
 intro pins s σ H vs us Q I r h
 obtain ⟨v,l,j,h⟩:=h
 subst j
 cases r with
 | cons r rr =>
  rw [i]
  refine assignInOrder_cons (thn (f pins s σ H _ _ _ I r h) fun _ s1 ⟨a,b,g,c⟩=>?_)
  exact d pins s1 a b _ _ Q g rr c
def gTup (K:Frag) (n:Nat) (t:TGs):TG:=fun v σ H Q=>∃ a xs,v=.ref a/\SqT K H a xs/\xs.length=n/\t xs σ H Q
theorem ab6 {es:List Expr} {k:Nat} {t:TGs} {n:Nat} (i:X.calm=true) (h:PGs X es t)
  (hn:(assignEach es X.env).length=n:=by rfl) (c:(assignEach es X.env).findIdx? (·.1)=none:=by rfl):PG X (.Tuple es k pos) (gTup X.K n t):=by
 intro pins s σ H v u Q I r d
 obtain ⟨a,xs,q,g,j,d⟩:=d
 subst q
 cases r
 obtain ⟨its,f,l,w⟩:=I.tuple g
 refine assign_Tuple_tuple (I.ok.hd i) l (by simp [hn,← j,f.length]) c fun h' m=>?_
 have p:Inv X pins σ H { s with heap:=h' }:=I.kept (t':=s.toks) fun b o e=>m b o (aB5 (aI2 e)) e
 exact h pins _ σ H xs _ Q p (by simpa using f) d
def gSub (to ti:TE) (t:TSet):TG:=fun v σ H Q=>to σ H fun o H1=>ti σ H1 fun i H2=>t o i v H2 fun H3=>Q σ H3
theorem ah7 {o i:Expr} {to c:TE} {t:TSet} (l:PE X o to) (hi:PE X i c) (p:PSet X t)
  (ha:∀ v,assign (.Subscript o i pos) X.env v=(do
   let a ← holding [v] (eval o X.env)
   let b ← holding [v,a] (eval i X.env)
   standAt pos
   holding [v,a,b] (setItem a b v)
   release [v,a,b] []):=by intro _;rfl):PG X (.Subscript o i pos) (gSub to c t):=by
 intro pins s σ H v u Q I r h
 rw [ha]
 refine aH9 (aI4 (thn (l pins s σ H _ I h) fun a s1 ⟨x,f,m,z,g⟩=>?_))
 refine aH9 (aI4 (thn (hi pins s1 σ f _ m g) fun b s2 ⟨y,H2,j,w,q⟩=>?_))
 refine aH9 (wpAny_standAt (aH9 (aI4 (thn (p pins s2 σ H2 x y v a b u _ j z w r q) fun _ A ⟨H3,d,n⟩=>?_))))
 exact wpAny_release ⟨σ,H3,d,n⟩
def tAsg (te:TE) (g:TG):TS:=fun D σ H=>te σ H fun x H1=>g x σ H1 D.nx
theorem act {tg e:Expr} {te:TE} {g:TG} (d:PE X e te) (a:PG X tg g) (j:swapsWithSole [tg] e pos.line X.env=pure false:=by rfl) (l:swappedStores [tg] e X.env=pure none:=by rfl)
  (f:(assignEach [tg] X.env).map (·.2)=[assign tg X.env]:=by rfl):PS X (.Assign [tg] e pos) (tAsg te g):=by
 intro pins s σ H D I h
 refine wpAny_Assign_stores (thn (d pins s σ H _ I h) fun v s1 ⟨x,b,i,m,c⟩=>?_) j l
 rw [f]
 exact thn (a pins s1 σ b x v _ i m c) fun _ s2 q=>q
theorem aam {i:Nat} {x:Str} {e:Expr} {te:TE} {a:Pos} (d:X.N.Nodup) (hi:X.N[i]?=some x) (g:Loc X.env.scope x) (f:PE X e te) (m:swapsWith e (some (.Name x a)) pos.line X.env=pure false:=by rfl) (hf:X.fn x=true\/X.env.scope.names.lookup x=some .local:=by first | exact .inl rfl | exact .inr rfl | assumption) :
  PS X (.Assign [.Name x a] e pos) (tAsg te (aas i)):=by
 intro pins s σ H D I h
 refine wpAny_Assign_Name (thn (f pins s σ H _ I h) fun v s1 ⟨y,b,l,n,c⟩=>?_) m
 exact ag8 l d hi g n (fun s2 j=>⟨_,b,j,c⟩) hf
def tAug (i:Nat) (te:TE) (ti:TIp):TS:=fun D σ H=>∃ x,σ[i]?=some (some x)/\te σ H fun y H1=>ti x y H1 fun z H2=>D.nx (σ.set i (some z)) H2
theorem axj {i:Nat} {x:Str} {e:Expr} {te:TE} {op:Operator} {o:TIp} {d:Pos} (F:X.N.Nodup) (hi:X.N[i]?=some x) (j:Loc X.env.scope x) (G:PE X e te) (L:PIp X op o) (hf:X.fn x=true\/X.env.scope.names.lookup x=some .local:=by first | exact .inl rfl | exact .inr rfl | assumption) :
  PS X (.AugAssign (.Name x d) op e pos) (tAug i te o):=by
 intro pins s σ H D I h
 obtain ⟨v,K,h⟩:=h
 obtain ⟨m,hn,q⟩:=I.loc
 have n:Vis X.env.scope x:=by rcases j with k | k;exact .inl k;exact .inr (.inl k)
 obtain ⟨u,r,l⟩:=q i x v hi K n
 refine wpAny_AugAssign_Name ?_
 have go:wpAny (model X.prog X.w) X.A (eval e X.env) (fun w g=>wpAny (model X.prog X.w) X.A (inplaceOp op u w) (fun r f=>wpAny (model X.prog X.w) X.A (storeName X.env x r) (fun _=>SP X pins D .next) X.xe f) X.xe g) X.xe s:=by
  refine thn (G pins s σ H _ I h) fun w s1 ⟨y,C,M,Q,E⟩=>?_
  refine thn (L pins s1 σ C v y u w _ M r Q E) fun z s2 ⟨S,H2,J,P,O⟩=>?_
  exact ag8 J F hi j P (fun R p=>⟨_,H2,p,O⟩) hf
 rcases l with ⟨a,hm⟩ | ⟨a,c,B,b⟩
 ·exact wpAny_loadName_local I.ok.kind a hn hm go
 ·rcases a with a | a
  ·exact wpAny_loadName_cell I.ok.kind a B b go
  ·rcases j with k | k
   ·have:X.env.scope.names.lookup x=some .free:=a
    rw [k] at this;cases this
   ·have:X.env.scope.names.lookup x=some .free:=a
    rw [k] at this;cases this
end
section
variable {X:Cx} {pos:Pos}
def apw (c:TT) (tb:TS):TS:=fun D σ H=>∃ W:Nat->St->Hp->Prop,(∃ m,W m σ H)/\∀ m σ H,W m σ H ->
 c σ H fun b H1=>if b=true then ∃ N:St->Hp->Prop,(∀ σ' H',N σ' H'->∃ m',m' < m/\W m' σ' H')/\tb { D with nx:=N,ct:=N,bk:=D.nx } σ H1 else D.nx σ H1
theorem aha {c:Expr} {body:List Stmt} {z:TT} {B:TS} (r:PassesOwn (model X.prog X.w) X.A X.env X.xe) (E:PT X c z) (hb:PSs X body B):PS X (.While c body [] pos) (apw z B):=by
 intro pins s σ H D I h
 obtain ⟨W,⟨F,C⟩,g⟩:=h
 refine wpAny_While (codeAny_whileLoop (fun n K=>∃ i H',Inv X pins i H' K/\W n i H') ?_ F ⟨σ,H,I,C⟩)
 rintro n s1 ⟨d,u,J,G⟩
 refine wpAny_passesOwn r (thn (E pins s1 d u _ J (g n d u G)) fun b s2 ⟨H2,y,l⟩=>?_)
 cases b with
 | true =>
  obtain ⟨N,x,l⟩:=l
  rw [aE5 rfl]
  refine wpAny_passesOwn r (thn (hb pins s2 d H2 _ y l) fun f L j=>?_)
  cases f with
  | next =>
   obtain ⟨a,H3,o,m⟩:=j
   obtain ⟨p,hm,q⟩:=x a H3 m
   exact ⟨p,hm,a,H3,o,q⟩
  | cont =>
   obtain ⟨a,H3,o,m⟩:=j
   obtain ⟨p,hm,q⟩:=x a H3 m
   exact ⟨p,hm,a,H3,o,q⟩
  | brk=>exact j
  | ret v=>exact j
 | false =>
  rw [aE6 aA9]
  exact wpAny_execs_nil ⟨d,H2,y,l⟩
end
structure It where
 go:Nat->Hp->Prop
 yld:Nat->Hp->V->Hp->Prop
 stop:Nat->Hp->Prop
def FpOk (X:Cx) (pins:List (Addr × Obj)) (H:Hp) (b:Addr):Prop :=
 H b=none/\b ≠ X.env.locals/\b ∉ X.fs/\(b∈X.ex\/X.s₀.heap.objs.size<=b)/\(∀ x c,X.env.cells.lookup x=some c->c ≠ b)/\∀ p∈X.pn ++ pins,p.1 ≠ b
theorem Inv.fpOk {X:Cx} {pins:List (Addr × Obj)} {σ:St} {H H':Hp} {s:Shared} {b:Addr} (I:Inv X pins σ H s) (hb:s.heap.objs.size<=b) (hn:H' b=none):FpOk X pins H' b:=by
 refine ⟨hn,Nat.ne_of_gt (aC4 I.lt hb),I.nofs hb,.inr (aC9 I.sz hb),fun x c e z=>?_,fun p a z=>?_⟩
 ·obtain ⟨v,q⟩:=I.cell x c e
  exact absurd (aC4 q.lt (by rw [z];exact hb)) (aF4 _)
 ·exact absurd (aC4 (aI2 (I.pin p a).1) (by rw [z];exact hb)) (aF4 _)
structure Turn (P:Program) (w:World) (K:Frag) (tg:Expr) (J:It) (fp:List Addr) (it:Addr) (tn:Nat->Heap->Prop):Prop where
 mem:it∈fp
 obj:∀ i h,tn i h->∀ b∈fp,∃ o,h.get? b=some o/\∀ v,o.data ≠ .cell v
 keep:∀ i h h',tn i h->(∀ b∈fp,∀ o,h.get? b=some o->h'.get? b=some o)->tn i h'
 item:∀ (X:Cx),X.prog=P->X.w=w->X.K=K->X.calm=true->∀ (i:Nat) (pins:List (Addr × Obj)) (s:Shared) (σ:St) (H:Hp) (E:Value->Shared->Prop),Inv X pins σ H s->(∀ b∈fp,FpOk X pins H b)->tn i s.heap->J.go i H ->
  wpAny (model P w) X.A (pyNext (.ref it)) (fun r s1=>∃ u,r=some u /\
   wpAny (model P w) X.A (letOwnedTupleGo tg (.ref it) u) (fun _ s2=>∃ x H',Inv X pins σ H' s2/\RelV x u/\J.yld i H x H'/\tn (i+1) s2.heap/\∀ b∈fp,H' b=none) E s1) E s
 done:∀ (X:Cx),X.prog=P->X.w=w->X.K=K->X.calm=true->∀ (i:Nat) (pins:List (Addr × Obj)) (s:Shared) (σ:St) (H:Hp) (E:Value->Shared->Prop),Inv X pins σ H s->(∀ b∈fp,FpOk X pins H b)->tn i s.heap->J.stop i H ->
  wpAny (model P w) X.A (pyNext (.ref it)) (fun r s1=>r=none/\Inv X pins σ H s1) E s
 self:∀ (A:Around) (i:Nat) (s:Shared) (Q:Value->Shared->Prop) (E:Value->Shared->Prop),tn i s.heap->Q (.ref it) s->wpAny (model P w) A (pyIter (.ref it)) Q E s
abbrev TI:=St->Hp->(It->Hp->Prop)->Prop
def PIE (X:Cx) (pins:List (Addr × Obj)) (σ:St) (tg:Expr) (R:It->Hp->Prop) (itv:Value) (s2:Shared):Prop :=
 ∃ (it:Addr) (fp:List Addr) (tn:Nat->Heap->Prop) (J:It) (H':Hp),itv=.ref it/\Inv X pins σ H' s2/\Turn X.prog X.w X.K tg J fp it tn/\tn 0 s2.heap/\(∀ b∈fp,FpOk X pins H' b)/\R J H'
def PI (X:Cx) (tg iter:Expr) (wi:TI):Prop :=
 ∀ (pins:List (Addr × Obj)) (s:Shared) (σ:St) (H:Hp) (R:It->Hp->Prop),Inv X pins σ H s->wi σ H R ->
  wpAny (model X.prog X.w) X.A (eval iter X.env) (fun v s1=>wpAny (model X.prog X.w) X.A (pyIter v) (PIE X pins σ tg R) X.xe s1) X.xe s
theorem aos {M:Model} {A:Around} {E:Value->Shared->Prop} {s:Shared} {tg:Expr} {it:Addr} {u:Value} {o:Obj} {n:String} {vs:Array Value} {Q:Unit->Shared->Prop} (b:s.heap.get? it=some o) (c:o.cls=.type n) (hd:o.data=.fields vs)
  (hn:["enumerate","zip","dict_itemiterator","dict_reverseitemiterator","odict_iterator","itertools.zip_longest","itertools.pairwise"].contains n=false) (a:Q () s):wpAny M A (letOwnedTupleGo tg (.ref it) u) Q E s:=by
 unfold letOwnedTupleGo
 cases tg <;> first
  | exact aI0 a
  | (cases u <;> first
    | exact aI0 a
    | (refine aH9 (wpAny_load b ?_)
       rw [c,hd]
       show wpAny M A (if (["enumerate","zip","dict_itemiterator","dict_reverseitemiterator","odict_iterator","itertools.zip_longest","itertools.pairwise"].contains n && vs[0]? == some (rawInt _))=true then _ else _) Q E s
       rw [aE6 (by intro h;rw [hn,Bool.false_and] at h;cases h)]
       exact aI0 a))
def Itl (K:Frag) (a:Addr):It :=
 ⟨fun i H=>∃ xs x,SqL K H a xs/\xs[i]?=some x,fun i H x H'=>H'=H/\∀ xs,SqL K H a xs->xs[i]?=some x,fun i H=>∃ xs,SqL K H a xs/\xs.length<=i⟩
def Itr (lo:Int) (n:Nat):It:=⟨fun i _=>i < n,fun i H x H'=>H'=H/\x=.int (lo+i),fun i _=>n<=i⟩
theorem apx {P:Program} {w:World} {K:Frag} {tg:Expr} (a it:Addr):Turn P w K tg (Itl K a) [it] it (fun i h=>h.IsListIter it a i) where
 mem:=by simp
 obj:=fun i h st b hb=>by
  have e:b=it:=by simpa using hb
  subst e
  obtain ⟨o,e,c,d⟩:=st
  exact ⟨o,e,fun v z=>by rw [d] at z;cases z⟩
 keep:=fun i h h' st k=>st.at fun o e=>k it (by simp) o e
 item:=by
  intro X q B m C i pins s σ H E I hf st j
  subst q B m
  obtain ⟨xs,x,f,n⟩:=j
  obtain ⟨its,r,p,J⟩:=I.list f
  obtain ⟨u,N,M⟩:=r.get n
  obtain ⟨l,f1,D,A,g,y⟩:=hf it (by simp)
  refine wpAny_pyNext_list_item st p.isList (x:=u) (by simpa using N) fun h' st' sb=>?_
  have L:Inv X pins σ H { s with heap:=h' }:=I.turned (t':=s.toks) (fun b o hb e=>(sb.2 b hb).trans e) l f1 A g y
  obtain ⟨o,e,c,d⟩:=id st'
  exact ⟨u,rfl,aos (s:={ s with heap:=h' }) e c d (by decide) ⟨x,H,L,M,⟨rfl,fun ys G=>by rw [I.list_inj G f];exact n⟩,st',fun b hb=>(hf b hb).1⟩⟩
 done:=by
  intro X q B m C i pins s σ H E I hf st j
  subst q B m
  obtain ⟨xs,f,n⟩:=j
  obtain ⟨its,r,p,J⟩:=I.list f
  obtain ⟨l,f1,D,A,g,y⟩:=hf it (by simp)
  have O:=r.length
  exact wpAny_pyNext_list_end (I.ok.hd C) st p.isList (by simp;omega) fun h' F=>⟨rfl,I.turned (t':=s.toks) (fun b o hb e=>F b o hb e) l f1 A g y⟩
 self:=fun _ _ _ _ _ st h=>wpAny_pyIter_listiter st h
theorem aot {P:Program} {w:World} {K:Frag} {tg:Expr} (it:Addr) (lo:Int) (n:Nat):Turn P w K tg (Itr lo n) [it] it (fun i h=>IsRangeIter h it (lo+(i:Nat) * 1) ((n:Int) - (i:Nat)) 1) where
 mem:=by simp
 obj:=fun i h st b hb=>by
  have e:b=it:=by simpa using hb
  subst e
  exact ⟨_,st,fun v z=>by
   have A:Data.fields _=Data.cell v:=z
   cases A⟩
 keep:=fun i h h' st k=>k it (by simp) _ st
 item:=by
  intro X j p g c i pins s σ H E I hf st d
  subst j p g
  obtain ⟨f,f1,r,m,a,l⟩:=hf it (by simp)
  have W:=Walks.range (prog:=X.prog) (w:=X.w) (I.ok.hd c) it lo 1 n
  refine W.item i s _ _ d st fun v h' q B st' x=>?_
  obtain ⟨t,rfl⟩:=B
  have y:Inv X pins σ H { s with heap:=h',toks:=q }:=I.turned (fun b o hb e=>x b o (by simpa using hb) e) f f1 m a l
  refine ⟨_,rfl,aos (s:={ s with heap:=h',toks:=q }) (n:="range_iterator") st' rfl rfl (by decide) ⟨.int (lo+i),H,y,⟨t,?_⟩,⟨rfl,rfl⟩,st',fun b hb=>(hf b hb).1⟩⟩
  rw [Int.mul_one]
 done:=by
  intro X j p g c i pins s σ H E I hf st d
  subst j p g
  obtain ⟨f,f1,r,m,a,l⟩:=hf it (by simp)
  exact wpAny_pyNext_range_end (I.ok.hd c) st (by have:n<=i:=d;omega) fun h' u=>⟨rfl,I.turned (t':=s.toks) (fun b o hb e=>u b o hb e) f f1 m a l⟩
 self:=fun _ _ _ _ _ st h=>wpAny_pyIter_rangeiter st h
section
variable {X:Cx} {tg:Expr}
def aou (K:Frag) (tl:TE):TI:=fun σ H R=>tl σ H fun x H1=>∃ a,x=.ref a/\(∃ xs,SqL K H1 a xs)/\R (Itl K a) H1
theorem abw {l:Expr} {tl:TE} (f:PE X l tl):PI X tg l (aou X.K tl):=by
 intro pins s σ H R I h
 refine thn (f pins s σ H _ I h) fun v s1 ⟨x,g,c,j,i⟩=>?_
 obtain ⟨a,e,⟨xs,d⟩,q⟩:=i
 subst e
 cases j
 obtain ⟨its,n,p,m⟩:=c.list d
 refine wpAny_pyIter_list p.isList ?_
 refine ⟨s1.heap.objs.size,[s1.heap.objs.size],_,_,g,rfl,c.kept (t':=s1.toks) fun b o e=>aI1 _ e,apx a _,⟨_,aI3 _ rfl,rfl,rfl⟩,fun b hb=>?_,q⟩
 have e:b=s1.heap.objs.size:=by simpa using hb
 subst e
 exact c.fpOk (aA6 _) (c.hok.fresh (aA6 _))
theorem alf {pins:List (Addr × Obj)} {σ:St} {H:Hp} {s:Shared} {R:It->Hp->Prop} {E:Value->Shared->Prop} {lo hi:Int} {t u v:Tok} {a:Nat} (I:Inv X pins σ H s) (g : -(2 ^ 62)<=lo) (f:lo < 2 ^ 62) (i : -(2 ^ 62)<=hi) (d:hi < 2 ^ 62)
  (q:R (Itr lo (hi - lo).toNat) H):wpAny (model X.prog X.w) X.A (pyIter (.ref s.heap.objs.size)) (PIE X pins σ tg R) E { s with heap:=s.heap.push { cls:=.type "range",data:=.fields #[.int lo t,.int hi u,.int 1 v] },toks:=a }:=by
 refine wpAny_pyIter_range (IsRange.new ..) (small_one g f i d) ?_
 have c:Inv X pins σ H { s with heap:=s.heap.push { cls:=.type "range",data:=.fields #[.int lo t,.int hi u,.int 1 v] },toks:=a }:=I.kept fun b o e=>aI1 _ e
 refine ⟨(s.heap.push { cls:=.type "range",data:=.fields #[.int lo t,.int hi u,.int 1 v] }).objs.size,[(s.heap.push { cls:=.type "range",data:=.fields #[.int lo t,.int hi u,.int 1 v] }).objs.size],_,_,H,rfl,
  c.kept (t':=a) fun b o e=>aI1 _ e,aot _ lo (hi - lo).toNat,?_,fun b hb=>?_,q⟩
 ·have h:lo+((0:Nat):Int) * 1=lo:=by simp
  have e2:(((hi - lo).toNat:Nat):Int) - ((0:Nat):Int)=Builtin.Range.rangeSize lo hi 1:=by rw [rangeSize_one];split <;> omega
  show IsRangeIter _ _ (lo+((0:Nat):Int) * 1) ((((hi - lo).toNat:Nat):Int) - ((0:Nat):Int)) 1
  rw [h,e2]
  exact aI3 _ rfl
 ·have e:b=(s.heap.push { cls:=.type "range",data:=.fields #[.int lo t,.int hi u,.int 1 v] }).objs.size:=by simpa using hb
  subst e
  exact c.fpOk (aA6 _) (c.hok.fresh (aA6 _))
def at8 (ta:TA):TI:=fun σ H R=>ta σ H fun vs H1=>∃ j:Int,vs=[.int j]/\-(2 ^ 62)<=j/\j < 2 ^ 62/\R (Itr 0 j.toNat) H1
def at9 (ta:TA):TI:=fun σ H R=>ta σ H fun vs H1=>∃ i j:Int,vs=[.int i,.int j]/\(-(2 ^ 62)<=i/\i < 2 ^ 62/\-(2 ^ 62)<=j/\j < 2 ^ 62)/\R (Itr i (j - i).toNat) H1
theorem aa0 {a:Expr} {c:TA} {p pos:Pos} (d:Gl X "range") (hm:X.mg "range" = none) (ha:PA X [a] c) (g:starEach [a] X.env=[(false,eval a X.env)]:=by rfl):PI X tg (.Call (.Name "range" p) [a] [] pos) (at8 c):=by
 intro pins s σ H R I h
 refine Call_ (acs I d hm boot_range (PyProof.Rows.callWith_type1 (thn (ha pos pins s σ H _ I h) fun us s1 ⟨vs,m,f,l,b⟩=>?_) g rfl))
 obtain ⟨j,e,b,i,q⟩:=b
 subst e
 cases l with
 | cons r rr =>
  cases rr
  obtain ⟨t,rfl⟩:=r
  exact call_range_1 (alf f (by omega) (by omega) b i (by simpa using q))
theorem adp {a b:Expr} {f:TA} {p pos:Pos} (g:Gl X "range") (hm:X.mg "range" = none) (ha:PA X [a,b] f) (o:starEach [a,b] X.env=[(false,eval a X.env),(false,eval b X.env)]:=by rfl) (c:starEach [b] X.env=[(false,eval b X.env)]:=by rfl) :
  PI X tg (.Call (.Name "range" p) [a,b] [] pos) (at9 f):=by
 intro pins s σ H R I h
 refine Call_ (acs I g hm boot_range (PyProof.Rows.callWith_type1 (thn (ha pos pins s σ H _ I h) fun us s1 ⟨vs,w,m,v,d⟩=>?_) (by rw [o,c]) (by rw [c];rfl)))
 obtain ⟨i,j,e,⟨d,u,n,l⟩,q⟩:=d
 subst e
 cases v with
 | cons r rr =>
  cases rr with
  | cons r' rr =>
   cases rr
   obtain ⟨t,rfl⟩:=r
   obtain ⟨t',rfl⟩:=r'
   exact call_range_2 (alf m d u n l q)
def tFor (wi:TI) (g:TG) (tb:TS):TS:=fun D σ H=>wi σ H fun J H1=>∃ W:Nat->Nat->St->Hp->Prop,(∃ m,W 0 m σ H1)/\∀ i m σ H,W i m σ H ->
 (J.stop i H/\D.nx σ H)\/(J.go i H/\∃ N:St->Hp->Prop,(∀ σ' H',N σ' H'->∃ m',m' < m/\W (i+1) m' σ' H')/\∀ x H',J.yld i H x H'->g x σ H' fun σ2 H2=>tb { D with nx:=N,ct:=N,bk:=D.nx } σ2 H2)
def aed (fp:List Addr) (h:Heap):List (Addr × Obj):=fp.filterMap fun b=>(h.get? b).map fun o=>(b,o)
theorem ab7 {fp:List Addr} {h:Heap} {b:Addr} {o:Obj} (hb:b∈fp) (e:h.get? b=some o):(b,o)∈aed fp h:=List.mem_filterMap.mpr ⟨b,hb,by rw [e];rfl⟩
theorem apy {fp:List Addr} {h:Heap} {p:Addr × Obj} (c:p∈aed fp h):p.1∈fp/\h.get? p.1=some p.2:=by
 obtain ⟨b,hb,e⟩:=List.mem_filterMap.mp c
 cases q:h.get? b with
 | none=>rw [q] at e;cases e
 | some o =>
  rw [q] at e
  have a:(b,o)=p:=aC5 e
  subst a
  exact ⟨hb,q⟩
theorem Inv.pinned {pins:List (Addr × Obj)} {σ:St} {H:Hp} {s:Shared} {fp:List Addr} (I:Inv X pins σ H s) (hf:∀ b∈fp,FpOk X pins H b) (h:∀ b∈fp,∃ o,s.heap.get? b=some o/\∀ v,o.data ≠ .cell v):Inv X (pins ++ aed fp s.heap) σ H s :=
 I.pins_of fun p f=>(aA7.mp f).elim (fun z=>I.pin p (aB2 _ z)) fun z=>by
  obtain ⟨hb,e⟩:=apy z
  obtain ⟨g,f1,c,_⟩:=hf p.1 hb
  obtain ⟨o,a,d⟩:=h p.1 hb
  rw [e] at a;cases a
  exact ⟨e,g,f1,c,d⟩
theorem Inv.unpinned {pins pl:List (Addr × Obj)} {σ:St} {H:Hp} {s:Shared} (I:Inv X (pins ++ pl) σ H s):Inv X pins σ H s:=I.pins_of fun p a=>I.pin p (aB2 _ (aC6 _ a))
theorem aa9 {iter:Expr} {body:List Stmt} {U:TI} {g:TG} {Z:TS} {pos:Pos} (F:PassesOwn (model X.prog X.w) X.A X.env X.xe) (hc:X.calm=true) (hi:PI X tg iter U) (hg:PG X tg g) (hb:PSs X body Z)
  (hs:∀ x,foldedSetIterable iter X.env x=pure x:=by intro _;rfl):PS X (.For tg iter body [] pos) (tFor U g Z):=by
 intro pins s σ H D I h
 refine wpAny_For (thn (hi pins s σ H _ I h) fun v s1 h1=>thn h1 fun a0 s2 h2=>?_) hs
 obtain ⟨it,fp,tn,J,H2,e,I2,T,L,f2,W,⟨m0,w0⟩,K⟩:=h2
 subst e
 -- what stays true of the iterator's objects through the loop
 have y:∀ {H':Hp},(∀ b∈fp,H' b=none)->∀ b∈fp,FpOk X pins H' b:=fun hn b hb=>⟨hn b hb,(f2 b hb).2⟩
 refine codeAny_forLoop_any (fun n s'=>∃ i j H',Inv X pins j H' s'/\tn i s'.heap/\(∀ b∈fp,H' b=none)/\W i n j H') ?_ m0 ⟨0,σ,H2,I2,L,fun b hb=>(f2 b hb).1,w0⟩
 rintro n S ⟨i,p,H3,I3,C,G,w3⟩
 rcases K i n p H3 w3 with ⟨stop,qn⟩ | ⟨go,N,hN,step⟩
 ·refine wpAny_passesOwn F (thn (T.done X rfl rfl rfl hc i pins S p H3 X.xe I3 (y G) C stop) fun r s4 ⟨M,I4⟩=>?_)
  subst M
  exact wpAny_execs_nil ⟨p,H3,I4,qn⟩
 ·refine wpAny_passesOwn F (thn (T.item X rfl rfl rfl hc i pins S p H3 X.xe I3 (y G) C go) fun r s4 ⟨u,M,h4⟩=>?_)
  subst M
  refine wpAny_passesOwn F (thn h4 fun _ s5 ⟨x,Y,I5,r5,y5,B,O⟩=>?_)
  have R:=I5.pinned (y O) (T.obj _ _ B)
  refine wpAny_passesOwn F (thn (hg _ s5 p Y x u _ R r5 (step x Y y5)) fun _ s6 ⟨P,H6,I6,q6⟩=>?_)
  refine wpAny_passesOwn F (thn (hb _ s6 P H6 _ I6 q6) fun f Q z=>?_)
  have l:∀ {a:St} {c:Hp},Inv X (pins ++ aed fp s5.heap) a c Q->N a c->∃ m,m < n/\∃ i j H',Inv X pins j H' Q/\tn i Q.heap/\(∀ b∈fp,H' b=none)/\W i m j H':=fun {a c} q E=>by
   obtain ⟨m',hm,w7⟩:=hN a c E
   refine ⟨m',hm,i+1,a,c,q.unpinned,T.keep _ _ _ B fun b hb o e=>(q.pin (b,o) (aB2 _ (aB2 _ (ab7 hb e)))).1,fun b hb=>?_,w7⟩
   obtain ⟨o,e,d⟩:=T.obj _ _ B b hb
   exact (q.pin (b,o) (aB2 _ (aB2 _ (ab7 hb e)))).2.1
  cases f with
  | next=>obtain ⟨a,c,q,E⟩:=z;exact l q E
  | cont=>obtain ⟨a,c,q,E⟩:=z;exact l q E
  | brk=>obtain ⟨a,c,q,z⟩:=z;exact ⟨a,c,q.unpinned,z⟩
  | ret v=>obtain ⟨x7,a,c,q,r7,z⟩:=z;exact ⟨x7,a,c,q.unpinned,r7,z⟩
end
abbrev R2:=V->V->Hp->VK->Prop
def OpR (X:Cx) (f:Value->Value->Sem Value) (r:R2):Prop :=
 ∀ (pins:List (Addr × Obj)) (s:Shared) (σ:St) (H:Hp) (x y:V) (v u:Value) (Q:VK),Inv X pins σ H s->RelV x v->RelV y u->r x y H Q ->
  wpAny (model X.prog X.w) X.A (f v u) (EP X pins σ Q) X.xe s
def abk (X:Cx) (f:Value) (r:List V->Hp->VK->Prop):Prop :=
 ∀ (pins:List (Addr × Obj)) (s:Shared) (σ:St) (H:Hp) (xs:List V) (us:List Value) (Q:VK),Inv X pins σ H s->Vals xs us->r xs H Q ->
  wpAny (model X.prog X.w) X.A (call f us) (EP X pins σ Q) X.xe s
def TruR (X:Cx) (r:V->Hp->(Bool->Hp->Prop)->Prop):Prop :=
 ∀ (pins:List (Addr × Obj)) (s:Shared) (σ:St) (H:Hp) (x:V) (v:Value) (Q:Bool->Hp->Prop),Inv X pins σ H s->RelV x v->r x H Q ->
  wpAny (model X.prog X.w) X.A (truthy v) (TP X pins σ Q) X.xe s
def tOp (r:R2) (ta tb:TE):TE:=fun σ H Q=>ta σ H fun x H1=>tb σ H1 fun y H2=>r x y H2 Q
def rI (C:Int->Int->Prop) (g:Int->Int->V):R2:=fun x y H Q=>∃ i j,x=.int i/\y=.int j/\C i j/\Q (g i j) H
def rI0 (g:Int->Int->V):R2:=fun x y H Q=>∃ i j,x=.int i/\y=.int j/\Q (g i j) H
section
variable {X:Cx} {a b c:Expr} {ta tb tc:TE} {pos:Pos}
theorem binT (ha:PE X a ta) (hb:PE X b tb) {pins:List (Addr × Obj)} {s:Shared} {σ:St} {H:Hp} {R:V->V->Hp->Prop} (I:Inv X pins σ H s)
  (h:ta σ H fun x g=>tb σ g fun y H2=>R x y H2) {Q:Value->Shared->Prop} {f:Value->Value->Sem Value}
  (hf:∀ v u s2 x y H2,Inv X pins σ H2 s2->RelV x v->RelV y u->R x y H2->wpAny (model X.prog X.w) X.A (f v u) Q X.xe s2) :
  wpAny (model X.prog X.w) X.A (eval a X.env) (fun v c=>wpAny (model X.prog X.w) X.A (eval b X.env) (fun u d=>wpAny (model X.prog X.w) X.A (f v u) Q X.xe d) X.xe c) X.xe s:=by
 refine thn (ha pins s σ H _ I h) fun v s1 ⟨x,g,l,o,i⟩=>?_
 refine thn (hb pins s1 σ g _ l i) fun u s2 ⟨y,H2,j,n,m⟩=>?_
 exact hf v u s2 x y H2 j o n m
theorem aaf {op:Operator} {r:R2} (g:OpR X (binaryOp op) r) (ha:PE X a ta) (hb:PE X b tb):PE X (.BinOp a op b pos) (tOp r ta tb):=by
 intro pins s σ H Q I h
 exact wpAny_BinOp (binT ha hb I h fun v u s2 x y H2 d f c q=>g pins s2 σ H2 x y v u Q d f c q)
theorem opI {f:Value->Value->Sem Value} {C:Int->Int->Prop} {g:Int->Int->Int}
  (a:∀ (i j:Int) (t u:Tok) (s:Shared) (Q:Value->Shared->Prop) (E:Value->Shared->Prop),C i j->Q (.int (g i j) s.toks) { s with toks:=s.toks+1 }->wpAny (model X.prog X.w) X.A (f (.int i t) (.int j u)) Q E s) :
  OpR X f (rI C fun i j => .int (g i j)):=by
 intro pins s σ H x y v u Q I d c h
 obtain ⟨i,j,rfl,rfl,b,q⟩:=h
 obtain ⟨t,rfl⟩:=d
 obtain ⟨t',rfl⟩:=c
 exact a i j t t' s _ _ b ⟨.int (g i j),H,I.tok _,⟨_,rfl⟩,q⟩
theorem opI0 {f:Value->Value->Sem Value} {g:Int->Int->Int}
  (a:∀ (i j:Int) (t u:Tok) (s:Shared) (Q:Value->Shared->Prop) (E:Value->Shared->Prop),Q (.int (g i j) s.toks) { s with toks:=s.toks+1 }->wpAny (model X.prog X.w) X.A (f (.int i t) (.int j u)) Q E s) :
  OpR X f (rI0 fun i j => .int (g i j)):=by
 intro pins s σ H x y v u Q I c b h
 obtain ⟨i,j,rfl,rfl,q⟩:=h
 obtain ⟨t,rfl⟩:=c
 obtain ⟨t',rfl⟩:=b
 exact a i j t t' s _ _ ⟨.int (g i j),H,I.tok _,⟨_,rfl⟩,q⟩
theorem opB0 {f:Value->Value->Sem Value} {g:Int->Int->Bool}
  (a:∀ (i j:Int) (t u:Tok) (s:Shared) (Q:Value->Shared->Prop) (E:Value->Shared->Prop),Q (.bool (g i j)) s->wpAny (model X.prog X.w) X.A (f (.int i t) (.int j u)) Q E s) :
  OpR X f (rI0 fun i j => .bl (g i j)):=by
 intro pins s σ H x y v u Q I c b h
 obtain ⟨i,j,rfl,rfl,q⟩:=h
 obtain ⟨t,rfl⟩:=c
 obtain ⟨t',rfl⟩:=b
 exact a i j t t' s _ _ ⟨.bl (g i j),H,I,rfl,q⟩
def CDiv (i j:Int):Prop:=0 < j/\j < 1073741824
def CPow (i j:Int):Prop:=0<=j/\j<=1000000/\i.natAbs < 2 ^ 64
def CMul (i j:Int):Prop:=(-(2 ^ 64) < i/\i < 2 ^ 64)\/(-(2 ^ 64) < j/\j < 2 ^ 64)
theorem CMul.ok {i j:Int} (h:CMul i j):IntMulOk i j:=by
 rcases h with ⟨b,a⟩ | ⟨b,a⟩
 ·exact .of_left (intBits_le_64 b a)
 ·exact .of_right (intBits_le_64 b a)
theorem aaq:OpR X (binaryOp .Add) (rI0 fun i j => .int (i+j)):=opI0 fun _ _ _ _ _ _ _ q=>add_int q
theorem acu:OpR X (binaryOp .Sub) (rI0 fun i j => .int (i - j)):=opI0 fun _ _ _ _ _ _ _ q=>sub_int q
theorem acf:OpR X (binaryOp .Mult) (rI CMul fun i j => .int (i * j)):=opI fun _ _ _ _ _ _ _ a q=>mul_int q a.ok
theorem acg:OpR X (binaryOp .FloorDiv) (rI CDiv fun i j => .int (i / j)):=opI fun i j _ _ _ _ _ a q=>by
 have c:(0:Int) < j:=a.1
 have b:j < 1073741824:=a.2
 exact floordiv_int (by omega) (by rw [Int.fdiv_eq_ediv_of_nonneg i (by omega)];exact q) (.inl (PyProof.noPylong_small (by omega)))
theorem aax:OpR X (binaryOp .Mod) (rI (fun _ j=>0 < j) fun i j => .int (i % j)):=opI fun i j _ _ _ _ _ a q=>by
 have b:(0:Int) < j:=a
 exact mod_int' (by omega) (by rw [Int.fmod_eq_emod_of_nonneg i (by omega)];exact q)
theorem axk:OpR X (binaryOp .Pow) (rI CPow fun i j => .int (i ^ j.toNat)):=opI fun _ _ _ _ _ _ _ a q=>pow_int_small a.1 a.2.1 a.2.2 q
end
def scal:V->V->Bool
 | .non,.non=>true | .non,.int _=>true | .int _,.non=>true | .non,.bl _=>true | .bl _,.non=>true | .non,.str _=>true | .str _,.non=>true
 | .int _,.int _=>true | .bl _,.bl _=>true | .str _,.str _=>true | .byt _,.byt _=>true
 | .int _,.str _=>true | .str _,.int _=>true | .bl _,.str _=>true | .str _,.bl _=>true
 | _,_=>false
def rEq:R2:=fun x y H Q=>scal x y=true/\Q (.bl (decide (x=y))) H
theorem ano {i j:Int}:decide (V.int i=V.int j)=(i == j):=by
 rw [aG8]
 simp
theorem axl {i j:Bool}:decide (V.bl i=V.bl j)=(i == j):=by
 rw [aG8]
 simp
theorem aux {i j:Str}:decide (V.str i=V.str j)=(i == j):=by
 rw [aG8]
 simp
theorem auy {i j:Array UInt8}:decide (V.byt i=V.byt j)=(i.toList == j.toList):=by
 rw [aG8]
 cases i
 cases j
 simp
section
variable {X:Cx} {a b c:Expr} {ta tb tc:TE} {pos:Pos}
theorem aby {pins:List (Addr × Obj)} {σ:St} {H:Hp} {s:Shared} {Q:VK} {k a:Bool} (I:Inv X pins σ H s) (q:Q (.bl k) H) (e:k=a):EP X pins σ Q (.bool a) s:=by
 subst e
 exact ⟨.bl k,H,I,rfl,q⟩
theorem ah8:OpR X (compareOp .Eq) rEq:=by
 intro pins s σ H x y v u Q I c a h
 obtain ⟨b,q⟩:=h
 cases x with
 | non =>
  cases c
  cases y with
  | non=>cases a;exact PySem.EqNone.eq_none_none (aby I q (by simp))
  | bl j=>cases a;exact PySem.EqNone.eq_none_bool (aby I q (by simp))
  | int j=>obtain ⟨t',rfl⟩:=a;exact PySem.EqNone.eq_none_int (aby I q (by simp))
  | str j=>obtain ⟨t',rfl⟩:=a;exact PySem.EqNone.eq_none_str (aby I q (by simp))
  | _=>exact absurd (show false=true from b) aA9
 | bl i =>
  cases c
  cases y with
  | non=>cases a;exact PySem.EqNone.eq_bool_none (aby I q (by simp))
  | bl j=>cases a;exact eq_bool (aby I q axl)
  | str j=>obtain ⟨t',rfl⟩:=a;exact PySem.EqMixed.eq_bool_str (aby I q (by simp))
  | _=>exact absurd (show false=true from b) aA9
 | int i =>
  obtain ⟨t,rfl⟩:=c
  cases y with
  | non=>cases a;exact PySem.EqNone.eq_int_none (aby I q (by simp))
  | int j=>obtain ⟨t',rfl⟩:=a;exact eq_int (aby I q ano)
  | str j=>obtain ⟨t',rfl⟩:=a;exact PySem.EqMixed.eq_int_str (aby I q (by simp))
  | _=>exact absurd (show false=true from b) aA9
 | str i =>
  obtain ⟨t,rfl⟩:=c
  cases y with
  | non=>cases a;exact PySem.EqNone.eq_str_none (aby I q (by simp))
  | bl j=>cases a;exact PySem.EqMixed.eq_str_bool (aby I q (by simp))
  | int j=>obtain ⟨t',rfl⟩:=a;exact PySem.EqMixed.eq_str_int (aby I q (by simp))
  | str j=>obtain ⟨t',rfl⟩:=a;exact eq_str (aby I q aux)
  | _=>exact absurd (show false=true from b) aA9
 | byt i =>
  obtain ⟨t,rfl⟩:=c
  cases y with
  | byt j=>obtain ⟨t',rfl⟩:=a;exact PySem.W.eq_bytes (aby I q auy)
  | _=>exact absurd (show false=true from b) aA9
 | _=>cases y <;> exact absurd (show false=true from b) aA9
theorem agh:OpR X (compareOp .Lt) (rI0 fun i j => .bl (decide (i < j))):=opB0 fun _ _ _ _ _ _ _ q=>lt_int q
theorem aua:OpR X (compareOp .LtE) (rI0 fun i j => .bl (decide (i<=j))):=opB0 fun _ _ _ _ _ _ _ q=>le_int q
theorem ak3:OpR X (compareOp .Gt) (rI0 fun i j => .bl (decide (j < i))):=opB0 fun _ _ _ _ _ _ _ q=>gt_int q
theorem aub:OpR X (compareOp .GtE) (rI0 fun i j => .bl (decide (j<=i))):=opB0 fun _ _ _ _ _ _ _ q=>ge_int q
theorem axm:OpR X (compareOp .Is) (fun x y H Q=>y=.non/\Q (.bl (decide (x=.non))) H):=by
 intro pins s σ H x y v u Q I a b h
 obtain ⟨rfl,q⟩:=h
 cases b
 refine is_none_gen (aby I q ?_)
 cases x <;> first
  | (cases a;rfl)
  | (obtain ⟨t,rfl⟩:=a;rfl)
theorem aa7 (b:Expr) {op:CmpOp} (h:op ≠ .In:=by decide) (a:op ≠ .NotIn:=by decide):behindInMarks op b=false:=by
 have c:(op == CmpOp.In)=false:=by cases op <;> first | rfl | exact absurd rfl h
 have e2:(op == CmpOp.NotIn)=false:=by cases op <;> first | rfl | exact absurd rfl a
 cases b <;> simp [behindInMarks,c,e2]
theorem ad4 {op:CmpOp} {r:R2} (g:OpR X (compareOp op) r) (ha:PE X a ta) (hb:PE X b tb) (hm:behindInMarks op b=false):PE X (.Compare a [op] [b] pos) (tOp r ta tb):=by
 intro pins s σ H Q I h
 exact wpAny_Compare1 (binT ha hb I h fun v u s2 x y H2 d f c q=>g pins s2 σ H2 x y v u Q d f c q) hm
def auc (t:TE):TT:=fun σ H Q=>t σ H fun x H'=>∃ k,x=.bl k/\Q k H'
theorem aa6 {op:CmpOp} {r:R2} (j:OpR X (compareOp op) r) (ha:PE X a ta) (hb:PE X b tb) (hm:behindInMarks op b=false):PT X (.Compare a [op] [b] pos) (auc (tOp r ta tb)):=by
 intro pins s σ H Q I h
 refine wpAny_isTrue_Compare1 (thn (ha pins s σ H _ I h) fun v s1 ⟨x,f,l,q,g⟩=>thn (hb pins s1 σ f _ l g) fun u s2 ⟨y,H2,i,p,o⟩ =>
  thn (j pins s2 σ H2 x y v u _ i q p o) fun c w ⟨z,H3,d,n,k,e,m⟩=>?_) hm
 subst e
 cases n
 exact aI8 ⟨H3,d,m⟩
def alg (r r':R2) (ta tb tc:TE):TE:=fun σ H Q=>ta σ H fun x H1=>tb σ H1 fun y H2=>r x y H2 fun z H3=>∃ k,z=.bl k /\
 (if k=true then tc σ H3 fun w' H4=>r' y w' H4 Q else Q (.bl false) H3)
theorem ar2 {op f:CmpOp} {r j:R2} (E:OpR X (compareOp op) r) (g:OpR X (compareOp f) j) (ha:PE X a ta) (hb:PE X b tb) (n:PE X c tc)
  (hm:lastMarks [op,f] [b,c]=false:=by with_unfolding_all rfl):PE X (.Compare a [op,f] [b,c] pos) (alg r j ta tb tc):=by
 intro pins s σ H Q I h
 refine Compare_chain (thn (ha pins s σ H _ I h) fun v s1 ⟨x,q,F,N,w⟩=>chain_link (thn (hb pins s1 σ q _ F w) fun u s2 ⟨y,H2,A,m,M⟩ =>
  thn (E pins s2 σ H2 x y v u _ A N m M) fun d o ⟨z,H3,i,K,k,e,l⟩=>?_)) hm
 subst e
 cases K
 refine aI8 ?_
 cases k with
 | false=>exact ite_ff ⟨.bl false,H3,i,rfl,l⟩
 | true=>exact ite_tt (chain_last (thn (n pins o σ H3 _ i l) fun C L ⟨J,B,D,G,p⟩=>g pins L σ B y J u C Q D m G p))
def TruV (K:Frag) (x:V) (H:Hp) (k:Bool):Prop :=
 match x with
 | .non=>k=false
 | .bl b=>k=b
 | .int i=>k=(i != 0)
 | .str y=>y.length<=sizeLine/\k=((y.length:Int) != 0)
 | .byt y=>y.size<=sizeLine/\k=((y.size:Int) != 0)
 | .ref p=>(∃ xs,SqL K H p xs/\k = !xs.isEmpty)\/(∃ xs,SqT K H p xs/\k = !xs.isEmpty)\/∃ kvs,H p=some (.dK kvs)/\k = !kvs.isEmpty
 | _=>False
theorem aov {κ:Type} {kvs:List (κ × V)} {vs:List (κ × Value)} (r:KV kvs vs):(!vs.isEmpty) = !kvs.isEmpty:=by
 cases r <;> rfl
theorem ah9 {xs:List V} {its:List Value} (r:Vals xs its):(!its.toArray.isEmpty) = !xs.isEmpty:=by
 cases r <;> simp
theorem af0:(sizeLine:Nat) < 2 ^ 63:=by rw [sizeLine_eq];decide
theorem axn:TruR X (fun x H Q=>∃ k,TruV X.K x H k/\Q k H):=by
 intro pins s σ H x v Q I d h
 obtain ⟨k,e,q⟩:=h
 have n:=af0
 have o:sizeLine=16777216:=sizeLine_eq
 cases x with
 | non =>
  cases d
  have a:k=false:=e
  subst a
  exact truthy_none ⟨H,I,q⟩
 | bl b =>
  cases d
  have a:k=b:=e
  subst a
  exact aI8 ⟨H,I,q⟩
 | int i =>
  obtain ⟨t,rfl⟩:=d
  have a:k=(i != 0):=e
  subst a
  exact PySem.P.truthy_int ⟨H,I,q⟩
 | str y =>
  obtain ⟨t,rfl⟩:=d
  obtain ⟨j,a⟩:y.length<=sizeLine/\k=((y.length:Int) != 0):=e
  subst a
  exact PySem.P.truthy_str (by omega) ⟨H,I.tok _,q⟩
 | byt y =>
  obtain ⟨t,rfl⟩:=d
  obtain ⟨j,a⟩:y.size<=sizeLine/\k=((y.size:Int) != 0):=e
  subst a
  exact PySem.W.truthy_bytes (by omega) ⟨H,I.tok _,q⟩
 | ref p =>
  cases d
  have a:(∃ xs,SqL X.K H p xs/\k = !xs.isEmpty)\/(∃ xs,SqT X.K H p xs/\k = !xs.isEmpty)\/∃ kvs,H p=some (.dK kvs)/\k = !kvs.isEmpty:=e
  rcases a with ⟨xs,f,a⟩ | ⟨xs,f,a⟩ | ⟨kvs,f,a⟩
  ·subst a
   obtain ⟨its,r,pl,g⟩:=I.list f
   have c:=r.length
   exact wpAny_truthy_list pl.isList (by simp only [aB1];omega) ⟨H,I.tok _,by rw [ah9 r];exact q⟩
  ·subst a
   obtain ⟨its,r,pl,g⟩:=I.tuple f
   have c:=r.length
   exact truthy_tuple pl (by simp only [aB1];omega) ⟨H,I.tok _,by rw [ah9 r];exact q⟩
  ·subst a
   obtain ⟨g,l,vs,r,m⟩:kvs.length<=sizeLine/\(p == sysModules)=false/\∃ vs,KV kvs vs/\s.heap.DictOf (abc X.prog X.w) p vs:=I.hok p _ f
   have c:kvs.length=vs.length:=Paired.length r
   exact wpAny_truthy_dict l m (by omega) ⟨H,I.tok _,by rw [aov r];exact q⟩
 | _=>exact (show False from e).elim
theorem ar3 (ha:PE X a ta) (d:∀ whole,isTrue a X.env whole=(do let v ← whole;standAt a.pos;holding [v] (truthy v))) :
  PT X a (fun σ H Q=>ta σ H fun x H'=>∃ k,TruV X.K x H' k/\Q k H'):=by
 intro pins s σ H Q I h
 exact isTrue_plain (thn (ha pins s σ H _ I h) fun v s1 ⟨x,b,f,g,c⟩=>axn pins s1 σ b x v Q f g c) (d _)
theorem ac0 {x:V} {us:List Value} (r:Vals [x] us):∃ u,us=[u]/\RelV x u:=by
 cases r with
 | cons r1 r2=>cases r2;exact ⟨_,rfl,r1⟩
theorem aia {x y:V} {us:List Value} (r:Vals [x,y] us):∃ u a,us=[u,a]/\RelV x u/\RelV y a:=by
 cases r with
 | cons r1 r2 =>
  cases r2 with
  | cons r3 r4=>cases r4;exact ⟨_,_,rfl,r1,r3⟩
theorem apz (a:X.calm=true):abk X (.builtin "max") (fun xs H Q=>∃ i j,xs=[.int i,.int j]/\Q (.int (if j > i then j else i)) H):=by
 intro pins s σ H xs us Q I r h
 obtain ⟨i,j,rfl,q⟩:=h
 obtain ⟨u,c,rfl,⟨t,rfl⟩,⟨t',rfl⟩⟩:=aia r
 refine max_two_ints (I.ok.hd a) fun h' b k=>⟨_,H,I.kept k,?_,q⟩
 by_cases hj:j > i
 ·rw [aE5 hj,aE5 hj];exact ⟨_,rfl⟩
 ·rw [aE6 hj,aE6 hj];exact ⟨_,rfl⟩
theorem ap0 (a:X.calm=true):abk X (.builtin "min") (fun xs H Q=>∃ i j,xs=[.int i,.int j]/\Q (.int (if j < i then j else i)) H):=by
 intro pins s σ H xs us Q I r h
 obtain ⟨i,j,rfl,q⟩:=h
 obtain ⟨u,c,rfl,⟨t,rfl⟩,⟨t',rfl⟩⟩:=aia r
 refine min_two_ints (I.ok.hd a) fun h' b k=>⟨_,H,I.kept k,?_,q⟩
 by_cases hj:j < i
 ·rw [aE5 hj,aE5 hj];exact ⟨_,rfl⟩
 ·rw [aE6 hj,aE6 hj];exact ⟨_,rfl⟩
theorem ap1:abk X (.type "int") (fun xs H Q=>(∃ i,xs=[.int i]/\Q (.int i) H)\/∃ k,xs=[.bl k]/\Q (.int (if k then 1 else 0)) H):=by
 intro pins s σ H xs us Q I r h
 rcases h with ⟨i,rfl,q⟩ | ⟨k,rfl,q⟩
 ·obtain ⟨u,rfl,t,rfl⟩:=ac0 r
  exact call_int_int ⟨.int i,H,I,⟨_,rfl⟩,q⟩
 ·obtain ⟨u,rfl,a⟩:=ac0 r
  cases a
  exact call_int_bool ⟨.int (if k then 1 else 0),H,I.tok _,⟨_,rfl⟩,q⟩
end
structure ObjM (h:Heap) (x dx C:Addr) (mA:Str->Option Value):Prop where
 obj:h.get? x=some (PySem.W.instObj C dx)
 ns:h.Ns1 dx mA
 ne:dx ≠ x
theorem ap2 {h:Heap} {dx:Addr} {mA:Str->Option Value} (n:h.Ns1 dx mA):∃ od,h.get? dx=some od/\∀ name,PySem.W.lookIn name od=some (mA name):=by
 obtain ⟨o,es,i,f,hd,d,_,hm⟩:=n
 refine ⟨o,f,fun name=>?_⟩
 have e:=hm name
 unfold nsFind findBy at e
 rw [← Array.find?_toList] at e
 unfold PySem.W.lookIn
 rw [hd]
 dsimp only
 split
 ·rename_i y q
  rw [q] at e
  exact congrArg some e
 ·rename_i q
  rw [q] at e
  have a:es.toList.any (·.refKey)=false:=by
   rw [List.any_eq_false]
   intro y g
   obtain ⟨z,t,b⟩:=d y (Array.mem_toList_iff.mp g)
   simp [DictEntry.refKey,b]
  have c:¬ es.toList.any (·.refKey)=true:=by rw [a];exact aA9
  rw [aE6 c]
  exact congrArg some e
theorem ObjM.look {h:Heap} {x dx C:Addr} {mA:Str->Option Value} (I:ObjM h x dx C mA):∃ od,PySem.W.InstAt h x (PySem.W.instObj C dx) C (some od)/\∀ name,PySem.W.lookIn name od=some (mA name) :=
 let ⟨od,a,b⟩:=ap2 I.ns
 ⟨od,⟨I.obj,rfl,rfl,a⟩,b⟩
section
variable {prog:Program} {w:World} {A:Around} {E:Value->Shared->Prop} {s:Shared} {K:Frag} {x dx C f:Addr} {mA:Str->Option Value} {name:Str} {v:Value}
end
def putF (f:Str) (v:V):List (Str × V)->List (Str × V)
 | []=>[(f,v)]
 | (g,x) :: r=>if g=f then (g,v) :: r else (g,x) :: putF f v r
theorem RelO.some_of {v:V} {o:Option Value} (r:RelO (some v) o):∃ u,o=some u/\RelV v u:=by
 cases o with
 | none=>exact (show False from r).elim
 | some u=>exact ⟨u,rfl,r⟩
section
variable {P:Program} {w:World} {H H':Hp} {h h':Heap} {a C dx:Addr} {fs fs':List (Str × V)}
theorem auz (hok:HOk P w H h) (e:H a=some (.ins C dx fs)):∃ mA,ObjM h a dx C mA/\(∀ f,RelO (fs.lookup f) (mA f))/\PySem.Within mA (fs.map (·.1))/\fs.length<=1000/\H dx=some (.own a):=by
 obtain ⟨d,z,ne,b,mA,n,r,q⟩:=(show ObjOk P w H h a (.ins C dx fs) from hok a _ e)
 exact ⟨mA,⟨b,n,ne⟩,r,q,z,d⟩
end
structure Cls (K:Frag) (C:Addr):Prop where
 pg:PySem.W.plainGet K C Str.empty=true
 hd:PySem.W.hasDictIn K C=true
 po:PySem.W.plainOver K C=true
 sa:PySem.W.findIn K (.ref C) "__setattr__" = some (some (.builtin "object.__setattr__"))
theorem Cls.get {K:Frag} {C:Addr} (c:Cls K C) (f:Str):PySem.W.plainGet K C f=true:=c.pg
structure Meth (K:Frag) (C:Addr) (m:Str) (f:Addr):Prop where
 at_:PySem.W.findIn K (.ref C) m=some (some (.ref f))
 fn:PySem.W.isFn K (.ref f)=true
 kp:keepIn K (.ref f)=true
section
variable {X:Cx} {pins:List (Addr × Obj)} {σ:St} {H:Hp} {s:Shared} {a C dx:Addr} {fs:List (Str × V)} {f:Str} {v:V} {A:Around} {E:Value->Shared->Prop}
end
section
variable {X:Cx} {o e value:Expr} {f:Str} {pos pos' tpos:Pos} {ta tv:TE}
end
section
variable {X:Cx} {pins:List (Addr × Obj)} {σ:St} {H:Hp} {s:Shared} {A:Around} {E:Value->Shared->Prop} {Q:Value->Shared->Prop} {c:Value} {b:Bool}
inductive TyOf (K:Frag) (H:Hp):V->Value->Prop where
 | non:TyOf K H .non (.type "NoneType")
 | bl (x:Bool):TyOf K H (.bl x) (.type "bool")
 | int (i:Int):TyOf K H (.int i) (.type "int")
 | str (x:Str):TyOf K H (.str x) (.type "str")
 | flt (x:UInt64):TyOf K H (.flt x) (.type "float")
 | lst {a:Addr} {xs:List V} (e:H a=some (.lst xs)):TyOf K H (.ref a) (.type "list")
 | frz {a:Addr} {o:Obj} {xs:List V} (e:H a=some (.frz o (.lst xs))):TyOf K H (.ref a) (.type "list")
 | tup {a:Addr} {xs:List V} (e:H a=some (.tup xs)):TyOf K H (.ref a) (.type "tuple")
 | dK {a:Addr} {kvs:List (Key × V)} (e:H a=some (.dK kvs)):TyOf K H (.ref a) (.type "dict")
 | dT {a:Addr} {kvs:List (List Key × V)} (e:H a=some (.dT kvs)):TyOf K H (.ref a) (.type "dict")
 | ins {a C dx:Addr} {fs:List (Str × V)} (e:H a=some (.ins C dx fs)) (cl:Cls K C) (ha:PySem.W.findIn K (.ref C) "__class__" = some (some (.builtin "object.__class__")))
   (hn:PySem.W.specialIn K (.builtin "object.__class__") "__get__" = some (some (.builtin "getset_descriptor.__get__"))) (htk:PySem.W.takesIn K (.builtin "object.__class__")=some true)
   (hm:mroIn K C (.type "object")=some true):TyOf K H (.ref a) (.ref C)
theorem ap3 {x:V} {u t:Value} (I:Inv X pins σ H s) (d:RelV x u) (ty:TyOf X.K H x t) (e:kitOne X.K t c=some b) (h:∀ j,Q (.bool b) { s with toks:=j }) :
  wpAny (model X.prog X.w) A (call (.builtin "isinstance") [u,c]) Q E s:=by
 cases ty with
 | non=>cases (show u=Value.none from d);exact PySem.W.kia_one PySem.W.kitx_none I.kIn True.intro e (fun z=>nomatch z) h
 | bl y=>cases (show u=Value.bool y from d);exact PySem.W.kia_one PySem.W.kitx_bool I.kIn True.intro e (fun z=>nomatch z) h
 | int i=>obtain ⟨t,q⟩:=(show ∃ t,u=Value.int i t from d);cases q;exact PySem.W.kia_one PySem.W.kitx_int I.kIn True.intro e (fun z=>nomatch z) h
 | str y=>obtain ⟨t,q⟩:=(show ∃ t,u=Value.str y t from d);cases q;exact PySem.W.kia_one PySem.W.kitx_str I.kIn True.intro e (fun z=>nomatch z) h
 | flt y=>obtain ⟨t,q⟩:=(show ∃ t,u=Value.float y t from d);cases q;exact PySem.W.kia_one PySem.W.kitx_float I.kIn True.intro e (fun z=>nomatch z) h
 | @lst a xs ea =>
  cases (show u=Value.ref a from d)
  obtain ⟨_,_,n,_,f⟩:=(show ObjOk X.prog X.w H s.heap a (.lst xs) from I.hok a _ ea)
  exact PySem.W.kia_one PySem.W.kitx_list I.kIn ⟨_,f,rfl⟩ e (fun z=>nomatch z) h
 | @frz a ob xs ea =>
  cases (show u=Value.ref a from d)
  obtain ⟨_,_,_,n,_,f⟩:=(show ObjOk X.prog X.w H s.heap a (.frz ob (.lst xs)) from I.hok a _ ea)
  exact PySem.W.kia_one PySem.W.kitx_list I.kIn ⟨_,f,rfl⟩ e (fun z=>nomatch z) h
 | @tup a xs ea =>
  cases (show u=Value.ref a from d)
  obtain ⟨_,_,_,p⟩:=(show ObjOk X.prog X.w H s.heap a (.tup xs) from I.hok a _ ea)
  obtain ⟨o,f,g,_⟩:=p
  exact PySem.W.kia_one PySem.W.kitx_tuple I.kIn ⟨o,f,g⟩ e (fun z=>nomatch z) h
 | @dK a kvs ea =>
  cases (show u=Value.ref a from d)
  obtain ⟨_,_,vs,_,p⟩:=(show ObjOk X.prog X.w H s.heap a (.dK kvs) from I.hok a _ ea)
  obtain ⟨o,es,l,f,g,_⟩:=p
  exact PySem.W.kia_one PySem.W.kitx_dict I.kIn ⟨o,f,g.1⟩ e (fun z=>nomatch z) h
 | @dT a kvs ea =>
  cases (show u=Value.ref a from d)
  obtain ⟨_,_,xs,_,o,es,l,f,g,_⟩:=(show ObjOk X.prog X.w H s.heap a (.dT kvs) from I.hok a _ ea)
  exact PySem.W.kia_one PySem.W.kitx_dict I.kIn ⟨o,f,g.1⟩ e (fun z=>nomatch z) h
 | @ins a C dx fs ea cl ha hn htk hm =>
  cases (show u=Value.ref a from d)
  obtain ⟨mA,O,_⟩:=auz I.hok ea
  obtain ⟨od,J,_⟩:=O.look
  exact PySem.W.kia_one (PySem.W.kitx_own (cl.get _) cl.hd ha hn htk hm) I.kIn J e (fun z=>nomatch z) h
end
structure Room (k:Nat) (A:Around):Prop where
 hd:A.handled=none
 dp:A.depth+3 * k+5 < recursionLimit
 un:A.units+16 * k+200 < cLine
 gd:A.guards=some []
theorem Room.mono {j k:Nat} {A:Around} (r:Room k A) (h:j<=k):Room j A:=⟨r.hd,by have:=r.dp;omega,by have:=r.un;omega,r.gd⟩
theorem Room.deeper {k:Nat} {A:Around} (r:Room (k+1) A) (env:Env):Room k (A.deeper env) :=
 ⟨r.hd,by have:=r.dp;show A.depth+1+3 * k+5 < _;omega,by have:=r.un;show A.units+3+16 * k+200 < _;omega,r.gd⟩
theorem Room.in1 {k:Nat} {A:Around} (r:Room (k+1) A):Room k A.in1 :=
 ⟨r.hd,by have:=r.dp;show A.depth+3 * k+5 < _;omega,by have:=r.un;show A.units+1+16 * k+200 < _;omega,r.gd⟩
theorem Room.depth {k:Nat} {A:Around} (r:Room k A):A.depth < recursionLimit:=by have:=r.dp;omega
theorem Room.units {k:Nat} {A:Around} (r:Room k A):A.units+64 < cLine:=by have:=r.un;omega
def tNil:TA:=fun _ H Q=>Q [] H
def abt (ta:TE) (tr:TA):TA:=fun σ H Q=>ta σ H fun x H1=>tr σ H1 fun xs H2=>Q (x :: xs) H2
section
variable {X:Cx} {e:Expr} {es:List Expr} {te:TE} {t:TA} {pos:Pos}
theorem aab:PA X [] tNil:=fun _ _ _ _ H Q I h=>Calls.spliced_nil ⟨[],H,I,.nil,h⟩
theorem aaa (ha:PE X e te) (d:PA X es t) (g:starEach (e :: es) X.env=(false,eval e X.env) :: starEach es X.env:=by rfl):PA X (e :: es) (abt te t):=by
 intro pos pins s σ H Q I h
 rw [g]
 show wpAny _ _ (spliced ((false,eval e X.env) :: backTo pos (starEach es X.env))) _ _ s
 refine Calls.spliced_cons (thn (ha pins s σ H _ I h) fun u s1 ⟨x,a,f,l,b⟩=>?_)
 exact thn (d pos pins s1 σ a _ f b) fun us s2 ⟨xs,H2,c,j,i⟩=>⟨x :: xs,H2,c,.cons l j,i⟩
def tTup (t:TA):TE:=fun σ H Q=>t σ H fun xs H1=>xs.length<=sizeLine/\∀ p,H1 p=none->Q (.ref p) (upd H1 p (.tup xs))
def tLst (t:TA):TE:=fun σ H Q=>t σ H fun xs H1=>xs.length<=sizeLine/\∀ p,H1 p=none->Q (.ref p) (upd H1 p (.lst xs))
theorem abg {x1} (h:PA X es t):PE X (.Tuple es x1 pos) (tTup t):=by
 intro pins s σ H Q I d
 refine wpAny_Tuple_spliced (thn (h pos pins s σ H _ I d) fun us s1 ⟨xs,a,c,r,z,q⟩=>⟨by rw [← r.length];exact z,?_⟩)
 have hf:a s1.heap.objs.size=none:=c.hok.fresh (aA6 _)
 refine ⟨.ref s1.heap.objs.size,upd a s1.heap.objs.size (.tup xs),c.laid (t':=s1.toks) (fun b u e=>aI1 _ e) (aA6 _) ?_,rfl,q _ hf⟩
 exact ⟨z,us,r,⟨_,aI3 _ rfl,rfl,_,rfl⟩⟩
theorem aa3 (h:PA X es t):PE X (.List es pos) (tLst t):=by
 intro pins s σ H Q I d
 refine wpAny_List_spliced (thn (h pos pins s σ H _ I d) fun us s1 ⟨xs,a,c,r,z,q⟩=>⟨by rw [← r.length];exact z,?_⟩)
 have hf:a s1.heap.objs.size=none:=c.hok.fresh (aA6 _)
 refine ⟨.ref s1.heap.objs.size,upd a s1.heap.objs.size (.lst xs),c.laid (t':=s1.toks) (fun b u e=>aI1 _ e) (aA6 _) ?_,rfl,q _ hf⟩
 exact ⟨z,us,0,r,aI3 _ rfl⟩
end
abbrev Sp:=List V->Hp->VK->XK->Prop
abbrev CXT:=List Env->Hp->Shared->XK->Value->Shared->Prop
structure Env0 (P:Program) (w:World) (K:Frag) (mg:Str->Option Value) (base:Heap) (A:Around) (outer:List Env) (s:Shared) (H:Hp):Prop where
 frames:A.frames=some outer
 mod:Mod K mg base
 bs:∀ b o,base.get? b=some o->s.heap.get? b=some o/\H b=none
 bsz:base.objs.size<=s.heap.objs.size
 funs:s.heap.FunFrames base outer
 frf:∀ b∈frs outer,H b=none
 tab:TabsOk K H
 hok:HOk P w H s.heap
 bare:AllBare s.gens
def CE (outer:List Env) (P:Program) (w:World) (H:Hp) (s:Shared) (Q:VK) (u:Value) (s':Shared):Prop :=
 ∃ v H',s'.os=s.os/\AllBare s'.gens/\Un (frs outer) [] H H' s.heap s'.heap/\HOk P w H' s'.heap/\RelV v u/\Q v H'
def CR (CX:CXT) (outer:List Env) (P:Program) (w:World) (H:Hp) (s:Shared) (Q:VK) (E:XK) (r:Result) (s':Shared):Prop :=
 match r with
 | .ok (.ret u)=>CE outer P w H s Q u s'
 | .ok _=>False
 | .error e=>CX outer H s E e s'
structure FnOk (P:Program) (w:World) (K:Frag) (mg:Str->Option Value) (base:Heap) (CX:CXT) (k:Nat) (f:Addr) (fd:FuncData) (ps:List Str) (sp:Sp):Prop where
 len:∀ vs H Q E,sp vs H Q E->vs.length=ps.length
 run:∀ (A:Around) (outer:List Env) (s:Shared) (H:Hp) (args:Args) (us:List Value) (vs:List V) (Q:VK) (E:XK),Room k A->Env0 P w K mg base A outer s H->BindsTo s fd args (ps.zip us)->Vals vs us->sp vs H Q E ->
  codeAny (model P w) A (.call (.ref f) args) (CR CX outer P w H s Q E) s
theorem FnOk.mono {P:Program} {w:World} {K:Frag} {mg:Str->Option Value} {base:Heap} {CX:CXT} {j k:Nat} {f:Addr} {fd:FuncData} {ps:List Str} {sp:Sp} (F:FnOk P w K mg base CX j f fd ps sp) (h:j<=k) :
  FnOk P w K mg base CX k f fd ps sp:=⟨F.len,fun A outer s H args us vs Q E a=>F.run A outer s H args us vs Q E (a.mono h)⟩
theorem FnOk.imp {P:Program} {w:World} {K:Frag} {mg:Str->Option Value} {base:Heap} {CX:CXT} {k:Nat} {f:Addr} {fd:FuncData} {ps:List Str} {sp a:Sp} (F:FnOk P w K mg base CX k f fd ps sp)
  (h:∀ vs H Q E,a vs H Q E->sp vs H Q E):FnOk P w K mg base CX k f fd ps a :=
 ⟨fun vs H Q E q=>F.len vs H Q E (h _ _ _ _ q),fun A outer s H args us vs Q E c b hb d g=>F.run A outer s H args us vs Q E c b hb d (h _ _ _ _ g)⟩
theorem Env0.in1 {P:Program} {w:World} {K:Frag} {mg:Str->Option Value} {base:Heap} {A:Around} {outer:List Env} {s:Shared} {H:Hp} (e:Env0 P w K mg base A outer s H) :
  Env0 P w K mg base A.in1 outer s H:=⟨e.frames,e.mod,e.bs,e.bsz,e.funs,e.frf,e.tab,e.hok,e.bare⟩
section
variable {X:Cx} {pins:List (Addr × Obj)} {σ:St} {H:Hp} {s s':Shared}
theorem Inv.env0 (I:Inv X pins σ H s):Env0 X.prog X.w X.K X.mg X.base X.A X.stack s H :=
 ⟨I.ok.frames,I.ok.mod,I.bs,aC9 I.ok.bsz I.sz,I.stack,I.stkFree,I.tab,I.hok,I.bare⟩
theorem Inv.after {Q:VK} {u:Value} (I:Inv X pins σ H s) (h:CE X.stack X.prog X.w H s Q u s'):EP X pins σ Q u s':=by
 obtain ⟨v,H',os,bare,un,hok,r,q⟩:=h
 obtain ⟨hh,g,d,t,os'⟩:=s'
 obtain rfl:os'=s.os:=os
 exact ⟨v,H',I.call (h':=hh) (g':=g) (d':=d) (t':=t) (ch:=[]) un hok bare (fun b z=>absurd z (by simp)),r,q⟩
end
def acw (sp:Sp) (dvs:List V) (E:XK) (t:TA):TE:=fun σ H Q=>t σ H fun vs H1=>sp (vs ++ dvs) H1 Q E
def Binds (K:Frag) (fd:FuncData) (ps:List Str) (ds:List Value):Prop :=
 ∀ (s:Shared) (us:List Value),K.In s.heap->(us ++ ds).length=ps.length->BindsTo s fd ⟨us,[]⟩ (ps.zip (us ++ ds))
theorem Binds.all {K:Frag} {fd:FuncData} {ps:List Str} (h:∀ us:List Value,us.length=ps.length->bindArgs fd ⟨us,[]⟩=pure (ps.zip us)):Binds K fd ps []:=fun s us _ a=>by
 rw [aE2] at a ⊢
 exact .of_eq (h us a)
def alh (CX:CXT) (X:Cx) (E:XK):Prop:=∀ (pins:List (Addr × Obj)) (σ:St) (H:Hp) (s:Shared) (e:Value) (s':Shared),Inv X pins σ H s->CX X.stack H s E e s'->X.xe e s'
section
variable {X:Cx} {CX:CXT} {k:Nat} {f C:Addr} {fd:FuncData} {ps:List Str} {sp:Sp} {dvs:List V} {ds:List Value} {E:XK} {x m:Str} {p pos apos:Pos} {e o:Expr} {es:List Expr} {ta:TE} {t:TA}
theorem axo {pins:List (Addr × Obj)} {σ:St} {H:Hp} {s:Shared} {Q:VK} {us:List Value} {vs:List V} (F:FnOk X.prog X.w X.K X.mg X.base CX k f fd ps sp) (g:Room k X.A) (hb:Binds X.K fd ps ds) (hd:Vals dvs ds) (d:alh CX X E)
  (I:Inv X pins σ H s) (r:Vals vs us) (h:sp (vs ++ dvs) H Q E):wpAny (model X.prog X.w) X.A (call (.ref f) us) (EP X pins σ Q) X.xe s:=by
 have b:Vals (vs ++ dvs) (us ++ ds):=r.append hd
 have c:(us ++ ds).length=ps.length:=by rw [← b.length];exact F.len _ _ _ _ h
 refine wpAny_call (codeAny_mono (F.run X.A X.stack s H ⟨us,[]⟩ (us ++ ds) (vs ++ dvs) Q E g I.env0 (hb s us I.kIn c) b h) fun r i a=>?_)
 cases r with
 | error e=>exact d pins σ H s e i I a
 | ok fl =>
  cases fl with
  | ret u=>exact I.after a
  | next=>exact False.elim a
  | brk=>exact False.elim a
  | cont=>exact False.elim a
theorem au0 (F:FnOk X.prog X.w X.K X.mg X.base CX k f fd ps sp) (l:Room k X.A) (d:Gl X x) (hm:X.mg x=some (.ref f)) (g:keepIn X.K (.ref f)=true) (hb:Binds X.K fd ps ds) (hd:Vals dvs ds) (j:alh CX X E)
  (ha:PA X (e :: es) t) (b:(x == ("__debug__" : Str))=false:=by decide) (i:starEach (e :: es) X.env=(false,eval e X.env) :: starEach es X.env:=by rfl) (a:(backTo pos (starEach es X.env)).any (·.1)=false:=by rfl) :
  PE X (.Call (.Name x p) (e :: es) [] pos) (acw sp dvs E t):=by
 intro pins s σ H Q I h
 refine wpAny_Call_Name_kw (anm I d hm ?_ b)
 refine PySem.W.callWith_K (h₀:=X.base) I.ok.mod.kin g (thn (ha pos pins s σ H _ I h) fun us s1 ⟨vs,m,c,r,q⟩=>⟨c.kIn,?_⟩) i a
 exact axo F l hb hd j c r q
end
section
variable {X:Cx} {CX:CXT} {k:Nat} {f C:Addr} {fd:FuncData} {ps ks:List Str} {sp:Sp} {E:XK} {x m:Str} {p pos apos kpos:Pos} {e o:Expr} {es:List Expr} {kws:List Keyword} {te ta:TE} {t tk:TA} {nm:Option Str}
variable {g:List Value->List Value->List Value} {gV:List V->List V->List V}
end
structure FnScope (N P:List Str) (sc:Scope):Prop where
 kind:sc.kind=.function
 co:sc.isCoroutine=false
 gen:sc.isGenerator=false
 nd:N.Nodup
 pre:N.take P.length=P
 par:∀ x∈P,sc.names.lookup x=some .local\/sc.names.lookup x=some .cell
 nofree:∀ y∈sc.names,y.2 ≠ .free
theorem ajv {kindOf:Str->Option NameKind} {x:Str}:∀ {binds:List (Str × Value)} {m:Str->Option Value},(∀ v,(x,v) ∉ binds)->bindL kindOf binds m x=m x
 | [],_,_=>rfl
 | (n,v) :: r,m,h=>by
  unfold bindL
  rw [ajv fun w a=>h w (aB4 _ a)]
  split
  ·have:x ≠ n:=by rintro rfl;exact h v aB7
   simp [this]
  ·rfl
theorem ajw {kindOf:Str->Option NameKind} {x:Str}:∀ {binds:List (Str × Value)} {m:Str->Option Value},(∀ v,(x,v) ∉ binds)->bindC kindOf binds m x=m x
 | [],_,_=>rfl
 | (n,v) :: r,m,h=>by
  unfold bindC
  rw [ajw fun w a=>h w (aB4 _ a)]
  split
  ·rfl
  ·have:x ≠ n:=by rintro rfl;exact h v aB7
   simp [this]
theorem ajx {kindOf:Str->Option NameKind} {x:Str} {v:Value}:∀ {P:List Str} {vs:List Value} {i:Nat} {m:Str->Option Value},P.Nodup->P[i]?=some x->vs[i]?=some v->kindOf x=some .local ->
  bindL kindOf (P.zip vs) m x=some v
 | [],_,_,_,_,h,_,_=>by simp at h
 | _ :: _,[],_,_,_,_,h,_=>by simp at h
 | p :: P,w :: vs,0,m,nd,h1,h2,hk=>by
  simp at h1 h2;subst h1;subst h2
  show bindL kindOf ((p,w) :: P.zip vs) m p=_
  unfold bindL
  rw [ajv fun v a=>(aH5.mp nd).1 (List.of_mem_zip a).1,aE5 hk]
  simp
 | p :: P,w :: vs,i+1,m,nd,h1,h2,hk=>by
  show bindL kindOf ((p,w) :: P.zip vs) m x=_
  unfold bindL
  exact ajx (i:=i) (aH5.mp nd).2 (by simpa using h1) (by simpa using h2) hk
theorem ajy {kindOf:Str->Option NameKind} {x:Str} {v:Value}:∀ {P:List Str} {vs:List Value} {i:Nat} {m:Str->Option Value},P.Nodup->P[i]?=some x->vs[i]?=some v->kindOf x ≠ some .local ->
  bindC kindOf (P.zip vs) m x=some v
 | [],_,_,_,_,h,_,_=>by simp at h
 | _ :: _,[],_,_,_,_,h,_=>by simp at h
 | p :: P,w :: vs,0,m,nd,h1,h2,hk=>by
  simp at h1 h2;subst h1;subst h2
  show bindC kindOf ((p,w) :: P.zip vs) m p=_
  unfold bindC
  rw [ajw fun v a=>(aH5.mp nd).1 (List.of_mem_zip a).1,aE6 hk]
  simp
 | p :: P,w :: vs,i+1,m,nd,h1,h2,hk=>by
  show bindC kindOf ((p,w) :: P.zip vs) m x=_
  unfold bindC
  exact ajy (i:=i) (aH5.mp nd).2 (by simpa using h1) (by simpa using h2) hk
def start (N:List Str) (vs:List V):St:=vs.map some ++ List.replicate (N.length - vs.length) none
def cxOf (CX:CXT) (P:Program) (w:World) (K:Frag) (mg:Str->Option Value) (base:Heap) (N:List Str) (qual:Str) (scope:Scope) (f:Addr) (cd:Value) (A:Around) (outer:List Env) (s:Shared) (H:Hp) (E:XK):Cx where
 prog:=P
 w:=w
 K:=K
 mg:=mg
 base:=base
 A:=A.deeper (envOfC qual scope s.heap.objs.size f cd)
 N:=N
 s₀:=s
 H₀:=H
 env:=envOfC qual scope s.heap.objs.size f cd
 outer:=outer
 stack:=envOfC qual scope s.heap.objs.size f cd :: outer
 ex:=[]
 calm:=true
 fn:=fun _=>true
 pn:=[]
 xe:=fun e s'=>wpAny (model P w) (A.deeper (envOfC qual scope s.heap.objs.size f cd)) (leaving (envOfC qual scope s.heap.objs.size f cd) e) (fun _ s''=>CX outer H s E e s'') (fun e' s''=>CX outer H s E e' s'') s'
theorem ali {sc:Scope} {n:Nat} {x:Str} (h:sc.names.lookup x=some .cell):∃ c,(cellsFrom n sc.names []).lookup x=some c:=by
 have q:=PySem.W.cellsFrom_some sc.names n [] (.inl h)
 exact Option.isSome_iff_exists.mp q
theorem ap4 {CX:CXT} {P:Program} {w:World} {K:Frag} {mg:Str->Option Value} {base:Heap} {N ps:List Str} {qual:Str} {scope:Scope} {f:Addr} {B:Value} {A:Around} {outer:List Env} {s s1:Shared} {H:Hp} {E:XK} {us:List Value} {vs:List V}
  (S:FnScope N ps scope) (hd:A.handled=none) (g:Env0 P w K mg base A outer s H) (L:vs.length=ps.length) (r:Vals vs us)
  (x:InCallC s s.heap.objs.size (bindL (envOfC qual scope s.heap.objs.size f B).kindOf (ps.zip us) fun _=>none) (cellsFrom (s.heap.objs.size+1) scope.names []) (bindC (envOfC qual scope s.heap.objs.size f B).kindOf (ps.zip us) fun _=>none) s1) :
  Inv (cxOf CX P w K mg base N qual scope f B A outer s H E) [] (start N vs) H s1:=by
 have I:ps.length<=N.length:=by have:=congrArg List.length S.pre;rw [aG0] at this;omega
 obtain ⟨C,J,rfl,D⟩:=x.done
 have l:∀ b:Addr,b ∉ (cxOf CX P w K mg base N qual scope f B A outer s H E).ex:=fun b z=>absurd (show b∈([]:List Addr) from z) (by simp)
 refine ⟨⟨g.mod,S.kind,rfl,rfl,aA6 _,fun y z c C d=>?_,fun y j=>?_,fun y c _ h=>?_,fun _=>hd,Around.frames_deeper g.frames,.inr ⟨rfl,rfl⟩,fun b z=>absurd z (l b),g.bs,g.bsz,fun b _ _=>l b,fun b z=>absurd z (l b),g.funs,g.frf,g.tab⟩,
  rfl,g.bare,Un.kept D,⟨_,x.toInCall.ns,fun i y v C d M=>?_⟩,fun y c h=>⟨_,x.cell y c h⟩,g.hok.fresh (aA6 _),fun y c h=>?_,fun p o=>absurd (show p∈([]:List (Addr × Obj)) from o) (by simp),g.hok.kept D,?_⟩
 ·exact name_of_addr x.apart (PySem.mem_of_lookup C) (PySem.mem_of_lookup d)
 ·have j:scope.names.lookup y=some .cell\/scope.names.lookup y=some .free:=j
  rcases j with j | j
  ·exact ali j
  ·exact absurd rfl (S.nofree _ (PySem.mem_of_lookup j))
 ·exact aF5 (x.above y c (PySem.mem_of_lookup h))
 ·have hi:i < vs.length:=by
   unfold start at d
   by_cases hi:i < vs.length
   ·exact hi
   ·rw [aC7 (by simpa using hi)] at d
    rw [aG7] at d
    split at d <;> cases d
  have ha:vs[i]?=some v:=by
   unfold start at d
   rw [aC2 (by simpa using hi),aA5] at d
   cases e:vs[i]? with
   | none=>rw [e] at d;cases d
   | some a=>rw [e] at d;cases d;rfl
  obtain ⟨u,F,G⟩:=r.get ha
  have o:ps[i]?=some y:=by
   rw [← S.pre,aG5 (by omega)];exact C
  have m:ps.Nodup:=by rw [← S.pre];exact S.nd.sublist (List.take_sublist _ _)
  refine ⟨u,G,?_⟩
  rcases S.par y (aA2 o) with k | k
  ·exact .inl ⟨k,ajx m o F k⟩
  ·obtain ⟨c,e⟩:=ali (n:=s.heap.objs.size+1) k
   refine .inr ⟨.inl k,c,e,?_⟩
   have q:=x.cell y c e
   rw [ajy m o F (by show scope.names.lookup y ≠ _;rw [k];decide)] at q
   exact q
 ·exact g.hok.fresh (aF5 (x.above y c (PySem.mem_of_lookup h)))
 ·unfold start
  show _=N.length
  rw [aB0,aA3,List.length_replicate]
  omega
theorem aud {CX:CXT} {P:Program} {w:World} {K:Frag} {mg:Str->Option Value} {base:Heap} {k:Nat} {f:Addr} {name qual:Str} {a:Arguments} {body:List Stmt} {scope:Scope} {D kV doc pm cdv ct oc:Value} {an od:Option Addr}
  {osl:Array (Option Value)} {N ps:List Str} {sp:Sp} (R:K.lookup f=some ⟨oc,od,.func (fnOf name qual a body scope D kV doc pm an cdv ct),osl⟩) (l:codeIn K cdv qual=true) (S:FnScope N ps scope)
  (len:∀ vs H Q E,sp vs H Q E->vs.length=ps.length)
  (g:∀ (A:Around) (outer:List Env) (s:Shared) (H:Hp) (vs:List V) (Q:VK) (E:XK),Room k (A.deeper (envOfC qual scope s.heap.objs.size f cdv))->sp vs H Q E ->
   ∃ t,PSs (cxOf CX P w K mg base N qual scope f cdv A outer s H E) body t/\t { nx:=fun _ H'=>Q .non H',rt:=Q } (start N vs) H) :
  FnOk P w K mg base CX (k+1) f (fnOf name qual a body scope D kV doc pm an cdv ct) ps sp:=by
 refine ⟨len,fun A outer s H args us vs Q E m j hb r i=>?_⟩
 have L:=len _ _ _ _ i
 have C:K.In s.heap:=j.mod.kin.keeps fun b o e=>(j.bs b o e).1
 have B:s.heap.NoLimit:=j.mod.nolimit.keeps fun b o e=>(j.bs b o e).1
 have d:∀ y∈ps.zip us,scope.names.lookup y.1=some .local\/(scope.names.lookup y.1=some .cell/\((cellsFrom (s.heap.objs.size+1) scope.names []).lookup y.1).isSome=true):=fun ⟨n,v⟩ T=>by
  rcases S.par n (List.of_mem_zip T).1 with q | q
  ·exact .inl q
  ·exact .inr ⟨q,PySem.W.cellsFrom_some _ _ _ (.inl q)⟩
 refine codeAny_call_function m.depth (C _ _ R) rfl S.co S.gen rfl (PySem.W.codeRec_of C l) (hb _ _ _ _ ?_)
 refine wpAny_newFunctionEnv_cells S.kind d fun env O s1 x=>?_
 subst O
 refine ⟨B.keeps x.toInCall.keep,codeAny_func ?_⟩
 obtain ⟨t,G,F⟩:=g A outer s H vs Q E (m.deeper _) i
 have I:Inv (cxOf CX P w K mg base N qual scope f cdv A outer s H E) [] (start N vs) H s1:=ap4 S m.hd j L r x
 refine aI6 (G [] s1 (start N vs) H _ I F) (fun M z h=>?_) fun e z h=>h
 have fin:∀ {c:St} {H':Hp} {v:V} {u:Value},Inv (cxOf CX P w K mg base N qual scope f cdv A outer s H E) [] c H' z->RelV v u->Q v H'->CE outer P w H s Q u z :=
  fun {c H' v u} J p q=>⟨v,H',J.os,J.bare,J.base,J.hok,p,q⟩
 cases M with
 | ret u =>
  obtain ⟨v,c,H',J,p,q⟩:=h
  exact fin J p q
 | next =>
  obtain ⟨c,H',J,q⟩:=h
  exact fin (v:=V.non) (u:=Value.none) J rfl q
 | brk =>
  obtain ⟨_,_,_,q⟩:=h
  exact False.elim q
 | cont =>
  obtain ⟨_,_,_,q⟩:=h
  exact False.elim q
section
variable {X:Cx} {x:Str} {p pos:Pos} {e:Expr} {es:List Expr} {t:TA} {id T:String} {r:List V->Hp->VK->Prop}
def tCB (r:List V->Hp->VK->Prop) (t:TA):TE:=fun σ H Q=>t σ H fun vs H1=>r vs H1 Q
theorem aaw (c:abk X (.builtin id) r) (d:Gl X x) (hm:X.mg x=none) (l:bootBuiltins x=some (.builtin id)) (ha:PA X (e :: es) t) (hn:x ≠ "__name__":=by decide) (b:(x == ("__debug__" : Str))=false:=by decide)
  (i:starEach (e :: es) X.env=(false,eval e X.env) :: starEach es X.env:=by rfl) (a:(backTo pos (starEach es X.env)).any (·.1)=false:=by rfl):PE X (.Call (.Name x p) (e :: es) [] pos) (tCB r t):=by
 intro pins s σ H Q I h
 refine wpAny_Call_Name_kw (acs I d hm l ?_ hn b)
 exact PyProof.Rows.callWith_builtin1 (thn (ha pos pins s σ H _ I h) fun us s1 ⟨vs,f,j,m,g⟩=>c pins s1 σ f vs us Q j m g) i a
theorem aem (c:abk X (.type T) r) (d:Gl X x) (hm:X.mg x=none) (l:bootBuiltins x=some (.type T)) (ha:PA X (e :: es) t) (hn:x ≠ "__name__":=by decide) (b:(x == ("__debug__" : Str))=false:=by decide)
  (i:starEach (e :: es) X.env=(false,eval e X.env) :: starEach es X.env:=by rfl) (a:(backTo pos (starEach es X.env)).any (·.1)=false:=by rfl):PE X (.Call (.Name x p) (e :: es) [] pos) (tCB r t):=by
 intro pins s σ H Q I h
 refine wpAny_Call_Name_kw (acs I d hm l ?_ hn b)
 exact PyProof.Rows.callWith_type1 (thn (ha pos pins s σ H _ I h) fun us s1 ⟨vs,f,j,m,g⟩=>c pins s1 σ f vs us Q j m g) i a
end
end L2
namespace HT
open PySem PyProof.Rows
def lexLt:List Int->List Int->Bool
 | [],[]=>false
 | [],_ :: _=>true
 | _ :: _,[]=>false
 | x :: xs,y :: ys=>if x=y then lexLt xs ys else decide (x < y)
theorem afl (x y:Int) (xs ys:List Int):lexLt (x :: xs) (y :: ys)=if x=y then lexLt xs ys else decide (x < y):=rfl
section
open PySem.SeqAt
open PySem.AutoSeq1 (wpAny_loadPart')
open PySem.MeetsSeq PySem.MeetsSeq2 PySem.MeetsSeq3
end
section
variable {prog:Program} {w:World} {A:Around} {E:Value->Shared->Prop} {s:Shared}
def sIx (n d:Nat):Option Int->Nat
 | none=>d
 | some v=>if v < 0 then (v+(n:Int)).toNat else min v.toNat n
theorem sIx_none (n d:Nat):sIx n d none=d:=rfl
theorem sIx_nat (n d k:Nat):sIx n d (some (k:Int))=min k n:=by
 show (if (k:Int) < 0 then ((k:Int)+(n:Int)).toNat else min (k:Int).toNat n)=min k n
 rw [aE6 (by omega),Int.toNat_natCast]
end
end HT
namespace L2
open PySem PySem.Spec PyProof.Rows
abbrev TO:=St->Hp->(Option Int->Hp->Prop)->Prop
def PO (X:Cx) (e:Option Expr) (t:TO):Prop :=
 ∀ (pins:List (Addr × Obj)) (s:Shared) (σ:St) (H:Hp) (Q:Option Int->Hp->Prop),Inv X pins σ H s->t σ H Q ->
  wpAny (model X.prog X.w) X.A (evalPart e X.env) (fun u s'=>∃ o H',Inv X pins σ H' s'/\IsPart u o/\Q o H') X.xe s
def anp:TO:=fun _ H Q=>Q none H
def aue (t:TE):TO:=fun σ H Q=>t σ H fun x H1=>∃ i,x=.int i/\Q (some i) H1
theorem adx {ns:List Int}:∀ {us:List Value},Vals (ns.map V.int) us->IntsAre us ns:=by
 induction ns with
 | nil=>intro us r;rw [List.map_nil] at r;cases r;exact .nil
 | cons n ns ih =>
  intro us r
  rw [aD0] at r
  cases r with
  | cons r1 r2 =>
   obtain ⟨t,e⟩:=r1
   subst e
   exact .cons n t (ih r2)
section
variable {X:Cx} {e:Expr} {te:TE} {lo hi:Option Expr} {tl th:TO} {pos p2:Pos}
theorem ai6:PO X none anp:=by
 intro pins s σ H Q I h
 rw [evalPart_none]
 exact aI0 ⟨none,H,I,.none,h⟩
theorem ai7 (h:PE X e te):PO X (some e) (aue te):=by
 intro pins s σ H Q I d
 rw [evalPart_some]
 refine thn (h pins s σ H _ I d) fun u s1 ⟨x,a,c,f,b⟩=>?_
 obtain ⟨i,rfl,q⟩:=b
 obtain ⟨t,rfl⟩:=f
 exact ⟨some i,a,c,.int i t,q⟩
def SlR (X:Cx) (r:V->Option Int->Option Int->Hp->VK->Prop):Prop :=
 ∀ (pins:List (Addr × Obj)) (s:Shared) (σ:St) (H:Hp) (x:V) (v vl vu:Value) (lo hi:Option Int) (sl:Addr) (Q:VK),Inv X pins σ H s->RelV x v->s.heap.IsSliceOf sl vl vu .none->IsPart vl lo->IsPart vu hi->r x lo hi H Q ->
  ∃ T id,typeLookup (.type T) "__getitem__" = pure (some (.builtin id))/\s.TypeIs v T/\wpAny (model X.prog X.w) X.A (getItem v (.ref sl)) (EP X pins σ Q) X.xe s
def tSl (r:V->Option Int->Option Int->Hp->VK->Prop) (te:TE) (tl th:TO):TE:=fun σ H Q=>te σ H fun x H1=>tl σ H1 fun l H2=>th σ H2 fun u H3=>r x l u H3 Q
theorem ahb {r:V->Option Int->Option Int->Hp->VK->Prop} (z:SlR X r) (o:PE X e te) (g:PO X lo tl) (G:PO X hi th):PE X (.Subscript e (.Slice lo hi none p2) pos) (tSl r te tl th):=by
 intro pins s σ H Q I h
 refine Subscript_ (thn (o pins s σ H _ I h) fun v s1 ⟨x,m,C,J,n⟩=>?_)
 refine wpAny_Slice (thn (g pins s1 σ m _ C n) fun c s2 ⟨l,H2,p,pl,F⟩=>thn (G pins s2 σ H2 _ p F) fun d a ⟨u,H3,f,D,E⟩=>?_)
 rw [evalPart_none]
 refine aI0 ?_
 have B:Inv X pins σ H3 { a with heap:=a.heap.push { cls:=.type "slice",data:=.fields #[c,d,.none] } }:=f.kept (t':=a.toks) fun b K q=>aI1 _ q
 obtain ⟨T,id,y,i,j⟩:=z pins { a with heap:=a.heap.push { cls:=.type "slice",data:=.fields #[c,d,.none] } } σ H3 x v c d l u a.heap.objs.size Q B J (Heap.IsSliceOf.new ..) pl D E
 show wpAny (model X.prog X.w) X.A (subscriptTail e (.Slice lo hi none p2) v (.ref a.heap.objs.size)) (EP X pins σ Q) X.xe { a with heap:=a.heap.push { cls:=.type "slice",data:=.fields #[c,d,.none] } }
 exact tail_any (ops:=[.ref a.heap.objs.size,v]) i y j (by with_unfolding_all rfl)
def cutV (xs:List V) (lo hi:Option Int):List V:=(xs.drop (HT.sIx xs.length 0 lo)).take (HT.sIx xs.length xs.length hi - HT.sIx xs.length 0 lo)
theorem am7 (xs:List V) (lo hi:Option Int):(cutV xs lo hi).length<=xs.length:=by
 unfold cutV
 rw [aG0,aH7]
 omega
end
def ixN (n:Nat) (i:Int):Option Nat:=if 0<=i then (if i < n then some i.toNat else none) else if -(n:Int)<=i then some (i+n).toNat else none
def atI {α:Type} (xs:List α) (i:Int):Option α:=(ixN xs.length i).bind fun j=>xs[j]?
theorem anq {n:Nat} {i:Int} {j:Nat} (h:ixN n i=some j):seqIndex? i n=some j/\j < n/\-(n:Int)<=i/\i < n:=by
 unfold ixN at h
 by_cases h0:0<=i
 ·rw [aE5 h0] at h
  by_cases h1:i < n
  ·rw [aE5 h1] at h
   have e:i.toNat=j:=aC5 h
   exact ⟨by rw [seqIndex_of h0 h1,e],by omega,by omega,h1⟩
  ·rw [aE6 h1] at h;cases h
 ·rw [aE6 h0] at h
  by_cases h1 : -(n:Int)<=i
  ·rw [aE5 h1] at h
   have e:(i+n).toNat=j:=aC5 h
   exact ⟨by rw [seqIndex_neg (by omega) h1,e],by omega,h1,by omega⟩
  ·rw [aE6 h1] at h;cases h
theorem anr {α:Type} {xs:List α} {i:Int} {v : α} (h:atI xs i=some v):∃ j,seqIndex? i xs.length=some j/\xs[j]?=some v/\j < xs.length/\-(xs.length:Int)<=i/\i < xs.length:=by
 unfold atI at h
 cases e:ixN xs.length i with
 | none=>rw [e] at h;cases h
 | some j =>
  rw [e] at h
  obtain ⟨c,b,a,d⟩:=anq e
  exact ⟨j,c,h,b,a,d⟩
theorem ad5 {α:Type} {xs:List α} {j:Nat} {v : α} (h:xs[j]?=some v):atI xs (j:Int)=some v:=by
 have hj:j < xs.length:=(aA1.mp h).1
 have e:ixN xs.length (j:Int)=some j:=by
  unfold ixN
  rw [aE5 (by omega),aE5 (by omega)];simp
 unfold atI;rw [e];exact h
def au1 (b:Expr):Prop:=∀ o i,subscripted b false o i=operate [o,i] (getItem o i)
def IxR (X:Cx) (r:R2):Prop :=
 ∀ (value slice:Expr) (pins:List (Addr × Obj)) (s:Shared) (σ:St) (H:Hp) (x y:V) (v u:Value) (Q:VK),Inv X pins σ H s->RelV x v->RelV y u->r x y H Q ->
  subscripted slice false v u=operate [v,u] (getItem v u)->wpAny (model X.prog X.w) X.A (subscriptTail value slice v u) (EP X pins σ Q) X.xe s
def MtR (X:Cx) (id:String) (r:V->List V->Hp->VK->Prop):Prop :=
 ∀ (pins:List (Addr × Obj)) (s:Shared) (σ:St) (H:Hp) (x:V) (xs:List V) (v:Value) (us:List Value) (Q:VK),Inv X pins σ H s->RelV x v->Vals xs us->r x xs H Q ->
  wpAny (model X.prog X.w) X.A (call (.builtin id) (v :: us)) (EP X pins σ Q) X.xe s
section
variable {X:Cx} {a b:Expr} {ta tb:TE} {pos:Pos}
theorem IxR.or {r d:R2} (h:IxR X r) (h':IxR X d):IxR X (fun x y H Q=>r x y H Q\/d x y H Q):=by
 intro b a pins s σ H x y v u Q I f c q g
 rcases q with q | q
 ·exact h b a pins s σ H x y v u Q I f c q g
 ·exact h' b a pins s σ H x y v u Q I f c q g
theorem aao {r:R2} (g:IxR X r) (ha:PE X a ta) (hb:PE X b tb) (i:au1 b):PE X (.Subscript a b pos) (tOp r ta tb):=by
 intro pins s σ H Q I h
 exact Subscript_ (binT ha hb I h fun v u s2 x y H2 d f c q=>g a b pins s2 σ H2 x y v u Q d f c q (i _ _))
def rIxL (K:Frag):R2:=fun x y H Q=>∃ p xs i v,x=.ref p/\y=.int i/\SqL K H p xs/\atI xs i=some v/\Q v H
def rIxT (K:Frag):R2:=fun x y H Q=>∃ p xs i v,x=.ref p/\y=.int i/\SqT K H p xs/\atI xs i=some v/\Q v H
theorem ix_list:IxR X (rIxL X.K):=by
 intro c b pins s σ H x y v u Q I C B h f
 obtain ⟨p,xs,i,z,rfl,rfl,m,A,q⟩:=h
 cases C
 obtain ⟨t,rfl⟩:=B
 obtain ⟨its,r,pl,F⟩:=I.list m
 obtain ⟨j,a,D,G,o,l⟩:=anr A
 obtain ⟨w,g,d⟩:=r.get D
 have n:=r.length
 have hn:=af0
 have fin:EP X pins σ Q w s:=⟨z,H,I,d,q⟩
 by_cases h0:0<=i
 ·have hj:i.toNat=j:=by
   rw [seqIndex_of h0 l] at a
   exact aC5 a
  exact item_listR pl.isList h0 (by omega) (by rw [hj];simpa using g) fin f
 ·have hj:(i+(its.toArray.size:Int)).toNat=j:=by
   rw [seqIndex_neg (by omega) o] at a
   rw [aB1,← n]
   exact aC5 a
  exact subscriptTail_builtinR (x:=w) pl.isList.typeIs slot_list_getitem.lookup
   (wpAny_getItem_list_neg (Q:=fun r E=>r=w/\EP X pins σ Q r E) pl.isList (by omega) (by rw [aB1] <;> omega) (by omega) (by rw [hj];simpa using g) ⟨rfl,fin⟩) f
theorem axp:IxR X (rIxT X.K):=by
 intro b a pins s σ H x y v u Q I m l h B
 obtain ⟨p,xs,i,z,rfl,rfl,d,g,q⟩:=h
 cases m
 obtain ⟨t,rfl⟩:=l
 obtain ⟨its,r,pl,F⟩:=I.tuple d
 obtain ⟨j,o,n,G,E,D⟩:=anr g
 obtain ⟨w,C,c⟩:=r.get n
 have f:=r.length
 have hn:=af0
 have fin:EP X pins σ Q w s:=⟨z,H,I,c,q⟩
 exact subscriptTail_builtinR (x:=w) pl.typeIs slot_tuple_getitem.lookup
  (getItem_tuple (j:=j) (Q:=fun r A=>r=w/\EP X pins σ Q r A) pl (by omega) (by omega) (by rw [aB1,← f];exact o) (by simpa using C) ⟨rfl,fin⟩) B
theorem aow (its:List Value) (n j:Nat) (u:Value):Obj.mapSeq (·.setIfInBounds j u) { cls:=.type "list",data:=.seq its.toArray n }={ cls:=.type "list",data:=.seq (its.set j u).toArray n }:=by
 simp [Obj.mapSeq]
theorem Inv.lst {pins:List (Addr × Obj)} {σ:St} {H:Hp} {s:Shared} {p:Addr} {xs:List V} (I:Inv X pins σ H s) (h:H p=some (.lst xs)) :
  ∃ (its:List Value) (n:Nat),Vals xs its/\s.heap.get? p=some { cls:=.type "list",data:=.seq its.toArray n }/\xs.length<=sizeLine:=by
 obtain ⟨z,its,n,r,e⟩:=I.hok p _ h
 exact ⟨its,n,r,e,z⟩
theorem Inv.lstUpd {pins:List (Addr × Obj)} {σ:St} {H:Hp} {s:Shared} {p:Addr} {xs ys:List V} {its its':List Value} {n a:Nat} {f:Obj->Obj} (I:Inv X pins σ H s) (h:H p=some (.lst xs))
  (c:s.heap.get? p=some { cls:=.type "list",data:=.seq its.toArray n }) (hf:f { cls:=.type "list",data:=.seq its.toArray n }={ cls:=.type "list",data:=.seq its'.toArray a }) (r:Vals ys its') (d:ys.length<=sizeLine) (t:Nat) :
  Inv X pins σ (upd H p (.lst ys)) { s with heap:=s.heap.update p f,toks:=t }:=by
 have e:(s.heap.update p f).get? p=some { cls:=.type "list",data:=.seq its'.toArray a }:=by
  rw [Heap.get?_update_self f c (by rw [hf] <;> rfl),hf]
 refine I.write (x:=p) (e:=p) (by rw [h];trivial) (.inl rfl) (fun b u hb q=>(Heap.get?_update_other _ _ (Ne.symm hb)).trans q) ⟨_,e⟩ ?_
 exact ⟨d,its',a,r,e⟩
def aox:V->V->V->Hp->(Hp->Prop)->Prop:=fun o i v H Q=>∃ p xs k j,o=.ref p/\i=.int k/\H p=some (.lst xs)/\ixN xs.length k=some j/\Q (upd H p (.lst (xs.set j v)))
theorem afm:PSet X aox:=by
 intro pins s σ H o i v A B u Q I w x z h
 obtain ⟨p,xs,k,j,rfl,rfl,g,hj,q⟩:=h
 cases w
 obtain ⟨t,rfl⟩:=x
 obtain ⟨its,n,r,d,y⟩:=I.lst g
 obtain ⟨a,C,m,f⟩:=anq hj
 have b:=r.length
 have hn:=af0
 have l:Inv X pins σ (upd H p (.lst (xs.set j v))) { s with heap:=s.heap.update p (Obj.mapSeq (·.setIfInBounds j u)) } :=
  I.lstUpd g d (aow its n j u) (r.set z j) (by rw [List.length_set];exact y) s.toks
 by_cases h0:0<=k
 ·have c:k.toNat=j:=by
   rw [seqIndex_of h0 f] at a
   exact aC5 a
  exact PySem.W.ki_setAt d h0 (by omega) (by rw [aB1,← b];exact f) (by rw [c];exact ⟨_,l,q⟩)
 ·have c:(k+(its.toArray.size:Int)).toNat=j:=by
   rw [seqIndex_neg (by omega) m] at a
   rw [aB1,← b]
   exact aC5 a
  exact PySem.W.ki_setBack d (by omega) (by rw [aB1,← b];exact m) (by omega) (by rw [c];exact ⟨_,l,q⟩)
theorem alj (lo hi:Option Int) (n:Nat):(sliceBounds lo hi none n).1=((HT.sIx n 0 lo:Nat):Int)/\(sliceBounds lo hi none n).2.1=((HT.sIx n n hi:Nat):Int)/\(sliceBounds lo hi none n).2.2=1:=by
 refine ⟨?_,?_,rfl⟩
 ·cases lo with
  | none=>simp [sliceBounds,HT.sIx]
  | some i =>
   simp only [sliceBounds,HT.sIx,Option.getD_none,show (1:Int) > 0 by decide,if_true]
   by_cases h:i < 0
   ·simp only [h,if_true] <;> omega
   ·simp only [h,if_false] <;> omega
 ·cases hi with
  | none=>simp [sliceBounds,HT.sIx]
  | some i =>
   simp only [sliceBounds,HT.sIx,Option.getD_none,show (1:Int) > 0 by decide,if_true]
   by_cases h:i < 0
   ·simp only [h,if_true] <;> omega
   ·simp only [h,if_false] <;> omega
theorem akg (its:List Value) (lo hi:Option Int):slicePick its.toArray lo hi none=((its.drop (HT.sIx its.length 0 lo)).take (HT.sIx its.length its.length hi - HT.sIx its.length 0 lo)).toArray:=by
 obtain ⟨b,a,c⟩:=alj lo hi its.toArray.size
 unfold slicePick
 rw [b,a,c]
 simp only [sliceRange_one,pick_run,aB1] <;> rfl
def rSlL (K:Frag):V->Option Int->Option Int->Hp->VK->Prop:=fun x lo hi H Q=>∃ a xs,x=.ref a/\SqL K H a xs/\∀ p,H p=none->Q (.ref p) (upd H p (.lst (cutV xs lo hi)))
theorem ai8:SlR X (rSlL X.K):=by
 intro pins s σ H x v m n lo hi sl Q I g l pl j h
 obtain ⟨a,xs,rfl,f,q⟩:=h
 cases g
 obtain ⟨its,r,d,i⟩:=I.list f
 have c:=r.length
 refine ⟨"list",_,slot_list_getitem.lookup,d.isList.typeIs,?_⟩
 refine wpAny_getItem_list_slice d.isList l pl j .none (by simp) ?_ (by rw [aB1] <;> omega)
 rw [akg,← c]
 refine ⟨.ref s.heap.objs.size,_,I.laid (t':=s.toks) (o:=.lst (cutV xs lo hi)) (fun b p q=>aI1 _ q) (aA6 _) ?_,rfl,q _ (I.hok.fresh (aA6 _))⟩
 exact ⟨aC9 (am7 xs lo hi) i,_,0,(r.drop (HT.sIx xs.length 0 lo)).take (HT.sIx xs.length xs.length hi - HT.sIx xs.length 0 lo),aI3 _ rfl⟩
theorem alk:abk X (.builtin "len") (fun xs H Q=>∃ p ys,xs=[.ref p]/\(SqL X.K H p ys\/SqT X.K H p ys)/\Q (.int ys.length) H):=by
 intro pins s σ H xs us Q I r h
 obtain ⟨p,ys,rfl,b,q⟩:=h
 obtain ⟨u,rfl,d⟩:=ac0 r
 cases d
 have hn:=af0
 rcases b with b | b
 ·obtain ⟨its,c,pl,f⟩:=I.list b
  have a:=c.length
  exact Calls.call_len_list pl.isList (by simp only [aB1] <;> omega) ⟨.int ys.length,H,I.tok _,⟨s.toks+1,by rw [aB1,a]⟩,q⟩
 ·obtain ⟨its,c,pl,f⟩:=I.tuple b
  have a:=c.length
  exact len_tuple pl (by simp only [aB1] <;> omega) ⟨.int ys.length,H,I.tok _,⟨s.toks+1,by rw [aB1,a]⟩,q⟩
theorem alm:abk X (.type "list") (fun xs H Q=>∃ p ys,xs=[.ref p]/\(SqL X.K H p ys\/SqT X.K H p ys)/\∀ l,H l=none->Q (.ref l) (upd H l (.lst ys))):=by
 intro pins s σ H xs us Q I r h
 obtain ⟨p,ys,rfl,d,q⟩:=h
 obtain ⟨u,rfl,m⟩:=ac0 r
 cases m
 have fin:∀ (its:List Value),Vals ys its->ys.length<=sizeLine->∀ (h':Heap) (c:Nat),(∀ b o',s.heap.get? b=some o'->h'.get? b=some o') ->
   h'.get? s.heap.objs.size=some { cls:=.type "list",dict:=none,data:=.seq its.toArray c,slots:=#[] }->EP X pins σ Q (.ref s.heap.objs.size) { s with heap:=h' }:=fun its a f h' c kp e =>
  ⟨.ref s.heap.objs.size,_,I.laid (t':=s.toks) kp (aA6 _) (show ObjOk X.prog X.w _ h' _ (.lst ys) from ⟨f,its,c,a,e⟩),rfl,q _ (I.hok.fresh (aA6 _))⟩
 rcases d with d | d
 ·obtain ⟨its,a,pl,f⟩:=I.list d
  have g:=a.length
  obtain ⟨o,j,i,n,hd⟩:=pl.isList
  exact call_list_seq p (.inl rfl) j i hd (fun h' c kp e=>fin its a f h' c kp e) (by simp only [aB1] <;> omega)
 ·obtain ⟨its,a,pl,f⟩:=I.tuple d
  have g:=a.length
  obtain ⟨o,j,i,n,hd⟩:=pl
  exact call_list_seq p (.inr rfl) j i hd (fun h' c kp e=>fin its a f h' c kp e) (by simp only [aB1] <;> omega)
def tyV (K:Frag) (T:String) (x:V) (H:Hp):Prop:=match x with
 | .str _=>T = "str"
 | .int _=>T = "int"
 | .ref p=>(T = "list"/\∃ xs,SqL K H p xs)\/(T = "tuple"/\∃ o,K.lookup p=some o/\o.cls=.type "tuple"/\o.dict=none) ∨
   (T = "dict"/\((∃ kvs,H p=some (.dK kvs))\/∃ kvs,H p=some (.dT kvs)))\/(T = "set"/\∃ S n,H p=some (.set S n))
 | _=>False
theorem axq {pins:List (Addr × Obj)} {σ:St} {H:Hp} {s:Shared} {T:String} {x:V} {v:Value} (I:Inv X pins σ H s) (r:RelV x v) (ty:tyV X.K T x H) :
  s.TypeIs v T/\∀ a,v=.ref a->∃ d,s.heap.get? a=some d/\d.dict=none:=by
 cases x with
 | str z =>
  obtain ⟨t,rfl⟩:=r
  cases (show T = "str" from ty)
  exact ⟨typeIs_str s z t,fun _ e=>nomatch e⟩
 | int i =>
  obtain ⟨t,rfl⟩:=r
  cases (show T = "int" from ty)
  exact ⟨typeIs_int s i t,fun _ e=>nomatch e⟩
 | ref p =>
  cases r
  rcases ty with ⟨rfl,xs,f⟩ | ⟨rfl,o,b,g,hd⟩ | ⟨rfl,b⟩ | ⟨rfl,S,n,b⟩
  ·obtain ⟨its,_,pl,_⟩:=I.list f
   refine ⟨pl.isList.typeIs,fun a e=>?_⟩
   cases e
   obtain ⟨o,n,e,c,hd,_⟩:=pl
   exact ⟨o,e,hd⟩
  ·refine ⟨⟨o,I.kIn p o b,g⟩,fun a e=>?_⟩
   cases e
   exact ⟨o,I.kIn _ o b,hd⟩
  ·have z:∃ o,s.heap.get? p=some o/\o.ExactDict:=by
    rcases b with ⟨kvs,b⟩ | ⟨kvs,b⟩
    ·obtain ⟨_,_,_,_,o,_,_,e,ex,_⟩:=I.hok p _ b
     exact ⟨o,e,ex⟩
    ·obtain ⟨_,_,_,_,o,_,_,e,ex,_⟩:=I.hok p _ b
     exact ⟨o,e,ex⟩
   obtain ⟨o,e,ex⟩:=z
   refine ⟨⟨o,e,ex.1⟩,fun a e2=>?_⟩
   cases e2
   exact ⟨o,e,ex.2.1⟩
  ·obtain ⟨o,_,_,_,e,ex,_⟩:=I.hok p _ b
   refine ⟨⟨o,e,ex.1⟩,fun a e2=>?_⟩
   cases e2
   exact ⟨o,e,ex.2.1⟩
 | _=>exact False.elim ty
def tBM (K:Frag) (T:String) (r:V->List V->Hp->VK->Prop) (to:TE) (t:TA):TE:=fun σ H Q=>to σ H fun x H1=>tyV K T x H1/\t σ H1 fun xs H2=>r x xs H2 Q
variable {o e:Expr} {es:List Expr} {to:TE} {t:TA} {name:Str} {apos cpos:Pos} {T id:String} {r:V->List V->Hp->VK->Prop}
theorem abx (p:PlainAttrs T) (slot:Slot T name id) (g:typeOf (.builtin id)=pure (.type "method_descriptor")) (hm:MtR X id r) (u:PE X o to) (ha:PA X (e :: es) t)
  (c:attributeBase o name X.env (eval o X.env)=eval o X.env:=by rfl)
  (f:((backTo cpos (starEach (e :: es) X.env)).all (fun x => !x.1) && (backToKw cpos (keywordEach [] X.env)).all (fun x=>x.1.isSome)
   && decide ((e :: es).length+([]:List Keyword).length+(if ([]:List Keyword).isEmpty then 0 else 1) < 30))=true:=by rfl)
  (d:(apos.endLine == cpos.line)=true:=by rfl) (z:starEach (e :: es) X.env=(false,eval e X.env) :: starEach es X.env:=by rfl) (b:(backTo cpos (starEach es X.env)).any (·.1)=false:=by rfl) :
  PE X (.Call (.Attribute o name apos) (e :: es) [] cpos) (tBM X.K T r to t):=by
 intro pins s σ H Q I h
 refine wpAny_Call_method_late c f d rfl (thn (u pins s σ H _ I h) fun v s1 ⟨x,m,i,j,ty,n⟩=>?_)
 obtain ⟨y,w⟩:=axq i j ty
 refine ⟨T,id,p,slot,g,y,w,?_⟩
 have l:=ha cpos pins s1 σ m _ i n
 rw [z] at l ⊢
 refine Calls.callWith_builtin (by show (false || (backTo cpos (starEach es X.env)).any (·.1))=false;rw [b] <;> rfl) (Calls.evalArgs_plain ?_)
 exact thn l fun us s2 ⟨vs,H2,q,B,A⟩=>hm pins s2 σ H2 x vs v us Q q j B A
/- xs.append(e), list.index on a module's tuple .. are MtR facts of 06m -/
end
def MtM (X:Cx) (id:String) (r:V->List V->Hp->VK->Prop):Prop :=
 ∀ (pins:List (Addr × Obj)) (s:Shared) (σ:St) (H:Hp) (x:V) (xs:List V) (v:Value) (us:List Value) (Q:VK),Inv X pins σ H s->RelV x v->Vals xs us->r x xs H Q ->
  wpAny (model X.prog X.w) X.A (call (.builtin id) (v :: us)) (EP X pins σ Q) X.xe s
theorem Vals.one:∀ {x:V} {us:List Value},Vals [x] us->∃ u,us=[u]/\RelV x u
 | _,_,.cons r .nil=>⟨_,rfl,r⟩
theorem Vals.eraseIdx:∀ {xs:List V} {us:List Value} (i:Nat),Vals xs us->Vals (xs.eraseIdx i) (us.eraseIdx i)
 | _,_,_,.nil => .nil
 | _,_,0,.cons _ t=>t
 | _,_,i+1,.cons r t => .cons r (Vals.eraseIdx i t)
theorem Vals.rep {xs:List V} {us:List Value} (h:Vals xs us):∀ k:Nat,Vals (List.replicate k xs).flatten (List.replicate k us).flatten
 | 0 => .nil
 | k+1=>by
  rw [aG3,aG3,List.flatten_cons,List.flatten_cons]
  exact Vals.append h (Vals.rep h k)
theorem ajz {α:Type}:∀ (l:List α) (i:Nat),(l.eraseIdx i).length<=l.length
 | [],_=>aA6 _
 | _ :: _,0=>Nat.le_succ _
 | _ :: r,i+1=>Nat.succ_le_succ (ajz r i)
theorem aj0 (its:List Value):∀ (k:Nat) (a:List Value),
  List.foldl (fun b c=>b ++ c) a.toArray (List.replicate k its.toArray)=(a ++ (List.replicate k its).flatten).toArray
 | 0,a=>by simp
 | k+1,a=>by
  have e:a.toArray ++ its.toArray=(a ++ its).toArray:=by simp
  have e2:(a ++ its) ++ (List.replicate k its).flatten=a ++ (List.replicate (k+1) its).flatten:=by
   rw [aG3,List.flatten_cons,aB3]
  rw [← e2,← aj0 its k (a ++ its),← e,aG3,List.foldl_cons]
section
variable {X:Cx} {pins:List (Addr × Obj)} {σ:St} {H:Hp} {s:Shared} {l b:Addr} {xs ys zs:List V}
theorem Inv.lset {its its':List Value} {n:Nat} {f:Array Value->Array Value} {t':Nat} (I:Inv X pins σ H s) (c:H l=some (.lst xs))
  (e:s.heap.get? l=some { cls:=.type "list",data:=.seq its.toArray n }) (hf:f its.toArray=its'.toArray) (a:Vals ys its') (b:ys.length<=sizeLine) :
  Inv X pins σ (upd H l (.lst ys)) { s with heap:=s.heap.update l (Obj.mapSeq f),toks:=t' }:=by
 have q:=PySem.IsL.update e f
 rw [hf] at q
 refine I.write (x:=l) (e:=l) (by rw [c];exact trivial) (.inl rfl) (fun g u hb d=>(Heap.get?_update_other s.heap (Obj.mapSeq f) (Ne.symm hb)).trans d) ⟨_,q⟩ ?_
 exact ⟨b,its',_,a,q⟩
theorem Inv.lnew {its:List Value} {t':Nat} (I:Inv X pins σ H s) (a:Vals ys its) (b:ys.length<=sizeLine) :
  Inv X pins σ (upd H s.heap.objs.size (.lst ys)) { s with heap:=s.heap.push { cls:=.type "list",data:=.seq its.toArray },toks:=t' } :=
 I.laid (fun _ _ q=>aI1 _ q) (aA6 _) ⟨b,its,0,a,aI3 _ rfl⟩
theorem Inv.fresh (I:Inv X pins σ H s):H s.heap.objs.size=none:=I.hok.fresh (aA6 _)
theorem Inv.lstM (I:Inv X pins σ H s) (a:H l=some (.lst xs)):xs.length<=sizeLine/\∃ (its:List Value) (n:Nat),Vals xs its/\xs.length=its.length/\s.heap.get? l=some { cls:=.type "list",data:=.seq its.toArray n }:=by
 obtain ⟨z,its,n,r,e⟩:=I.hok l _ a
 exact ⟨z,its,n,r,r.length,e⟩
theorem ahc {n:Nat} (h:n<=sizeLine):Builtin.List.listTooLong n=false:=by
 unfold Builtin.List.listTooLong
 exact aD3 (by omega)
end
section
variable {X:Cx}
def ad6:V->List V->Hp->VK->Prop:=fun x vs H Q=>∃ l xs y,x=.ref l/\vs=[y]/\H l=some (.lst xs)/\xs.length < sizeLine/\Q .non (upd H l (.lst (xs ++ [y])))
theorem aa1:MtM X "list.append" ad6:=by
 intro pins s σ H x vs v us Q I b c h
 obtain ⟨l,xs,y,rfl,rfl,a,g,q⟩:=h
 cases b
 obtain ⟨u,rfl,d⟩:=c.one
 obtain ⟨z,its,n,r,f,e⟩:=I.lstM a
 refine call_meets F.slot_list_append ⟨_,e,rfl⟩ F.entry_list_append (F.args_list_append_2 _ _) (PySem.list_append l its.toArray n u (by rw [aB1];omega)) ⟨e,?_⟩
 refine ⟨.non,_,I.lset (its':=its ++ [u]) a e (by simp) (r.append (.cons d .nil)) ?_,rfl,q⟩
 rw [aB0,List.length_singleton]
 omega
def ai9:V->List V->Hp->VK->Prop:=fun x vs H Q=>∃ l b xs zs,x=.ref l/\vs=[.ref b]/\H l=some (.lst xs)/\H b=some (.lst zs)/\xs.length+zs.length<=sizeLine/\Q .non (upd H l (.lst (xs ++ zs)))
theorem ap5:MtM X "list.extend" ai9:=by
 intro pins s σ H x vs v us Q I f i h
 obtain ⟨l,b,xs,y,rfl,rfl,d,o,A,q⟩:=h
 cases f
 obtain ⟨u,rfl,j⟩:=i.one
 cases j
 obtain ⟨z,its,n,r,w,e⟩:=I.lstM d
 obtain ⟨B,a,g,m,p,e2⟩:=I.lstM o
 have hsz:its.toArray.size+a.toArray.size<=sizeLine:=by rw [aB1,aB1];omega
 have c:¬ (!its.toArray.isEmpty && Builtin.List.listTooLong (its.toArray.size+a.toArray.size))=true:=by
  rw [ahc hsz,Bool.and_false]
  exact aA9
 refine call_meets F.slot_list_extend ⟨_,e,rfl⟩ F.entry_list_extend (F.args_list_extend_2 _ _)
  (AutoSeq1.list_extend_list_list_0 l its.toArray n b a.toArray g c (by rw [aB1];omega) (by omega)) ⟨e,e2,?_⟩
 refine ⟨.non,_,I.lset (its':=its ++ a) d e (by simp) (r.append m) ?_,rfl,q⟩
 rw [aB0]
 omega
def aln:V->List V->Hp->VK->Prop:=fun x vs H Q=>∃ l xs i k y,x=.ref l/\vs=[.int i]/\H l=some (.lst xs)/\-(2 ^ 63)<=i/\i < 2 ^ 63/\seqIndex? i xs.length=some k/\xs[k]?=some y/\Q y (upd H l (.lst (xs.eraseIdx k)))
theorem ahd:MtM X "list.pop" aln:=by
 intro pins s σ H x vs v us Q I f o h
 obtain ⟨l,xs,i,k,y,rfl,rfl,b,m,j,d,g,q⟩:=h
 cases f
 obtain ⟨u,rfl,p⟩:=o.one
 obtain ⟨t,rfl⟩:=p
 obtain ⟨z,its,n,r,c,e⟩:=I.lstM b
 obtain ⟨w,A,a⟩:=r.get g
 refine call_meets F.slot_list_pop ⟨_,e,rfl⟩ F.entry_list_pop (F.args_list_pop_2 _ _)
  (MeetsSeq.list_pop_at l its.toArray n i t k w (fitsIndex_both m j) (by rw [aB1,← c];exact d) (by rw [← aD2];exact A) (by rw [aB1];omega)) ⟨e,?_⟩
 refine ⟨y,_,I.lset (its':=its.eraseIdx k) b e ?_ (r.eraseIdx k) ?_,a,q⟩
 ·show its.toArray.eraseIdxIfInBounds k=(its.eraseIdx k).toArray
  rw [List.eraseIdxIfInBounds_toArray]
 ·have:=ajz xs k
  omega
def rCat:R2:=fun x y H Q=>∃ l b xs zs,x=.ref l/\y=.ref b/\H l=some (.lst xs)/\H b=some (.lst zs)/\xs.length+zs.length<=sizeLine/\∀ p,H p=none->Q (.ref p) (upd H p (.lst (xs ++ zs)))
theorem ap6:OpR X (binaryOp .Add) rCat:=by
 intro pins s σ H x y v u Q I g f h
 obtain ⟨l,b,xs,w,rfl,rfl,c,i,B,q⟩:=h
 cases g
 cases f
 obtain ⟨z,its,n,r,o,e⟩:=I.lstM c
 obtain ⟨p,a,A,m,j,e2⟩:=I.lstM i
 refine PySem.P.add_list e e2 ?_ (by rw [aB1,aB1];omega)
 have d:its.toArray ++ a.toArray=(its ++ a).toArray:=by simp
 rw [d]
 exact ⟨.ref _,_,I.lnew (t':=s.toks) (r.append m) (by rw [aB0];omega),rfl,q _ I.fresh⟩
def rRep:R2:=fun x y H Q=>∃ l k xs,x=.ref l/\y=.int k/\H l=some (.lst xs)/\-(2 ^ 63)<=k/\k < 2 ^ 63/\xs.length * k.toNat<=sizeLine /\
 ∀ p,H p=none->Q (.ref p) (upd H p (.lst (List.replicate k.toNat xs).flatten))
theorem ans {α:Type} (xs:List α) (k:Nat):(List.replicate k xs).flatten.length=k * xs.length:=by
 induction k with
 | zero=>simp
 | succ k ih=>rw [aG3,List.flatten_cons,aB0,ih,Nat.succ_mul,Nat.add_comm]
theorem axr:OpR X (binaryOp .Mult) rRep:=by
 intro pins s σ H x y v u Q I C B h
 obtain ⟨l,k,xs,rfl,rfl,w,E,D,o,q⟩:=h
 cases C
 obtain ⟨t,rfl⟩:=B
 obtain ⟨z,its,n,r,p,e⟩:=I.lstM w
 have f:its.toArray.size * k.toNat<=sizeLine:=by rw [aB1,← p];exact o
 have d:¬ its.toArray.size * k.toNat > (2 ^ 63 - 1) / 8:=by
  have:(sizeLine:Nat)<=(2 ^ 63 - 1) / 8:=by decide
  omega
 have c:¬ (!Builtin.List.listFitsIndex k)=true:=by
  rw [fitsIndex_both E D]
  exact aA9
 have b:¬ Builtin.List.listTooLong (its.toArray.size * k.toNat)=true:=by
  rw [ahc f]
  exact aA9
 have g:List.foldl (fun i j=>i ++ j) #[] (List.replicate (if its.toArray.isEmpty=true then 0 else k.toNat) its.toArray)=(List.replicate k.toNat its).flatten.toArray:=by
  have A:∀ m:Nat,List.foldl (fun i j=>i ++ j) #[] (List.replicate m its.toArray)=(List.replicate m its).flatten.toArray:=fun m=>by
   have:=aj0 its m []
   rw [List.nil_append] at this
   exact this
  rw [A]
  cases its with
  | nil=>simp
  | cons a r'=>rw [aE6 (by simp)]
 refine wpAny_binaryOp_repeat_ref (T:="list") (U:="int") (by decide) ⟨_,e,rfl⟩ (fun G=>typeIs_int G k t) noFill_list_mul F.fills_int_mul F.slot_int_rmul repeat_list F.slot_int_index.lookup
  (call_meets F.slot_int_rmul (typeIs_int s k t) F.entry_int_rmul (F.args_int_rmul_2 _ _) (int___rmul___int_list k t l its.toArray n)
   ⟨e,rfl,⟨_,e,rfl⟩,call_meets F.slot_list_mul ⟨_,e,rfl⟩ F.entry_list_mul (F.args_list_mul_2 _ _) (AutoListH.list___mul___list_int_3 l its.toArray n k t c d b) ⟨e,?_⟩⟩)
 rw [g]
 exact ⟨.ref _,_,I.lnew (t':=s.toks) (r.rep k.toNat) (by rw [ans,Nat.mul_comm];exact o),rfl,q _ I.fresh⟩
end
section
variable {prog:Program} {w:World} {A:Around} {E:Value->Shared->Prop} {s:Shared}
end
section
variable {X:Cx}
end
section
variable {κ:Type} [DecidableEq κ]
def valV (kvs:List (κ × V)) (k : κ):Option V:=(kvs.find? fun kv=>decide (kv.1=k)).map (·.2)
def putK (kvs:List (κ × V)) (k : κ) (v:V):List (κ × V) :=
 if (kvs.any fun kv=>decide (kv.1=k))=true then kvs.map (fun kv=>if kv.1=k then (kv.1,v) else kv) else kvs ++ [(k,v)]
def auf (kvs:List (κ × V)) (k : κ):List (κ × V):=kvs.filter fun kv=>decide (kv.1 ≠ k)
theorem ahe {p : κ × V} {r:List (κ × V)} {k : κ} (e:p.1=k):valV (p :: r) k=some p.2:=by simp [valV,List.find?_cons,e]
theorem ahf {p : κ × V} {r:List (κ × V)} {k : κ} (e:¬ p.1=k):valV (p :: r) k=valV r k:=by simp [valV,List.find?_cons,e]
theorem alo (k : κ):∀ kvs:List (κ × V),(kvs.any fun a=>decide (a.1=k))=(valV kvs k).isSome
 | []=>rfl
 | p :: r=>by
  rw [List.any_cons]
  by_cases e:p.1=k
  ·simp only [ahe e,aD4 e,Bool.true_or,Option.isSome_some]
  ·rw [ahf e,aD3 e,Bool.false_or];exact alo k r
theorem ae1 (kvs:List (κ × V)) (k : κ) (v:V):(putK kvs k v).length<=kvs.length+1:=by
 unfold putK
 split
 ·rw [aA3];omega
 ·rw [aB0,aD8,aH8];omega
theorem RelO.isSome_eq {o:Option V} {u:Option Value} (r:RelO o u):o.isSome=u.isSome:=by
 cases o with
 | none=>cases u with
  | none=>rfl
  | some _=>exact (show False from r).elim
 | some _=>cases u with
  | none=>exact (show False from r).elim
  | some _=>rfl
theorem RelO.getD {o:Option V} {u:Option Value} {d:V} {d':Value} (r:RelO o u) (a:RelV d d'):RelV (o.getD d) (u.getD d'):=by
 cases o with
 | none=>cases u with
  | none=>exact a
  | some _=>exact (show False from r).elim
 | some _=>cases u with
  | none=>exact (show False from r).elim
  | some _=>exact r
theorem KV.val {kvs:List (κ × V)} {vs:List (κ × Value)} (r:KV kvs vs) (k : κ):RelO (valV kvs k) (valueAt vs k):=by
 unfold KV at r
 induction r with
 | nil=>exact True.intro
 | @cons p q ps qs h t ih =>
  obtain ⟨c,d⟩:=h
  by_cases e:p.1=k
  ·have a:q.1=k:=c.symm.trans e
   have b:valueAt (q :: qs) k=some q.2:=by simp [valueAt,List.find?_cons,a]
   rw [ahe e,b];exact d
  ·have a:¬ q.1=k:=fun z=>e (c.trans z)
   have b:valueAt (q :: qs) k=valueAt qs k:=by simp [valueAt,List.find?_cons,a]
   rw [ahf e,b];exact ih
theorem KV.any {kvs:List (κ × V)} {vs:List (κ × Value)} (r:KV kvs vs) (k : κ):(kvs.any fun a=>decide (a.1=k))=vs.any fun a=>decide (a.1=k):=by
 unfold KV at r
 induction r with
 | nil=>rfl
 | cons h t ih=>rw [List.any_cons,List.any_cons,ih,h.1]
theorem KV.repl {kvs:List (κ × V)} {vs:List (κ × Value)} (r:KV kvs vs) (k : κ) {y:V} {u:Value} (d:RelV y u) :
  KV (kvs.map fun a=>if a.1=k then (a.1,y) else a) (vs.map fun a=>if a.1=k then (a.1,u) else a):=by
 unfold KV at r ⊢
 induction r with
 | nil=>exact .nil
 | @cons p q ps qs h t ih =>
  rw [aD0,aD0]
  refine .cons ?_ ih
  obtain ⟨b,c⟩:=h
  by_cases e:p.1=k
  ·rw [aE5 e,aE5 (b.symm.trans e)];exact ⟨b,d⟩
  ·rw [aE6 e,aE6 (fun z=>e (b.trans z))];exact ⟨b,c⟩
theorem KV.put {kvs:List (κ × V)} {vs:List (κ × Value)} (r:KV kvs vs) (k : κ) {y:V} {u:Value} (a:RelV y u):KV (putK kvs k y) (stored vs k u):=by
 unfold putK stored
 rw [r.any k]
 by_cases e:(vs.any fun b=>decide (b.1=k))=true
 ·rw [aE5 e,aE5 e];exact r.repl k a
 ·rw [aE6 e,aE6 e];exact Paired.snoc r ⟨rfl,a⟩
theorem KV.drop {kvs:List (κ × V)} {vs:List (κ × Value)} (r:KV kvs vs) (k : κ):KV (auf kvs k) (without vs k):=by
 unfold KV at r ⊢
 unfold auf without
 induction r with
 | nil=>exact .nil
 | @cons p q ps qs h t ih =>
  obtain ⟨c,d⟩:=h
  rw [List.filter_cons,List.filter_cons]
  by_cases e:p.1=k
  ·have a:¬ decide (p.1 ≠ k)=true:=by simp [e]
   have b:¬ decide (q.1 ≠ k)=true:=by simp [c.symm.trans e]
   rw [aE6 a,aE6 b];exact ih
  ·have f:¬ q.1=k:=fun z=>e (c.trans z)
   have a:decide (p.1 ≠ k)=true:=by simp [e]
   have b:decide (q.1 ≠ k)=true:=by simp [f]
   rw [aE5 a,aE5 b];exact .cons ⟨c,d⟩ ih
theorem KV.length {kvs:List (κ × V)} {vs:List (κ × Value)} (r:KV kvs vs):kvs.length=vs.length:=Paired.length r
end
theorem agi {P:Program} {w:World} {k:Key} {u:Value} (r:RelV (kV k) u):(abc P w).is k u=true:=by
 cases k with
 | inl i=>obtain ⟨t,e⟩:=(show ∃ t,u=Value.int i t from r);subst e;exact am4 P w i t
 | inr x=>obtain ⟨t,e⟩:=(show ∃ t,u=Value.str x t from r);subst e;exact am5 P w x t
theorem aj1 {P:Program} {w:World}:∀ {ks:List Key} {us:List Value},Vals (ks.map kV) us->ItemsAre (abc P w) ks us
 | [],_,r=>by rw [List.map_nil] at r;cases r;exact .nil
 | k :: ks,_,r=>by
  rw [aD0] at r
  cases r with
  | cons h t=>exact .cons (agi h) (aj1 t)
abbrev KT (H:Hp):List (List Key × V)->List (List Key × Addr × Value)->Prop:=Paired fun p q=>p.1=q.1/\H q.2.1=some (.tup (p.1.map kV))/\RelV p.2 q.2.2
theorem KT.val {H:Hp} {kvs:List (List Key × V)} {xs:List (List Key × Addr × Value)} (r:KT H kvs xs) (k:List Key):RelO (valV kvs k) ((atKey xs k).map (·.2)):=by
 induction r with
 | nil=>exact True.intro
 | @cons p q ps qs h t ih =>
  obtain ⟨c,_,d⟩:=h
  by_cases e:p.1=k
  ·have a:q.1=k:=c.symm.trans e
   have b:atKey (q :: qs) k=some q.2:=by simp [atKey,List.find?_cons,a]
   rw [ahe e,b];exact d
  ·have a:¬ q.1=k:=fun z=>e (c.trans z)
   have b:atKey (q :: qs) k=atKey qs k:=by simp [atKey,List.find?_cons,a]
   rw [ahf e,b];exact ih
theorem KT.repl {H:Hp} {kvs:List (List Key × V)} {xs:List (List Key × Addr × Value)} (r:KT H kvs xs) (k:List Key) {y:V} {u:Value} (d:RelV y u) :
  KT H (kvs.map fun b=>if b.1=k then (b.1,y) else b) (xs.map (putAt k u)):=by
 induction r with
 | nil=>exact .nil
 | @cons p q ps qs h t ih =>
  rw [aD0,aD0]
  refine .cons ?_ ih
  obtain ⟨a,c,f⟩:=h
  unfold putAt
  by_cases e:p.1=k
  ·rw [aE5 e,aE5 (a.symm.trans e)];exact ⟨a,c,d⟩
  ·rw [aE6 e,aE6 (fun z=>e (a.trans z))];exact ⟨a,c,f⟩
theorem KT.put {H:Hp} {kvs:List (List Key × V)} {xs:List (List Key × Addr × Value)} (r:KT H kvs xs) (k:List Key) {b:Addr} {y:V} {u:Value} (hb:H b=some (.tup (k.map kV))) (a:RelV y u) :
  KT H (putK kvs k y) (storedH xs k b u):=by
 have e:(kvs.any fun c=>decide (c.1=k))=(atKey xs k).isSome:=by
  rw [alo,(r.val k).isSome_eq,Option.isSome_map]
 unfold putK storedH
 rw [e]
 by_cases q:(atKey xs k).isSome=true
 ·rw [aE5 q,aE5 q];exact r.repl k a
 ·rw [aE6 q,aE6 q];exact Paired.snoc r ⟨rfl,hb,a⟩
theorem KT.keeps {H H':Hp} {kvs:List (List Key × V)} {xs:List (List Key × Addr × Value)} (r:KT H kvs xs) (a:∀ b ys,H b=some (.tup ys)->H' b=some (.tup ys)):KT H' kvs xs :=
 Paired.mapP r fun _ _ z=>⟨z.1,a _ _ z.2.1,z.2.2⟩
section
variable {P:Program} {w:World} {H:Hp} {h:Heap} {a:Addr}
theorem aug {u:HO} (ok:HOk P w H h) (e:Rd H a u):ObjOk P w H h a u:=e.ok ok
theorem agj {kvs:List (Key × V)} (ok:HOk P w H h) (e:Rd H a (.dK kvs)):kvs.length<=sizeLine/\(a == sysModules)=false/\∃ vs,KV kvs vs/\h.DictOf (abc P w) a vs :=
 show ObjOk P w H h a (.dK kvs) from aug ok e
theorem auh {kvs:List (Key × V)} (ok:HOk P w H h) (e:H a=some (.dK kvs)):kvs.length<=sizeLine/\(a == sysModules)=false/\∃ vs,KV kvs vs/\h.DictOf (abc P w) a vs:=agj ok (.inl e)
theorem af1 {ks:List Key} (ok:HOk P w H h) (e:H a=some (.tup (ks.map kV))):(tupleKind (abc P w)).is h ks a:=by
 obtain ⟨_,its,r,o,d,c,n,b⟩:=(show ObjOk P w H h a (.tup (ks.map kV)) from ok a _ e)
 exact ⟨o,its.toArray,n,d,c,b,by simpa using aj1 r⟩
theorem agk {kvs:List (List Key × V)} (ok:HOk P w H h) (e:Rd H a (.dT kvs)):kvs.length<=sizeLine/\(a == sysModules)=false /\
  ∃ xs,KT H kvs xs/\h.DictOfH (tupleKind (abc P w)) a xs:=by
 obtain ⟨z,y,xs,r,o,es,f,i,g,j,d,c⟩:=(show ObjOk P w H h a (.dT kvs) from aug ok e)
 refine ⟨z,y,xs,r,o,es,f,i,g,j,d,fun x b=>?_,c⟩
 have all:∀ {l:List (List Key × V)} {m:List (List Key × Addr × Value)},KT H l m->∀ x∈m,(tupleKind (abc P w)).is h x.1 x.2.1:=by
  intro l m q
  induction q with
  | nil=>intro x b;exact nomatch b
  | @cons p q ps qs hq t ih =>
   intro x b
   rcases aA8.mp b with e | b
   ·subst e
    exact af1 ok (by rw [← hq.1];exact hq.2.1)
   ·exact ih x b
 exact all r x b
theorem azo {kvs:List (List Key × V)} (ok:HOk P w H h) (e:H a=some (.dT kvs)):kvs.length<=sizeLine/\(a == sysModules)=false /\
  ∃ xs,KT H kvs xs/\h.DictOfH (tupleKind (abc P w)) a xs:=agk ok (.inl e)
end
def DGet (H:Hp) (a:Addr) (y:V) (r:Option V):Prop :=
 (∃ kvs k,Rd H a (.dK kvs)/\y=kV k/\r=valV kvs k)\/∃ kvs k b,Rd H a (.dT kvs)/\y=.ref b/\H b=some (.tup (k.map kV))/\r=valV kvs k
def DPut (H:Hp) (a:Addr) (y v:V) (H':Hp):Prop :=
 (∃ kvs k,H a=some (.dK kvs)/\y=kV k/\kvs.length < sizeLine/\H'=upd H a (.dK (putK kvs k v))) ∨
 ∃ kvs k b,H a=some (.dT kvs)/\y=.ref b/\H b=some (.tup (k.map kV))/\kvs.length < sizeLine/\H'=upd H a (.dT (putK kvs k v))
theorem DGet.k {H:Hp} {a:Addr} {kvs:List (Key × V)} {k:Key} (e:H a=some (.dK kvs)):DGet H a (kV k) (valV kvs k):=.inl ⟨kvs,k,.inl e,rfl,rfl⟩
theorem DGet.t {H:Hp} {a b:Addr} {kvs:List (List Key × V)} {k:List Key} (e:H a=some (.dT kvs)) (c:H b=some (.tup (k.map kV))):DGet H a (.ref b) (valV kvs k):=.inr ⟨kvs,k,b,.inl e,rfl,c,rfl⟩
theorem DPut.k {H:Hp} {a:Addr} {kvs:List (Key × V)} {k:Key} {v:V} (e:H a=some (.dK kvs)) (b:kvs.length < sizeLine):DPut H a (kV k) v (upd H a (.dK (putK kvs k v))):=.inl ⟨kvs,k,e,rfl,b,rfl⟩
theorem DPut.t {H:Hp} {a b:Addr} {kvs:List (List Key × V)} {k:List Key} {v:V} (e:H a=some (.dT kvs)) (d:H b=some (.tup (k.map kV))) (c:kvs.length < sizeLine) :
  DPut H a (.ref b) v (upd H a (.dT (putK kvs k v))):=.inr ⟨kvs,k,b,e,rfl,d,c,rfl⟩
section
variable {X:Cx} {pins:List (Addr × Obj)} {σ:St} {H:Hp} {s:Shared} {a:Addr} {y v:V} {u r:Value} {o:Option V} {A:Around} {E:Value->Shared->Prop}
theorem Inv.big (I:Inv X pins σ H s):sysModules < s.heap.objs.size:=by
 have h:mainGlobals < s.heap.objs.size:=(I.mod.glob.keeps I.bk).lt
 exact Nat.lt_trans (by decide) h
theorem ap7 {Q:Value->Shared->Prop} (C:A.units+1 < cLine) (I:Inv X pins σ H s) (g:DGet H a y (some v)) (q:RelV y u) (h:∀ f r,Inv X pins σ H r->RelV v f->Q f r) :
  wpAny (model X.prog X.w) A (getItem (.ref a) u) Q E s:=by
 rcases g with ⟨kvs,k,e,j,l⟩ | ⟨kvs,k,b,e,j,x,l⟩
 ·subst j
  obtain ⟨z,hd,vs,c,i⟩:=agj I.hok e
  obtain ⟨f,n,d⟩:=RelO.some_of (v:=v) (o:=valueAt vs k) (by rw [l];exact c.val k)
  exact wpAny_getItem_of (agi q) i.mapOf n (h f _ (I.tok _) d)
 ·subst j
  cases (show u=Value.ref b from q)
  obtain ⟨z,hd,xs,c,i⟩:=agk I.hok e
  obtain ⟨f,n,d⟩:=RelO.some_of (v:=v) (o:=(atKey xs k).map (·.2)) (by rw [l];exact c.val k)
  obtain ⟨p,B,m⟩:=Option.map_eq_some_iff.mp n
  refine wpAny_getItem_heap (tupleKind_room_in1 C) (af1 I.hok x) i B ?_
  rw [m]
  exact h f _ (I.tok _) d
theorem au2 {Q:Value->Shared->Prop} (n:A.units+1 < cLine) (I:Inv X pins σ H s) (g:DGet H a y o) (i:RelV y u) (h:∀ j,Inv X pins σ H j->Q (.bool (!o.isSome)) j) :
  wpAny (model X.prog X.w) A (compareOp .NotIn u (.ref a)) Q E s:=by
 rcases g with ⟨kvs,k,e,f,l⟩ | ⟨kvs,k,b,e,f,m,l⟩
 ·subst f
  obtain ⟨z,hd,vs,c,d⟩:=agj I.hok e
  refine wpAny_notIn_of (agi i) hd d.mapOf ?_
  rw [← (c.val k).isSome_eq,← l]
  exact h _ (I.tok _)
 ·subst f
  cases (show u=Value.ref b from i)
  obtain ⟨z,hd,xs,c,d⟩:=agk I.hok e
  refine wpAny_notIn_heap (tupleKind_room_in1 n) (af1 I.hok m) hd d ?_
  have q:=(c.val k).isSome_eq
  rw [Option.isSome_map] at q
  rw [← q,← l]
  exact h _ (I.tok _)
theorem aja {h':Heap} {t':Nat} {c:HO} (I:Inv X pins σ H s) (g:Mut (H a)) (f:Heap.SameBut a s.heap h') (d:∃ q,h'.get? a=some q) (new:ObjOk X.prog X.w (upd H a c) h' a c) :
  Inv X pins σ (upd H a c) { s with heap:=h',toks:=t' } :=
 I.write (x:=a) (e:=a) g (.inl rfl) (fun b q hb z=>(f.2 b hb).trans z) d new
theorem ap8 {P:Program} {w:World} {H':Hp} {h':Heap} {kvs:List (Key × V)} {vs:List (Key × Value)} (z:kvs.length<=sizeLine) (hd:(a == sysModules)=false) (b:KV kvs vs) (c:h'.DictOf (abc P w) a vs) :
  ObjOk P w H' h' a (.dK kvs):=⟨z,hd,vs,b,c⟩
theorem ap9 {H':Hp} {Q:Unit->Shared->Prop} (O:A.units+1 < cLine) (I:Inv X pins σ H s) (g:DPut H a y v H') (D:RelV y u) (F:RelV v r) (h:∀ G,Inv X pins σ H' G->Q () G) :
  wpAny (model X.prog X.w) A (setItem (.ref a) u r) Q E s:=by
 rcases g with ⟨kvs,k,e,n,l,p⟩ | ⟨kvs,k,b,e,n,C,l,p⟩
 ·subst n p
  obtain ⟨z,hd,vs,d,m⟩:=auh I.hok e
  have o:vs.length<=sizeLine:=by rw [← d.length];exact z
  have j:(putK kvs k v).length<=sizeLine:=by have:=ae1 kvs k v;omega
  refine wpAny_setItem_pairs (hsz:=o) (agi D) m fun h' f x=>h _ ?_
  have M:∃ q,h'.get? a=some q:=let ⟨q,_,_,i,_⟩:=f;⟨q,i⟩
  exact aja I (by rw [e];exact True.intro) x M (ap8 j hd (d.put k F) f)
 ·subst n p
  cases (show u=Value.ref b from D)
  obtain ⟨z,hd,xs,d,m⟩:=azo I.hok e
  have o:xs.length<=sizeLine:=by rw [← Paired.length d];exact z
  have j:(putK kvs k v).length<=sizeLine:=by have:=ae1 kvs k v;omega
  refine wpAny_setItem_heap (hsz:=o) (tupleKind_room_in1 O) (af1 I.hok C) m fun h' f x=>h _ ?_
  obtain ⟨q,es,L,i,N,P,K,_,J⟩:=f
  refine aja I (by rw [e];exact True.intro) x ⟨q,i⟩ ⟨j,hd,_,(d.put k C F).keeps fun c ys B=>?_,q,es,L,i,N,P,K,J⟩
  rw [aae (at3 B e (fun z=>nomatch z))]
  exact B
end
section
variable {X:Cx} {pins:List (Addr × Obj)} {σ:St} {H:Hp} {s:Shared} {a:Addr} {kvs:List (Key × V)} {k:Key} {u:Value} {A:Around} {E:Value->Shared->Prop}
end
def NoSl (i:Expr):Prop:=∀ ov iv,subscripted i false ov iv=operate [ov,iv] (getItem ov iv)
theorem au3 {prog:Program} {w:World} {A:Around} {E:Value->Shared->Prop} {s:Shared} {env:Env} {b a:Expr} {pos:Pos} {T id:String} {Q:Value->Shared->Prop}
  (n:typeLookup (.type T) "__getitem__" = pure (some (.builtin id))) (p:NoSl a)
  (h:wpAny (model prog w) A (eval b env) (fun o g=>wpAny (model prog w) A (eval a env) (fun i c=>c.TypeIs o T/\wpAny (model prog w) A (getItem o i) Q E c) E g) E s) :
  wpAny (model prog w) A (eval (.Subscript b a pos) env) Q E s:=by
 refine Subscript_ (aI6 h (fun o g l=>aI6 l (fun i c d=>?_) fun _ _ x=>x) fun _ _ x=>x)
 obtain ⟨m,d⟩:=d
 unfold subscriptTail
 refine aH9 ?_
 rw [getitemInPython_of_ne m.not_modules]
 refine aH9 (wpAny_specialOf m n ?_)
 have fin:wpAny (model prog w) A (subscripted a false o i) (fun r f=>wpAny (model prog w) A (letTemporaryGo b o r >>= fun _=>pure r) Q E f) E c:=by
  rw [p o i]
  exact wpAny_operating (aI6 d (fun r f j=>aH9 (wpAny_letTemporaryGo (aI0 j))) fun _ _ x=>x)
 first
  | exact aI0 (aH9 fin)
  | exact aH9 (aI0 (aH9 fin))
  | exact aH9 fin
theorem am8 {X:Cx} {pins:List (Addr × Obj)} {σ:St} {H:Hp} {s:Shared} {a:Addr} {y:V} {o:Option V} (I:Inv X pins σ H s) (g:DGet H a y o):s.TypeIs (.ref a) "dict":=by
 rcases g with ⟨kvs,k,e,_,_⟩ | ⟨kvs,k,b,e,_,_,_⟩
 ·obtain ⟨_,_,vs,_,c⟩:=agj I.hok e
  exact c.typeIs
 ·obtain ⟨_,_,xs,_,c⟩:=agk I.hok e
  exact c.typeIs
def aoy (td ty:TE):TE:=fun σ H Q=>td σ H fun x H1=>ty σ H1 fun y H2=>∃ a v,x=.ref a/\DGet H2 a y (some v)/\Q v H2
def agl (ty td:TE):TE:=fun σ H Q=>ty σ H fun y H1=>td σ H1 fun x H2=>∃ a o,x=.ref a/\DGet H2 a y o/\Q (.bl (!o.isSome)) H2
def aib (td ty tv:TE):TS:=fun D σ H=>tv σ H fun v H1=>td σ H1 fun x H2=>ty σ H2 fun y H3=>∃ a H4,x=.ref a/\DPut H3 a y v H4/\D.nx σ H4
section
variable {X:Cx} {o i e value:Expr} {pos pos' tpos:Pos} {td ty tv:TE}
theorem au4 (d:X.A.units+1 < cLine) (p:PE X o td) (hi:PE X i ty) (r:NoSl i):PE X (.Subscript o i pos) (aoy td ty):=by
 intro pins s σ H Q I h
 refine au3 PySem.F.slot_dict_getitem.lookup r (thn (p pins s σ H _ I h) fun u s1 ⟨x,j,q,n,l⟩=>thn (hi pins s1 σ j _ q l) fun C s2 ⟨y,H2,c,m,a,v,ex,g,w⟩=>?_)
 subst ex
 obtain rfl:u=Value.ref a:=n
 exact ⟨am8 c g,ap7 d c g m fun B z f b=>⟨v,H2,f,b,w⟩⟩
theorem aqa (r:X.A.units+1 < cLine) (hi:PE X i ty) (n:PE X o td):PC X .NotIn i o (agl ty td):=by
 intro pins s σ H Q I h
 refine thn (hi pins s σ H _ I h) fun w s1 ⟨y,c,p,j,f⟩=>thn (n pins s1 σ c _ p f) fun u s2 ⟨x,H2,l,m,a,d,ex,g,q⟩=>?_
 subst ex
 obtain rfl:u=Value.ref a:=m
 exact au2 r l g j fun v b=>⟨.bl (!d.isSome),H2,b,rfl,q⟩
theorem ae6 (F:X.A.units+1 < cLine) (p:PE X o td) (hi:PE X i ty) (B:PE X value tv) (C:swapsWith value (some (.Subscript o i pos')) pos.line X.env=pure false) :
  PS X (.Assign [.Subscript o i pos'] value pos) (aib td ty tv):=by
 intro pins s σ H D I h
 refine wpAny_Assign_Subscript (thn (B pins s σ H _ I h) fun r s1 ⟨v,c,q,w,d⟩=>thn (p pins s1 σ c _ q d) fun u s2 ⟨x,H2,j,l,E⟩=>thn (hi pins s2 σ H2 _ j E) fun J G ⟨y,H3,b,f,a,m,ex,g,z⟩=>?_) C
 subst ex
 obtain rfl:u=Value.ref a:=l
 exact ap9 F b g f w fun K n=>⟨σ,m,n,z⟩
end
theorem ar4 {P:Program} {w:World} {H:Hp} (h:Heap) (hb:sysModules < h.objs.size):ObjOk P w H (h.push { cls:=.type "dict",data:=.dict #[] }) h.objs.size (.dK []) :=
 ⟨aF0 _,beq_eq_false_iff_ne.mpr (Ne.symm (aB5 hb)),[],.nil,Heap.DictOf.new h⟩
theorem ar5 {P:Program} {w:World} {H:Hp} (h:Heap) (hb:sysModules < h.objs.size):ObjOk P w H (h.push { cls:=.type "dict",data:=.dict #[] }) h.objs.size (.dT []) :=
 ⟨aF0 _,beq_eq_false_iff_ne.mpr (Ne.symm (aB5 hb)),[],.nil,_,#[],0,aI3 _ rfl,⟨rfl,rfl,rfl⟩,rfl,rfl,List.nodup_nil⟩
def aqb:TE:=fun _ H Q=>∀ p,H p=none->Q (.ref p) (upd H p (.dT []))
section
variable {X:Cx} {pos:Pos}
theorem ar6:PE X (.Dict [] [] pos) aqb:=fun pins s σ H Q I h =>
 wpAny_Dict_empty ⟨.ref s.heap.objs.size,_,I.laid (a:=s.heap.objs.size) (o:=.dT []) (t':=s.toks) (fun _ _ q=>aI1 _ q) (aA6 _) (ar5 s.heap I.big),rfl,h _ (I.hok.fresh (aA6 _))⟩
end
def alp:List (TE × TE)->St->Hp->(List (V × V)->Hp->Prop)->Prop
 | [],_,H,Q=>Q [] H
 | (tk,tv) :: r,σ,H,Q=>tk σ H fun x H1=>tv σ H1 fun y H2=>alp r σ H2 fun ps H3=>Q ((x,y) :: ps) H3
abbrev VV:List (V × V)->List (Value × Value)->Prop:=Paired fun p q=>RelV p.1 q.1/\RelV p.2 q.2
def PPs (X:Cx) (pos:Pos) (keys:List (Option Expr)) (values:List Expr) (trs:List (TE × TE)):Prop :=
 ∀ (pins:List (Addr × Obj)) (s:Shared) (σ:St) (H:Hp) (Q:List (V × V)->Hp->Prop),Inv X pins σ H s->alp trs σ H Q ->
  wpAny (model X.prog X.w) X.A (evalPairs (pairTrees keys values X.env pos)) (fun vs s'=>∃ ps H',Inv X pins σ H' s'/\VV ps vs/\Q ps H') X.xe s
theorem au5 {X:Cx} {pos:Pos}:PPs X pos [] [] []:=fun pins s σ H Q I h=>pairTrees_nil_walk ⟨[],H,I,.nil,h⟩
theorem ar7 {X:Cx} {pos:Pos} {k v:Expr} {ks:List (Option Expr)} {vs:List Expr} {c d:TE} {a:List (TE × TE)} (g:PE X k c) (w:PE X v d) (p:PPs X pos ks vs a) :
  PPs X pos (some k :: ks) (v :: vs) ((c,d) :: a):=fun pins s σ H Q I h =>
 pairTrees_cons_walk (thn (g pins s σ H _ I h) fun u s1 ⟨x,j,q,o,l⟩=>thn (w pins s1 σ j _ q l) fun B s2 ⟨y,H2,n,m,i⟩ =>
  thn (p pins s2 σ H2 _ n i) fun z A ⟨ps,H3,f,b,r⟩=>⟨(x,y) :: ps,H3,f,.cons ⟨o,m⟩ b,r⟩)
def ae7 (kvs more:List (Key × V)):List (Key × V):=more.foldl (fun acc kv=>putK acc kv.1 kv.2) kvs
theorem KV.merge:∀ {more:List (Key × V)} {rs:List (Key × Value)} {kvs:List (Key × V)} {vs:List (Key × Value)},KV more rs->KV kvs vs->KV (ae7 kvs more) (merged vs rs):=by
 intro more rs kvs vs r
 unfold KV at r
 induction r generalizing kvs vs with
 | nil=>intro q;exact q
 | @cons p q ps qs h t ih =>
  intro a
  have e:KV (putK kvs p.1 p.2) (stored vs q.1 q.2):=by
   have:=a.put p.1 h.2
   rw [← h.1];exact this
  exact ih e
theorem afy:∀ (more kvs:List (Key × V)),(ae7 kvs more).length<=kvs.length+more.length
 | [],kvs=>by show kvs.length<=kvs.length+0;omega
 | p :: r,kvs=>by
  have b:=afy r (putK kvs p.1 p.2)
  have a:=ae1 kvs p.1 p.2
  show (ae7 (putK kvs p.1 p.2) r).length<=_
  rw [aD8];omega
theorem aic {P:Program} {w:World}:∀ {kvs:List (Key × V)} {d:List (Value × Value)},VV (kvs.map fun f=>(kV f.1,f.2)) d->∃ rs,Carries (abc P w) d rs/\KV kvs rs
 | [],_,r=>by rw [List.map_nil] at r;cases r;exact ⟨[],True.intro,.nil⟩
 | p :: kvs,_,r=>by
  rw [aD0] at r
  cases r with
  | @cons a b as bs h t =>
   obtain ⟨rs,c,q⟩:=aic (P:=P) (w:=w) t
   obtain ⟨i,g⟩:=b
   exact ⟨(p.1,g) :: rs,⟨agi h.1,rfl,c⟩,.cons ⟨rfl,h.2⟩ q⟩
def aui (trs:List (TE × TE)):TE:=fun σ H Q=>∀ p,H p=none->alp trs σ (upd H p (.dK [])) fun ps H2=>H2 p=some (.dK [])/\∃ kvs:List (Key × V),ps=kvs.map (fun kv=>(kV kv.1,kv.2))/\kvs.length<=15/\Q (.ref p) (upd H2 p (.dK (ae7 [] kvs)))
theorem au6 {X:Cx} {pos:Pos} {keys:List (Option Expr)} {b:List Expr} {g:List (TE × TE)} (h:PPs X pos keys b g) (f:keys.all (·.isSome)=true) (n:keys.length=b.length) (E:keys ≠ [])
  (i:keys.length<=15):PE X (.Dict keys b pos) (aui g):=by
 intro pins s σ H Q I q
 have hn:=I.hok.fresh (aA6 s.heap.objs.size)
 have D:=I.laid (a:=s.heap.objs.size) (o:=.dK []) (h':=s.heap.push { cls:=.type "dict",data:=.dict #[] }) (t':=s.toks) (fun _ _ q=>aI1 _ q) (aA6 _) (ar4 s.heap I.big)
 refine wpAny_Dict_walk (knd:=abc X.prog X.w) f n E i (thn (h pins _ σ _ _ D (q _ hn)) fun G s2 ⟨ps,H2,l,j,e,kvs,r,J,p⟩=>?_)
 subst r
 obtain ⟨rs,c,B⟩:=aic (P:=X.prog) (w:=X.w) j
 obtain ⟨z,hd,u,A,x⟩:=auh l.hok e
 cases A
 refine ⟨rs,c,x,fun h' d F=>⟨.ref s.heap.objs.size,_,?_,rfl,p⟩⟩
 have y:(ae7 [] kvs).length<=sizeLine:=by
  have C:=afy kvs []
  rw [aH8] at C
  rw [sizeLine_eq];omega
 have v:∃ q,h'.get? s.heap.objs.size=some q:=let ⟨q,_,_,m,_⟩:=d;⟨q,m⟩
 exact aja l (by rw [e];exact True.intro) F v (ap8 y hd (B.merge .nil) d)
structure M1 (X:Cx) (o:Expr) (m:Str) (apos:Pos) (e:Expr) (cpos:Pos):Prop where
 base:attributeBase o m X.env (eval o X.env)=eval o X.env
 few:((backTo cpos (starEach [e] X.env)).all (fun x => !x.1) && (backToKw cpos (keywordEach [] X.env)).all (fun x=>x.1.isSome)
  && decide (([e]:List Expr).length+([]:List Keyword).length+(if ([]:List Keyword).isEmpty then 0 else 1) < 30))=true
 line:(apos.endLine == cpos.line)=true
 trees:backTo cpos (starEach [e] X.env)=[(false,eval e X.env)]
def IsD (H:Hp) (a:Addr):Prop:=(∃ kvs,Rd H a (.dK kvs))\/∃ kvs,Rd H a (.dT kvs)
theorem axs {X:Cx} {pins:List (Addr × Obj)} {σ:St} {H:Hp} {s:Shared} {a:Addr} (I:Inv X pins σ H s) (d:IsD H a) :
  s.TypeIs (.ref a) "dict"/\(∀ b,Value.ref a=.ref b->∃ c,s.heap.get? b=some c/\c.dict=none)/\(a == sysModules)=false:=by
 rcases d with ⟨kvs,e⟩ | ⟨kvs,e⟩
 ·obtain ⟨_,hd,vs,_,f⟩:=agj I.hok e
  refine ⟨f.typeIs,fun b q=>?_,hd⟩
  cases q
  obtain ⟨c,_,_,h,g,_⟩:=f
  exact ⟨c,h,g.2.1⟩
 ·obtain ⟨_,hd,xs,_,f⟩:=agk I.hok e
  refine ⟨f.typeIs,fun b q=>?_,hd⟩
  cases q
  obtain ⟨c,_,_,h,g,_⟩:=f
  exact ⟨c,h,g.2.1⟩
section
variable {X:Cx} {pins:List (Addr × Obj)} {σ:St} {H:Hp} {s:Shared} {a:Addr} {y d:V} {u r:Value} {o:Option V} {A:Around} {E:Value->Shared->Prop}
theorem axt {Q:Value->Shared->Prop} (p:A.units+1 < cLine) (I:Inv X pins σ H s) (g:DGet H a y o) (i:RelV y u) (h:∀ j m,Inv X pins σ H m->RelV (o.getD .non) j->Q j m) :
  wpAny (model X.prog X.w) A (call (.builtin "dict.get") [.ref a,u]) Q E s:=by
 rcases g with ⟨kvs,k,e,f,l⟩ | ⟨kvs,k,b,e,f,n,l⟩
 ·subst f
  obtain ⟨z,hd,vs,c,d⟩:=agj I.hok e
  refine call_meetsIn PySem.F.slot_dict_get d.typeIs PySem.F.entry_dict_get (PySem.F.args_dict_get_2 _ _) (meets_dict_get (abc X.prog X.w) a (agi i) hd) ⟨_,d.mapOf,h _ _ (I.tok _) ?_⟩
  rw [l]
  exact (c.val k).getD rfl
 ·subst f
  cases (show u=Value.ref b from i)
  obtain ⟨z,hd,xs,c,d⟩:=agk I.hok e
  refine call_meetsIn PySem.F.slot_dict_get d.typeIs PySem.F.entry_dict_get (PySem.F.args_dict_get_2 _ _) (meetsH_dict_get (tupleKind (abc X.prog X.w)) a b hd) ⟨tupleKind_room_in1 p,k,xs,af1 I.hok n,d,h _ _ (I.tok _) ?_⟩
  rw [l]
  exact (c.val k).getD rfl
end
def alq (td ty:TE):TE:=fun σ H Q=>td σ H fun x H1=>∃ a,x=.ref a/\IsD H1 a/\ty σ H1 fun y H2=>∃ o,DGet H2 a y o/\Q (o.getD .non) H2
section
variable {X:Cx} {o e f:Expr} {apos cpos:Pos} {td ty tx:TE}
theorem ar8 (z:X.A.units+1 < cLine) (w:PE X o td) (n:PE X e ty) (m:M1 X o "get" apos e cpos):PE X (.Call (.Attribute o "get" apos) [e] [] cpos) (alq td ty):=by
 intro pins s σ H Q I h
 refine wpAny_Call_method m.base m.few m.line PySem.F.plainAttrs_dict PySem.F.slot_dict_get PySem.F.type_dict_get (thn (w pins s σ H _ I h) fun u s1 ⟨x,j,c,r,a,ex,d,l⟩=>?_)
 subst ex
 obtain rfl:u=Value.ref a:=r
 obtain ⟨t1,v,_⟩:=axs c d
 refine ⟨t1,v,?_⟩
 rw [m.trees]
 refine Calls.callWith_builtin rfl (Calls.evalArgs_plain (Calls.spliced_cons (thn (n pins s1 σ j _ c l) fun E s2 ⟨y,H2,q,p,C,g,i⟩=>Calls.spliced_nil ?_)))
 exact axt z q g p fun D B f b=>⟨_,H2,f,b,i⟩
end
section
variable {X:Cx} {pins:List (Addr × Obj)} {σ:St} {H:Hp} {s:Shared} {a:Addr} {kvs:List (Key × V)} {A:Around} {E:Value->Shared->Prop}
end
section
variable {X:Cx} {pins:List (Addr × Obj)} {σ:St} {H:Hp} {s:Shared} {a:Addr} {y:V} {u:Value} {A:Around} {E:Value->Shared->Prop}
end
end L2
namespace Att
open PySem PySem.W PySem.Calls PyProof.Rows
theorem aid {P:Params} {h:Heap}:∀ (ns:List Int) (vs:List Value),WellAll P h vs (ns.map WData.int)->IntsAre vs ns:=by
 intro ns
 induction ns with
 | nil =>
  intro vs w
  rw [List.map_nil] at w
  cases w
  exact .nil
 | cons n ns ih =>
  intro vs w
  rw [aD0] at w
  cases w with
  | cons a b =>
   cases a
   exact .cons _ _ (ih _ b)
theorem aqc {l:OpenLaw} {n:Nat} (hn:l.most=some n) {P:Params} {h:Heap} {args:List WData} {c:List Value}
  (b:l.row.toRowW.claim.pre args=true) (m:WellAll P h c args) :
  ∃ a vs ns,c=[Value.ref a]/\args=[WData.list (ns.map WData.int)]/\h.get? a=some { cls:=.type "list",data:=.seq vs.toArray }/\IntsAre vs ns/\ns.length<=n:=by
 have j:WShape.hasAll [] args [.list .int]=true:=(pre_splitW b).1
 have o:l.pre.holds [] { args:=args }=true:=(pre_splitW b).2
 obtain ⟨d,r,rfl,u,s⟩:=hasAllW_cons j
 obtain rfl:=hasAllW_nil s
 obtain ⟨xs,rfl,v⟩:=hasW_list u
 obtain ⟨ns,rfl⟩:=items_int v
 have f:ns.length<=n:=by
  unfold OpenLaw.pre at o
  have i:(WTm.not (.lt (.lit (.int (n:Int))) (.len (.arg 0)))).holds [] { args:=[.list (ns.map .int)] }=true:=by
   have i:=(holds_andW o).1
   rw [hn] at i
   exact i
  have g:=condW_of i (w_not (w_lt w_lit (w_len_list (w_arg rfl))))
  rw [aA3] at g
  refine Nat.le_of_not_lt fun q=>?_
  have p:(n:Int) < ((ns.length:Nat):Int):=by omega
  first
   | (rw [aD4 p] at g;exact absurd g (by decide))
   | (simp at g;omega)
 cases m with
 | cons w1 w2 =>
  cases w2
  cases w1 with
  | list ho hall=>exact ⟨_,_,ns,rfl,rfl,ho,aid ns _ hall,f⟩
theorem aqd (l:OpenLaw) (args:List WData):l.row.toRowW.claim.post args (.bool true) args=true :=
 postW_of (r:=l.row.toRowW) (X:=(true == true))
  (show WShape.has [] (.bool true) .bool=true by first | rfl | decide | simp [WShape.has,WShape.arms,WShape.armsAll])
  (show (WTm.eq .res (.lit (.bool true))).value [] { args:=args,res:=some (.bool true),after:=args }=some (.bool (true == true)) from w_eq_bool (w_res rfl) w_lit) rfl
theorem attach_call {l:OpenLaw} {n:Nat} {q:Program} {c:List Str} {y:(Str->Option Value)->Heap->Prop} {B:World->Heap->Prop} {d:DefRec}
  (hn:l.most=some n) (v:d.params.defaults=[])
  (call:∀ (w:World) (s₀ b:Shared) (mg mb:Str->Option Value) (fa:Addr) (o:Obj) (pm m doc:Value) (a:Addr) (vs:List Value) (ns:List Int),
   Ground q c [] y w s₀ mg mb b.heap->B w b.heap ->
   b.heap.get? fa=some o->o.data=.func (docDef d.name d.params d.body d.scope pm m doc)->b.heap.CodeRec m d.name->mg d.name=some (.ref fa) ->
   b.heap.get? a=some { cls:=.type "list",data:=.seq vs.toArray }->IntsAre vs ns->ns.length<=n->b.gens = #[] ->
   codeAny (model l.prog w) callerA (.call (.ref fa) ⟨[.ref a],[]⟩) (fun r p=>r=.ok (.ret (.bool true))/\OldK b.heap p.heap/\p.os=b.os/\AllBare p.gens) b) :
  WalkO q c y B l.row.toRowW d [] (fun f vs=>PySem.call f vs):=by
 intro w s₀ b mg mb G Y fa o pm m doc K kV I hd s C u E args A as h z L x H
 obtain rfl:K=.none:=Dflts.none C v
 obtain rfl:kV=.none:=Dflts.noKw C
 obtain ⟨a,vs,ns,rfl,rfl,i,g,j⟩:=aqc hn h x
 refine enter_call (codeAny_mono (call w s₀ b mg mb fa o pm m doc a vs ns G Y I (fd_plain hd) s u i g j E) fun r p D=>?_)
 obtain ⟨rfl,J,M,F⟩:=D
 exact ⟨.inl ⟨.bool true,.bool true,[],rfl,fun _=>rfl,.bool true,aqd l _,fun _=>⟨List.Pairwise.nil,fun _ hm=>(nomatch hm)⟩⟩,J,M,F⟩
section
variable {prog:Program} {w:World} {A:Around} {E:Value->Shared->Prop} {s:Shared} {K:Frag}
end
end Att
namespace L2
open PySem PySem.Spec PyProof.Rows
theorem af2:∀ {vs:List Value} {ns:List Int},IntsAre vs ns->Vals (ns.map V.int) vs
 | _,_,.nil => .nil
 | _,_,.cons n t h => .cons ⟨t,rfl⟩ (af2 h)
def Only (H:Hp):Prop:=∀ b,H b=none\/(∃ o xs,H b=some (.frz o (.lst xs)))\/∃ gs,H b=some (.tbl gs)
def ae8 (K:Frag) (h:Heap):Prop:=∀ c P,PySem.W.tabIn K lamN=some (c,P)->PySem.W.CodeHd h c P/\h.get? P=some (PySem.W.tabObj #[])/\K.lookup P=none
theorem au7 {P:Program} {w:World} {K:Frag} {h:Heap} {H:Hp} {a:Addr} {xs:List V} {n:Obj} (s:ae8 K h) (ha:h.get? a=some n) (p:n.cls ≠ .none) (j:∀ b,H b=none\/∃ o xs,H b=some (.frz o (.lst xs))) (m:SqL K H a xs) (hok:HOk P w H h) (f:∀ b,H b ≠ none->b=a) (l:H a ≠ none->K.lookup a=none) :
  ∃ H':Hp,Only H'/\SqL K H' a xs/\HOk P w H' h/\(∀ b,H' b ≠ none->(b=a/\K.lookup a=none)\/∃ c,PySem.W.tabIn K lamN=some (c,b))/\TabsOk K H':=by
 cases q:PySem.W.tabIn K lamN with
 | none =>
  refine ⟨H,fun b=>(j b).elim .inl fun z => .inr (.inl z),m,hok,fun b z => .inl ⟨f b z,l ?_⟩,fun c P e=>by rw [q] at e;cases e⟩
  have:=f b z;subst this;exact z
 | some cP =>
  obtain ⟨c,T⟩:=cP
  obtain ⟨_,i,A⟩:=s c T q
  have g:T ≠ a:=fun z=>by subst z;rw [ha] at i;cases i;exact p rfl
  have hn:H T=none:=by
   cases e:H T with
   | none=>rfl
   | some u=>exact absurd (f T (by rw [e];simp)) g
  refine ⟨upd H T (.tbl #[.str lamQ 0]),fun b=>?_,?_,fun b u z=>?_,fun b z=>?_,fun y x e=>?_⟩
  ·by_cases hb:b=T
   ·subst hb;exact .inr (.inr ⟨_,aah⟩)
   ·rw [aae hb];exact (j b).elim .inl fun z => .inr (.inl z)
  ·rcases m with (r | ⟨o,r⟩) | r
   ·exact .inl (.inl (by rw [aae (Ne.symm g)];exact r))
   ·exact .inl (.inr ⟨o,by rw [aae (Ne.symm g)];exact r⟩)
   ·exact .inr r
  ·by_cases hb:b=T
   ·subst hb
    rw [aah] at z;cases z
    exact ⟨#[],i,trivial,fun pos v e=>by simp [codeAmong] at e⟩
   ·rw [aae hb] at z
    exact (hok b u z).stay (fun _ _ _ r=>r) (fun d r=>by rw [aae (aak r hn)];exact r) fun d ys r=>by rw [aae (aak r hn)];exact r
  ·by_cases hb:b=T
   ·subst hb;exact .inr ⟨c,rfl⟩
   ·rw [aae hb] at z
    have:=f b z;subst this;exact .inl ⟨rfl,l z⟩
  ·rw [q] at e;cases e
   exact ⟨#[],by rw [aah];rfl⟩
theorem ar9 {P:Program} {w:World} {K:Frag} {mg mb:Str->Option Value} {CX:CXT} {k:Nat} {fa a:Addr} {fd:FuncData} {x:Str} {sp:Sp} {f:Shared} {vs:List Value} {ns:List Int}
  (KX:K.In f.heap) (L:f.heap.Ns mainGlobals mg) (hb:f.heap.Ns builtinsNs mb) (a0:∀ x:Str,x ≠ "__name__"->mb x=bootBuiltins x) (J:f.heap.NoLimit) (hg:f.gens = #[])
  (ha:f.heap.get? a=some { cls:=.type "list",data:=.seq vs.toArray }) (hi:IntsAre vs ns) (hl:ns.length<=sizeLine) (hr:Room k callerA) (i:ae8 K f.heap) (Z:at4 mg f.heap)
  (F:∀ base:Heap,K.In base->base.Ns mainGlobals mg->FnOk P w K mg base CX k fa fd [x] sp) (B:∀ (s:Shared) (u:Value),BindsTo s fd ⟨[u],[]⟩ [(x,u)])
  (Y:∀ H:Hp,Only H->SqL K H a (ns.map V.int)->sp [.ref a] H (fun v _=>v=.bl true) fun _ _ _=>False)
  (X:∀ H e l,CX [] H f (fun _ _ _=>False) e l->False) :
  codeAny (model P w) callerA (.call (.ref fa) ⟨[.ref a],[]⟩) (fun r l=>r=.ok (.ret (.bool true))/\OldK f.heap l.heap/\l.os=f.os/\AllBare l.gens) f:=by
 have rv:=af2 hi
 have E:=hi.length
 -- from an abstract heap in which nothing but the script may be tracked
 have y:∀ H:Hp,(∀ b,H b=none\/∃ o xs,H b=some (.frz o (.lst xs)))->SqL K H a (ns.map V.int)->HOk P w H f.heap->(∀ b,H b ≠ none->b=a)->(H a ≠ none->K.lookup a=none) ->
   codeAny (model P w) callerA (.call (.ref fa) ⟨[.ref a],[]⟩) (fun r l=>r=.ok (.ret (.bool true))/\OldK f.heap l.heap/\l.os=f.os/\AllBare l.gens) f:=by
  intro H R hS hok C hK
  obtain ⟨H,R,hS,hok,C,hT⟩:=au7 i ha (by intro z;cases z) R hS hok C hK
  have g:∀ {b:Addr} {o:Obj},f.heap.get? b=some o->H b=none->(hidT f.heap H).get? b=some o:=fun e n=>arz e n
  have W:∀ {b:Addr} {o:Obj} {es:Array DictEntry} {M:Nat},f.heap.get? b=some o->o.data=.dict es M->H b=none:=fun {b o es M} e d=>by
   cases q:H b with
   | none=>rfl
   | some u =>
    rcases C b (by rw [q];simp) with ⟨j,_⟩ | ⟨c,j⟩
    ·subst j
     rw [ha] at e;cases e
     have d':Data.seq vs.toArray _=Data.dict es M:=d
     cases d'
    ·have e2:=(i c b j).2.1
     rw [e2] at e;cases e;cases d
  have p:∀ {b:Addr} {m:Str->Option Value},f.heap.Ns b m->(hidT f.heap H).Ns b m:=fun {b m} ⟨o,es,M,e,d,r⟩=>⟨o,es,M,g e (W e d),d,r⟩
  have N:K.In (hidT f.heap H):=fun b o e=>g (KX b o e) (by
   cases q:H b with
   | none=>rfl
   | some u =>
    rcases C b (by rw [q];simp) with ⟨j,G⟩ | ⟨c,j⟩
    ·subst j
     rw [G] at e;cases e
    ·rw [(i c b j).2.2] at e;cases e)
  have hM:Mod K mg (hidT f.heap H):=⟨N,p L,⟨mb,p hb,a0⟩,let ⟨mc,h1,h2⟩:=J;⟨mc,p h1,h2⟩,by
   obtain ⟨Q,S,b1,b2,D,T,b5⟩:=Z
   refine ⟨Q,S,b1,b2,g D ?_,T,b5⟩
   cases q:H Q with
   | none=>rfl
   | some u =>
    rcases C Q (by rw [q];simp) with ⟨j,_⟩ | ⟨c,j⟩
    ·subst j
     rw [ha] at D;cases D
     have b6:Value.type "list" = Value.type "module":=T
     injection b6 with z
     exact absurd z (by decide)
    ·rw [(i c Q j).2.1] at D;cases D;cases T⟩
  have e0:Env0 P w K mg (hidT f.heap H) callerA [] f H:=⟨rfl,hM,fun b o e=>auw e,Nat.le_of_eq (apv _ _),trivial,fun b hb=>absurd (show b∈([]:List Addr) from hb) (by simp),hT,hok,.of_eq hg⟩
  refine codeAny_mono ((F _ N (p L)).run callerA [] f H ⟨[.ref a],[]⟩ [.ref a] [.ref a] _ _ hr e0 (B f (.ref a)) (.cons rfl .nil) (Y H R hS)) fun r l h=>?_
  cases r with
  | error e=>exact (X H e l h).elim
  | ok fl =>
   cases fl with
   | next=>exact False.elim h
   | brk=>exact False.elim h
   | cont=>exact False.elim h
   | ret u =>
    obtain ⟨v,H',os,bare,un,A,r',q⟩:=h
    have q':v=.bl true:=q
    subst q'
    obtain rfl:u=Value.bool true:=r'
    refine ⟨rfl,⟨fun b o e=>?_,fun b o e=>un.there b o e (by simp)⟩,os,bare⟩
    cases q:H b with
    | none=>exact .inl (un.keep b o e q (by intro z;exact absurd (show b∈([]:List Addr) from z) (by simp)) (by simp))
    | some u =>
     rcases R b with z | ⟨S,xs,z⟩ | ⟨gs,z⟩
     ·rw [q] at z;cases z
     ·refine .inl ?_
      have U:=un.frzs b S _ z
      obtain ⟨e1,_⟩:=hok b _ z
      obtain ⟨e2,_⟩:=A b _ U
      rw [e] at e1;cases e1
      exact e2
     ·obtain ⟨m,U⟩:=un.tbls b gs z
      obtain ⟨ps,e2,_⟩:=A b _ U
      rcases C b (by rw [q];simp) with ⟨j,_⟩ | ⟨c,j⟩
      ·subst j
       obtain ⟨a1,I,_⟩:=hok b _ z
       rw [ha] at I;cases I
      ·have I:=(i c b j).2.1
       rw [I] at e;cases e
       refine .inr (.inl ⟨((i c b j).1.tab I).isCodeTable,rfl,#[],ps,rfl,?_⟩)
       rw [e2];simp
 cases G:K.lookup a with
 | some o =>
  -- the script is one of the module's own objects
  have e:=KX a o G
  rw [ha] at e
  cases e
  refine y (fun _=>none) (fun _ => .inl rfl) (.inr ⟨_,vs.toArray,_,G,rfl,rfl,rfl,by rw [aB1,E];exact hl,by simpa using rv⟩) (fun b u z=>by have O:(none:Option HO)=some u:=z;cases O) (fun b z=>absurd rfl z) fun z=>absurd rfl z
 | none =>
  refine y (fun b=>if b=a then some (.frz { cls:=.type "list",data:=.seq vs.toArray } (.lst (ns.map V.int))) else none) (fun b=>?_) (.inl (.inr ⟨{ cls:=.type "list",data:=.seq vs.toArray },aE5 rfl⟩)) (fun b u z=>?_) (fun b z=>?_) fun _=>G
  ·by_cases hb:b=a
   ·exact .inr ⟨_,_,aE5 hb⟩
   ·exact .inl (aE6 hb)
  ·by_cases hb:b=a
   ·have O:=(aE5 hb).symm.trans z
    cases O
    subst hb
    exact ⟨ha,by rw [aA3];exact hl,vs,_,rv,ha⟩
   ·have O:=(aE6 hb).symm.trans z
    cases O
  ·by_cases hb:b=a
   ·exact hb
   ·exact absurd (aE6 hb) z
abbrev KOf {K:Frag} {h:Heap} (_:K.In h):Frag:=K
theorem walk_of {l:PySem.W.OpenLaw} {n k:Nat} {q:Program} {i:List Str} {P:(Str->Option Value)->Heap->Prop} {E:World->Heap->Prop} {d:DefRec} {K:Params->Frag} {CX:World->CXT} {sp:World->Sp} {x:Str}
  (hn:l.most=some n) (z:n<=sizeLine) (I:d.params.defaults=[]) (Q:Room k callerA)
  (R:∀ (w:World) (h:Heap),E w h->(K w.params).In h)
  (y:∀ (w:World) (lo:List Str) (mg mb:Str->Option Value) (m:ExcName->Option Value) (h:Heap),PyProof.Rows.Top q lo m mg mb h->E w h->ae8 (K w.params) h)
  (F:∀ (w:World) (mg:Str->Option Value) (fa:Addr) (h:Heap),(K w.params).In h->h.Ns mainGlobals mg->mg d.name=some (.ref fa) ->
   ∃ fd:FuncData,(∀ (s:Shared) (u:Value),BindsTo s fd ⟨[u],[]⟩ [(x,u)]) /\
    ∀ base:Heap,(K w.params).In base->base.Ns mainGlobals mg->FnOk l.prog w (K w.params) mg base (CX w) k fa fd [x] (sp w))
  (A:∀ (w:World) (H:Hp) (a:Addr) (ns:List Int),ns.length<=n->Only H->SqL (K w.params) H a (ns.map V.int)->sp w [.ref a] H (fun v _=>v=.bl true) fun _ _ _=>False)
  (B:∀ (w:World) (H:Hp) (s:Shared) (e:Value) (D:Shared),CX w [] H s (fun _ _ _=>False) e D->False) :
  PySem.W.WalkO q i P E l.row.toRowW d [] (fun f vs=>PySem.call f vs):=by
 refine Att.attach_call hn I fun w s₀ p mg mb fa o pm U doc a vs ns G Y X hd O C r j c M=>?_
 have J:=R w _ Y
 obtain ⟨fd,hb,N⟩:=F w mg fa _ J G.T.g C
 exact ar9 J G.T.g G.T.b G.T.builtins G.T.nolimit M r j (aC9 c z) Q (y w _ _ _ _ _ G.T Y) G.T.bmain N hb (fun H L S=>A w H a ns c L S) fun H e D=>B w H p e D
end L2
/- THE LAST THEOREM (shape; LID, My.* are yours):
  My.Adr: a structure of the addresses that your layer names (classes,functions);My.Txt K t: a structure (Prop) of the equations over K;
  My.txt_mk:{K} {implicit addresses ..} (e1:nsIn K mainGlobals "law" = some (some (.ref f))) (e2:K.lookup f=some ⟨oc,od,.func (fnOf "law" "law" params body scope dV kV doc pm an cdv ct),sl⟩) (e3:codeIn K cdv "law" = true) .. : ∃ t,My.Txt K t
set_option maxRecDepth 100000 in
set_option maxHeartbeats 0 in
theorem PySem.Challenge.cw_LID_holds : PySem.Challenge.rw_LID.Holds := by
 w_on;o_law;k_head;(case hw=>w_witness2)
 k_fill
 refine L2.walk_of (l:=PySem.Challenge.rw_LID) (n:=63) (k:=40) (x:="script") (CX:=fun w => ..) (sp:=fun _=>My.sp_law) rfl (by decide) rfl ⟨rfl,by decide,by decide⟩ (fun w h Y=>PySem.W.kIn_of Y) ?F ?S ?C
 case F =>
  intro w mg fa h KX G hmg
  have T:∃ t,My.Txt (L2.KOf KX) t:=by
   dsimp only [L2.KOf]                          -- K must stand as «<heap const> w.params» for k_is
   refine' My.txt_mk ?e1 ?e2 ?e3 ..
   (case e1=>PySem.W.k_is)                    -- in the order: a name -> its address -> its object -> its parts
   (case e2=>PySem.W.k_is)
   ..
  obtain ⟨t,T⟩:=T
  have e0:=hmg.symm.trans (mg_of KX G T.law)
  cases e0                                       -- fa is the law's own address
  exact ⟨_,fun s u => .of_eq rfl,fun base kb nb=>My.law_fn T kb nb⟩     -- if «.of_eq rfl» comes too early: refine' ⟨_,?b,fun base kb nb=>My.law_fn T kb nb⟩;exact fun s u => .of_eq rfl
 case S=>exact fun w H a ns hl hO hS => ..
 case C=>exact ..
(the tactic k_is has no namespace: write k_is) -/
namespace L2
open PySem PySem.Spec PyProof.Rows
def ach (s:Stmt):Arguments:=match s with
 | .FunctionDef _ a _ _ _ _ _ _ _ _=>a
 | _=>{ posonlyargs:=[],args:=[],vararg:=none,kwonlyargs:=[],kw_defaults:=[],kwarg:=none,defaults:=[] }
def ab1 (s:Stmt):List Stmt:=match s with
 | .FunctionDef _ _ b _ _ _ _ _ _ _=>b
 | _=>[]
def aal (s:Stmt):Scope:=match s with
 | .FunctionDef _ _ _ _ _ _ sc _ _ _=>sc
 | _=>{ kind:=.function,names:=[],isGenerator:=false,isCoroutine:=false }
abbrev CX0:CXT:=fun _ _ _ _ _ _=>False
abbrev E0:XK:=fun _ _ _=>False
theorem azp {X:Cx}:alh CX0 X E0:=fun _ _ _ _ _ _ _ h=>h.elim
structure Fun (K:Frag) (x qual:Str) (st:Stmt) (f:Addr) (fd:FuncData):Prop where
 ex:∃ (oc:Value) (od:Option Addr) (kV doc pm:Value) (an:Option Addr) (cdv ct:Value) (osl:Array (Option Value)),
  fd=fnOf x qual (ach st) (ab1 st) (aal st) .none kV doc pm an cdv ct/\K.lookup f=some ⟨oc,od,.func fd,osl⟩/\codeIn K cdv qual=true
 kp:keepIn K (.ref f)=true
section
variable {P:Program} {w:World} {K:Frag} {mg:Str->Option Value} {base:Heap}
theorem Fun.ok {x qual:Str} {st:Stmt} {f:Addr} {fd:FuncData} {N ps:List Str} {k:Nat} {sp:Sp} (F:Fun K x qual st f fd) (S:FnScope N ps (aal st)) (len:∀ vs H Q E,sp vs H Q E->vs.length=ps.length)
  (a:∀ (cdv:Value) (A:Around) (outer:List Env) (s:Shared) (H:Hp) (vs:List V) (Q:VK) (E:XK),Room k (A.deeper (envOfC qual (aal st) s.heap.objs.size f cdv))->sp vs H Q E ->
   ∃ t,PSs (cxOf CX0 P w K mg base N qual (aal st) f cdv A outer s H E).nox (ab1 st) t/\t { nx:=fun _ H'=>Q .non H',rt:=Q } (start N vs) H):FnOk P w K mg base CX0 (k+1) f fd ps sp:=by
 obtain ⟨oc,od,kV,doc,pm,an,cdv,ct,osl,rfl,g,c⟩:=F.ex
 refine aud g c S len fun A outer s H vs Q E d b=>?_
 obtain ⟨t,h,q⟩:=a cdv A outer s H vs Q E d b
 exact ⟨t,h.nox,q⟩
theorem Fun.binds {x qual:Str} {st:Stmt} {f:Addr} {fd:FuncData} {ps:List Str} (F:Fun K x qual st f fd)
  (h:∀ (kV doc pm:Value) (an:Option Addr) (cdv ct:Value) (us:List Value),us.length=ps.length->bindArgs (fnOf x qual (ach st) (ab1 st) (aal st) .none kV doc pm an cdv ct) ⟨us,[]⟩=pure (ps.zip us)):Binds K fd ps []:=by
 obtain ⟨oc,od,kV,doc,pm,an,cdv,ct,osl,rfl,b,a⟩:=F.ex
 exact .all (h kV doc pm an cdv ct)
theorem axu {x qual:Str} {st:Stmt} {f:Addr} {oc:Value} {od an:Option Addr} {osl:Array (Option Value)} {kV doc pm cdv ct:Value} (l:K.lookup f=some ⟨oc,od,.func (fnOf x qual (ach st) (ab1 st) (aal st) .none kV doc pm an cdv ct),osl⟩)
  (c:codeIn K cdv qual=true) (k:keepIn K (.ref f)=true):Fun K x qual st f (fnOf x qual (ach st) (ab1 st) (aal st) .none kV doc pm an cdv ct):=⟨⟨oc,od,kV,doc,pm,an,cdv,ct,osl,rfl,l,c⟩,k⟩
end
theorem aen {A:Around} {k:Nat} (a:Room k A):A.units+1 < cLine:=aD6 (Nat.add_le_add_left (by decide:1<=64) _) a.units
theorem aeo {n:Nat} (h:n<=1000):n < sizeLine:=aD6 h (by decide)
section
variable {X:Cx}
theorem pv (i:Nat) {x:Str} {pos:Pos} (b:X.N[i]?=some x:=by rfl) (c:Vis X.env.scope x:=by first | exact Or.inl rfl | exact Or.inr (Or.inl rfl) | exact Or.inr (Or.inr rfl)) (hd:(x == ("__debug__" : Str))=false:=by decide)
  (a:(x == ("__classdict__" : Str))=false:=by decide):PE X (.Name x pos) (tVar i):=axf b c hd a
end
theorem iteF {A B:Prop} (h:B):if false=true then A else B:=by
 rw [aE6 aA9]
 exact h
theorem iteT {A B:Prop} (h:A):if true=true then A else B:=by
 rw [aE5 rfl]
 exact h
def Same (H H':Hp):Prop:=∀ b o,H b=some o->H' b=some o
theorem Same.refl (H:Hp):Same H H:=fun _ _ h=>h
theorem Same.trans {H d H2:Hp} (a:Same H d) (b:Same d H2):Same H H2:=fun c o h=>b c o (a c o h)
theorem Same.free {H H':Hp} (e:Same H H') {l:Addr} (h:H' l=Option.none):H l=Option.none:=by
 cases q:H l with
 | none=>rfl
 | some o =>
  rw [e l o q] at h
  cases h
theorem Same.seq {K:Frag} {H H':Hp} {a:Addr} {xs:List V} (e:Same H H') (h:SqL K H a xs):SqL K H' a xs:=by
 rcases h with (h | ⟨o,h⟩) | h
 ·exact .inl (.inl (e _ _ h))
 ·exact .inl (.inr ⟨o,e _ _ h⟩)
 ·exact .inr h
section
variable {X:Cx}
end
section
variable {κ:Type} [DecidableEq κ]
end
def clos (env:Env):List (Str × NameKind)->List (Str × Addr)->List (Str × Addr)
 | [],cs=>cs
 | (n,k) :: r,cs=>if k == NameKind.free then (match env.cells.lookup n with | some a=>clos env r ((n,a) :: cs) | none=>clos env r cs) else clos env r cs
theorem aie {env:Env} {sc:Scope} (h:∀ n,(n,NameKind.free)∈sc.names->∃ a,env.cells.lookup n=some a):closureFor sc env=pure (clos env sc.names []):=by
 have all:∀ (l:List (Str × NameKind)) (cs:List (Str × Addr)),(∀ n,(n,NameKind.free)∈l->∃ a,env.cells.lookup n=some a) ->
   (forIn l cs fun (x:Str × NameKind) (cs:List (Str × Addr))=>match x with | (name,kind)=>if kind == NameKind.free then (do let a ← cellOf env name;pure (ForInStep.yield ((name,a) :: cs))) else pure (ForInStep.yield cs))=(pure (clos env l cs):Sem _):=by
  intro l
  induction l with
  | nil=>intro cs _;rfl
  | cons p r ih =>
   intro cs c
   obtain ⟨n,k⟩:=p
   rw [List.forIn_cons]
   unfold clos
   dsimp only
   cases hk:(k == NameKind.free) with
   | false =>
    simp only [Bool.false_eq_true,if_false,pure_bind]
    exact ih cs fun m hm=>c m (aB4 _ hm)
   | true =>
    have f:k=NameKind.free:=by simpa using hk
    subst f
    obtain ⟨a,ha⟩:=c n aB7
    have d:cellOf env n=pure a:=by unfold cellOf;rw [ha]
    simp only [if_true,d,pure_bind,ha]
    exact ih _ fun m hm=>c m (aB4 _ hm)
 have e:=all sc.names [] h
 unfold closureFor
 refine Eq.trans (b:=(pure (clos env sc.names []):Sem _) >>= fun cs=>pure cs) ?_ (pure_bind _ _)
 exact congrArg (fun z:Sem (List (Str × Addr))=>z >>= fun cs=>pure cs) e
theorem aep {env:Env} {x:Str} {c:Addr}:∀ {l:List (Str × NameKind)} {cs:List (Str × Addr)},(clos env l cs).lookup x=some c->env.cells.lookup x=some c\/cs.lookup x=some c
 | [],cs,h => .inr h
 | (n,k) :: r,cs,h=>by
  unfold clos at h
  by_cases hk:(k == NameKind.free)=true
  ·rw [aE5 hk] at h
   cases ha:env.cells.lookup n with
   | none=>rw [ha] at h;exact aep h
   | some a =>
    rw [ha] at h
    rcases aep h with e | e
    ·exact .inl e
    ·rw [aF9] at e
     cases hx:(x == n) with
     | true =>
      rw [hx] at e
      have:x=n:=by simpa using hx
      subst this
      cases e
      exact .inl ha
     | false=>rw [hx] at e;exact .inr e
  ·rw [aE6 hk] at h
   exact aep h
theorem aeq {env:Env} {x:Str}:∀ {l:List (Str × NameKind)} {cs:List (Str × Addr)},(∃ c,cs.lookup x=some c)->∃ c,(clos env l cs).lookup x=some c
 | [],cs,h=>h
 | (n,k) :: r,cs,h=>by
  unfold clos
  by_cases hk:(k == NameKind.free)=true
  ·rw [aE5 hk]
   cases ha:env.cells.lookup n with
   | none=>exact aeq h
   | some a =>
    refine aeq ?_
    rw [aF9]
    cases hx:(x == n) with
    | true=>exact ⟨_,rfl⟩
    | false=>exact h
  ·rw [aE6 hk]
   exact aeq h
theorem aee {env:Env} {x:Str} (h:∃ a,env.cells.lookup x=some a):∀ {l:List (Str × NameKind)} {cs:List (Str × Addr)},(x,NameKind.free)∈l->∃ c,(clos env l cs).lookup x=some c
 | [],_,hm=>absurd hm (by simp)
 | (n,k) :: r,cs,hm=>by
  rcases aA8.mp hm with e | hm
  ·cases e
   obtain ⟨a,ha⟩:=h
   unfold clos
   rw [aE5 (by rfl),ha]
   refine aeq ⟨a,?_⟩
   rw [aF9]
   simp
  ·unfold clos
   by_cases hk:(k == NameKind.free)=true
   ·rw [aE5 hk]
    cases ha:env.cells.lookup n with
    | none=>exact aee h hm
    | some a=>exact aee h hm
   ·rw [aE6 hk]
    exact aee h hm
theorem af3 {env:Env} {x:Str}:∀ {names:List (Str × NameKind)},(∀ y∈names,y.2 ≠ .cell) ->
  ((names.map fun (n,k)=>if (k == NameKind.free && env.scope.kind == .function && env.kindOf n == some .cell) then (n,NameKind.cell) else (n,k)).lookup x=some .cell ∨
   (names.map fun (n,k)=>if (k == NameKind.free && env.scope.kind == .function && env.kindOf n == some .cell) then (n,NameKind.cell) else (n,k)).lookup x=some .free)->names.lookup x=some .free
 | [],_,h=>by rcases h with h | h <;> simp at h
 | (n,k) :: r,hc,h=>by
  have a:=@af3 env x r fun y b=>hc y (aB4 _ b)
  rw [aF9]
  simp only [aD0] at h
  by_cases hq:(k == NameKind.free && env.scope.kind == .function && env.kindOf n == some .cell)=true
  ·rw [aE5 hq] at h
   have c:k=NameKind.free:=by
    have:=hq;simp only [aG1] at this;simpa using this.1.1
   subst c
   cases hx:(x == n) with
   | true=>rfl
   | false=>simp only [aF9,hx] at h;exact a h
  ·rw [aE6 hq] at h
   cases hx:(x == n) with
   | true =>
    simp only [aF9,hx] at h
    rcases h with h | h
    ·cases h;exact absurd rfl (hc (n,NameKind.cell) aB7)
    ·exact h
   | false=>simp only [aF9,hx] at h;exact a h
theorem aer {env:Env} {x:Str}:∀ {names:List (Str × NameKind)},names.lookup x=some .free ->
  ((names.map fun (n,k)=>if (k == NameKind.free && env.scope.kind == .function && env.kindOf n == some .cell) then (n,NameKind.cell) else (n,k)).lookup x=some .cell ∨
   (names.map fun (n,k)=>if (k == NameKind.free && env.scope.kind == .function && env.kindOf n == some .cell) then (n,NameKind.cell) else (n,k)).lookup x=some .free)
 | [],h=>by simp at h
 | (n,k) :: r,h=>by
  have a:=@aer env x r
  rw [aF9] at h
  simp only [aD0]
  by_cases hq:(k == NameKind.free && env.scope.kind == .function && env.kindOf n == some .cell)=true
  ·rw [aE5 hq]
   cases hx:(x == n) with
   | true=>left;simp [aF9,hx]
   | false=>rw [hx] at h;simp only [aF9,hx];exact a h
  ·rw [aE6 hq]
   cases hx:(x == n) with
   | true=>rw [hx] at h;right;simp only [aF9,hx];exact h
   | false=>rw [hx] at h;simp only [aF9,hx];exact a h
def Cx.comp (X:Cx) (N:List Str) (sc:Scope) (C:Addr) (s0:Shared) (H0:Hp) (ex:List Addr):Cx where
 prog:=X.prog
 w:=X.w
 K:=X.K
 mg:=X.mg
 base:=X.base
 A:=X.A
 N:=N
 s₀:=s0
 H₀:=H0
 env:=compEnvC sc (clos X.env sc.names []) C X.env
 outer:=X.stack
 stack:=X.stack
 ex:=ex
 fn:=fun _=>false
 calm:=X.calm
 pn:=[]
 xe:=fun _ _=>False
def pick (src:List (Option Nat)) (σ:St):St:=src.map fun o=>match o with | some j=>(σ[j]?).getD none | none=>none
structure LcOk (X:Cx) (N:List Str) (sc:Scope) (src:List (Option Nat)):Prop where
 kind:sc.kind=.function
 nocell:∀ y∈sc.names,y.2 ≠ .cell
 own:∀ y∈sc.names,y.2=.local->sc.names.lookup y.1=some .local
 outs:∀ y∈sc.names,y.2=.free->X.env.kindOf y.1=some .cell\/X.env.kindOf y.1=some .free
 len:src.length=N.length
 from':∀ (i j:Nat),src[i]?=some (some j)->∃ x,N[i]?=some x/\X.N[j]?=some x/\sc.names.lookup x=some .free
theorem LcOk.clo {X:Cx} {N:List Str} {sc:Scope} {src:List (Option Nat)} (L:LcOk X N sc src) (ok:X.Ok):closureFor sc X.env=pure (clos X.env sc.names []) :=
 aie fun n hn=>ok.has n (L.outs (n,.free) hn rfl)
theorem alr {X:Cx} {pins:List (Addr × Obj)} {σ:St} {H:Hp} {s:Shared} {N:List Str} {sc:Scope} {src:List (Option Nat)} {fp:List Addr} {h:Heap} {t':Nat}
  (L:LcOk X N sc src) (I:Inv X pins σ H s) (hf:∀ b∈fp,FpOk X pins H b) (f:∀ b∈fp,b < s.heap.objs.size)
  (hn:h.Ns s.heap.objs.size fun _=>none) (d:∀ b o,s.heap.get? b=some o->h.get? b=some o) :
  Inv (X.comp N sc s.heap.objs.size s H fp) [] (pick src σ) H { s with heap:=h,toks:=t' }:=by
 have look:∀ {x c},(clos X.env sc.names []).lookup x=some c->X.env.cells.lookup x=some c:=fun {x c} e=>by
  rcases aep e with z | z
  ·exact z
  ·simp at z
 refine ⟨⟨I.ok.mod,L.kind,I.ok.glob,I.ok.blt,aA6 _,fun x y c A e2=>?_,fun x J=>?_,fun x c z _=>?_,I.ok.hd,I.ok.frames,.inl rfl,fun b hb=>⟨?_,fun x c e=>?_⟩,I.bs,aC9 I.ok.bsz I.sz,fun b o e hb=>?_,fun b hb z=>?_,I.stack,I.stkFree,I.tab⟩,
  rfl,I.bare,Un.kept d,⟨_,hn,fun i x v A e2 O=>?_⟩,fun x c e=>?_,I.hok.fresh (aA6 _),fun x c e=>I.freeC x c (look e),fun p G=>?_,I.hok.kept d,?_⟩
 ·exact I.ok.inj x y c (look A) (look e2)
 ·have q:=af3 (env:=X.env) (x:=x) L.nocell J
  exact aee (I.ok.has x (L.outs (x,.free) (PySem.mem_of_lookup q) rfl)) (PySem.mem_of_lookup q)
 ·exact Bool.noConfusion z
 ·exact aB5 (f b hb)
 ·exact (hf b hb).2.2.2.2.1 x c (look e)
 ·rcases (hf b hb).2.2.2.1 with z | z
  ·exact I.ok.noex b o e z
  ·exact absurd (aC4 (aI2 e) (aC9 I.ok.bsz z)) (aF4 _)
 ·rcases aA8.mp (I.stkSub b z) with q | q
  ·exact (hf b hb).2.1 q
  ·exact (hf b hb).2.2.1 q
 ·unfold pick at e2
  rw [aA5] at e2
  cases q:src[i]? with
  | none=>rw [q] at e2;cases e2
  | some o =>
   rw [q] at e2
   cases o with
   | none=>cases e2
   | some j =>
    obtain ⟨y,C,K,g⟩:=L.from' i j q
    have n:N[i]?=some x:=A
    rw [n] at C
    cases C
    have M : σ[j]?=some (some v):=by
     cases q2 : σ[j]? with
     | none=>simp [q2] at e2
     | some z=>simp [q2] at e2;rw [e2]
    have f:=L.outs (x,.free) (PySem.mem_of_lookup g) rfl
    have w:Vis X.env.scope x:=by
     rcases f with z | z
     ·exact .inr (.inl z)
     ·exact .inr (.inr z)
    obtain ⟨m,_,F⟩:=I.loc
    obtain ⟨u,r,l⟩:=F j x v K M w
    refine ⟨u,r,.inr ⟨?_,?_⟩⟩
    ·exact aer (env:=X.env) g
    ·rcases l with ⟨z,_⟩ | ⟨_,c,B,oc,a,hd⟩
     ·rcases f with E | E <;> (rw [E] at z;cases z)
     ·obtain ⟨P,D⟩:=aee (env:=X.env) ⟨c,B⟩ (PySem.mem_of_lookup g) (cs:=[])
      have:=look D
      rw [B] at this;cases this
      exact ⟨c,D,oc,d c oc a,hd⟩
 ·obtain ⟨v,oc,a,hd⟩:=I.cell x c (look e)
  exact ⟨v,oc,d c oc a,hd⟩
 ·exact absurd (show p∈([]:List (Addr × Obj)) from G) (by simp)
 ·show (pick src σ).length=N.length
  unfold pick
  rw [aA3]
  exact L.len
def PIf (X:Cx) (ifs:List Expr) (t:TT):Prop :=
 ∀ (pins:List (Addr × Obj)) (s:Shared) (σ:St) (H:Hp) (Q:Bool->Hp->Prop),Inv X pins σ H s->t σ H Q ->
  wpAny (model X.prog X.w) X.A (forIn ifs true fun c r=>if r=true then do let ok ← isTrue c X.env (eval c X.env);pure (ForInStep.yield ok) else pure (ForInStep.yield r)) (TP X pins σ Q) X.xe s
def tYes:TT:=fun _ H Q=>Q true H
theorem abm {X:Cx}:PIf X [] tYes:=fun _ _ _ H _ I h=>wpAny_tests_nil ⟨H,I,h⟩
theorem ant {X:Cx} {c:Expr} {t:TT} (h:PT X c t):PIf X [c] t:=fun pins s σ H Q I q=>wpAny_tests_one (h pins s σ H Q I q)
abbrev LW:=Nat->Nat->List V->St->Hp->Prop
def als (J:It) (g:TG) (tif:TT) (te:TE) (acc:Addr) (Qd:List V->Hp->Prop) (W:LW):Prop:=∀ (i m:Nat) (ys:List V) (σ:St) (H:Hp),W i m ys σ H->H acc=some (.lst ys)/\((J.stop i H/\Qd ys H)\/(J.go i H /\
 ∃ Nx:List V->St->Hp->Prop,(∀ ys' σ' H',Nx ys' σ' H'->∃ m',m' < m/\W (i+1) m' ys' σ' H')/\∀ x H2,J.yld i H x H2 ->
 g x σ H2 fun σ3 H3=>tif σ3 H3 fun b H4=>if b=true then te σ3 H4 fun y H5=>H5 acc=some (.lst ys)/\ys.length < sizeLine/\Nx (ys ++ [y]) σ3 (upd H5 acc (.lst (ys ++ [y]))) else Nx ys σ3 H4))
theorem aqe {X:Cx} {tg iter B:Expr} {D:List Expr} {sc:Scope} {pos:Pos} {J:It} {fp:List Addr} {it:Addr} {tn:Nat->Heap->Prop} {g:TG} {N:TT} {te:TE} {a:Addr} {Qd:List V->Hp->Prop} {W:LW} {R:Result->Shared->Prop}
  (T:Turn X.prog X.w X.K tg J fp it tn) (hc:X.calm=true) (p:∀ e s,¬ X.xe e s) (hg:PG X tg g) (Y:PIf X D N) (he:PE X B te)
  (L:als J g N te a Qd W) (hR:∀ ys σ H s,Inv X [] σ H s->Qd ys H->R (.ok .next) s)
  {i m:Nat} {ys:List V} {σ:St} {H:Hp} {s:Shared} (I:Inv X [] σ H s) (st:tn i s.heap) (hf:∀ b∈fp,FpOk X [] H b) (w:W i m ys σ H) :
  codeAny (model X.prog X.w) X.A (.compLoop (.ListComp B [⟨tg,iter,D,0⟩] sc pos) 0 (.ref it) (.ref a) X.env) R s:=by
 have h:∀ {H':Hp},(∀ b∈fp,H' b=none)->∀ b∈fp,FpOk X [] H' b:=fun hn b hb=>⟨hn b hb,(hf b hb).2⟩
 refine codeAny_loop rfl (fun n j=>∃ i ys c H',Inv X [] c H' j/\tn i j.heap/\(∀ b∈fp,H' b=none)/\W i n ys c H') ?_ m ⟨i,ys,σ,H,I,st,fun b hb=>(hf b hb).1,w⟩
 rintro n s1 ⟨i,ys,f,Q,I1,F,P,w1⟩
 show wpAny _ X.A ((compTurn (.ListComp B [⟨tg,iter,D,0⟩] sc pos) 0 (.ref it) (.ref a) X.env).onRaise (fun x=>do noteFrame x X.env;theTreesLotGoes x)) _ _ s1
 refine wpAny_noted ?_
 rw [compTurn_list]
 refine aH9 (wpAny_standAt (aH9 ?_))
 obtain ⟨a2,⟨stop,qd⟩ | ⟨go,Nx,G,step⟩⟩:=L i n ys f Q w1
 ·refine thn (T.done X rfl rfl rfl hc i [] s1 f Q _ I1 (h P) F stop) fun r s2 ⟨Z,I2⟩=>?_
  subst Z
  exact aI0 (hR ys f Q s2 I2 qd)
 ·refine thn (T.item X rfl rfl rfl hc i [] s1 f Q _ I1 (h P) F go) fun r s2 ⟨u,Z,h2⟩=>?_
  subst Z
  refine aH9 (thn h2 fun _ s3 ⟨x,H3,I3,r3,y3,v,a0⟩=>?_)
  have a1:=I3.pinned (h a0) (T.obj _ _ v)
  refine aH9 (aI6 (hg _ s3 f H3 x u _ a1 r3 (step x H3 y3)) (fun _ s4 ⟨C,H4,I4,q4⟩=>?_) fun e j z=>(p e j z).elim)
  have q:∀ {l:St} {E:Hp} {O:Shared} {zs:List V},Inv X ([] ++ aed fp s3.heap) l E O->(∃ U,U < n/\W (i+1) U zs l E)->∃ m,m < n/\∃ i ys c H',Inv X [] c H' O/\tn i O.heap/\(∀ b∈fp,H' b=none)/\W i m ys c H':=fun {l E O zs} M w7=>by
   obtain ⟨U,hm,w7⟩:=w7
   refine ⟨U,hm,i+1,zs,l,E,M.unpinned,T.keep _ _ _ v fun b hb o e=>(M.pin (b,o) (aB2 _ (aB2 _ (ab7 hb e)))).1,fun b hb=>?_,w7⟩
   obtain ⟨o,e,d⟩:=T.obj _ _ v b hb
   exact (M.pin (b,o) (aB2 _ (aB2 _ (ab7 hb e)))).2.1
  refine aH9 (aI6 (Y _ s4 C H4 _ I4 q4) (fun b s5 ⟨H5,I5,S⟩=>?_) fun e j z=>(p e j z).elim)
  cases b with
  | false =>
   rw [aE6 aA9] at S
   exact aI0 ⟨rfl,q I5 (G _ _ _ S)⟩
  | true =>
   rw [aE5 rfl] at S
   refine aH9 (aH9 (aI6 (he _ s5 C H5 _ I5 S) (fun yv s6 ⟨y,H6,I6,r6,a6,l6,w6⟩=>?_) fun e j z=>(p e j z).elim))
   have ap:=aa1 (X:=X) _ s6 C H6 (.ref a) [y] (.ref a) [yv] (fun _ H'=>H'=upd H6 a (.lst (ys ++ [y]))) I6 rfl (.cons r6 .nil) ⟨a,ys,y,rfl,rfl,a6,l6,rfl⟩
   refine aH9 (aI6 ap (fun _ O ⟨v7,E,M,_,e7⟩=>?_) fun e j z=>(p e j z).elim)
   subst e7
   exact aI0 (aI0 ⟨rfl,q M (G _ _ _ w6)⟩)
def tLC (src:List (Option Nat)) (wi:TI) (g:TG) (tif:TT) (te:TE):TE:=fun σ H Q=>wi σ H fun J H1=>∀ acc,H1 acc=none->∃ W:LW,(∃ m,W 0 m [] (pick src σ) (upd H1 acc (.lst [])))/\als J g tif te acc (fun _ H'=>Q (.ref acc) H') W
section
variable {X:Cx} {N:List Str} {tg iter elt:Expr} {ifs:List Expr} {sc:Scope} {src:List (Option Nat)} {wi:TI} {g:TG} {tif:TT} {te:TE} {pos:Pos}
theorem au8 (U:X.calm=true) (L:LcOk X N sc src) (hg:∀ C s0 E ex,PG (X.comp N sc C s0 E ex) tg g) (H:∀ C s0 E ex,PIf (X.comp N sc C s0 E ex) ifs tif) (he:∀ C s0 E ex,PE (X.comp N sc C s0 E ex) elt te)
  {pins:List (Addr × Obj)} {d:Shared} {σ:St} {H3:Hp} {Q:VK} (j:Inv X pins σ H3 d) {it a:Addr} {fp:List Addr} {J:It} {tn:Nat->Heap->Prop} (T:Turn X.prog X.w X.K tg J fp it tn) (s:tn 0 d.heap) (l:∀ b∈fp,FpOk X pins H3 b)
  {W:LW} {m0:Nat} (S:W 0 m0 [] (pick src σ) H3) (n:als J g tif te a (fun _ H'=>Q (.ref a) H') W) (use:Option (Value->Sem Unit)) (P:Value->Shared->Prop)
  (Y:∀ C H' f m,Inv X pins σ H' f->Q (.ref a) H'->f.heap.Ns C m->H' C=none->C ≠ X.env.locals->(C∈X.ex\/X.s₀.heap.objs.size<=C)->(∀ x c,X.env.cells.lookup x=some c->c ≠ C)->(∀ p∈X.pn ++ pins,p.1 ≠ C) ->
   compPost (model X.prog X.w) X.A X.xe use P (.ref a) C (.ok .next) f) :
  wpAny (model X.prog X.w) X.A (newFunctionEnv sc X.env.globals (clos X.env sc.names []) [] X.env.qual none .none (some X.env)) (fun h r =>
    codeAny (model X.prog X.w) X.A (.compStart (.ListComp elt [⟨tg,iter,ifs,0⟩] sc pos) 0 (.ref it) (.ref a) { h with scope:=relabel sc X.env }) (compPost (model X.prog X.w) X.A X.xe use P (.ref a) h.locals) r) X.xe d:=by
 refine wpAny_newFunctionEnv L.nocell (by intro y Z;simp at Z) (fun I D B=>?_) L.kind
 have R:∀ b∈fp,b < d.heap.objs.size:=fun b hb=>by
  obtain ⟨o,O,_⟩:=T.obj _ _ s b hb
  exact aI2 O
 have F:∀ b o,d.heap.get? b=some o->I.get? b=some o:=fun b o e=>B.extBut b o (aB5 (aI2 e)) (aI1 _ e)
 have G:=alr (t':=d.toks+([]:List (Str × Value)).length) L j l R (by simpa using D) F
 have u:tn 0 I:=T.keep _ _ _ s fun b _ o e=>F b o e
 have f4:∀ b∈fp,FpOk (X.comp N sc d.heap.objs.size d H3 fp) [] H3 b:=fun b hb =>
  ⟨(l b hb).1,(G.ok.exf b hb).1,G.ok.exfs b hb,.inl hb,(G.ok.exf b hb).2,fun p M=>absurd (show p∈([]:List (Addr × Obj)) from M) (by simp)⟩
 have fin:∀ (ys:List V) q H' f,Inv (X.comp N sc d.heap.objs.size d H3 fp) [] q H' f->Q (.ref a) H'->compPost (model X.prog X.w) X.A X.xe use P (.ref a) d.heap.objs.size (.ok .next) f:=fun ys q H' f i q'=>by
  have Jo:Inv X pins σ H' f:=j.call' (ch:=fp) i.os i.base i.hok i.bare fun b hb=>⟨(l b hb).2.2.2.1,(l b hb).2.1,(l b hb).2.2.2.2.1,(l b hb).2.2.2.2.2⟩
  obtain ⟨m,hn,_⟩:=i.loc
  refine Y _ H' f m Jo q' hn i.free (Nat.ne_of_gt j.lt) (.inr j.sz) (fun x c e z=>?_) fun p M z=>?_
  ·obtain ⟨v,o,O,_⟩:=j.cell x c e
   exact absurd (aI2 O) (by rw [z];exact aF4 _)
  ·exact absurd (aI2 (j.pin p M).1) (by rw [z];exact aF4 _)
 have loop:codeAny (model X.prog X.w) X.A (.compLoop (.ListComp elt [⟨tg,iter,ifs,0⟩] sc pos) 0 (.ref it) (.ref a) (X.comp N sc d.heap.objs.size d H3 fp).env)
   (compPost (model X.prog X.w) X.A X.xe use P (.ref a) d.heap.objs.size) { d with heap:=I,toks:=d.toks+([]:List (Str × Value)).length } :=
  aqe (X:=X.comp N sc d.heap.objs.size d H3 fp) T U (fun _ _ z=>z) (hg _ _ _ _) (H _ _ _ _) (he _ _ _ _) n fin G u f4 S
 exact codeAny_compStart_list loop (T.self _ 0 _ _ _ u loop)
theorem alt (B:X.calm=true) (L:LcOk X N sc src) (hi:PI X tg iter wi) (D:∀ C s0 f ex,PG (X.comp N sc C s0 f ex) tg g) (l:∀ C s0 f ex,PIf (X.comp N sc C s0 f ex) ifs tif) (E:∀ C s0 f ex,PE (X.comp N sc C s0 f ex) elt te)
  {pins:List (Addr × Obj)} {s:Shared} {σ:St} {H:Hp} {Q:VK} (I:Inv X pins σ H s) (h:tLC src wi g tif te σ H Q) (use:Option (Value->Sem Unit)) (P:Value->Shared->Prop)
  (F:∀ j C H' n m,Inv X pins σ H' n->Q (.ref j) H'->n.heap.Ns C m->H' C=none->C ≠ X.env.locals->(C∈X.ex\/X.s₀.heap.objs.size<=C)->(∀ x c,X.env.cells.lookup x=some c->c ≠ C)->(∀ p∈X.pn ++ pins,p.1 ≠ C) ->
   compPost (model X.prog X.w) X.A X.xe use P (.ref j) C (.ok .next) n)
  (R:∀ x,foldedSetIterable iter X.env x=pure x) :
  wpAny (model X.prog X.w) X.A (comprehension (.ListComp elt [⟨tg,iter,ifs,0⟩] sc pos) sc X.env (firstIterPos [⟨tg,iter,ifs,0⟩] pos) (newList []) false (eval iter X.env) use) P X.xe s:=by
 refine wpAny_comprehension_free rfl R (L.clo I.ok) L.kind L.own (thn (hi pins s σ H _ I h) fun v s1 O=>thn O fun G s2 M=>?_)
 obtain ⟨it,fp,tn,J,H2,e,y,T,d,r,S⟩:=M
 subst e
 have i:H2 s2.heap.objs.size=none:=y.hok.fresh (aA6 _)
 obtain ⟨W,⟨U,z⟩,a⟩:=S s2.heap.objs.size i
 have q:∀ b∈fp,b < s2.heap.objs.size:=fun b hb=>by
  obtain ⟨o,K,_⟩:=T.obj _ _ d b hb
  exact aI2 K
 refine aI7 ?_
 refine au8 B L D l E (H3:=upd H2 s2.heap.objs.size (.lst [])) ?_ T ?_ ?_ z a use P (F _)
 ·exact y.laid (t':=s2.toks) (fun b u e=>aI1 _ e) (aA6 _) ⟨aF0 _,[],0,.nil,aI3 _ rfl⟩
 ·exact T.keep _ _ _ d fun b _ o e=>aI1 _ e
 ·exact fun b hb=>⟨by rw [aae (aB5 (q b hb))];exact (r b hb).1,(r b hb).2⟩
theorem ac1 (i:X.calm=true) (L:LcOk X N sc src) (hi:PI X tg iter wi) (j:∀ C s0 a ex,PG (X.comp N sc C s0 a ex) tg g) (c:∀ C s0 a ex,PIf (X.comp N sc C s0 a ex) ifs tif) (p:∀ C s0 a ex,PE (X.comp N sc C s0 a ex) elt te)
  (w:∀ x,foldedSetIterable iter X.env x=pure x:=by intro _;rfl):PE X (.ListComp elt [⟨tg,iter,ifs,0⟩] sc pos) (tLC src wi g tif te):=by
 intro pins s σ H Q I h
 rw [eval_ListComp]
 refine alt i L hi j c p I h none _ (fun f C H' v m J q hn u l r d n=>?_) w
 refine ⟨m,hn,fun h' sb=>⟨.ref f,H',?_,rfl,q⟩⟩
 exact J.turned (t':=v.toks) (fun b o hb e=>sb.extBut b o hb e) u l r d n
end
section
variable {X:Cx} {N:List Str} {tg iter elt:Expr} {ifs:List Expr} {sc:Scope} {src:List (Option Nat)} {wi:TI} {g:TG} {tif:TT} {te:TE} {pos spos px:Pos}
theorem ahg {i:Nat} {x:Str} (K:X.N.Nodup) (n:X.N[i]?=some x) (O:Loc X.env.scope x) (E:X.calm=true) (L:LcOk X N sc src) (hi:PI X tg iter wi) (F:∀ C s0 c ex,PG (X.comp N sc C s0 c ex) tg g)
  (j:∀ C s0 c ex,PIf (X.comp N sc C s0 c ex) ifs tif) (M:∀ C s0 c ex,PE (X.comp N sc C s0 c ex) elt te)
  (l:swapsWith (.ListComp elt [⟨tg,iter,ifs,0⟩] sc pos) (some (.Name x px)) spos.line X.env=pure true:=by rfl)
  (hf:X.fn x=true\/X.env.scope.names.lookup x=some .local:=by first | exact .inl rfl | exact .inr rfl | assumption)
  (Q:∀ x,foldedSetIterable iter X.env x=pure x:=by intro _;rfl):PS X (.Assign [.Name x px] (.ListComp elt [⟨tg,iter,ifs,0⟩] sc pos) spos) (tAsg (tLC src wi g tif te) (aas i)):=by
 intro pins s σ H D I h
 rw [exec_Assign_Name_used _ _ _ _ l]
 refine aH9 (wpAny_standAt (aH9 ?_))
 show wpAny _ X.A (do let _ ← comprehension (.ListComp elt [⟨tg,iter,ifs,0⟩] sc pos) sc X.env _ (newList []) false (eval iter X.env) (some (assign (.Name x px) X.env))) _ _ s
 refine aH9 (aI6 (alt E L hi F j M I h (some (assign (.Name x px) X.env)) (fun _ r=>SP X pins D .next r) (fun f C H' r m J q hn P y w d G=>?_) Q) (fun _ r B=>aI0 (aI0 B)) fun _ _ e=>e)
 show wpAny _ X.A (assign (.Name x px) X.env (.ref f)) _ _ _
 refine wpAny_assign_Name (aju J K n O (v:=.ref f) rfl (fun s2 R ⟨a,sb,ha⟩=>?_) hf)
 have p:C ≠ a:=by
  rcases ha with z | z
  ·rw [z];exact y
  ·exact (d x a z).symm
 refine ⟨m,hn.sameBut sb p,fun h' u=>⟨_,H',?_,q⟩⟩
 exact R.turned (t':=s2.toks) (fun b o hb e=>u.extBut b o hb e) P y w d G
end
section
variable {g:TG} {tif:TT} {te:TE} {acc:Addr} {Qd:List V->Hp->Prop} {σ0:St} {H0:Hp}
end
def anu (J:It) (g:TG) (tif:TT) (te:TE) (acc:Addr) (Qd:List V->St->Hp->Prop) (W:LW):Prop:=∀ (i m:Nat) (ys:List V) (σ:St) (H:Hp),W i m ys σ H->H acc=some (.lst ys)/\((J.stop i H/\Qd ys σ H)\/(J.go i H /\
 ∃ Nx:List V->St->Hp->Prop,(∀ ys' σ' H',Nx ys' σ' H'->∃ m',m' < m/\W (i+1) m' ys' σ' H')/\∀ x H2,J.yld i H x H2 ->
 g x σ H2 fun σ3 H3=>tif σ3 H3 fun b H4=>if b=true then te σ3 H4 fun y H5=>H5 acc=some (.lst ys)/\ys.length < sizeLine/\Nx (ys ++ [y]) σ3 (upd H5 acc (.lst (ys ++ [y]))) else Nx ys σ3 H4))
def ajb (J:It) (g:TG) (tif:TT) (wi2:TI) (g2:TG) (tif2:TT) (te:TE) (acc:Addr) (Qd:List V->Hp->Prop) (W:LW):Prop:=∀ (i m:Nat) (ys:List V) (σ:St) (H:Hp),W i m ys σ H->((J.stop i H/\Qd ys H)\/(J.go i H /\
 ∃ Nx:List V->St->Hp->Prop,(∀ ys' σ' H',Nx ys' σ' H'->∃ m',m' < m/\W (i+1) m' ys' σ' H')/\∀ x H2,J.yld i H x H2 ->
 g x σ H2 fun σ3 H3=>tif σ3 H3 fun b H4=>if b=true then wi2 σ3 H4 fun J2 H5=>∃ W2:LW,(∃ m2,W2 0 m2 ys σ3 H5)/\anu J2 g2 tif2 te acc Nx W2 else Nx ys σ3 H4))
theorem akh (a t1 i1 f d:Expr) (f1 g:List Expr) (sc:Scope) (pos:Pos) (it b:Value) (env:Env) :
  compTurn (.ListComp a [⟨t1,i1,f1,0⟩,⟨f,d,g,0⟩] sc pos) 0 it b env=(do
   standAt i1.pos
   match ← pyNext it with
   | none=>pure (.done .next)
   | some v =>
    letOwnedTupleGo t1 it v
    assign t1 env v
    let mut ok:=true
    for c in f1 do
     if ok then ok ← isTrue c env (eval c env)
    if ok then
     let x ← eval d env
     standAt d.pos
     let x ← foldedSetIterable d env x
     let _ ← runOwn (.compStart (.ListComp a [⟨t1,i1,f1,0⟩,⟨f,d,g,0⟩] sc pos) 1 (← holding [x] (pyIter x)) b env) env
    again (.compLoop (.ListComp a [⟨t1,i1,f1,0⟩,⟨f,d,g,0⟩] sc pos) 0 it b env)):=by rfl
theorem aki (a t1 i1 d f:Expr) (f1 g:List Expr) (sc:Scope) (pos:Pos) (it b:Value) (env:Env) :
  compTurn (.ListComp a [⟨t1,i1,f1,0⟩,⟨d,f,g,0⟩] sc pos) 1 it b env=(do
   standAt f.pos
   match ← pyNext it with
   | none=>pure (.done .next)
   | some v =>
    letOwnedTupleGo d it v
    assign d env v
    let mut ok:=true
    for c in g do
     if ok then ok ← isTrue c env (eval c env)
    if ok then
     (do let _ ← call (.builtin "list.append") [b,← eval a env])
    again (.compLoop (.ListComp a [⟨t1,i1,f1,0⟩,⟨d,f,g,0⟩] sc pos) 1 it b env)):=by rfl
theorem aqf {prog:Program} {w:World} {A:Around} {R:Result->Shared->Prop} {s:Shared} {b t1 i1 j g:Expr} {f1 i:List Expr} {sc:Scope} {pos:Pos} {it d:Value} {env:Env}
  (l:codeAny (model prog w) A (.compLoop (.ListComp b [⟨t1,i1,f1,0⟩,⟨j,g,i,0⟩] sc pos) 1 it d env) R s)
  (h:wpAny (model prog w) A (pyIter it) (fun a c=>codeAny (model prog w) A (.compLoop (.ListComp b [⟨t1,i1,f1,0⟩,⟨j,g,i,0⟩] sc pos) 1 a d env) R c) (notedBy (model prog w) A env fun x c=>R (.error x) c) s) :
  codeAny (model prog w) A (.compStart (.ListComp b [⟨t1,i1,f1,0⟩,⟨j,g,i,0⟩] sc pos) 1 it d env) R s:=by
 refine codeAny_of_tree ?_
 show wpAny _ _ ((compStart (.ListComp b [⟨t1,i1,f1,0⟩,⟨j,g,i,0⟩] sc pos) 1 it d env).onRaise (fun x=>do noteFrame x env;standAt theWindowsPlace)) _ _ s
 refine wpAny_notedAt ?_
 unfold compStart
 show wpAny _ _ (ask >>= _) _ _ s
 apply aH9;apply wpAny_askSetting;apply wpAny_ite;split
 ·first | exact aH9 (aI0 (aI0 ⟨rfl,l⟩)) | exact aI0 ⟨rfl,l⟩
 ·have q:wpAny (model prog w) A (pyIter it >>= fun a=>again (.compLoop (.ListComp b [⟨t1,i1,f1,0⟩,⟨j,g,i,0⟩] sc pos) 1 a d env)) (fun fin c=>match fin with | .done f=>R (.ok f) c | .again c'=>c'.quiet=true/\codeAny (model prog w) A c' R c) (notedBy (model prog w) A env fun x c=>R (.error x) c) s :=
   aH9 (aI6 h (fun a c h'=>aI0 ⟨rfl,h'⟩) fun _ _ x=>x)
  first
   | exact aH9 (wpAny_rule (aH9 (wpAny_standAt (aH9 (aI6 h (fun a c h'=>aI0 ⟨rfl,h'⟩) fun _ _ x=>x)))))
   | (apply aH9;apply wpAny_rule;show wpAny _ _ (standAt g.pos >>= _) _ _ s;exact aH9 (wpAny_standAt (aH9 (aI6 h (fun a c h'=>aI0 ⟨rfl,h'⟩) fun _ _ x=>x))))
theorem aoz {X:Cx} {B t1 i1 tg iter:Expr} {f1 D:List Expr} {sc:Scope} {pos:Pos} {J:It} {fp:List Addr} {it:Addr} {tn:Nat->Heap->Prop} {g:TG} {N:TT} {te:TE} {a:Addr} {Qd:List V->St->Hp->Prop} {W:LW} {R:Result->Shared->Prop} {pins:List (Addr × Obj)}
  (T:Turn X.prog X.w X.K tg J fp it tn) (hc:X.calm=true) (p:∀ e s,¬ X.xe e s) (hg:PG X tg g) (Y:PIf X D N) (he:PE X B te)
  (L:anu J g N te a Qd W) (hR:∀ ys σ H s,Inv X pins σ H s->Qd ys σ H->R (.ok .next) s)
  {i m:Nat} {ys:List V} {σ:St} {H:Hp} {s:Shared} (I:Inv X pins σ H s) (st:tn i s.heap) (hf:∀ b∈fp,FpOk X pins H b) (w:W i m ys σ H) :
  codeAny (model X.prog X.w) X.A (.compLoop (.ListComp B [⟨t1,i1,f1,0⟩,⟨tg,iter,D,0⟩] sc pos) 1 (.ref it) (.ref a) X.env) R s:=by
 have h:∀ {H':Hp},(∀ b∈fp,H' b=none)->∀ b∈fp,FpOk X pins H' b:=fun hn b hb=>⟨hn b hb,(hf b hb).2⟩
 refine codeAny_loop rfl (fun n j=>∃ i ys c H',Inv X pins c H' j/\tn i j.heap/\(∀ b∈fp,H' b=none)/\W i n ys c H') ?_ m ⟨i,ys,σ,H,I,st,fun b hb=>(hf b hb).1,w⟩
 rintro n s1 ⟨i,ys,f,Q,I1,F,P,w1⟩
 show wpAny _ X.A ((compTurn (.ListComp B [⟨t1,i1,f1,0⟩,⟨tg,iter,D,0⟩] sc pos) 1 (.ref it) (.ref a) X.env).onRaise (fun x=>do noteFrame x X.env;theTreesLotGoes x)) _ _ s1
 refine wpAny_noted ?_
 rw [aki]
 refine aH9 (wpAny_standAt (aH9 ?_))
 obtain ⟨a2,⟨stop,qd⟩ | ⟨go,Nx,G,step⟩⟩:=L i n ys f Q w1
 ·refine thn (T.done X rfl rfl rfl hc i pins s1 f Q _ I1 (h P) F stop) fun r s2 ⟨Z,I2⟩=>?_
  subst Z
  exact aI0 (hR ys f Q s2 I2 qd)
 ·refine thn (T.item X rfl rfl rfl hc i pins s1 f Q _ I1 (h P) F go) fun r s2 ⟨u,Z,h2⟩=>?_
  subst Z
  refine aH9 (thn h2 fun _ s3 ⟨x,H3,I3,r3,y3,v,a0⟩=>?_)
  have a1:=I3.pinned (h a0) (T.obj _ _ v)
  refine aH9 (aI6 (hg _ s3 f H3 x u _ a1 r3 (step x H3 y3)) (fun _ s4 ⟨C,H4,I4,q4⟩=>?_) fun e j z=>(p e j z).elim)
  have q:∀ {l:St} {E:Hp} {O:Shared} {zs:List V},Inv X (pins ++ aed fp s3.heap) l E O->(∃ U,U < n/\W (i+1) U zs l E)->∃ m,m < n/\∃ i ys c H',Inv X pins c H' O/\tn i O.heap/\(∀ b∈fp,H' b=none)/\W i m ys c H':=fun {l E O zs} M w7=>by
   obtain ⟨U,hm,w7⟩:=w7
   refine ⟨U,hm,i+1,zs,l,E,M.unpinned,T.keep _ _ _ v fun b hb o e=>(M.pin (b,o) (aB2 _ (aB2 _ (ab7 hb e)))).1,fun b hb=>?_,w7⟩
   obtain ⟨o,e,d⟩:=T.obj _ _ v b hb
   exact (M.pin (b,o) (aB2 _ (aB2 _ (ab7 hb e)))).2.1
  refine aH9 (aI6 (Y _ s4 C H4 _ I4 q4) (fun b s5 ⟨H5,I5,S⟩=>?_) fun e j z=>(p e j z).elim)
  cases b with
  | false =>
   rw [aE6 aA9] at S
   exact aI0 ⟨rfl,q I5 (G _ _ _ S)⟩
  | true =>
   rw [aE5 rfl] at S
   refine aH9 (aH9 (aI6 (he _ s5 C H5 _ I5 S) (fun yv s6 ⟨y,H6,I6,r6,a6,l6,w6⟩=>?_) fun e j z=>(p e j z).elim))
   have ap:=aa1 (X:=X) _ s6 C H6 (.ref a) [y] (.ref a) [yv] (fun _ H'=>H'=upd H6 a (.lst (ys ++ [y]))) I6 rfl (.cons r6 .nil) ⟨a,ys,y,rfl,rfl,a6,l6,rfl⟩
   refine aH9 (aI6 ap (fun _ O ⟨v7,E,M,_,e7⟩=>?_) fun e j z=>(p e j z).elim)
   subst e7
   exact aI0 (aI0 ⟨rfl,q M (G _ _ _ w6)⟩)
theorem ao0 {X:Cx} {D t1 i1 t2 N:Expr} {f1 f2:List Expr} {sc:Scope} {pos:Pos} {J:It} {fp:List Addr} {it:Addr} {tn:Nat->Heap->Prop} {g:TG} {U:TT} {S:TI} {g2:TG} {v:TT} {te:TE} {E:Addr} {Qd:List V->Hp->Prop} {W:LW} {R:Result->Shared->Prop}
  (T:Turn X.prog X.w X.K t1 J fp it tn) (hc:X.calm=true) (l:∀ e s,¬ X.xe e s) (hg:PG X t1 g) (a1:PIf X f1 U) (a5:PI X t2 N S) (a3:PG X t2 g2) (P:PIf X f2 v) (he:PE X D te)
  (a2:∀ x,foldedSetIterable N X.env x=pure x)
  (O:ajb J g U S g2 v te E Qd W) (hR:∀ ys σ H s,Inv X [] σ H s->Qd ys H->R (.ok .next) s)
  {i m:Nat} {ys:List V} {σ:St} {H:Hp} {s:Shared} (I:Inv X [] σ H s) (st:tn i s.heap) (hf:∀ b∈fp,FpOk X [] H b) (w:W i m ys σ H) :
  codeAny (model X.prog X.w) X.A (.compLoop (.ListComp D [⟨t1,i1,f1,0⟩,⟨t2,N,f2,0⟩] sc pos) 0 (.ref it) (.ref E) X.env) R s:=by
 have p:∀ {H':Hp},(∀ b∈fp,H' b=none)->∀ b∈fp,FpOk X [] H' b:=fun hn b hb=>⟨hn b hb,(hf b hb).2⟩
 refine codeAny_loop rfl (fun n c=>∃ i ys a H',Inv X [] a H' c/\tn i c.heap/\(∀ b∈fp,H' b=none)/\W i n ys a H') ?_ m ⟨i,ys,σ,H,I,st,fun b hb=>(hf b hb).1,w⟩
 rintro n s1 ⟨i,ys,j,H1,I1,G,Z,w1⟩
 show wpAny _ X.A ((compTurn (.ListComp D [⟨t1,i1,f1,0⟩,⟨t2,N,f2,0⟩] sc pos) 0 (.ref it) (.ref E) X.env).onRaise (fun x=>do noteFrame x X.env;theTreesLotGoes x)) _ _ s1
 refine wpAny_noted ?_
 rw [akh]
 refine aH9 (wpAny_standAt (aH9 ?_))
 obtain ⟨stop,qd⟩ | ⟨go,Nx,M,step⟩:=O i n ys j H1 w1
 ·refine thn (T.done X rfl rfl rfl hc i [] s1 j H1 _ I1 (p Z) G stop) fun r s2 ⟨hr,I2⟩=>?_
  subst hr
  exact aI0 (hR ys j H1 s2 I2 qd)
 ·refine thn (T.item X rfl rfl rfl hc i [] s1 j H1 _ I1 (p Z) G go) fun r s2 ⟨u,hr,h2⟩=>?_
  subst hr
  refine aH9 (thn h2 fun _ s3 ⟨x,H3,I3,r3,y3,C,a4⟩=>?_)
  have a7:=I3.pinned (p a4) (T.obj _ _ C)
  refine aH9 (aI6 (hg _ s3 j H3 x u _ a7 r3 (step x H3 y3)) (fun _ s4 ⟨a0,H4,I4,q4⟩=>?_) fun e c z=>(l e c z).elim)
  have y:∀ {q:St} {F:Hp} {Y:Shared} {zs:List V},Inv X ([] ++ aed fp s3.heap) q F Y->(∃ m',m' < n/\W (i+1) m' zs q F)->∃ m,m < n/\∃ i ys a H',Inv X [] a H' Y/\tn i Y.heap/\(∀ b∈fp,H' b=none)/\W i m ys a H':=fun {q F Y zs} Q w7=>by
   obtain ⟨m',hm,w7⟩:=w7
   refine ⟨m',hm,i+1,zs,q,F,Q.unpinned,T.keep _ _ _ C fun b hb o e=>(Q.pin (b,o) (aB2 _ (aB2 _ (ab7 hb e)))).1,fun b hb=>?_,w7⟩
   obtain ⟨o,e,d⟩:=T.obj _ _ C b hb
   exact (Q.pin (b,o) (aB2 _ (aB2 _ (ab7 hb e)))).2.1
  refine aH9 (aI6 (a1 _ s4 a0 H4 _ I4 q4) (fun b s5 ⟨H5,I5,q5⟩=>?_) fun e c z=>(l e c z).elim)
  cases b with
  | false =>
   rw [aE6 aA9] at q5
   exact aI0 ⟨rfl,y I5 (M _ _ _ q5)⟩
  | true =>
   rw [aE5 rfl] at q5
   refine aH9 (aI6 (a5 _ s5 a0 H5 _ I5 q5) (fun xv s6 h6=>?_) fun e c z=>(l e c z).elim)
   refine aH9 (wpAny_standAt (aH9 ?_))
   rw [a2 xv]
   refine aI0 (aH9 (aI4 (aI6 h6 (fun b0 Y h7=>?_) fun e c z=>(l e c z).elim)))
   obtain ⟨b1,b2,b3,J2,F,e,Q,T2,L,a6,W2,⟨m2,w2⟩,B⟩:=h7
   subst e
   refine aH9 (wpAny_runOwn ?_)
   have loop:=aoz (R:=fun r c=>match r with | .ok f=>(∃ m,m < n/\∃ i ys a H',Inv X [] a H' c/\tn i c.heap/\(∀ b∈fp,H' b=none)/\W i m ys a H') | .error e=>False) (t1:=t1) (i1:=i1) (f1:=f1) (iter:=N) (sc:=sc) (pos:=pos) T2 hc l a3 P he B (fun a9 a8 H8 s8 I8 q8=>y I8 (M _ _ _ q8)) Q L a6 w2
   have st:=aqf loop (T2.self _ 0 _ _ _ L loop)
   refine codeAny_mono st fun r c h=>?_
   cases r with
   | error e=>exact h.elim
   | ok f=>exact aI0 ⟨rfl,h⟩
def tLC2 (src:List (Option Nat)) (wi:TI) (g:TG) (tif:TT) (wi2:TI) (g2:TG) (tif2:TT) (te:TE):TE:=fun σ H Q=>wi σ H fun J H1=>∀ acc,H1 acc=none->∃ W:LW,(∃ m,W 0 m [] (pick src σ) (upd H1 acc (.lst [])))/\ajb J g tif wi2 g2 tif2 te acc (fun _ H'=>Q (.ref acc) H') W
section
variable {X:Cx} {N:List Str} {t1 i1 t2 i2 elt:Expr} {f1 f2:List Expr} {sc:Scope} {src:List (Option Nat)} {wi wi2:TI} {g g2:TG} {tif tif2:TT} {te:TE} {pos:Pos}
theorem asa (hc:X.calm=true) (L:LcOk X N sc src) (hg:∀ C s0 f ex,PG (X.comp N sc C s0 f ex) t1 g) (I:∀ C s0 f ex,PIf (X.comp N sc C s0 f ex) f1 tif) (O:∀ C s0 f ex,PI (X.comp N sc C s0 f ex) t2 i2 wi2) (S:∀ C s0 f ex,PG (X.comp N sc C s0 f ex) t2 g2) (s:∀ C s0 f ex,PIf (X.comp N sc C s0 f ex) f2 tif2) (he:∀ C s0 f ex,PE (X.comp N sc C s0 f ex) elt te)
  (R:∀ C s0 f ex x,foldedSetIterable i2 (X.comp N sc C s0 f ex).env x=pure x)
  {pins:List (Addr × Obj)} {d:Shared} {σ:St} {H3:Hp} {Q:VK} (l:Inv X pins σ H3 d) {it a:Addr} {fp:List Addr} {J:It} {tn:Nat->Heap->Prop} (T:Turn X.prog X.w X.K t1 J fp it tn) (B:tn 0 d.heap) (n:∀ b∈fp,FpOk X pins H3 b)
  {W:LW} {m0:Nat} (w0:W 0 m0 [] (pick src σ) H3) (q:ajb J g tif wi2 g2 tif2 te a (fun _ H'=>Q (.ref a) H') W) (use:Option (Value->Sem Unit)) (P:Value->Shared->Prop)
  (hP:∀ C H' h m,Inv X pins σ H' h->Q (.ref a) H'->h.heap.Ns C m->H' C=none->C ≠ X.env.locals->(C∈X.ex\/X.s₀.heap.objs.size<=C)->(∀ x c,X.env.cells.lookup x=some c->c ≠ C)->(∀ p∈X.pn ++ pins,p.1 ≠ C) ->
   compPost (model X.prog X.w) X.A X.xe use P (.ref a) C (.ok .next) h) :
  wpAny (model X.prog X.w) X.A (newFunctionEnv sc X.env.globals (clos X.env sc.names []) [] X.env.qual none .none (some X.env)) (fun i u =>
    codeAny (model X.prog X.w) X.A (.compStart (.ListComp elt [⟨t1,i1,f1,0⟩,⟨t2,i2,f2,0⟩] sc pos) 0 (.ref it) (.ref a) { i with scope:=relabel sc X.env }) (compPost (model X.prog X.w) X.A X.xe use P (.ref a) i.locals) u) X.xe d:=by
 refine wpAny_newFunctionEnv L.nocell (by intro y hy;simp at hy) (fun M F E=>?_) L.kind
 have Z:∀ b∈fp,b < d.heap.objs.size:=fun b hb=>by
  obtain ⟨o,Y,_⟩:=T.obj _ _ B b hb
  exact aI2 Y
 have G:∀ b o,d.heap.get? b=some o->M.get? b=some o:=fun b o e=>E.extBut b o (aB5 (aI2 e)) (aI1 _ e)
 have H:=alr (t':=d.toks+([]:List (Str × Value)).length) L l n Z (by simpa using F) G
 have D:tn 0 M:=T.keep _ _ _ B fun b _ o e=>G b o e
 have f4:∀ b∈fp,FpOk (X.comp N sc d.heap.objs.size d H3 fp) [] H3 b:=fun b hb =>
  ⟨(n b hb).1,(H.ok.exf b hb).1,H.ok.exfs b hb,.inl hb,(H.ok.exf b hb).2,fun p U=>absurd (show p∈([]:List (Addr × Obj)) from U) (by simp)⟩
 have fin:∀ (ys:List V) r H' h,Inv (X.comp N sc d.heap.objs.size d H3 fp) [] r H' h->Q (.ref a) H'->compPost (model X.prog X.w) X.A X.xe use P (.ref a) d.heap.objs.size (.ok .next) h:=fun ys r H' h j q'=>by
  have Jo:Inv X pins σ H' h:=l.call' (ch:=fp) j.os j.base j.hok j.bare fun b hb=>⟨(n b hb).2.2.2.1,(n b hb).2.1,(n b hb).2.2.2.2.1,(n b hb).2.2.2.2.2⟩
  obtain ⟨m,hn,_⟩:=j.loc
  refine hP _ H' h m Jo q' hn j.free (Nat.ne_of_gt l.lt) (.inr l.sz) (fun x c e z=>?_) fun p U z=>?_
  ·obtain ⟨v,o,Y,_⟩:=l.cell x c e
   exact absurd (aI2 Y) (by rw [z];exact aF4 _)
  ·exact absurd (aI2 (l.pin p U).1) (by rw [z];exact aF4 _)
 have loop:codeAny (model X.prog X.w) X.A (.compLoop (.ListComp elt [⟨t1,i1,f1,0⟩,⟨t2,i2,f2,0⟩] sc pos) 0 (.ref it) (.ref a) (X.comp N sc d.heap.objs.size d H3 fp).env)
   (compPost (model X.prog X.w) X.A X.xe use P (.ref a) d.heap.objs.size) { d with heap:=M,toks:=d.toks+([]:List (Str × Value)).length } :=
  ao0 (X:=X.comp N sc d.heap.objs.size d H3 fp) T hc (fun _ _ z=>z) (hg _ _ _ _) (I _ _ _ _) (O _ _ _ _) (S _ _ _ _) (s _ _ _ _) (he _ _ _ _) (R _ _ _ _) q fin H D f4 w0
 exact codeAny_compStart_list loop (T.self _ 0 _ _ _ D loop)
theorem aqg (B:X.calm=true) (L:LcOk X N sc src) (hi:PI X t1 i1 wi) (D:∀ C s0 a ex,PG (X.comp N sc C s0 a ex) t1 g) (l:∀ C s0 a ex,PIf (X.comp N sc C s0 a ex) f1 tif) (r:∀ C s0 a ex,PI (X.comp N sc C s0 a ex) t2 i2 wi2) (p:∀ C s0 a ex,PG (X.comp N sc C s0 a ex) t2 g2) (d:∀ C s0 a ex,PIf (X.comp N sc C s0 a ex) f2 tif2) (G:∀ C s0 a ex,PE (X.comp N sc C s0 a ex) elt te)
  (Y:∀ x,foldedSetIterable i1 X.env x=pure x:=by intro _;rfl) (n:∀ C s0 a ex x,foldedSetIterable i2 (X.comp N sc C s0 a ex).env x=pure x:=by intros;rfl):PE X (.ListComp elt [⟨t1,i1,f1,0⟩,⟨t2,i2,f2,0⟩] sc pos) (tLC2 src wi g tif wi2 g2 tif2 te):=by
 intro pins s σ H Q I h
 rw [eval_ListComp]
 refine wpAny_comprehension_free rfl Y (L.clo I.ok) L.kind L.own (thn (hi pins s σ H _ I h) fun v s1 R=>thn R fun M s2 P=>?_)
 obtain ⟨it,fp,tn,J,H2,e,z,T,f,j,Z⟩:=P
 subst e
 have i:H2 s2.heap.objs.size=none:=z.hok.fresh (aA6 _)
 obtain ⟨W,⟨m0,A⟩,c⟩:=Z s2.heap.objs.size i
 have y:∀ b∈fp,b < s2.heap.objs.size:=fun b hb=>by
  obtain ⟨o,O,_⟩:=T.obj _ _ f b hb
  exact aI2 O
 refine aI7 ?_
 refine asa (pins:=pins) B L D l r p d G n (H3:=upd H2 s2.heap.objs.size (.lst [])) ?_ T ?_ ?_ A c none _ ?_
 ·exact z.laid (t':=s2.toks) (fun b u e=>aI1 _ e) (aA6 _) ⟨aF0 _,[],0,.nil,aI3 _ rfl⟩
 ·exact T.keep _ _ _ f fun b _ o e=>aI1 _ e
 ·exact fun b hb=>⟨by rw [aae (aB5 (y b hb))];exact (j b hb).1,(j b hb).2⟩
 ·intro C H' U m J q hn S E K w F
  refine ⟨m,hn,fun h' sb=>⟨.ref s2.heap.objs.size,H',?_,rfl,q⟩⟩
  exact J.turned (t':=U.toks) (fun b o hb e=>sb.extBut b o hb e) S E K w F
end
def rLen (K:Frag):List V->Hp->VK->Prop:=fun xs H Q=>∃ p ys,xs=[.ref p]/\(SqL K H p ys\/SqT K H p ys)/\Q (.int ys.length) H
theorem ack {X:Cx}:abk X (.builtin "len") (rLen X.K):=alk
def ak4:List V->Hp->VK->Prop:=fun xs H Q=>∃ i j,xs=[.int i,.int j]/\Q (.int (if j > i then j else i)) H
def ak5:List V->Hp->VK->Prop:=fun xs H Q=>∃ i j,xs=[.int i,.int j]/\Q (.int (if j < i then j else i)) H
theorem aif {X:Cx} (a:X.calm=true):abk X (.builtin "max") ak4:=apz a
theorem ac9 {X:Cx} (a:X.calm=true):abk X (.builtin "min") ak5:=ap0 a
def ak6:List V->Hp->VK->Prop:=fun xs H Q=>(∃ i,xs=[.int i]/\Q (.int i) H)\/∃ k,xs=[.bl k]/\Q (.int (if k then 1 else 0)) H
theorem aig {X:Cx}:abk X (.type "int") ak6:=ap1
section
variable {σ:St} {H:Hp} {D:Ends} {K:Frag}
theorem agm {i:Nat} {v:V} {Q:St->Hp->Prop} (h:Q (σ.set i (some v)) H):aas i v σ H Q:=h
theorem aqh {Q:List V->Hp->Prop} (h:Q [] H):tNil σ H Q:=h
theorem axv {t:TA} {Q:VK} (h:t σ H fun xs a=>xs.length<=sizeLine/\∀ p,a p=none->Q (.ref p) (upd a p (.lst xs))):tLst t σ H Q:=h
theorem aqi {i j:Int} {Q:VK} (h:Q (.bl (decide (i=j))) H):rEq (.int i) (.int j) H Q:=by
 have e:decide (V.int i=V.int j)=decide (i=j):=by rw [ano];exact Bool.beq_eq_decide_eq i j
 exact ⟨rfl,by rw [e];exact h⟩
theorem axw {a:Addr} {xs:List V} {i:Int} {v:V} {Q:VK} (ha:H a=some (.lst xs)) (b:atI xs i=some v) (h:Q v H):rIxL K (.ref a) (.int i) H Q:=⟨a,xs,i,v,rfl,rfl,SqL.of ha,b,h⟩
theorem axx {a:Addr} {xs:List V} {i:Int} {v:V} {Q:VK} (ha:H a=some (.tup xs)) (b:atI xs i=some v) (h:Q v H):rIxT K (.ref a) (.int i) H Q:=⟨a,xs,i,v,rfl,rfl,SqT.of ha,b,h⟩
theorem anv {a:Addr} {xs:List V} {k:Int} {j:Nat} {v:V} {Q:Hp->Prop} (ha:H a=some (.lst xs)) (hj:ixN xs.length k=some j) (h:Q (upd H a (.lst (xs.set j v)))):aox (.ref a) (.int k) v H Q:=⟨a,xs,k,j,rfl,rfl,ha,hj,h⟩
theorem aes {a:Addr} {xs:List V} {y:V} {Q:VK} (ha:H a=some (.lst xs)) (b:xs.length < sizeLine) (h:Q .non (upd H a (.lst (xs ++ [y])))):ad6 (.ref a) [y] H Q:=⟨a,xs,y,rfl,rfl,ha,b,h⟩
theorem aqj {a b:Addr} {xs c:List V} {Q:VK} (ha:H a=some (.lst xs)) (hb:H b=some (.lst c)) (d:xs.length+c.length<=sizeLine) (h:Q .non (upd H a (.lst (xs ++ c)))):ai9 (.ref a) [.ref b] H Q:=⟨a,b,xs,c,rfl,rfl,ha,hb,d,h⟩
theorem axy {a b:Addr} {xs c:List V} {Q:VK} (ha:H a=some (.lst xs)) (hb:H b=some (.lst c)) (d:xs.length+c.length<=sizeLine) (h:∀ p,H p=none->Q (.ref p) (upd H p (.lst (xs ++ c)))):rCat (.ref a) (.ref b) H Q:=⟨a,b,xs,c,rfl,rfl,ha,hb,d,h⟩
theorem anw {a:Addr} {xs:List V} {Q:VK} (ha:H a=some (.lst xs)) (h:Q (.int xs.length) H):rLen K [.ref a] H Q:=⟨a,xs,rfl,.inl (SqL.of ha),h⟩
theorem anx {i j:Int} {Q:VK} (h:Q (.int (if j > i then j else i)) H):ak4 [.int i,.int j] H Q:=⟨i,j,rfl,h⟩
theorem anz {i j:Int} {Q:VK} (h:Q (.int (if j < i then j else i)) H):ak5 [.int i,.int j] H Q:=⟨i,j,rfl,h⟩
theorem an0 {k:Bool} {Q:VK} (h:Q (.int (if k then 1 else 0)) H):ak6 [.bl k] H Q:=.inr ⟨k,rfl,h⟩
theorem ajc {c:Prop} [Decidable c] {A B:Prop} (a:c) (h:A):if decide c=true then A else B:=by rw [aD4 a];exact iteT h
theorem ajd {c:Prop} [Decidable c] {A B:Prop} (a:¬ c) (h:B):if decide c=true then A else B:=by rw [aD3 a];exact iteF h
theorem ab2 {c:Prop} [Decidable c] {A B:Prop} (b:c->A) (a:¬ c->B):if decide c=true then A else B:=by
 by_cases hc:c
 ·exact ajc hc (b hc)
 ·exact ajd hc (a hc)
theorem at1 {x y:V} {xs:List V}:atI (x :: y :: xs) 1=some y:=ad5 (j:=1) rfl
theorem ixN0 {n:Nat}:ixN (n+1) 0=some 0:=by unfold ixN;rw [aE5 (by decide),aE5 (by omega)];rfl
theorem ixN1 {n:Nat}:ixN (n+2) 1=some 1:=by unfold ixN;rw [aE5 (by decide),aE5 (by omega)];rfl
end
structure CallOk (P:Program) (w:World) (K:Frag) (mg:Str->Option Value) (base:Heap) (x:Str) (k:Nat) (ps:List Str) (sp:Sp) (f:Addr) (fd:FuncData):Prop where
 ok:FnOk P w K mg base CX0 k f fd ps sp
 mgx:mg x=some (.ref f)
 kp:keepIn K (.ref f)=true
 bd:Binds K fd ps []
def Can (P:Program) (w:World) (K:Frag) (mg:Str->Option Value) (base:Heap) (x:Str) (k:Nat) (ps:List Str) (sp:Sp):Prop:=∃ f fd,CallOk P w K mg base x k ps sp f fd
structure DefAt (K:Frag) (mg:Str->Option Value) (x:Str) (st:Stmt) (ps:List Str) (f:Addr) (fd:FuncData):Prop where
 fn:Fun K x x st f fd
 mgx:mg x=some (.ref f)
 bd:Binds K fd ps []
theorem DefAt.can {P:Program} {w:World} {K:Frag} {mg:Str->Option Value} {base:Heap} {x:Str} {st:Stmt} {k:Nat} {ps:List Str} {sp:Sp} {f:Addr} {fd:FuncData} (D:DefAt K mg x st ps f fd) (ok:FnOk P w K mg base CX0 k f fd ps sp):Can P w K mg base x k ps sp :=
 ⟨f,fd,ok,D.mgx,D.fn.kp,D.bd⟩
section
variable {X:Cx} {k j:Nat} {ps:List Str} {sp:Sp} {x:Str} {p pos:Pos} {e:Expr} {es:List Expr} {t:TA}
theorem aav (F:Can X.prog X.w X.K X.mg X.base x k ps sp) (c:Room j X.A) (ha:PA X (e :: es) t) (hj:k<=j:=by decide) (g:Gl X x:=by rfl) (b:(x == ("__debug__" : Str))=false:=by decide)
  (d:starEach (e :: es) X.env=(false,eval e X.env) :: starEach es X.env:=by rfl) (a:(backTo pos (starEach es X.env)).any (·.1)=false:=by rfl) :
  PE X (.Call (.Name x p) (e :: es) [] pos) (acw sp [] E0 t):=by
 obtain ⟨f,fd,C⟩:=F
 exact au0 C.ok (c.mono hj) g C.mgx C.kp C.bd .nil azp ha b d a
end
theorem abn {X:Cx} {N:List Str} {sc:Scope} {src:List (Option Nat)} (d:sc.kind=.function) (c:sc.names.all (fun y=>y.2 != .cell)=true) (l:sc.names.all (fun y=>y.2 != .local || sc.names.lookup y.1 == some .local)=true)
  (f:sc.names.all (fun y=>y.2 != .free || X.env.kindOf y.1 == some .cell || X.env.kindOf y.1 == some .free)=true) (b:src.length=N.length)
  (g:(List.range src.length).all (fun i=>match src[i]? with | some (some j)=>(match N[i]?,X.N[j]? with | some x,some y=>x == y && sc.names.lookup x == some .free | _,_=>false) | _=>true)=true):LcOk X N sc src:=by
 refine ⟨d,fun y a e=>?_,fun y a e=>?_,fun y a e=>?_,b,fun i j e=>?_⟩
 ·have:=aE4.mp c y a
  rw [e] at this
  exact absurd this (by decide)
 ·have:=aE4.mp l y a
  rw [e] at this
  simpa using this
 ·have:=aE4.mp f y a
  rw [e] at this
  simpa using this
 ·have hi:i < src.length:=(aA1.mp e).1
  have:=aE4.mp g i (aB8.mpr hi)
  rw [e] at this
  dsimp only at this
  cases h7:N[i]? with
  | none=>rw [h7] at this;cases this
  | some x =>
   cases h8:X.N[j]? with
   | none=>rw [h7,h8] at this;cases this
   | some y =>
    rw [h7,h8] at this
    simp only [aG1] at this
    have h:x=y:=by simpa using this.1
    subst h
    exact ⟨x,rfl,rfl,by simpa using this.2⟩
section
variable {σ:St} {H:Hp} {D:Ends} {K:Frag}
theorem alu {Q:Bool->Hp->Prop} (h:Q true H):tYes σ H Q:=h
theorem asb {a:Addr} {xs:List V} {i:Int} {k:Nat} {y:V} {Q:VK} (ha:H a=some (.lst xs)) (c : -(2 ^ 63)<=i) (b:i < 2 ^ 63) (f:seqIndex? i xs.length=some k) (d:xs[k]?=some y) (h:Q y (upd H a (.lst (xs.eraseIdx k)))):aln (.ref a) [.int i] H Q :=
 ⟨a,xs,i,k,y,rfl,rfl,ha,c,b,f,d,h⟩
end
end L2
namespace L2
open PySem
theorem adq:bootBuiltins "len" = some (.builtin "len"):=by decide +kernel
theorem adr:bootBuiltins "max" = some (.builtin "max"):=by decide +kernel
theorem ae9:bootBuiltins "min" = some (.builtin "min"):=by decide +kernel
theorem aj2:bootBuiltins "sorted" = some (.builtin "sorted"):=by decide +kernel
theorem ab4:bootBuiltins "isinstance" = some (.builtin "isinstance"):=by decide +kernel
theorem alv:bootBuiltins "int" = some (.type "int"):=by decide +kernel
theorem agn:bootBuiltins "list" = some (.type "list"):=by decide +kernel
theorem alw:bootBuiltins "tuple" = some (.type "tuple"):=by decide +kernel
theorem alx:bootBuiltins "enumerate" = some (.type "enumerate"):=by decide +kernel
theorem an1:bootBuiltins "bool" = some (.type "bool"):=by decide +kernel
theorem axz:bootBuiltins "zip" = some (.type "zip"):=by decide +kernel
end L2
namespace TS
open PySem PyProof.Rows
def aje:Bool->Keyed->Array Keyed->Nat->Nat->Nat->StateT SortSt Sem (Option Nat):=sortPriv% PySem.Builtin.gallop
def asc:Array Keyed->Array Keyed->StateT SortSt Sem (Array Keyed):=sortPriv% PySem.Builtin.mergeLo
def asd:Array Keyed->Array Keyed->StateT SortSt Sem (Array Keyed):=sortPriv% PySem.Builtin.mergeHi
def aly:Nat->StateT SortSt Sem Bool:=sortPriv% PySem.Builtin.mergeAt
def au9:Nat->Nat->StateT SortSt Sem (Option Nat):=sortPriv% PySem.Builtin.countRun
def ase:Nat->Nat->Nat->StateT SortSt Sem Bool:=sortPriv% PySem.Builtin.binarySort
def azq:StateT SortSt Sem Unit:=sortPriv% PySem.Builtin.sortRuns
structure Cmp (M:Model) (A:Around) (E:Value->Shared->Prop) (s:Shared) (κ:SortKind) (S:Keyed->Prop) (R:Keyed->Keyed->Bool):Prop where
 ask:∀ x y,S x->S y->∀ (Q:Option Bool->SortSt->Prop) (st:SortSt),kindOf st = κ->Q (some (R x y)) st->wpS M A E s (lt' x y) Q st
 asy:∀ x y,S x->S y->R x y=true->R y x=false
 tr:∀ x y z,S x->S y->S z->R y x=false->R z y=false->R z x=false
section
variable {M:Model} {A:Around} {E:Value->Shared->Prop} {s:Shared} {κ:SortKind} {S:Keyed->Prop} {R:Keyed->Keyed->Bool}
theorem aay {arr:Array Keyed} {i:Nat} {x:Keyed} {Q:Keyed->SortSt->Prop} {st:SortSt} (a:arr[i]?=some x) (h:Q x st):wpS M A E s (elem' arr i) Q st:=by
 rw [elem'_eq,a]
 exact wpS_pure h
theorem adh {x:String} {Q:Unit->SortSt->Prop} {st:SortSt} (h:Q () st):wpS M A E s (liftM (PySem.rule x):StateT SortSt Sem Unit) Q st :=
 wpS_lift (wpAny_rule ⟨rfl,h⟩)
def bey (left:Bool) (key:Keyed) (arr:Array Keyed) (base i:Nat):StateT SortSt Sem (Option Bool):=do
 let x ← elem' arr (base+i)
 if left=true then lt' x key else do
  let r ← lt' key x
  pure (Option.map (fun b => !b) r)
theorem aj3 {left:Bool} {p:Keyed} {arr:Array Keyed} {base n a:Nat} {B:Nat->Bool}
  (hb:∀ i,i < n->∀ (Q:Option Bool->SortSt->Prop) (st:SortSt),kindOf st = κ->Q (some (B i)) st->wpS M A E s (bey left p arr base i) Q st)
  (mono:∀ i j,i < j->j < n->B j=true->B i=true) (hh:a < n) {Q:Option Nat->SortSt->Prop} {st:SortSt} (x:kindOf st = κ)
  (h:∀ k,k<=n->(∀ i,i < k->B i=true)->(∀ i,k<=i->i < n->B i=false)->Q (some k) st):wpS M A E s (aje left p arr base n a) Q st:=by
 have c:∀ i j,i < j->j < n->B i=false->B j=false:=fun i j y hj hi=>by
  cases e:B j with
  | false=>rfl
  | true=>rw [mono i j y hj e] at hi;cases hi
 -- the last loop
 have last:∀ (lo hi:Nat) (F:Option (Option Nat) × Nat × Nat->StateT SortSt Sem (Option Nat)),lo<=hi->hi<=n->(∀ i,i < lo->B i=true)->(∀ i,hi<=i->i < n->B i=false) ->
   (∀ lo hi,F (none,lo,hi)=pure (some hi)) ->
   wpS M A E s (forIn [:n] ((none,lo,hi):Option (Option Nat) × Nat × Nat) (fun (_:Nat) z=>if z.2.1 ≥ z.2.2 then pure (ForInStep.done (none,z.2.1,z.2.2)) else bey left p arr base (z.2.1+(z.2.2 - z.2.1) / 2) >>= fun r=>match r with
    | some more=>if more=true then pure (ForInStep.yield (none,z.2.1+(z.2.2 - z.2.1) / 2+1,z.2.2)) else pure (ForInStep.yield (none,z.2.1,z.2.1+(z.2.2 - z.2.1) / 2))
    | _=>pure (ForInStep.done (some none,z.2.1,z.2.2))) >>= F) Q st:=by
  intro lo hi F J I K G D
  refine wpS_bind (wpS_forRange (fun t z st'=>st'=st/\z.1=none/\z.2.1<=z.2.2/\z.2.2<=n/\z.2.2 - z.2.1+t<=n/\(∀ i,i < z.2.1->B i=true)/\(∀ i,z.2.2<=i->i < n->B i=false)) ?_ ?_ ⟨rfl,rfl,J,I,by dsimp only;omega,K,G⟩)
  ·rintro t ⟨o,l,u⟩ st' _ C ⟨rfl,e,q,d,b,g,w⟩
   dsimp only at e q d b g w ⊢
   subst e
   by_cases hlu:l ≥ u
   ·rw [aE5 hlu]
    have:l=u:=by omega
    subst this
    exact wpS_pure (by dsimp only;rw [D];exact wpS_pure (h l d g w))
   ·rw [aE6 hlu]
    have hm:l+(u - l) / 2 < u:=by omega
    refine wpS_bind (hb _ (by omega) _ _ x ?_)
    dsimp only
    cases e:B (l+(u - l) / 2) with
    | true =>
     rw [aE5 rfl]
     refine wpS_pure ⟨rfl,rfl,by dsimp only;omega,d,by dsimp only;omega,fun i hi=>?_,w⟩
     dsimp only at hi
     by_cases hi2:i=l+(u - l) / 2
     ·rw [hi2];exact e
     ·exact mono i _ (by omega) (by omega) e
    | false =>
     rw [aE6 (by simp)]
     refine wpS_pure ⟨rfl,rfl,by dsimp only;omega,by dsimp only;omega,by dsimp only;omega,g,fun i hi hn=>?_⟩
     dsimp only at hi
     by_cases hi2:i=l+(u - l) / 2
     ·rw [hi2];exact e
     ·exact c _ i (by omega) hn e
  ·rintro ⟨o,l,u⟩ st' ⟨rfl,e,q,d,b,g,w⟩
   dsimp only at e q d b g w ⊢
   subst e
   have : l = u := by have:n ≤ max 0 n := by omega
                      omega
   subst this
   rw [D]
   exact wpS_pure (h l d g w)
 refine wpS_bind (f:=fun H=>_) (m:=bey left p arr base a) (hb a hh _ st x ?_)
 dsimp only
 cases e0:B a with
 | true =>
  rw [aE5 rfl]
  refine wpS_bind ?_
  refine wpS_forRange (fun t (z:Option (Option Nat) × Nat × Nat) st'=>st'=st/\z.1=none/\z.2.1 < z.2.2/\a+z.2.1 < n/\B (a+z.2.1)=true/\t+1<=z.2.2) ?_ ?_ ⟨rfl,rfl,by decide,by dsimp only;omega,e0,Nat.le_refl _⟩
  ·rintro t ⟨o,l,u⟩ st' _ C ⟨rfl,e,q,d,b,g⟩
   dsimp only at e q d b g ⊢
   subst e
   by_cases hu:u ≥ n - a
   ·rw [aE5 hu]
    refine wpS_pure ?_
    dsimp only
    refine last _ _ _ (by omega) (by omega) (fun i hi=>?_) (fun i hi hn=>by omega) (fun _ _=>rfl)
    by_cases hi2:i=a+l
    ·rw [hi2];exact b
    ·exact mono i _ (by omega) d b
   ·rw [aE6 hu]
    refine wpS_bind (m:=bey left p arr base (a+u)) (hb _ (by omega) _ _ x ?_)
    dsimp only
    cases e1:B (a+u) with
    | true =>
     rw [aE6 (by decide)]
     exact wpS_pure ⟨rfl,rfl,by dsimp only;omega,by dsimp only;omega,e1,by dsimp only;omega⟩
    | false =>
     rw [aE5 (by decide)]
     refine wpS_pure ?_
     dsimp only
     refine last _ _ _ (by omega) (by omega) (fun i hi=>?_) (fun i hi hn=>?_) (fun _ _=>rfl)
     ·by_cases hi2:i=a+l
      ·rw [hi2];exact b
      ·exact mono i _ (by omega) d b
     ·by_cases hi2:i=a+u
      ·rw [hi2];exact e1
      ·exact c _ i (by omega) hn e1
  ·rintro ⟨o,l,u⟩ st' ⟨rfl,e,q,d,b,g⟩
   dsimp only at e q d b g ⊢
   subst e
   dsimp only
   refine last _ _ _ (by omega) (by omega) (fun i hi=>?_) (fun i hi hn=>by omega) (fun _ _=>rfl)
   by_cases hi2:i=a+l
   ·rw [hi2];exact b
   ·exact mono i _ (by omega) d b
 | false =>
  rw [aE6 (by decide)]
  refine wpS_bind ?_
  refine wpS_forRange (fun t (z:Option (Option Nat) × Nat × Nat) st'=>st'=st/\z.1=none/\z.2.1 < z.2.2/\z.2.1<=a/\B (a - z.2.1)=false/\t+1<=z.2.2) ?_ ?_ ⟨rfl,rfl,by decide,aF0 _,e0,aA6 _⟩
  ·rintro t ⟨o,l,u⟩ st' _ C ⟨rfl,e,q,d,b,g⟩
   dsimp only at e q d b g ⊢
   subst e
   have v:∀ i,a - l<=i->i < n->B i=false:=fun i hi hn=>by
    by_cases hi2:i=a - l
    ·rw [hi2];exact b
    ·exact c _ i (by omega) hn b
   by_cases hu:u ≥ a+1
   ·rw [aE5 hu]
    refine wpS_pure ?_
    dsimp only
    exact last _ _ _ (by omega) (by omega) (fun i hi=>by omega) v (fun _ _=>rfl)
   ·rw [aE6 hu]
    refine wpS_bind (m:=bey left p arr base (a - u)) (hb _ (by omega) _ _ x ?_)
    dsimp only
    cases e1:B (a - u) with
    | true =>
     rw [aE5 rfl]
     refine wpS_pure ?_
     dsimp only
     refine last _ _ _ (by omega) (by omega) (fun i hi=>?_) v (fun _ _=>rfl)
     by_cases hi2:i=a - u
     ·rw [hi2];exact e1
     ·exact mono i _ (by omega) (by omega) e1
    | false =>
     rw [aE6 (by decide)]
     exact wpS_pure ⟨rfl,rfl,by dsimp only;omega,by dsimp only;omega,e1,by dsimp only;omega⟩
  ·rintro ⟨o,l,u⟩ st' ⟨rfl,e,q,d,b,g⟩
   dsimp only at e q d b g ⊢
   subst e
   dsimp only
   refine last _ _ _ (by omega) (by omega) (fun i hi=>by omega) (fun i hi hn=>?_) (fun _ _=>rfl)
   by_cases hi2:i=a - l
   ·rw [hi2];exact b
   ·exact c _ i (by omega) hn b
end
def Srt (R:Keyed->Keyed->Bool) (l:List Keyed):Prop:=l.Pairwise fun x y=>R y x=false
structure Mid (R:Keyed->Keyed->Bool) (L out a b:List Keyed):Prop where
 perm:(out ++ a ++ b).Perm L
 so:Srt R out
 le:∀ x∈out,∀ y∈a ++ b,R y x=false
 sa:Srt R a
 sb:Srt R b
section
variable {R:Keyed->Keyed->Bool} {L out a b p:List Keyed}
theorem Mid.takeA (m:Mid R L out (p ++ a) b) (h:∀ x∈p,∀ y∈b,R y x=false):Mid R L (out ++ p) a b:=by
 have sp:=aC8.mp m.sa
 refine ⟨by have:=m.perm;rw [← aB3] at this;exact this,aC8.mpr ⟨m.so,sp.1,fun x d y c=>m.le x d y (aC6 _ (aC6 _ c))⟩,fun x d y c=>?_,sp.2.1,m.sb⟩
 rcases aA7.mp d with d | d
 ·refine m.le x d y ?_
  rcases aA7.mp c with c | c
  ·exact aC6 _ (aB2 _ c)
  ·exact aB2 _ c
 ·rcases aA7.mp c with c | c
  ·exact sp.2.2 x d y c
  ·exact h x d y c
theorem Mid.takeB (m:Mid R L out a (p ++ b)) (h:∀ x∈p,∀ y∈a,R y x=false):Mid R L (out ++ p) a b:=by
 have sp:=aC8.mp m.sb
 refine ⟨List.Perm.trans ?_ m.perm,aC8.mpr ⟨m.so,sp.1,fun x d y c=>m.le x d y (aB2 _ (aC6 _ c))⟩,fun x d y c=>?_,m.sa,sp.2.1⟩
 ·rw [← aB3 (out ++ a) p b]
  refine List.Perm.append_right b ?_
  rw [aB3,aB3]
  exact List.Perm.append_left out List.perm_append_comm
 ·rcases aA7.mp d with d | d
  ·refine m.le x d y ?_
   rcases aA7.mp c with c | c
   ·exact aC6 _ c
   ·exact aB2 _ (aB2 _ c)
  ·rcases aA7.mp c with c | c
   ·exact h x d y c
   ·exact sp.2.2 x d y c
theorem Mid.done (m:Mid R L out a b) (h:a=[]\/b=[]):(out ++ a ++ b).Perm L/\Srt R (out ++ a ++ b):=by
 refine ⟨m.perm,?_⟩
 rw [aB3]
 refine aC8.mpr ⟨m.so,?_,m.le⟩
 rcases h with h | h
 ·subst h;exact m.sb
 ·subst h;rw [aE2];exact m.sa
theorem Mid.last (m:Mid R L out a b) (h:∀ y∈b,∀ x∈a,R x y=false):(out ++ b ++ a).Perm L/\Srt R (out ++ b ++ a):=by
 refine ⟨List.Perm.trans ?_ m.perm,?_⟩
 ·rw [aB3,aB3]
  exact List.Perm.append_left out List.perm_append_comm
 ·rw [aB3]
  refine aC8.mpr ⟨m.so,aC8.mpr ⟨m.sb,m.sa,h⟩,fun x d y c=>m.le x d y ?_⟩
  rcases aA7.mp c with c | c
  ·exact aB2 _ c
  ·exact aC6 _ c
end
structure Eqv (st st':SortSt):Prop where
 k:kindOf st'=kindOf st
 a:arrOf st'=arrOf st
 p:pendingOf st'=pendingOf st
 f:failedOf st'=failedOf st
theorem Eqv.refl (st:SortSt):Eqv st st:=⟨rfl,rfl,rfl,rfl⟩
theorem Eqv.trans {a b c:SortSt} (h:Eqv a b) (g:Eqv b c):Eqv a c:=⟨g.k.trans h.k,g.a.trans h.a,g.p.trans h.p,g.f.trans h.f⟩
theorem ago (a:Array Keyed) (i:Nat):(a.extract i a.size).toList=a.toList.drop i:=by
 rw [Array.toList_extract];simp only [List.extract_eq_take_drop];exact aE3 (by simp)
theorem ajf (a:Array Keyed) (i k:Nat):(a.extract i (i+k)).toList=(a.toList.drop i).take k:=by
 rw [Array.toList_extract];simp [List.extract]
theorem abq {a:Array Keyed} {i:Nat} (h:i < a.size):a.toList.drop i=a[i] :: a.toList.drop (i+1):=by
 rw [List.drop_eq_getElem_cons (by simpa using h)];simp
section
variable {M:Model} {A:Around} {E:Value->Shared->Prop} {s:Shared} {κ:SortKind} {S:Keyed->Prop} {R:Keyed->Keyed->Bool}
theorem Cmp.irr {x:Keyed} (C:Cmp M A E s κ S R) (a:S x):R x x=false:=by
 cases e:R x x with
 | false=>rfl
 | true=>have:=C.asy x x a a e;rw [e] at this;cases this
theorem af4 (C:Cmp M A E s κ S R) {a:Keyed} {arr:Array Keyed} {base n g:Nat} (f:S a) (G:∀ x∈arr.toList,S x) (hn:base+n<=arr.size) (N:Srt R ((arr.toList.drop base).take n)) (hh:g < n)
  {Q:Option Nat->SortSt->Prop} {st:SortSt} (F:kindOf st = κ)
  (h:∀ k,k<=n->(∀ x∈(arr.toList.drop base).take k,R a x=false)->(∀ x∈((arr.toList.drop base).take n).drop k,R a x=true)->Q (some k) st) :
  wpS M A E s (aje false a arr base n g) Q st:=by
 have b:∀ i,i < n->∃ x,arr[base+i]?=some x/\S x/\((arr.toList.drop base).take n)[i]?=some x:=fun i hi=>by
  have p:base+i < arr.size:=by omega
  refine ⟨arr[base+i],aA4 p,G _ (by simp),?_⟩
  rw [aG5 hi,aH3]
  simp [p]
 have m:∀ i j x y,i < j->j < n->arr[base+i]?=some x->arr[base+j]?=some y->R y x=false:=fun i j x y l hj ex H=>by
  obtain ⟨X,c,_,e2⟩:=b i (by omega)
  obtain ⟨W,D,_,q⟩:=b j hj
  rw [ex] at c;cases c
  rw [H] at D;cases D
  obtain ⟨I,e2⟩:=aA1.mp e2
  obtain ⟨O,q⟩:=aA1.mp q
  have:=aF7.mp N i j I O l
  rw [e2,q] at this
  exact this
 refine aj3 (κ:=κ) (B:=fun i=>match arr[base+i]? with | some x => !(R a x) | none=>false) (fun i hi U st' w z=>?_) (fun i j l hj o=>?_) hh F fun k r L K=>h k r (fun x v=>?_) fun x v=>?_
 ·obtain ⟨x,c,u,_⟩:=b i hi
  unfold bey
  refine wpS_bind (aay c ?_)
  rw [aE6 (by decide)]
  refine wpS_bind (C.ask _ _ f u _ _ w ?_)
  refine wpS_pure ?_
  simp only [c] at z
  exact z
 ·obtain ⟨x,c,u,_⟩:=b i (by omega)
  obtain ⟨y,e2,J,_⟩:=b j hj
  simp only [c,e2] at o ⊢
  have T:=m i j x y l hj c e2
  have P:R a y=false:=by simpa using o
  have:=C.tr x y a u J f T P
  simp [this]
 ·obtain ⟨i,hi,e⟩:=List.getElem_of_mem v
  have d:i < k:=by rw [aG0] at hi;omega
  obtain ⟨y,c,_,e2⟩:=b i (by omega)
  have hb:=L i d
  simp only [c] at hb
  have ex:x=y:=by
   have:((arr.toList.drop base).take k)[i]?=some x:=by rw [aA0 hi,e]
   rw [aG5 d] at this
   rw [aG5 (by omega)] at e2
   rw [this] at e2;exact aC5 e2
  subst ex
  simpa using hb
 ·obtain ⟨i,hi,e⟩:=List.getElem_of_mem v
  have d:k+i < n:=by rw [aH7,aG0] at hi;omega
  obtain ⟨y,c,_,e2⟩:=b (k+i) d
  have hb:=K (k+i) (by omega) d
  simp only [c] at hb
  have ex:x=y:=by
   have:(((arr.toList.drop base).take n).drop k)[i]?=some x:=by rw [aA0 hi,e]
   rw [aH3] at this
   rw [this] at e2;exact aC5 e2
  subst ex
  simpa using hb
theorem ahh (C:Cmp M A E s κ S R) {a:Keyed} {arr:Array Keyed} {base n g:Nat} (f:S a) (G:∀ x∈arr.toList,S x) (hn:base+n<=arr.size) (N:Srt R ((arr.toList.drop base).take n)) (hh:g < n)
  {Q:Option Nat->SortSt->Prop} {st:SortSt} (F:kindOf st = κ)
  (h:∀ k,k<=n->(∀ x∈(arr.toList.drop base).take k,R x a=true)->(∀ x∈((arr.toList.drop base).take n).drop k,R x a=false)->Q (some k) st) :
  wpS M A E s (aje true a arr base n g) Q st:=by
 have b:∀ i,i < n->∃ x,arr[base+i]?=some x/\S x/\((arr.toList.drop base).take n)[i]?=some x:=fun i hi=>by
  have p:base+i < arr.size:=by omega
  refine ⟨arr[base+i],aA4 p,G _ (by simp),?_⟩
  rw [aG5 hi,aH3]
  simp [p]
 have o:∀ i j x y,i < j->j < n->arr[base+i]?=some x->arr[base+j]?=some y->R y x=false:=fun i j x y l hj ex H=>by
  obtain ⟨W,c,_,e2⟩:=b i (by omega)
  obtain ⟨U,D,_,q⟩:=b j hj
  rw [ex] at c;cases c
  rw [H] at D;cases D
  obtain ⟨I,e2⟩:=aA1.mp e2
  obtain ⟨O,q⟩:=aA1.mp q
  have:=aF7.mp N i j I O l
  rw [e2,q] at this
  exact this
 refine aj3 (κ:=κ) (B:=fun i=>match arr[base+i]? with | some x=>R x a | none=>false) (fun i hi T st' w z=>?_) (fun i j l hj m=>?_) hh F fun k r L K=>h k r (fun x v=>?_) fun x v=>?_
 ·obtain ⟨x,c,u,_⟩:=b i hi
  unfold bey
  refine wpS_bind (aay c ?_)
  rw [aE5 rfl]
  simp only [c] at z
  exact C.ask _ _ u f _ _ w z
 ·obtain ⟨x,c,u,_⟩:=b i (by omega)
  obtain ⟨y,e2,J,_⟩:=b j hj
  simp only [c,e2] at m ⊢
  have P:=o i j x y l hj c e2
  cases e:R x a with
  | true=>rfl
  | false =>
   have:=C.tr a x y f u J e P
   rw [this] at m;cases m
 ·obtain ⟨i,hi,e⟩:=List.getElem_of_mem v
  have d:i < k:=by rw [aG0] at hi;omega
  obtain ⟨y,c,_,e2⟩:=b i (by omega)
  have hb:=L i d
  simp only [c] at hb
  have ex:x=y:=by
   have:((arr.toList.drop base).take k)[i]?=some x:=by rw [aA0 hi,e]
   rw [aG5 d] at this
   rw [aG5 (by omega)] at e2
   rw [this] at e2;exact aC5 e2
  subst ex
  exact hb
 ·obtain ⟨i,hi,e⟩:=List.getElem_of_mem v
  have d:k+i < n:=by rw [aH7,aG0] at hi;omega
  obtain ⟨y,c,_,e2⟩:=b (k+i) d
  have hb:=K (k+i) (by omega) d
  simp only [c] at hb
  have ex:x=y:=by
   have:(((arr.toList.drop base).take n).drop k)[i]?=some x:=by rw [aA0 hi,e]
   rw [aH3] at this
   rw [this] at e2;exact aC5 e2
  subst ex
  exact hb
end
section
variable {M:Model} {A:Around} {E:Value->Shared->Prop} {s:Shared} {κ:SortKind} {S:Keyed->Prop} {R:Keyed->Keyed->Bool}
structure Two (S:Keyed->Prop) (R:Keyed->Keyed->Bool) (a b:Array Keyed):Prop where
 ha:∀ x∈a.toList,S x
 hb:∀ x∈b.toList,S x
 sa:Srt R a.toList
 sb:Srt R b.toList
 a0:0 < a.size
 b0:0 < b.size
 first:∀ x∈a.toList,∀ y,b[0]?=some y->R x y=false
 last:∀ y∈b.toList,∀ x,a[a.size - 1]?=some x->R x y=false
def Fin2 (R:Keyed->Keyed->Bool) (a b m:Array Keyed):Prop:=m.toList.Perm (a.toList ++ b.toList)/\Srt R m.toList
structure Lo (S:Keyed->Prop) (R:Keyed->Keyed->Bool) (a b out:Array Keyed) (ia ib:Nat):Prop where
 mid:Mid R (a.toList ++ b.toList) out.toList (a.toList.drop ia) (b.toList.drop ib)
 ia:ia<=a.size
 ib:ib<=b.size
theorem Lo.len {a b out:Array Keyed} {ia ib:Nat} (l:Lo S R a b out ia ib):out.size+(a.size - ia)+(b.size - ib)=a.size+b.size:=by
 have:=l.mid.perm.length_eq
 simp at this
 omega
theorem Lo.doneA {a b out:Array Keyed} {ia ib:Nat} (l:Lo S R a b out ia ib) (h:ib=b.size\/ia=a.size):Fin2 R a b (out ++ a.extract ia ++ b.extract ib):=by
 have:=l.mid.done (by
  rcases h with h | h
  ·right;rw [h];simp
  ·left;rw [h];simp)
 unfold Fin2
 rw [aF6,aF6,ago,ago]
 exact this
theorem aqk {a:Array Keyed} {i:Nat} (h:i+1=a.size):a.toList.drop i=[a[a.size - 1]'(by omega)]:=by
 have hi:i < a.size:=by omega
 rw [abq hi]
 have:i=a.size - 1:=by omega
 subst this
 have e:a.toList.drop (a.size - 1+1)=[]:=by
  apply List.drop_eq_nil_of_le
  simp;omega
 rw [e]
theorem Lo.lastA {a b out:Array Keyed} {ia ib:Nat} (T:Two S R a b) (l:Lo S R a b out ia ib) (h:ia+1=a.size):Fin2 R a b (out ++ b.extract ib ++ a.extract ia):=by
 have:=l.mid.last (by
  intro y d x c
  rw [aqk h] at c
  have ex:x=a[a.size - 1]'(by omega):=by simpa using c
  refine T.last y (aC3 d) x ?_
  rw [ex]
  exact aA4 _)
 unfold Fin2
 rw [aF6,aF6,ago,ago]
 exact this
theorem aef {x:Keyed} {l:List Keyed} (C:Cmp M A E s κ S R) (h:Srt R (x :: l)) (b:S x):∀ y∈x :: l,R y x=false:=by
 intro y a
 rcases aA8.mp a with e | a
 ·rw [e];exact C.irr b
 ·exact (List.pairwise_cons.mp h).1 y a
theorem Lo.pushB {a b out:Array Keyed} {ia ib:Nat} (C:Cmp M A E s κ S R) (T:Two S R a b) (l:Lo S R a b out ia ib) (hb:ib < b.size) (h:∀ x∈a.toList.drop ia,R x b[ib]=false):Lo S R a b (out.push b[ib]) ia (ib+1):=by
 refine ⟨?_,l.ia,hb⟩
 have m:=l.mid
 rw [abq hb] at m
 rw [Array.toList_push]
 exact m.takeB (p:=[b[ib]]) (fun x d y c=>by
  have:x=b[ib]:=by simpa using d
  rw [this];exact h y c)
theorem Lo.pushA {a b out:Array Keyed} {ia ib:Nat} (l:Lo S R a b out ia ib) (ha:ia < a.size) (h:∀ y∈b.toList.drop ib,R y a[ia]=false):Lo S R a b (out.push a[ia]) (ia+1) ib:=by
 refine ⟨?_,ha,l.ib⟩
 have m:=l.mid
 rw [abq ha] at m
 rw [Array.toList_push]
 exact m.takeA (p:=[a[ia]]) (fun x d y c=>by
  have:x=a[ia]:=by simpa using d
  rw [this];exact h y c)
theorem Lo.runA {a b out:Array Keyed} {ia ib k:Nat} (l:Lo S R a b out ia ib) (d:ia+k<=a.size) (h:∀ x∈(a.toList.drop ia).take k,∀ y∈b.toList.drop ib,R y x=false):Lo S R a b (out ++ a.extract ia (ia+k)) (ia+k) ib:=by
 refine ⟨?_,d,l.ib⟩
 have m:=l.mid
 rw [← aC0 k (a.toList.drop ia)] at m
 rw [aF6,ajf]
 have c:=m.takeA h
 rw [List.drop_drop] at c
 exact c
theorem Lo.runB {a b out:Array Keyed} {ia ib k:Nat} (l:Lo S R a b out ia ib) (d:ib+k<=b.size) (h:∀ x∈(b.toList.drop ib).take k,∀ y∈a.toList.drop ia,R y x=false):Lo S R a b (out ++ b.extract ib (ib+k)) ia (ib+k):=by
 refine ⟨?_,l.ia,d⟩
 have m:=l.mid
 rw [← aC0 k (b.toList.drop ib)] at m
 rw [aF6,ajf]
 have c:=m.takeB h
 rw [List.drop_drop] at c
 exact c
theorem acn {l:List Keyed} {i:Nat} (h:Srt R l):Srt R (l.drop i):=List.Pairwise.sublist (List.drop_sublist i l) h
theorem jpn {α β:Type} {prog : β->StateT SortSt Sem α} {P : β->Prop} {Q : α->SortSt->Prop} {st:SortSt} {G:Prop} (use:(∀ m,P m->wpS M A E s (prog m) Q st)->G) (a:∀ m,P m->wpS M A E s (prog m) Q st):G:=use a
theorem jpn2 {α:Type} {prog:Array Keyed->Nat->StateT SortSt Sem α} {P:Array Keyed->Nat->Prop} {Q : α->SortSt->Prop} {st:SortSt} {G:Prop} (use:(∀ o i,P o i->wpS M A E s (prog o i) Q st)->G) (a:∀ o i,P o i->wpS M A E s (prog o i) Q st):G:=use a
section
variable {ρ β γ δ ε ζ η:Type}
@[elab_as_elim] theorem un5 {J : β->γ->δ->ε->Prop} {G:Option ρ × β × γ × δ × ε->Prop} (z:Option ρ × β × γ × δ × ε) (h:z.1=none/\J z.2.1 z.2.2.1 z.2.2.2.1 z.2.2.2.2) (k:∀ x y u v,J x y u v->G (none,x,y,u,v)):G z:=by
 have e:z=(none,z.2.1,z.2.2.1,z.2.2.2.1,z.2.2.2.2):=by rw [← h.1]
 rw [e];exact k _ _ _ _ h.2
@[elab_as_elim] theorem un6 {J : β->γ->δ->ε->ζ->Prop} {G:Option ρ × β × γ × δ × ε × ζ->Prop} (z:Option ρ × β × γ × δ × ε × ζ) (h:z.1=none/\J z.2.1 z.2.2.1 z.2.2.2.1 z.2.2.2.2.1 z.2.2.2.2.2) (k:∀ x y u v a,J x y u v a->G (none,x,y,u,v,a)):G z:=by
 have e:z=(none,z.2.1,z.2.2.1,z.2.2.2.1,z.2.2.2.2.1,z.2.2.2.2.2):=by rw [← h.1]
 rw [e];exact k _ _ _ _ _ h.2
@[elab_as_elim] theorem un7 {J : β->γ->δ->ε->ζ->η->Prop} {G:Option ρ × β × γ × δ × ε × ζ × η->Prop} (z:Option ρ × β × γ × δ × ε × ζ × η) (h:z.1=none/\J z.2.1 z.2.2.1 z.2.2.2.1 z.2.2.2.2.1 z.2.2.2.2.2.1 z.2.2.2.2.2.2) (k:∀ x y u v a b,J x y u v a b->G (none,x,y,u,v,a,b)):G z:=by
 have e:z=(none,z.2.1,z.2.2.1,z.2.2.2.1,z.2.2.2.2.1,z.2.2.2.2.2.1,z.2.2.2.2.2.2):=by rw [← h.1]
 rw [e];exact k _ _ _ _ _ _ h.2
@[elab_as_elim] theorem unR {κ:Type} {F : ρ->Prop} {J : κ->Prop} {G:Option ρ × κ->Prop} (z:Option ρ × κ) (h:(∃ r,z.1=some r/\F r)\/(z.1=none/\J z.2)) (b:∀ r x,F r->G (some r,x)) (c:z.1=none/\J z.2->G z):G z:=by
 rcases h with ⟨r,e,a⟩ | h
 ·have e:z=(some r,z.2):=by rw [← e]
  rw [e];exact b _ _ a
 ·exact c h
end
theorem aan {c:Prop} [Decidable c] {α:Type} {a b:StateT SortSt Sem α} {Q : α->SortSt->Prop} {st:SortSt} (f:c->wpS M A E s a Q st) (d:¬ c->wpS M A E s b Q st):wpS M A E s (if c then a else b) Q st:=by
 by_cases h:c
 ·rw [aE5 h];exact f h
 ·rw [aE6 h];exact d h
theorem ao1 (C:Cmp M A E s κ S R) {a b:Array Keyed} (T:Two S R a b) {Q:Array Keyed->SortSt->Prop} {st:SortSt} (hk:kindOf st = κ)
  (h:∀ m st',Eqv st st'->Fin2 R a b m->Q m st'):wpS M A E s (asc a b) Q st:=by
 have N:∀ i (h:i < a.size),S a[i]:=fun i h=>T.ha _ (by simp)
 have O:∀ i (h:i < b.size),S b[i]:=fun i h=>T.hb _ (by simp)
 have b0:=T.b0
 have a0:=T.a0
 refine wpS_bind (adh ?_)
 refine wpS_bind (aay (x:=b[0]'b0) (aA4 b0) ?_)
 have l1:Lo S R a b #[b[0]'b0] 0 1:=by
  have l0:Lo S R a b #[] 0 0:=⟨⟨by simp,List.Pairwise.nil,fun x w=>by simp at w,T.sa,T.sb⟩,aF0 _,aF0 _⟩
  exact l0.pushB C T b0 fun x w=>T.first x (by simpa using w) _ (aA4 b0)
 refine aan (fun e1=>wpS_pure (h _ _ (Eqv.refl _) (l1.doneA (.inl (aF3.mp e1))))) (fun e1=>?_)
 refine aan (fun e2=>wpS_pure (h _ _ (Eqv.refl _) (l1.lastA T (aF3.mp e2)))) (fun e2=>?_)
 replace e1:1 ≠ b.size:=fun q=>e1 (aF3.mpr q)
 replace e2:0+1 ≠ a.size:=fun q=>e2 (aF3.mpr q)
 refine wpS_bind (wpS_get ?_)
 refine wpS_bind (wpS_mono (Q:=fun (z:Option (Array Keyed) × Array Keyed × Nat × Nat × Nat) st'=>Eqv st st'/\∃ r,z.1=some r/\Fin2 R a b r) ?_ ?_)
 ·refine wpS_forRange (fun t (z:Option (Array Keyed) × Array Keyed × Nat × Nat × Nat) st'=>Eqv st st'/\z.1=none/\Lo S R a b z.2.1 z.2.2.1 z.2.2.2.1/\z.2.2.1+1 < a.size/\z.2.2.2.1 < b.size/\t+1<=z.2.1.size) ?_ ?_ ⟨Eqv.refl _,rfl,l1,by dsimp only;omega,by dsimp only;omega,by simp⟩
  ·intro t z a5 _ ht n
   have q1:=n.1
   refine un5 (J:=fun out ia ib _=>Lo S R a b out ia ib/\ia+1 < a.size/\ib < b.size/\t+1<=out.size) z n.2 fun out ia ib mg v=>?_
   dsimp only
   refine wpS_bind (wpS_mono (Q:=fun (z:Option (Array Keyed) × Array Keyed × Nat × Nat × Nat × Nat) st'=>Eqv st st'/\((∃ r,z.1=some r/\Fin2 R a b r)\/(z.1=none/\Lo S R a b z.2.1 z.2.2.1 z.2.2.2.1/\z.2.2.1+1 < a.size/\z.2.2.2.1 < b.size/\t+2<=z.2.1.size))) ?_ ?_)
   ·refine wpS_forRange (fun i (z:Option (Array Keyed) × Array Keyed × Nat × Nat × Nat × Nat) st'=>Eqv st st'/\z.1=none/\Lo S R a b z.2.1 z.2.2.1 z.2.2.2.1/\z.2.2.1+1 < a.size/\z.2.2.2.1 < b.size/\t+1+min i 1<=z.2.1.size) ?_ ?_ ⟨q1,rfl,v.1,v.2.1,v.2.2.1,v.2.2.2⟩
    ·intro i z o _ hi n
     have q:=n.1
     refine un6 (J:=fun out ia ib _ _=>Lo S R a b out ia ib/\ia+1 < a.size/\ib < b.size/\t+1+min i 1<=out.size) z n.2 fun out ia ib ac bc v=>?_
     have l:=v.1
     have H:=v.2.1
     have d:=v.2.2.1
     have hsz:=v.2.2.2
     have g:ia < a.size:=Nat.lt_of_succ_lt H
     refine wpS_bind (aay (x:=b[ib]) (aA4 d) ?_)
     refine wpS_bind (aay (x:=a[ia]) (aA4 g) ?_)
     refine wpS_bind (C.ask _ _ (O ib d) (N ia g) _ _ (q.k.trans hk) ?_)
     dsimp only
     refine aan (fun er=>?_) (fun er=>?_)
     ·refine wpS_bind (aay (x:=b[ib]) (aA4 d) ?_)
      have D:Lo S R a b (out.push b[ib]) ia (ib+1):=l.pushB C T d fun x w=>by
       rw [abq g] at w
       have hd:Srt R (a[ia] :: a.toList.drop (ia+1)):=by rw [← abq g];exact acn T.sa
       have sx:S x:=T.ha x (aC3 (i:=ia) (by rw [abq g];exact w))
       exact C.tr _ _ _ (O ib d) (N ia g) sx (C.asy _ _ (O ib d) (N ia g) er) (aef C hd (N ia g) x w)
      refine aan (fun F=>wpS_pure ⟨q,.inl ⟨_,rfl,D.doneA (.inl (aF3.mp F))⟩⟩) (fun F=>?_)
      have hf:ib+1 < b.size/\t+2<=(out.push b[ib]).size:=by
       have a1:ib+1 ≠ b.size:=fun q=>F (aF3.mpr q)
       rw [aG9];omega
      refine aan (fun _=>wpS_pure ⟨q,.inr ⟨rfl,D,H,hf⟩⟩) (fun _=>wpS_pure ⟨q,rfl,D,H,hf.1,aC9 (by omega) hf.2⟩)
     ·refine wpS_bind (aay (x:=a[ia]) (aA4 g) ?_)
      have D:Lo S R a b (out.push a[ia]) (ia+1) ib:=l.pushA g fun y I=>by
       rw [abq d] at I
       have hd:Srt R (b[ib] :: b.toList.drop (ib+1)):=by rw [← abq d];exact acn T.sb
       have Z:S y:=T.hb y (aC3 (i:=ib) (by rw [abq d];exact I))
       exact C.tr _ _ _ (N ia g) (O ib d) Z (eq_false_of_ne_true er) (aef C hd (O ib d) y I)
      refine aan (fun F=>wpS_pure ⟨q,.inl ⟨_,rfl,D.lastA T (aF3.mp F)⟩⟩) (fun F=>?_)
      have hf:ia+1+1 < a.size/\ib < b.size/\t+2<=(out.push a[ia]).size:=by
       have a1:ia+1+1 ≠ a.size:=fun q=>F (aF3.mpr q)
       rw [aG9];omega
      refine aan (fun _=>wpS_pure ⟨q,.inr ⟨rfl,D,hf⟩⟩) (fun _=>wpS_pure ⟨q,rfl,D,hf.1,d,aC9 (by omega) hf.2.2⟩)
    ·exact fun z o n=>⟨n.1,.inr ⟨n.2.1,n.2.2.1,n.2.2.2.1,n.2.2.2.2.1,aC9 (by omega) n.2.2.2.2.2⟩⟩
   ·intro z o n
    have X:=n.1
    refine unR (J:=fun y:Array Keyed × Nat × Nat × Nat × Nat=>Lo S R a b y.1 y.2.1 y.2.2.1/\y.2.1+1 < a.size/\y.2.2.1 < b.size/\t+2<=y.1.size) z n.2 (fun r x hr=>wpS_pure ⟨X,r,rfl,hr⟩) fun hN=>?_
    refine un6 (J:=fun out ia ib _ _=>Lo S R a b out ia ib/\ia+1 < a.size/\ib < b.size/\t+2<=out.size) z hN fun out ia ib ac bc v=>?_
    dsimp only
    refine wpS_bind (adh ?_)
    refine wpS_bind (wpS_mono (Q:=fun (z:Option (Array Keyed) × Array Keyed × Nat × Nat × Nat × Nat × Nat) st'=>Eqv st st'/\((∃ r,z.1=some r/\Fin2 R a b r)\/(z.1=none/\Lo S R a b z.2.1 z.2.2.1 z.2.2.2.1/\z.2.2.1+1 < a.size/\z.2.2.2.1 < b.size/\t+2<=z.2.1.size))) ?_ ?_)
    ·refine wpS_forRange (fun i (z:Option (Array Keyed) × Array Keyed × Nat × Nat × Nat × Nat × Nat) st'=>Eqv st st'/\z.1=none/\Lo S R a b z.2.1 z.2.2.1 z.2.2.2.1/\z.2.2.1+1 < a.size/\z.2.2.2.1 < b.size/\t+2<=z.2.1.size) ?_ (fun z o n=>⟨n.1,.inr n.2⟩) ⟨X,rfl,v⟩
     intro i z o _ hi n
     have q:=n.1
     refine un7 (J:=fun out ia ib _ _ _=>Lo S R a b out ia ib/\ia+1 < a.size/\ib < b.size/\t+2<=out.size) z n.2 fun out ia ib mg ac bc v=>?_
     have l:=v.1
     have H:=v.2.1
     have d:=v.2.2.1
     have hsz:=v.2.2.2
     dsimp only
     refine' jpn (M:=M) (A:=A) (E:=E) (s:=s) (st:=o) (β:=Nat) (P:=fun _=>True) (prog:=?prog) (fun U=>?use) (fun a4 _=>?pf)
     case use =>
      refine aan (fun hm=>?_) (fun hm=>?_)
      ·generalize mg - 1=m
       exact U m trivial
      ·exact U mg trivial
     refine wpS_bind (wpS_mono (Q:=fun _ L=>Eqv o L) (wpS_modify ⟨rfl,rfl,rfl,rfl⟩) fun _ L K=>?_)
     replace K:=q.trans K
     refine wpS_bind (aay (x:=b[ib]) (aA4 d) ?_)
     refine wpS_bind (af4 C (O ib d) T.ha (by omega) (by rw [aE3 (by simp)];exact acn T.sa) (by omega) (K.k.trans hk) fun k a8 h1 h2=>?_)
     rw [aE3 (by simp),List.drop_drop] at h2
     dsimp only
     refine' jpn2 (M:=M) (A:=A) (E:=E) (s:=s) (st:=L) (P:=fun j c=>Lo S R a b j c ib/\c+1 < a.size/\(∀ x∈a.toList.drop c,R x b[ib]=false)/\t+2<=j.size) (prog:=?prog2) (fun U=>?use2) (fun j c h5=>?pf2)
     case use2 =>
      have u:∀ x∈a.toList.drop (ia+k),R x b[ib]=false:=fun x w=>C.asy _ _ (O ib d) (T.ha x (aC3 w)) (h2 x w)
      refine aan (fun k0=>?_) (fun k0=>?_)
      ·have D:Lo S R a b (out ++ a.extract ia (ia+k)) (ia+k) ib:=l.runA (by omega) fun x w y I=>by
        rw [abq d] at I
        have hd:Srt R (b[ib] :: b.toList.drop (ib+1)):=by rw [← abq d];exact acn T.sb
        have Z:S y:=T.hb y (aC3 (i:=ib) (by rw [abq d];exact I))
        exact C.tr _ _ _ (T.ha x (aC3 (aB9 w))) (O ib d) Z (h1 x w) (aef C hd (O ib d) y I)
       refine aan (fun F=>wpS_pure ⟨K,.inl ⟨_,rfl,D.lastA T (aF3.mp F)⟩⟩) (fun F=>?_)
       refine aan (fun e4=>wpS_pure ⟨K,.inl ⟨_,rfl,D.doneA (.inr (aF3.mp e4))⟩⟩) (fun e4=>?_)
       have W:Lo S R a b (out ++ a.extract ia (ia+k)) (ia+k) ib/\ia+k+1 < a.size/\(∀ x∈a.toList.drop (ia+k),R x b[ib]=false)/\t+2<=(out ++ a.extract ia (ia+k)).size:=by
        have a1:ia+k+1 ≠ a.size:=fun q=>F (aF3.mpr q)
        have a9:ia+k ≠ a.size:=fun q=>e4 (aF3.mpr q)
        exact ⟨D,by omega,u,by rw [Array.size_append];omega⟩
       revert W
       clear F e4 D u
       generalize out ++ a.extract ia (ia+k)=j
       generalize ia+k=c
       intro W
       exact U j c W
      ·have:k=0:=by omega
       rw [this] at u
       exact U out ia ⟨l,H,u,hsz⟩
     have l3:=h5.1
     have Y:=h5.2.1
     have a2:=h5.2.2.1
     have a3:=h5.2.2.2
     have f:c < a.size:=Nat.lt_of_succ_lt Y
     refine wpS_bind (aay (x:=b[ib]) (aA4 d) ?_)
     have l4:=l3.pushB C T d a2
     refine aan (fun e5=>wpS_pure ⟨K,.inl ⟨_,rfl,l4.doneA (.inl (aF3.mp e5))⟩⟩) (fun e5=>?_)
     replace e5:ib+1 ≠ b.size:=fun q=>e5 (aF3.mpr q)
     refine wpS_bind (aay (x:=a[c]) (aA4 f) ?_)
     refine wpS_bind (ahh C (N c f) T.hb (by omega) (by rw [aE3 (by simp)];exact acn T.sb) (by omega) (K.k.trans hk) fun G b1 h3 h4=>?_)
     rw [aE3 (by simp),List.drop_drop] at h4
     dsimp only
     refine' jpn2 (M:=M) (A:=A) (E:=E) (s:=s) (st:=L) (P:=fun p B=>Lo S R a b p c B/\B < b.size/\(∀ y∈b.toList.drop B,R y a[c]=false)/\t+2<=p.size) (prog:=?prog3) (fun U=>?use3) (fun p B h6=>?pf3)
     case use3 =>
      refine aan (fun k0=>?_) (fun k0=>?_)
      ·have hd:Srt R (a[c] :: a.toList.drop (c+1)):=by rw [← abq f];exact acn T.sa
       have l5:Lo S R a b (j.push b[ib] ++ b.extract (ib+1) (ib+1+G)) c (ib+1+G):=l4.runB (by omega) fun x w y I=>by
        rw [abq f] at I
        have Z:S y:=T.ha y (aC3 (i:=c) (by rw [abq f];exact I))
        have sx:S x:=T.hb x (aC3 (aB9 w))
        exact C.tr _ _ _ sx (N c f) Z (C.asy _ _ sx (N c f) (h3 x w)) (aef C hd (N c f) y I)
       refine aan (fun e6=>wpS_pure ⟨K,.inl ⟨_,rfl,l5.doneA (.inl (aF3.mp e6))⟩⟩) (fun e6=>?_)
       have W:Lo S R a b (j.push b[ib] ++ b.extract (ib+1) (ib+1+G)) c (ib+1+G)/\ib+1+G < b.size/\(∀ y∈b.toList.drop (ib+1+G),R y a[c]=false)/\t+2<=(j.push b[ib] ++ b.extract (ib+1) (ib+1+G)).size:=by
        have a7:ib+1+G ≠ b.size:=fun q=>e6 (aF3.mpr q)
        exact ⟨l5,by omega,h4,by rw [Array.size_append,aG9];omega⟩
       revert W
       clear e6 l5 hd
       generalize j.push b[ib] ++ b.extract (ib+1) (ib+1+G)=p
       generalize ib+1+G=B
       intro W
       exact U p B W
      ·have:G=0:=by omega
       rw [this] at h4
       exact U (j.push b[ib]) (ib+1) ⟨l4,by omega,h4,by rw [aG9];omega⟩
     refine wpS_bind (aay (x:=a[c]) (aA4 f) ?_)
     have l7:=h6.1.pushA f h6.2.2.1
     refine aan (fun e7=>wpS_pure ⟨K,.inl ⟨_,rfl,l7.lastA T (aF3.mp e7)⟩⟩) (fun e7=>?_)
     have hf:c+1+1 < a.size/\B < b.size/\t+2<=(p.push a[c]).size:=by
      have a6:c+1+1 ≠ a.size:=fun q=>e7 (aF3.mpr q)
      have h7:=h6.2.2.2
      exact ⟨by omega,h6.2.1,by rw [aG9];omega⟩
     exact aan (fun _=>wpS_pure ⟨K,.inr ⟨rfl,l7,hf⟩⟩) (fun _=>wpS_pure ⟨K,rfl,l7,hf⟩)
    ·intro z o n
     have X:=n.1
     refine unR (J:=fun y:Array Keyed × Nat × Nat × Nat × Nat × Nat=>Lo S R a b y.1 y.2.1 y.2.2.1/\y.2.1+1 < a.size/\y.2.2.1 < b.size/\t+2<=y.1.size) z n.2 (fun r x hr=>wpS_pure ⟨X,r,rfl,hr⟩) fun hN=>?_
     refine un7 (J:=fun out ia ib _ _ _=>Lo S R a b out ia ib/\ia+1 < a.size/\ib < b.size/\t+2<=out.size) z hN fun out ia ib mg ac bc v=>?_
     dsimp only
     refine wpS_bind (wpS_modify ?_)
     exact wpS_pure ⟨X.trans ⟨rfl,rfl,rfl,rfl⟩,rfl,v⟩
  ·intro z o n
   exfalso
   have h1:=n.2.2.1.len
   have h2:=n.2.2.2
   have:a.size+b.size<=max 0 (a.size+b.size):=by omega
   omega
 ·intro z o n
  have X:=n.1
  exact unR (J:=fun _=>False) z (.inl n.2) (fun r x hr=>wpS_pure (h r o X hr)) fun hN=>hN.2.elim
end
structure MidH (R:Keyed->Keyed->Bool) (L a b tl:List Keyed):Prop where
 perm:(a ++ b ++ tl).Perm L
 so:Srt R tl
 le:∀ x∈a ++ b,∀ y∈tl,R y x=false
 sa:Srt R a
 sb:Srt R b
section
variable {R:Keyed->Keyed->Bool} {L tl a b p:List Keyed}
theorem MidH.takeA (m:MidH R L (a ++ p) b tl) (h:∀ x∈b,∀ y∈p,R y x=false):MidH R L a b (p ++ tl):=by
 have sp:=aC8.mp m.sa
 refine ⟨List.Perm.trans ?_ m.perm,aC8.mpr ⟨sp.2.1,m.so,fun x c y d=>m.le x (aC6 _ (aB2 _ c)) y d⟩,fun x c y d=>?_,sp.1,m.sb⟩
 ·rw [← aB3,aB3 a p b,aB3 a b p]
  exact List.Perm.append_right tl (List.Perm.append_left a List.perm_append_comm)
 ·rcases aA7.mp d with d | d
  ·rcases aA7.mp c with c | c
   ·exact sp.2.2 x c y d
   ·exact h x c y d
  ·refine m.le x ?_ y d
   rcases aA7.mp c with c | c
   ·exact aC6 _ (aC6 _ c)
   ·exact aB2 _ c
theorem MidH.takeB (m:MidH R L a (b ++ p) tl) (h:∀ x∈a,∀ y∈p,R y x=false):MidH R L a b (p ++ tl):=by
 have sp:=aC8.mp m.sb
 refine ⟨by have:=m.perm;simp only [aB3] at this ⊢;exact this,aC8.mpr ⟨sp.2.1,m.so,fun x c y d=>m.le x (aB2 _ (aB2 _ c)) y d⟩,fun x c y d=>?_,m.sa,sp.1⟩
 rcases aA7.mp d with d | d
 ·rcases aA7.mp c with c | c
  ·exact h x c y d
  ·exact sp.2.2 x c y d
 ·refine m.le x ?_ y d
  rcases aA7.mp c with c | c
  ·exact aC6 _ c
  ·exact aB2 _ (aC6 _ c)
theorem MidH.done (m:MidH R L a b tl) (h:a=[]\/b=[]):(a ++ b ++ tl).Perm L/\Srt R (a ++ b ++ tl):=by
 refine ⟨m.perm,aC8.mpr ⟨?_,m.so,m.le⟩⟩
 rcases h with h | h
 ·subst h;exact m.sb
 ·subst h;rw [aE2];exact m.sa
theorem MidH.first (m:MidH R L a b tl) (h:∀ y∈b,∀ x∈a,R x y=false):(b ++ a ++ tl).Perm L/\Srt R (b ++ a ++ tl):=by
 refine ⟨List.Perm.trans (List.Perm.append_right tl List.perm_append_comm) m.perm,aC8.mpr ⟨aC8.mpr ⟨m.sb,m.sa,h⟩,m.so,fun x c y d=>m.le x ?_ y d⟩⟩
 rcases aA7.mp c with c | c
 ·exact aB2 _ c
 ·exact aC6 _ c
end
theorem aci {a:Array Keyed} {i:Nat} (b:0 < i) (h:i<=a.size):a.toList.take i=a.toList.take (i - 1) ++ [a[i - 1]'(by omega)]:=by
 obtain ⟨j,rfl⟩:∃ j,i=j+1:=⟨i - 1,by omega⟩
 rw [List.take_succ]
 have hj:j < a.size:=by omega
 simp [hj]
theorem ak7 (a:Array Keyed) (k:Nat):(a.extract 0 k).toList=a.toList.take k:=by
 rw [Array.toList_extract];simp [List.extract]
theorem alz (a:Array Keyed) (k n:Nat):(a.extract k n).toList=(a.toList.take n).drop k:=by
 rw [Array.toList_extract];simp [List.extract,List.drop_take]
section
variable {M:Model} {A:Around} {E:Value->Shared->Prop} {s:Shared} {κ:SortKind} {S:Keyed->Prop} {R:Keyed->Keyed->Bool}
structure Hi (S:Keyed->Prop) (R:Keyed->Keyed->Bool) (a b out:Array Keyed) (na nb:Nat):Prop where
 mid:MidH R (a.toList ++ b.toList) (a.toList.take na) (b.toList.take nb) out.toList.reverse
 na:na<=a.size
 nb:nb<=b.size
theorem Hi.len {a b out:Array Keyed} {na nb:Nat} (l:Hi S R a b out na nb):out.size+na+nb=a.size+b.size:=by
 have:=l.mid.perm.length_eq
 have d:=l.na
 have c:=l.nb
 simp at this
 omega
theorem Hi.doneA {a b out:Array Keyed} {na nb:Nat} (l:Hi S R a b out na nb) (h:na=0\/nb=0):Fin2 R a b (a.extract 0 na ++ b.extract 0 nb ++ out.reverse):=by
 have:=l.mid.done (by
  rcases h with h | h
  ·left;rw [h];simp
  ·right;rw [h];simp)
 unfold Fin2
 rw [aF6,aF6,ak7,ak7,Array.toList_reverse]
 exact this
theorem Hi.firstB {a b out:Array Keyed} {na nb:Nat} (T:Two S R a b) (l:Hi S R a b out na nb) (h:nb=1):Fin2 R a b (b.extract 0 nb ++ a.extract 0 na ++ out.reverse):=by
 subst h
 have:=l.mid.first (by
  intro y c x f
  rw [aci (by decide) l.nb] at c
  have d:y=b[0]'T.b0:=by simpa using c
  exact T.first x (aB9 f) y (by rw [d];exact aA4 _))
 unfold Fin2
 rw [aF6,aF6,ak7,ak7,Array.toList_reverse]
 exact this
theorem aca {l:List Keyed} {i:Nat} (h:Srt R l):Srt R (l.take i):=List.Pairwise.sublist (List.take_sublist i l) h
theorem ads {x:Keyed} {l:List Keyed} (C:Cmp M A E s κ S R) (h:Srt R (l ++ [x])) (b:S x):∀ y∈l ++ [x],R x y=false:=by
 intro y a
 rcases aA7.mp a with a | a
 ·exact (aC8.mp h).2.2 y a x (by simp)
 ·have:y=x:=by simpa using a
  rw [this];exact C.irr b
theorem Hi.pushA {a b out:Array Keyed} {na nb:Nat} (l:Hi S R a b out na nb) (d:0 < na) (h:∀ x∈b.toList.take nb,R (a[na - 1]'(by have:=l.na;omega)) x=false):Hi S R a b (out.push (a[na - 1]'(by have:=l.na;omega))) (na - 1) nb:=by
 refine ⟨?_,by have:=l.na;omega,l.nb⟩
 have m:=l.mid
 rw [aci d l.na] at m
 rw [Array.toList_push,List.reverse_append]
 exact m.takeA (p:=[_]) (fun x f y c=>by
  rw [aC1.mp c];exact h x f)
theorem Hi.pushB {a b out:Array Keyed} {na nb:Nat} (l:Hi S R a b out na nb) (d:0 < nb) (h:∀ x∈a.toList.take na,R (b[nb - 1]'(by have:=l.nb;omega)) x=false):Hi S R a b (out.push (b[nb - 1]'(by have:=l.nb;omega))) na (nb - 1):=by
 refine ⟨?_,l.na,by have:=l.nb;omega⟩
 have m:=l.mid
 rw [aci d l.nb] at m
 rw [Array.toList_push,List.reverse_append]
 exact m.takeB (p:=[_]) (fun x f y c=>by
  rw [aC1.mp c];exact h x f)
theorem Hi.runA {a b out:Array Keyed} {na nb k:Nat} (l:Hi S R a b out na nb) (d:k<=na) (h:∀ x∈b.toList.take nb,∀ y∈(a.toList.take na).drop k,R y x=false):Hi S R a b (out ++ (a.extract k na).reverse) k nb:=by
 refine ⟨?_,by have:=l.na;omega,l.nb⟩
 have m:=l.mid
 rw [← aC0 k (a.toList.take na)] at m
 rw [aF6,Array.toList_reverse,alz,List.reverse_append,List.reverse_reverse]
 have c:=m.takeA h
 rw [List.take_take,Nat.min_eq_left d] at c
 exact c
theorem Hi.runB {a b out:Array Keyed} {na nb k:Nat} (l:Hi S R a b out na nb) (d:k<=nb) (h:∀ x∈a.toList.take na,∀ y∈(b.toList.take nb).drop k,R y x=false):Hi S R a b (out ++ (b.extract k nb).reverse) na k:=by
 refine ⟨?_,l.na,by have:=l.nb;omega⟩
 have m:=l.mid
 rw [← aC0 k (b.toList.take nb)] at m
 rw [aF6,Array.toList_reverse,alz,List.reverse_append,List.reverse_reverse]
 have c:=m.takeB h
 rw [List.take_take,Nat.min_eq_left d] at c
 exact c
theorem ao2 (C:Cmp M A E s κ S R) {a b:Array Keyed} (T:Two S R a b) {Q:Array Keyed->SortSt->Prop} {st:SortSt} (hk:kindOf st = κ)
  (h:∀ m st',Eqv st st'->Fin2 R a b m->Q m st'):wpS M A E s (asd a b) Q st:=by
 have K:∀ i (h:i < a.size),S a[i]:=fun i h=>T.ha _ (by simp)
 have L:∀ i (h:i < b.size),S b[i]:=fun i h=>T.hb _ (by simp)
 have b0:=T.b0
 have a0:=T.a0
 have la:a.size - 1 < a.size:=by omega
 refine wpS_bind (adh ?_)
 refine wpS_bind (aay (x:=a[a.size - 1]'la) (aA4 la) ?_)
 have l1:Hi S R a b #[a[a.size - 1]'la] (a.size - 1) b.size:=by
  have l0:Hi S R a b #[] a.size b.size:=⟨⟨by simp [aE3],List.Pairwise.nil,fun x j y hy=>by simp at hy,aca T.sa,aca T.sb⟩,aA6 _,aA6 _⟩
  exact l0.pushA a0 fun x j=>T.last x (aB9 j) _ (aA4 la)
 refine aan (fun e1=>wpS_pure (h _ _ (Eqv.refl _) (l1.doneA (.inl (aF3.mp e1))))) (fun e1=>?_)
 refine aan (fun e2=>wpS_pure (h _ _ (Eqv.refl _) (l1.firstB T (aF3.mp e2)))) (fun e2=>?_)
 replace e1:a.size - 1 ≠ 0:=fun q=>e1 (aF3.mpr q)
 replace e2:b.size ≠ 1:=fun q=>e2 (aF3.mpr q)
 refine wpS_bind (wpS_get ?_)
 have a9:∀ {na nb:Nat} (G:0 < na) (N:na<=a.size) (U:0 < nb) (O:nb<=b.size),R (b[nb - 1]'(by omega)) (a[na - 1]'(by omega))=true->∀ x∈b.toList.take nb,R (a[na - 1]'(by omega)) x=false:=fun {na nb} G N U O er x j=>by
  have sx:S x:=T.hb x (aB9 j)
  have hs:Srt R (b.toList.take (nb - 1) ++ [b[nb - 1]'(by omega)]):=by rw [← aci U O];exact aca T.sb
  rw [aci U O] at j
  exact C.tr _ _ _ sx (L _ _) (K _ _) (ads C hs (L _ _) x j) (C.asy _ _ (L _ _) (K _ _) er)
 have a8:∀ {na nb:Nat} (G:0 < na) (N:na<=a.size) (U:0 < nb) (O:nb<=b.size),R (b[nb - 1]'(by omega)) (a[na - 1]'(by omega))=false->∀ x∈a.toList.take na,R (b[nb - 1]'(by omega)) x=false:=fun {na nb} G N U O er x j=>by
  have sx:S x:=T.ha x (aB9 j)
  have hs:Srt R (a.toList.take (na - 1) ++ [a[na - 1]'(by omega)]):=by rw [← aci G N];exact aca T.sa
  rw [aci G N] at j
  exact C.tr _ _ _ sx (K _ _) (L _ _) (ads C hs (K _ _) x j) er
 refine wpS_bind (wpS_mono (Q:=fun (z:Option (Array Keyed) × Nat × Nat × Array Keyed × Nat) st'=>Eqv st st'/\∃ r,z.1=some r/\Fin2 R a b r) ?_ ?_)
 ·refine wpS_forRange (fun t (z:Option (Array Keyed) × Nat × Nat × Array Keyed × Nat) st'=>Eqv st st'/\z.1=none/\Hi S R a b z.2.2.2.1 z.2.1 z.2.2.1/\0 < z.2.1/\1 < z.2.2.1/\t+1<=z.2.2.2.1.size) ?_ ?_ ⟨Eqv.refl _,rfl,l1,by dsimp only;omega,by dsimp only;omega,by simp⟩
  ·intro t z b6 _ ht f
   have q1:=f.1
   refine un5 (J:=fun na nb out _=>Hi S R a b out na nb/\0 < na/\1 < nb/\t+1<=out.size) z f.2 fun na nb out mg o=>?_
   dsimp only
   refine wpS_bind (wpS_mono (Q:=fun (z:Option (Array Keyed) × Nat × Nat × Array Keyed × Nat × Nat) st'=>Eqv st st'/\((∃ r,z.1=some r/\Fin2 R a b r)\/(z.1=none/\Hi S R a b z.2.2.2.1 z.2.1 z.2.2.1/\0 < z.2.1/\1 < z.2.2.1/\t+2<=z.2.2.2.1.size))) ?_ ?_)
   ·refine wpS_forRange (fun i (z:Option (Array Keyed) × Nat × Nat × Array Keyed × Nat × Nat) st'=>Eqv st st'/\z.1=none/\Hi S R a b z.2.2.2.1 z.2.1 z.2.2.1/\0 < z.2.1/\1 < z.2.2.1/\t+1+min i 1<=z.2.2.2.1.size) ?_ ?_ ⟨q1,rfl,o.1,o.2.1,o.2.2.1,o.2.2.2⟩
    ·intro i z g _ hi f
     have q:=f.1
     refine un6 (J:=fun na nb out _ _=>Hi S R a b out na nb/\0 < na/\1 < nb/\t+1+min i 1<=out.size) z f.2 fun na nb out ac bc o=>?_
     have l:=o.1
     have u:=o.2.1
     have a2:=o.2.2.1
     have hsz:=o.2.2.2
     have ia:na - 1 < a.size:=by have:=l.na;omega
     have ib:nb - 1 < b.size:=by have:=l.nb;omega
     refine wpS_bind (aay (x:=b[nb - 1]) (aA4 ib) ?_)
     refine wpS_bind (aay (x:=a[na - 1]) (aA4 ia) ?_)
     refine wpS_bind (C.ask _ _ (L _ ib) (K _ ia) _ _ (q.k.trans hk) ?_)
     dsimp only
     refine aan (fun er=>?_) (fun er=>?_)
     ·refine wpS_bind (aay (x:=a[na - 1]) (aA4 ia) ?_)
      have B:=l.pushA u (a9 u l.na (by omega) l.nb er)
      refine aan (fun w=>wpS_pure ⟨q,.inl ⟨_,rfl,B.doneA (.inl (aF3.mp w))⟩⟩) (fun w=>?_)
      have hf:0 < na - 1/\1 < nb/\t+2<=(out.push a[na - 1]).size:=by
       have a3:na - 1 ≠ 0:=fun q=>w (aF3.mpr q)
       rw [aG9];omega
      exact aan (fun _=>wpS_pure ⟨q,.inr ⟨rfl,B,hf⟩⟩) (fun _=>wpS_pure ⟨q,rfl,B,hf.1,a2,aC9 (by omega) hf.2.2⟩)
     ·refine wpS_bind (aay (x:=b[nb - 1]) (aA4 ib) ?_)
      have B:=l.pushB (by omega) (a8 u l.na (by omega) l.nb (eq_false_of_ne_true er))
      refine aan (fun w=>wpS_pure ⟨q,.inl ⟨_,rfl,B.firstB T (aF3.mp w)⟩⟩) (fun w=>?_)
      have hf:1 < nb - 1/\t+2<=(out.push b[nb - 1]).size:=by
       have a3:nb - 1 ≠ 1:=fun q=>w (aF3.mpr q)
       rw [aG9];omega
      exact aan (fun _=>wpS_pure ⟨q,.inr ⟨rfl,B,u,hf⟩⟩) (fun _=>wpS_pure ⟨q,rfl,B,u,hf.1,aC9 (by omega) hf.2⟩)
    ·exact fun z g f=>⟨f.1,.inr ⟨f.2.1,f.2.2.1,f.2.2.2.1,f.2.2.2.2.1,aC9 (by omega) f.2.2.2.2.2⟩⟩
   ·intro z g f
    have q2:=f.1
    refine unR (J:=fun y:Nat × Nat × Array Keyed × Nat × Nat=>Hi S R a b y.2.2.1 y.1 y.2.1/\0 < y.1/\1 < y.2.1/\t+2<=y.2.2.1.size) z f.2 (fun r x hr=>wpS_pure ⟨q2,r,rfl,hr⟩) fun hN=>?_
    refine un6 (J:=fun na nb out _ _=>Hi S R a b out na nb/\0 < na/\1 < nb/\t+2<=out.size) z hN fun na nb out ac bc o=>?_
    dsimp only
    refine wpS_bind (adh ?_)
    refine wpS_bind (wpS_mono (Q:=fun (z:Option (Array Keyed) × Nat × Nat × Array Keyed × Nat × Nat × Nat) st'=>Eqv st st'/\((∃ r,z.1=some r/\Fin2 R a b r)\/(z.1=none/\Hi S R a b z.2.2.2.1 z.2.1 z.2.2.1/\0 < z.2.1/\1 < z.2.2.1/\t+2<=z.2.2.2.1.size))) ?_ ?_)
    ·refine wpS_forRange (fun i (z:Option (Array Keyed) × Nat × Nat × Array Keyed × Nat × Nat × Nat) st'=>Eqv st st'/\z.1=none/\Hi S R a b z.2.2.2.1 z.2.1 z.2.2.1/\0 < z.2.1/\1 < z.2.2.1/\t+2<=z.2.2.2.1.size) ?_ (fun z g f=>⟨f.1,.inr f.2⟩) ⟨q2,rfl,o⟩
     intro i z g _ hi f
     have q:=f.1
     refine un7 (J:=fun na nb out _ _ _=>Hi S R a b out na nb/\0 < na/\1 < nb/\t+2<=out.size) z f.2 fun na nb out mg ac bc o=>?_
     have l:=o.1
     have u:=o.2.1
     have a2:=o.2.2.1
     have hsz:=o.2.2.2
     have b4:=l.na
     have Y:=l.nb
     have ib:nb - 1 < b.size:=by omega
     dsimp only
     refine' jpn (M:=M) (A:=A) (E:=E) (s:=s) (st:=g) (β:=Nat) (P:=fun _=>True) (prog:=?prog) (fun X=>?use) (fun b5 _=>?pf)
     case use =>
      refine aan (fun hm=>?_) (fun hm=>?_)
      ·generalize mg - 1=m
       exact X m trivial
      ·exact X mg trivial
     refine wpS_bind (wpS_mono (Q:=fun _ I=>Eqv g I) (wpS_modify ⟨rfl,rfl,rfl,rfl⟩) fun _ I H=>?_)
     replace H:=q.trans H
     refine wpS_bind (aay (x:=b[nb - 1]) (aA4 ib) ?_)
     refine wpS_bind (af4 C (L _ ib) T.ha (by omega) (by rw [List.drop_zero];exact aca T.sa) (by omega) (H.k.trans hk) fun k a7 G N=>?_)
     rw [List.drop_zero] at G N
     dsimp only
     generalize hac:na - k=ac2
     refine' jpn2 (M:=M) (A:=A) (E:=E) (s:=s) (st:=I) (P:=fun d c=>Hi S R a b d c nb/\0 < c/\(∀ x∈a.toList.take c,R b[nb - 1] x=false)/\t+2<=d.size) (prog:=?prog2) (fun X=>?use2) (fun d c h5=>?pf2)
     case use2 =>
      refine aan (fun k0=>?_) (fun k0=>?_)
      ·have a4:Srt R (b.toList.take (nb - 1) ++ [b[nb - 1]]):=by rw [← aci (by omega) Y];exact aca T.sb
       have B:Hi S R a b (out ++ (a.extract k na).reverse) k nb:=l.runA a7 fun x j y hy=>by
        have sx:S x:=T.hb x (aB9 j)
        have sy:S y:=T.ha y (aB9 (aC3 hy))
        rw [aci (by omega) Y] at j
        exact C.tr _ _ _ sx (L _ ib) sy (ads C a4 (L _ ib) x j) (C.asy _ _ (L _ ib) sy (N y hy))
       refine aan (fun w=>wpS_pure ⟨H,.inl ⟨_,rfl,B.doneA (.inl (aF3.mp w))⟩⟩) (fun w=>?_)
       have Z:Hi S R a b (out ++ (a.extract k na).reverse) k nb/\0 < k/\(∀ x∈a.toList.take k,R b[nb - 1] x=false)/\t+2<=(out ++ (a.extract k na).reverse).size:=by
        have a3:k ≠ 0:=fun q=>w (aF3.mpr q)
        exact ⟨B,by omega,G,by rw [Array.size_append];omega⟩
       revert Z
       clear w B
       generalize out ++ (a.extract k na).reverse=d
       generalize k=c
       intro Z
       exact X d c Z
      ·have:k=na:=by omega
       rw [this] at G
       exact X out na ⟨l,u,G,hsz⟩
     have l3:=h5.1
     have D:=h5.2.1
     have a6:=h5.2.2.1
     have b3:=h5.2.2.2
     have F:=l3.na
     have ia:c - 1 < a.size:=by omega
     refine wpS_bind (aay (x:=b[nb - 1]) (aA4 ib) ?_)
     have l4:=l3.pushB (by omega) a6
     refine aan (fun e5=>wpS_pure ⟨H,.inl ⟨_,rfl,l4.firstB T (aF3.mp e5)⟩⟩) (fun e5=>?_)
     replace e5:nb - 1 ≠ 1:=fun q=>e5 (aF3.mpr q)
     refine wpS_bind (aay (x:=a[c - 1]) (aA4 ia) ?_)
     refine wpS_bind (ahh C (K _ ia) T.hb (by omega) (by rw [List.drop_zero];exact aca T.sb) (by omega) (H.k.trans hk) fun v b2 U O=>?_)
     rw [List.drop_zero] at U O
     dsimp only
     generalize hbc:nb - 1 - v=bc2
     refine' jpn2 (M:=M) (A:=A) (E:=E) (s:=s) (st:=I) (P:=fun n p=>Hi S R a b n c p/\1 < p/\(∀ x∈b.toList.take p,R a[c - 1] x=false)/\t+2<=n.size) (prog:=?prog3) (fun X=>?use3) (fun n p h6=>?pf3)
     case use3 =>
      have a1:∀ x∈b.toList.take v,R a[c - 1] x=false:=fun x j=>C.asy _ _ (T.hb x (aB9 j)) (K _ ia) (U x j)
      refine aan (fun k0=>?_) (fun k0=>?_)
      ·have b1:Srt R (a.toList.take (c - 1) ++ [a[c - 1]]):=by rw [← aci D F];exact aca T.sa
       have l5:Hi S R a b (d.push b[nb - 1] ++ (b.extract v (nb - 1)).reverse) c v:=l4.runB b2 fun x j y hy=>by
        have sx:S x:=T.ha x (aB9 j)
        have sy:S y:=T.hb y (aB9 (aC3 hy))
        rw [aci D F] at j
        exact C.tr _ _ _ sx (K _ ia) sy (ads C b1 (K _ ia) x j) (O y hy)
       refine aan (fun e6=>wpS_pure ⟨H,.inl ⟨_,rfl,l5.firstB T (aF3.mp e6)⟩⟩) (fun e6=>?_)
       refine aan (fun W=>wpS_pure ⟨H,.inl ⟨_,rfl,l5.doneA (.inr (aF3.mp W))⟩⟩) (fun W=>?_)
       have Z:Hi S R a b (d.push b[nb - 1] ++ (b.extract v (nb - 1)).reverse) c v/\1 < v/\(∀ x∈b.toList.take v,R a[c - 1] x=false)/\t+2<=(d.push b[nb - 1] ++ (b.extract v (nb - 1)).reverse).size:=by
        have b7:v ≠ 1:=fun q=>e6 (aF3.mpr q)
        have a5:v ≠ 0:=fun q=>W (aF3.mpr q)
        exact ⟨l5,by omega,a1,by rw [Array.size_append,aG9];omega⟩
       revert Z
       clear e6 W l5
       generalize d.push b[nb - 1] ++ (b.extract v (nb - 1)).reverse=n
       generalize v=p
       intro Z
       exact X n p Z
      ·have:v=nb - 1:=by omega
       rw [this] at a1
       exact X (d.push b[nb - 1]) (nb - 1) ⟨l4,by omega,a1,by rw [aG9];omega⟩
     refine wpS_bind (aay (x:=a[c - 1]) (aA4 ia) ?_)
     have l7:=h6.1.pushA D h6.2.2.1
     refine aan (fun W=>wpS_pure ⟨H,.inl ⟨_,rfl,l7.doneA (.inl (aF3.mp W))⟩⟩) (fun W=>?_)
     have hf:0 < c - 1/\1 < p/\t+2<=(n.push a[c - 1]).size:=by
      have a5:c - 1 ≠ 0:=fun q=>W (aF3.mpr q)
      have h7:=h6.2.2.2
      exact ⟨by omega,h6.2.1,by rw [aG9];omega⟩
     exact aan (fun _=>wpS_pure ⟨H,.inr ⟨rfl,l7,hf⟩⟩) (fun _=>wpS_pure ⟨H,rfl,l7,hf⟩)
    ·intro z g f
     have q2:=f.1
     refine unR (J:=fun y:Nat × Nat × Array Keyed × Nat × Nat × Nat=>Hi S R a b y.2.2.1 y.1 y.2.1/\0 < y.1/\1 < y.2.1/\t+2<=y.2.2.1.size) z f.2 (fun r x hr=>wpS_pure ⟨q2,r,rfl,hr⟩) fun hN=>?_
     refine un7 (J:=fun na nb out _ _ _=>Hi S R a b out na nb/\0 < na/\1 < nb/\t+2<=out.size) z hN fun na nb out mg ac bc o=>?_
     dsimp only
     refine wpS_bind (wpS_modify ?_)
     exact wpS_pure ⟨q2.trans ⟨rfl,rfl,rfl,rfl⟩,rfl,o⟩
  ·intro z g f
   exfalso
   have G:=f.2.2.1.len
   have N:=f.2.2.2
   have:a.size+b.size<=max 0 (a.size+b.size):=by omega
   omega
 ·intro z g f
  have q2:=f.1
  exact unR (J:=fun _=>False) z (.inl f.2) (fun r x hr=>wpS_pure (h r g q2 hr)) fun hN=>hN.2.elim
end
theorem aj4 (base:Nat):∀ (b v u w:List Keyed) (j:Nat) (xs:Array Keyed),xs.toList=u ++ v ++ w->v.length=b.length->u.length=base+j ->
  ((b.zipIdx j).foldl (fun a x=>match x with | (p,j)=>a.setIfInBounds (base+j) p) xs).toList=u ++ b ++ w
 | [],v,u,w,j,xs,h1,h2,h3=>by
  have:v=[]:=aG2 h2
  subst this
  exact h1
 | m :: b,v,u,w,j,xs,h1,h2,h3=>by
  cases v with
  | nil=>cases h2
  | cons y v =>
   rw [List.zipIdx_cons,List.foldl_cons]
   have c:=aj4 base b v (u ++ [m]) w (j+1) (xs.setIfInBounds (base+j) m) (by
    rw [Array.toList_setIfInBounds,h1,← h3]
    simp [List.set_append]) (by simpa using h2) (by simp [h3];omega)
   rw [c]
   simp
section
variable {M:Model} {A:Around} {E:Value->Shared->Prop} {s:Shared} {κ:SortKind} {S:Keyed->Prop} {R:Keyed->Keyed->Bool}
theorem ava {σ:Type} {st st' : σ} {Q:PUnit->σ->Prop} (h:Q ⟨⟩ st'):wpS M A E s (set st':StateT σ Sem PUnit) Q st:=by
 unfold wpS
 rw [StateT.run_set]
 exact aI0 ⟨rfl,h⟩
theorem ao3 (C:Cmp M A E s κ S R) {st:SortSt} {i pw pw2:Nat} {pre a b g:List Keyed} (G:(arrOf st).toList=pre ++ a ++ b ++ g) (hS:∀ x∈(arrOf st).toList,S x)
  (a3:(pendingOf st)[i]?=some (pre.length,a.length,pw)) (a9:(pendingOf st)[i+1]?=some (pre.length+a.length,b.length,pw2)) (na:a ≠ []) (nb:b ≠ []) (W:Srt R a) (O:Srt R b) (hk:kindOf st = κ) (hf:failedOf st=none)
  {Q:Bool->SortSt->Prop}
  (h:∀ st' m,kindOf st' = κ->failedOf st'=none->pendingOf st'=((pendingOf st).setIfInBounds i (pre.length,a.length+b.length,pw)).eraseIdxIfInBounds (i+1)->(arrOf st').toList=pre ++ m ++ g->m.Perm (a ++ b)->Srt R m->Q true st') :
  wpS M A E s (aly i) Q st:=by
 have la:0 < a.length:=aE9.mpr na
 have lb:0 < b.length:=aE9.mpr nb
 have K:∀ x∈a,S x:=fun x c=>hS x (by rw [G];simp [c])
 have U:∀ x∈b,S x:=fun x c=>hS x (by rw [G];simp [c])
 have lx:(arrOf st).size=pre.length+a.length+b.length+g.length:=by
  have:=congrArg List.length G
  simp at this
  omega
 have w:((arrOf st).toList.drop pre.length).take a.length=a:=by rw [G];simp [aB3]
 have B:((arrOf st).toList.drop (pre.length+a.length)).take b.length=b:=by
  rw [show pre.length+a.length=(pre ++ a).length by simp,G,aB3 (pre ++ a),List.drop_left,List.take_left]
 refine wpS_bind (wpS_get ?_)
 rw [a3,a9]
 refine wpS_bind (wpS_mono (Q:=fun _ n=>kindOf n = κ/\failedOf n=none/\arrOf n=arrOf st/\pendingOf n=((pendingOf st).setIfInBounds i (pre.length,a.length+b.length,pw)).eraseIdxIfInBounds (i+1)) (ava ⟨hk,hf,rfl,rfl⟩) fun _ n ⟨Z,f1,a1,p1⟩=>?_)
 obtain ⟨b0,bt,eb⟩:∃ b0 bt,b=b0 :: bt:=by cases b with | nil=>exact absurd rfl nb | cons x r=>exact ⟨x,r,rfl⟩
 have a5:(arrOf st)[pre.length+a.length]?=some b0:=by
  rw [← aD2,G,eb]
  simp [List.getElem?_append]
 have v:S b0:=U b0 (by rw [eb];simp)
 have D:∀ y∈b,R y b0=false:=fun y d=>by rw [eb] at d O;exact aef C O v y d
 -- nothing is laid together: the two stand in order already
 have F:(∀ x∈a,∀ y∈b,R y x=false)->∀ st',Eqv n st'->Q true st':=fun hc st' q=>by
  refine h st' (a ++ b) (q.k.trans Z) (q.f.trans f1) (q.p.trans p1) ?_ (List.Perm.refl _) (aC8.mpr ⟨W,O,hc⟩)
  rw [q.a,a1,G]
  simp [aB3]
 refine wpS_bind (aay a5 ?_)
 refine wpS_bind (af4 C v hS (by omega) (by rw [w];exact W) la Z fun k a6 h1 h2=>?_)
 rw [w] at h2
 have I:∀ x∈a.take k,R b0 x=false:=fun x c=>h1 x (by
  have:((arrOf st).toList.drop pre.length).take k=a.take k:=by rw [← w,List.take_take,Nat.min_eq_left a6]
  rw [this];exact c)
 dsimp only
 refine aan (fun e=>?_) (fun e=>?_)
 ·have e':a.length - k=0:=by simpa using e
  refine wpS_pure (F (fun x c y d=>?_) n (Eqv.refl _))
  have:a.take k=a:=aE3 (by omega)
  rw [this] at I
  exact C.tr x b0 y (K x c) v (U y d) (I x c) (D y d)
 ·have e':a.length - k ≠ 0:=by simpa using e
  -- the last of a
  have N:pre.length+k+(a.length - k) - 1=pre.length+(a.length - 1):=by omega
  have o:a.length - 1 < a.length:=by omega
  have a8:(arrOf st)[pre.length+k+(a.length - k) - 1]?=some (a[a.length - 1]'o):=by
   rw [← aD2,G,N]
   simp [List.getElem?_append,o,aB3]
  have Sl:S (a[a.length - 1]'o):=K _ (List.getElem_mem o)
  have u:a=a.take (a.length - 1) ++ [a[a.length - 1]'o]:=by
   have:=List.take_succ (l:=a) (i:=a.length - 1)
   rw [show a.length - 1+1=a.length by omega,aF8] at this
   simpa [o] using this
  have J:∀ x∈a,R (a[a.length - 1]'o) x=false:=fun x c=>by
   have hs:Srt R (a.take (a.length - 1) ++ [a[a.length - 1]'o]):=by rw [← u];exact W
   exact ads C hs Sl x (by rw [← u];exact c)
  refine wpS_bind (aay a8 ?_)
  refine wpS_bind (ahh C Sl hS (by omega) (by rw [B];exact O) (by omega) Z fun j a7 h3 h4=>?_)
  rw [B] at h4
  have a0:((arrOf st).toList.drop (pre.length+a.length)).take j=b.take j:=by rw [← B,List.take_take,Nat.min_eq_left a7]
  rw [a0] at h3
  dsimp only
  refine aan (fun e2=>?_) (fun e2=>?_)
  ·have a2:j=0:=by simpa using e2
   subst a2
   refine wpS_pure (F (fun x c y d=>?_) n (Eqv.refl _))
   exact C.tr x _ y (K x c) Sl (U y d) (J x c) (h4 y (by simpa using d))
  ·have a2:j ≠ 0:=by simpa using e2
   have ex:((arrOf st).extract (pre.length+k) (pre.length+a.length)).toList=a.drop k:=by
    rw [alz,G]
    simp [aB3,List.take_append,List.drop_append]
   have P:((arrOf st).extract (pre.length+a.length) (pre.length+a.length+j)).toList=b.take j:=by
    rw [ajf,a0]
   generalize hX:(arrOf st).extract (pre.length+k) (pre.length+a.length)=X at ex
   generalize hY:(arrOf st).extract (pre.length+a.length) (pre.length+a.length+j)=Y at P
   have sX:X.size=a.length - k:=by have:=congrArg List.length ex;simpa using this
   have sY:Y.size=j:=by have:=congrArg List.length P;simp at this;omega
   have T:Two S R X Y:=by
    refine ⟨fun x c=>K x (aC3 (by rw [← ex];exact c)),fun x c=>U x (aB9 (by rw [← P];exact c)),by rw [ex];exact acn W,by rw [P];exact aca O,by omega,by omega,fun x c y d=>?_,fun y d x c=>?_⟩
    ·rw [← aD2,P,eb] at d
     have:y=b0:=by
      obtain ⟨j',rfl⟩:∃ j',j=j'+1:=⟨j - 1,by omega⟩
      simpa using d.symm
     rw [this]
     rw [ex] at c
     exact C.asy _ _ v (K x (aC3 c)) (h2 x c)
    ·rw [← aD2,ex,sX] at c
     rw [aH3,show k+(a.length - k - 1)=a.length - 1 by omega,aA0 o] at c
     cases c
     rw [P] at d
     exact C.asy _ _ (U y (aB9 d)) Sl (h3 y d)
   have fin:∀ (m:Array Keyed) (st':SortSt),Eqv n st'->Fin2 R X Y m->wpS M A E s (do
     modify fun (z:SortSt)=>setArr z (List.foldl (fun a x=>match x with | (p,j)=>a.setIfInBounds (pre.length+k+j) p) (arrOf z) m.toList.zipIdx)
     let z ← get
     pure (failedOf z).isNone) Q st':=by
    intro m st' q ⟨H,ms⟩
    rw [ex,P] at H
    refine wpS_bind (wpS_modify ?_)
    refine wpS_bind (wpS_get ?_)
    refine wpS_pure ?_
    show Q (failedOf st').isNone _
    rw [q.f,f1]
    have lm:m.toList.length=(a.drop k).length+(b.take j).length:=by rw [H.length_eq,aB0]
    have L:∀ z∈m.toList,z∈a.drop k\/z∈b.take j:=fun z hz=>aA7.mp (H.mem_iff.mp hz)
    refine h _ (a.take k ++ m.toList ++ b.drop j) (q.k.trans Z) (q.f.trans f1) (q.p.trans p1) ?_ ?_ ?_
    ·show (List.foldl _ (arrOf st') m.toList.zipIdx).toList=_
     have base:(arrOf st').toList=(pre ++ a.take k) ++ (a.drop k ++ b.take j) ++ (b.drop j ++ g):=by
      rw [q.a,a1,G]
      have t1:=aC0 k a
      have t2:=aC0 j b
      calc pre ++ a ++ b ++ g=pre ++ (a.take k ++ a.drop k) ++ (b.take j ++ b.drop j) ++ g:=by rw [t1,t2]
       _=_:=by simp only [aB3]
     have:=aj4 (pre.length+k) m.toList (a.drop k ++ b.take j) (pre ++ a.take k) (b.drop j ++ g) 0 (arrOf st') base (by rw [aB0,lm]) (by rw [aB0,aG0];omega)
     rw [this]
     simp only [aB3]
    ·have t1:=aC0 k a
     have t2:=aC0 j b
     calc (a.take k ++ m.toList ++ b.drop j).Perm (a.take k ++ (a.drop k ++ b.take j) ++ b.drop j):=List.Perm.append_right _ (List.Perm.append_left _ H)
      _ = a ++ b:=by
       simp only [aB3]
       rw [t2,← aB3,t1]
    ·have a4:Srt R (a.take k ++ a.drop k):=by rw [aC0];exact W
     have b1:Srt R (b.take j ++ b.drop j):=by rw [aC0];exact O
     have ca:=(aC8.mp a4).2.2
     have cb:=(aC8.mp b1).2.2
     refine aC8.mpr ⟨aC8.mpr ⟨aca W,ms,fun x c y d=>?_⟩,acn O,fun x c y d=>?_⟩
     ·rcases L y d with d | d
      ·exact ca x c y d
      ·exact C.tr x b0 y (K x (aB9 c)) v (U y (aB9 d)) (I x c) (D y (aB9 d))
     ·have Sy:=U y (aC3 d)
      rcases aA7.mp c with c | c
      ·exact C.tr x b0 y (K x (aB9 c)) v Sy (I x c) (D y (aC3 d))
      ·rcases L x c with c | c
       ·exact C.tr x _ y (K x (aC3 c)) Sl Sy (J x (aC3 c)) (h4 y d)
       ·exact cb x c y d
   refine aan (fun e3=>?_) (fun e3=>?_)
   ·exact wpS_bind (ao1 C T Z fun m st' q fm=>fin m st' q fm)
   ·exact wpS_bind (ao2 C T Z fun m st' q fm=>fin m st' q fm)
end
def e (xs:Array Keyed) (k:Nat):Keyed:=(xs[k]?).getD (.none,.none)
theorem aih {xs:Array Keyed} {k:Nat} (h:k < xs.size):xs[k]?=some (e xs k):=by
 unfold e;rw [aA4 h];rfl
def Asc (R:Keyed->Keyed->Bool) (xs:Array Keyed) (l h:Nat):Prop:=∀ i j,l<=i->i<=j->j < h->R (e xs j) (e xs i)=false
def Des (R:Keyed->Keyed->Bool) (xs:Array Keyed) (l h:Nat):Prop:=∀ i j,l<=i->i<=j->j < h->R (e xs i) (e xs j)=false
structure Bs (κ:SortKind) (p0:Array (Nat × Nat × Nat)) (a0:Array Keyed) (lo:Nat) (st:SortSt):Prop where
 k:kindOf st = κ
 f:failedOf st=none
 p:pendingOf st=p0
 perm:(arrOf st).toList.Perm a0.toList
 pre:∀ k,k < lo->(arrOf st)[k]?=a0[k]?
theorem asf {xs:Array Keyed} {src d:Nat} (a:src < xs.size) (hd:d<=src) (k:Nat):e (bubble xs src d) k=if k=src - d then e xs src else if src - d < k/\k<=src then e xs (k - 1) else e xs k:=by
 unfold e
 rw [getElem?_bubble a d hd]
 repeat' split
 all_goals rfl
theorem acx {xs:Array Keyed} {i j:Nat} (hj:j<=xs.size) (k:Nat):e (mirror xs i j ((j - i) / 2)) k=if i<=k/\k < j then e xs (i+j - 1 - k) else e xs k:=by
 unfold e
 rw [getElem?_mirror_all hj]
 split <;> rfl
section
variable {M:Model} {A:Around} {E:Value->Shared->Prop} {s:Shared} {κ:SortKind} {S:Keyed->Prop} {R:Keyed->Keyed->Bool} {p0:Array (Nat × Nat × Nat)} {a0:Array Keyed} {lo:Nat}
theorem Bs.size {st:SortSt} (B:Bs κ p0 a0 lo st):(arrOf st).size=a0.size:=by
 have:=B.perm.length_eq
 simpa using this
theorem Bs.sat {st:SortSt} (B:Bs κ p0 a0 lo st) (b:∀ x∈a0.toList,S x) {k:Nat} (a:k < a0.size):S (e (arrOf st) k):=by
 have h:=aih (xs:=arrOf st) (k:=k) (by rw [B.size];exact a)
 refine b _ (B.perm.mem_iff.mp ?_)
 rw [← aD2] at h
 exact aA2 h
theorem af5 (C:Cmp M A E s κ S R) (a:∀ x∈a0.toList,S x) {st:SortSt} (B:Bs κ p0 a0 lo st) {i j:Nat} (hi:i < a0.size) (hj:j < a0.size) {Q:Option Bool->SortSt->Prop} (h:Q (some (R (e (arrOf st) i) (e (arrOf st) j))) st) :
  wpS M A E s (ltAt' i j) Q st:=by
 rw [ltAt'_eq]
 refine wpS_bind (wpS_get ?_)
 refine wpS_bind (aay (aih (by rw [B.size];exact hi)) ?_)
 refine wpS_bind (aay (aih (by rw [B.size];exact hj)) ?_)
 exact C.ask _ _ (B.sat a hi) (B.sat a hj) _ _ B.k h
theorem asg (C:Cmp M A E s κ S R) {xs:Array Keyed} {l h:Nat} (b:∀ k,k<=h->S (e xs k)) (g:l < h) (a:Asc R xs l h) (n:R (e xs h) (e xs (h - 1))=false):Asc R xs l (h+1):=by
 intro i j c d f
 by_cases hj:j=h
 ·subst hj
  by_cases hi:i=j
  ·subst hi;exact C.irr (b _ (aA6 _))
  ·exact C.tr _ (e xs (j - 1)) _ (b _ (by omega)) (b _ (by omega)) (b _ (by omega)) (a i (j - 1) c (by omega) (by omega)) n
 ·exact a i j c d (by omega)
theorem afn (C:Cmp M A E s κ S R) {xs:Array Keyed} {l h:Nat} (b:∀ k,k<=h->S (e xs k)) (g:l < h) (a:Des R xs l h) (n:R (e xs (h - 1)) (e xs h)=false):Des R xs l (h+1):=by
 intro i j c d f
 by_cases hj:j=h
 ·subst hj
  by_cases hi:i=j
  ·subst hi;exact C.irr (b _ (aA6 _))
  ·exact C.tr _ (e xs (j - 1)) _ (b _ (by omega)) (b _ (by omega)) (b _ (by omega)) n (a i (j - 1) c (by omega) (by omega))
 ·exact a i j c d (by omega)
theorem Bs.set {st:SortSt} (B:Bs κ p0 a0 lo st) {xs:Array Keyed} (c:xs.Perm (arrOf st)) (b:∀ k,k < lo->xs[k]?=(arrOf st)[k]?):Bs κ p0 a0 lo (setArr st xs) :=
 ⟨B.k,B.f,B.p,c.toList.trans B.perm,fun k a=>(b k a).trans (B.pre k a)⟩
theorem ao4 (C:Cmp M A E s κ S R) (D:∀ x∈a0.toList,S x) {st:SortSt} (B:Bs κ p0 a0 lo st) {n ok:Nat} (hn:lo+n<=a0.size) (hok:ok<=n) (O:1<=n) (L:Asc R (arrOf st) lo (lo+ok)) {Q:Bool->SortSt->Prop}
  (h:∀ st',Bs κ p0 a0 lo st'->Asc R (arrOf st') lo (lo+n)->Q true st'):wpS M A E s (ase lo n ok) Q st:=by
 refine wpS_bind (wpS_mono (Q:=fun (z:Option Bool × Unit) st'=>z.1=none/\Bs κ p0 a0 lo st'/\Asc R (arrOf st') lo (lo+n)) ?_ ?_)
 ·refine wpS_forRange (fun k (z:Option Bool × Unit) st'=>z.1=none/\Bs κ p0 a0 lo st'/\Asc R (arrOf st') lo (lo+k)) ?_ ?_ ⟨rfl,B,fun i j g m u=>?_⟩
  ·rintro k ⟨o,_⟩ b H J ⟨rfl,q,as⟩
   have d:∀ j,j < lo+n->S (e (arrOf b) j):=fun j hj=>q.sat D (by omega)
   refine wpS_bind (wpS_mono (Q:=fun (z:Option Bool × Nat × Nat) st'=>st'=b/\z.1=none/\z.2.1<=k/\(∀ i,i < z.2.1->R (e (arrOf b) (lo+k)) (e (arrOf b) (lo+i))=false)/\(∀ i,z.2.1<=i->i < k->R (e (arrOf b) (lo+k)) (e (arrOf b) (lo+i))=true)) ?_ ?_)
   ·refine wpS_forRange (fun t (z:Option Bool × Nat × Nat) st'=>st'=b/\z.1=none/\z.2.1<=z.2.2/\z.2.2<=k/\z.2.2 - z.2.1+t<=k/\(∀ i,i < z.2.1->R (e (arrOf b) (lo+k)) (e (arrOf b) (lo+i))=false)/\(∀ i,z.2.2<=i->i < k->R (e (arrOf b) (lo+k)) (e (arrOf b) (lo+i))=true)) ?_ ?_
     ⟨rfl,rfl,Nat.zero_le _,Nat.le_refl _,by dsimp only;omega,fun i hi=>absurd hi (Nat.not_lt_zero _),fun i g m=>by dsimp only at g;omega⟩
    ·rintro t ⟨o,l,r⟩ a _ N ⟨rfl,c,g,m,u,f,p⟩
     dsimp only at c g m u f p ⊢
     subst c
     refine aan (fun w=>?_) (fun w=>?_)
     ·have:l=r:=by omega
      subst this
      exact wpS_pure ⟨rfl,rfl,m,f,p⟩
     ·have hm:(l+r) / 2 < r:=by omega
      have y:l<=(l+r) / 2:=by omega
      refine wpS_bind (af5 C D q (by omega) (by omega) ?_)
      dsimp only
      cases er:R (e (arrOf a) (lo+k)) (e (arrOf a) (lo+(l+r) / 2)) with
      | true =>
       rw [aE5 rfl]
       refine wpS_pure ⟨rfl,rfl,y,by dsimp only;omega,by dsimp only;omega,f,fun i i1 v=>?_⟩
       dsimp only at i1
       cases e2:R (e (arrOf a) (lo+k)) (e (arrOf a) (lo+i)) with
       | true=>rfl
       | false =>
        have:=C.tr _ _ _ (d _ (by omega)) (d _ (by omega)) (d _ (by omega)) (as (lo+(l+r) / 2) (lo+i) (by omega) (by omega) (by omega)) e2
        rw [this] at er;cases er
      | false =>
       rw [aE6 (by decide)]
       refine wpS_pure ⟨rfl,rfl,by dsimp only;omega,m,by dsimp only;omega,fun i i1=>?_,p⟩
       dsimp only at i1
       exact C.tr _ _ _ (d _ (by omega)) (d _ (by omega)) (d _ (by omega)) (as (lo+i) (lo+(l+r) / 2) (by omega) (by omega) (by omega)) er
    ·rintro ⟨o,l,r⟩ a ⟨rfl,c,g,m,u,f,p⟩
     dsimp only at c g m u f p ⊢
     have : l = r := by have:k ≤ max 0 k := by omega
                        omega
     subst this
     exact ⟨rfl,c,m,f,p⟩
   ·rintro ⟨o,l,r⟩ a ⟨rfl,c,g,f,p⟩
    dsimp only at c g f p ⊢
    subst c
    dsimp only
    have hsz:lo+k < (arrOf a).size:=by rw [q.size];omega
    have hd:(lo+k) - (lo+l)=k - l:=by omega
    refine wpS_bind (wpS_modify ?_)
    have F:∀ j,e (bubble (arrOf a) (lo+k) (lo+k - (lo+l))) j=if j=lo+l then e (arrOf a) (lo+k) else if lo+l < j/\j<=lo+k then e (arrOf a) (j - 1) else e (arrOf a) j:=fun j=>by
     rw [asf hsz (by omega),show lo+k - (lo+k - (lo+l))=lo+l by omega]
    refine wpS_pure ⟨rfl,q.set (bubble_perm _ _ _) (fun j hj=>?_),fun i j i1 v K=>?_⟩
    ·show (bubble (arrOf a) (lo+k) (lo+k - (lo+l)))[j]?=_
     rw [getElem?_bubble hsz _ (by omega),aE6 (by omega),aE6 (by omega)]
    ·show R (e (bubble (arrOf a) (lo+k) (lo+k - (lo+l))) j) (e (bubble (arrOf a) (lo+k) (lo+k - (lo+l))) i)=false
     rw [F,F]
     have I:∀ j,j < lo+n->S (e (arrOf a) j):=d
     by_cases j1:j=lo+l
     ·rw [aE5 j1]
      by_cases i4:i=lo+l
      ·rw [aE5 i4];exact C.irr (d _ (by omega))
      ·rw [aE6 i4,aE6 (by omega)]
       have:=f (i - lo) (by omega)
       rw [show lo+(i - lo)=i by omega] at this
       exact this
     ·rw [aE6 j1]
      by_cases j2:lo+l < j/\j<=lo+k
      ·rw [aE5 j2]
       have G:=p (j - 1 - lo) (by omega) (by omega)
       rw [show lo+(j - 1 - lo)=j - 1 by omega] at G
       by_cases i4:i=lo+l
       ·rw [aE5 i4];exact C.asy _ _ (d _ (by omega)) (d _ (by omega)) G
       ·rw [aE6 i4]
        by_cases i5:lo+l < i/\i<=lo+k
        ·rw [aE5 i5];exact as (i - 1) (j - 1) (by omega) (by omega) (by omega)
        ·rw [aE6 i5];exact as i (j - 1) (by omega) (by omega) (by omega)
      ·rw [aE6 j2,aE6 (by omega),aE6 (by omega)]
       exact as i j (by omega) (by omega) (by omega)
  ·rintro ⟨o,_⟩ b ⟨c,q,as⟩
   exact ⟨c,q,fun i j i1 v K=>as i j i1 v (by omega)⟩
  ·by_cases hj:j < lo+ok
   ·exact L i j g m hj
   ·have:i=j:=by omega
    subst this
    exact C.irr (B.sat D (by omega))
 ·rintro ⟨o,_⟩ b ⟨c,q,as⟩
  dsimp only at c ⊢
  subst c
  exact wpS_pure (h b q as)
end
def Eqb (R:Keyed->Keyed->Bool) (xs:Array Keyed) (l h:Nat):Prop:=∀ i j,l<=i->i < h->l<=j->j < h->R (e xs i) (e xs j)=false
section
variable {M:Model} {A:Around} {E:Value->Shared->Prop} {s:Shared} {κ:SortKind} {S:Keyed->Prop} {R:Keyed->Keyed->Bool} {p0:Array (Nat × Nat × Nat)} {a0:Array Keyed} {lo:Nat}
theorem an2 {α:Type} {prog:StateT SortSt Sem α} {P:SortSt->Prop} {Q : α->SortSt->Prop} {G:Prop} (use:(∀ st,P st->wpS M A E s prog Q st)->G) (a:∀ st,P st->wpS M A E s prog Q st):G:=use a
theorem al0 (C:Cmp M A E s κ S R) (f:∀ x∈a0.toList,S x) {st:SortSt} (B:Bs κ p0 a0 lo st) {a nrem:Nat} (l:1<=a) (g:a<=nrem) (hn:lo+nrem<=a0.size) (as:Asc R (arrOf st) lo (lo+a)) {Q:Option (Option Nat) × Nat->SortSt->Prop}
  (h:∀ n,a<=n->n<=nrem->Asc R (arrOf st) lo (lo+n)->(n < nrem->R (e (arrOf st) (lo+n)) (e (arrOf st) (lo+n - 1))=true)->Q (none,n) st) :
  wpS M A E s (forIn [a:nrem] ((none,a):Option (Option Nat) × Nat) (fun (_:Nat) z=>ltAt' (lo+z.2) (lo+z.2 - 1) >>= fun x=>match x with
   | some smaller=>if smaller=true then pure (ForInStep.done (none,z.2)) else pure (ForInStep.yield (none,z.2+1))
   | _=>pure (ForInStep.done (some none,z.2)))) Q st:=by
 refine wpS_forRange (fun t (z:Option (Option Nat) × Nat) st'=>st'=st/\z=(none,t)/\Asc R (arrOf st) lo (lo+t)) ?_ ?_ ⟨rfl,rfl,as⟩
 ·rintro t ⟨o,n⟩ c t1 j ⟨rfl,d,b⟩
  cases d
  dsimp only
  refine wpS_bind (af5 C f B (by omega) (by omega) ?_)
  dsimp only
  cases er:R (e (arrOf c) (lo+t)) (e (arrOf c) (lo+t - 1)) with
  | true =>
   rw [aE5 rfl]
   exact wpS_pure (h t t1 (by omega) b fun _=>er)
  | false =>
   rw [aE6 (by decide)]
   exact wpS_pure ⟨rfl,rfl,asg C (h:=lo+t) (fun k i=>B.sat f (by omega)) (by omega) b er⟩
 ·rintro ⟨o,n⟩ c ⟨rfl,d,b⟩
  cases d
  rw [show max a nrem=nrem by omega] at b ⊢
  exact h nrem g (aA6 _) b fun z=>absurd z (aF4 _)
theorem ash (C:Cmp M A E s κ S R) {st:SortSt} (B:Bs κ p0 a0 lo st) {n:Nat} (hn:lo+n<=a0.size) (b:Des R (arrOf st) lo (lo+n)) :
  Bs κ p0 a0 lo (setArr st (mirror (arrOf st) lo (lo+n) ((lo+n - lo) / 2)))/\Asc R (mirror (arrOf st) lo (lo+n) ((lo+n - lo) / 2)) lo (lo+n):=by
 have a:lo+n<=(arrOf st).size:=by rw [B.size];exact hn
 refine ⟨B.set (mirror_perm _ _ _ _) (fun k f=>by rw [getElem?_mirror_all a,aE6 (by omega)]),fun i j d c g=>?_⟩
 rw [acx a,acx a,aE5 (by omega),aE5 (by omega)]
 exact b _ _ (by omega) (by omega) (by omega)
theorem ajg (C:Cmp M A E s κ S R) (d:∀ x∈a0.toList,S x) {st:SortSt} (B:Bs κ p0 a0 lo st) {l h m:Nat} (g:lo<=l) (hh:h<=a0.size) (hm:h<=m) (f:m<=a0.size) (a:Des R (arrOf st) lo m) (eq:Eqb R (arrOf st) l h) :
  Bs κ p0 a0 lo (setArr st (mirror (arrOf st) l h ((h - l) / 2)))/\Des R (mirror (arrOf st) l h ((h - l) / 2)) lo m:=by
 have b:h<=(arrOf st).size:=by rw [B.size];exact hh
 refine ⟨B.set (mirror_perm _ _ _ _) (fun k c=>by rw [getElem?_mirror_all b,aE6 (by omega)]),fun i j o n q=>?_⟩
 rw [acx b,acx b]
 have p:∀ k,k < m->S (e (arrOf st) k):=fun k c=>B.sat d (by omega)
 by_cases c1:l<=i/\i < h
 ·rw [aE5 c1]
  by_cases c2:l<=j/\j < h
  ·rw [aE5 c2]
   exact eq _ _ (by omega) (by omega) (by omega) (by omega)
  ·rw [aE6 c2]
   exact a _ _ (by omega) (by omega) (by omega)
 ·rw [aE6 c1]
  by_cases c2:l<=j/\j < h
  ·rw [aE5 c2]
   exact a _ _ (by omega) (by omega) (by omega)
  ·rw [aE6 c2]
   exact a _ _ (by omega) (by omega) (by omega)
theorem aql (C:Cmp M A E s κ S R) (p:∀ x∈a0.toList,S x) {st:SortSt} (B:Bs κ p0 a0 lo st) {nrem:Nat} (h1:1<=nrem) (hn:lo+nrem<=a0.size) {Q:Option Nat->SortSt->Prop}
  (h:∀ st' n,Bs κ p0 a0 lo st'->1<=n->n<=nrem->Asc R (arrOf st') lo (lo+n)->Q (some n) st'):wpS M A E s (au9 lo nrem) Q st:=by
 refine wpS_bind (al0 C p B (aA6 1) h1 hn (fun i j i1 r W=>?_) fun n n1 n2 as br=>?_)
 ·have:i=j:=by omega
  subst this
  exact C.irr (B.sat p (by omega))
 dsimp only
 refine aan (fun en=>wpS_pure (h st n B n1 n2 as)) (fun en=>?_)
 have a6:n ≠ nrem:=by simpa using en
 have Z:n < nrem:=by omega
 have H:=br Z
 refine an2 (M:=M) (A:=A) (E:=E) (s:=s) (α:=Option Nat) (Q:=Q) (P:=fun v=>Bs κ p0 a0 lo v/\Des R (arrOf v) lo (lo+n)/\R (e (arrOf v) (lo+n)) (e (arrOf v) (lo+n - 1))=true) (prog:=?prog) (fun N=>?use) (fun v ⟨L,U,X⟩=>?pf)
 case use =>
  refine aan (fun g1=>?_) (fun g1=>?_)
  ·refine wpS_bind (af5 C p B (by omega) (by omega) ?_)
   dsimp only
   cases er:R (e (arrOf st) lo) (e (arrOf st) (lo+n - 1)) with
   | true=>rw [aE5 rfl];exact wpS_pure (h st n B n1 n2 as)
   | false =>
    rw [aE6 (by decide)]
    -- all of them are equal
    have c:∀ k,k < lo+n->S (e (arrOf st) k):=fun k J=>B.sat p (by omega)
    have all:Eqb R (arrOf st) lo (lo+n):=fun i j i1 r y w=>by
     -- j<=last<=first<=i
     have a1:=as j (lo+n - 1) y (by omega) (by omega)
     have a2:=as lo i (aA6 _) i1 r
     exact C.tr _ _ _ (c j w) (c lo (by omega)) (c i r) (C.tr _ _ _ (c j w) (c (lo+n - 1) (by omega)) (c lo (by omega)) a1 er) a2
    have U:Des R (arrOf st) lo (lo+n):=fun i j i1 r W=>all i j i1 (by omega) (by omega) W
    have O:lo+n<=(arrOf st).size:=by rw [B.size];omega
    obtain ⟨q,a⟩:=ajg C p B (aA6 lo) (show lo+n<=a0.size by omega) (aA6 _) (by omega) U all
    refine wpS_bind (wpS_modify ?_)
    refine N _ ⟨q,a,?_⟩
    show R (e (mirror (arrOf st) lo (lo+n) ((lo+n - lo) / 2)) (lo+n)) (e (mirror (arrOf st) lo (lo+n) ((lo+n - lo) / 2)) (lo+n - 1))=true
    rw [acx O,acx O,aE6 (by omega),aE5 (by omega)]
    rw [show lo+(lo+n) - 1 - (lo+n - 1)=lo by omega]
    cases e2:R (e (arrOf st) (lo+n)) (e (arrOf st) lo) with
    | true=>rfl
    | false =>
     have:=C.tr _ _ _ (c (lo+n - 1) (by omega)) (c lo (by omega)) (B.sat p (show lo+n < a0.size by omega)) er e2
     rw [this] at H;cases H
  ·have:n=1:=by omega
   subst this
   refine N st ⟨B,fun i j i1 r W=>?_,H⟩
   have:i=j:=by omega
   subst this
   exact C.irr (B.sat p (by omega))
 case pf =>
  -- the falling part
  refine wpS_bind (adh ?_)
  refine wpS_bind (wpS_mono (Q:=fun (z:Option (Option Nat) × Nat × Nat) st'=>z.1=none/\Bs κ p0 a0 lo st'/\z.2.1<=nrem/\z.2.2+1<=z.2.1/\Des R (arrOf st') lo (lo+z.2.1)/\Eqb R (arrOf st') (lo+z.2.1 - (z.2.2+1)) (lo+z.2.1)) ?_ ?_)
  ·refine wpS_forRange (fun t (z:Option (Option Nat) × Nat × Nat) st'=>z.1=none/\z.2.1=t/\Bs κ p0 a0 lo st'/\z.2.2+1<=z.2.1/\Des R (arrOf st') lo (lo+z.2.1)/\Eqb R (arrOf st') (lo+z.2.1 - (z.2.2+1)) (lo+z.2.1)) ?_ ?_ ⟨rfl,rfl,L,by dsimp only;omega,?_,fun i j i1 r y w=>?_⟩
   ·rintro t ⟨o,m,b⟩ f t1 t2 ⟨D,T,q,F,a,d⟩
    dsimp only at D T F a d ⊢
    subst D T
    have c:∀ k,k < a0.size->S (e (arrOf f) k):=fun k J=>q.sat p J
    refine wpS_bind (af5 C p q (by omega) (by omega) ?_)
    dsimp only
    cases er:R (e (arrOf f) (lo+m)) (e (arrOf f) (lo+m - 1)) with
    | true =>
     rw [aE5 rfl]
     refine aan (fun g=>?_) (fun g=>?_)
     ·have O:lo+m<=(arrOf f).size:=by rw [q.size];omega
      obtain ⟨G,u⟩:=ajg C p q (l:=lo+m - (b+1)) (h:=lo+m) (by omega) (by omega) (aA6 _) (by omega) a d
      have K:∀ k,e (mirror (arrOf f) (lo+m - (b+1)) (lo+m) ((lo+m - (lo+m - (b+1))) / 2)) k=if lo+m - (b+1)<=k/\k < lo+m then e (arrOf f) (lo+m - (b+1)+(lo+m) - 1 - k) else e (arrOf f) k:=fun k=>acx O k
      refine wpS_bind (wpS_modify ?_)
      refine wpS_pure ⟨rfl,rfl,G,by dsimp only;omega,?_,fun i j i1 r y w=>?_⟩
      ·show Des R (mirror (arrOf f) (lo+m - (b+1)) (lo+m) ((lo+m - (lo+m - (b+1))) / 2)) lo (lo+(m+1))
       refine afn C (h:=lo+m) (fun k J=>G.sat p (by omega)) (by omega) u ?_
       rw [K,K,aE5 (by omega),aE6 (by omega)]
       rw [show lo+m - (b+1)+(lo+m) - 1 - (lo+m - 1)=lo+m - (b+1) by omega]
       exact C.tr _ _ _ (c _ (by omega)) (c (lo+m - 1) (by omega)) (c _ (by omega)) (C.asy _ _ (c _ (by omega)) (c _ (by omega)) er) (a _ _ (by omega) (by omega) (by omega))
      ·dsimp only at i1 r y w
       have:i=j:=by omega
       subst this
       exact C.irr (G.sat p (by omega))
     ·have:b=0:=by omega
      subst this
      refine wpS_pure ⟨rfl,rfl,q,by dsimp only;omega,afn C (h:=lo+m) (fun k J=>c k (by omega)) (by omega) a (C.asy _ _ (c _ (by omega)) (c _ (by omega)) er),fun i j i1 r y w=>?_⟩
      dsimp only at i1 r y w
      have:i=j:=by omega
      subst this
      exact C.irr (c _ (by omega))
    | false =>
     rw [aE6 (by decide)]
     refine wpS_bind (af5 C p q (by omega) (by omega) ?_)
     dsimp only
     cases er2:R (e (arrOf f) (lo+m - 1)) (e (arrOf f) (lo+m)) with
     | true =>
      rw [aE5 rfl]
      exact wpS_pure ⟨rfl,q,by dsimp only;omega,F,a,d⟩
     | false =>
      rw [aE6 (by decide)]
      refine wpS_pure ⟨rfl,rfl,q,by dsimp only;omega,afn C (h:=lo+m) (fun k J=>c k (by omega)) (by omega) a er2,fun i j i1 r y w=>?_⟩
      dsimp only at i1 r y w
      by_cases ci:i=lo+m
      ·by_cases cj:j=lo+m
       ·rw [ci,cj];exact C.irr (c _ (by omega))
       ·rw [ci]
        exact C.tr _ _ _ (c j (by omega)) (c (lo+m - 1) (by omega)) (c _ (by omega)) (d (lo+m - 1) j (by omega) (by omega) (by omega) (by omega)) er
      ·by_cases cj:j=lo+m
       ·rw [cj]
        exact C.tr _ _ _ (c _ (by omega)) (c (lo+m - 1) (by omega)) (c i (by omega)) er2 (d i (lo+m - 1) (by omega) (by omega) (by omega) (by omega))
       ·exact d i j (by omega) (by omega) (by omega) (by omega)
   ·rintro ⟨o,m,b⟩ f ⟨D,T,q,F,a,d⟩
    dsimp only at D T F a d ⊢
    exact ⟨D,q,by omega,F,a,d⟩
   ·exact afn C (h:=lo+n) (fun k J=>L.sat p (by omega)) (by omega) U (C.asy _ _ (L.sat p (by omega)) (L.sat p (by omega)) X)
   ·dsimp only at i1 r y w
    have:i=j:=by omega
    subst this
    exact C.irr (L.sat p (by omega))
  ·rintro ⟨o,m,b⟩ f ⟨D,q,hm,F,a,d⟩
   dsimp only at D hm F a d ⊢
   subst D
   dsimp only
   refine an2 (M:=M) (A:=A) (E:=E) (s:=s) (α:=Option Nat) (Q:=Q) (P:=fun I=>Bs κ p0 a0 lo I/\Des R (arrOf I) lo (lo+m)) (prog:=?prog2) (fun N=>?use2) (fun I ⟨G,u⟩=>?pf2)
   case use2 =>
    refine aan (fun g=>?_) (fun g=>?_)
    ·obtain ⟨G,u⟩:=ajg C p q (l:=lo+m - (b+1)) (h:=lo+m) (by omega) (by omega) (aA6 _) (by omega) a d
     refine wpS_bind (wpS_modify ?_)
     exact N _ ⟨G,u⟩
    ·exact N _ ⟨q,a⟩
   case pf2 =>
    obtain ⟨B5,a3⟩:=ash C G (n:=m) (by omega) u
    refine wpS_bind (wpS_modify ?_)
    refine wpS_bind (al0 C p B5 (by omega) hm hn a3 fun n' a5 a4 Y _=>?_)
    exact wpS_pure (h _ n' B5 (by omega) a4 Y)
end
def flat (rs:List (List Keyed × Nat)):List Keyed:=(rs.map (·.1)).flatten
def pend:Nat->List (List Keyed × Nat)->List (Nat × Nat × Nat)
 | _,[]=>[]
 | k,(r,pw) :: t=>(k,r.length,pw) :: pend (k+r.length) t
theorem ahi:flat []=[]:=rfl
theorem abz (r:List Keyed × Nat) (t:List (List Keyed × Nat)):flat (r :: t)=r.1 ++ flat t:=rfl
theorem abu (p q:List (List Keyed × Nat)):flat (p ++ q)=flat p ++ flat q:=by simp [flat]
theorem acb:∀ (k:Nat) (p q:List (List Keyed × Nat)),pend k (p ++ q)=pend k p ++ pend (k+(flat p).length) q
 | k,[],q=>by simp [pend,ahi]
 | k,(r,pw) :: t,q=>by
  simp only [List.cons_append,pend,abz,aB0,List.cons.injEq,true_and]
  rw [acb (k+r.length) t q,Nat.add_assoc]
theorem ado:∀ (k:Nat) (p:List (List Keyed × Nat)),(pend k p).length=p.length
 | _,[]=>rfl
 | k,(r,pw) :: t=>by simp [pend,ado _ t]
section
variable {M:Model} {A:Around} {E:Value->Shared->Prop} {s:Shared} {κ:SortKind} {S:Keyed->Prop} {R:Keyed->Keyed->Bool} {a0:Array Keyed}
structure Rn (κ:SortKind) (R:Keyed->Keyed->Bool) (a0:Array Keyed) (rs:List (List Keyed × Nat)) (rest:List Keyed) (st:SortSt):Prop where
 k:kindOf st = κ
 f:failedOf st=none
 arr:(arrOf st).toList=flat rs ++ rest
 pn:(pendingOf st).toList=pend 0 rs
 ok:∀ r∈rs,r.1 ≠ []/\Srt R r.1
 perm:(arrOf st).toList.Perm a0.toList
theorem avb {α:Type} (a b:List α) (x c y : α):((a ++ x :: y :: b).set a.length c).eraseIdx (a.length+1)=a ++ c :: b:=by
 rw [List.set_append_right _ _ (aA6 _),Nat.sub_self,List.set_cons_zero,List.eraseIdx_append_of_length_le (by omega)]
 rw [show a.length+1 - a.length=1 by omega]
 rfl
theorem aii (C:Cmp M A E s κ S R) (I:∀ x∈a0.toList,S x) {st:SortSt} {rs:List (List Keyed × Nat)} {rest:List Keyed} (N:Rn κ R a0 rs rest st) {i:Nat} (hi:i+1 < rs.length) {Q:Bool->SortSt->Prop}
  (h:∀ st' l,Rn κ R a0 l rest st'->l.length+1=rs.length->(flat l).length=(flat rs).length->Q true st'):wpS M A E s (aly i) Q st:=by
 obtain ⟨p,a,pw,b,pw2,q,e,v⟩:∃ p a pw b pw2 q,rs=p ++ (a,pw) :: (b,pw2) :: q/\p.length=i:=by
  have H:rs=rs.take i ++ rs.drop i:=(aC0 i rs).symm
  have hd:rs.drop i=rs[i] :: rs[i+1] :: rs.drop (i+2):=by
   rw [List.drop_eq_getElem_cons (by omega),List.drop_eq_getElem_cons hi]
  exact ⟨rs.take i,rs[i].1,rs[i].2,rs[i+1].1,rs[i+1].2,rs.drop (i+2),by rw [← hd];exact H,by simp;omega⟩
 subst v
 have d:=N.ok (a,pw) (by rw [e];simp)
 have g:=N.ok (b,pw2) (by rw [e];simp)
 have o:(pendingOf st).toList=pend 0 p ++ ((flat p).length,a.length,pw) :: ((flat p).length+a.length,b.length,pw2) :: pend ((flat p).length+a.length+b.length) q:=by
  rw [N.pn,e,acb];simp [pend]
 have c:(pend 0 p).length=p.length:=ado 0 p
 have j:(arrOf st).toList=flat p ++ a ++ b ++ (flat q ++ rest):=by
  rw [N.arr,e,abu,abz,abz];simp [aB3]
 refine ao3 C (i:=p.length) (pw:=pw) (pw2:=pw2) j (fun x w=>I x (N.perm.mem_iff.mp w)) ?_ ?_ d.1 g.1 d.2 g.2 N.k N.f fun st' m D F G u pm B=>?_
 ·rw [← aD2,o,aC7 (by omega),c,Nat.sub_self];rfl
 ·rw [← aD2,o,aC7 (by omega),c,show p.length+1 - p.length=1 by omega];rfl
 ·refine h st' (p ++ (m,pw) :: q) ⟨D,F,?_,?_,fun r n=>?_,?_⟩ (by rw [e];simp;omega) ?_
  ·rw [u,abu,abz];simp [aB3]
  ·rw [G,Array.toList_eraseIdxIfInBounds,Array.toList_setIfInBounds,o,← c,avb,acb]
   simp [pend,pm.length_eq,Nat.add_assoc]
  ·rcases aA7.mp n with n | n
   ·exact N.ok r (by rw [e];simp [n])
   ·rcases aA8.mp n with rfl | n
    ·refine ⟨?_,B⟩
     intro z
     have:=pm.length_eq
     have y:m=[]:=z
     rw [y] at this
     have:=aE9.mpr d.1
     simp at *
     omega
    ·exact N.ok r (by rw [e];simp [n])
  ·rw [u]
   refine List.Perm.trans ?_ N.perm
   rw [j]
   have:(flat p ++ a ++ b ++ (flat q ++ rest))=flat p ++ (a ++ b) ++ (flat q ++ rest):=by simp [aB3]
   rw [this]
   exact (pm.append_left (flat p)).append_right _
  ·rw [e,abu,abu,abz,abz,abz]
   simp [pm.length_eq]
   omega
theorem Rn.run {rs:List (List Keyed × Nat)} {rest:List Keyed} {st st':SortSt} {n:Nat} (N:Rn κ R a0 rs rest st) (B:Bs κ (pendingOf st) (arrOf st) (flat rs).length st') (s:1<=n) (hn:(flat rs).length+n<=(arrOf st).size) (as:Asc R (arrOf st') (flat rs).length ((flat rs).length+n)) :
  ∃ r a,r.length=n/\r ≠ []/\Srt R r/\Rn κ R a0 rs (r ++ a) st':=by
 have hsz:=B.size
 have d:(arrOf st').toList.take (flat rs).length=flat rs:=by
  have o:(arrOf st').toList.take (flat rs).length=(arrOf st).toList.take (flat rs).length:=by
   apply aF2
   intro k
   rw [List.getElem?_take,List.getElem?_take]
   split
   ·rename_i b
    have:=B.pre k b
    simpa using this
   ·rfl
  rw [o,N.arr,List.take_left]
 refine ⟨((arrOf st').toList.drop (flat rs).length).take n,((arrOf st').toList.drop (flat rs).length).drop n,?_,?_,?_,B.k,B.f,?_,?_,N.ok,B.perm.trans N.perm⟩
 ·simp;omega
 ·intro z
  have:=congrArg List.length z
  simp at this
  omega
 ·unfold Srt
  rw [aF7]
  intro i j hi hj l
  have c:j < n:=by simp at hj;omega
  have get:∀ k,k < n->∀ (b:k < (((arrOf st').toList.drop (flat rs).length).take n).length),(((arrOf st').toList.drop (flat rs).length).take n)[k]=e (arrOf st') ((flat rs).length+k):=by
   intro k b m
   rw [List.getElem_take,List.getElem_drop]
   have q:=aih (xs:=arrOf st') (k:=(flat rs).length+k) (by omega)
   have h:(flat rs).length+k < (arrOf st').toList.length:=by simp;omega
   have g:(arrOf st').toList[(flat rs).length+k]?=some (e (arrOf st') ((flat rs).length+k)):=by simpa using q
   rw [aA0 h] at g
   exact aC5 g
  rw [get i (by omega) hi,get j c hj]
  exact as _ _ (by omega) (by omega) (by omega)
 ·rw [aC0]
  conv=>lhs;rw [← aC0 (flat rs).length (arrOf st').toList,d]
 ·rw [B.p];exact N.pn
theorem Rn.bs {rs:List (List Keyed × Nat)} {rest:List Keyed} {st:SortSt} (N:Rn κ R a0 rs rest st):Bs κ (pendingOf st) (arrOf st) (flat rs).length st:=⟨N.k,N.f,rfl,List.Perm.refl _,fun _ _=>rfl⟩
theorem Rn.size {rs:List (List Keyed × Nat)} {rest:List Keyed} {st:SortSt} (N:Rn κ R a0 rs rest st):(arrOf st).size=a0.size:=by
 have:=N.perm.length_eq;simpa using this
theorem Rn.len {rs:List (List Keyed × Nat)} {rest:List Keyed} {st:SortSt} (N:Rn κ R a0 rs rest st):(flat rs).length+rest.length=a0.size:=by
 have:=congrArg List.length N.arr
 have a:=N.size
 simp at this
 omega
theorem asi {rs:List (List Keyed × Nat)} (h:∀ r∈rs,r.1 ≠ []):rs.length<=(flat rs).length:=by
 induction rs with
 | nil=>simp [flat]
 | cons r t ih =>
  rw [abz,aB0,aD8]
  have:=ih fun q a=>h q (aB4 _ a)
  have:=aE9.mpr (h r aB7)
  omega
theorem al1 {α:Type} (f : α->α):∀ (l:List α) (x : α),(l ++ [x]).modify l.length f=l ++ [f x]
 | [],x=>rfl
 | y :: l,x=>by
  show (y :: (l ++ [x])).modify (l.length+1) f=_
  rw [List.modify_succ_cons,al1 f l x];rfl
theorem am9 {α:Type} (arr:Array α) (f : α->α) {l:List α} {x : α} (h:arr.toList=l ++ [x]):(arr.modify (arr.size - 1) f).toList=l ++ [f x]:=by
 have a:arr.size=l.length+1:=by have:=congrArg List.length h;simpa using this
 rw [Array.toList_modify,h,a,show l.length+1 - 1=l.length by omega]
 exact al1 f l x
theorem avc {α:Type} (arr:Array α) {l:List α} {x : α} (h:arr.toList=l ++ [x]):arr.back?=some x:=by
 have a:arr.size=l.length+1:=by have:=congrArg List.length h;simpa using this
 rw [Array.back?_eq_getElem?,← aD2,h,a]
 simp
theorem an3:∀ (rs:List (List Keyed × Nat)),rs ≠ []->∃ p x,rs=p ++ [x]
 | rs,h=>⟨rs.dropLast,rs.getLast h,(List.dropLast_concat_getLast h).symm⟩
theorem Rn.push {rs:List (List Keyed × Nat)} {r rest:List Keyed} {st st':SortSt} (N:Rn κ R a0 rs (r ++ rest) st) (c:r ≠ []) (d:Srt R r) (k:kindOf st'=kindOf st) (f:failedOf st'=failedOf st) (a:arrOf st'=arrOf st)
  (p:pendingOf st'=(pendingOf st).push ((flat rs).length,r.length,0)):Rn κ R a0 (rs ++ [(r,0)]) rest st':=by
 refine ⟨k.trans N.k,f.trans N.f,?_,?_,fun q b=>?_,by rw [a];exact N.perm⟩
 ·rw [a,N.arr,abu];simp [flat,aB3]
 ·rw [p,Array.toList_push,N.pn,acb];simp [pend]
 ·rcases aA7.mp b with b | b
  ·exact N.ok q b
  ·have:q=(r,0):=by simpa using b
   subst this;exact ⟨c,d⟩
theorem Rn.pow {rs:List (List Keyed × Nat)} {rest:List Keyed} {st st':SortSt} {pw:Nat} (N:Rn κ R a0 rs rest st) (i:rs ≠ []) (k:kindOf st'=kindOf st) (f:failedOf st'=failedOf st) (a:arrOf st'=arrOf st)
  (p:pendingOf st'=(pendingOf st).modify ((pendingOf st).size - 1) fun x=>(x.1,x.2.1,pw)):∃ c,Rn κ R a0 c rest st'/\(flat c).length=(flat rs).length:=by
 obtain ⟨q,⟨b,d⟩,e⟩:=an3 rs i
 subst e
 have h:(pendingOf st).toList=pend 0 q ++ [((flat q).length,b.length,d)]:=by rw [N.pn,acb];simp [pend]
 refine ⟨q ++ [(b,pw)],⟨k.trans N.k,f.trans N.f,?_,?_,fun x g=>?_,by rw [a];exact N.perm⟩,by simp [abu,abz,ahi]⟩
 ·rw [a,N.arr];simp [abu,abz,ahi]
 ·rw [p,am9 _ _ h,acb];simp [pend]
 ·rcases aA7.mp g with g | g
  ·exact N.ok x (by simp [g])
  ·have:x=(b,pw):=by simpa using g
   subst this
   exact N.ok (b,d) (by simp)
theorem ax0 {c:Prop} [Decidable c] {x y z:Nat} (b:x+1 < z) (a:y+1 < z):(if c then x else y)+1 < z:=by
 split
 ·exact b
 ·exact a
theorem Rn.powK {rs:List (List Keyed × Nat)} {rest:List Keyed} {st st':SortSt} {pw:Nat} {G:SortSt->Prop} (N:Rn κ R a0 rs rest st) (d:rs ≠ []) (h:∀ b,Rn κ R a0 b rest st'->(flat b).length=(flat rs).length->G st') (k:kindOf st'=kindOf st) (f:failedOf st'=failedOf st) (a:arrOf st'=arrOf st)
  (p:pendingOf st'=(pendingOf st).modify ((pendingOf st).size - 1) fun x=>(x.1,x.2.1,pw)):G st':=by
 obtain ⟨b,g,c⟩:=N.pow d k f a p
 exact h b g c
theorem avd (C:Cmp M A E s κ S R) (hS:∀ x∈a0.toList,S x) {st:SortSt} (h0:arrOf st=a0) (hk:kindOf st = κ) (hf:failedOf st=none) (hp:pendingOf st = #[]) {Q:Unit->SortSt->Prop}
  (h:∀ st',failedOf st'=none->(arrOf st').toList.Perm a0.toList->Srt R (arrOf st').toList->Q () st'):wpS M A E s azq Q st:=by
 have o:(arrOf st).size=a0.size:=by rw [h0]
 refine wpS_bind (wpS_get ?_)
 dsimp only
 refine wpS_bind (wpS_mono (Q:=fun (c:Option Unit × Nat) v=>c.1=none/\∃ rs,Rn κ R a0 rs [] v) ?_ ?_)
 ·refine wpS_forRange (fun i (c:Option Unit × Nat) v=>c.1=none/\∃ rs rest,Rn κ R a0 rs rest v/\c.2=(flat rs).length/\i<=c.2) ?_ ?_ ⟨rfl,[],a0.toList,⟨hk,hf,by rw [h0];rfl,by rw [hp];rfl,fun r H=>(by cases H),by rw [h0]⟩,rfl,aA6 _⟩
  ·rintro i ⟨c1,lo⟩ v _ hi ⟨F,rs,rest,N,e2,D⟩
   dsimp only at F e2 D ⊢
   subst F e2
   have P:=N.len
   have b3:i < a0.size:=by rw [← o];exact hi
   refine aan (fun a3=>?_) (fun a2=>?_)
   ·have b0:a0.size<=(flat rs).length:=by rw [← o];exact a3
    refine wpS_pure ⟨rfl,rs,?_⟩
    have:rest=[]:=aG2 (by omega)
    subst this
    exact N
   ·have a8:(flat rs).length < a0.size:=by
     have:¬ (flat rs).length ≥ (arrOf st).size:=a2
     omega
    refine wpS_bind (aql C (fun x hx=>hS x (N.perm.mem_iff.mp hx)) N.bs (nrem:=(arrOf st).size - (flat rs).length) (by omega) (by rw [N.size];omega) fun b1 n B2 n1 n2 L=>?_)
    dsimp only
    have B:=N.size
    refine aan (fun l=>?g1) (fun l=>?g2)
    case' g1 =>
     refine wpS_bind (adh ?_)
     generalize hmr:min (_:Nat) _=nn
     refine wpS_bind (ao4 C (fun x hx=>hS x (N.perm.mem_iff.mp hx)) B2 (n:=nn) (ok:=n) ?_ ?_ ?_ L fun b2 B3 a7=>?_)
     ·have:nn<=(arrOf st).size - (flat rs).length:=by rw [← hmr];exact Nat.min_le_left _ _
      rw [B];omega
     ·rw [← hmr];exact Nat.le_min.mpr ⟨n2,aF5 l⟩
     ·have:n<=nn:=by rw [← hmr];exact Nat.le_min.mpr ⟨n2,aF5 l⟩
      omega
     rw [aE6 (by decide)]
     have O:1<=nn:=by
      have:n<=nn:=by rw [← hmr];exact Nat.le_min.mpr ⟨n2,aF5 l⟩
      omega
     have a9:nn<=(arrOf st).size - (flat rs).length:=by rw [← hmr];exact Nat.min_le_left _ _
     obtain ⟨r,g,H,y,J,U⟩:=N.run B3 O (by rw [B];omega) a7
     clear hmr
     subst H
    case' g2 =>
     obtain ⟨r,g,H,y,J,U⟩:=N.run B2 n1 (by rw [B];omega) L
     clear l
     subst H
    all_goals
     refine wpS_bind (wpS_get ?_)
     rcases Classical.em (rs=[]) with hz | hz
     ·have w:=U.pn
      rw [hz] at w
      have hb:=Array.back?_eq_none_iff.mpr (Array.toList_eq_nil_iff.mp w)
      rw [hb]
      dsimp only
      refine wpS_bind (wpS_modify (wpS_pure ⟨rfl,rs ++ [(r,0)],g,U.push y J rfl rfl rfl rfl,?_,?_⟩))
      ·rw [abu,aB0];simp [flat]
      ·have:=aE9.mpr y
       show i+1<=(flat rs).length+r.length
       omega
     ·obtain ⟨q,⟨b,W⟩,eq⟩:=an3 rs hz
      have w:=U.pn
      rw [eq,acb,show pend (0+(flat q).length) [(b,W)]=[((flat q).length,b.length,W)] by simp [pend]] at w
      have hb:=avc _ w
      rw [hb]
      dsimp only
      refine wpS_bind (wpS_mono (Q:=fun (c:Option Unit × Unit) d=>c.1=none/\∃ a,Rn κ R a0 a (r ++ g) d/\a ≠ []/\(flat a).length=(flat rs).length) ?_ ?_)
      ·refine wpS_forRange (fun _ (c:Option Unit × Unit) d=>c.1=none/\∃ a,Rn κ R a0 a (r ++ g) d/\a ≠ []/\(flat a).length=(flat rs).length) ?_ (fun c d h4=>h4) ⟨rfl,rs,U,hz,rfl⟩
       rintro i4 ⟨Z,X⟩ d _ _ ⟨u,a,m,Y,p⟩
       dsimp only at u
       subst u
       refine wpS_bind (wpS_get ?_)
       have T:(pendingOf d).size=a.length:=by
        have:=congrArg List.length m.pn
        rw [ado] at this
        simpa using this
       by_cases K:(pendingOf d).size > 1
       ·rw [aE5 K]
        obtain ⟨x4,a5⟩:∃ x4,(pendingOf d)[(pendingOf d).size - 2]?=some x4:=⟨_,aA4 (by omega)⟩
        obtain ⟨y1,y2,y3⟩:=x4
        rw [a5]
        dsimp only
        refine aan (fun _=>wpS_pure ⟨rfl,a,m,Y,p⟩) (fun _=>?_)
        rw [T]
        refine wpS_bind (aii C hS m (i:=a.length - 2) (by omega) fun a4 I N5 l5 f5=>?_)
        rw [aE6 (by decide)]
        refine wpS_pure ⟨rfl,I,N5,?_,by omega⟩
        rintro rfl
        simp at l5
        omega
       ·rw [aE6 K]
        exact wpS_pure ⟨rfl,a,m,Y,p⟩
      ·rintro ⟨Z,X⟩ d ⟨u,a,m,Y,p⟩
       dsimp only at u ⊢
       subst u
       dsimp only
       refine wpS_bind (wpS_modify ?_)
       refine m.powK (G:=fun z=>wpS M A E s _ _ z) Y (fun a6 N6 l6=>?_) rfl rfl rfl rfl
       refine wpS_bind (wpS_modify (wpS_pure ⟨rfl,a6 ++ [(r,0)],g,N6.push y J rfl rfl rfl ?_,?_,?_⟩))
       ·rw [l6,p]
       ·rw [abu,aB0,l6,p];simp [flat]
       ·have:=aE9.mpr y
        show i+1<=(flat rs).length+r.length
        omega
  ·rintro ⟨c1,lo⟩ v ⟨F,rs,rest,N,e2,D⟩
   dsimp only at F e2 D ⊢
   refine ⟨F,rs,?_⟩
   have P:=N.len
   have a1:(arrOf st).size<=lo:=aC9 (Nat.le_max_right 0 _) D
   have:rest=[]:=aG2 (by rw [o] at a1;omega)
   subst this
   exact N
 ·rintro ⟨c1,lo⟩ v ⟨F,rs,N⟩
  dsimp only at F ⊢
  subst F
  dsimp only
  refine wpS_bind (wpS_mono (Q:=fun (c:Option Unit × Unit) d=>c.1=none/\∃ a,Rn κ R a0 a [] d/\a.length<=1) ?_ ?_)
  ·refine wpS_forRange (fun j (c:Option Unit × Unit) d=>c.1=none/\∃ a,Rn κ R a0 a [] d/\(a.length<=1\/a.length+j<=a0.size)) ?_ ?_ ⟨rfl,rs,N,.inr ?_⟩
   ·rintro j ⟨Z,X⟩ d _ _ ⟨u,a,m,p⟩
    dsimp only at u
    subst u
    refine wpS_bind (wpS_get ?_)
    have T:(pendingOf d).size=a.length:=by
     have:=congrArg List.length m.pn
     rw [ado] at this
     simpa using this
    refine aan (fun K=>wpS_pure ⟨rfl,a,m,?_⟩) (fun K=>?_)
    ·have:(pendingOf d).size<=1:=K
     omega
    ·have b4:¬ (pendingOf d).size<=1:=K
     refine wpS_bind (aii C hS m (i:=_) ?_ fun a4 I N5 l5 f5=>?_)
     ·refine ax0 ?_ ?_
      ·show (pendingOf d).size - 2 - 1+1 < a.length
       omega
      ·show (pendingOf d).size - 2+1 < a.length
       omega
     rw [aE6 (by decide)]
     exact wpS_pure ⟨rfl,I,N5,by omega⟩
   ·rintro ⟨Z,X⟩ d ⟨u,a,m,p⟩
    refine ⟨u,a,m,?_⟩
    rcases p with p | p
    ·exact p
    ·have:(arrOf st).size<=max 0 (arrOf st).size:=Nat.le_max_right _ _
     have h3:a.length+max 0 (arrOf st).size<=a0.size:=p
     omega
   ·have:=asi fun r H=>(N.ok r H).1
    have:=N.len
    omega
  ·rintro ⟨Z,X⟩ d ⟨u,a,m,p⟩
   dsimp only at u ⊢
   subst u
   dsimp only
   refine wpS_pure (h d m.f m.perm ?_)
   rw [m.arr]
   match a,p with
   | [],_=>exact List.Pairwise.nil
   | [x],_=>simpa [flat] using (m.ok x (by simp)).2
end
end TS
namespace L2
open PySem PySem.Spec PyProof.Rows
mutual
inductive Rep (H:Hp):V->PyData->Prop
 | non:Rep H .non .none
 | bl (b:Bool):Rep H (.bl b) (.bool b)
 | int (i:Int):Rep H (.int i) (.int i)
 | str (x:Str):Rep H (.str x) (.str x)
 | lst {a:Addr} {xs:List V} {ds:List PyData}:H a=some (.lst xs)->Reps H xs ds->Rep H (.ref a) (.list ds)
 | tup {a:Addr} {xs:List V} {ds:List PyData}:H a=some (.tup xs)->Reps H xs ds->Rep H (.ref a) (.tuple ds)
inductive Reps (H:Hp):List V->List PyData->Prop
 | nil:Reps H [] []
 | cons {v:V} {vs:List V} {d:PyData} {ds:List PyData}:Rep H v d->Reps H vs ds->Reps H (v :: vs) (d :: ds)
end
mutual
theorem Rep.same {H H':Hp} (s:Same H H'):∀ {v:V} {d:PyData},Rep H v d->Rep H' v d
 | _,_,.non => .non
 | _,_,.bl b => .bl b
 | _,_,.int i => .int i
 | _,_,.str x => .str x
 | _,_,.lst h r => .lst (s _ _ h) (Reps.same s r)
 | _,_,.tup h r => .tup (s _ _ h) (Reps.same s r)
theorem Reps.same {H H':Hp} (s:Same H H'):∀ {vs:List V} {ds:List PyData},Reps H vs ds->Reps H' vs ds
 | _,_,.nil => .nil
 | _,_,.cons r t => .cons (Rep.same s r) (Reps.same s t)
end
theorem Reps.length {H:Hp}:∀ {vs:List V} {ds:List PyData},Reps H vs ds->vs.length=ds.length
 | _,_,.nil=>rfl
 | _,_,.cons _ t=>by simp [Reps.length t]
theorem Reps.get {H:Hp}:∀ {vs:List V} {ds:List PyData} {i:Nat} {d:PyData},Reps H vs ds->ds[i]?=some d->∃ v,vs[i]?=some v/\Rep H v d
 | _,_,_,_,.nil,e=>by simp at e
 | _,_,0,_,.cons r _,e=>by simp at e;subst e;exact ⟨_,rfl,r⟩
 | _,_,i+1,d,.cons _ t,e=>by
  obtain ⟨u,b,a⟩:=Reps.get (i:=i) (d:=d) t (by simpa using e)
  exact ⟨u,by simpa using b,a⟩
theorem Reps.append {H:Hp}:∀ {vs a:List V} {ds es:List PyData},Reps H vs ds->Reps H a es->Reps H (vs ++ a) (ds ++ es)
 | _,_,_,_,.nil,s=>s
 | _,_,_,_,.cons r t,s => .cons r (Reps.append t s)
section
variable {X:Cx} {pins:List (Addr × Obj)} {σ:St} {H:Hp} {s:Shared}
mutual
theorem Rep.reads (I:Inv X pins σ H s):∀ {v:V} {d:PyData} {u:Value},Rep H v d->RelV v u->∃ as,Reads s.heap u d as
 | _,_,_,.non,r=>by cases r;exact ⟨_,.none⟩
 | _,_,_,.bl b,r=>by cases r;exact ⟨_,.bool b⟩
 | _,_,_,.int i,r=>by obtain ⟨t,rfl⟩:=r;exact ⟨_,.int i t⟩
 | _,_,_,.str x,r=>by obtain ⟨t,rfl⟩:=r;exact ⟨_,.str x t⟩
 | _,_,_,.lst (a:=a) (xs:=xs) h q,r=>by
  cases r
  obtain ⟨_,its,n,f,e⟩:=(show ObjOk X.prog X.w H s.heap a (.lst xs) from I.hok a _ h)
  obtain ⟨as,g⟩:=Reps.reads I q f
  exact ⟨_,.list e rfl rfl (by simpa using g)⟩
 | _,_,_,.tup (a:=a) (xs:=xs) h q,r=>by
  cases r
  obtain ⟨_,its,f,o,e,c,n,j⟩:=(show ObjOk X.prog X.w H s.heap a (.tup xs) from I.hok a _ h)
  obtain ⟨as,g⟩:=Reps.reads I q f
  exact ⟨_,.tuple e c j (by simpa using g)⟩
theorem Reps.reads (I:Inv X pins σ H s):∀ {vs:List V} {ds:List PyData} {us:List Value},Reps H vs ds->Vals vs us->∃ as,ReadsAll s.heap us ds as
 | _,_,_,.nil,.nil=>⟨_,.nil⟩
 | _,_,_,.cons r t,.cons q qs=>by
  obtain ⟨as,a⟩:=Rep.reads I r q
  obtain ⟨bs,rb⟩:=Reps.reads I t qs
  exact ⟨_,.cons a rb⟩
end
end
mutual
def aat:PyData->Bool
 | .none | .int _=>true
 | .list xs | .tuple xs=>plainDs xs
 | _=>false
def plainDs:List PyData->Bool
 | []=>true
 | x :: xs=>aat x && plainDs xs
end
mutual
theorem adt:∀ (d:PyData),aat d=true->d.canLay0=true
 | .none,_=>by simp [PyData.canLay0]
 | .int _,_=>by simp [PyData.canLay0]
 | .list xs,h=>by simp only [PyData.canLay0];exact plain_lays xs (by simpa [aat] using h)
 | .tuple xs,h=>by simp only [PyData.canLay0];exact plain_lays xs (by simpa [aat] using h)
 | .bool _,h=>by simp [aat] at h
 | .str _,h=>by simp [aat] at h
 | .dict _,h=>by simp [aat] at h
theorem plain_lays:∀ (ds:List PyData),plainDs ds=true->PyData.canLayAll0 ds=true
 | [],_=>by simp [PyData.canLayAll0]
 | x :: xs,h=>by
  have h':aat x=true/\plainDs xs=true:=by simpa [plainDs] using h
  simp only [PyData.canLayAll0,adt x h'.1,plain_lays xs h'.2,Bool.and_self]
end
mutual
theorem af6:∀ (d e:PyData),aat d=true->aat e=true->(PyData.eqv d e=true ↔ d=e)
 | .none,e,_,h=>by cases e <;> simp_all [aat,PyData.eqv]
 | .int i,e,_,h=>by cases e <;> simp_all [aat,PyData.eqv]
 | .list xs,e,g,h=>by
  cases e with
  | list ys=>simp only [PyData.eqv,PyData.list.injEq];exact eqvAll_plain xs ys (by simpa [aat] using g) (by simpa [aat] using h)
  | _=>simp_all [aat,PyData.eqv]
 | .tuple xs,e,g,h=>by
  cases e with
  | tuple ys=>simp only [PyData.eqv,PyData.tuple.injEq];exact eqvAll_plain xs ys (by simpa [aat] using g) (by simpa [aat] using h)
  | _=>simp_all [aat,PyData.eqv]
 | .bool _,_,h,_=>by simp [aat] at h
 | .str _,_,h,_=>by simp [aat] at h
 | .dict _,_,h,_=>by simp [aat] at h
theorem eqvAll_plain:∀ (ds es:List PyData),plainDs ds=true->plainDs es=true->(PyData.eqvAll ds es=true ↔ ds=es)
 | [],[],_,_=>by simp [PyData.eqvAll]
 | [],_ :: _,_,_=>by simp [PyData.eqvAll]
 | _ :: _,[],_,_=>by simp [PyData.eqvAll]
 | x :: xs,y :: ys,g,h=>by
  have g':aat x=true/\plainDs xs=true:=by simpa [plainDs] using g
  have h':aat y=true/\plainDs ys=true:=by simpa [plainDs] using h
  simp only [PyData.eqvAll,aG1,List.cons.injEq,af6 x y g'.1 h'.1,eqvAll_plain xs ys g'.2 h'.2]
end
theorem ag4 (ds:List PyData):plainDs ds=true ↔ ∀ d∈ds,aat d=true:=by
 induction ds with
 | nil=>simp [plainDs]
 | cons d ds ih=>simp [plainDs,ih]
def rNeD:R2:=fun x y H Q=>∃ d e,Rep H x d/\Rep H y e/\aat d=true/\aat e=true/\d.depth<=60/\Q (.bl (!PyData.eqv d e)) H
section
variable {X:Cx}
theorem afa (j:X.A.units+64 < cLine):OpR X (compareOp .NotEq) rNeD:=by
 intro pins s σ H x y v u Q I f c h
 obtain ⟨d,e,g,re,hd,b,i,q⟩:=h
 obtain ⟨as,a⟩:=g.reads I f
 obtain ⟨bs,rb⟩:=re.reads I c
 refine SeqAt.compareNe_reads a rb (adt _ hd) (adt _ b) ?_ ⟨.bl _,H,I,rfl,q⟩
 have:=Nat.min_le_left d.depth e.depth
 omega
def rInD (neg:Bool):R2:=fun x y H Q=>∃ d es,Rep H x d/\(Rep H y (.list es)\/Rep H y (.tuple es))/\aat d=true/\plainDs es=true/\d.depth<=60/\Q (.bl (if neg then !es.any (fun z=>PyData.eqv z d) else es.any (fun z=>PyData.eqv z d))) H
theorem af7 (j:X.A.units+64 < cLine):OpR X (compareOp .NotIn) (rInD true):=by
 intro pins s σ H x y v u Q I f c h
 obtain ⟨d,es,g,re,hd,b,i,q⟩:=h
 obtain ⟨as,a⟩:=g.reads I f
 have hm:=Nat.min_le_right (PyData.depthAll es) d.depth
 rcases re with re | re
 ·obtain ⟨bs,rb⟩:=re.reads I c
  exact SeqAt.notIn_list_reads rb a (plain_lays _ b) (adt _ hd) (by omega) ⟨.bl _,H,I,rfl,q⟩
 ·obtain ⟨bs,rb⟩:=re.reads I c
  exact SeqAt.notIn_tuple_reads rb a (plain_lays _ b) (adt _ hd) (by omega) ⟨.bl _,H,I,rfl,q⟩
def rIsi (K:Frag):List V->Hp->VK->Prop:=fun xs H Q=>∃ (x:V) (T:String) (t:Value) (b:Bool),xs=[x,.ty T]/\TyOf K H x t/\kitOne K t (.type T)=some b/\Q (.bl b) H
theorem adi:abk X (.builtin "isinstance") (rIsi X.K):=by
 intro pins s σ H xs us Q I r h
 obtain ⟨x,T,t,b,rfl,ty,e,q⟩:=h
 obtain ⟨u,c,rfl,d,a⟩:=aia r
 cases a
 exact ap3 I d ty e fun f=>⟨.bl b,H,I.tok _,rfl,q⟩
end
end L2
namespace HT
open PySem PyProof.Rows
section
open PySem.SeqAt
open PySem.AutoSeq1 (wpAny_loadPart')
open PySem.MeetsSeq PySem.MeetsSeq2 PySem.MeetsSeq3
end
section
variable {prog:Program} {w:World} {A:Around} {E:Value->Shared->Prop} {s:Shared}
theorem aj5 {it t:Addr} {a:Array Value} (g:t ≠ it):∀ (n i:Nat) (s:Shared) (Q:List Value->Shared->Prop),s.heap.IsListIter it t i->s.heap.IsList t a->i+n<=a.size ->
  (∀ h',h'.IsListIter it t (i+n)->Heap.SameBut it s.heap h'->Q ((a.toList.drop i).take n) { s with heap:=h' })->wpAny (model prog w) A (draw (.ref it) n) Q E s
 | 0,i,s,Q,hit,_,_,hQ=>by
  show wpAny _ _ (pure []) Q E s
  exact aI0 (by simpa using hQ s.heap hit (Heap.SameBut.refl ..))
 | n+1,i,s,Q,hit,ht,hle,hQ=>by
  have j:i < a.size:=by omega
  show wpAny _ _ (pyNext (.ref it) >>= _) Q E s
  refine aH9 (wpAny_pyNext_list_item hit ht (x:=a[i]) (by simp [j]) fun l c b=>?_)
  refine aH9 (aI4 (aj5 g n (i+1) _ _ c (ht.extBut b.extBut g) (by omega) fun h d f=>aI0 ?_))
  have hd:a.toList.drop i=a[i] :: a.toList.drop (i+1):=by simp [List.drop_eq_getElem_cons,j]
  have:=hQ h (by rw [show i+(n+1)=i+1+n by omega];exact d) (b.trans f)
  rw [hd,List.take_succ_cons] at this
  exact this
theorem ahj {t:Addr} {a:Array Value} {Q:List Value->Shared->Prop} (hh:A.handled=none) (h:s.heap.IsList t a)
  (n:∀ h',Heap.ExtBut s.heap.objs.size s.heap h'->Q a.toList { s with heap:=h' }):wpAny (model prog w) A (unpackItems (.ref t) a.size none) Q E s:=by
 have m:t ≠ s.heap.objs.size:=by obtain ⟨o,p,_⟩:=h;exact aB5 (aI2 p)
 unfold unpackItems
 refine aH9 ?_
 ·unfold notIterableAtAll
  refine aH9 (wpAny_specialOf h.typeIs slot_list_iter.lookup ?_)
  refine aI0 ?_
  simp only [Bool.false_eq_true,if_false]
  refine aH9 (aI4 (wpAny_pyIter_list h ?_))
  refine aH9 (aI4 (aj5 m a.size 0 _ _ ⟨_,aI3 _ rfl,rfl,rfl⟩ (h.push _) (by omega) fun i d c=>?_))
  have j:List.take a.size (List.drop 0 a.toList)=a.toList:=by
   rw [List.drop_zero];exact aE3 (by simp)
  rw [j]
  rw [aE6 (by simp)]
  have f:i.IsList t a:=(h.push _).extBut c.extBut m
  refine aH9 (aI4 (wpAny_pyNext_list_end hh d f (by simp) fun l g=>?_))
  simp only [Option.isSome_none,Bool.false_eq_true,if_false]
  refine aI0 (n l fun b o hb e=>g b o hb (c.extBut b o hb (aI1 _ e)))
theorem assign_Tuple_list {env:Env} {b:List Expr} {x1} {pos:Pos} {t:Addr} {a:Array Value} {Q:Unit->Shared->Prop} (hh:A.handled=none) (d:s.heap.IsList t a)
  (hn:(assignEach b env).length=a.size) (c:(assignEach b env).findIdx? (·.1)=none)
  (h:∀ h',Heap.ExtBut s.heap.objs.size s.heap h'->wpAny (model prog w) A (assignInOrder ((assignEach b env).map (·.2)) a.toList) Q E { s with heap:=h' }) :
  wpAny (model prog w) A (assign (.Tuple b x1 pos) env (.ref t)) Q E s:=by
 rw [assign_Tuple]
 refine aH9 (wpAny_standAt ?_)
 unfold unpack
 rw [hn,c]
 exact aH9 (aI4 (ahj hh d h))
end
end HT
namespace L2
open PySem PySem.Spec PyProof.Rows
section
variable {X:Cx}
def gLst (K:Frag) (n:Nat) (t:TGs):TG:=fun v σ H Q=>∃ a xs,v=.ref a/\SqL K H a xs/\xs.length=n/\t xs σ H Q
theorem ax1 {es:List Expr} {k:Nat} {t:TGs} {n:Nat} {pos:Pos} (i:X.calm=true) (h:PGs X es t)
  (hn:(assignEach es X.env).length=n:=by rfl) (c:(assignEach es X.env).findIdx? (·.1)=none:=by rfl):PG X (.Tuple es k pos) (gLst X.K n t):=by
 intro pins s σ H v u Q I r d
 obtain ⟨a,xs,q,g,j,d⟩:=d
 subst q
 cases r
 obtain ⟨its,f,l,w⟩:=I.list g
 refine HT.assign_Tuple_list (I.ok.hd i) l.isList (by simp [hn,← j,f.length]) c fun h' m=>?_
 have p:Inv X pins σ H { s with heap:=h' }:=I.kept (t':=s.toks) fun b o e=>m b o (aB5 (aI2 e)) e
 exact h pins _ σ H xs _ Q p (by simpa using f) d
def aij (K:Frag):List V->Hp->VK->Prop:=fun xs H Q=>∃ (a:Addr) (ns:List Int),xs=[.ref a]/\SqL K H a (ns.map V.int)/\ns.length < 64/\∀ (ns':List Int) (p:Addr),ns'.Perm ns->ns'.Pairwise (·<=·)->H p=none->Q (.ref p) (upd H p (.lst (ns'.map V.int)))
theorem ao5:abk X (.builtin "sorted") (aij X.K):=by
 intro pins s σ H xs us Q I r h
 obtain ⟨a,ns,rfl,ha,f,q⟩:=h
 obtain ⟨u,rfl,p⟩:=ac0 r
 cases p
 obtain ⟨its,v,n,w⟩:=I.list ha
 have i1:IntsAre its.toArray.toList ns:=adx v
 have g:IntsAre its ns:=by simpa using i1
 refine sorted_ints (vs:=its) n.isList g (by rw [g.length];exact f) fun out d l i j=>?_
 obtain ⟨e,m⟩:=sortedAll_at s.heap its out
 have c:H (s.heap.objs.size+1)=none:=I.hok.fresh (Nat.le_succ _)
 refine ⟨.ref (s.heap.objs.size+1),_,I.laid (t':=s.toks) (o:=.lst (d.map V.int)) (fun b x q=>sortedAll_old q) (Nat.le_succ _) ?_,rfl,q d _ i j c⟩
 refine ⟨?_,out.toList,e,af2 l,by rw [m]⟩
 rw [aA3,i.length_eq]
 exact aF5 (aeo (by omega))
end
end L2
namespace HT
open PySem PyProof.Rows
theorem ajh (val:Nat->Int):∀ k,argBest (fun i j=>decide (val i > val j)) k<=k/\∀ i,i<=k->val i<=val (argBest (fun i j=>decide (val i > val j)) k)
 | 0 => ⟨Nat.le_refl _, fun i hi => by have:i=0 := by omega
                                       subst this;exact Int.le_refl _⟩
 | k+1=>by
  obtain ⟨b,a⟩:=ajh val k
  unfold argBest
  by_cases hc:val (k+1) > val (argBest (fun i j=>decide (val i > val j)) k)
  ·rw [aE5 (aD4 hc)]
   refine ⟨aA6 _,fun i hi=>?_⟩
   by_cases e:i=k+1
   ·subst e;exact Int.le_refl _
   ·have:=a i (by omega)
    exact Int.le_trans this (Int.le_of_lt hc)
  ·rw [aE6 (by simpa using hc)]
   refine ⟨by omega,fun i hi=>?_⟩
   by_cases e:i=k+1
   ·subst e;omega
   ·exact a i (by omega)
theorem an4 (val:Nat->Int):∀ k,argBest (fun i j=>decide (val i < val j)) k<=k/\∀ i,i<=k->val (argBest (fun i j=>decide (val i < val j)) k)<=val i
 | 0 => ⟨Nat.le_refl _, fun i hi => by have:i=0 := by omega
                                       subst this;exact Int.le_refl _⟩
 | k+1=>by
  obtain ⟨b,a⟩:=an4 val k
  unfold argBest
  by_cases hc:val (k+1) < val (argBest (fun i j=>decide (val i < val j)) k)
  ·rw [aE5 (aD4 hc)]
   refine ⟨aA6 _,fun i hi=>?_⟩
   by_cases e:i=k+1
   ·subst e;exact Int.le_refl _
   ·have:=a i (by omega)
    exact Int.le_trans (Int.le_of_lt hc) this
  ·rw [aE6 (by simpa using hc)]
   refine ⟨by omega,fun i hi=>?_⟩
   by_cases e:i=k+1
   ·subst e;omega
   ·exact a i (by omega)
def val (ns:List Int) (i:Nat):Int:=(ns[i]?).getD 0
theorem afb {us:List Value} {ns:List Int} (hi:IntsAre us ns) (i:Nat) (v:Value) (h:us.toArray[i]?=some v):∃ t,v=.int (val ns i) t:=by
 induction hi generalizing i with
 | nil=>simp at h
 | cons n t r ih =>
  cases i with
  | zero=>simp at h;subst h;exact ⟨t,by simp [val]⟩
  | succ i =>
   obtain ⟨t',e⟩:=ih i (by simpa using h)
   exact ⟨t',by simpa [val] using e⟩
theorem aji {ns:List Int} {i:Nat} (h:i < ns.length):val ns i∈ns:=by
 unfold val
 rw [aA0 h]
 exact List.getElem_mem h
theorem al2 {ns:List Int} {x:Int} (h:x∈ns):∃ i,i < ns.length/\val ns i=x:=by
 obtain ⟨i,hi,e⟩:=aG6.mp h
 exact ⟨i,hi,by unfold val;rw [aA0 hi];exact e⟩
section
variable {prog:Program} {w:World} {A:Around} {E:Value->Shared->Prop} {s:Shared}
theorem max_list {l:Addr} {us:List Value} {ns:List Int} {Q:Value->Shared->Prop} (hh:A.handled=none) (d:s.heap.IsList l us.toArray) (hi:IntsAre us ns) (f:ns ≠ [])
  (h:∀ m t h' c,m∈ns->(∀ x∈ns,x<=m)->(∀ b o,s.heap.get? b=some o->h'.get? b=some o)->Q (.int m t) { s with heap:=h',toks:=c }) :
  wpAny (model prog w) A (call (.builtin "max") [.ref l]) Q E s:=by
 have a:l < s.heap.objs.size:=by obtain ⟨_,e,_⟩:=d;exact aI2 e
 have y:us.length=ns.length:=hi.length
 have B:0 < ns.length:=aE9.mpr f
 refine call_max_walk (wpAny_pyIter_list d ?_)
 refine ⟨_,[s.heap.objs.size,l],_,_,_,_,_,rfl,Walks.list (A:=A.in1) hh _ l (aB5 a) us.toArray,⟨⟨_,aI3 _ rfl,rfl,rfl⟩,d.push _⟩,fun b hb=>?_,by simp;omega,CmpOf.ints_gt (val ns) (fun i v=>afb hi i v),fun v h' c r p=>?_⟩
 ·show b < (s.heap.push _).objs.size
  rw [Heap.size_push]
  rcases aA8.mp hb with rfl | hb
  ·exact Nat.lt_succ_self _
  ·rcases aA8.mp hb with rfl | hb
   ·exact aE8 a
   ·cases hb
 ·obtain ⟨t,e⟩:=afb hi _ _ r
  obtain ⟨n,j⟩:=ajh (val ns) (us.toArray.size - 1)
  have g:us.toArray.size=ns.length:=by simp [y]
  rw [g] at n j
  subst e
  refine h _ t h' c (aji (by rw [g];omega)) (fun x q=>?_) fun b o e=>?_
  ·obtain ⟨i,u,e⟩:=al2 q
   have:=j i (by omega)
   rw [e] at this
   rw [g]
   exact this
  ·refine p b o (fun hm=>?_) (aI1 _ e)
   rcases aA8.mp hm with z | hm
   ·exact absurd (z ▸ aI2 e) (aF4 _)
   ·cases hm
theorem max_tup {l:Addr} {us:List Value} {ns:List Int} {Q:Value->Shared->Prop} (hh:A.handled=none) (f:s.heap.IsTuple l us.toArray) (hi:IntsAre us ns) (g:ns ≠ [])
  (h:∀ m t h' c,m∈ns->(∀ x∈ns,x<=m)->(∀ b o,s.heap.get? b=some o->h'.get? b=some o)->Q (.int m t) { s with heap:=h',toks:=c }) :
  wpAny (model prog w) A.in1 (pyIter (.ref l)) (fun it a=>∃ I fp p n P St r,it=.ref I/\Walks prog w A.in1 I fp p n P St/\St 0 a.heap/\(∀ b∈fp,b < a.heap.objs.size)/\0 < n/\CmpOf prog w A.in1 .Gt P r /\
   ∀ v h' c,P (argBest r (n - 1)) v->(∀ b o,b ∉ p->a.heap.get? b=some o->h'.get? b=some o)->Q v { a with heap:=h',toks:=c }) E s:=by
 have d:l < s.heap.objs.size:=by obtain ⟨_,e,_⟩:=f;exact aI2 e
 have D:us.length=ns.length:=hi.length
 have G:0 < ns.length:=aE9.mpr g
 refine wpAny_pyIter_tuple f ?_
 refine ⟨_,[s.heap.objs.size,l],[_],_,_,_,_,rfl,Walks.tuple (A:=A.in1) hh _ l (aB5 d) us.toArray,⟨⟨_,aI3 _ rfl,rfl,rfl⟩,f.push _⟩,fun b hb=>?_,by simp;omega,CmpOf.ints_gt (val ns) (fun i v=>afb hi i v),fun v h' c B y=>?_⟩
 ·show b < (s.heap.push _).objs.size
  rw [Heap.size_push]
  rcases aA8.mp hb with rfl | hb
  ·exact Nat.lt_succ_self _
  ·rcases aA8.mp hb with rfl | hb
   ·exact aE8 d
   ·cases hb
 ·obtain ⟨t,e⟩:=afb hi _ _ B
  obtain ⟨u,q⟩:=ajh (val ns) (us.toArray.size - 1)
  have j:us.toArray.size=ns.length:=by simp [D]
  rw [j] at u q
  subst e
  refine h _ t h' c (aji (by rw [j];omega)) (fun x z=>?_) fun b o e=>?_
  ·obtain ⟨i,C,e⟩:=al2 z
   have:=q i (by omega)
   rw [e] at this
   rw [j]
   exact this
  ·refine y b o (fun hm=>?_) (aI1 _ e)
   rcases aA8.mp hm with F | hm
   ·exact absurd (F ▸ aI2 e) (aF4 _)
   ·cases hm
theorem min_tup {l:Addr} {us:List Value} {ns:List Int} {Q:Value->Shared->Prop} (hh:A.handled=none) (f:s.heap.IsTuple l us.toArray) (hi:IntsAre us ns) (g:ns ≠ [])
  (h:∀ m t h' c,m∈ns->(∀ x∈ns,m<=x)->(∀ b o,s.heap.get? b=some o->h'.get? b=some o)->Q (.int m t) { s with heap:=h',toks:=c }) :
  wpAny (model prog w) A.in1 (pyIter (.ref l)) (fun it a=>∃ I fp p n P St r,it=.ref I/\Walks prog w A.in1 I fp p n P St/\St 0 a.heap/\(∀ b∈fp,b < a.heap.objs.size)/\0 < n/\CmpOf prog w A.in1 .Lt P r /\
   ∀ v h' c,P (argBest r (n - 1)) v->(∀ b o,b ∉ p->a.heap.get? b=some o->h'.get? b=some o)->Q v { a with heap:=h',toks:=c }) E s:=by
 have d:l < s.heap.objs.size:=by obtain ⟨_,e,_⟩:=f;exact aI2 e
 have D:us.length=ns.length:=hi.length
 have G:0 < ns.length:=aE9.mpr g
 refine wpAny_pyIter_tuple f ?_
 refine ⟨_,[s.heap.objs.size,l],[_],_,_,_,_,rfl,Walks.tuple (A:=A.in1) hh _ l (aB5 d) us.toArray,⟨⟨_,aI3 _ rfl,rfl,rfl⟩,f.push _⟩,fun b hb=>?_,by simp;omega,CmpOf.ints_lt (val ns) (fun i v=>afb hi i v),fun v h' c B y=>?_⟩
 ·show b < (s.heap.push _).objs.size
  rw [Heap.size_push]
  rcases aA8.mp hb with rfl | hb
  ·exact Nat.lt_succ_self _
  ·rcases aA8.mp hb with rfl | hb
   ·exact aE8 d
   ·cases hb
 ·obtain ⟨t,e⟩:=afb hi _ _ B
  obtain ⟨u,q⟩:=an4 (val ns) (us.toArray.size - 1)
  have j:us.toArray.size=ns.length:=by simp [D]
  rw [j] at u q
  subst e
  refine h _ t h' c (aji (by rw [j];omega)) (fun x z=>?_) fun b o e=>?_
  ·obtain ⟨i,C,e⟩:=al2 z
   have:=q i (by omega)
   rw [e] at this
   rw [j]
   exact this
  ·refine y b o (fun hm=>?_) (aI1 _ e)
   rcases aA8.mp hm with F | hm
   ·exact absurd (F ▸ aI2 e) (aF4 _)
   ·cases hm
end
end HT
namespace L2
open PySem PySem.Spec PyProof.Rows
section
variable {X:Cx}
def ady (ns:List Int) (m:Int):Prop:=m∈ns/\∀ x∈ns,x<=m
def ao6 (ns:List Int) (m:Int):Prop:=m∈ns/\∀ x∈ns,m<=x
def agp (K:Frag):List V->Hp->VK->Prop:=fun xs H Q=>∃ (a:Addr) (ns:List Int),xs=[.ref a]/\(SqL K H a (ns.map V.int)\/SqT K H a (ns.map V.int))/\ns ≠ []/\∀ m,ady ns m->Q (.int m) H
theorem acy (i:X.calm=true):abk X (.builtin "max") (agp X.K):=by
 intro pins s σ H xs us Q I r h
 obtain ⟨a,ns,rfl,ha,b,q⟩:=h
 obtain ⟨u,rfl,l⟩:=ac0 r
 cases l
 rcases ha with ha | ha
 ·obtain ⟨its,g,c,_⟩:=I.list ha
  have i1:IntsAre its.toArray.toList ns:=adx g
  exact HT.max_list (I.ok.hd i) c.isList (by simpa using i1) b fun m t h' j f d kp=>⟨.int m,H,I.kept kp,⟨_,rfl⟩,q m ⟨f,d⟩⟩
 ·obtain ⟨its,g,c,_⟩:=I.tuple ha
  have i1:IntsAre its.toArray.toList ns:=adx g
  refine call_max_walk (HT.max_tup (I.ok.hd i) c (by simpa using i1) b fun m t h' j f d kp=>⟨.int m,H,I.kept kp,⟨_,rfl⟩,q m ⟨f,d⟩⟩)
end
def tTru (K:Frag) (ta:TE):TT:=fun σ H Q=>ta σ H fun x H'=>∃ k,TruV K x H' k/\Q k H'
def rIsN:R2:=fun x y H Q=>y=.non/\Q (.bl (decide (x=.non))) H
section
variable {X:Cx} {a:Expr} {ta:TE}
theorem aqm (ha:PE X a ta) (b:∀ whole,isTrue a X.env whole=(do let v ← whole;standAt a.pos;holding [v] (truthy v)):=by intro _;rfl):PT X a (tTru X.K ta):=ar3 ha b
def ada (K:Frag):R2:=fun x y H Q=>rIxL K x y H Q\/rIxT K x y H Q
theorem aap:IxR X (ada X.K):=ix_list.or axp
theorem ave {i j n:Int} {c d:Nat} {b p2 pos:Pos} (h:i ^ j.toNat=n) (a:CPow i j):PE X (.BinOp (.Constant (.int i) c b) .Pow (.Constant (.int j) d p2) pos) (tC (.int n)):=by
 intro pins s σ H Q I q
 subst h
 exact aaf axk aac aac pins s σ H Q I ⟨i,j,rfl,rfl,a,q⟩
theorem avf:OpR X (compareOp .Is) rIsN:=axm
end
section
variable {σ:St} {H:Hp} {D:Ends} {K:Frag}
theorem afo {a:Addr} {xs:List V} {i:Int} {v:V} {Q:VK} (ha:H a=some (.lst xs)) (b:atI xs i=some v) (h:Q v H):ada K (.ref a) (.int i) H Q:=.inl (axw ha b h)
theorem ahk {a:Addr} {xs:List V} {i:Int} {v:V} {Q:VK} (ha:H a=some (.tup xs)) (b:atI xs i=some v) (h:Q v H):ada K (.ref a) (.int i) H Q:=.inr (axx ha b h)
theorem adb {A B:Prop} (h:A):if true=true then A else B:=by rw [aE5 rfl];exact h
theorem aeg {A B:Prop} (h:B):if false=true then A else B:=by rw [aE6 aA9];exact h
theorem acp {A B:Prop} (h:B):if (!true)=true then A else B:=by rw [aE6 (by decide)];exact h
theorem an5 {A B:Prop} (h:A):if (!false)=true then A else B:=by rw [aE5 (by decide)];exact h
theorem ahl {K:Frag}:kitOne K (.type "NoneType") (.type "int")=some false:=by first | rfl | decide
theorem ag1 {K:Frag}:kitOne K (.type "NoneType") (.type "bool")=some false:=by first | rfl | decide
theorem af8 {K:Frag}:kitOne K (.type "NoneType") (.type "tuple")=some false:=by first | rfl | decide
theorem ag2 {K:Frag}:kitOne K (.type "NoneType") (.type "list")=some false:=by first | rfl | decide
theorem ahm {K:Frag}:kitOne K (.type "NoneType") (.type "str")=some false:=by first | rfl | decide
theorem ag3 {K:Frag}:kitOne K (.type "NoneType") (.type "dict")=some false:=by first | rfl | decide
theorem al3 {K:Frag}:kitOne K (.type "bool") (.type "int")=some true:=by first | rfl | decide
theorem akj {K:Frag}:kitOne K (.type "bool") (.type "bool")=some true:=by first | rfl | decide
theorem ajj {K:Frag}:kitOne K (.type "bool") (.type "tuple")=some false:=by first | rfl | decide
theorem akk {K:Frag}:kitOne K (.type "bool") (.type "list")=some false:=by first | rfl | decide
theorem al4 {K:Frag}:kitOne K (.type "bool") (.type "str")=some false:=by first | rfl | decide
theorem akl {K:Frag}:kitOne K (.type "bool") (.type "dict")=some false:=by first | rfl | decide
theorem ana {K:Frag}:kitOne K (.type "int") (.type "int")=some true:=by first | rfl | decide
theorem al5 {K:Frag}:kitOne K (.type "int") (.type "bool")=some false:=by first | rfl | decide
theorem akm {K:Frag}:kitOne K (.type "int") (.type "tuple")=some false:=by first | rfl | decide
theorem al6 {K:Frag}:kitOne K (.type "int") (.type "list")=some false:=by first | rfl | decide
theorem anb {K:Frag}:kitOne K (.type "int") (.type "str")=some false:=by first | rfl | decide
theorem al7 {K:Frag}:kitOne K (.type "int") (.type "dict")=some false:=by first | rfl | decide
theorem anc {K:Frag}:kitOne K (.type "str") (.type "int")=some false:=by first | rfl | decide
theorem al8 {K:Frag}:kitOne K (.type "str") (.type "bool")=some false:=by first | rfl | decide
theorem akn {K:Frag}:kitOne K (.type "str") (.type "tuple")=some false:=by first | rfl | decide
theorem al9 {K:Frag}:kitOne K (.type "str") (.type "list")=some false:=by first | rfl | decide
theorem ane {K:Frag}:kitOne K (.type "str") (.type "str")=some true:=by first | rfl | decide
theorem ama {K:Frag}:kitOne K (.type "str") (.type "dict")=some false:=by first | rfl | decide
theorem amb {K:Frag}:kitOne K (.type "list") (.type "int")=some false:=by first | rfl | decide
theorem ako {K:Frag}:kitOne K (.type "list") (.type "bool")=some false:=by first | rfl | decide
theorem ajk {K:Frag}:kitOne K (.type "list") (.type "tuple")=some false:=by first | rfl | decide
theorem akp {K:Frag}:kitOne K (.type "list") (.type "list")=some true:=by first | rfl | decide
theorem amc {K:Frag}:kitOne K (.type "list") (.type "str")=some false:=by first | rfl | decide
theorem akq {K:Frag}:kitOne K (.type "list") (.type "dict")=some false:=by first | rfl | decide
theorem akr {K:Frag}:kitOne K (.type "tuple") (.type "int")=some false:=by first | rfl | decide
theorem ajl {K:Frag}:kitOne K (.type "tuple") (.type "bool")=some false:=by first | rfl | decide
theorem aik {K:Frag}:kitOne K (.type "tuple") (.type "tuple")=some true:=by first | rfl | decide
theorem ajm {K:Frag}:kitOne K (.type "tuple") (.type "list")=some false:=by first | rfl | decide
theorem aks {K:Frag}:kitOne K (.type "tuple") (.type "str")=some false:=by first | rfl | decide
theorem ajn {K:Frag}:kitOne K (.type "tuple") (.type "dict")=some false:=by first | rfl | decide
theorem amd {K:Frag}:kitOne K (.type "dict") (.type "int")=some false:=by first | rfl | decide
theorem akt {K:Frag}:kitOne K (.type "dict") (.type "bool")=some false:=by first | rfl | decide
theorem ajo {K:Frag}:kitOne K (.type "dict") (.type "tuple")=some false:=by first | rfl | decide
theorem aku {K:Frag}:kitOne K (.type "dict") (.type "list")=some false:=by first | rfl | decide
theorem ame {K:Frag}:kitOne K (.type "dict") (.type "str")=some false:=by first | rfl | decide
theorem akv {K:Frag}:kitOne K (.type "dict") (.type "dict")=some true:=by first | rfl | decide
end
end L2
namespace L2
open PySem
section
variable {σ:St} {H:Hp} {K:Frag}
theorem ab3 {p:Addr} {o:HO} (a:H p=none):Same H (upd H p o):=fun b u e=>by rw [aae (aak e a)];exact e
theorem Same.new {H H':Hp} {q:Addr} {o:HO} (s:Same H H') (h:H' q=none):Same H (upd H' q o):=fun b u e=>by
 have:=s b u e
 rw [aae (aak this h)];exact this
theorem Same.set {H H':Hp} {q:Addr} {o:HO} (s:Same H H') (h:H q=none):Same H (upd H' q o):=fun b u e=>by
 have:=s b u e
 rw [aae (aak e h)];exact this
theorem Same.at {H H':Hp} {b:Addr} {o:HO} (s:Same H H') (h:H b=some o):H' b=some o:=s b o h
end
section
variable {σ:St} {H:Hp} {K:Frag}
end
end L2
namespace Gr
inductive Walk (T:Int->Int->Prop) (u:Int):Nat->Int->Prop
 | refl:Walk T u 0 u
 | step {k:Nat} {v w:Int}:Walk T u k v->T v w->Walk T u (k+1) w
def Dist (T:Int->Int->Prop) (u v:Int) (d:Nat):Prop:=Walk T u d v/\∀ k,Walk T u k v->d<=k
theorem Dist.uniq {T:Int->Int->Prop} {u v:Int} {d e:Nat} (h:Dist T u v d) (g:Dist T u v e):d=e:=Nat.le_antisymm (h.2 _ g.1) (g.2 _ h.1)
theorem Dist.self (T:Int->Int->Prop) (u:Int):Dist T u u 0:=⟨.refl,fun _ _=>aF0 _⟩
theorem Dist.of_walk {T:Int->Int->Prop} {u v:Int} {k:Nat} (h:Walk T u k v):∃ d,d<=k/\Dist T u v d:=by
 induction k using Nat.strongRecOn with
 | ind k ih =>
  by_cases hx:∃ j,j < k/\Walk T u j v
  ·obtain ⟨j,hj,w⟩:=hx
   obtain ⟨d,hd,e⟩:=ih j hj w
   exact ⟨d,by omega,e⟩
  ·refine ⟨k,aA6 _,h,fun j w=>?_⟩
   by_cases hj:j < k
   ·exact absurd ⟨j,hj,w⟩ hx
   ·omega
theorem Dist.pred {T:Int->Int->Prop} {u w:Int} {d:Nat} (h:Dist T u w (d+1)):∃ v,T v w/\Dist T u v d:=by
 obtain ⟨b,hm⟩:=h
 cases b with
 | step hv ht =>
  rename_i v
  refine ⟨v,ht,hv,fun k a=>?_⟩
  have:=hm (k+1) (.step a ht)
  omega
theorem Dist.next {T:Int->Int->Prop} {u v w:Int} {d:Nat} (h:Dist T u v d) (t:T v w):∃ e,e<=d+1/\Dist T u w e:=Dist.of_walk (.step h.1 t)
structure Bfs (T:Int->Int->Prop) (a:Int) (line:List Int) (ds:List Nat) (at_:Nat):Prop where
 len:ds.length=line.length
 fst:line[0]?=some a
 nd:line.Nodup
 le:at_<=line.length
 dist:∀ (i:Nat) v d,line[i]?=some v->ds[i]?=some d->Dist T a v d
 mono:∀ (i j:Nat) d e,i<=j->ds[i]?=some d->ds[j]?=some e->d<=e
 near:∀ (i j:Nat) d e,at_<=i->ds[i]?=some d->ds[j]?=some e->e<=d+1
 done:∀ (i:Nat) v w,i < at_->line[i]?=some v->T v w->w∈line
theorem Bfs.start (T:Int->Int->Prop) (a:Int):Bfs T a [a] [0] 0:=by
 refine ⟨rfl,rfl,by simp,aF0 _,fun i v d c b=>?_,fun i j d e h c b=>?_,fun i j d e h c b=>?_,fun i v w h=>absurd h (by omega)⟩
 ·match i,c,b with
  | 0,c,b=>simp at c b;subst c b;exact Dist.self T a
  | i+1,c,_=>simp at c
 ·match j,b with
  | 0,b =>
   have:i=0:=by omega
   subst this
   rw [c] at b;cases b;exact aA6 _
  | j+1,b=>simp at b
 ·match i,j,c,b with
  | 0,0,c,b=>rw [c] at b;cases b;omega
  | i+1,_,c,_=>simp at c
  | 0,j+1,_,b=>simp at b
theorem Bfs.all {T:Int->Int->Prop} {a:Int} {line:List Int} {ds:List Nat} {at_:Nat} {d:Nat} (b:Bfs T a line ds at_) (hd:ds[at_]?=some d) :
  ∀ k w,k<=d->Dist T a w k->w∈line:=by
 intro k
 induction k with
 | zero =>
  intro w _ h
  have:w=a:=by
   cases h.1;rfl
  subst this
  exact aA2 b.fst
 | succ k ih =>
  intro w m h
  obtain ⟨v,j,f⟩:=h.pred
  have l:=ih v (by omega) f
  obtain ⟨i,hi,e⟩:=aG6.mp l
  have g:line[i]?=some v:=by rw [aA0 hi,e]
  have c:i < ds.length:=by rw [b.len];exact hi
  have e2:ds[i]?=some ds[i]:=aA0 c
  have n:=(b.dist i v _ g e2).uniq f
  by_cases hlt:i < at_
  ·exact b.done i v w hlt g j
  ·have:=b.mono at_ i d _ (by omega) hd e2
   omega
theorem Bfs.add {T:Int->Int->Prop} {a:Int} {line:List Int} {ds:List Nat} {at_:Nat} {p w:Int} {d:Nat} (b:Bfs T a line ds at_) (n:line[at_]?=some p) (hd:ds[at_]?=some d) (t:T p w) (r:w ∉ line) :
  Bfs T a (line ++ [w]) (ds ++ [d+1]) at_:=by
 have B:at_ < line.length:=(aA1.mp n).1
 have s:Dist T a w (d+1):=by
  obtain ⟨e,D,h⟩:=(b.dist _ _ _ n hd).next t
  by_cases c:e<=d
  ·exact absurd (b.all hd e w c h) r
  ·have:e=d+1:=by omega
   rw [← this];exact h
 have g:∀ (j:Nat) e,(ds ++ [d+1])[j]?=some e->(ds[j]?=some e)\/(j=ds.length/\e=d+1):=by
  intro j e h
  rw [List.getElem?_append] at h
  split at h
  ·exact .inl h
  ·rename_i hj
   right
   have:j - ds.length=0:=by
    match hz:j - ds.length,h with
    | 0,_=>rfl
    | k+1,h=>simp at h
   rw [this] at h
   simp at h
   exact ⟨by omega,h.symm⟩
 refine ⟨by simp [b.len],?_,?_,by simp;omega,fun i v e f c=>?_,fun i j x y h f c=>?_,fun i j x y h f c=>?_,fun i v u h f A=>?_⟩
 ·rw [aC2 (by omega)];exact b.fst
 ·rw [List.nodup_append]
  exact ⟨b.nd,by simp,fun x z y q=>by simp at q;subst q;intro e;subst e;exact r z⟩
 ·rcases g _ _ c with c | ⟨o,l⟩
  ·have hi:i < ds.length:=(aA1.mp c).1
   rw [aC2 (by rw [← b.len];exact hi)] at f
   exact b.dist i v e f c
  ·subst l
   rw [aC7 (by rw [← b.len];omega)] at f
   have:i - line.length=0:=by rw [← b.len];omega
   rw [this] at f
   simp at f;subst f
   exact s
 ·rcases g _ _ f with f | ⟨o,l⟩
  ·rcases g _ _ c with c | ⟨m,l⟩
   ·exact b.mono i j x y h f c
   ·subst l
    by_cases hia:at_<=i
    ·exact b.near at_ i d x (aA6 _) hd f
    ·have:=b.mono i at_ x d (by omega) f hd;omega
  ·rcases g _ _ c with c | ⟨m,C⟩
   ·have:=(aA1.mp c).1;omega
   ·omega
 ·rcases g _ _ f with f | ⟨o,l⟩
  ·rcases g _ _ c with c | ⟨m,l⟩
   ·exact b.near i j x y h f c
   ·subst l
    have:=b.mono at_ i d x h hd f;omega
  ·subst l
   rcases g _ _ c with c | ⟨m,l⟩
   ·have:=b.near at_ j d y (aA6 _) hd c;omega
   ·omega
 ·rw [aC2 (by omega)] at f
  exact aC6 _ (b.done i v u h f A)
theorem Bfs.next {T:Int->Int->Prop} {a:Int} {line:List Int} {ds:List Nat} {at_:Nat} {p:Int} (b:Bfs T a line ds at_) (g:line[at_]?=some p) (h:∀ w,T p w->w∈line):Bfs T a line ds (at_+1):=by
 have f:at_ < line.length:=(aA1.mp g).1
 refine ⟨b.len,b.fst,b.nd,f,b.dist,b.mono,fun i j d e hi=>b.near i j d e (by omega),fun i v w hi c t=>?_⟩
 by_cases e:i=at_
 ·subst e
  rw [g] at c;cases c
  exact h w t
 ·exact b.done i v w (by omega) c t
theorem Bfs.fin {T:Int->Int->Prop} {a:Int} {line:List Int} {ds:List Nat} (b:Bfs T a line ds line.length):∀ k w,Walk T a k w->w∈line:=by
 intro k w h
 induction h with
 | refl=>exact aA2 b.fst
 | step _ t ih =>
  obtain ⟨i,hi,e⟩:=aG6.mp ih
  exact b.done i _ _ hi (by rw [aA0 hi,e]) t
end Gr
namespace L2
open PySem PySem.Spec PyProof.Rows
section
variable {σ:St} {H:Hp} {D:Ends} {K:Frag}
end
theorem few_places:∀ (n:Nat) (l:List Int),l.Nodup->(∀ v∈l,0<=v/\v < (n:Int))->l.length<=n
 | 0,l,_,h=>by
  cases l with
  | nil=>simp
  | cons v r=>have:=h v (by simp);omega
 | n+1,l,hn,h=>by
  have d:=few_places n (l.erase (n:Int)) (hn.erase _) fun v a=>by
   have hm:=List.mem_of_mem_erase a
   have hb:=h v hm
   have b:v ≠ (n:Int):=by
    rintro rfl
    exact absurd a (List.Nodup.not_mem_erase hn)
   omega
  have c:l.length<=(l.erase (n:Int)).length+1:=by
   rw [List.length_erase]
   split <;> omega
  omega
end L2
namespace L2
open PySem
end L2
namespace HT
open PySem PyProof.Rows
section
variable {prog:Program} {w:World} {A:Around} {E:Value->Shared->Prop} {s:Shared}
end
end HT
namespace L2
open PySem PySem.Spec PyProof.Rows
section
variable {X:Cx}
end
section
variable {X:Cx} {pins:List (Addr × Obj)} {σ:St} {H:Hp} {s:Shared} {A:Around} {E:Value->Shared->Prop} {Q:Value->Shared->Prop} {b:Bool}
end
section
variable {X:Cx}
end
end L2
namespace HT
open PySem PyProof.Rows L2
def LtAt (A:Around) (s:Shared) (y x:Value) (b:Bool):Prop :=
 ∀ (prog:Program) (w:World) (E:Value->Shared->Prop) (Q:Value->Shared->Prop),Q (.bool b) s->wpAny (model prog w) A (richCompare .Lt y x) Q E s
section
open PySem.SeqAt
open PySem.AutoSeq1 (wpAny_loadPart')
open PySem.MeetsSeq PySem.MeetsSeq2 PySem.MeetsSeq3
inductive Its (A:Around) (s:Shared):List Value->List Value->Bool->Prop
 | nn:Its A s [] [] false
 | nc {x:Value} {ys:List Value}:Its A s [] (x :: ys) true
 | cn {x:Value} {xs:List Value}:Its A s (x :: xs) [] false
 | eq {x y:Value} {xs ys:List Value} {b:Bool}:EqAt A s x y true->Its A s xs ys b->Its A s (x :: xs) (y :: ys) b
 | ne {x y:Value} {xs ys:List Value} {b:Bool}:EqAt A s x y false->LtAt A s x y b->Its A s (x :: xs) (y :: ys) b
theorem amf (l b:Addr) (c a:Array Value) (n I:Nat) (H B:Option Addr) (sl q:Array (Option Value)) (r:Bool) :
  Meets (Builtin.«tuple.__lt__» ⟨[.ref l,.ref b],[]⟩)
   (fun A R s=>s.heap.get? l=some { cls:=.type "tuple",dict:=H,data:=.seq c n,slots:=sl }/\s.heap.get? b=some { cls:=.type "tuple",dict:=B,data:=.seq a I,slots:=q } /\
    Its A.in1 s c.toList a.toList r/\R (.ok (.ret (.bool r))) s) :=
 .of_wp fun prog w A R s h=>by
  obtain ⟨F,g,d,E,os⟩:=s;obtain ⟨G,hb,hi,h⟩:=h
  have L:=AutoSeq1.sub_tuple_tuple
  wp_walk using wpAny_loadPart' G,wpAny_loadPart' hb,wpAny_forIn_list _ (fun rest b D=>b.1=none/\D=⟨F,g,d,E,os⟩/\∃ (vs p:List Value),rest=vs.zip p /\
   vs.length+a.size=p.length+c.size/\Its A.in1 ⟨F,g,d,E,os⟩ vs p r) _
  case turn =>
   rintro ⟨y,x⟩ rest b D ⟨m,rfl,vs,p,j,f,C⟩
   cases C with
   | nn=>cases j
   | nc=>cases j
   | cn=>cases j
   | eq he hI' =>
    rw [List.zip_cons_cons] at j
    injection j with o i
    injection o with z u
    subst z u
    simp only [aD8] at f
    refine aH9 (he prog w _ _ ?_)
    wp_walk
    exact ⟨rfl,rfl,_,_,i,by omega,hI'⟩
   | ne he hlt =>
    rw [List.zip_cons_cons] at j
    injection j with o i
    injection o with z u
    subst z u
    refine aH9 (he prog w _ _ ?_)
    have v:=hlt prog w
    wp_walk using v
    exact ⟨_,rfl,by simpa using h⟩
  case fin =>
   rintro ⟨K,M⟩ D ⟨m,rfl,vs,p,j,f,C⟩
   simp only at m
   subst m
   have J:r=decide (c.size < a.size):=by
    cases C with
    | nn =>
     simp only [aH8] at f
     exact (aD3 (by omega)).symm
    | nc =>
     simp only [aH8,aD8] at f
     exact (aD4 (by omega)).symm
    | cn =>
     simp only [aH8,aD8] at f
     exact (aD3 (by omega)).symm
    | eq=>cases j
    | ne=>cases j
   rw [J] at h
   wp_walk
   exact ⟨_,rfl,by simpa [Builtin.Tuple.tupleCompareSizes] using h⟩
  case h =>
   exact ⟨rfl,rfl,c.toList,a.toList,rfl,by simp;omega,hi⟩
end
section
variable {A:Around} {s:Shared}
theorem LtAt.tup {l b:Addr} {o g:Obj} {c a:Array Value} {n v:Nat} {r:Bool} (p:s.heap.get? l=some o) (m:o.cls=.type "tuple") (hd:o.data=.seq c n) (hb:s.heap.get? b=some g) (d:g.cls=.type "tuple") (f:g.data=.seq a v)
  (z:A.units < cLine) (hi:Its A.in1 s c.toList a.toList r):LtAt A s (.ref l) (.ref b) r:=by
 intro prog w E Q q
 obtain ⟨cls,y,data,sl⟩:=o
 obtain ⟨u,i,j,h⟩:=g
 simp only at m hd d f
 subst m hd d f
 exact richCompare_meets_room (op:=.Lt) ⟨_,p,rfl⟩ ⟨_,hb,rfl⟩ PySem.F.slot_tuple_lt PySem.F.entry_tuple_lt (PySem.F.args_tuple_lt_2 _ _) (amf l b c a n v y i sl h r)
  ⟨p,hb,hi,show Value.bool r ≠ Value.notImplemented/\Q (.bool r) s from ⟨(fun x=>nomatch x),q⟩⟩ z
end
end HT
namespace L2
open PySem PySem.Spec PyProof.Rows
section
variable {X:Cx}
end
end L2
namespace L2
open PySem
end L2
namespace TS
open PySem PyProof.Rows HT
theorem an6:∀ x y:List Int,HT.lexLt x y=true->HT.lexLt y x=false
 | [],[],h=>by simp [HT.lexLt] at h
 | [],_ :: _,_=>rfl
 | _ :: _,[],h=>by simp [HT.lexLt] at h
 | a :: x,b :: y,h=>by
  rw [afl] at h ⊢
  by_cases e:a=b
  ·subst e
   rw [aE5 rfl] at h ⊢
   exact an6 x y h
  ·rw [aE6 e] at h
   rw [aE6 (fun z=>e z.symm)]
   have:=of_decide_eq_true h
   exact aD3 (by omega)
theorem aqn:∀ x y z:List Int,HT.lexLt y x=false->HT.lexLt z y=false->HT.lexLt z x=false
 | _,[],[],h,_=>h
 | [],[],_ :: _,_,_=>rfl
 | _ :: _,[],_ :: _,h,_=>by simp [HT.lexLt] at h
 | _,_ :: _,[],_,h=>by simp [HT.lexLt] at h
 | [],_ :: _,_ :: _,_,_=>rfl
 | a :: x,b :: y,c :: z,h,g=>by
  rw [afl] at h g ⊢
  by_cases e:b=a
  ·subst e
   rw [aE5 rfl] at h
   by_cases e2:c=b
   ·subst e2
    rw [aE5 rfl] at g ⊢
    exact aqn x y z h g
   ·rw [aE6 e2] at g ⊢
    exact g
  ·rw [aE6 e] at h
   have h':=of_decide_eq_false h
   by_cases e2:c=b
   ·subst e2
    rw [aE6 e]
    exact h
   ·rw [aE6 e2] at g
    have g':=of_decide_eq_false g
    rw [aE6 (by omega)]
    exact aD3 (by omega)
def TI (h:Heap) (a:Addr) (ns:List Int):Prop:=∃ o xs n,h.get? a=some o/\o.cls=.type "tuple"/\o.data=.seq xs n/\IntsAre xs.toList ns
def kfV (kf:Addr->List Int):Value->List Int
 | .ref a=>kf a
 | _=>[]
section
variable {prog:Program} {w:World} {A:Around} {E:Value->Shared->Prop} {s:Shared}
theorem ag5 {fin:Bool} {Q:Bool->Shared->Prop}:∀ {xs ys:List Value} {ns c:List Int} (i:Nat),IntsAre xs ns->IntsAre ys c->(ns.length < c.length->fin=true)->(c.length<=ns.length->fin=false)->Q (HT.lexLt ns c) s ->
  PySem.W.KatLex prog w A true fin Q (xs.zip ys) i s
 | _,_,_,_,i,.nil,.nil,_,h2,q=>by
  rw [h2 (aA6 _)];exact q
 | _,_,_,_,i,.nil,.cons b u r,h1,_,q=>by
  rw [h1 (by simp)];exact q
 | _,_,_,_,i,.cons a t r,.nil,_,h2,q=>by
  rw [List.zip_nil_right,h2 (by simp)];exact q
 | _,_,_,_,i,.cons a t r,.cons b u r2,h1,h2,q=>by
  rw [List.zip_cons_cons]
  refine PySem.W.kat_cons (SeqAt.EqAt.int_int a t b u prog w _ _ ?_)
  rw [afl] at q
  by_cases e:a=b
  ·subst e
   rw [aE5 rfl] at q
   rw [show (a == a)=true by simp]
   exact PySem.W.kat_yes (ag5 (i+1) r r2 (fun z=>h1 (by simpa using z)) (fun z=>h2 (by simpa using z)) q)
  ·rw [aE6 e] at q
   rw [show (a == b)=false by simpa using e]
   refine PySem.W.kat_no ?_
   by_cases hi:i=0
   ·subst hi
    exact oneLt_int q
   ·rw [show (true && i == 0)=false by simpa using hi]
    exact PySem.W.kat_one _ _ (PyProof.Rows.lt_int q)
def tS (h:Heap) (kf:Addr->List Int) (x:Keyed):Prop:=x.1=x.2/\∃ a,x.1=.ref a/\TI h a (kf a)
def tR (kf:Addr->List Int) (x y:Keyed):Bool:=HT.lexLt (kfV kf x.1) (kfV kf y.1)
theorem cmp_tups (j:Addr->List Int):Cmp (model prog w) A E s (tuples' true) (tS s.heap j) (tR j):=by
 refine ⟨fun x y p v Q st l q=>?_,fun x y _ _=>an6 _ _,fun x y z _ _ _=>aqn _ _ _⟩
 obtain ⟨C,D⟩:=x
 obtain ⟨G,F⟩:=y
 obtain ⟨_,a,h,o,xs,n,u,e2,r,c⟩:=p
 obtain ⟨_,b,i,o',ys,I,m,H,B,g⟩:=v
 dsimp only at h i
 subst h i
 rw [lt'_eq]
 refine wpS_bind (wpS_get ?_)
 rw [l]
 refine wpS_bind (wpS_lift (wpAny_attempt (PySem.W.kat_lt u r m B (ag5 0 c g (fun z=>?_) (fun z=>?_) ⟨rfl,?_⟩))))
 ·have f:=c.length;have d:=g.length
  simp at f d
  exact aD4 (by omega)
 ·have f:=c.length;have d:=g.length
  simp at f d
  exact aD3 (by omega)
 ·exact wpS_pure q
theorem ao7 {vs:List Value} {ps:List Keyed} (h:ps.Perm (vs.zip vs)):(∀ p∈ps,p.1=p.2/\p.1∈vs)/\(ps.map (·.2)).Perm vs:=by
 refine ⟨fun p b=>mem_zip_self (h.mem_iff.mp b),?_⟩
 have a:=h.map (fun p=>p.2)
 have e:(vs.zip vs).map (fun p=>p.2)=vs:=List.map_snd_zip (aA6 _)
 rwa [e] at a
theorem akw {a:Addr} {vs:List Value} {n:Nat} {P:PySem.Fin->Shared->Prop} (j:s.heap.get? a=some (seqObj "list" vs.toArray n)) (c:vs.length<=sizeLine)
  (p:2<=vs.length->∀ h',(∀ b o,b ≠ a->s.heap.get? b=some o->h'.get? b=some o)->∃ κ S R,(∀ (Q:SortKind->Shared->Prop),Q κ { s with heap:=h' }->wpAny (model prog w) A (keyKind' vs.toArray) Q E { s with heap:=h' })/\Cmp (model prog w) A E { s with heap:=h' } κ S R/\(∀ v∈vs,S (v,v)) /\
   ∀ out:List Value,out.Perm vs->out.Pairwise (fun x y=>R (y,y) (x,x)=false)->P (.done (.ret .none)) { s with heap:=sortedHeap s.heap a vs out.toArray })
  (J:vs.length < 2->P (.done (.ret .none)) { s with heap:=sortedHeap s.heap a vs vs.toArray }) :
  wpAny (model prog w) A (Builtin.«list.sort» ⟨[.ref a],[]⟩) P E s:=by
 rw [list_sort_plain]
 have ha:a < s.heap.objs.size:=aI2 j
 refine aH9 (listItems_at j rfl ?_)
 refine aH9 (listUpdate_at j rfl ?_ (by rw [aB1];exact c) (aF0 _))
 obtain ⟨r,h⟩:∃ r,(s.heap.update a (Obj.mapSeq fun _ => #[])).get? a=some (seqObj "list" #[] r):=⟨_,get?_update_seq j (fun _ => #[])⟩
 refine aH9 (seqEpoch_at h rfl ?_)
 refine aH9 (wpAny_newTuple ?_ (by show vs.length<=_;exact c))
 refine aH9 (wpAny_newList ?_ (aF0 _))
 refine aI4 ?_
 have d:(((s.heap.update a (Obj.mapSeq fun _ => #[])).push (seqObj "tuple" vs.toArray 0)).push (seqObj "list" #[] 0)).get? a=some (seqObj "list" #[] r):=by
  rw [Heap.get?_push_ne _ _ _ (by rw [size_push',Heap.size_update];exact aB5 (aE8 ha)),Heap.get?_push_ne _ _ _ (by rw [Heap.size_update];exact aB5 ha)]
  exact h
 show wpAny (model prog w) A _ P E { s with heap:=((s.heap.update a (Obj.mapSeq fun _ => #[])).push (seqObj "tuple" vs.toArray 0)).push (seqObj "list" #[] 0) }
 dsimp only
 have hsz:vs.toArray.size=vs.length:=by simp
 have kp:∀ b o,b ≠ a->s.heap.get? b=some o->(((s.heap.update a (Obj.mapSeq fun _ => #[])).push (seqObj "tuple" vs.toArray 0)).push (seqObj "list" #[] 0)).get? b=some o:=fun b o hb e=>by
  refine aI1 _ (aI1 _ ?_)
  rw [Heap.get?_update_ne _ _ _ _ hb];exact e
 by_cases h2:vs.toArray.size < 2
 ·rw [aE5 h2,aE5 h2]
  refine aH9 (aI0 ?_)
  rw [StateT.run_pure]
  refine aH9 (aI0 ?_)
  dsimp only
  have m:(arrOf (SortSt.mk' general' (vs.toArray.zip vs.toArray) #[] 7 none)).map (·.2)=vs.toArray:=by
   show (vs.toArray.zip vs.toArray).map (·.2)=vs.toArray
   apply Array.toList_inj.mp
   rw [Array.toList_map,Array.toList_zip]
   exact List.map_snd_zip (aA6 _)
  rw [m]
  refine aH9 (seqEpoch_at d rfl ?_)
  refine aH9 (listUpdate_at d rfl ?_ (aF0 _) (by rw [aB1];exact Nat.le_succ_of_le c))
  simp only [bne_self_eq_false,Bool.false_eq_true,if_false]
  exact aI0 (J (by omega))
 ·rw [aE6 h2,aE6 h2]
  obtain ⟨κ,S,R,B,C,N,g⟩:=p (by omega) _ kp
  refine aH9 (B _ ?_)
  refine aH9 (aI6 (avd C (a0:=vs.toArray.zip vs.toArray) (st:=SortSt.mk' κ (vs.toArray.zip vs.toArray) #[] 7 none) (Q:=fun _ st'=>failedOf st'=none/\(arrOf st').toList.Perm (vs.zip vs)/\Srt R (arrOf st').toList) (fun x l=>?_) rfl rfl rfl rfl fun st' L M z=>⟨L,by simpa using M,z⟩) ?_ fun _ _ e=>e)
  ·have:x∈vs.zip vs:=by simpa using l
   obtain ⟨f,i⟩:=mem_zip_self this
   obtain ⟨F,G⟩:=x
   dsimp only at f i
   subst f
   exact N _ i
  rintro ⟨⟨⟩,st'⟩ z ⟨rfl,hf,D,K⟩
  dsimp only
  obtain ⟨f,i⟩:=ao7 D
  have m:(arrOf st').map (·.2)=(((arrOf st').toList.map (·.2)).toArray):=by
   apply Array.toList_inj.mp
   simp
  rw [m]
  have q:((arrOf st').toList.map (·.2)).length=vs.length:=i.length_eq
  refine aH9 (seqEpoch_at d rfl ?_)
  refine aH9 (listUpdate_at d rfl ?_ (aF0 _) (by rw [aB1,q];exact Nat.le_succ_of_le c))
  rw [hf]
  simp only [bne_self_eq_false,Bool.false_eq_true,if_false]
  refine aI0 (g _ i ?_)
  rw [aF1]
  refine aH0 ?_ K
  intro x y l I H
  have ex:=(f x l).1
  have u:=(f y I).1
  obtain ⟨F,G⟩:=x
  obtain ⟨T,O⟩:=y
  dsimp only at ex u
  subst ex u
  exact H
theorem sorted_any {l:Addr} {vs:List Value} {Q:Value->Shared->Prop} (i:s.heap.IsList l vs.toArray) (a:vs.length<=sizeLine)
  (h:2<=vs.length->∀ h',(∀ b o,s.heap.get? b=some o->h'.get? b=some o)->∃ κ S R,(∀ (Q:SortKind->Shared->Prop),Q κ { s with heap:=h' }->wpAny (model prog w) A.in1.in1 (keyKind' vs.toArray) Q E { s with heap:=h' })/\Cmp (model prog w) A.in1.in1 E { s with heap:=h' } κ S R/\(∀ v∈vs,S (v,v)) /\
   ∀ out:List Value,out.Perm vs->out.Pairwise (fun x y=>R (y,y) (x,x)=false)->Q (.ref (s.heap.objs.size+1)) { s with heap:=sortedAll s.heap vs out.toArray })
  (r:vs.length < 2->Q (.ref (s.heap.objs.size+1)) { s with heap:=sortedAll s.heap vs vs.toArray }) :
  wpAny (model prog w) A (call (.builtin "sorted") [.ref l]) Q E s:=by
 refine Calls.call_function_entry kind_sorted plain_sorted entry_sorted (args_sorted1 _) ?_
 unfold Builtin.«sorted»
 refine aH9 (m:=checkCount "sorted" 1 1 _) (aI0 ?_)
 refine aH9 (collect_list i ?_ a)
 refine aH9 (wpAny_newList ?_ a)
 have hsz:((s.heap.push (seqObj "list" #[] 0)).update s.heap.objs.size (Obj.mapSeq (· ++ vs.toArray))).objs.size=s.heap.objs.size+1:=by
  rw [Heap.size_update,size_push']
 have d:(((s.heap.push (seqObj "list" #[] 0)).update s.heap.objs.size (Obj.mapSeq (· ++ vs.toArray))).push (seqObj "list" vs.toArray 0)).get? (s.heap.objs.size+1)=some (seqObj "list" vs.toArray 0):=by
  rw [← hsz];exact aI3 _ rfl
 have keep:∀ b o,s.heap.get? b=some o->(((s.heap.push (seqObj "list" #[] 0)).update s.heap.objs.size (Obj.mapSeq (· ++ vs.toArray))).push (seqObj "list" vs.toArray 0)).get? b=some o:=fun b o q=>by
  have c:b < s.heap.objs.size:=aI2 q
  rw [Heap.get?_push_ne _ _ _ (by rw [hsz];exact aB5 (aE8 c)),Heap.get?_update_ne _ _ _ _ (aB5 c),Heap.get?_push_ne _ _ _ (aB5 c)]
  exact q
 show wpAny _ _ _ _ _ { s with heap:=((s.heap.push (seqObj "list" #[] 0)).update s.heap.objs.size (Obj.mapSeq (· ++ vs.toArray))).push (seqObj "list" vs.toArray 0) }
 rw [hsz]
 refine aH9 (aI4 (wpAny_call_entry slot_list_sort ⟨_,d,rfl⟩ entry_list_sort ?body (args_list_sort _)))
 case body =>
  refine akw (s:={ s with heap:=((s.heap.push (seqObj "list" #[] 0)).update s.heap.objs.size (Obj.mapSeq (· ++ vs.toArray))).push (seqObj "list" vs.toArray 0) }) d a (fun g h' kp=>?_) fun c=>?_
  ·obtain ⟨κ,S,R,j,C,p,f⟩:=h g h' fun b o e=>kp b o (aB5 (aE8 (aI2 e))) (keep b o e)
   exact ⟨κ,S,R,j,C,p,fun out n u=>⟨_,rfl,aI0 ⟨_,rfl,f out n u⟩⟩⟩
  ·exact ⟨_,rfl,aI0 ⟨_,rfl,r c⟩⟩
end
end TS
namespace L2
open PySem PySem.Spec PyProof.Rows
def toI:V->Int
 | .int i=>i
 | _=>0
def kH (H:Hp):V->List Int
 | .ref t=>match H t with
  | some (.tup xs)=>xs.map toI
  | _=>[]
 | _=>[]
theorem avg (ns:List Int):(ns.map V.int).map toI=ns:=by
 rw [aD5]
 have:(toI ∘ V.int)=id:=by funext i;rfl
 rw [this,List.map_id]
theorem ao8 {H:Hp} {t:Addr} {ns:List Int} (h:H t=some (.tup (ns.map V.int))):kH H (.ref t)=ns:=by
 simp only [kH,h];exact avg ns
def TupI (H:Hp) (v:V):Prop:=∃ t ns,v=.ref t/\H t=some (.tup (ns.map V.int))/\ns ≠ []
def agq:Value->V
 | .ref a => .ref a
 | _ => .non
theorem aj6:∀ {us:List Value},(∀ u∈us,∃ a,u=.ref a)->Vals (us.map agq) us
 | [],_ => .nil
 | u :: us,h=>by
  obtain ⟨a,e⟩:=h u aB7
  subst e
  exact .cons rfl (aj6 fun v b=>h v (aB4 _ b))
theorem aj7 {H:Hp}:∀ {vs:List V} {us:List Value},Vals vs us->(∀ v∈vs,TupI H v)->(∀ u∈us,∃ a,u=.ref a)/\us.map agq=vs
 | _,_,.nil,_=>⟨fun u g=>(by cases g),rfl⟩
 | v :: vs,u :: us,.cons r t,h=>by
  obtain ⟨a,ns,rfl,_,_⟩:=h v aB7
  cases r
  obtain ⟨f,d⟩:=aj7 t fun v c=>h v (aB4 _ c)
  refine ⟨fun x b=>?_,by rw [aD0,d];rfl⟩
  rcases aA8.mp b with rfl | b
  ·exact ⟨_,rfl⟩
  ·exact f x b
section
variable {X:Cx}
def ail (K:Frag):List V->Hp->VK->Prop:=fun xs H Q=>∃ (a:Addr) (vs:List V),xs=[.ref a]/\SqL K H a vs/\(∀ v∈vs,TupI H v) /\
 ∀ (vs':List V) (p:Addr),vs'.Perm vs->vs'.Pairwise (fun x y=>HT.lexLt (kH H y) (kH H x)=false)->H p=none->Q (.ref p) (upd H p (.lst vs'))
theorem amg {H:Hp} {pins:List (Addr × Obj)} {σ:St} {s:Shared} (I:Inv X pins σ H s) {h':Heap} (kp:∀ b o,s.heap.get? b=some o->h'.get? b=some o):∀ {vs:List V} {us:List Value},Vals vs us->(∀ v∈vs,TupI H v) ->
  (∃ fs,PySem.W.KatTups h' us fs/\fs.length=us.length/\∀ f∈fs,∃ i t,f=.int i t)/\∀ u∈us,∃ a,u=.ref a/\TS.TI h' a (kH H (.ref a))
 | _,_,.nil,_=>⟨⟨[],trivial,rfl,fun f hf=>by cases hf⟩,fun u F=>by cases F⟩
 | v :: vs,u :: us,.cons r t,h=>by
  obtain ⟨a,ns,rfl,e,l⟩:=h v aB7
  cases r
  obtain ⟨⟨fs,D,y,E⟩,q⟩:=amg I kp t fun v C=>h v (aB4 _ C)
  obtain ⟨_,its,A,o,p,e2,n,m⟩:=(show ObjOk X.prog X.w H s.heap a (.tup (ns.map V.int)) from I.hok a _ e)
  have hi:IntsAre its ns:=by simpa using (adx A:IntsAre its.toArray.toList ns)
  have z:TS.TI h' a (kH H (.ref a)):=⟨o,its.toArray,n,kp _ _ p,e2,m,by rw [ao8 e];simpa using hi⟩
  obtain ⟨f,hf,i,c,B⟩:∃ f,its.toArray[0]?=some f/\∃ i t,f=.int i t:=by
   cases hi with
   | nil=>exact absurd rfl l
   | cons i c _=>exact ⟨_,by simp,i,c,rfl⟩
  refine ⟨⟨f :: fs,PySem.W.KatTups.cons (kp _ _ p) e2 m hf D,by simp [y],fun g d=>?_⟩,fun x j=>?_⟩
  ·rcases aA8.mp d with rfl | d
   ·exact ⟨i,c,B⟩
   ·exact E g d
  ·rcases aA8.mp j with rfl | j
   ·exact ⟨a,rfl,z⟩
   ·exact q x j
theorem asj {α:Type} {R : α->α->Prop}:∀ {l:List α},l.length < 2->l.Pairwise R
 | [],_=>List.Pairwise.nil
 | [_],_=>List.pairwise_singleton _ _
 | _ :: _ :: _,h=>absurd h (by simp)
theorem ao9:abk X (.builtin "sorted") (ail X.K):=by
 intro pins s σ H xs us Q I r h
 obtain ⟨a,vs,rfl,ha,w,q⟩:=h
 obtain ⟨u,rfl,O⟩:=ac0 r
 cases O
 obtain ⟨its,p,M,L⟩:=I.list ha
 obtain ⟨j,E⟩:=aj7 p w
 have c:its.length<=sizeLine:=by rw [← p.length];exact L
 have f:H (s.heap.objs.size+1)=none:=I.hok.fresh (Nat.le_succ _)
 have fin:∀ out:List Value,out.Perm its->(out.map agq).Pairwise (fun x y=>HT.lexLt (kH H y) (kH H x)=false)->EP X pins σ Q (.ref (s.heap.objs.size+1)) { s with heap:=sortedAll s.heap its out.toArray }:=by
  intro out d m
  obtain ⟨e,D⟩:=sortedAll_at s.heap its out.toArray
  have g:Vals (out.map agq) out:=aj6 fun u R=>j u (d.mem_iff.mp R)
  refine ⟨.ref (s.heap.objs.size+1),_,I.laid (t':=s.toks) (o:=.lst (out.map agq)) (fun b ob q=>sortedAll_old q) (Nat.le_succ _) ?_,rfl,q _ _ ?_ m f⟩
  ·refine ⟨by rw [aA3,d.length_eq];exact c,out,e,g,by rw [D]⟩
  ·rw [← E];exact d.map agq
 refine TS.sorted_any M.isList c (fun z h' kp=>?_) fun n=>?_
 ·obtain ⟨⟨fs,N,Z,P⟩,A⟩:=amg I kp p w
  have l:(Value.type "int" != Value.type "tuple")=true:=by rfl
  refine ⟨tuples' true,TS.tS h' (fun a=>kH H (.ref a)),TS.tR (fun a=>kH H (.ref a)),fun Y B=>?_,TS.cmp_tups (s:={ s with heap:=h' }) (fun a=>kH H (.ref a)),fun v g=>?_,fun out d m=>fin out d ?_⟩
  ·refine PySem.W.kat_kind (T:=.type "int") (s:={ s with heap:=h' }) N (by omega) (fun v g=>?_) (by rfl) ?_
   ·obtain ⟨i,t,rfl⟩:=P v g
    exact .now
   ·rw [l];exact B
  ·obtain ⟨a,e,C⟩:=A v g
   exact ⟨rfl,a,e,C⟩
  ·rw [aF1]
   refine aH0 ?_ m
   intro x y F J G
   obtain ⟨U,rfl⟩:=j x (d.mem_iff.mp F)
   obtain ⟨S,rfl⟩:=j y (d.mem_iff.mp J)
   exact G
 ·refine fin its (List.Perm.refl _) ?_
  exact asj (by rw [aA3];exact n)
end
end L2
namespace HT
open PySem PySem.Spec PyProof.Rows L2
section
variable {prog:Program} {w:World} {A:Around} {kw:List (Str × Value)} {R:Result->Shared->Prop} {I S:Addr} {fp wr:List Addr} {n:Nat} {P:Nat->Value->Prop} {St:Nat->Heap->Prop} {Hd:Heap->Prop}
end
section
variable {prog:Program} {w:World} {A:Around} {E:Value->Shared->Prop} {s:Shared}
end
end HT
namespace L2
open PySem PySem.Spec PyProof.Rows
section
variable {X:Cx} {x:Str} {p pos kpos:Pos} {e en:Expr} {t:TA}
end
end L2
namespace HT
open PySem PySem.Spec PyProof.Rows
section
variable {prog:Program} {w:World} {A:Around} {E:Value->Shared->Prop} {s:Shared}
theorem aqo (a b c:Value):argsOk "min" ⟨[a,b,c],[]⟩:=by unfold argsOk;kernel_rfl
theorem call_min_three {a b c:Value} {Q:Value->Shared->Prop}
  (h:wpAny (model prog w) A.in1 (pyIter (.ref s.heap.objs.size)) (fun it d=>∃ I fp m n P St j,it=.ref I/\Walks prog w A.in1 I fp m n P St/\St 0 d.heap/\(∀ b∈fp,b < d.heap.objs.size)/\0 < n/\CmpOf prog w A.in1 .Lt P j /\
   ∀ v h' l,P (argBest j (n - 1)) v->(∀ b o,b ∉ m->d.heap.get? b=some o->h'.get? b=some o)->Q v { d with heap:=h',toks:=l }) E
   { s with heap:=s.heap.push { cls:=.type "tuple",data:=.seq #[a,b,c] } }) :
  wpAny (model prog w) A (call (.builtin "min") [a,b,c]) Q E s:=by
 have f:(toString "min" ++ toString ".loop" : String) = "min.loop":=by decide
 refine call_function_tree F.kind_min F.plain_min F.entry_min (aqo _ _ _) ?_
 show wpAny _ A.in1 (Builtin.Builtins.bindParams "min" ["key","default"] 0 ⟨[],[]⟩ >>= _) _ _ s
 refine aH9 (wpAny_of_eq (show Builtin.Builtins.bindParams "min" ["key","default"] 0 ⟨[],[]⟩=pure [none,none] from rfl) ?_)
 show wpAny _ A.in1 (newTuple [a,b,c] >>= _) _ _ s
 refine aH9 (aI7 ?_)
 refine aH9 (aI6 h (fun it d i=>?_) fun _ _ e=>e)
 obtain ⟨I,fp,m,n,P,St,j,rfl,W,p,r,hn,g,y⟩:=i
 refine aH9 (aI7 ?_)
 have u:d.heap.objs.size ∉ fp:=fun hm=>aF4 _ (r _ hm)
 rw [f]
 refine aI0 ⟨plainId_quiet F.plain_min_loop _,codeAny_min_loop_first W j g d.heap.objs.size u hn (W.frame _ _ _ p fun b _ o e=>aI1 _ e) (aI3 _ rfl) fun v h' l z x=>?_⟩
 exact y v h' l z fun b o q e=>x b o q (aB5 (aI2 e)) (aI1 _ e)
end
end HT
namespace L2
open PySem PySem.Spec PyProof.Rows
section
variable {X:Cx}
def auj:List V->Hp->VK->Prop:=fun xs H Q=>∃ i j k:Int,xs=[.int i,.int j,.int k]/\∀ m,ao6 [i,j,k] m->Q (.int m) H
theorem aqp (a:X.calm=true):abk X (.builtin "min") auj:=by
 intro pins s σ H xs us Q I r h
 obtain ⟨i,j,k,rfl,q⟩:=h
 cases r with
 | cons r1 r =>
  obtain ⟨u,v,rfl,n,l⟩:=aia r
  obtain ⟨t1,rfl⟩:=r1
  obtain ⟨c,rfl⟩:=n
  obtain ⟨d,rfl⟩:=l
  refine HT.call_min_three (HT.min_tup (us:=[.int i t1,.int j c,.int k d]) (ns:=[i,j,k]) (I.ok.hd a) ⟨_,aI3 _ rfl,rfl,0,rfl⟩ (.cons _ _ (.cons _ _ (.cons _ _ .nil))) (by simp) fun m t h' p g f kp=>?_)
  exact ⟨.int m,H,I.kept fun b o e=>kp b o (aI1 _ e),⟨_,rfl⟩,q m ⟨g,f⟩⟩
end
end L2
namespace VL
open PySem PySem.Spec L2
def kD:Key->PyData
 | .inl i => .int i
 | .inr x => .str x
mutual
inductive Rp (G:Hp):V->PyData->Prop
 | non:Rp G .non .none
 | bl (b:Bool):Rp G (.bl b) (.bool b)
 | int (i:Int):Rp G (.int i) (.int i)
 | str (x:Str):Rp G (.str x) (.str x)
 | lst {a:Addr} {xs:List V} {ds:List PyData}:G a=some (.lst xs)->Rps G xs ds->Rp G (.ref a) (.list ds)
 | tup {a:Addr} {xs:List V} {ds:List PyData}:G a=some (.tup xs)->Rps G xs ds->Rp G (.ref a) (.tuple ds)
 | dk {a:Addr} {kvs:List (Key × V)} {es:List (Key × PyData)} {ds:List (PyData × PyData)}:G a=some (.dK kvs)->RpK G kvs es->ds=es.map (fun p=>(kD p.1,p.2))->Rp G (.ref a) (.dict ds)
 | dt {a:Addr} {kvs:List (List Key × V)} {es:List (List Key × PyData)} {ds:List (PyData × PyData)}:G a=some (.dT kvs)->RpT G kvs es->ds=es.map (fun p=>(.tuple (p.1.map kD),p.2))->Rp G (.ref a) (.dict ds)
inductive Rps (G:Hp):List V->List PyData->Prop
 | nil:Rps G [] []
 | cons {v:V} {vs:List V} {d:PyData} {ds:List PyData}:Rp G v d->Rps G vs ds->Rps G (v :: vs) (d :: ds)
inductive RpK (G:Hp):List (Key × V)->List (Key × PyData)->Prop
 | nil:RpK G [] []
 | cons {k:Key} {v:V} {d:PyData} {r:List (Key × V)} {s:List (Key × PyData)}:Rp G v d->RpK G r s->RpK G ((k,v) :: r) ((k,d) :: s)
inductive RpT (G:Hp):List (List Key × V)->List (List Key × PyData)->Prop
 | nil:RpT G [] []
 | cons {k:List Key} {v:V} {d:PyData} {r:List (List Key × V)} {s:List (List Key × PyData)}:Rp G v d->RpT G r s->RpT G ((k,v) :: r) ((k,d) :: s)
end
mutual
theorem Rp.same {G G':Hp} (s:Same G G'):∀ {v:V} {d:PyData},Rp G v d->Rp G' v d
 | _,_,.non => .non
 | _,_,.bl b => .bl b
 | _,_,.int i => .int i
 | _,_,.str x => .str x
 | _,_,.lst h r => .lst (s _ _ h) (Rps.same s r)
 | _,_,.tup h r => .tup (s _ _ h) (Rps.same s r)
 | _,_,.dk h r e => .dk (s _ _ h) (RpK.same s r) e
 | _,_,.dt h r e => .dt (s _ _ h) (RpT.same s r) e
theorem Rps.same {G G':Hp} (s:Same G G'):∀ {vs:List V} {ds:List PyData},Rps G vs ds->Rps G' vs ds
 | _,_,.nil => .nil
 | _,_,.cons r t => .cons (Rp.same s r) (Rps.same s t)
theorem RpK.same {G G':Hp} (s:Same G G'):∀ {vs:List (Key × V)} {ds:List (Key × PyData)},RpK G vs ds->RpK G' vs ds
 | _,_,.nil => .nil
 | _,_,.cons r t => .cons (Rp.same s r) (RpK.same s t)
theorem RpT.same {G G':Hp} (s:Same G G'):∀ {vs:List (List Key × V)} {ds:List (List Key × PyData)},RpT G vs ds->RpT G' vs ds
 | _,_,.nil => .nil
 | _,_,.cons r t => .cons (Rp.same s r) (RpT.same s t)
end
theorem Rps.length {G:Hp}:∀ {vs:List V} {ds:List PyData},Rps G vs ds->vs.length=ds.length
 | _,_,.nil=>rfl
 | _,_,.cons _ t=>by simp [Rps.length t]
theorem Rps.get {G:Hp}:∀ {vs:List V} {ds:List PyData} {i:Nat} {d:PyData},Rps G vs ds->ds[i]?=some d->∃ v,vs[i]?=some v/\Rp G v d
 | _,_,_,_,.nil,e=>by simp at e
 | _,_,0,_,.cons r _,e=>by simp at e;subst e;exact ⟨_,rfl,r⟩
 | _,_,i+1,d,.cons _ t,e=>by
  obtain ⟨u,b,a⟩:=Rps.get (i:=i) (d:=d) t (by simpa using e)
  exact ⟨u,by simpa using b,a⟩
theorem Rps.getV {G:Hp}:∀ {vs:List V} {ds:List PyData} {i:Nat} {v:V},Rps G vs ds->vs[i]?=some v->∃ d,ds[i]?=some d/\Rp G v d
 | _,_,_,_,.nil,e=>by simp at e
 | _,_,0,_,.cons r _,e=>by simp at e;subst e;exact ⟨_,rfl,r⟩
 | _,_,i+1,d,.cons _ t,e=>by
  obtain ⟨u,b,a⟩:=Rps.getV (i:=i) (v:=d) t (by simpa using e)
  exact ⟨u,by simpa using b,a⟩
theorem Rps.append {G:Hp}:∀ {vs a:List V} {ds es:List PyData},Rps G vs ds->Rps G a es->Rps G (vs ++ a) (ds ++ es)
 | _,_,_,_,.nil,s=>s
 | _,_,_,_,.cons r t,s => .cons r (Rps.append t s)
theorem Rps.set {G:Hp} {v:V} {d:PyData} (h:Rp G v d):∀ {vs:List V} {ds:List PyData} (i:Nat),Rps G vs ds->Rps G (vs.set i v) (ds.set i d)
 | _,_,_,.nil => .nil
 | _,_,0,.cons _ t => .cons h t
 | _,_,i+1,.cons r t => .cons r (Rps.set h i t)
theorem Rps.erase {G:Hp}:∀ {vs:List V} {ds:List PyData} (i:Nat),Rps G vs ds->Rps G (vs.eraseIdx i) (ds.eraseIdx i)
 | _,_,_,.nil => .nil
 | _,_,0,.cons _ t=>t
 | _,_,i+1,.cons r t => .cons r (Rps.erase i t)
theorem Rps.take {G:Hp}:∀ {vs:List V} {ds:List PyData} (i:Nat),Rps G vs ds->Rps G (vs.take i) (ds.take i)
 | _,_,0,_ => .nil
 | _,_,_+1,.nil => .nil
 | _,_,i+1,.cons r t => .cons r (Rps.take i t)
theorem Rps.drop {G:Hp}:∀ {vs:List V} {ds:List PyData} (i:Nat),Rps G vs ds->Rps G (vs.drop i) (ds.drop i)
 | _,_,0,r=>r
 | _,_,_+1,.nil => .nil
 | _,_,i+1,.cons _ t=>Rps.drop i t
theorem Rps.rep {G:Hp} {vs:List V} {ds:List PyData} (h:Rps G vs ds):∀ (k:Nat),Rps G (List.replicate k vs).flatten (List.replicate k ds).flatten
 | 0 => .nil
 | k+1=>by
  rw [aG3,aG3,List.flatten_cons,List.flatten_cons]
  exact h.append (Rps.rep h k)
theorem Rps.ints {G:Hp}:∀ (ns:List Int),Rps G (ns.map V.int) (ns.map PyData.int)
 | [] => .nil
 | n :: ns => .cons (.int n) (Rps.ints ns)
theorem Rps.ints_inv {G:Hp}:∀ {ns:List Int} {vs:List V},Rps G vs (ns.map PyData.int)->vs=ns.map V.int
 | [],_,.nil=>rfl
 | n :: ns,_,.cons r t=>by
  cases r
  rw [Rps.ints_inv t];rfl
mutual
theorem Rp.rep {G:Hp}:∀ {v:V} {d:PyData},Rp G v d->aat d=true->Rep G v d
 | _,_,.non,_ => .non
 | _,_,.bl b,_ => .bl b
 | _,_,.int i,_ => .int i
 | _,_,.str x,_ => .str x
 | _,_,.lst h r,p => .lst h (Rps.reps r (by simpa [aat] using p))
 | _,_,.tup h r,p => .tup h (Rps.reps r (by simpa [aat] using p))
 | _,_,.dk h r e,p=>by simp [aat] at p
 | _,_,.dt h r e,p=>by simp [aat] at p
theorem Rps.reps {G:Hp}:∀ {vs:List V} {ds:List PyData},Rps G vs ds->plainDs ds=true->Reps G vs ds
 | _,_,.nil,_ => .nil
 | _,_,.cons r t,p=>by
  simp only [plainDs,aG1] at p
  exact .cons (Rp.rep r p.1) (Rps.reps t p.2)
end
structure Own where
 P:Hp->Hp->V->(Addr->Prop)->Prop
 mono:∀ {G H G' H':Hp} {v:V} {F:Addr->Prop},P G H v F->Same G G'->(∀ a o,F a->H a=some o->H' a=some o)->P G' H' v F
 dom:∀ {G H:Hp} {v:V} {F:Addr->Prop},P G H v F->∀ a,F a->∃ o,H a=some o
inductive Sl where
 | st (d:PyData) | own (A:Own) | io (A:Own) | scr (ns:List Int)
abbrev En:=List (Option Sl)
structure Bs where
 K:Frag
 G:Hp
 H:Hp
 R:Hp
 S:St
 F:Nat->Addr->Prop
def SlOk (B:Bs) (G H:Hp) (i:Nat) (v:V) (F:Addr->Prop):Sl->Prop
 | .st d=>Rp G v d/\∀ a,¬ F a
 | .own A=>A.P G H v F/\∀ a,F a->B.H a=none
 | .io A=>A.P G H v F/\(∀ a,F a->B.F i a\/B.H a=none)/\B.S[i]?=some (some v)
 | .scr ns=>(∃ a,v=.ref a/\SqL B.K G a (ns.map V.int))/\∀ a,¬ F a
def FT (G H:Hp):Prop:=∀ (a:Addr) (ks:List Key),H a=some (.tup (ks.map kV))->G a=some (.tup (ks.map kV))
structure VI (B:Bs) (G H:Hp) (σ:St) (env:En) (F:Nat->Addr->Prop):Prop where
 gh:Same G H
 g0:Same B.G G
 gn:∀ a o,G a=some o->B.G a=some o\/B.H a=none
 rs:Same B.R H
 rb:Same B.R B.H
 bh:∀ a o,B.H a=some o->∃ o',H a=some o'
 fg:∀ i a,F i a->G a=none
 fr:∀ i a,F i a->B.R a=none
 fd:∀ i j a,F i a->F j a->i=j
 fo:∀ i a,F i a->∃ o,H a=some o
 sl:∀ i s,env[i]?=some (some s)->∃ v,σ[i]?=some (some v)/\SlOk B G H i v (F i) s
 ln : σ.length=env.length
 ft:FT G H
def RsOk (G H:Hp) (v:V) (F:Addr->Prop):Sl->Prop
 | .st d=>Rp G v d/\∀ a,¬ F a
 | .own A=>A.P G H v F
 | _=>False
structure RsX (B:Bs) (G H:Hp) (v:V) (Fv:Addr->Prop) (s:Sl) (F:Nat->Addr->Prop):Prop where
 ok:RsOk G H v Fv s
 fb:∀ a,Fv a->B.H a=none
 fg:∀ a,Fv a->G a=none
 fo:∀ a,Fv a->∃ o,H a=some o
 fd:∀ j a,Fv a->¬ F j a
structure Out (G H:Hp) (v:V) (G' H':Hp) (s:Sl) (Fv:Addr->Prop):Prop where
 gg:Same G G'
 gh:Same G' H'
 hh:Same H H'
 gn:∀ a o,G' a=some o->G a=some o\/H a=none
 fn:∀ a,Fv a->H a=none
 fg:∀ a,Fv a->G' a=none
 fo:∀ a,Fv a->∃ o,H' a=some o
 ok:RsOk G' H' v Fv s
 ft:FT G H->FT G' H'
theorem aim {α:Type} {o:Option α} (h:o ≠ none):∃ x,o=some x:=by
 cases o with
 | none=>exact absurd rfl h
 | some x=>exact ⟨x,rfl⟩
theorem SlOk.mono {B:Bs} {G H G' H':Hp} {i:Nat} {v:V} {F:Addr->Prop} {s:Sl} (h:SlOk B G H i v F s) (g:Same G G') (hh:∀ a o,F a->H a=some o->H' a=some o):SlOk B G' H' i v F s:=by
 cases s with
 | st d=>exact ⟨h.1.same g,h.2⟩
 | own A=>exact ⟨A.mono h.1 g hh,h.2⟩
 | io A=>exact ⟨A.mono h.1 g hh,h.2⟩
 | scr ns =>
  obtain ⟨⟨a,e,q⟩,n⟩:=h
  exact ⟨⟨a,e,g.seq q⟩,n⟩
section
variable {B:Bs} {G H G' H':Hp} {σ:St} {env:En} {F:Nat->Addr->Prop} {v:V} {s:Sl} {Fv:Addr->Prop}
theorem VI.no_r (I:VI B G H σ env F) {a:Addr} (h:H a=none):B.R a=none:=by
 cases e:B.R a with
 | none=>rfl
 | some o=>rw [I.rs a o e] at h;cases h
theorem VI.no_b (I:VI B G H σ env F) {a:Addr} (h:H a=none):B.H a=none:=by
 cases e:B.H a with
 | none=>rfl
 | some o=>obtain ⟨o',b⟩:=I.bh a o e;rw [b] at h;cases h
theorem VI.no_g (I:VI B G H σ env F) {a:Addr} (h:H a=none):G a=none:=by
 cases e:G a with
 | none=>rfl
 | some o=>rw [I.gh a o e] at h;cases h
theorem VI.no_f (I:VI B G H σ env F) {a:Addr} (h:H a=none) (i:Nat):¬ F i a:=fun z=>by
 obtain ⟨o,e⟩:=I.fo i a z;rw [e] at h;cases h
theorem VI.grow (I:VI B G H σ env F) (gg:Same G G') (gh:Same G' H') (hh:Same H H') (gn:∀ a o,G' a=some o->G a=some o\/H a=none) (ft:FT G' H'):VI B G' H' σ env F where
 gh:=gh
 g0:=I.g0.trans gg
 gn:=fun a o e=>by
  rcases gn a o e with e | e
  ·exact I.gn a o e
  ·exact .inr (I.no_b e)
 rs:=I.rs.trans hh
 rb:=I.rb
 bh:=fun a o e=>by obtain ⟨o',b⟩:=I.bh a o e;exact ⟨o',hh _ _ b⟩
 fg:=fun i a z=>by
  cases e:G' a with
  | none=>rfl
  | some o =>
   rcases gn a o e with e | e
   ·rw [I.fg i a z] at e;cases e
   ·exact absurd z (I.no_f e i)
 fr:=I.fr
 fd:=I.fd
 fo:=fun i a z=>by obtain ⟨o,e⟩:=I.fo i a z;exact ⟨o,hh _ _ e⟩
 sl:=fun i s e=>by
  obtain ⟨v,c,e2⟩:=I.sl i s e
  exact ⟨v,c,e2.mono gg fun a o _ q=>hh _ _ q⟩
 ln:=I.ln
 ft:=ft
theorem VI.out (I:VI B G H σ env F) (o:Out G H v G' H' s Fv):VI B G' H' σ env F/\RsX B G' H' v Fv s F :=
 ⟨I.grow o.gg o.gh o.hh o.gn (o.ft I.ft),o.ok,fun a z=>I.no_b (o.fn a z),o.fg,o.fo,fun j a z y=>I.no_f (o.fn a z) j y⟩
theorem VI.b_r (I:VI B G H σ env F) {a:Addr} (h:B.H a=none):B.R a=none:=by
 cases e:B.R a with
 | none=>rfl
 | some o=>rw [I.rb a o e] at h;cases h
def putF (F:Nat->Addr->Prop) (i:Nat) (Fv:Addr->Prop):Nat->Addr->Prop:=fun j a=>if j=i then Fv a else F j a
theorem putF_same {i:Nat} {a:Addr}:putF F i Fv i a ↔ Fv a:=by unfold putF;rw [aE5 rfl]
theorem afc {i:Nat}:putF F i Fv i=Fv:=by funext a;unfold putF;rw [aE5 rfl]
theorem aba {i j:Nat} (h:j ≠ i):putF F i Fv j=F j:=by funext a;unfold putF;rw [aE6 h]
theorem VI.slot (I:VI B G H σ env F) (i:Nat) (o:Option V) (os:Option Sl) (fg:∀ a,Fv a->G a=none) (fr:∀ a,Fv a->B.R a=none) (fo:∀ a,Fv a->∃ o,H a=some o) (fd:∀ j a,j ≠ i->Fv a->¬ F j a)
  (ok:∀ s,os=some s->∃ v,o=some v/\SlOk B G H i v Fv s):VI B G H (σ.set i o) (env.set i os) (putF F i Fv) where
 gh:=I.gh
 g0:=I.g0
 gn:=I.gn
 rs:=I.rs
 rb:=I.rb
 bh:=I.bh
 fg:=fun j a z=>by
  by_cases h:j=i
  ·subst h;exact fg a (putF_same.mp z)
  ·rw [aba h] at z;exact I.fg j a z
 fr:=fun j a z=>by
  by_cases h:j=i
  ·subst h;exact fr a (putF_same.mp z)
  ·rw [aba h] at z;exact I.fr j a z
 fd:=fun j k a y z=>by
  by_cases h:j=i
  ·by_cases g:k=i
   ·rw [h,g]
   ·subst h;rw [aba g] at z;exact absurd z (fd k a g (putF_same.mp y))
  ·by_cases g:k=i
   ·subst g;rw [aba h] at y;exact absurd y (fd j a h (putF_same.mp z))
   ·rw [aba h] at y;rw [aba g] at z;exact I.fd j k a y z
 fo:=fun j a z=>by
  by_cases h:j=i
  ·subst h;exact fo a (putF_same.mp z)
  ·rw [aba h] at z;exact I.fo j a z
 sl:=fun j t e=>by
  by_cases h:j=i
  ·subst h
   rw [aD1,aE5 rfl] at e
   by_cases hl:j < env.length
   ·rw [aE5 hl] at e
    obtain ⟨v,b,q⟩:=ok t (aC5 e)
    refine ⟨v,by rw [aD1,aE5 rfl,aE5 (by rw [I.ln];exact hl),b],?_⟩
    rw [afc];exact q
   ·rw [aE6 hl] at e;cases e
  ·rw [aD1,aE6 (fun z=>h z.symm)] at e
   obtain ⟨v,b,q⟩:=I.sl j t e
   refine ⟨v,by rw [aD1,aE6 (fun z=>h z.symm)];exact b,?_⟩
   rw [aba h];exact q
 ln:=by simp [I.ln]
 ft:=I.ft
theorem VI.store (I:VI B G H σ env F) (r:RsX B G H v Fv s F) (i:Nat):VI B G H (σ.set i (some v)) (env.set i (some s)) (putF F i Fv):=by
 refine I.slot i (some v) (some s) r.fg (fun a z=>I.b_r (r.fb a z)) r.fo (fun j a _ z=>r.fd j a z) fun t e=>?_
 cases e
 refine ⟨v,rfl,?_⟩
 have:=r.ok
 cases s with
 | st d=>exact this
 | own A=>exact ⟨this,r.fb⟩
 | io A=>exact this.elim
 | scr ns=>exact this.elim
theorem VI.drop (I:VI B G H σ env F) (i:Nat):VI B G H σ (env.set i none) (putF F i fun _=>False):=by
 have:=I.slot (Fv:=fun _=>False) i ((σ[i]?).getD none) none (fun a z=>z.elim) (fun a z=>z.elim) (fun a z=>z.elim) (fun j a _ z=>z.elim) (fun s e=>by cases e)
 rwa [show σ.set i ((σ[i]?).getD none) = σ from ?_] at this
 apply aF2
 intro j
 rw [aD1]
 by_cases h:i=j
 ·subst h
  rw [aE5 rfl]
  by_cases hl:i < σ.length
  ·rw [aE5 hl,aA0 hl];rfl
  ·rw [aE6 hl,aE7.mpr (by omega)]
 ·rw [aE6 h]
theorem VI.change {A:Own} (I:VI B G H σ env F) (i:Nat) {H2:Hp} {F2:Addr->Prop} {os os':Sl} (e:env[i]?=some (some os)) (f : σ[i]?=some (some v))
  (keep:∀ a o,¬ F i a->H a=some o->H2 a=some o) (l:∀ a o,H a=some o->∃ o',H2 a=some o') (b:∀ a,F2 a->(F i a\/H a=none)/\∃ o,H2 a=some o) (g:A.P G H2 v F2) (p:FT G H2)
  (L:(os'=.own A/\∃ c,os=.own c)\/(os'=.io A/\∃ c,os=.io c)):VI B G H2 σ (env.set i (some os')) (putF F i F2):=by
 obtain ⟨O,d,q⟩:=I.sl i os e
 rw [f] at d;cases d
 have m:∀ j a,j ≠ i->F j a->¬ F i a:=fun j a hj y z=>hj (I.fd j i a y z)
 have M:∀ a,F2 a->G a=none:=fun a z=>by
  rcases (b a z).1 with y | y
  ·exact I.fg i a y
  ·exact I.no_g y
 have J:VI B G H2 σ (env.set i none) (putF F i fun _=>False):=by
  have D:=I.drop i
  refine ⟨fun a o x=>keep a o (fun z=>by rw [I.fg i a z] at x;cases x) (I.gh a o x),D.g0,D.gn,fun a o x=>keep a o (fun z=>by rw [I.fr i a z] at x;cases x) (I.rs a o x),D.rb,fun a o x=>?_,D.fg,D.fr,D.fd,fun j a z=>?_,fun j s x=>?_,D.ln,p⟩
  ·obtain ⟨o',E⟩:=I.bh a o x
   exact l a o' E
  ·obtain ⟨o,x⟩:=D.fo j a z
   exact l a o x
  ·obtain ⟨u,C,w⟩:=D.sl j s x
   refine ⟨u,C,w.mono (Same.refl G) fun a o z y=>?_⟩
   by_cases hj:j=i
   ·subst hj;exact (putF_same.mp z).elim
   ·rw [aba hj] at z
    exact keep a o (m j a hj z) y
 have n:=J.slot (Fv:=F2) i (some v) (some os') M (fun a z=>by
   rcases (b a z).1 with y | y
   ·exact I.fr i a y
   ·exact I.no_r y) (fun a z=>(b a z).2) (fun j a hj z y=>by
   rw [aba hj] at y
   rcases (b a z).1 with x | x
   ·exact m j a hj y x
   ·exact I.no_f x j y) fun t K=>by
   cases K
   refine ⟨v,rfl,?_⟩
   rcases L with ⟨rfl,c,rfl⟩ | ⟨rfl,c,rfl⟩
   ·refine ⟨g,fun a z=>?_⟩
    rcases (b a z).1 with y | y
    ·exact q.2 a y
    ·exact I.no_b y
   ·refine ⟨g,fun a z=>?_,q.2.2⟩
    rcases (b a z).1 with y | y
    ·exact q.2.1 a y
    ·exact .inr (I.no_b y)
 have N : σ.set i (some v) = σ:=by
  apply aF2
  intro j
  rw [aD1]
  by_cases h:i=j
  ·subst h
   rw [aE5 rfl,f,aE5 (aA1.mp f).1]
  ·rw [aE6 h]
 have e2:(env.set i none).set i (some os')=env.set i (some os'):=by simp
 have r:putF (putF F i fun _=>False) i F2=putF F i F2:=by
  funext j a
  by_cases h:j=i
  ·subst h;rw [afc,afc]
  ·rw [aba h,aba h,aba h]
 rw [N,e2,r] at n
 exact n
end
open Classical in
def jn (G H:Hp) (F:Addr->Prop):Hp:=fun a=>if F a then H a else G a
theorem aet {G H:Hp} {F:Addr->Prop} {a:Addr} (h:F a):jn G H F a=H a:=aE5 h
theorem ak8 {G H:Hp} {F:Addr->Prop} {a:Addr} (h:¬ F a):jn G H F a=G a:=aE6 h
theorem abd {G H:Hp} {F:Addr->Prop} (h:∀ a,F a->G a=none):Same G (jn G H F):=fun a o e=>by
 rw [ak8 (fun z=>by rw [h a z] at e;cases e)];exact e
theorem ain {G H:Hp} {F:Addr->Prop} (h:Same G H):Same (jn G H F) H:=fun a o e=>by
 by_cases z:F a
 ·rw [aet z] at e;exact e
 ·rw [ak8 z] at e;exact h a o e
def Frz (A:Own) (d:PyData):Prop:=∀ (G H:Hp) (v:V) (F:Addr->Prop),A.P G H v F->(∀ a,F a->G a=none)->Same G H->Rp (jn G H F) v d
def FQ:Sl->(PyData->Prop)->Prop
 | .st d,R=>R d
 | .own A,R=>∃ d,Frz A d/\R d
 | _,_=>False
def OL (ds:List PyData):Own where
 P:=fun G H v F=>∃ a vs,v=.ref a/\H a=some (.lst vs)/\Rps G vs ds/\∀ b,F b ↔ b=a
 mono:=fun ⟨a,vs,e,h,r,f⟩ g hh=>⟨a,vs,e,hh a _ ((f a).mpr rfl) h,r.same g,f⟩
 dom:=fun ⟨a,vs,e,h,r,f⟩ b z=>by rw [(f b).mp z];exact ⟨_,h⟩
def OD (es:List (Key × PyData)):Own where
 P:=fun G H v F=>∃ a kvs,v=.ref a/\H a=some (.dK kvs)/\RpK G kvs es/\∀ b,F b ↔ b=a
 mono:=fun ⟨a,vs,e,h,r,f⟩ g hh=>⟨a,vs,e,hh a _ ((f a).mpr rfl) h,r.same g,f⟩
 dom:=fun ⟨a,vs,e,h,r,f⟩ b z=>by rw [(f b).mp z];exact ⟨_,h⟩
def OT (es:List (List Key × PyData)):Own where
 P:=fun G H v F=>∃ a kvs,v=.ref a/\H a=some (.dT kvs)/\RpT G kvs es/\∀ b,F b ↔ b=a
 mono:=fun ⟨a,vs,e,h,r,f⟩ g hh=>⟨a,vs,e,hh a _ ((f a).mpr rfl) h,r.same g,f⟩
 dom:=fun ⟨a,vs,e,h,r,f⟩ b z=>by rw [(f b).mp z];exact ⟨_,h⟩
theorem adc {ds:List PyData}:Frz (OL ds) (.list ds):=fun G H v F ⟨a,vs,e,h,r,f⟩ n g=>by
 subst e
 exact .lst (by rw [aet ((f a).mpr rfl)];exact h) (r.same (abd n))
theorem aqq {es:List (Key × PyData)}:Frz (OD es) (.dict (es.map fun p=>(kD p.1,p.2))):=fun G H v F ⟨a,vs,e,h,r,f⟩ n g=>by
 subst e
 exact .dk (by rw [aet ((f a).mpr rfl)];exact h) (r.same (abd n)) rfl
theorem agr {d:PyData} {R:PyData->Prop} (h:R d):FQ (.st d) R:=h
theorem acq {ds:List PyData} {R:PyData->Prop} (h:R (.list ds)):FQ (.own (OL ds)) R:=⟨_,adc,h⟩
section
variable {B:Bs} {G H G' H':Hp} {σ:St} {env:En} {F:Nat->Addr->Prop} {v:V} {s:Sl} {Fv:Addr->Prop}
theorem VI.freeze (I:VI B G H σ env F) (fb:∀ a,Fv a->B.H a=none) (fd:∀ j a,Fv a->¬ F j a) (fg:∀ a,Fv a->G a=none):VI B (jn G H Fv) H σ env F where
 gh:=ain I.gh
 g0:=I.g0.trans (abd fg)
 gn:=fun a o e=>by
  by_cases z:Fv a
  ·exact .inr (fb a z)
  ·rw [ak8 z] at e;exact I.gn a o e
 rs:=I.rs
 rb:=I.rb
 bh:=I.bh
 fg:=fun i a z=>by
  rw [ak8 (fun y=>fd i a y z)];exact I.fg i a z
 fr:=I.fr
 fd:=I.fd
 fo:=I.fo
 sl:=fun i s e=>by
  obtain ⟨v,b,e2⟩:=I.sl i s e
  exact ⟨v,b,e2.mono (abd fg) fun a o _ q=>q⟩
 ln:=I.ln
 ft:=fun a ks e=>abd fg _ _ (I.ft a ks e)
theorem VI.frz {A:Own} {d:PyData} {i:Nat} (I:VI B G H σ env F) (e:env[i]?=some (some (.own A))) (f:Frz A d) :
  ∃ v,σ[i]?=some (some v)/\Rp (jn G H (F i)) v d/\Same G (jn G H (F i))/\VI B (jn G H (F i)) H σ (env.set i (some (.st d))) (putF F i fun _=>False):=by
 obtain ⟨v,b,q⟩:=I.sl i _ e
 have c:=f G H v (F i) q.1 (I.fg i) I.gh
 refine ⟨v,b,c,abd (I.fg i),?_⟩
 have D:=(I.drop i).freeze (Fv:=F i) q.2 (fun j a z y=>by
  by_cases h:j=i
  ·subst h;exact (putF_same.mp y).elim
  ·rw [aba h] at y;exact h (I.fd j i a y z)) (I.fg i)
 have J:=D.slot (Fv:=fun _=>False) i (some v) (some (.st d)) (fun a z=>z.elim) (fun a z=>z.elim) (fun a z=>z.elim) (fun j a _ z=>z.elim) (fun t l=>by cases l;exact ⟨v,rfl,c,fun a z=>z⟩)
 have m : σ.set i (some v) = σ:=by
  apply aF2
  intro j
  rw [aD1]
  by_cases h:i=j
  ·subst h
   rw [aE5 rfl,b,aE5 (aA1.mp b).1]
  ·rw [aE6 h]
 have g:putF (putF F i fun _=>False) i (fun _=>False)=putF F i fun _=>False:=by
  funext j a
  by_cases h:j=i
  ·subst h;rw [afc,afc]
  ·rw [aba h,aba h]
 rw [m,g,List.set_set] at J
 exact J
theorem Out.refl {d:PyData} (g:Same G H) (r:Rp G v d):Out G H v G H (.st d) (fun _=>False):=⟨Same.refl _,g,Same.refl _,fun a o e => .inl e,fun a z=>z.elim,fun a z=>z.elim,fun a z=>z.elim,⟨r,fun a z=>z⟩,fun t=>t⟩
theorem avh {p:Addr} {o:HO} (g:Same G H) (h:H p=none):Same (upd G p o) (upd H p o):=fun a u e=>by
 by_cases z:a=p
 ·subst z;rw [aah] at e ⊢;exact e
 ·rw [aae z] at e ⊢;exact g a u e
theorem abe {p:Addr} (g:Same G H) (h:H p=none):G p=none:=by
 cases e:G p with
 | none=>rfl
 | some o=>rw [g p o e] at h;cases h
theorem Out.newT {p:Addr} {xs:List V} {ds:List PyData} (g:Same G H) (h:H p=none) (r:Rps G xs ds):Out G H (.ref p) (upd G p (.tup xs)) (upd H p (.tup xs)) (.st (.tuple ds)) (fun _=>False) where
 gg:=ab3 (abe g h)
 gh:=avh g h
 hh:=ab3 h
 gn:=fun a o e=>by
  by_cases z:a=p
  ·subst z;exact .inr h
  ·rw [aae z] at e;exact .inl e
 fn:=fun a z=>z.elim
 fg:=fun a z=>z.elim
 fo:=fun a z=>z.elim
 ok:=⟨.tup aah (r.same (ab3 (abe g h))),fun a z=>z⟩
 ft:=fun t a ks e=>by
  by_cases z:a=p
  ·subst z;rw [aah] at e ⊢;exact e
  ·rw [aae z] at e ⊢;exact t a ks e
theorem Out.newO {p:Addr} {o:HO} {A:Own} (g:Same G H) (h:H p=none) (b:∀ xs,o ≠ .tup xs) (r:A.P G (upd H p o) (.ref p) (· = p)):Out G H (.ref p) G (upd H p o) (.own A) (· = p) where
 gg:=Same.refl _
 gh:=g.trans (ab3 h)
 hh:=ab3 h
 gn:=fun a o e => .inl e
 fn:=fun a z=>by rw [z];exact h
 fg:=fun a z=>by rw [z];exact abe g h
 fo:=fun a z=>by rw [z];exact ⟨_,aah⟩
 ok:=r
 ft:=fun t a ks e=>by
  by_cases z:a=p
  ·subst z;rw [aah] at e;exact absurd (aC5 e) (b _)
  ·rw [aae z] at e;exact t a ks e
theorem Out.newL {p:Addr} {xs:List V} {ds:List PyData} (g:Same G H) (h:H p=none) (r:Rps G xs ds):Out G H (.ref p) G (upd H p (.lst xs)) (.own (OL ds)) (· = p) :=
 .newO g h (fun _ z=>nomatch z) ⟨p,xs,rfl,aah,r,fun b=>Iff.rfl⟩
theorem Out.newD {p:Addr} {xs:List (Key × V)} {ds:List (Key × PyData)} (g:Same G H) (h:H p=none) (r:RpK G xs ds):Out G H (.ref p) G (upd H p (.dK xs)) (.own (OD ds)) (· = p) :=
 .newO g h (fun _ z=>nomatch z) ⟨p,xs,rfl,aah,r,fun b=>Iff.rfl⟩
theorem Out.newDT {p:Addr} {xs:List (List Key × V)} {ds:List (List Key × PyData)} (g:Same G H) (h:H p=none) (r:RpT G xs ds):Out G H (.ref p) G (upd H p (.dT xs)) (.own (OT ds)) (· = p) :=
 .newO g h (fun _ z=>nomatch z) ⟨p,xs,rfl,aah,r,fun b=>Iff.rfl⟩
end
def EvO (B:Bs) (te:TE) (env:En) (Q':Sl->En->Prop):Prop:=∀ (σ:St) (G H:Hp) (F:Nat->Addr->Prop) (Q:VK),VI B G H σ env F ->
 (∀ v G' H' F' Fv s env',VI B G' H' σ env' F'->Same G G'->RsX B G' H' v Fv s F'->Q' s env'->Q v H')->te σ H Q
def Ev (B:Bs) (te:TE) (env:En) (Q':PyData->En->Prop):Prop:=∀ (σ:St) (G H:Hp) (F:Nat->Addr->Prop) (Q:VK),VI B G H σ env F ->
 (∀ v G' H' F' d env',VI B G' H' σ env' F'->Same G G'->Rp G' v d->Q' d env'->Q v H')->te σ H Q
def EvT (B:Bs) (tt:TT) (env:En) (Q':Bool->En->Prop):Prop:=∀ (σ:St) (G H:Hp) (F:Nat->Addr->Prop) (Q:Bool->Hp->Prop),VI B G H σ env F ->
 (∀ b G' H' F' env',VI B G' H' σ env' F'->Same G G'->Q' b env'->Q b H')->tt σ H Q
def EvA (B:Bs) (ta:TA) (env:En) (Q':List PyData->En->Prop):Prop:=∀ (σ:St) (G H:Hp) (F:Nat->Addr->Prop) (Q:List V->Hp->Prop),VI B G H σ env F ->
 (∀ vs G' H' F' ds env',VI B G' H' σ env' F'->Same G G'->Rps G' vs ds->Q' ds env'->Q vs H')->ta σ H Q
structure ItOk (G:Hp) (J:It) (ds:List PyData):Prop where
 go:∀ i G' H',Same G G'->Same G' H'->i < ds.length->J.go i H'
 stop:∀ i G' H',Same G G'->Same G' H'->i=ds.length->J.stop i H'
 yld:∀ i G' H' x H'' d,Same G G'->Same G' H'->FT G' H'->ds[i]?=some d->J.yld i H' x H''->∃ G'',Out G' H' x G'' H'' (.st d) (fun _=>False)
def EvI (B:Bs) (ti:TI) (env:En) (Q':List PyData->En->Prop):Prop:=∀ (σ:St) (G H:Hp) (F:Nat->Addr->Prop) (R:It->Hp->Prop),VI B G H σ env F ->
 (∀ J G' H' F' ds env',VI B G' H' σ env' F'->Same G G'->ItOk G' J ds->Q' ds env'->R J H')->ti σ H R
def EvG (B:Bs) (g:TG) (s:Sl) (env:En) (Q':En->Prop):Prop:=∀ (σ:St) (G H:Hp) (F:Nat->Addr->Prop) (v:V) (Fv:Addr->Prop) (Q:St->Hp->Prop),VI B G H σ env F->RsX B G H v Fv s F ->
 (∀ σ' G' H' F' env',VI B G' H' σ' env' F'->Same G G'->Q' env'->Q σ' H')->g v σ H Q
def EvGs (B:Bs) (g:TGs) (ds:List PyData) (env:En) (Q':En->Prop):Prop:=∀ (σ:St) (G H:Hp) (F:Nat->Addr->Prop) (vs:List V) (Q:St->Hp->Prop),VI B G H σ env F->Rps G vs ds ->
 (∀ σ' G' H' F' env',VI B G' H' σ' env' F'->Same G G'->Q' env'->Q σ' H')->g vs σ H Q
structure VEnds where
 nx:En->Prop
 rt:Sl->En->Prop
 bk:En->Prop:=fun _=>False
 ct:En->Prop:=fun _=>False
structure RelE (B:Bs) (G:Hp) (D:Ends) (D':VEnds):Prop where
 nx:∀ σ G' H F env,VI B G' H σ env F->Same G G'->D'.nx env->D.nx σ H
 rt:∀ σ G' H F env v Fv s,VI B G' H σ env F->Same G G'->RsX B G' H v Fv s F->D'.rt s env->D.rt v H
 bk:∀ σ G' H F env,VI B G' H σ env F->Same G G'->D'.bk env->D.bk σ H
 ct:∀ σ G' H F env,VI B G' H σ env F->Same G G'->D'.ct env->D.ct σ H
def EvS (B:Bs) (ts:TS) (D':VEnds) (env:En):Prop:=∀ (σ:St) (G H:Hp) (F:Nat->Addr->Prop) (D:Ends),VI B G H σ env F->RelE B G D D'->ts D σ H
theorem RelE.later {B:Bs} {G G':Hp} {D:Ends} {D':VEnds} (r:RelE B G D D') (g:Same G G'):RelE B G' D D' :=
 ⟨fun σ a H F env I q=>r.nx σ a H F env I (g.trans q),fun σ a H F env v Fv s I q=>r.rt σ a H F env v Fv s I (g.trans q),fun σ a H F env I q=>r.bk σ a H F env I (g.trans q),fun σ a H F env I q=>r.ct σ a H F env I (g.trans q)⟩
section
variable {B:Bs} {env:En} {Q':PyData->En->Prop} {QO:Sl->En->Prop} {QT:Bool->En->Prop} {QA:List PyData->En->Prop} {te ta tb:TE}
theorem ade {G H:Hp} {v:V} {d:PyData} {F:Nat->Addr->Prop} (r:Rp G v d):RsX B G H v (fun _=>False) (.st d) F:=⟨⟨r,fun a z=>z⟩,fun a z=>z.elim,fun a z=>z.elim,fun a z=>z.elim,fun j a z=>z.elim⟩
theorem abl (h:Ev B te env fun d e=>QO (.st d) e):EvO B te env QO:=fun σ G H F Q I k =>
 h σ G H F Q I fun v G' H' F' d a b g r q=>k v G' H' F' _ (.st d) a b g (ade r) q
theorem ab8 (h:EvO B te env fun s e=>FQ s fun d=>Q' d e):Ev B te env Q':=fun σ G H F Q I k =>
 h σ G H F Q I fun v G' H' F' Fv s a b g r q=>by
  cases s with
  | st d=>exact k v G' H' F' d a b g r.ok.1 q
  | own A =>
   obtain ⟨d,f,q⟩:=q
   exact k v _ H' F' d a (b.freeze r.fb r.fd r.fg) (g.trans (abd r.fg)) (f G' H' v Fv r.ok r.fg b.gh) q
  | io A=>exact q.elim
  | scr ns=>exact q.elim
theorem ax2 {i:Nat} {d:PyData} (e:env[i]?=some (some (.st d))) (q:Q' d env):Ev B (tVar i) env Q':=fun σ G H F Q I k=>by
 obtain ⟨v,a,r⟩:=I.sl i _ e
 exact ⟨v,a,k v G H F d env I (Same.refl _) r.1 q⟩
theorem avi {i:Nat} {A:Own} {d:PyData} (e:env[i]?=some (some (.own A))) (f:Frz A d) (q:Q' d (env.set i (some (.st d)))):Ev B (tVar i) env Q':=fun σ G H F Q I k=>by
 obtain ⟨v,a,r,g,J⟩:=I.frz e f
 exact ⟨v,a,k v _ H _ d _ J g r q⟩
theorem asl {i:Nat} {A:Own} (e:env[i]?=some (some (.own A))) (q:QO (.own A) (env.set i none)):EvO B (tVar i) env QO:=fun σ G H F Q I k=>by
 obtain ⟨v,b,r⟩:=I.sl i _ e
 refine ⟨v,b,k v G H _ (F i) (.own A) _ (I.drop i) (Same.refl _) ⟨r.1,r.2,I.fg i,I.fo i,fun j a z y=>?_⟩ q⟩
 by_cases h:j=i
 ·subst h;exact putF_same.mp y
 ·rw [aba h] at y;exact h (I.fd j i a y z)
theorem ax3 {i:Int} (q:Q' (.int i) env):Ev B (tC (.int i)) env Q':=fun σ G H F Q I k=>k _ G H F _ env I (Same.refl _) (.int i) q
theorem azr {b:Bool} (q:Q' (.bool b) env):Ev B (tC (.bl b)) env Q':=fun σ G H F Q I k=>k _ G H F _ env I (Same.refl _) (.bl b) q
theorem ax4 (q:Q' .none env):Ev B (tC .non) env Q':=fun σ G H F Q I k=>k _ G H F _ env I (Same.refl _) .non q
def Op2 (r:R2) (x y:PyData) (R:Sl->Prop):Prop:=∀ (G H:Hp) (vx vy:V) (Q:VK),Same G H->Rp G vx x->Rp G vy y->(∀ v G' H' s Fv,Out G H v G' H' s Fv->R s->Q v H')->r vx vy H Q
def OpA (r:List V->Hp->VK->Prop) (ds:List PyData) (R:Sl->Prop):Prop:=∀ (G H:Hp) (vs:List V) (Q:VK),Same G H->Rps G vs ds->(∀ v G' H' s Fv,Out G H v G' H' s Fv->R s->Q v H')->r vs H Q
theorem amh {r:R2} (h:Ev B ta env fun x c=>Ev B tb c fun y e2=>Op2 r x y fun s=>QO s e2):EvO B (tOp r ta tb) env QO:=fun σ G H F Q I k =>
 h σ G H F _ I fun n f j d x c q g A l=>l σ f j d _ q fun p i H2 F2 y e2 a b w z =>
  z i H2 n p Q a.gh (A.same b) w fun v m H3 s Fv o u=>k v m H3 F2 Fv s e2 (a.out o).1 (g.trans (b.trans o.gg)) (a.out o).2 u
theorem azs {r:R2} (h:Ev B ta env fun x a=>Ev B tb a fun y e2=>Op2 r x y fun s=>FQ s fun d=>Q' d e2):Ev B (tOp r ta tb) env Q':=ab8 (amh h)
theorem avj (q:QA [] env):EvA B tNil env QA:=fun σ G H F Q I k=>k [] G H F [] env I (Same.refl _) .nil q
theorem asm {tr:TA} (h:Ev B ta env fun x b=>EvA B tr b fun xs e2=>QA (x :: xs) e2):EvA B (abt ta tr) env QA:=fun σ G H F Q I k =>
 h σ G H F _ I fun q d i c x b m f p j=>j σ d i c _ m fun vs g H2 F2 ds e2 l a n o=>k _ g H2 F2 _ e2 l (f.trans a) (.cons (p.same a) n) o
theorem aqr {r:List V->Hp->VK->Prop} {t:TA} (h:EvA B t env fun ds b=>OpA r ds fun s=>QO s b):EvO B (tCB r t) env QO:=fun σ G H F Q I k =>
 h σ G H F _ I fun vs d g c ds b a f m i=>i d g vs Q a.gh m fun v j H3 s Fv o l=>k v j H3 c Fv s b (a.out o).1 (f.trans o.gg) (a.out o).2 l
theorem auk {r:List V->Hp->VK->Prop} {t:TA} (h:EvA B t env fun ds a=>OpA r ds fun s=>FQ s fun d=>Q' d a):Ev B (tCB r t) env Q':=ab8 (aqr h)
theorem an7 {t:TA} (h:EvA B t env fun ds b=>ds.length<=1000/\QO (.st (.tuple ds)) b):EvO B (tTup t) env QO:=fun σ G H F Q I k =>
 h σ G H F _ I fun vs j l f ds b a g d c=>⟨by rw [d.length];exact aF5 (aeo c.1),fun p i=>by
  have o:=Out.newT a.gh i d
  exact k _ _ _ f _ _ b (a.out o).1 (g.trans o.gg) (a.out o).2 c.2⟩
theorem ax5 {t:TA} (h:EvA B t env fun ds a=>ds.length<=1000/\Q' (.tuple ds) a):Ev B (tTup t) env Q':=ab8 (an7 h)
theorem an8 {t:TA} (h:EvA B t env fun ds b=>ds.length<=1000/\QO (.own (OL ds)) b):EvO B (tLst t) env QO:=fun σ G H F Q I k =>
 h σ G H F _ I fun vs j l f ds b a g d c=>⟨by rw [d.length];exact aF5 (aeo c.1),fun p i=>by
  have o:=Out.newL a.gh i d
  exact k _ _ _ f _ _ b (a.out o).1 (g.trans o.gg) (a.out o).2 c.2⟩
theorem ax6 {t:TA} (h:EvA B t env fun ds a=>ds.length<=1000/\Q' (.list ds) a):Ev B (tLst t) env Q':=ab8 (an8 fun σ G H F Q I k=>h σ G H F Q I fun vs G' H' F' ds a b g r q=>k vs G' H' F' ds a b g r ⟨q.1,acq q.2⟩)
theorem aco (h:Ev B te env fun x a=>∃ b,x=.bool b/\QT b a):EvT B (auc te) env QT:=fun σ G H F Q I k =>
 h σ G H F _ I fun v d g c x a j f l i=>by
  obtain ⟨b,e,q⟩:=i
  subst e
  cases l
  exact ⟨b,rfl,k b d g c a j f q⟩
theorem afp (h:Ev B te env fun x a=>∃ b,x=.bool b/\QT b a):EvT B (tB te) env QT:=aco h
theorem x_bl {b:Bool} {R:Bool->Prop} (h:R b):∃ c,PyData.bool b=.bool c/\R c:=⟨b,rfl,h⟩
theorem avk {t u:TT} (h:EvT B t env fun c a=>if c=true then EvT B u a QT else QT false a):EvT B (tAnd t u) env QT:=fun σ G H F Q I k =>
 h σ G H F _ I fun b f i d a j g q=>by
  cases b with
  | true=>rw [aE5 rfl] at q ⊢;exact q σ f i d Q j fun c l H2 F2 e2 m n o=>k c l H2 F2 e2 m (g.trans n) o
  | false=>rw [aE6 aA9] at q ⊢;exact k false f i d a j g q
theorem ax7 {t u:TT} (h:EvT B t env fun c a=>if c=true then QT true a else EvT B u a QT):EvT B (tOr t u) env QT:=fun σ G H F Q I k =>
 h σ G H F _ I fun b f i d a j g q=>by
  cases b with
  | false=>rw [aE6 aA9] at q ⊢;exact q σ f i d Q j fun c l H2 F2 e2 m n o=>k c l H2 F2 e2 m (g.trans n) o
  | true=>rw [aE5 rfl] at q ⊢;exact k true f i d a j g q
theorem avl {t:TT} (h:EvT B t env fun c a=>QT (!c) a):EvT B (tNot t) env QT:=fun σ G H F Q I k =>
 h σ G H F _ I fun b f g d a i j q=>k (!b) f g d a i j q
theorem acj (q:QT true env):EvT B tYes env QT:=fun σ G H F Q I k=>k true G H F env I (Same.refl _) q
def TruD:PyData->Bool->Prop
 | .bool b,k=>k=b
 | .list ds,k=>k = !ds.isEmpty
 | _,_=>False
theorem avm {K:Frag} (h:Ev B te env fun x a=>∃ b,TruD x b/\QT b a):EvT B (tTru K te) env QT:=fun σ G H F Q I k =>
 h σ G H F _ I fun v g j f x a d i n m=>by
  obtain ⟨b,e,q⟩:=m
  cases n with
  | bl c=>cases e;exact ⟨_,rfl,k _ g j f a d i q⟩
  | lst ha rs =>
   refine ⟨b,.inl ⟨_,SqL.of (d.gh _ _ ha),?_⟩,k _ g j f a d i q⟩
   have l:b = !_:=e
   rw [l]
   cases rs <;> rfl
  | _=>exact e.elim
theorem avn (h:Ev B ta env fun x a=>∃ b,x=.bool b/\if b=true then Ev B tb a Q' else Q' (.bool false) a):Ev B (aoq ta tb) env Q':=fun σ G H F Q I k =>
 h σ G H F _ I fun v f i c x a j g s m=>by
  obtain ⟨b,e,q⟩:=m
  subst e
  cases s
  refine ⟨b,rfl,?_⟩
  cases b with
  | true=>rw [aE5 rfl] at q ⊢;exact q σ f i c Q j fun v l H2 F2 d e2 n o p r=>k v l H2 F2 d e2 n (g.trans o) p r
  | false=>rw [aE6 aA9] at q ⊢;exact k _ f i c _ a j g (.bl false) q
theorem avo (h:Ev B ta env fun x a=>∃ b,x=.bool b/\Q' (.bool (!b)) a):Ev B (aor ta) env Q':=fun σ G H F Q I k =>
 h σ G H F _ I fun v d g c x a j f l i=>by
  obtain ⟨b,e,q⟩:=i
  subst e
  cases l
  exact ⟨b,rfl,k _ d g c _ a j f (.bl _) q⟩
theorem asn {r D:R2} {R:TE} (h:Ev B ta env fun x L=>Ev B tb L fun y e2=>Op2 r x y fun s=>∃ b,s=.st (.bool b)/\if b=true then Ev B R e2 fun z e3=>Op2 D y z fun s'=>FQ s' fun d=>Q' d e3 else Q' (.bool false) e2):Ev B (alg r D ta tb R) env Q':=fun σ G H F Q I k =>
 h σ G H F _ I fun v1 U Y T x L I1 w r1 Z=>Z σ U Y T _ I1 fun P W H2 F2 y e2 E m S q2 =>
  q2 W H2 v1 P _ E.gh (r1.same m) S fun v C H3 s Fv o z_=>by
   obtain ⟨b,es,a⟩:=z_
   have p:=(E.out o).1
   have j:=o.ok
   subst es
   obtain ⟨j,_⟩:=j
   cases j
   refine ⟨b,rfl,?_⟩
   cases b with
   | false=>rw [aE6 aA9] at a ⊢;exact k _ C H3 F2 _ e2 p (w.trans (m.trans o.gg)) (.bl _) a
   | true =>
    rw [aE5 rfl] at a ⊢
    refine a σ C H3 F2 _ p fun v3 G4 H4 O z u K M r4 X=>X G4 H4 P v3 Q K.gh (S.same (o.gg.trans M)) r4 fun n N g s5 l i c=>?_
    have J:=K.out i
    have gg:=w.trans (m.trans (o.gg.trans (M.trans i.gg)))
    cases s5 with
    | st d=>exact k n N g O d u J.1 gg i.ok.1 c
    | own A =>
     obtain ⟨d,f,q⟩:=c
     exact k n _ g O d u (J.1.freeze J.2.fb J.2.fd J.2.fg) (gg.trans (abd J.2.fg)) (f N g n l J.2.ok J.2.fg J.1.gh) q
    | io A=>exact c.elim
    | scr ns=>exact c.elim
end
section
variable {B:Bs} {env:En} {D':VEnds} {t u tb:TS} {te:TE} {g:TG} {c:TT} {QE:En->Prop}
theorem avp (h:EvS B t { D' with nx:=fun e=>EvS B u D' e } env):EvS B (tSeq t u) D' env:=fun σ G H F D I r =>
 h σ G H F { D with nx:=u D } I ⟨fun σ G' H F env a g q=>q σ G' H F D a (r.later g),r.rt,r.bk,r.ct⟩
theorem aeh (h:D'.nx env):EvS B at6 D' env:=fun σ G H F D I r=>r.nx σ G H F env I (Same.refl _) h
theorem avq (h:EvO B te env fun s e=>EvG B g s e D'.nx):EvS B (tAsg te g) D' env:=fun σ G H F D I r =>
 h σ G H F _ I fun v c j b Fv s q n d i l=>l σ c j b v Fv D.nx n i fun a f H2 F2 e2 m o p=>r.nx a f H2 F2 e2 m (d.trans o) p
theorem aar {i:Nat} {s:Sl} (h:QE (env.set i (some s))):EvG B (aas i) s env QE:=fun σ G H F v Fv Q I x k=>k _ G H _ _ (I.store x i) (Same.refl _) h
theorem adj (h:QE env):EvGs B gNil [] env QE:=fun σ G H F vs Q I x k=>by cases x;exact ⟨rfl,k σ G H F env I (Same.refl _) h⟩
theorem abh {f:TGs} {d:PyData} {ds:List PyData} (h:EvG B g (.st d) env fun e=>EvGs B f ds e QE):EvGs B (aa8 g f) (d :: ds) env QE:=fun σ G H F vs Q I x k=>by
 cases x with
 | cons r rs =>
  refine ⟨_,_,rfl,h σ G H F _ _ _ I (ade r) fun a j m i u p c n=>n a j m i _ Q p (rs.same c) fun b l H2 F2 e2 o q s=>k b l H2 F2 e2 o (c.trans q) s⟩
theorem afd {K:Frag} {n:Nat} {a:TGs} {ds:List PyData} (b:ds.length=n) (h:EvGs B a ds env QE):EvG B (gTup K n a) (.st (.tuple ds)) env QE:=fun σ G H F v Fv Q I x k=>by
 obtain ⟨r,_⟩:=x.ok
 cases r with
 | tup ha rs=>exact ⟨_,_,rfl,SqT.of (I.gh _ _ ha),by rw [rs.length,b],h σ G H F _ Q I rs k⟩
theorem an9 (h:EvO B te env fun s e=>D'.rt s e):EvS B (tRet te) D' env:=fun σ G H F D I r =>
 h σ G H F _ I fun v b f a Fv s j i c d g=>r.rt σ b f a j v Fv s i c d g
theorem aso (h:EvO B te env fun _ e=>D'.nx e):EvS B (at7 te) D' env:=fun σ G H F D I r =>
 h σ G H F _ I fun v b d a Fv s i g c j f=>r.nx σ b d a i g c f
theorem ax8 (h:EvT B c env fun b e=>if b=true then EvS B t D' e else EvS B u D' e):EvS B (tIfS c t u) D' env:=fun σ G H F D I r =>
 h σ G H F _ I fun b d f a j g i q=>by
  cases b with
  | true=>rw [aE5 rfl] at q ⊢;exact q σ d f a D g (r.later i)
  | false=>rw [aE6 aA9] at q ⊢;exact q σ d f a D g (r.later i)
def ForV (B:Bs) (g:TG) (tb:TS) (D':VEnds) (ds:List PyData) (e1:En):Prop:=∃ J:Nat->En->Prop,J 0 e1/\(∀ i d e,ds[i]?=some d->J i e->EvG B g (.st d) e fun e2=>EvS B tb { D' with nx:=J (i+1),ct:=J (i+1),bk:=D'.nx } e2)/\∀ e,J ds.length e->D'.nx e
theorem avr {L:TI} (h:EvI B L env fun ds A=>ForV B g tb D' ds A):EvS B (tFor L g tb) D' env:=fun σ G H F D I r =>
 h σ G H F _ I fun J v H1 O ds A Z w it T=>by
  obtain ⟨E,S,js,R⟩:=T
  refine ⟨fun i m σ H=>m=ds.length - i/\i<=ds.length/\∃ c F2 e2,VI B c H σ e2 F2/\Same v c/\E i e2,⟨ds.length,by simp,aF0 _,v,O,A,Z,Same.refl _,S⟩,?_⟩
  rintro i m σ H ⟨rfl,hi,c,F2,e2,n,q,M⟩
  by_cases hlt:i < ds.length
  ·refine .inr ⟨it.go i c H q n.gh hlt,fun σ H=>∃ s F3 N,VI B s H σ N F3/\Same v s/\E (i+1) N,fun P H' h'=>⟨ds.length - (i+1),by omega,rfl,hlt,h'⟩,fun x H' y=>?_⟩
   obtain ⟨s,o⟩:=it.yld i c H x H' _ q n.gh n.ft (aA0 hlt) y
   have K:=n.out o
   refine js i _ e2 (aA0 hlt) M σ s H' F2 x _ _ K.1 K.2 fun z G4 U Y e4 W X Q=>?_
   have gg:=q.trans (o.gg.trans X)
   refine Q z G4 U Y _ W ⟨fun a f p l j d b u=>⟨f,l,j,d,gg.trans b,u⟩,fun a f p l j v5 C s5 d b=>r.rt a f p l j v5 C s5 d (w.trans (gg.trans b)),fun a f p l j d b=>r.nx a f p l j d (w.trans (gg.trans b)),fun a f p l j d b u=>⟨f,l,j,d,gg.trans b,u⟩⟩
  ·have e:i=ds.length:=by omega
   subst e
   exact .inl ⟨it.stop _ c H q n.gh rfl,r.nx σ c H F2 e2 n (w.trans q) (R e2 M)⟩
theorem af9 (J:Nat->En->Prop) (w:∃ m,J m env) (h:∀ m e,J m e->EvT B c e fun b A=>if b=true then EvS B tb { D' with nx:=fun e2=>∃ d,d < m/\J d e2,ct:=fun e2=>∃ d,d < m/\J d e2,bk:=D'.nx } A else D'.nx A):EvS B (apw c tb) D' env:=fun σ G H F D I r=>by
 obtain ⟨E,w⟩:=w
 refine ⟨fun m σ H=>∃ p F2 e2,VI B p H σ e2 F2/\Same G p/\J m e2,⟨E,G,F,env,I,Same.refl _,w⟩,?_⟩
 rintro m σ H ⟨p,F2,e2,L,R,M⟩
 refine h m e2 M σ p H F2 _ L fun b z H3 C N y Q q=>?_
 have gg:=R.trans Q
 cases b with
 | false=>rw [aE6 aA9] at q ⊢;exact r.nx σ z H3 C N y gg q
 | true =>
  rw [aE5 rfl] at q ⊢
  refine ⟨fun σ H=>∃ s v o,VI B s H σ o v/\Same G s/\∃ d,d < m/\J d o,fun K H' ⟨s,v,o,O,P,d,hm,T⟩=>⟨d,hm,s,v,o,O,P,T⟩,?_⟩
  exact q σ z H3 C _ y ⟨fun a i n l j g f u=>⟨i,l,j,g,gg.trans f,u⟩,fun a i n l j U x S g f=>r.rt a i n l j U x S g (gg.trans f),fun a i n l j g f=>r.nx a i n l j g (gg.trans f),fun a i n l j g f u=>⟨i,l,j,g,gg.trans f,u⟩⟩
variable {QI:List PyData->En->Prop}
theorem asp {K:Frag} (h:Ev B te env fun d e=>∃ ds,d=.list ds/\QI ds e):EvI B (aou K te) env QI:=fun σ G H F R I k =>
 h σ G H F _ I fun v f l c d o b j s n=>by
  obtain ⟨ds,p,m⟩:=n
  subst p
  cases s with
  | @lst a vs ds ha rs =>
   refine ⟨a,rfl,⟨vs,SqL.of (b.gh _ _ ha)⟩,k _ f l c ds o b j ⟨fun i G' H' g h hi=>?_,fun i G' H' g h hi=>?_,fun i G' H' x H'' d g h ft hd y=>?_⟩ m⟩
   ·have:i < vs.length:=by rw [rs.length];exact hi
    exact ⟨vs,vs[i],SqL.of (h _ _ (g _ _ ha)),aA0 this⟩
   ·exact ⟨vs,SqL.of (h _ _ (g _ _ ha)),by rw [rs.length];exact Nat.le_of_eq hi.symm⟩
   ·obtain ⟨e,y⟩:=y
    subst e
    obtain ⟨v,r,q⟩:=rs.get hd
    have:=y vs (SqL.of (h _ _ (g _ _ ha)))
    rw [r] at this
    cases this
    exact ⟨G',Out.refl h (q.same g)⟩
theorem ax9 {ds:List PyData} {R:List PyData->Prop} (h:R ds):∃ xs,PyData.list ds=.list xs/\R xs:=⟨ds,rfl,h⟩
def rngD (lo:Int) (n:Nat):List PyData:=(List.range n).map fun (i:Nat) => .int (lo+(i:Int))
theorem ab0 {lo:Int} {n:Nat}:(rngD lo n).length=n:=by simp [rngD]
theorem ahn {lo:Int} {n i:Nat} {d:PyData} (h:(rngD lo n)[i]?=some d):i < n/\d=.int (lo+(i:Int)):=by
 unfold rngD at h
 rw [aA5] at h
 have hi:i < n:=by
  have:=(aA1 (l:=(List.range n).map fun (i:Nat)=>PyData.int (lo+(i:Int)))).mp (by rw [aA5];exact h)
  obtain ⟨q,_⟩:=this
  simpa using q
 rw [aA0 (by simpa using hi)] at h
 simp at h
 exact ⟨hi,h.symm⟩
theorem aqs {G:Hp} {lo:Int} {n:Nat}:ItOk G (Itr lo n) (rngD lo n):=by
 refine ⟨fun i G' H' g h hi=>?_,fun i G' H' g h hi=>?_,fun i G' H' x H'' d g h ft hd y=>?_⟩
 ·rw [ab0] at hi;exact hi
 ·rw [ab0] at hi;exact Nat.le_of_eq hi.symm
 ·obtain ⟨e,y⟩:=y
  subst e y
  rw [(ahn hd).2]
  exact ⟨G',Out.refl h (.int _)⟩
def ak9 (ds:List PyData) (R:List PyData->Prop):Prop:=∃ j:Int,ds=[.int j]/\-(2 ^ 62)<=j/\j < 2 ^ 62/\R (rngD 0 j.toNat)
def ala (ds:List PyData) (R:List PyData->Prop):Prop:=∃ i j:Int,ds=[.int i,.int j]/\(-(2 ^ 62)<=i/\i < 2 ^ 62/\-(2 ^ 62)<=j/\j < 2 ^ 62)/\R (rngD i (j - i).toNat)
theorem asq {a:TA} (h:EvA B a env fun ds e=>ak9 ds fun xs=>QI xs e):EvI B (at8 a) env QI:=fun σ G H F R I k =>
 h σ G H F _ I fun vs c g b ds p o f q l=>by
  obtain ⟨j,n,d,m,i⟩:=l
  subst n
  obtain rfl:vs=[V.int j]:=Rps.ints_inv (ns:=[j]) q
  exact ⟨j,rfl,d,m,k _ c g b _ p o f aqs i⟩
theorem asr {a:TA} (h:EvA B a env fun ds e=>ala ds fun xs=>QI xs e):EvI B (at9 a) env QI:=fun σ G H F R I k =>
 h σ G H F _ I fun vs c g b ds p o f q m=>by
  obtain ⟨i,j,n,d,l⟩:=m
  subst n
  obtain rfl:vs=[V.int i,V.int j]:=Rps.ints_inv (ns:=[i,j]) q
  exact ⟨i,j,rfl,d,k _ c g b _ p o f aqs l⟩
theorem aya {j:Int} {R:List PyData->Prop} (b : -4611686018427387904<=j) (a:j < 4611686018427387904) (h:R (rngD 0 j.toNat)):ak9 [.int j] R:=⟨j,rfl,by omega,by omega,h⟩
theorem ayb {a b:Int} {R:List PyData->Prop} (c : -4611686018427387904<=a/\a < 4611686018427387904/\-4611686018427387904<=b/\b < 4611686018427387904) (h:R (rngD a (b - a).toNat)):ala [.int a,.int b] R:=⟨a,b,rfl,by omega,h⟩
theorem abb {lo:Int} {n:Nat} (J:Nat->En->Prop) (a:J 0 env) (b:∀ i e,i < n->J i e->EvG B g (.st (.int (lo+(i:Int)))) e fun e2=>EvS B tb { D' with nx:=J (i+1),ct:=J (i+1),bk:=D'.nx } e2) (hd:∀ e,J n e->D'.nx e):ForV B g tb D' (rngD lo n) env :=
 ⟨J,a,fun i d e h j=>by obtain ⟨hi,rfl⟩:=ahn h;exact b i e hi j,fun e j=>hd e (by rw [ab0] at j;exact j)⟩
theorem adk {α:Type} {f : α->PyData} {xs:List α} (J:Nat->En->Prop) (a:J 0 env) (b:∀ i x e,xs[i]?=some x->J i e->EvG B g (.st (f x)) e fun e2=>EvS B tb { D' with nx:=J (i+1),ct:=J (i+1),bk:=D'.nx } e2) (hd:∀ e,J xs.length e->D'.nx e):ForV B g tb D' (xs.map f) env :=
 ⟨J,a,fun i d e h j=>by
  rw [aA5] at h
  cases hx:xs[i]? with
  | none=>rw [hx] at h;cases h
  | some x=>rw [hx] at h;cases h;exact b i x e hx j,fun e j=>hd e (by rw [aA3] at j;exact j)⟩
end
theorem ass {B:Bs} {a b:TS} {D':VEnds} {env:En} (h:∀ c:TS,c=b->EvS B a { D' with nx:=fun e=>EvS B c D' e } env):EvS B (tSeq a b) D' env:=avp (h b rfl)
theorem avs {B:Bs} {c b:TS} {D':VEnds} {env:En} (e:c=b) (h:EvS B b D' env):EvS B c D' env:=by rw [e];exact h
@[elab_as_elim] theorem exS1 {c:Type} {σ:Type} {f : c->σ} {p : c->Prop} {a : σ->Prop} (s : σ) (h:∃ b,s=f b/\p b) (k:∀ b,p b->a (f b)):a s:=by
 obtain ⟨b,e,h⟩:=h
 rw [e];exact k _ h
@[elab_as_elim] theorem exE1 {c:Type} {σ:Type} {f : c->σ} {a : σ->Prop} (s : σ) (h:∃ b,s=f b) (k:∀ b,a (f b)):a s:=by
 obtain ⟨b,e⟩:=h
 rw [e];exact k _
@[elab_as_elim] theorem exS2 {g:Type} {d:Type} {σ:Type} {f : g->d->σ} {p : g->d->Prop} {a : σ->Prop} (s : σ) (h:∃ c b,s=f c b/\p c b) (k:∀ c b,p c b->a (f c b)):a s:=by
 obtain ⟨c,b,e,h⟩:=h
 rw [e];exact k _ _ h
@[elab_as_elim] theorem exS3 {j:Type} {g:Type} {i:Type} {σ:Type} {f : j->g->i->σ} {p : j->g->i->Prop} {a : σ->Prop} (s : σ) (h:∃ c b d,s=f c b d/\p c b d) (k:∀ c b d,p c b d->a (f c b d)):a s:=by
 obtain ⟨c,b,d,e,h⟩:=h
 rw [e];exact k _ _ _ h
@[elab_as_elim] theorem exE3 {j:Type} {g:Type} {i:Type} {σ:Type} {f : j->g->i->σ} {a : σ->Prop} (s : σ) (h:∃ c b d,s=f c b d) (k:∀ c b d,a (f c b d)):a s:=by
 obtain ⟨c,b,d,e⟩:=h
 rw [e];exact k _ _ _
@[elab_as_elim] theorem exS4 {m:Type} {i:Type} {j:Type} {l:Type} {σ:Type} {f : m->i->j->l->σ} {p : m->i->j->l->Prop} {a : σ->Prop} (s : σ) (h:∃ d c g b,s=f d c g b/\p d c g b) (k:∀ d c g b,p d c g b->a (f d c g b)):a s:=by
 obtain ⟨d,c,g,b,e,h⟩:=h
 rw [e];exact k _ _ _ _ h
@[elab_as_elim] theorem exS5 {o:Type} {j:Type} {l:Type} {n:Type} {m:Type} {σ:Type} {f : o->j->l->n->m->σ} {p : o->j->l->n->m->Prop} {a : σ->Prop} (s : σ) (h:∃ g c i b d,s=f g c i b d/\p g c i b d) (k:∀ g c i b d,p g c i b d->a (f g c i b d)):a s:=by
 obtain ⟨g,c,i,b,d,e,h⟩:=h
 rw [e];exact k _ _ _ _ _ h
@[elab_as_elim] theorem exE5 {o:Type} {j:Type} {l:Type} {m:Type} {n:Type} {σ:Type} {f : o->j->l->m->n->σ} {a : σ->Prop} (s : σ) (h:∃ c d i b g,s=f c d i b g) (k:∀ c d i b g,a (f c d i b g)):a s:=by
 obtain ⟨c,d,i,b,g,e⟩:=h
 rw [e];exact k _ _ _ _ _
@[elab_as_elim] theorem exS6 {l:Type} {o:Type} {r:Type} {m:Type} {n:Type} {q:Type} {σ:Type} {f : l->o->r->m->n->q->σ} {p : l->o->r->m->n->q->Prop} {a : σ->Prop} (s : σ) (h:∃ c b d g i j,s=f c b d g i j/\p c b d g i j) (k:∀ c b d g i j,p c b d g i j->a (f c b d g i j)):a s:=by
 obtain ⟨c,b,d,g,i,j,e,h⟩:=h
 rw [e];exact k _ _ _ _ _ _ h
@[elab_as_elim] theorem exE6 {l:Type} {o:Type} {q:Type} {m:Type} {n:Type} {p:Type} {σ:Type} {f : l->o->q->m->n->p->σ} {a : σ->Prop} (s : σ) (h:∃ c b d g i j,s=f c b d g i j) (k:∀ c b d g i j,a (f c b d g i j)):a s:=by
 obtain ⟨c,b,d,g,i,j,e⟩:=h
 rw [e];exact k _ _ _ _ _ _
@[elab_as_elim] theorem exS7 {m:Type} {q:Type} {u:Type} {n:Type} {o:Type} {r:Type} {v:Type} {σ:Type} {f : m->q->u->n->o->r->v->σ} {p : m->q->u->n->o->r->v->Prop} {a : σ->Prop} (s : σ) (h:∃ c b d i j l g,s=f c b d i j l g/\p c b d i j l g) (k:∀ c b d i j l g,p c b d i j l g->a (f c b d i j l g)):a s:=by
 obtain ⟨c,b,d,i,j,l,g,e,h⟩:=h
 rw [e];exact k _ _ _ _ _ _ _ h
theorem big {n:Nat} (h:n<=1000000):n < sizeLine:=aD6 h (by decide)
section
variable {B B1:Bs} {G H G' H':Hp} {σ σI:St} {env envI:En} {F F':Nat->Addr->Prop} {v:V} {s:Sl} {Fv:Addr->Prop} {inv:Nat->Option Nat}
open Classical in
def acd (H:Hp) (F:Nat->Addr->Prop) (inv:Nat->Option Nat):Hp:=fun a=>if ∃ i j,inv i=some j/\F i a then none else H a
theorem afq {i j:Nat} {a:Addr} (h:inv i=some j) (f:F i a):acd H F inv a=none:=aE5 ⟨i,j,h,f⟩
theorem aei {a:Addr} (h:∀ i j,inv i=some j->¬ F i a):acd H F inv a=H a:=aE6 fun ⟨i,j,x,y⟩=>h i j x y
theorem adf:Same (acd H F inv) H:=fun a o e=>by
 unfold acd at e
 split at e
 ·cases e
 ·exact e
theorem VI.enter (I:VI B G H σ env F) (inj:∀ i b j,inv i=some j->inv b=some j->i=b) (ln : σI.length=envI.length)
  (sl:∀ j s,envI[j]?=some (some s)->∃ v,σI[j]?=some (some v)/\((∃ d,s=.st d/\Rp G v d/\∀ i,inv i ≠ some j)\/(∃ ns a,s=.scr ns/\v=.ref a/\SqL B.K G a (ns.map V.int)/\∀ i,inv i ≠ some j) ∨
   ∃ i A,inv i=some j/\s=.io A/\σ[i]?=some (some v)/\(env[i]?=some (some (.own A))\/env[i]?=some (some (.io A))))) :
  VI ⟨B.K,G,H,acd H F inv,σI,fun j a=>∃ i,inv i=some j/\F i a⟩ G H σI envI (fun j a=>∃ i,inv i=some j/\F i a) where
 gh:=I.gh
 g0:=Same.refl _
 gn:=fun a o e => .inl e
 rs:=adf
 rb:=adf
 bh:=fun a o e=>⟨o,e⟩
 fg:=fun j a ⟨i,_,z⟩=>I.fg i a z
 fr:=fun j a ⟨i,h,z⟩=>afq h z
 fd:=fun j k a ⟨i,h,z⟩ ⟨b,h',p⟩=>by
  have:=I.fd i b a z p
  subst this
  rw [h] at h';cases h';rfl
 fo:=fun j a ⟨i,h,z⟩=>I.fo i a z
 sl:=fun j s e=>by
  obtain ⟨v,g,q⟩:=sl j s e
  refine ⟨v,g,?_⟩
  rcases q with ⟨d,rfl,r,n⟩ | ⟨ns,a,rfl,rfl,q,n⟩ | ⟨i,A,hi,rfl,l,c⟩
  ·exact ⟨r,fun a ⟨i,h,_⟩=>n i h⟩
  ·exact ⟨⟨a,rfl,q⟩,fun a ⟨i,h,_⟩=>n i h⟩
  ·refine ⟨?_,fun a z => .inl z,g⟩
   have u:(fun a=>∃ b,inv b=some j/\F b a)=F i:=by
    funext a
    exact propext ⟨fun ⟨b,h,z⟩=>by rw [inj i b j hi h];exact z,fun z=>⟨i,hi,z⟩⟩
   show A.P G H v (fun a=>∃ b,inv b=some j/\F b a)
   rw [u]
   rcases c with c | c
   ·obtain ⟨m,f,e2⟩:=I.sl i _ c
    rw [l] at f;cases f;exact e2.1
   ·obtain ⟨m,f,e2⟩:=I.sl i _ c
    rw [l] at f;cases f;exact e2.1
 ln:=ln
 ft:=I.ft
theorem VI.leave (I:VI B G H σ env F) (inj:∀ i m j,inv i=some j->inv m=some j->i=m) (p:B1.G=G) (g:B1.H=H) (w:∀ a o,H a=some o->(∀ i j,inv i=some j->¬ F i a)->B1.R a=some o)
  (M:∀ i j,inv i=some j->∀ a,B1.F j a->F i a) (K:∀ i j,inv i=some j->B1.S[j]? = σ[i]?) (J:VI B1 G' H' σI envI F') (io:∀ i j,inv i=some j->∃ A',envI[j]?=some (some (.io A'))) {env2:En} (D:env2.length=env.length)
  (L:∀ i s,env2[i]?=some (some s)->(inv i=none/\env[i]?=some (some s))\/∃ j A A',inv i=some j/\envI[j]?=some (some (.io A'))/\((env[i]?=some (some (.own A))/\s=.own A')\/(env[i]?=some (some (.io A))/\s=.io A'))) :
  VI B G' H' σ env2 (fun i a=>match inv i with | some j=>F' j a | none=>F i a):=by
 have b:∀ a o,G' a=some o->G a=some o\/H a=none:=fun a o e=>by
  have:=J.gn a o e
  rw [p,g] at this;exact this
 have fi:∀ i j a,inv i=some j->F' j a->F i a\/H a=none:=fun i j a hi z=>by
  obtain ⟨A',e⟩:=io i j hi
  obtain ⟨v,_,q⟩:=J.sl j _ e
  rcases q.2.1 a z with y | y
  ·exact .inl (M i j hi a y)
  ·rw [g] at y;exact .inr y
 have kp:∀ a o,H a=some o->(∀ i j,inv i=some j->¬ F i a)->H' a=some o:=fun a o e n=>J.rs a o (w a o e n)
 refine ⟨J.gh,I.g0.trans (p ▸ J.g0),fun a o e=>?_,fun a o e=>?_,I.rb,fun a o e=>?_,fun i a z=>?_,fun i a z=>?_,fun i k a y z=>?_,fun i a z=>?_,fun i t e=>?_,by rw [D];exact I.ln,J.ft⟩
 ·rcases b a o e with e | e
  ·exact I.gn a o e
  ·exact .inr (I.no_b e)
 ·refine kp a o (I.rs a o e) fun i j _ z=>?_
  rw [I.fr i a z] at e;cases e
 ·obtain ⟨C,d⟩:=I.bh a o e
  exact J.bh a C (by rw [g];exact d)
 ·cases hi:inv i with
  | some j=>rw [hi] at z;exact J.fg j a z
  | none =>
   rw [hi] at z
   cases e:G' a with
   | none=>rfl
   | some o =>
    rcases b a o e with e | e
    ·rw [I.fg i a z] at e;cases e
    ·exact absurd z (I.no_f e i)
 ·cases hi:inv i with
  | some j =>
   rw [hi] at z
   rcases fi i j a hi z with y | y
   ·exact I.fr i a y
   ·exact I.no_r y
  | none=>rw [hi] at z;exact I.fr i a z
 ·cases hi:inv i with
  | some j =>
   rw [hi] at y
   cases hk:inv k with
   | some l =>
    rw [hk] at z
    have:=J.fd j l a y z
    subst this
    exact inj i k j hi hk
   | none =>
    rw [hk] at z
    rcases fi i j a hi y with x | x
    ·exact I.fd i k a x z
    ·exact absurd z (I.no_f x k)
  | none =>
   rw [hi] at y
   cases hk:inv k with
   | some l =>
    rw [hk] at z
    rcases fi k l a hk z with x | x
    ·exact I.fd i k a y x
    ·exact absurd y (I.no_f x i)
   | none=>rw [hk] at z;exact I.fd i k a y z
 ·cases hi:inv i with
  | some j=>rw [hi] at z;exact J.fo j a z
  | none =>
   rw [hi] at z
   obtain ⟨o,e⟩:=I.fo i a z
   exact J.bh a o (by rw [g];exact e)
 ·rcases L i t e with ⟨hi,d⟩ | ⟨j,A,A',hi,d,e2⟩
  ·obtain ⟨v,r,q⟩:=I.sl i t d
   refine ⟨v,r,?_⟩
   simp only [hi]
   refine q.mono (p ▸ J.g0) fun a o z y=>kp a o y fun m O c N=>?_
   have:=I.fd i m a z N
   subst this
   rw [hi] at c;cases c
  ·obtain ⟨v,r,q⟩:=J.sl j _ d
   have u : σ[i]?=some (some v):=by rw [← K i j hi];exact q.2.2
   refine ⟨v,u,?_⟩
   simp only [hi]
   rcases e2 with ⟨e2,rfl⟩ | ⟨e2,rfl⟩
   ·obtain ⟨E,_,h⟩:=I.sl i _ e2
    refine ⟨q.1,fun a z=>?_⟩
    rcases fi i j a hi z with y | y
    ·exact h.2 a y
    ·exact I.no_b y
   ·obtain ⟨E,f,h⟩:=I.sl i _ e2
    rw [u] at f;cases f
    refine ⟨q.1,fun a z=>?_,h.2.2⟩
    rcases fi i j a hi z with y | y
    ·exact h.2.1 a y
    ·exact .inr (I.no_b y)
theorem RsX.leave (I:VI B G H σ env F) (b:B1.H=H) (r:RsX B1 G' H' v Fv s F'):RsX B G' H' v Fv s (fun i a=>match inv i with | some j=>F' j a | none=>F i a):=by
 have hn:∀ a,Fv a->H a=none:=fun a z=>b ▸ r.fb a z
 refine ⟨r.ok,fun a z=>I.no_b (hn a z),r.fg,r.fo,fun i a z y=>?_⟩
 cases hi:inv i with
 | some j=>rw [hi] at y;exact r.fd j a z y
 | none=>rw [hi] at y;exact I.no_f (hn a z) i y
end
abbrev VP:=List Sl->(Sl->Prop)->Prop
abbrev VIo:=Own->List Sl->(Own->Sl->Prop)->Prop
def noF:Nat->Addr->Prop:=fun _ _=>False
def bsP (K:Frag) (G H:Hp) (vs:List V):Bs:=⟨K,G,H,H,vs.map some,noF⟩
def aul (K:Frag) (G:Hp):V->Sl->Prop
 | v,.st d=>Rp G v d
 | v,.scr ns=>∃ a,v=.ref a/\SqL K G a (ns.map V.int)
 | _,_=>False
inductive ArgsOk (K:Frag) (G:Hp):List V->List Sl->Prop
 | nil:ArgsOk K G [] []
 | cons {v:V} {s:Sl} {vs:List V} {ss:List Sl}:aul K G v s->ArgsOk K G vs ss->ArgsOk K G (v :: vs) (s :: ss)
theorem ArgsOk.length {K:Frag} {G:Hp}:∀ {vs:List V} {ss:List Sl},ArgsOk K G vs ss->vs.length=ss.length
 | _,_,.nil=>rfl
 | _,_,.cons _ t=>by simp [ArgsOk.length t]
theorem ArgsOk.get {K:Frag} {G:Hp}:∀ {vs:List V} {ss:List Sl} {i:Nat} {s:Sl},ArgsOk K G vs ss->ss[i]?=some s->∃ v,vs[i]?=some v/\aul K G v s
 | _,_,_,_,.nil,e=>by simp at e
 | _,_,0,_,.cons r _,e=>by simp at e;subst e;exact ⟨_,rfl,r⟩
 | _,_,i+1,s,.cons _ t,e=>by
  obtain ⟨u,b,a⟩:=ArgsOk.get (i:=i) (s:=s) t (by simpa using e)
  exact ⟨u,by simpa using b,a⟩
theorem ArgsOk.of {K:Frag} {G:Hp}:∀ {vs:List V} {ds:List PyData},Rps G vs ds->ArgsOk K G vs (ds.map Sl.st)
 | _,_,.nil => .nil
 | _,_,.cons r t => .cons r (ArgsOk.of t)
theorem aoa {α:Type} {xs:List α} {n i:Nat} {s : α} (e:(xs.map some ++ List.replicate n none)[i]?=some (some s)):xs[i]?=some s:=by
 by_cases h:i < xs.length
 ·rw [aC2 (by simpa using h),aA5] at e
  rw [aA0 h] at e ⊢
  simpa using e
 ·rw [aC7 (by simpa using h),aG7] at e
  split at e <;> cases e
theorem aob {α:Type} {xs:List α} {n i:Nat} {s : α} (e:xs[i]?=some s):(xs.map some ++ List.replicate n none)[i]?=some (some s):=by
 have h:i < xs.length:=(aA1.mp e).1
 rw [aC2 (by simpa using h),aA5,e];rfl
def spP (K:Frag) (f:VP):Sp:=fun vs H Q _=>∃ G ss Q',Same G H/\FT G H/\ArgsOk K G vs ss/\f ss Q'/\∀ s,Q' s->∀ v G' H' Fv,Out G H v G' H' s Fv->Q v H'
structure OutI (G H R:Hp) (F0:Addr->Prop) (v0:V) (A':Own) (s:Sl) (v:V) (G' H':Hp) (F' Fv:Addr->Prop):Prop where
 gg:Same G G'
 gh:Same G' H'
 ft:FT G' H'
 gn:∀ a o,G' a=some o->G a=some o\/H a=none
 rs:Same R H'
 bh:∀ a o,H a=some o->∃ o',H' a=some o'
 ap:A'.P G' H' v0 F'
 fi:∀ a,F' a->F0 a\/H a=none
 fg:∀ a,F' a->G' a=none
 ok:RsOk G' H' v Fv s
 fv:∀ a,Fv a->H a=none/\G' a=none/\(∃ o,H' a=some o)/\¬ F' a
def spI (K:Frag) (f:VIo):Sp:=fun vs H Q _=>∃ v0 vr G R A ss F0 Q',vs=v0 :: vr/\Same G H/\FT G H/\Same R H/\A.P G H v0 F0/\(∀ a,F0 a->G a=none)/\(∀ a,F0 a->R a=none)/\ArgsOk K G vr ss /\
 f A ss Q'/\∀ A' s,Q' A' s->∀ v G' H' F' Fv,OutI G H R F0 v0 A' s v G' H' F' Fv->Q v H'
theorem abf {K:Frag} {f:VP} {ts:TS} {N:List Str} {vs:List V} {H:Hp} {Q:VK} {E:XK} (h:spP K f vs H Q E)
  (hb:∀ ss b,f ss b->∀ B,B.K=K->EvS B ts { nx:=fun _=>b (.st .none),rt:=fun s _=>b s } (ss.map some ++ List.replicate (N.length - ss.length) none)):ts { nx:=fun _ H'=>Q .non H',rt:=Q } (L2.start N vs) H:=by
 obtain ⟨G,ss,b,gh,ft,l,hf,c⟩:=h
 have fin:∀ {σ G' H' F env v Fv s},VI (bsP K G H vs) G' H' σ env F->RsX (bsP K G H vs) G' H' v Fv s F->Out G H v G' H' s Fv:=fun I r =>
  ⟨I.g0,I.gh,I.rs,I.gn,r.fb,r.fg,r.fo,r.ok,fun _=>I.ft⟩
 refine hb ss _ hf (bsP K G H vs) rfl (L2.start N vs) G H noF _ ?_ ⟨fun σ G' H' F env I g q=>c _ q _ _ _ _ (fin I (ade .non)),fun σ G' H' F env v Fv s I g r q=>c _ q v G' H' Fv (fin I r),fun _ _ _ _ _ _ _ q=>q,fun _ _ _ _ _ _ _ q=>q⟩
 refine ⟨gh,Same.refl _,fun a o e => .inl e,Same.refl _,Same.refl _,fun a o e=>⟨o,e⟩,fun i a z=>z.elim,fun i a z=>z.elim,fun i j a z=>z.elim,fun i a z=>z.elim,fun i s e=>?_,?_,ft⟩
 ·obtain ⟨v,m,q⟩:=l.get (aoa e)
  refine ⟨v,by unfold L2.start;exact aob m,?_⟩
  cases s with
  | st d=>exact ⟨q,fun a z=>z⟩
  | scr ns=>exact ⟨q,fun a z=>z⟩
  | own A=>exact q.elim
  | io A=>exact q.elim
 ·unfold L2.start;simp [l.length]
theorem azt {K:Frag} {f:VIo} {ts:TS} {N:List Str} {vs:List V} {H:Hp} {Q:VK} {E:XK} (h:spI K f vs H Q E)
  (hb:∀ A ss c,f A ss c->∀ B,B.K=K->EvS B ts { nx:=fun e=>∃ A',e[0]?=some (some (.io A'))/\c A' (.st .none),rt:=fun s e=>∃ A',e[0]?=some (some (.io A'))/\c A' s } (some (.io A) :: (ss.map some ++ List.replicate (N.length - (ss.length+1)) none))):ts { nx:=fun _ H'=>Q .non H',rt:=Q } (L2.start N vs) H:=by
 obtain ⟨v0,b,G,R,A,ss,F0,c,rfl,gh,ft,p,ap,fg,fr,l,hf,D⟩:=h
 have M:(v0 :: b).length=ss.length+1:=by simp [l.length]
 refine hb A ss _ hf ⟨K,G,H,R,(v0 :: b).map some,fun i a=>i=0/\F0 a⟩ rfl (L2.start N (v0 :: b)) G H (fun i a=>i=0/\F0 a) _ ?_ ?_
 ·refine ⟨gh,Same.refl _,fun a o e => .inl e,p,p,fun a o e=>⟨o,e⟩,fun i a z=>fg a z.2,fun i a z=>fr a z.2,fun i j a z y=>by rw [z.1,y.1],fun i a z=>A.dom ap a z.2,fun i s e=>?_,?_,ft⟩
  ·cases i with
   | zero =>
    simp at e
    subst e
    refine ⟨v0,rfl,?_,fun a z => .inl z,rfl⟩
    have:(fun a=>0=0/\F0 a)=F0:=by funext a;simp
    rw [this];exact ap
   | succ i =>
    have u:(ss.map some ++ List.replicate (N.length - (ss.length+1)) none)[i]?=some (some s):=by simpa using e
    obtain ⟨v,C,q⟩:=l.get (aoa u)
    refine ⟨v,?_,?_⟩
    ·unfold L2.start;exact aob (by simpa using C)
    ·cases s with
     | st d=>exact ⟨q,fun a z=>by cases z.1⟩
     | scr ns=>exact ⟨q,fun a z=>by cases z.1⟩
     | own A=>exact q.elim
     | io A=>exact q.elim
  ·unfold L2.start;simp [l.length]
 ·have fin:∀ σ G' H' F env v Fv s,VI ⟨K,G,H,R,(v0 :: b).map some,fun i a=>i=0/\F0 a⟩ G' H' σ env F->RsX ⟨K,G,H,R,(v0 :: b).map some,fun i a=>i=0/\F0 a⟩ G' H' v Fv s F->(∃ A',env[0]?=some (some (.io A'))/\c A' s)->Q v H':=by
   intro σ G' H' F env v Fv s I r ⟨A',e,q⟩
   obtain ⟨n,J,w,L,x⟩:=I.sl 0 _ e
   have:n=v0:=by
    have m:((v0 :: b).map some)[0]?=some (some n):=x
    simpa using m.symm
   subst this
   exact D A' s q v G' H' (F 0) Fv ⟨I.g0,I.gh,I.ft,I.gn,I.rs,I.bh,w,fun a z=>by
    rcases L a z with y | y
    ·exact .inl y.2
    ·exact .inr y,I.fg 0,r.ok,fun a z=>⟨r.fb a z,r.fg a z,r.fo a z,r.fd 0 a z⟩⟩
  refine ⟨fun σ G' H' F env I g q=>fin σ G' H' F env .non _ (.st .none) I (ade .non) q,fun σ G' H' F env v Fv s I g r q=>fin σ G' H' F env v Fv s I r q,fun _ _ _ _ _ _ _ q=>q,fun _ _ _ _ _ _ _ q=>q⟩
section
variable {B:Bs} {env:En} {Q':PyData->En->Prop} {QO:Sl->En->Prop} {K:Frag} {E:XK}
theorem aj8 {f:VP} {t:TA} (h:EvA B t env fun ds b=>f (ds.map Sl.st) fun s=>QO s b):EvO B (acw (spP K f) [] E t) env QO:=fun σ G H F Q I k=>by
 unfold acw
 simp only [aE2]
 exact h σ G H F _ I fun vs d l c ds b a g j i=>⟨d,_,_,a.gh,a.ft,ArgsOk.of j,i,fun s q v G' H' Fv o=>k v G' H' c Fv s b (a.out o).1 (g.trans o.gg) (a.out o).2 q⟩
theorem ast {f:VP} {t:TA} (h:EvA B t env fun ds a=>f (ds.map Sl.st) fun s=>FQ s fun d=>Q' d a):Ev B (acw (spP K f) [] E t) env Q':=ab8 (aj8 h)
theorem aqt {f:VP} {t:TA} {i:Nat} {ns:List Int} (e:env[i]?=some (some (.scr ns))) (n:B.K=K) (h:EvA B t env fun ds c=>f (.scr ns :: ds.map Sl.st) fun s=>QO s c):EvO B (acw (spP K f) [] E (abt (tVar i) t)) env QO:=fun σ G H F Q I k=>by
 subst n
 unfold acw
 simp only [aE2]
 obtain ⟨v0,r,⟨a,l,p⟩,_⟩:=I.sl i _ e
 refine ⟨v0,r,h σ G H F _ I fun vs j w g ds c b d u m=>⟨j,_,_,b.gh,b.ft,.cons (s:=.scr ns) ⟨a,l,d.seq p⟩ (ArgsOk.of u),m,fun s q v G' H' Fv o=>k v G' H' g Fv s c (b.out o).1 (d.trans o.gg) (b.out o).2 q⟩⟩
def reS:Sl->Own->Sl
 | .io _,A => .io A
 | _,A => .own A
end
def aio:Option Sl->Option Sl
 | some (.own A)=>some (.io A)
 | s=>s
def aaj (src:List (Option Nat)) (env:En):En:=src.map fun o=>match o with | some j=>aio ((env[j]?).getD none) | none=>none
def isIo:Option Sl->Bool
 | some (.io _)=>true
 | _=>false
def idxE (i:Nat):List (Option Nat)->Nat->Option Nat
 | [],_=>none
 | o :: r,k=>if o=some i then some k else idxE i r (k+1)
def ags (src:List (Option Nat)) (e:En) (i:Nat) (s:Option Sl):Option Sl :=
 match s with
 | some (.own A)=>(match idxE i src 0 with | some j=>(match e[j]? with | some (some (.io A'))=>some (.own A') | _=>none) | none=>some (.own A))
 | some (.io A)=>(match idxE i src 0 with | some j=>(match e[j]? with | some (some (.io A'))=>some (.io A') | _=>none) | none=>some (.io A))
 | s=>s
def afe (src:List (Option Nat)) (e:En):Nat->En->En
 | _,[]=>[]
 | k,s :: r=>ags src e k s :: afe src e (k+1) r
def aip (src:List (Option Nat)) (e1 e:En):En:=afe src e 0 e1
theorem afr (src:List (Option Nat)) (e:En):∀ (k:Nat) (l:En) (i:Nat),(afe src e k l)[i]?=(l[i]?).map (ags src e (k+i))
 | _,[],i=>by simp [afe]
 | k,s :: r,0=>by simp [afe]
 | k,s :: r,i+1=>by
  have:=afr src e (k+1) r i
  simp only [afe,aH1,this]
  rw [show k+1+i=k+(i+1) by omega]
theorem aeu {i:Nat}:∀ {src:List (Option Nat)} {k j:Nat},idxE i src k=some j->k<=j/\src[j - k]?=some (some i)
 | [],_,_,h=>by cases h
 | o :: r,k,j,h=>by
  unfold idxE at h
  by_cases e:o=some i
  ·rw [aE5 e] at h;cases h
   exact ⟨aA6 _,by simp [e]⟩
  ·rw [aE6 e] at h
   obtain ⟨b,a⟩:=aeu h
   refine ⟨by omega,?_⟩
   rw [show j - k=(j - (k+1))+1 by omega]
   simpa using a
theorem aj9 {i:Nat}:∀ {src:List (Option Nat)} {k:Nat},idxE i src k=none->∀ j:Nat,src[j]? ≠ some (some i)
 | [],_,_,j=>by simp
 | o :: r,k,h,j=>by
  unfold idxE at h
  by_cases e:o=some i
  ·rw [aE5 e] at h;cases h
  ·rw [aE6 e] at h
   cases j with
   | zero=>simpa using e
   | succ j=>simpa using aj9 h j
theorem ami:∀ (src:List (Option Nat)),(src.filterMap id).Nodup->∀ j a i:Nat,src[j]?=some (some i)->src[a]?=some (some i)->j=a
 | [],_,j,_,_,h,_=>by simp at h
 | none :: r,h,j,a,i,h1,h2=>by
  cases j with
  | zero=>simp at h1
  | succ j =>
   cases a with
   | zero=>simp at h2
   | succ a=>rw [ami r (by simpa using h) j a i (by simpa using h1) (by simpa using h2)]
 | some x :: r,h,j,a,i,h1,h2=>by
  have h':=aH5.mp (show (x :: r.filterMap id).Nodup by simpa using h)
  have nm:∀ k,r[k]?=some (some x)->False:=fun k c=>h'.1 (List.mem_filterMap.mpr ⟨some x,aA2 c,rfl⟩)
  cases j with
  | zero =>
   have b:x=i:=by simpa using h1
   subst b
   cases a with
   | zero=>rfl
   | succ a=>exact (nm a (by simpa using h2)).elim
  | succ j =>
   cases a with
   | zero =>
    have b:x=i:=by simpa using h2
    subst b
    exact (nm j (by simpa using h1)).elim
   | succ a=>rw [ami r h'.2 j a i (by simpa using h1) (by simpa using h2)]
def agt:Option Sl->Bool
 | some (.own _)=>true
 | _=>false
def ioLe:En->En->Prop
 | a :: r,b :: s=>(isIo a=isIo b/\agt b=false)/\ioLe r s
 | [],[]=>True
 | _,_=>False
theorem amj {x:Option Sl} (h:isIo x=true):∃ A,x=some (.io A):=by
 cases x with
 | none=>simp [isIo] at h
 | some y =>
  cases y with
  | io A=>exact ⟨A,rfl⟩
  | _=>simp [isIo] at h
theorem ioLe.get:∀ {a b:En} {j:Nat} {x:Option Sl},ioLe a b->a[j]?=some x->isIo x=true->∃ A,b[j]?=some (some (.io A))
 | [],_,_,_,_,e,_=>by simp at e
 | x :: r,[],_,_,h,_,_=>h.elim
 | x :: r,y :: s,0,z,h,e,p=>by
  simp at e;subst e
  have:=h.1.1
  rw [p] at this
  obtain ⟨A,q⟩:=amj this.symm
  exact ⟨A,by simp [q]⟩
 | x :: r,y :: s,j+1,z,h,e,p=>by
  obtain ⟨A,q⟩:=ioLe.get (j:=j) h.2 (by simpa using e) p
  exact ⟨A,by simpa using q⟩
theorem ioLe.got:∀ {a b:En} {j:Nat} {x:Option Sl},ioLe a b->b[j]?=some x->(isIo x=true->∃ A,a[j]?=some (some (.io A)))/\agt x=false
 | [],[],_,_,_,e=>by simp at e
 | [],_ :: _,_,_,h,e=>h.elim
 | x :: r,[],_,_,h,_=>h.elim
 | x :: r,y :: s,0,z,h,e=>by
  simp at e;subst e
  refine ⟨fun p=>?_,h.1.2⟩
  have:=h.1.1
  rw [p] at this
  obtain ⟨A,q⟩:=amj this
  exact ⟨A,by simp [q]⟩
 | x :: r,y :: s,j+1,z,h,e=>by
  obtain ⟨p,q⟩:=ioLe.got (j:=j) (x:=z) h.2 (by simpa using e)
  exact ⟨fun t=>by obtain ⟨A,u⟩:=p t;exact ⟨A,by simpa using u⟩,q⟩
section
variable {B:Bs} {G H:Hp} {σ:St} {env:En} {F:Nat->Addr->Prop}
theorem VI.aside (I:VI B G H σ env F) {p:Addr} {o:HO} (c:∀ xs,o ≠ .tup xs) (b:G p=none) (hf:∀ j,¬ F j p) (hb:B.H p=none):VI B G (upd H p o) σ env F where
 gh:=fun a u e=>by rw [aae (aak e b)];exact I.gh a u e
 g0:=I.g0
 gn:=I.gn
 rs:=fun a u e=>by rw [aae (aak e (I.b_r hb))];exact I.rs a u e
 rb:=I.rb
 bh:=fun a u e=>by rw [aae (aak e hb)];exact I.bh a u e
 fg:=I.fg
 fr:=I.fr
 fd:=I.fd
 fo:=fun j a z=>by rw [aae (fun e:a=p=>hf j (e ▸ z))];exact I.fo j a z
 sl:=fun i s e=>by
  obtain ⟨v,d,q⟩:=I.sl i s e
  exact ⟨v,d,q.mono (Same.refl _) fun a u z y=>by rw [aae (fun e:a=p=>hf i (e ▸ z))];exact y⟩
 ln:=I.ln
 ft:=fun a ks e=>by
  by_cases z:a=p
  ·subst z;rw [aah] at e;exact absurd (aC5 e) (c _)
  ·rw [aae z] at e;exact I.ft a ks e
def LcV (K:Frag) (src:List (Option Nat)) (g:TG) (tif:TT) (te:TE) (ds:List PyData) (e1:En) (R:List PyData->En->Prop):Prop:=∃ J:Nat->List PyData->En->Prop,J 0 [] (aaj src e1)/\(∀ i ys e,J i ys e->ioLe (aaj src e1) e) /\
 (∀ i d ys e,ds[i]?=some d->J i ys e->∀ B':Bs,B'.K=K->EvG B' g (.st d) e fun e2=>EvT B' tif e2 fun b e3=>if b=true then Ev B' te e3 fun y e4=>ys.length<=999999/\J (i+1) (ys ++ [y]) e4 else J (i+1) ys e3)/\∀ ys e,J ds.length ys e->R ys (aip src e1 e)
theorem aev {src:List (Option Nat)} {j:Nat} {s:Sl} (h:(aaj src env)[j]?=some (some s)):∃ i t,src[j]?=some (some i)/\env[i]?=some (some t)/\aio (some t)=some s:=by
 unfold aaj at h
 rw [aA5] at h
 cases e:src[j]? with
 | none=>rw [e] at h;cases h
 | some o =>
  rw [e] at h
  cases o with
  | none=>cases h
  | some i =>
   simp only [aH2,Option.some.injEq] at h
   cases e2:env[i]? with
   | none=>rw [e2] at h;cases h
   | some o2 =>
    rw [e2] at h
    cases o2 with
    | none=>cases h
    | some t=>exact ⟨i,t,rfl,e2,h⟩
theorem aho {src:List (Option Nat)} {i j:Nat} {v:V} (h:src[j]?=some (some i)) (a : σ[i]?=some (some v)):(pick src σ)[j]?=some (some v):=by
 unfold pick
 rw [aA5,h]
 simp [a]
theorem aqu {src:List (Option Nat)} {wi:TI} {g:TG} {b3:TT} {te:TE} {QO:Sl->En->Prop} (nd:(src.filterMap id).Nodup) (h:EvI B wi env fun ds U=>LcV B.K src g b3 te ds U fun ys e2=>QO (.own (OL ys)) e2):EvO B (tLC src wi g b3 te) env QO:=fun σ G H F Q I k=>by
 refine h σ G H F _ I fun J G1 H1 F1 ds U I1 g1 it ⟨Jv,j0,a8,js,jd⟩ p T=>?_
 let M:Nat->Bool:=fun i=>match U[i]? with | some (some (.own _))=>true | some (some (.io _))=>true | _=>false
 let inv:Nat->Option Nat:=fun i=>if M i=true then idxE i src 0 else none
 have D:∀ i j,inv i=some j->src[j]?=some (some i)/\M i=true:=fun i j hi=>by
  by_cases hm:M i=true
  ·have f:idxE i src 0=some j:=by simpa [inv,hm] using hi
   have:=(aeu f).2
   exact ⟨by simpa using this,hm⟩
  ·simp [inv,hm] at hi
 have a4:∀ i j,src[j]?=some (some i)->M i=true->inv i=some j:=fun i j X hm=>by
  have e0:inv i=idxE i src 0:=by simp [inv,hm]
  cases e:idxE i src 0 with
  | none=>exact absurd X (aj9 e j)
  | some j' =>
   have:=(aeu e).2
   rw [e0,e,ami src nd j j' i X (by simpa using this)]
 have inj:∀ i c j,inv i=some j->inv c=some j->i=c:=fun i c j Y C=>by
  have a:=(D i j Y).1
  rw [(D c j C).1] at a
  simpa using a.symm
 have b2:∀ i,M i=true->∃ A,U[i]?=some (some (.own A))\/U[i]?=some (some (.io A)):=fun i hm=>by
  cases e:U[i]? with
  | none=>simp [M,e] at hm
  | some o =>
   cases o with
   | none=>simp [M,e] at hm
   | some s =>
    cases s with
    | own A=>exact ⟨A,.inl rfl⟩
    | io A=>exact ⟨A,.inr rfl⟩
    | st d=>simp [M,e] at hm
    | scr ns=>simp [M,e] at hm
 have b0:∀ i ys e,Jv i ys e->∀ c j,inv c=some j->∃ A,e[j]?=some (some (.io A)):=fun i ys e hj c j hi=>by
  obtain ⟨X,hm⟩:=D c j hi
  obtain ⟨A,N⟩:=b2 c hm
  refine (a8 i ys e hj).get (x:=some (.io A)) ?_ rfl
  unfold aaj
  rw [aA5,X]
  rcases N with N | N <;> simp [N,aio]
 -- between two turns
 let Wv:Nat->List V->St->Hp->Prop:=fun i ys σI H=>∃ G2 F2 e env2 yd,VI B G2 H σ env2 F2/\Same G1 G2/\H p=some (.lst ys)/\Rps G2 ys yd/\G2 p=none/\(∀ j,¬ F2 j p)/\Jv i yd e/\σI.length=e.length/\env2.length=U.length /\
  (∀ j s,e[j]?=some (some s)->∃ v,σI[j]?=some (some v)/\((∃ d,s=.st d/\Rp G2 v d/\∀ i,inv i ≠ some j)\/(∃ ns a,s=.scr ns/\v=.ref a/\SqL B.K G2 a (ns.map V.int)/\∀ i,inv i ≠ some j) ∨
   ∃ i A,inv i=some j/\s=.io A/\σ[i]?=some (some v)/\(env2[i]?=some (some (.own A))\/env2[i]?=some (some (.io A))))) /\
  (∀ i,inv i=none->env2[i]?=U[i]?)/\(∀ i j,inv i=some j->∃ A0 A,e[j]?=some (some (.io A))/\((U[i]?=some (some (.own A0))/\env2[i]?=some (some (.own A)))\/(U[i]?=some (some (.io A0))/\env2[i]?=some (some (.io A)))))
 have hb:B.H p=none:=I1.no_b T
 refine ⟨fun i m ys σI H=>m=ds.length - i/\i<=ds.length/\Wv i ys σI H,⟨ds.length,by simp,aF0 _,?_⟩,?_⟩
 ·refine ⟨G1,F1,aaj src U,U,[],I1.aside (fun _ z=>nomatch z) (I1.no_g T) (I1.no_f T) hb,Same.refl _,aah,.nil,I1.no_g T,I1.no_f T,j0,by simp [pick,aaj],rfl,fun j s e=>?_,fun _ _=>rfl,fun i j hi=>?_⟩
  ·obtain ⟨i,t,X,ht,hp⟩:=aev e
   obtain ⟨v,hv,q⟩:=I1.sl i t ht
   refine ⟨v,aho X hv,?_⟩
   cases t with
   | st d =>
    cases hp
    refine .inl ⟨d,rfl,q.1,fun c f=>?_⟩
    have a:=(D c j f).1
    rw [X] at a
    have:i=c:=by simpa using a
    subst this
    have:=(D i j f).2
    simp [M,ht] at this
   | scr ns =>
    cases hp
    obtain ⟨⟨a,ea,sq⟩,_⟩:=q
    refine .inr (.inl ⟨ns,a,rfl,ea,sq,fun c f=>?_⟩)
    have a:=(D c j f).1
    rw [X] at a
    have:i=c:=by simpa using a
    subst this
    have:=(D i j f).2
    simp [M,ht] at this
   | own A=>cases hp;exact .inr (.inr ⟨i,A,a4 i j X (by simp [M,ht]),rfl,hv,.inl ht⟩)
   | io A=>cases hp;exact .inr (.inr ⟨i,A,a4 i j X (by simp [M,ht]),rfl,hv,.inr ht⟩)
  ·obtain ⟨X,hm⟩:=D i j hi
   obtain ⟨A,N⟩:=b2 i hm
   refine ⟨A,A,?_,?_⟩
   ·unfold aaj
    rw [aA5,X]
    rcases N with N | N <;> simp [N,aio]
   ·rcases N with N | N
    ·exact .inl ⟨N,N⟩
    ·exact .inr ⟨N,N⟩
 ·rintro i m ys σI H2 ⟨rfl,hi,G2,F2,e,env2,yd,I2,g2,a3,ry,ga,fa,jv,ln,b9,sl,un,mv⟩
  refine ⟨a3,?_⟩
  by_cases hlt:i < ds.length
  ·refine .inr ⟨it.go i G2 H2 g2 I2.gh hlt,Wv (i+1),fun Z c2 H' hw=>⟨ds.length - (i+1),by omega,rfl,hlt,hw⟩,fun x H3 y=>?_⟩
   obtain ⟨G3,o⟩:=it.yld i G2 H2 x H3 _ g2 I2.gh I2.ft (aA0 hlt) y
   obtain ⟨I3,X3⟩:=I2.out o
   have a7:=o.hh _ _ a3
   have a6:=fa
   have c0:G3 p=none:=by
    cases e':G3 p with
    | none=>rfl
    | some u =>
     rcases o.gn p u e' with q | q
     ·rw [ga] at q;cases q
     ·rw [a3] at q;cases q
   have c1:∀ j s,e[j]?=some (some s)->∃ v,σI[j]?=some (some v)/\((∃ d,s=.st d/\Rp G3 v d/\∀ i,inv i ≠ some j)\/(∃ ns a,s=.scr ns/\v=.ref a/\SqL B.K G3 a (ns.map V.int)/\∀ i,inv i ≠ some j) ∨
     ∃ i A,inv i=some j/\s=.io A/\σ[i]?=some (some v)/\(env2[i]?=some (some (.own A))\/env2[i]?=some (some (.io A)))):=fun j s es=>by
    obtain ⟨v,hv,q⟩:=sl j s es
    refine ⟨v,hv,?_⟩
    rcases q with ⟨d,a9,r,n⟩ | ⟨ns,a,a9,b6,r,n⟩ | q
    ·exact .inl ⟨d,a9,r.same o.gg,n⟩
    ·exact .inr (.inl ⟨ns,a,a9,b6,o.gg.seq r,n⟩)
    ·exact .inr (.inr q)
   have E3:=I3.enter (inv:=inv) (σI:=σI) (envI:=e) inj ln c1
   -- back from the turn
   have fin:∀ (S:St) (G4 H4:Hp) (F4:Nat->Addr->Prop) (e4:En) (a0:List PyData) (Z:List V) (o4:HO),VI ⟨B.K,G3,H3,acd H3 F2 inv,σI,fun j a=>∃ i,inv i=some j/\F2 i a⟩ G4 H4 S e4 F4->Jv (i+1) a0 e4->Rps G4 Z a0 ->
     Wv (i+1) Z S (upd H4 p (.lst Z))/\H4 p=some (.lst ys):=by
    intro S G4 H4 F4 e4 a0 Z o4 I4 j4 r4
    have a1:=b0 (i+1) a0 e4 j4
    have b5:H4 p=some (.lst ys):=I4.rs p _ (by show acd H3 F2 inv p=_;rw [aei (fun c _ _=>a6 c)];exact a7)
    have b1:G4 p=none:=by
     cases e':G4 p with
     | none=>rfl
     | some u =>
      rcases I4.gn p u e' with q | q
      ·change G3 p=_ at q;rw [c0] at q;cases q
      ·change H3 p=_ at q;rw [a7] at q;cases q
    -- the slots of the outer frame
    let E:En:=(List.range env2.length).map fun c=>match inv c with
     | some j=>(match env2[c]?,e4[j]? with | some (some (.own _)),some (some (.io A))=>some (.own A) | some (some (.io _)),some (some (.io A))=>some (.io A) | _,_=>none)
     | none=>(env2[c]?).getD none
    have O:∀ c,c < env2.length->E[c]?=some (match inv c with
     | some j=>(match env2[c]?,e4[j]? with | some (some (.own _)),some (some (.io A))=>some (.own A) | some (some (.io _)),some (some (.io A))=>some (.io A) | _,_=>none)
     | none=>(env2[c]?).getD none):=fun c hl=>by
     simp only [E,aA5]
     rw [aA0 (by simpa using hl)]
     simp
    have L:=I3.leave (inv:=inv) (env2:=E) inj rfl rfl (fun a u q n=>by show acd H3 F2 inv a=_;rw [aei n];exact q) (fun c j f a z=>by obtain ⟨W,Y,C⟩:=z;rw [inj c W j f Y];exact C)
     (fun c j f=>by
      obtain ⟨A0,A,Y,C⟩:=mv c j f
      obtain ⟨v,hv,q⟩:=sl j _ Y
      rcases q with ⟨d,q,_⟩ | ⟨ns,a,q,_⟩ | ⟨W,b7,q1,q2,q3,_⟩
      ·cases q
      ·cases q
      ·rw [inj c W j f q1]
       show σI[j]?=_
       rw [hv,q3]) I4 a1 (by simp [E]) (fun c s es=>by
      have hl:c < env2.length:=by
       have:=(aA1.mp es).1
       simpa [E] using this
      rw [O c hl] at es
      cases f:inv c with
      | none =>
       refine .inl ⟨rfl,?_⟩
       rw [f] at es
       simp only [Option.some.injEq] at es
       cases q:env2[c]? with
       | none=>rw [q] at es;cases es
       | some u=>rw [q] at es;simp at es;rw [es]
      | some j =>
       rw [f] at es
       obtain ⟨A',R⟩:=a1 c j f
       obtain ⟨A0,A,Y,C⟩:=mv c j f
       simp only [R] at es
       rcases C with ⟨_,C⟩ | ⟨_,C⟩
       ·rw [C] at es
        simp only [Option.some.injEq] at es
        exact .inr ⟨j,A,A',rfl,R,.inl ⟨C,es.symm⟩⟩
       ·rw [C] at es
        simp only [Option.some.injEq] at es
        exact .inr ⟨j,A,A',rfl,R,.inr ⟨C,es.symm⟩⟩)
    have b4:∀ j,¬ (match inv j with | some j=>F4 j p | none=>F2 j p):=fun j z=>by
     cases hj:inv j with
     | none=>rw [hj] at z;exact a6 j z
     | some l =>
      rw [hj] at z
      obtain ⟨A',R⟩:=a1 j l hj
      obtain ⟨v,_,q⟩:=I4.sl l _ R
      rcases q.2.1 p z with ⟨W,_,q⟩ | q
      ·exact a6 W q
      ·change H3 p=_ at q;rw [a7] at q;cases q
    refine ⟨⟨G4,_,e4,E,a0,L.aside (fun _ z=>nomatch z) b1 b4 hb,g2.trans (o.gg.trans I4.g0),aah,r4,b1,b4,j4,I4.ln,by simp [E,b9],fun j s es=>?_,fun c f=>?_,fun c j f=>?_⟩,b5⟩
    ·obtain ⟨v,hv,q⟩:=I4.sl j s es
     refine ⟨v,hv,?_⟩
     have a2:(∀ A,s ≠ .io A)->∀ c,inv c ≠ some j:=fun hn c f=>by
      obtain ⟨A,N⟩:=a1 c j f
      rw [es] at N
      exact hn A (by simpa using N)
     cases s with
     | st d=>exact .inl ⟨d,rfl,q.1,a2 (by intro A z;cases z)⟩
     | scr ns =>
      obtain ⟨⟨a,ea,sq⟩,_⟩:=q
      exact .inr (.inl ⟨ns,a,rfl,ea,sq,a2 (by intro A z;cases z)⟩)
     | own A =>
      have:=((a8 _ _ _ j4).got es).2
      simp [agt] at this
     | io A =>
      obtain ⟨A0,h0⟩:=((a8 _ _ _ j4).got es).1 rfl
      obtain ⟨c,t,X,ht,hp⟩:=aev h0
      have hm:M c=true:=by
       cases t with
       | own A=>simp [M,ht]
       | io A=>simp [M,ht]
       | st d=>cases hp
       | scr ns=>cases hp
      have f:=a4 c j X hm
      obtain ⟨B0,A1,Y,C⟩:=mv c j f
      have hl:c < env2.length:=by
       rcases C with ⟨_,C⟩ | ⟨_,C⟩ <;> exact (aA1.mp C).1
      refine .inr (.inr ⟨c,A,f,rfl,?_,?_⟩)
      ·have hS : σI[j]?=some (some v):=q.2.2
       obtain ⟨v',b8,q'⟩:=sl j _ Y
       rcases q' with ⟨d,q',_⟩ | ⟨ns,a,q',_⟩ | ⟨W,b7,q1,q2,q3,_⟩
       ·cases q'
       ·cases q'
       ·rw [inj c W j f q1,q3,← b8,hS]
      ·rw [O c hl,f]
       simp only [es]
       rcases C with ⟨_,C⟩ | ⟨_,C⟩
       ·rw [C];exact .inl rfl
       ·rw [C];exact .inr rfl
    ·by_cases hl:c < env2.length
     ·rw [O c hl,f]
      simp only
      rw [← un c f]
      rw [aA0 hl];rfl
     ·rw [aE7.mpr (by simp [E];omega),← un c f,aE7.mpr (by omega)]
    ·obtain ⟨A',R⟩:=a1 c j f
     obtain ⟨A0,A,Y,C⟩:=mv c j f
     have hl:c < env2.length:=by
      rcases C with ⟨_,C⟩ | ⟨_,C⟩ <;> exact (aA1.mp C).1
     refine ⟨A0,A',R,?_⟩
     rw [O c hl,f]
     simp only [R]
     rcases C with ⟨h3,C⟩ | ⟨h3,C⟩
     ·rw [C];exact .inl ⟨h3,rfl⟩
     ·rw [C];exact .inr ⟨h3,rfl⟩
   have hd:ds[i]?=some ds[i]:=aA0 hlt
   refine js i _ yd e hd jv ⟨B.K,G3,H3,acd H3 F2 inv,σI,fun j a=>∃ i,inv i=some j/\F2 i a⟩ rfl σI G3 H3 _ x _ _ E3 (ade o.ok.1) fun S G4 H4 F4 e4 I4 g4 q4=>?_
   refine q4 S G4 H4 F4 _ I4 fun b G5 H5 F5 e5 I5 g5 q5=>?_
   cases b with
   | false =>
    rw [aE6 aA9] at q5 ⊢
    obtain ⟨w,ac⟩:=fin S G5 H5 F5 e5 yd ys (.lst ys) I5 q5 (ry.same (o.gg.trans (g4.trans g5)))
    have:upd H5 p (.lst ys)=H5:=by
     funext b
     unfold upd
     split
     ·rename_i hb';rw [hb'];exact ac.symm
     ·rfl
    rw [this] at w
    exact w
   | true =>
    rw [aE5 rfl] at q5 ⊢
    refine q5 S G5 H5 F5 _ I5 fun y G6 H6 F6 d6 e6 I6 g6 r6 q6=>?_
    obtain ⟨w,ac⟩:=fin S G6 H6 F6 e6 (yd ++ [d6]) (ys ++ [y]) (.lst ys) I6 q6.2 ((ry.same (o.gg.trans (g4.trans (g5.trans g6)))).append (.cons r6 .nil))
    exact ⟨ac,by rw [ry.length];exact big (by have:=q6.1;omega),w⟩
  ·have ei:i=ds.length:=by omega
   subst ei
   refine .inl ⟨it.stop _ G2 H2 g2 I2.gh rfl,?_⟩
   have q:=jd yd e jv
   have eb:aip src U e=env2:=by
    apply aF2
    intro c
    unfold aip
    rw [afr,Nat.zero_add]
    have P:M c=false->env2[c]?=U[c]?:=fun hm=>un c (by simp [inv,hm])
    cases e2:U[c]? with
    | none =>
     rw [P (by simp [M,e2]),e2];rfl
    | some o =>
     cases o with
     | none=>rw [P (by simp [M,e2]),e2];rfl
     | some t =>
      have a5:∀ A,(t=.own A\/t=.io A)->M c=true:=fun A h=>by rcases h with rfl | rfl <;> simp [M,e2]
      cases t with
      | st d=>rw [P (by simp [M,e2]),e2];rfl
      | scr ns=>rw [P (by simp [M,e2]),e2];rfl
      | own A =>
       have hm:=a5 A (.inl rfl)
       simp only [aH2,ags]
       cases e3:idxE c src 0 with
       | none =>
        have:inv c=none:=by simp [inv,e3]
        rw [un c this,e2]
       | some j =>
        have f:inv c=some j:=by simp [inv,hm,e3]
        obtain ⟨A0,A1,Y,C⟩:=mv c j f
        simp only [Y]
        rcases C with ⟨h3,C⟩ | ⟨h3,C⟩
        ·rw [C]
        ·rw [e2] at h3;cases h3
      | io A =>
       have hm:=a5 A (.inr rfl)
       simp only [aH2,ags]
       cases e3:idxE c src 0 with
       | none =>
        have:inv c=none:=by simp [inv,e3]
        rw [un c this,e2]
       | some j =>
        have f:inv c=some j:=by simp [inv,hm,e3]
        obtain ⟨A0,A1,Y,C⟩:=mv c j f
        simp only [Y]
        rcases C with ⟨h3,C⟩ | ⟨h3,C⟩
        ·rw [e2] at h3;cases h3
        ·rw [C]
   rw [eb] at q
   refine k (.ref p) G2 H2 F2 (· = p) (.own (OL yd)) env2 I2 (g1.trans g2) ⟨⟨p,ys,rfl,a3,ry,fun b=>Iff.rfl⟩,fun a z=>by rw [z];exact hb,fun a z=>by rw [z];exact ga,fun a z=>by rw [z];exact ⟨_,a3⟩,fun j a z=>by rw [z];exact fa j⟩ q
end
def noIo (e:En):Bool:=e.all fun s => !isIo s
theorem asu {e:En} {j:Nat} {x:Option Sl} (h:noIo e=true) (a:e[j]?=some x):isIo x=false:=by
 have:=aE4.mp h x (aA2 a)
 simpa using this
theorem aff {src:List (Option Nat)} {b e:En} (h:noIo (aaj src b)=true):aip src b e=b:=by
 apply aF2
 intro i
 unfold aip
 rw [afr,Nat.zero_add]
 cases e2:b[i]? with
 | none=>rfl
 | some o =>
  have a:∀ A,(o=some (.own A)\/o=some (.io A))->idxE i src 0=none:=fun A c=>by
   cases e3:idxE i src 0 with
   | none=>rfl
   | some j =>
    have f:=(aeu e3).2
    have:(aaj src b)[j]?=some (some (.io A)):=by
     unfold aaj
     rw [aA5,show src[j]?=some (some i) by simpa using f]
     rcases c with rfl | rfl <;> simp [e2,aio]
    have:=asu h this
    simp [isIo] at this
  cases o with
  | none=>rfl
  | some t =>
   cases t with
   | st d=>rfl
   | scr ns=>rfl
   | own A=>simp only [aH2,ags,a A (.inl rfl)]
   | io A=>simp only [aH2,ags,a A (.inr rfl)]
def stO:Option PyData->Option Sl:=Option.map Sl.st
theorem isIo_stO {o:Option PyData}:isIo (stO o)=false:=by cases o <;> rfl
theorem ab9 {o:Option PyData}:agt (stO o)=false:=by cases o <;> rfl
theorem acv {src:List (Option Nat)} {b:En}:∀ x∈aaj src b,agt x=false:=by
 intro x a
 unfold aaj at a
 obtain ⟨o,_,rfl⟩:=aB6.mp a
 cases o with
 | none=>rfl
 | some j =>
  dsimp only
  cases (b[j]?).getD none with
  | none=>rfl
  | some t=>cases t <;> rfl
theorem acz:∀ {e:En},(∀ x∈e,agt x=false)->ioLe e e
 | [],_=>True.intro
 | x :: r,h=>⟨⟨rfl,h x aB7⟩,acz fun y a=>h y (aB4 _ a)⟩
section
variable {B:Bs} {env:En} {g:TG} {tif:TT} {te:TE} {K:Frag} {src:List (Option Nat)} {ds:List PyData} {e1:En} {R:List PyData->En->Prop}
theorem asv (f:PyData->PyData) (p:PyData->Bool) (n:noIo (aaj src e1)=true) (B:ds.length<=999999)
  (h:∀ d∈ds,∀ a:Bs,a.K=K->EvT a tif (some (.st d) :: aaj src e1) fun b j=>b=p d/\j=some (.st d) :: aaj src e1/\(b=true->Ev a te (some (.st d) :: aaj src e1) fun y g=>y=f d/\g=some (.st d) :: aaj src e1))
  (x:R ((ds.filter p).map f) e1):LcV K (none :: src) (aas 0) tif te ds e1 R:=by
 have c:noIo (aaj (none :: src) e1)=true:=by
  show ((none :: aaj src e1).all fun s => !isIo s)=true
  rw [List.all_cons]
  exact (aG1 _ _).mpr ⟨rfl,n⟩
 refine ⟨fun i ys e=>ys=((ds.take i).filter p).map f/\∃ o,e=stO o :: aaj src e1,⟨by simp,none,rfl⟩,?_,?_,?_⟩
 ·rintro i ys e ⟨_,o,rfl⟩
  exact ⟨⟨isIo_stO.symm,ab9⟩,acz acv⟩
 ·rintro i d ys e hd ⟨rfl,o,rfl⟩ a A
  have hi:i < ds.length:=(aA1.mp hd).1
  have q:ds.take (i+1)=ds.take i ++ [d]:=by rw [aG4,hd];rfl
  refine aar ?_
  show EvT a tif (some (.st d) :: aaj src e1) _
  intro σ G H F Q I k
  refine h d (aA2 hd) a A σ G H F Q I fun b G' H' F' j m g' ⟨hb,u,r⟩=>k b G' H' F' j m g' ?_
  subst u
  by_cases hp:b=true
  ·rw [aE5 hp]
   intro σ G H F Q I k
   refine r hp σ G H F Q I fun v G' H' F' d' g m g' w ⟨z,l⟩=>k v G' H' F' d' g m g' w ?_
   subst z l
   refine ⟨?_,?_,some d,rfl⟩
   ·have:=List.length_filter_le p (ds.take i)
    simp only [aA3]
    have C:(ds.take i).length<=i:=by simp;omega
    omega
   ·rw [q,List.filter_append,aD7]
    have:p d=true:=by rw [← hb];exact hp
    simp [this]
  ·rw [aE6 hp]
   refine ⟨?_,some d,rfl⟩
   rw [q,List.filter_append,aD7]
   have:p d=false:=by rw [← hb];simpa using hp
   simp [this]
 ·rintro ys e ⟨rfl,o,rfl⟩
  rw [aff c,aF8]
  exact x
theorem adg {α:Type} (xs:List α):xs.filter (fun _=>true)=xs:=by simp
theorem avt (f:PyData->PyData) (b:noIo (aaj src e1)=true) (c:ds.length<=999999)
  (h:∀ d∈ds,∀ a:Bs,a.K=K->Ev a te (some (.st d) :: aaj src e1) fun y g=>y=f d/\g=some (.st d) :: aaj src e1)
  (j:R (ds.map f) e1):LcV K (none :: src) (aas 0) tYes te ds e1 R :=
 asv f (fun _=>true) b c (fun d hd a i=>acj ⟨rfl,rfl,fun _=>h d hd a i⟩) (by rw [adg];exact j)
theorem ahp {w:Frag} {α:Type} {xs:List α} {fa fb : α->PyData} (f : α->PyData) (p : α->Bool) (n:noIo (aaj src e1)=true) (D:xs.length<=999999)
  (h:∀ x∈xs,∀ a:Bs,a.K=K->EvT a tif (some (.st (fa x)) :: some (.st (fb x)) :: aaj src e1) fun b j=>b=p x/\j=some (.st (fa x)) :: some (.st (fb x)) :: aaj src e1/\(b=true->Ev a te (some (.st (fa x)) :: some (.st (fb x)) :: aaj src e1) fun y g=>y=f x/\g=some (.st (fa x)) :: some (.st (fb x)) :: aaj src e1))
  (A:R ((xs.filter p).map f) e1):LcV K (none :: none :: src) (gTup w 2 (aa8 (aas 0) (aa8 (aas 1) gNil))) tif te (xs.map fun x => .tuple [fa x,fb x]) e1 R:=by
 have c:noIo (aaj (none :: none :: src) e1)=true:=by
  show ((none :: none :: aaj src e1).all fun s => !isIo s)=true
  rw [List.all_cons,List.all_cons]
  exact (aG1 _ _).mpr ⟨rfl,(aG1 _ _).mpr ⟨rfl,n⟩⟩
 refine ⟨fun i ys e=>ys=((xs.take i).filter p).map f/\∃ o o',e=stO o :: stO o' :: aaj src e1,⟨by simp,none,none,rfl⟩,?_,?_,?_⟩
 ·rintro i ys e ⟨_,o,o',rfl⟩
  exact ⟨⟨isIo_stO.symm,ab9⟩,⟨isIo_stO.symm,ab9⟩,acz acv⟩
 ·rintro i d ys e hd ⟨rfl,o,o',rfl⟩ a C
  rw [aA5] at hd
  cases hx:xs[i]? with
  | none=>rw [hx] at hd;cases hd
  | some x =>
   rw [hx] at hd
   cases hd
   have hi:i < xs.length:=(aA1.mp hx).1
   have q:xs.take (i+1)=xs.take i ++ [x]:=by rw [aG4,hx];rfl
   refine afd rfl (abh (aar (abh (aar (adj ?_)))))
   show EvT a tif (some (.st (fa x)) :: some (.st (fb x)) :: aaj src e1) _
   intro σ G H F Q I k
   refine h x (aA2 hx) a C σ G H F Q I fun b G' H' F' j m g' ⟨hb,u,r⟩=>k b G' H' F' j m g' ?_
   subst u
   by_cases hp:b=true
   ·rw [aE5 hp]
    intro σ G H F Q I k
    refine r hp σ G H F Q I fun v G' H' F' d' g m g' z ⟨B,l⟩=>k v G' H' F' d' g m g' z ?_
    subst B l
    refine ⟨?_,?_,some _,some _,rfl⟩
    ·have:=List.length_filter_le p (xs.take i)
     simp only [aA3]
     have E:(xs.take i).length<=i:=by simp;omega
     omega
    ·rw [q,List.filter_append,aD7]
     have:p x=true:=by rw [← hb];exact hp
     simp [this]
   ·rw [aE6 hp]
    refine ⟨?_,some _,some _,rfl⟩
    rw [q,List.filter_append,aD7]
    have:p x=false:=by rw [← hb];simpa using hp
    simp [this]
 ·rintro ys e ⟨rfl,o,o',rfl⟩
  rw [aff c]
  simpa using A
end
section
variable {R:Sl->Prop}
theorem avu {g:Int->Int->Int} {i j:Int} (h:R (.st (.int (g i j)))):Op2 (rI0 fun i j => .int (g i j)) (.int i) (.int j) R:=fun G H c d Q gh b a k=>by
 cases b;cases a
 exact ⟨i,j,rfl,rfl,k _ _ _ _ _ (Out.refl gh (.int _)) h⟩
theorem avv {g:Int->Int->Bool} {i j:Int} (h:R (.st (.bool (g i j)))):Op2 (rI0 fun i j => .bl (g i j)) (.int i) (.int j) R:=fun G H c d Q gh b a k=>by
 cases b;cases a
 exact ⟨i,j,rfl,rfl,k _ _ _ _ _ (Out.refl gh (.bl _)) h⟩
theorem ayc {C:Int->Int->Prop} {g:Int->Int->Int} {i j:Int} (a:C i j) (h:R (.st (.int (g i j)))):Op2 (rI C fun i j => .int (g i j)) (.int i) (.int j) R:=fun G H d f Q gh c b k=>by
 cases c;cases b
 exact ⟨i,j,rfl,rfl,a,k _ _ _ _ _ (Out.refl gh (.int _)) h⟩
theorem avw {i j:Int} (h:R (.st (.bool (decide (i=j))))):Op2 rEq (.int i) (.int j) R:=fun G H c d Q gh b a k=>by
 cases b;cases a
 exact aqi (k _ _ _ _ _ (Out.refl gh (.bl _)) h)
theorem ad7 {x y:PyData} (a:aat x=true) (b:aat y=true) (hd:x.depth<=60) (h:R (.st (.bool (!PyData.eqv x y)))):Op2 rNeD x y R:=fun G H f g Q gh d c k =>
 ⟨x,y,(d.rep a).same gh,(c.rep b).same gh,a,b,hd,k _ _ _ _ _ (Out.refl gh (.bl _)) h⟩
theorem ajp {a:Bool} {x:PyData} {es:List PyData} (b:aat x=true) (c:plainDs es=true) (hd:x.depth<=60) (h:R (.st (.bool (if a then !es.any (fun z=>PyData.eqv z x) else es.any (fun z=>PyData.eqv z x))))):Op2 (rInD a) x (.list es) R:=fun G H g i Q gh f d k =>
 ⟨x,es,(f.rep b).same gh,.inl ((d.rep (by simpa [aat] using c)).same gh),b,c,hd,k _ _ _ _ _ (Out.refl gh (.bl _)) h⟩
theorem Rps.at {G:Hp} {vs:List V} {ds:List PyData} {i:Int} {d:PyData} (r:Rps G vs ds) (h:atI ds i=some d):∃ v,atI vs i=some v/\Rp G v d:=by
 unfold atI at h ⊢
 rw [r.length]
 cases e:ixN ds.length i with
 | none=>rw [e] at h;cases h
 | some j =>
  rw [e] at h
  exact r.get h
theorem avx {K:Frag} {ds:List PyData} {i:Int} {d:PyData} (hd:atI ds i=some d) (h:R (.st d)):Op2 (ada K) (.list ds) (.int i) R:=fun G H g j Q gh c b k=>by
 cases b
 cases c with
 | lst ha rs =>
  obtain ⟨v,a,f⟩:=rs.at hd
  exact afo (gh _ _ ha) a (k _ _ _ _ _ (Out.refl gh f) h)
theorem avy {K:Frag} {ds:List PyData} {i:Int} {d:PyData} (hd:atI ds i=some d) (h:R (.st d)):Op2 (ada K) (.tuple ds) (.int i) R:=fun G H g j Q gh c b k=>by
 cases b
 cases c with
 | tup ha rs =>
  obtain ⟨v,a,f⟩:=rs.at hd
  exact ahk (gh _ _ ha) a (k _ _ _ _ _ (Out.refl gh f) h)
def isNone:PyData->Bool
 | .none=>true
 | _=>false
theorem avz {G:Hp} {v:V} {x:PyData} (r:Rp G v x):decide (v=.non)=isNone x:=by cases r <;> rfl
theorem av0 {x:PyData} (h:R (.st (.bool (isNone x)))):Op2 rIsN x .none R:=fun G H c d Q gh b a k=>by
 cases a
 refine ⟨rfl,?_⟩
 rw [avz b]
 exact k _ _ _ _ _ (Out.refl gh (.bl _)) h
theorem av1 {xs ys:List PyData} (a:xs.length+ys.length<=1000000) (h:R (.own (OL (xs ++ ys)))):Op2 rCat (.list xs) (.list ys) R:=fun G H f g Q gh c b k=>by
 cases c with
 | lst ha ra =>
  cases b with
  | lst hb rb =>
   refine axy (gh _ _ ha) (gh _ _ hb) ?_ fun p d=>k _ _ _ _ _ (Out.newL gh d (ra.append rb)) h
   rw [ra.length,rb.length];exact aF5 (big a)
theorem av2 {xs:List PyData} {n:Int} (c : -(2 ^ 63)<=n) (b:n < 2 ^ 63) (a:xs.length * n.toNat<=1000000) (h:R (.own (OL (List.replicate n.toNat xs).flatten))):Op2 rRep (.list xs) (.int n) R:=fun G H i j Q gh g f k=>by
 cases f
 cases g with
 | lst ha ra =>
  refine ⟨_,n,_,rfl,rfl,gh _ _ ha,c,b,?_,fun p d=>k _ _ _ _ _ (Out.newL gh d (ra.rep _)) h⟩
  rw [ra.length];exact aF5 (big a)
theorem asw {K:Frag} {xs:List PyData} (h:R (.st (.int xs.length))):OpA (rLen K) [.list xs] R:=fun G H vs Q gh rs k=>by
 cases rs with
 | cons r t =>
  cases t
  cases r with
  | lst ha ra =>
   refine anw (gh _ _ ha) ?_
   rw [ra.length]
   exact k _ _ _ _ _ (Out.refl gh (.int _)) h
theorem asx {i j:Int} (h:R (.st (.int (if j > i then j else i)))):OpA ak4 [.int i,.int j] R:=fun G H vs Q gh rs k=>by
 obtain rfl:vs=[V.int i,V.int j]:=Rps.ints_inv (ns:=[i,j]) rs
 exact anx (k _ _ _ _ _ (Out.refl gh (.int _)) h)
theorem asz {i j:Int} (h:R (.st (.int (if j < i then j else i)))):OpA ak5 [.int i,.int j] R:=fun G H vs Q gh rs k=>by
 obtain rfl:vs=[V.int i,V.int j]:=Rps.ints_inv (ns:=[i,j]) rs
 exact anz (k _ _ _ _ _ (Out.refl gh (.int _)) h)
theorem as0 {b:Bool} (h:R (.st (.int (if b then 1 else 0)))):OpA ak6 [.bool b] R:=fun G H vs Q gh rs k=>by
 cases rs with
 | cons r t =>
  cases t;cases r
  exact an0 (k _ _ _ _ _ (Out.refl gh (.int _)) h)
theorem adl {K:Frag} {ns:List Int} (a:ns ≠ []) (h:∀ m,ady ns m->R (.st (.int m))):OpA (agp K) [.list (ns.map .int)] R:=fun G H vs Q gh rs k=>by
 cases rs with
 | cons r t =>
  cases t
  cases r with
  | lst ha ra =>
   have:=Rps.ints_inv ra
   subst this
   exact ⟨_,ns,rfl,.inl (SqL.of (gh _ _ ha)),a,fun m hm=>k _ _ _ _ _ (Out.refl gh (.int _)) (h m hm)⟩
end
section
variable {B:Bs} {env:En} {QO:Sl->En->Prop} {Q':PyData->En->Prop} {te tl th:TE} {K:Frag}
def cutD (xs:List PyData) (lo hi:Option Int):List PyData:=(xs.drop (HT.sIx xs.length 0 lo)).take (HT.sIx xs.length xs.length hi - HT.sIx xs.length 0 lo)
def EvOp (B:Bs) (t:TO) (env:En) (Q':Option Int->En->Prop):Prop:=∀ (σ:St) (G H:Hp) (F:Nat->Addr->Prop) (Q:Option Int->Hp->Prop),VI B G H σ env F->(∀ o G' H' F' env',VI B G' H' σ env' F'->Same G G'->Q' o env'->Q o H')->t σ H Q
theorem as4 {a:Option Int->En->Prop} (q:a none env):EvOp B anp env a:=fun σ G H F Q I k=>k none G H F env I (Same.refl _) q
theorem as6 {a:Option Int->En->Prop} (h:Ev B te env fun d e=>∃ i,d=.int i/\a (some i) e):EvOp B (aue te) env a:=fun σ G H F Q I k =>
 h σ G H F _ I fun v c g b d n m f o j=>by
  obtain ⟨i,l,q⟩:=j
  subst l;cases o
  exact ⟨i,rfl,k _ c g b n m f q⟩
theorem azu {i:Int} {R:Int->Prop} (h:R i):∃ j,PyData.int i=.int j/\R j:=⟨i,rfl,h⟩
theorem aka {tl j:TO} (h:Ev B te env fun d l=>∃ ds,d=.list ds/\EvOp B tl l fun lo e2=>EvOp B j e2 fun hi c=>QO (.own (OL (cutD ds lo hi))) c):EvO B (tSl (rSlL K) te tl j) env QO:=fun σ G H F Q I k =>
 h σ G H F _ I fun v n u m d l A q J x=>by
  obtain ⟨ds,z,w⟩:=x
  subst z
  cases J with
  | @lst a vs _ ha rs =>
   refine w σ n u m _ A fun lo s H2 F2 e2 y g E=>E σ s H2 F2 _ y fun hi L H3 D c b f C=>?_
   have i:=rs.same (g.trans f)
   refine ⟨a,vs,rfl,SqL.of (b.gh _ _ (f _ _ (g _ _ ha))),fun p r=>?_⟩
   have e:cutV vs lo hi=(vs.drop (HT.sIx ds.length 0 lo)).take (HT.sIx ds.length ds.length hi - HT.sIx ds.length 0 lo):=by unfold cutV;rw [rs.length]
   have o:=Out.newL (xs:=cutV vs lo hi) (ds:=cutD ds lo hi) b.gh r (by rw [e];exact (i.drop _).take _)
   exact k _ _ _ D _ _ c (b.out o).1 (q.trans (g.trans (f.trans o.gg))) (b.out o).2 C
theorem as7 {tl c:TO} (h:Ev B te env fun d b=>∃ ds,d=.list ds/\EvOp B tl b fun lo e2=>EvOp B c e2 fun hi g=>Q' (.list (cutD ds lo hi)) g):Ev B (tSl (rSlL K) te tl c) env Q':=ab8 (aka (by
 intro σ G H F Q I k
 refine h σ G H F Q I fun v G' H' F' d b j f l ⟨ds,i,q⟩=>k v G' H' F' d b j f l ⟨ds,i,?_⟩
 intro σ G H F Q I k
 refine q σ G H F Q I fun lo G' H' F' e a g' q=>k lo G' H' F' e a g' ?_
 intro σ G H F Q I k
 exact q σ G H F Q I fun hi G' H' F' e a g' q=>k hi G' H' F' e a g' (acq q)))
end
def afs:PyData->Bool
 | .none | .bool _ | .int _ | .str _=>true
 | _=>false
theorem ajq {G G':Hp} {v:V} {d:PyData} (r:Rp G v d) (h:afs d=true):Rp G' v d:=by
 cases r with
 | non=>exact .non
 | bl b=>exact .bl b
 | int i=>exact .int i
 | str x=>exact .str x
 | _=>simp [afs] at h
def Has (env:En) (i:Nat) (A:Own):Prop:=env[i]?=some (some (.own A))\/env[i]?=some (some (.io A))
section
variable {B:Bs} {env:En} {QO:Sl->En->Prop} {Q':PyData->En->Prop} {QT:Bool->En->Prop} {QE:En->Prop} {te ta tb tk:TE} {K:Frag} {i:Nat}
theorem VI.has {G H:Hp} {σ:St} {F:Nat->Addr->Prop} {A:Own} (I:VI B G H σ env F) (h:Has env i A):∃ v,σ[i]?=some (some v)/\A.P G H v (F i):=by
 rcases h with h | h
 ·obtain ⟨v,a,q⟩:=I.sl i _ h;exact ⟨v,a,q.1⟩
 ·obtain ⟨v,a,q⟩:=I.sl i _ h;exact ⟨v,a,q.1⟩
theorem VI.moment {G b c H H3:Hp} {σ:St} {F:Nat->Addr->Prop} {v:V} {s:Sl} {Fv:Addr->Prop} (I:VI B G H σ env F) (g:Same G b) (o:Out b H v c H3 s Fv):∃ d,Same G d/\VI B d H3 σ env F:=by
 refine ⟨fun a=>if H a=none then c a else G a,fun a u e=>?_,I.grow (fun a u e=>?_) (fun a u e=>?_) o.hh (fun a u e=>?_) fun a ks e=>?_⟩
 ·show (if H a=none then c a else G a)=some u;rw [aE6 (by rw [I.gh a u e];simp)];exact e
 ·rw [aE6 (by rw [I.gh a u e];simp)];exact e
 ·by_cases h:H a=none
  ·rw [aE5 h] at e;exact o.gh a u e
  ·rw [aE6 h] at e;exact o.hh _ _ (I.gh a u e)
 ·by_cases h:H a=none
  ·exact .inr h
  ·rw [aE6 h] at e;exact .inl e
 ·have f1:FT b H:=fun a ks e=>g _ _ (I.ft a ks e)
  by_cases h:H a=none
  ·rw [aE5 h];exact o.ft f1 a ks e
  ·rw [aE6 h]
   obtain ⟨u,f⟩:=aim h
   have:=o.hh _ _ f
   rw [e] at this
   exact I.ft a ks (by rw [f,← this])
theorem ayd {r:R2} {j:Own} (n:Has env i j) (h:Ev B tb env fun y e2=>∃ A dx,Has e2 i A/\Frz A dx/\Op2 r dx y fun s=>∃ d,s=.st d/\afs d=true/\Q' d e2):Ev B (tOp r (tVar i) tb) env Q':=fun σ G H F Q I k=>by
 obtain ⟨v,c,_⟩:=I.has n
 refine ⟨v,c,h σ G H F _ I fun u g H2 F2 y e2 a q z ⟨A,dx,E,D,f⟩=>?_⟩
 obtain ⟨K,b,ap⟩:=a.has E
 rw [c] at b;cases b
 refine f (jn g H2 (F2 i)) H2 v u Q (ain a.gh) (D _ _ _ _ ap (a.fg i) a.gh) (z.same (abd (a.fg i))) fun w J H3 s Fv o ⟨d,es,x,p⟩=>?_
 subst es
 obtain ⟨C,m,l⟩:=a.moment (abd (a.fg i)) o
 exact k w C H3 F2 d e2 l (q.trans m) (ajq o.ok.1 x) p
theorem aye {r:List V->Hp->VK->Prop} {A:Own} {dx:PyData} (m:Has env i A) (l:Frz A dx) (h:OpA r [dx] fun s=>∃ d,s=.st d/\afs d=true/\Q' d env):Ev B (tCB r (abt (tVar i) tNil)) env Q':=fun σ G H F Q I k=>by
 obtain ⟨v,c,ap⟩:=I.has m
 refine ⟨v,c,h (jn G H (F i)) H [v] Q (ain I.gh) (.cons (l _ _ _ _ ap (I.fg i) I.gh) .nil) fun w n H3 s Fv o ⟨d,es,f,b⟩=>?_⟩
 subst es
 obtain ⟨g,j,a⟩:=I.moment (abd (I.fg i)) o
 exact k w g H3 F d env a j (ajq o.ok.1 f) b
theorem x_sc {d:PyData} {R:PyData->Prop} (a:afs d=true) (h:R d):∃ d',Sl.st d=.st d'/\afs d'=true/\R d':=⟨d,rfl,a,h⟩
theorem ayf {c:List PyData} (r:Has env i (OL c)) (h:Ev B tb env fun y e2=>∃ ds k d,Has e2 i (OL ds)/\y=.int k/\atI ds k=some d/\Q' d e2):Ev B (tOp (ada K) (tVar i) tb) env Q':=fun σ G H F Q I k=>by
 obtain ⟨v,m,_⟩:=I.has r
 refine ⟨v,m,h σ G H F _ I fun u o H2 F2 y e2 l s x ⟨ds,j,d,A,p,f,q⟩=>?_⟩
 subst p
 cases x
 obtain ⟨C,b,a,vs,n,ha,rs,_⟩:=l.has A
 rw [m] at b;cases b
 subst n
 obtain ⟨w,z,g⟩:=rs.at f
 exact afo ha z (k w o H2 F2 d e2 l s g q)
theorem VI.upd1 {G H:Hp} {σ:St} {F:Nat->Addr->Prop} {s:Sl} {A A':Own} {a:Addr} {o:HO} (I:VI B G H σ env F) (e:env[i]?=some (some s)) (h:s=.own A\/s=.io A) (g : σ[i]?=some (some (.ref a))) (hf:∀ b,F i b ↔ b=a) (d:A'.P G (upd H a o) (.ref a) (· = a)) (f:∀ xs,o ≠ .tup xs:=by intro _ z;cases z) :
  VI B G (upd H a o) σ (env.set i (some (reS s A'))) (putF F i (· = a)):=by
 refine I.change (A:=A') i e g (fun b u hb c=>by rw [aae (fun z=>hb ((hf b).mpr z))];exact c) (fun b u c=>?_) (fun b z=>⟨.inl ((hf b).mpr z),by rw [z];exact ⟨_,aah⟩⟩) d (fun b ks e=>?_) ?_
 ·by_cases z:b=a
  ·rw [z];exact ⟨_,aah⟩
  ·rw [aae z];exact ⟨u,c⟩
 ·by_cases z:b=a
  ·subst z;rw [aah] at e;exact absurd (aC5 e) (f _)
  ·rw [aae z] at e;exact I.ft b ks e
 ·rcases h with rfl | rfl
  ·exact .inl ⟨rfl,A,rfl⟩
  ·exact .inr ⟨rfl,A,rfl⟩
theorem aqv {g:List PyData} (w:Has env i (OL g)) (h:Ev B te env fun y e2=>∃ s ds,e2[i]?=some (some s)/\(s=.own (OL ds)\/s=.io (OL ds))/\ds.length<=999999/\Q' .none (e2.set i (some (reS s (OL (ds ++ [y])))))):Ev B (tBM K "list" ad6 (tVar i) (abt te tNil)) env Q':=fun σ G H F Q I k=>by
 obtain ⟨v,j,a,vs,o,ha,rs,_⟩:=I.has w
 subst o
 refine ⟨_,j,.inl ⟨rfl,_,SqL.of ha⟩,h σ G H F _ I fun u p H2 F2 y e2 m x z ⟨s,ds,es,n,C,q⟩=>?_⟩
 have A:Has e2 i (OL ds):=by rcases n with rfl | rfl;exact .inl es;exact .inr es
 obtain ⟨E,d,D,r,f,l,c,hf⟩:=m.has A
 rw [j] at d;cases d;cases f
 refine aes l (by rw [c.length];exact big (by omega)) ?_
 exact k _ p _ _ _ _ (m.upd1 (A':=OL (ds ++ [y])) es n j hf ⟨a,_,rfl,aah,c.append (.cons z .nil),fun b=>Iff.rfl⟩) x .non q
theorem apa {a:List PyData} (f:Has env i (OL a)) (h:Ev B te env fun y e2=>∃ ds,e2[i]?=some (some (.own (OL ds)))/\ds.length<=999999/\Q' .none (e2.set i (some (.own (OL (ds ++ [y])))))):Ev B (tBM K "list" ad6 (tVar i) (abt te tNil)) env Q' :=
 aqv f fun σ G H F Q I k=>h σ G H F Q I fun v G' H' F' d e j g r ⟨ds,c,b,q⟩=>k v G' H' F' d e j g r ⟨_,ds,c,.inl rfl,b,q⟩
theorem apb {j:List PyData} (w:Has env i (OL j)) (h:Ev B te env fun y e2=>∃ ds ys,y=.list ys/\e2[i]?=some (some (.own (OL ds)))/\ds.length+ys.length<=1000000/\Q' .none (e2.set i (some (.own (OL (ds ++ ys)))))):Ev B (tBM K "list" ai9 (tVar i) (abt te tNil)) env Q':=fun σ G H F Q I k=>by
 obtain ⟨v,l,a,vs,o,ha,rs,_⟩:=I.has w
 subst o
 refine ⟨_,l,.inl ⟨rfl,_,SqL.of ha⟩,h σ G H F _ I fun u p H2 F2 y e2 f x z ⟨ds,ys,r,es,n,q⟩=>?_⟩
 subst r
 cases z with
 | lst hb rb =>
  obtain ⟨C,d,A,s,g,m,c,hf⟩:=f.has (.inl es)
  rw [l] at d;cases d;cases g
  refine aqj m (f.gh _ _ hb) (by rw [c.length,rb.length];exact aF5 (big n)) ?_
  exact k _ p _ _ _ _ (f.upd1 (A':=OL (ds ++ ys)) es (.inl rfl) l hf ⟨a,_,rfl,aah,c.append rb,fun b=>Iff.rfl⟩) x .non q
theorem as8 {l:List PyData} (L:Has env i (OL l)) (h:Ev B te env fun y e2=>∃ s ds j n d,y=.int j/\e2[i]?=some (some s)/\(s=.own (OL ds)\/s=.io (OL ds))/\-(2 ^ 63)<=j/\j < 2 ^ 63/\seqIndex? j ds.length=some n/\ds[n]?=some d/\Q' d (e2.set i (some (reS s (OL (ds.eraseIdx n)))))):Ev B (tBM K "list" aln (tVar i) (abt te tNil)) env Q':=fun σ G H F Q I k=>by
 obtain ⟨v,m,a,vs,A,ha,rs,_⟩:=I.has L
 subst A
 refine ⟨_,m,.inl ⟨rfl,_,SqL.of ha⟩,h σ G H F _ I fun u C H2 F2 y e2 r M N ⟨s,ds,j,n,d,E,es,x,z,D,hn,hd,q⟩=>?_⟩
 subst E
 cases N
 have P:Has e2 i (OL ds):=by rcases x with rfl | rfl;exact .inl es;exact .inr es
 obtain ⟨S,f,R,J,g,p,c,hf⟩:=r.has P
 rw [m] at f;cases f;cases g
 obtain ⟨w,O,o⟩:=c.get hd
 refine asb p z D (by rw [c.length];exact hn) O ?_
 exact k _ C _ _ _ _ (r.upd1 (A':=OL (ds.eraseIdx n)) es x m hf ⟨a,_,rfl,aah,c.erase n,fun b=>Iff.rfl⟩) M o q
theorem as9 {d:PyData} {l:List PyData} (J:Has env i (OL l)) (h:Ev B tk env fun y e2=>∃ s ds k j,y=.int k/\e2[i]?=some (some s)/\(s=.own (OL ds)\/s=.io (OL ds))/\ixN ds.length k=some j/\QE (e2.set i (some (reS s (OL (ds.set j d)))))):EvG B (gSub (tVar i) tk aox) (.st d) env QE:=fun σ G H F v Fv Q I x k=>by
 obtain ⟨E,_⟩:=x.ok
 obtain ⟨N,m,a,vs,z,ha,rs,_⟩:=I.has J
 subst z
 refine ⟨_,m,h σ G H F _ I fun u A H2 F2 y e2 p r K ⟨s,ds,n,j,C,es,w,hj,q⟩=>?_⟩
 subst C
 cases K
 have L:Has e2 i (OL ds):=by rcases w with rfl | rfl;exact .inl es;exact .inr es
 obtain ⟨O,f,M,D,g,o,c,hf⟩:=p.has L
 rw [m] at f;cases f;cases g
 refine anv o (by rw [c.length];exact hj) ?_
 exact k _ A _ _ _ (p.upd1 (A':=OL (ds.set j d)) es w m hf ⟨a,_,rfl,aah,c.set (E.same r) j,fun b=>Iff.rfl⟩) r q
theorem ad8 {t:TS} {D':VEnds} {A:Own} {d:PyData} (i:Nat) (e:env[i]?=some (some (.own A))) (f:Frz A d) (h:EvS B t D' (env.set i (some (.st d)))):EvS B t D' env:=fun σ G H F D I r=>by
 obtain ⟨v,b,a,g,J⟩:=I.frz e f
 exact h σ _ H _ D J (r.later g)
end
def tyD:PyData->String
 | .none => "NoneType" | .bool _ => "bool" | .int _ => "int" | .str _ => "str" | .list _ => "list" | .tuple _ => "tuple" | .dict _ => "dict"
def adm (T:String):Prop:=T = "int"\/T = "bool"\/T = "tuple"\/T = "list"\/T = "str"\/T = "dict"
def isiD (T:String) (d:PyData):Bool:=tyD d == T || (T == "int" && tyD d == "bool")
theorem aum {K:Frag} {H:Hp} {v:V} {d:PyData} (r:Rp H v d):TyOf K H v (.type (tyD d)):=by
 cases r with
 | non=>exact .non
 | bl b=>exact .bl b
 | int i=>exact .int i
 | str x=>exact .str x
 | lst h _=>exact .lst h
 | tup h _=>exact .tup h
 | dk h _ _=>exact .dK h
 | dt h _ _=>exact .dT h
theorem aun {K:Frag} {T:String} (h:adm T) (d:PyData):kitOne K (.type (tyD d)) (.type T)=some (isiD T d):=by
 rcases h with rfl | rfl | rfl | rfl | rfl | rfl
 ·cases d with
  | none=>exact ahl
  | bool _=>exact al3
  | int _=>exact ana
  | str _=>exact anc
  | list _=>exact amb
  | tuple _=>exact akr
  | dict _=>exact amd
 ·cases d with
  | none=>exact ag1
  | bool _=>exact akj
  | int _=>exact al5
  | str _=>exact al8
  | list _=>exact ako
  | tuple _=>exact ajl
  | dict _=>exact akt
 ·cases d with
  | none=>exact af8
  | bool _=>exact ajj
  | int _=>exact akm
  | str _=>exact akn
  | list _=>exact ajk
  | tuple _=>exact aik
  | dict _=>exact ajo
 ·cases d with
  | none=>exact ag2
  | bool _=>exact akk
  | int _=>exact al6
  | str _=>exact al9
  | list _=>exact akp
  | tuple _=>exact ajm
  | dict _=>exact aku
 ·cases d with
  | none=>exact ahm
  | bool _=>exact al4
  | int _=>exact anb
  | str _=>exact ane
  | list _=>exact amc
  | tuple _=>exact aks
  | dict _=>exact ame
 ·cases d with
  | none=>exact ag3
  | bool _=>exact akl
  | int _=>exact al7
  | str _=>exact ama
  | list _=>exact akq
  | tuple _=>exact ajn
  | dict _=>exact akv
section
variable {B:Bs} {env:En} {QO:Sl->En->Prop} {Q':PyData->En->Prop} {QT:Bool->En->Prop} {QE:En->Prop} {te ta tb tk:TE} {K:Frag} {i:Nat}
theorem ayg {T:String} (j:adm T) (h:Ev B te env fun d e=>Q' (.bool (isiD T d)) e):Ev B (tCB (rIsi K) (abt te (abt (tC (.ty T)) tNil))) env Q':=fun σ G H F Q I k =>
 h σ G H F _ I fun v c g b d l a f m i=>⟨v,T,_,_,rfl,aum (m.same a.gh),aun j d,k _ c g b _ l a f (.bl _) i⟩
theorem ayh:adm "int":=.inl rfl
theorem av3:adm "bool":=.inr (.inl rfl)
theorem ata:adm "tuple":=.inr (.inr (.inl rfl))
theorem av4:adm "list":=.inr (.inr (.inr (.inl rfl)))
theorem atb {A:Own} {D':VEnds} (e:env[i]?=some (some (.own A))) (q:D'.rt (.own A) (env.set i none)):EvS B (tRet (tVar i)) D' env:=an9 (asl e q)
theorem azv {n m:Nat} {P:Prop} (h:n<=m) (q:P):n<=m/\P:=⟨h,q⟩
theorem ayi {ds:List PyData} {e2:En} {R:List PyData->Prop} (e:e2[i]?=some (some (.own (OL ds)))) (a:ds.length<=999999) (q:R ds):∃ ds,e2[i]?=some (some (.own (OL ds)))/\ds.length<=999999/\R ds:=⟨ds,e,a,q⟩
theorem azw {ds:List PyData} {d:PyData} {k:Int} {e2:En} {R:PyData->Prop} (b:Has e2 i (OL ds)) (h:atI ds k=some d) (q:R d):∃ ds a d,Has e2 i (OL ds)/\PyData.int k=.int a/\atI ds a=some d/\R d:=⟨ds,k,d,b,rfl,h,q⟩
theorem apc {ds:List PyData} {k:Int} {j:Nat} {e2:En} {R:Sl->List PyData->Nat->Prop} (e:e2[i]?=some (some (.own (OL ds)))) (hj:ixN ds.length k=some j) (q:R (.own (OL ds)) ds j):∃ s ds a j,PyData.int k=.int a/\e2[i]?=some (some s)/\(s=.own (OL ds)\/s=.io (OL ds))/\ixN ds.length a=some j/\R s ds j:=⟨_,ds,k,j,rfl,e,.inl rfl,hj,q⟩
theorem ayj {ds:List PyData} {k:Int} {j:Nat} {e2:En} {R:Sl->List PyData->Nat->Prop} (e:e2[i]?=some (some (.io (OL ds)))) (hj:ixN ds.length k=some j) (q:R (.io (OL ds)) ds j):∃ s ds a j,PyData.int k=.int a/\e2[i]?=some (some s)/\(s=.own (OL ds)\/s=.io (OL ds))/\ixN ds.length a=some j/\R s ds j:=⟨_,ds,k,j,rfl,e,.inr rfl,hj,q⟩
theorem azx {A:Own} {dx:PyData} {e2:En} {P:PyData->Prop} (b:Has e2 i A) (a:Frz A dx) (q:P dx):∃ A dx,Has e2 i A/\Frz A dx/\P dx:=⟨A,dx,b,a,q⟩
theorem x_st {b:Bool} {R:Bool->Prop} (h:R b):∃ c,Sl.st (.bool b)=.st (.bool c)/\R c:=⟨b,rfl,h⟩
theorem ayk {b:Bool} {R:Bool->Prop} (h:R b):∃ k,TruD (.bool b) k/\R k:=⟨b,rfl,h⟩
theorem atc {ds:List PyData} {R:Bool->Prop} (h:R (!ds.isEmpty)):∃ k,TruD (.list ds) k/\R k:=⟨_,rfl,h⟩
theorem lenP {f:VP} {n:Nat} {vs:List V} {H:Hp} {Q:VK} {E:XK} (h:spP K f vs H Q E) (hf:∀ ss a,f ss a->ss.length=n):vs.length=n:=by
 obtain ⟨G,ss,a,_,_,b,q,_⟩:=h
 rw [b.length];exact hf ss a q
theorem lenI {f:VIo} {n:Nat} {vs:List V} {H:Hp} {Q:VK} {E:XK} (h:spI K f vs H Q E) (hf:∀ A ss a,f A ss a->ss.length+1=n):vs.length=n:=by
 obtain ⟨v0,c,G,R,A,ss,F0,a,rfl,_,_,_,_,_,_,b,q,_⟩:=h
 rw [aD8,b.length];exact hf A ss a q
theorem azy {P Q:Prop} (h:P) (q:Q):P/\Q:=⟨h,q⟩
theorem azz {src:List (Option Nat)} {j:TI} {g:TG} {f:TT} (nd:(src.filterMap id).Nodup) (h:EvI B j env fun ds i=>LcV B.K src g f te ds i fun ys e2=>Q' (.list ys) e2):Ev B (tLC src j g f te) env Q':=ab8 (aqu nd fun σ G H F R I k=>h σ G H F R I fun J G' H' F' ds i m g' it ⟨l,a,b,c,d⟩=>k J G' H' F' ds i m g' it ⟨l,a,b,c,fun ys e q=>acq (d ys e q)⟩)
end
end VL
namespace VL
open PySem L2
section
variable {B:Bs} {QE:En->Prop} {Q':PyData->En->Prop} {s:Sl} {r:En} {A:Own} {d:PyData} {x0 x1 x2 x3 x4 x5 x6 x7 x8 x9 x10 x11 x12 x13 x14 x15 x16 x17 x18 x19 x20 x21 x22 x23 x24 x25:Option Sl}
theorem ayl (h:QE (x0 :: some s :: r)):EvG B (aas 1) s (x0 :: x1 :: r) QE:=aar h
theorem aym (h:QE (x0 :: x1 :: some s :: r)):EvG B (aas 2) s (x0 :: x1 :: x2 :: r) QE:=aar h
theorem ayn (h:QE (x0 :: x1 :: x2 :: some s :: r)):EvG B (aas 3) s (x0 :: x1 :: x2 :: x3 :: r) QE:=aar h
theorem ayo (h:QE (x0 :: x1 :: x2 :: x3 :: some s :: r)):EvG B (aas 4) s (x0 :: x1 :: x2 :: x3 :: x4 :: r) QE:=aar h
theorem ayp (h:QE (x0 :: x1 :: x2 :: x3 :: x4 :: some s :: r)):EvG B (aas 5) s (x0 :: x1 :: x2 :: x3 :: x4 :: x5 :: r) QE:=aar h
theorem ayq (h:QE (x0 :: x1 :: x2 :: x3 :: x4 :: x5 :: some s :: r)):EvG B (aas 6) s (x0 :: x1 :: x2 :: x3 :: x4 :: x5 :: x6 :: r) QE:=aar h
theorem ayr (h:QE (x0 :: x1 :: x2 :: x3 :: x4 :: x5 :: x6 :: some s :: r)):EvG B (aas 7) s (x0 :: x1 :: x2 :: x3 :: x4 :: x5 :: x6 :: x7 :: r) QE:=aar h
theorem ays (h:QE (x0 :: x1 :: x2 :: x3 :: x4 :: x5 :: x6 :: x7 :: some s :: r)):EvG B (aas 8) s (x0 :: x1 :: x2 :: x3 :: x4 :: x5 :: x6 :: x7 :: x8 :: r) QE:=aar h
theorem ayt (h:QE (x0 :: x1 :: x2 :: x3 :: x4 :: x5 :: x6 :: x7 :: x8 :: some s :: r)):EvG B (aas 9) s (x0 :: x1 :: x2 :: x3 :: x4 :: x5 :: x6 :: x7 :: x8 :: x9 :: r) QE:=aar h
theorem av5 (h:QE (x0 :: x1 :: x2 :: x3 :: x4 :: x5 :: x6 :: x7 :: x8 :: x9 :: some s :: r)):EvG B (aas 10) s (x0 :: x1 :: x2 :: x3 :: x4 :: x5 :: x6 :: x7 :: x8 :: x9 :: x10 :: r) QE:=aar h
theorem av6 (h:QE (x0 :: x1 :: x2 :: x3 :: x4 :: x5 :: x6 :: x7 :: x8 :: x9 :: x10 :: some s :: r)):EvG B (aas 11) s (x0 :: x1 :: x2 :: x3 :: x4 :: x5 :: x6 :: x7 :: x8 :: x9 :: x10 :: x11 :: r) QE:=aar h
theorem av7 (h:QE (x0 :: x1 :: x2 :: x3 :: x4 :: x5 :: x6 :: x7 :: x8 :: x9 :: x10 :: x11 :: some s :: r)):EvG B (aas 12) s (x0 :: x1 :: x2 :: x3 :: x4 :: x5 :: x6 :: x7 :: x8 :: x9 :: x10 :: x11 :: x12 :: r) QE:=aar h
theorem av8 (h:QE (x0 :: x1 :: x2 :: x3 :: x4 :: x5 :: x6 :: x7 :: x8 :: x9 :: x10 :: x11 :: x12 :: some s :: r)):EvG B (aas 13) s (x0 :: x1 :: x2 :: x3 :: x4 :: x5 :: x6 :: x7 :: x8 :: x9 :: x10 :: x11 :: x12 :: x13 :: r) QE:=aar h
theorem av9 (h:QE (x0 :: x1 :: x2 :: x3 :: x4 :: x5 :: x6 :: x7 :: x8 :: x9 :: x10 :: x11 :: x12 :: x13 :: some s :: r)):EvG B (aas 14) s (x0 :: x1 :: x2 :: x3 :: x4 :: x5 :: x6 :: x7 :: x8 :: x9 :: x10 :: x11 :: x12 :: x13 :: x14 :: r) QE:=aar h
theorem awa (h:QE (x0 :: x1 :: x2 :: x3 :: x4 :: x5 :: x6 :: x7 :: x8 :: x9 :: x10 :: x11 :: x12 :: x13 :: x14 :: some s :: r)):EvG B (aas 15) s (x0 :: x1 :: x2 :: x3 :: x4 :: x5 :: x6 :: x7 :: x8 :: x9 :: x10 :: x11 :: x12 :: x13 :: x14 :: x15 :: r) QE:=aar h
theorem awb (h:QE (x0 :: x1 :: x2 :: x3 :: x4 :: x5 :: x6 :: x7 :: x8 :: x9 :: x10 :: x11 :: x12 :: x13 :: x14 :: x15 :: some s :: r)):EvG B (aas 16) s (x0 :: x1 :: x2 :: x3 :: x4 :: x5 :: x6 :: x7 :: x8 :: x9 :: x10 :: x11 :: x12 :: x13 :: x14 :: x15 :: x16 :: r) QE:=aar h
theorem awc (h:QE (x0 :: x1 :: x2 :: x3 :: x4 :: x5 :: x6 :: x7 :: x8 :: x9 :: x10 :: x11 :: x12 :: x13 :: x14 :: x15 :: x16 :: some s :: r)):EvG B (aas 17) s (x0 :: x1 :: x2 :: x3 :: x4 :: x5 :: x6 :: x7 :: x8 :: x9 :: x10 :: x11 :: x12 :: x13 :: x14 :: x15 :: x16 :: x17 :: r) QE:=aar h
end
end VL
namespace Gr
structure Ring (T:Int->Int->Prop) (a:Int) (k:Nat) (far:Int->Option Nat) (edge:List Int):Prop where
 lab:∀ v d,far v=some d ↔ (Dist T a v d/\d<=k)
 edg:∀ v,v∈edge ↔ Dist T a v k
structure Mid (T:Int->Int->Prop) (k:Nat) (far0:Int->Option Nat) (edge:List Int) (done:Int->Prop) (far:Int->Option Nat) (beyond:List Int):Prop where
 old:∀ v d,far0 v=some d->far v=some d
 new:∀ v,v∈beyond ↔ (far0 v=none/\far v ≠ none)
 val:∀ v d,far0 v=none->far v=some d->d=k+1/\∃ u,u∈edge/\T u v
 dn:∀ u w,done u->T u w->far w ≠ none
def label (far:Int->Option Nat) (w:Int) (d:Nat):Int->Option Nat:=fun v=>if v=w then some d else far v
theorem label_same {far:Int->Option Nat} {w:Int} {d:Nat}:label far w d w=some d:=aE5 rfl
theorem label_ne {far:Int->Option Nat} {w v:Int} {d:Nat} (h:v ≠ w):label far w d v=far v:=aE6 h
variable {T:Int->Int->Prop} {a:Int} {k:Nat} {far0 far:Int->Option Nat} {edge beyond:List Int} {done:Int->Prop}
theorem Ring.start:Ring T a 0 (label (fun _=>none) a 0) [a]:=by
 refine ⟨fun v d=>?_,fun v=>?_⟩
 ·by_cases h:v=a
  ·subst h
   rw [label_same]
   constructor
   ·intro e;cases e;exact ⟨Dist.self T v,aA6 _⟩
   ·rintro ⟨h,_⟩;rw [h.uniq (Dist.self T v)]
  ·rw [label_ne h]
   constructor
   ·intro e;cases e
   ·rintro ⟨b,c⟩
    have:d=0:=by omega
    subst this
    cases b.1
    exact absurd rfl h
 ·simp only [aC1]
  constructor
  ·rintro rfl;exact Dist.self T v
  ·intro h;cases h.1;rfl
theorem Mid.start:Mid T k far0 edge (fun _=>False) far0 [] :=
 ⟨fun v d h=>h,fun v=>⟨fun h=>by simp at h,fun h=>absurd h.1 h.2⟩,fun v d h g=>(by rw [h] at g;cases g),fun u w h=>h.elim⟩
theorem Mid.add (m:Mid T k far0 edge done far beyond) {u w:Int} (i:u∈edge) (t:T u w) (b:far w=none):Mid T k far0 edge done (label far w (k+1)) (beyond ++ [w]):=by
 have a:far0 w=none:=by
  cases e:far0 w with
  | none=>rfl
  | some d=>rw [m.old w d e] at b;cases b
 refine ⟨fun v d h=>?_,fun v=>?_,fun v d h g=>?_,fun x y f c=>?_⟩
 ·rw [label_ne (by rintro rfl;rw [a] at h;cases h)];exact m.old v d h
 ·by_cases hv:v=w
  ·subst hv
   simp [label_same,a]
  ·rw [label_ne hv]
   simp only [aA7,aC1,hv,or_false]
   exact m.new v
 ·by_cases hv:v=w
  ·subst hv
   rw [label_same] at g
   cases g
   exact ⟨rfl,u,i,t⟩
  ·rw [label_ne hv] at g
   exact m.val v d h g
 ·by_cases hv:y=w
  ·subst hv;rw [label_same];simp
  ·rw [label_ne hv];exact m.dn x y f c
theorem Mid.did (m:Mid T k far0 edge done far beyond) {u:Int} (h:∀ w,T u w->far w ≠ none):Mid T k far0 edge (fun x=>done x\/x=u) far beyond :=
 ⟨m.old,m.new,m.val,fun x w a t=>by rcases a with a | rfl;exact m.dn x w a t;exact h w t⟩
theorem Mid.imp {a:Int->Prop} (m:Mid T k far0 edge done far beyond) (h:∀ u,a u->done u):Mid T k far0 edge a far beyond :=
 ⟨m.old,m.new,m.val,fun x w b t=>m.dn x w (h x b) t⟩
theorem Ring.next (r:Ring T a k far0 edge) (m:Mid T k far0 edge done far beyond) (hd:∀ u∈edge,done u):Ring T a (k+1) far beyond:=by
 have g:∀ v,far0 v=none->far v ≠ none->Dist T a v (k+1):=fun v f b=>by
  cases e:far v with
  | none=>exact absurd e b
  | some d =>
   obtain ⟨rfl,u,l,t⟩:=m.val v d f e
   obtain ⟨j,p,h⟩:=((r.edg u).mp l).next t
   by_cases i:j<=k
   ·rw [(r.lab v j).mpr ⟨h,i⟩] at f;cases f
   ·have:j=k+1:=by omega
    rw [← this];exact h
 have c:∀ v,Dist T a v (k+1)->far0 v=none/\far v ≠ none:=fun v h=>by
  refine ⟨?_,?_⟩
  ·cases e:far0 v with
   | none=>rfl
   | some d =>
    obtain ⟨b,n⟩:=(r.lab v d).mp e
    have:=b.uniq h
    omega
  ·obtain ⟨u,t,l⟩:=h.pred
   exact m.dn u v (hd u ((r.edg u).mpr l)) t
 refine ⟨fun v d=>?_,fun v=>⟨fun h=>?_,fun h=>(m.new v).mpr (c v h)⟩⟩
 ·constructor
  ·intro e
   cases e0:far0 v with
   | some d0 =>
    rw [m.old v d0 e0] at e
    cases e
    obtain ⟨b,n⟩:=(r.lab v d).mp e0
    exact ⟨b,by omega⟩
   | none =>
    have i:=(m.val v d e0 e).1
    subst i
    exact ⟨g v e0 (by rw [e];simp),aA6 _⟩
  ·rintro ⟨h,i⟩
   by_cases hd':d<=k
   ·exact m.old v d ((r.lab v d).mpr ⟨h,hd'⟩)
   ·have o:d=k+1:=by omega
    subst o
    obtain ⟨f,b⟩:=c v h
    cases e:far v with
    | none=>exact absurd e b
    | some d=>rw [(m.val v d f e).1]
 ·obtain ⟨f,b⟩:=(m.new v).mp h
  exact g v f b
theorem Dist.down {v:Int}:∀ {d:Nat},Dist T a v d->∀ j,j<=d->∃ u,Dist T a u j
 | 0,h,j,hj=>⟨v,by rw [show j=0 by omega];exact h⟩
 | d+1,h,j,hj=>by
  by_cases e:j=d+1
  ·rw [e];exact ⟨v,h⟩
  ·obtain ⟨u,_,b⟩:=h.pred
   exact Dist.down b j (by omega)
def farO (T:Int->Int->Prop) (a v:Int):Option Nat:=open Classical in if h:∃ d,Dist T a v d then some (Classical.choose h) else none
theorem farO_some {v:Int} {d:Nat}:farO T a v=some d ↔ Dist T a v d:=by
 unfold farO
 constructor
 ·intro h
  split at h
  ·rename_i b
   cases h
   exact Classical.choose_spec b
  ·cases h
 ·intro h
  have b:∃ d,Dist T a v d:=⟨d,h⟩
  rw [dif_pos b,(Classical.choose_spec b).uniq h]
theorem farO_none {v:Int}:farO T a v=none ↔ ∀ d,¬ Dist T a v d:=by
 constructor
 ·intro h d hd
  rw [farO_some.mpr hd] at h;cases h
 ·intro h
  cases e:farO T a v with
  | none=>rfl
  | some d=>exact absurd (farO_some.mp e) (h d)
theorem awd {v:Int} {o:Option Nat} (h:∀ d,o=some d ↔ Dist T a v d):o=farO T a v:=by
 cases o with
 | some d=>exact (farO_some.mpr ((h d).mp rfl)).symm
 | none=>exact (farO_none.mpr fun d hd=>by cases (h d).mpr hd).symm
theorem Ring.fin (r:Ring T a k far0 []) (v:Int):far0 v=farO T a v:=by
 refine awd fun d=>?_
 rw [r.lab]
 refine ⟨fun h=>h.1,fun h=>⟨h,?_⟩⟩
 apply Classical.byContradiction
 intro c
 obtain ⟨u,b⟩:=h.down k (by omega)
 have:=(r.edg u).mpr b
 simp at this
theorem Walk.app {u v w:Int} {i j:Nat} (h:Walk T u i v) (g:Walk T v j w):Walk T u (i+j) w:=by
 induction g with
 | refl=>exact h
 | step _ t ih=>exact .step ih t
theorem Walk.rev (a:∀ u v,T u v->T v u) {u v:Int} {i:Nat} (h:Walk T u i v):Walk T v i u:=by
 induction h with
 | refl=>exact .refl
 | @step j x y _ t ih =>
  have:=(Walk.step (T:=T) (u:=y) .refl (a _ _ t)).app ih
  rw [Nat.add_comm] at this
  exact this
end Gr
namespace VL
open PySem PySem.Spec L2
theorem nodup_ix {α:Type} {xs:List α} (h:xs.Nodup) {i j:Nat} (hi:i < xs.length) (hj:j < xs.length) (e:xs[i]=xs[j]):i=j:=by
 have p:=aF7.mp h
 rcases Nat.lt_trichotomy i j with q | q | q
 ·exact absurd e (p i j hi hj q)
 ·exact q
 ·exact absurd e.symm (p j i hj hi q)
def OLL (dss:List (List PyData)):Own where
 P:=fun G H v F=>∃ (a:Addr) (as:List Addr),v=.ref a/\H a=some (.lst (as.map V.ref))/\as.Nodup/\a ∉ as/\as.length=dss.length/\(∀ (i:Nat) b ds,as[i]?=some b->dss[i]?=some ds->∃ vs,H b=some (.lst vs)/\Rps G vs ds)/\∀ b,F b ↔ b=a\/b∈as
 mono:=fun ⟨a,as,e,h,n1,n2,l,r,f⟩ g hh=>⟨a,as,e,hh a _ ((f a).mpr (.inl rfl)) h,n1,n2,l,fun i b ds hb hd=>by
  obtain ⟨vs,h1,h2⟩:=r i b ds hb hd
  exact ⟨vs,hh b _ ((f b).mpr (.inr (aA2 hb))) h1,h2.same g⟩,f⟩
 dom:=fun ⟨a,as,e,h,n1,n2,l,r,f⟩ b z=>by
  rcases (f b).mp z with rfl | z
  ·exact ⟨_,h⟩
  ·obtain ⟨i,hi,e⟩:=aG6.mp z
   have hb:as[i]?=some b:=by rw [aA0 hi,e]
   obtain ⟨vs,h1,_⟩:=r i b _ hb (aA0 (by rw [← l];exact hi))
   exact ⟨_,h1⟩
theorem amk {G:Hp}:∀ {vs:List V} {ds:List PyData},vs.length=ds.length->(∀ (i:Nat) v d,vs[i]?=some v->ds[i]?=some d->Rp G v d)->Rps G vs ds
 | [],[],_,_ => .nil
 | [],_ :: _,h,_=>by simp at h
 | _ :: _,[],h,_=>by simp at h
 | v :: vs,d :: ds,h,k => .cons (k 0 v d rfl rfl) (amk (by simpa using h) fun i v d b a=>k (i+1) v d (by simpa using b) (by simpa using a))
theorem afg {c:List (List PyData)}:Frz (OLL c) (.list (c.map .list)):=fun G H v F ⟨a,as,e,h,p,q,l,r,f⟩ n g=>by
 subst e
 refine .lst (by rw [aet ((f a).mpr (.inl rfl))];exact h) (amk (by simp [l]) fun i u d j hd=>?_)
 rw [aA5] at j hd
 cases hb:as[i]? with
 | none=>rw [hb] at j;cases j
 | some b =>
  cases hds:c[i]? with
  | none=>rw [hds] at hd;cases hd
  | some ds =>
   rw [hb] at j;rw [hds] at hd
   cases j;cases hd
   obtain ⟨vs,o,m⟩:=r i b ds hb hds
   exact .lst (by rw [aet ((f b).mpr (.inr (aA2 hb)))];exact o) (m.same (abd n))
section
variable {B:Bs} {env:En} {QO:Sl->En->Prop} {Q':PyData->En->Prop} {D':VEnds} {K:Frag} {i:Nat}
theorem ayu {a:List (List PyData)} {R:PyData->Prop} (h:R (.list (a.map .list))):FQ (.own (OLL a)) R:=⟨_,afg,h⟩
theorem awe {src:List (Option Nat)} {wi:TI} {j:Nat} (h:EvI B wi env fun ds P=>ds.length<=1000000/\QO (.own (OLL (List.replicate ds.length []))) P):EvO B (tLC src wi (aas j) tYes (tLst tNil)) env QO:=fun σ G H F Q I k=>by
 refine h σ G H F _ I fun J T L F1 ds P s g1 it ⟨a0,q⟩ c d=>?_
 let W:Nat->List V->Hp->Prop:=fun n ys H=>∃ (as:List Addr) (g:Hp),ys=as.map V.ref/\as.length=n/\as.Nodup/\c ∉ as/\(∀ b∈as,L b=none/\g b=none/\H b=some (.lst []))/\H c=some (.lst ys)/\g c=none/\Same T g/\Same g H/\Same L H/\(∀ a o,g a=some o->T a=some o\/L a=none)/\FT g H
 refine ⟨fun n m ys σI H=>m=ds.length - n/\n<=ds.length/\W n ys H,⟨ds.length,by simp,aF0 _,[],T,rfl,rfl,List.nodup_nil,by simp,fun b hb=>by simp at hb,aah,s.no_g d,Same.refl _,s.gh.trans (ab3 d),ab3 d,fun a o e => .inl e,fun a ks e=>?_⟩,?_⟩
 ·by_cases z:a=c
  ·subst z;rw [aah] at e;cases e
  ·rw [aae z] at e;exact s.ft a ks e
 rintro n m ys σI H2 ⟨rfl,hn,as,g,rfl,S,nd,na,all,f,O,C,l,r,E,v⟩
 refine ⟨f,?_⟩
 by_cases hlt:n < ds.length
 ·refine .inr ⟨it.go n g H2 C l hlt,fun D N H'=>W (n+1) D H',fun D N H' hw=>⟨ds.length - (n+1),by omega,rfl,hlt,hw⟩,fun x H3 y=>?_⟩
  obtain ⟨M,o⟩:=it.yld n g H2 x H3 _ C l v (aA0 hlt) y
  refine agm (alu (adb (axv (aqh ⟨by decide,fun p A=>?_⟩))))
  have n2:H2 p=none:=abe o.hh A
  have n1:L p=none:=abe r n2
  have U:p ≠ c:=(aak (o.hh _ _ f) A).symm
  have K:p ∉ as:=fun z=>by
   have:=o.hh _ _ (all p z).2.2
   rw [this] at A;cases A
  refine ⟨by rw [aae U.symm];exact o.hh _ _ f,by rw [aA3,S];exact big (by omega),as ++ [p],M,by simp,by simp [S],?_,?_,fun b hb=>?_,aah,?_,C.trans o.gg,fun a u e=>?_,fun a u e=>?_,fun a u e=>?_,fun a ks e=>?_⟩
  ·rw [List.nodup_append]
   exact ⟨nd,by simp,fun x hx y hy=>by simp at hy;subst hy;intro e;subst e;exact K hx⟩
  ·intro z
   rcases aA7.mp z with z | z
   ·exact na z
   ·exact U (aC1.mp z).symm
  ·have gb:∀ b,g b=none->(∃ u,H2 b=some u)->M b=none:=fun b R z_=>by
    obtain ⟨u,Y⟩:=z_
    cases e:M b with
    | none=>rfl
    | some w =>
     rcases o.gn b w e with e | e
     ·rw [R] at e;cases e
     ·rw [Y] at e;cases e
   rcases aA7.mp hb with hb | hb
   ·obtain ⟨R,Y,Z⟩:=all b hb
    refine ⟨R,gb b Y ⟨_,Z⟩,?_⟩
    rw [aae (fun z:b=c=>na (by rw [← z];exact hb)),aae (fun z:b=p=>K (by rw [← z];exact hb))]
    exact o.hh _ _ Z
   ·have e:b=p:=by simpa using hb
    subst e
    exact ⟨n1,abe o.gh A,by rw [aae U,aah]⟩
  ·cases e:M c with
   | none=>rfl
   | some w =>
    rcases o.gn c w e with e | e
    ·rw [O] at e;cases e
    ·rw [f] at e;cases e
  ·have ap:a ≠ p:=aak (o.gh a u e) A
   have X:a ≠ c:=by
    rintro rfl
    rcases o.gn _ u e with e | e
    ·rw [O] at e;cases e
    ·rw [f] at e;cases e
   rw [aae X,aae ap];exact o.gh a u e
  ·have ap:a ≠ p:=aak e n1
   have X:a ≠ c:=aak e d
   rw [aae X,aae ap];exact o.hh _ _ (r a u e)
  ·rcases o.gn a u e with e | e
   ·exact E a u e
   ·exact .inr (abe r e)
  ·by_cases z:a=c
   ·subst z;rw [aah] at e;cases e
   ·rw [aae z] at e
    by_cases y:a=p
    ·subst y;rw [aah] at e;cases e
    ·rw [aae y] at e;exact o.ft v a ks e
 ·have e:n=ds.length:=by omega
  subst e
  refine .inl ⟨it.stop _ g H2 C l rfl,?_⟩
  have I2:=s.grow C l r E v
  refine k (.ref c) g H2 F1 (fun b=>b=c\/b∈as) (.own (OLL (List.replicate ds.length []))) P I2 (g1.trans C) ⟨⟨c,as,rfl,f,nd,na,by simp [S],fun i b a1 hb hd=>?_,fun b=>Iff.rfl⟩,fun b z=>?_,fun b z=>?_,fun b z=>?_,fun j b z y=>?_⟩ q
  ·rw [aG7] at hd
   split at hd
   ·cases hd;exact ⟨[],(all b (aA2 hb)).2.2,.nil⟩
   ·cases hd
  ·rcases z with rfl | z
   ·exact s.no_b d
   ·exact s.no_b (all b z).1
  ·rcases z with rfl | z
   ·exact O
   ·exact (all b z).2.1
  ·rcases z with rfl | z
   ·exact ⟨_,f⟩
   ·exact ⟨_,(all b z).2.2⟩
  ·rcases z with rfl | z
   ·exact s.no_f d j y
   ·exact s.no_f (all b z).1 j y
theorem adz {d:List (List PyData)} {l j n:Nat} {k:Int} {y:PyData} {ds:List PyData} (e:env[i]?=some (some (.own (OLL d)))) (T:env[l]?=some (some (.st (.int k)))) (W:env[j]?=some (some (.st y)))
  (S:ixN d.length k=some n) (hd:d[n]?=some ds) (hl:ds.length<=999999) (q:Q' .none (env.set i (some (.own (OLL (d.set n (ds ++ [y]))))))):Ev B (tBM K "list" ad6 (tOp (ada K) (tVar i) (tVar l)) (abt (tVar j) tNil)) env Q':=fun σ G H F Q I Y=>by
 obtain ⟨v,O,⟨a,as,rfl,h,E,L,ln,r,f⟩,_⟩:=I.sl i _ e
 obtain ⟨vk,C,Z,_⟩:=I.sl l _ T
 obtain ⟨vy,w,U,_⟩:=I.sl j _ W
 cases Z
 have hn:n < d.length:=(aA1.mp hd).1
 have hb:as[n]?=some (as[n]'(by omega)):=aA0 _
 generalize as[n]'(by omega)=b at hb
 have s:b∈as:=aA2 hb
 obtain ⟨vs,N,M⟩:=r n b ds hb hd
 have D:atI (as.map V.ref) k=some (.ref b):=by
  unfold atI
  rw [aA3,ln,S]
  simp [hb]
 refine ⟨_,O,_,C,afo h D ⟨.inl ⟨rfl,_,SqL.of N⟩,_,w,aes N (by rw [M.length];exact big (by omega)) ?_⟩⟩
 have x:a ≠ b:=fun z=>L (z ▸ s)
 have J:=I.change (A:=OLL (d.set n (ds ++ [y]))) (H2:=upd H b (.lst (vs ++ [vy]))) (F2:=F i) (os':=.own (OLL (d.set n (ds ++ [y])))) i e O (fun c o p u=>by rw [aae (fun z:c=b=>p ((f c).mpr (.inr (by rw [z];exact s))))];exact u)
  (fun c o u=>by
   by_cases z:c=b
   ·rw [z];exact ⟨_,aah⟩
   ·rw [aae z];exact ⟨o,u⟩)
  (fun c z=>⟨.inl z,by
   by_cases y:c=b
   ·rw [y];exact ⟨_,aah⟩
   ·rw [aae y];exact I.fo i c z⟩) ?_ (fun c ks e=>by
   by_cases z:c=b
   ·subst z;rw [aah] at e;cases e
   ·rw [aae z] at e;exact I.ft c ks e) (.inl ⟨rfl,_,rfl⟩)
 ·exact Y _ G _ _ _ _ J (Same.refl _) .non q
 ·refine ⟨a,as,rfl,by rw [aae x];exact h,E,L,by simp [ln],fun m c es p g=>?_,f⟩
  by_cases hm:m=n
  ·subst hm
   rw [hb] at p;cases p
   rw [aD1,aE5 rfl,aE5 hn] at g
   cases g
   exact ⟨_,aah,M.append (.cons U .nil)⟩
  ·rw [aD1,aE6 (fun z=>hm z.symm)] at g
   obtain ⟨us,h3,R⟩:=r m c es p g
   refine ⟨us,?_,R⟩
   rw [aae]
   ·exact h3
   ·rintro rfl
    have i1:=(aA1.mp hb)
    have P:=(aA1.mp p)
    obtain ⟨X,e1⟩:=i1
    obtain ⟨l2,e2⟩:=P
    exact hm (nodup_ix E l2 X (e2.trans e1.symm))
end
@[reducible] def prD (p:Int × Int):PyData:=.tuple [.int p.1,.int p.2]
@[reducible] def webD (n:Int) (es:List (Int × Int)):PyData:=.tuple [.int n,.list (es.map prD)]
def Tied (es:List (Int × Int)) (u v:Int):Prop:=(u,v)∈es\/(v,u)∈es
theorem Tied.symm {es:List (Int × Int)} {u v:Int} (h:Tied es u v):Tied es v u:=h.elim .inr .inl
def InN (n:Int) (es:List (Int × Int)):Prop:=∀ p∈es,0<=p.1/\p.1 < n/\0<=p.2/\p.2 < n
theorem Tied.in {n:Int} {es:List (Int × Int)} {u v:Int} (hi:InN n es) (h:Tied es u v):(0<=u/\u < n)/\0<=v/\v < n:=by
 rcases h with h | h
 ·have:=hi _ h;exact ⟨⟨this.1,this.2.1⟩,this.2.2⟩
 ·have:=hi _ h;exact ⟨⟨this.2.2.1,this.2.2.2⟩,this.1,this.2.1⟩
theorem Tied.snoc {es:List (Int × Int)} {i:Nat} {a b:Int} (h:es[i]?=some (a,b)) (u v:Int):Tied (es.take (i+1)) u v ↔ (Tied (es.take i) u v\/(u=a/\v=b))\/(u=b/\v=a):=by
 have e:es.take (i+1)=es.take i ++ [(a,b)]:=by rw [aG4,h];rfl
 unfold Tied
 rw [e]
 simp only [aA7,aC1,Prod.mk.injEq]
 constructor
 ·rintro ((h | ⟨rfl,rfl⟩) | (h | ⟨rfl,rfl⟩))
  ·exact .inl (.inl (.inl h))
  ·exact .inl (.inr ⟨rfl,rfl⟩)
  ·exact .inl (.inl (.inr h))
  ·exact .inr ⟨rfl,rfl⟩
 ·rintro (((h | h) | ⟨rfl,rfl⟩) | ⟨rfl,rfl⟩)
  ·exact .inl (.inl h)
  ·exact .inr (.inl h)
  ·exact .inl (.inr ⟨rfl,rfl⟩)
  ·exact .inr (.inr ⟨rfl,rfl⟩)
def TiedL (n:Int) (T:Int->Int->Prop) (tl:List (List Int)):Prop:=(tl.length:Int)=n/\∀ (i:Nat) ws,tl[i]?=some ws->∀ w,w∈ws ↔ T i w
def oD:Option Nat->PyData
 | none => .none
 | some d => .int d
def lab (n:Nat) (far:Int->Option Nat):List PyData:=(List.range n).map fun (i:Nat)=>oD (far (i:Int))
theorem acr {n:Nat} {far:Int->Option Nat}:(lab n far).length=n:=by simp [lab]
theorem ad9 {n:Nat} {far:Int->Option Nat} {i:Nat} (h:i < n):(lab n far)[i]?=some (oD (far i)):=by
 unfold lab
 rw [aA5,aA0 (by simpa using h)]
 simp
theorem aqw {n:Nat} {far:Int->Option Nat} {v:Int} (a:0<=v) (h:v < n):atI (lab n far) v=some (oD (far v)):=by
 have:=ad5 (xs:=lab n far) (j:=v.toNat) (ad9 (by omega))
 rwa [show ((v.toNat:Nat):Int)=v by omega] at this
theorem afh {n:Nat} {v:Int} (a:0<=v) (h:v < n):ixN n v=some v.toNat:=by
 unfold ixN;rw [aE5 a,aE5 h]
theorem aoc {n:Nat} {far:Int->Option Nat} {v:Int} {d:Nat} (a:0<=v) (h:v < n):(lab n far).set v.toNat (.int d)=lab n (Gr.label far v d):=by
 apply aF2
 intro i
 rw [aD1]
 by_cases e:v.toNat=i
 ·rw [aE5 e,aE5 (by rw [acr];omega),ad9 (by omega)]
  have:(i:Int)=v:=by omega
  rw [this,Gr.label_same];rfl
 ·rw [aE6 e]
  by_cases hi:i < n
  ·rw [ad9 hi,ad9 hi,Gr.label_ne (by omega)]
  ·rw [aE7.mpr (by rw [acr];omega),aE7.mpr (by rw [acr];omega)]
theorem aqx {n:Nat} {f g:Int->Option Nat} (h:∀ v,0<=v->v < (n:Int)->f v=g v):lab n f=lab n g:=by
 unfold lab
 apply aE1
 intro i hi
 rw [h i (by omega) (by have:=aB8.mp hi;omega)]
theorem awf {o:Option Nat}:isNone (oD o)=o.isNone:=by cases o <;> rfl
theorem aga {α:Type} {f : α->PyData} {xs:List α} {i:Int} {x : α} (h:atI xs i=some x):atI (xs.map f) i=some (f x):=by
 unfold atI at h ⊢
 rw [aA3]
 cases e:ixN xs.length i with
 | none=>rw [e] at h;cases h
 | some j=>rw [e] at h;simp at h ⊢;exact ⟨_,h,rfl⟩
theorem aiq {α:Type} {xs:List α} {i:Int} {x : α} (a:0<=i) (h:xs[i.toNat]?=some x):atI xs i=some x:=by
 have:=ad5 (xs:=xs) (j:=i.toNat) h
 rwa [show ((i.toNat:Nat):Int)=i by omega] at this
@[reducible] def tlD (tl:List (List Int)):List (List PyData):=tl.map fun ws=>ws.map .int
theorem TiedL.get {n:Int} {T:Int->Int->Prop} {tl:List (List Int)} (h:TiedL n T tl) {v:Int} (d:0<=v) (c:v < n):∃ a,tl[v.toNat]?=some a/\∀ w,w∈a ↔ T v w:=by
 have b:v.toNat < tl.length:=by have:=h.1;omega
 refine ⟨tl[v.toNat],aA0 b,fun w=>?_⟩
 rw [h.2 _ _ (aA0 b) w,show ((v.toNat:Nat):Int)=v by omega]
theorem aea {tl:List (List Int)} {i:Nat} {a:List Int} (h:tl[i]?=some a):(tlD tl)[i]?=some (a.map .int):=by
 rw [aA5,h];rfl
theorem TiedL.put {n:Int} {T:Int->Int->Prop} {tl:List (List Int)} (h:TiedL n T tl) {v q:Int} {c:List Int} (l:0<=v) (j:v < n) (d:tl[v.toNat]?=some c):TiedL n (fun a b=>T a b\/(a=v/\b=q)) (tl.set v.toNat (c ++ [q])):=by
 refine ⟨by rw [List.length_set];exact h.1,fun i us hi w=>?_⟩
 rw [aD1] at hi
 by_cases e:v.toNat=i
 ·rw [aE5 e] at hi
  have g:v.toNat < tl.length:=(aA1.mp d).1
  rw [aE5 (by omega)] at hi
  cases hi
  have f:(i:Int)=v:=by omega
  rw [aA7,aC1,h.2 i c (by rw [← e];exact d) w,f]
  simp
 ·rw [aE6 e] at hi
  rw [h.2 i us hi w]
  exact ⟨.inl,fun z=>z.elim id fun z=>by omega⟩
theorem agu {tl:List (List Int)} {i:Nat} {a:List Int}:(tlD tl).set i (a.map .int)=tlD (tl.set i a):=by
 unfold tlD;rw [List.map_set]
theorem TiedL.iff {n:Int} {T a:Int->Int->Prop} {tl:List (List Int)} (h:TiedL n T tl) (e:∀ u v,T u v ↔ a u v):TiedL n a tl:=⟨h.1,fun i b hi w=>(h.2 i b hi w).trans (e _ _)⟩
end VL
namespace VL
open PySem L2
def cnt (far:Int->Option Nat):Nat->Nat
 | 0=>0
 | n+1=>cnt far n+(if far (n:Int)=none then 1 else 0)
theorem afz {far:Int->Option Nat} {w:Int} {d:Nat}:∀ {n:Nat},(w:Int) ≥ n->cnt (Gr.label far w d) n=cnt far n
 | 0,_=>rfl
 | n+1,h=>by
  unfold cnt
  rw [afz (by omega),Gr.label_ne (by omega)]
theorem akb {far:Int->Option Nat} {w:Int} {d:Nat} (b:0<=w) (a:far w=none):∀ {n:Nat},w < (n:Int)->cnt (Gr.label far w d) n+1=cnt far n
 | 0,h=>by omega
 | n+1,h=>by
  unfold cnt
  by_cases e:w=n
  ·subst e
   rw [afz (by omega),Gr.label_same,a];simp
  ·rw [Gr.label_ne (by omega)]
   have:=akb b a (n:=n) (d:=d) (by omega)
   omega
theorem awg (n:Nat):(List.replicate n [PyData.none]).flatten=lab n (fun _=>none):=by
 apply aF2
 intro i
 by_cases hi:i < n
 ·rw [ad9 hi]
  have:(List.replicate n [PyData.none]).flatten=List.replicate n PyData.none:=by
   clear hi
   induction n with
   | zero=>rfl
   | succ n ih=>rw [aG3,List.flatten_cons,ih,aG3];rfl
  rw [this,aG7,aE5 hi];rfl
 ·rw [aE7.mpr (by rw [ans];simp;omega),aE7.mpr (by rw [acr];omega)]
theorem anf {α:Type} {f : α->PyData} {xs:List α}:(xs.map f).isEmpty=xs.isEmpty:=by cases xs <;> rfl
theorem adv {xs:List Int} {j:Nat} {u w:Int} (a:xs[j]?=some u) (hm:w∈xs.take (j+1)):w∈xs.take j\/w=u:=by
 rw [aG4,a] at hm
 rcases aA7.mp hm with q | q
 ·exact .inl q
 ·exact .inr (by simpa using q)
theorem aqy {n:Nat} {far:Int->Option Nat}:plainDs (lab n far)=true:=by
 rw [ag4]
 intro d hd
 obtain ⟨i,_,rfl⟩:=aB6.mp hd
 cases far (i:Int) <;> rfl
theorem awh {n:Nat} {far:Int->Option Nat}:((lab n far).any fun z=>PyData.eqv z .none)=true ↔ ∃ v:Int,0<=v/\v < n/\far v=none:=by
 rw [List.any_eq_true]
 constructor
 ·rintro ⟨d,hd,e⟩
  obtain ⟨i,hi,rfl⟩:=aB6.mp hd
  refine ⟨i,by omega,by have:=aB8.mp hi;omega,?_⟩
  cases h:far (i:Int) with
  | none=>rfl
  | some d=>rw [h] at e;simp [oD,PyData.eqv] at e
 ·rintro ⟨v,a,b,h⟩
  refine ⟨oD (far v),?_,by rw [h];rfl⟩
  have:=ad9 (far:=far) (show v.toNat < n by omega)
  rw [show ((v.toNat:Nat):Int)=v by omega] at this
  exact aA2 this
def Joined (n:Int) (es:List (Int × Int)):Prop:=∀ v,0<=v->v < n->∃ d,Gr.Dist (Tied es) 0 v d
end VL
namespace DI
open PySem PySem.W
def Raw (h:Heap) (d:Addr) (es:Array DictEntry) (ep:Nat):Prop:=∃ o,h.get? d=some o/\o.ExactDict/\o.data=.dict es ep
theorem Raw.keep {h h':Heap} {d:Addr} {es:Array DictEntry} {a:Nat} (r:Raw h d es a) (k:∀ o,h.get? d=some o->h'.get? d=some o):Raw h' d es a:=let ⟨o,e,x⟩:=r;⟨o,k o e,x⟩
theorem Raw.ty {s:Shared} {d:Addr} {es:Array DictEntry} {a:Nat} (r:Raw s.heap d es a):s.TypeIs (.ref d) "dict":=let ⟨o,e,x,_⟩:=r;⟨o,e,x.1⟩
section
variable {prog:Program} {w:World} {A:Around} {E:Value->Shared->Prop} {s:Shared} {d it:Addr} {es:Array DictEntry} {ep i:Nat}
theorem raw_iter {Q:Value->Shared->Prop} (hd:(d == sysModules)=false) (r:Raw s.heap d es ep)
  (c:Q (.ref s.heap.objs.size) { s with heap:=s.heap.push { cls:=.type "dict_keyiterator",data:=.fields #[.ref d,.int 0 0,.int es.size 0,.int ep 0] } }):wpAny (model prog w) A (pyIter (.ref d)) Q E s:=by
 obtain ⟨o,b,f,a⟩:=id r
 refine wpAny_pyIter_slot r.ty PySem.F.slot_dict_iter (wpAny_call_entry PySem.F.slot_dict_iter r.ty PySem.F.entry_dict_iter ?body (PySem.F.args_dict_iter_1 _))
 case body =>
  unfold Builtin.«dict.__iter__»
  refine aH9 ?slot
  case slot =>
   unfold Builtin.Dict.dictSlotNone
   refine aH9 (wpAny_notOrdered_dict r.ty ?pl)
   case pl =>
    show wpAny _ _ (pure (Value.ref d)) _ _ s
    refine aI0 ?rest
    case rest =>
     show wpAny _ _ (Builtin.Dict.showsAll d >>= _) _ _ s
     unfold Builtin.Dict.showsAll
     rw [aE6 (by rw [hd];exact aA9)]
     refine aH9 (aI0 (aH9 (wpAny_dictEntries b a (aH9 (wpAny_dictEpoch b a (aH9 (aI7 (aI0 ⟨_,rfl,"dict_keyiterator",_,⟨_,aI3 _ rfl,rfl⟩,PySem.F.slot_dict_keyiterator_next.lookup,?fin⟩))))))))
     case fin=>simpa [rawInt] using c
theorem raw_item {Q:Option Value->Shared->Prop} (a:s.heap.IsKeyIter it d i es.size ep) (r:Raw s.heap d es ep) (hi:i < es.size)
  (u:∀ h',h'.IsKeyIter it d (i+1) es.size ep->Heap.SameBut it s.heap h'->Q (some es[i].key) { s with heap:=h' }):wpAny (model prog w) A (pyNext (.ref it)) Q E s:=by
 obtain ⟨o,q,v,hd⟩:=id a
 obtain ⟨od,n,x,p⟩:=r
 unfold pyNext
 refine aH9 (wpAny_attempt (wpAny_callSpecial?_slot (name:=Str.ofString "__next__") a.typeIs PySem.F.slot_dict_keyiterator_next (wpAny_call_entry PySem.F.slot_dict_keyiterator_next a.typeIs PySem.F.entry_dict_keyiterator_next ?b (PySem.F.args_dict_keyiterator_next_1 _))))
 case b =>
  refine aH9 (aI0 (aH9 (aH9 ?c)))
  case c =>
   first | refine aH9 (wpAny_typeNameOfWhole_keyiter a.typeIs (aI0 (aH9 (wpAny_fieldsOf q hd ?e)))) | refine aH9 (wpAny_typeNameOf_keyiter a.typeIs (aI0 (aH9 (wpAny_fieldsOf q hd ?e))))
   case e =>
    simp only [show Builtin.Dict_items.ownsTuple "dict_keyiterator" = false by decide,Bool.false_eq_true,if_false]
    show wpAny _ _ (if (Value.ref d == Value.none)=true then _ else _) _ _ s;rw [aE6 (show ¬ ((Value.ref d == Value.none)=true) from aA9)]
    refine aH9 (aI0 (aH9 (wpAny_dictEntries n p ?f)))
    case f =>
     rw [aE6 (by simp)];refine aH9 (aI0 (aH9 (wpAny_dictEpoch n p ?g)))
     case g =>
      rw [aE6 (by simp)];refine aI0 ?h
      case h =>
       simp only [show ¬ ((i:Int) < 0) by omega,if_false,Int.toNat_natCast,aA4 hi];refine aH9 ?j
       case j =>
        first | refine aH9 (wpAny_typeNameOfWhole_keyiter a.typeIs (aI0 (aH9 (wpAny_isOneOf_keyiter a.typeIs ?k)))) | refine aH9 (wpAny_typeNameOf_keyiter a.typeIs (aI0 (aH9 (wpAny_isOneOf_keyiter a.typeIs ?k))))
        case k =>
         show wpAny _ _ (setField (.ref it) 1 (rawInt ((i:Int)+1)) >>= _) _ _ s;refine aH9 (wpAny_setField q hd (by simp) ?l)
         case l =>
          have nx:(s.heap.update it (Obj.mapFields (·.setIfInBounds 1 (rawInt ((i:Int)+1))))).IsKeyIter it d (i+1) es.size ep:=⟨_,Heap.get?_update_self _ q (Obj.isFreed_of_fields (Obj.data_mapFields hd _)),(Obj.cls_mapFields ..).trans v,by rw [Obj.data_mapFields hd];simp [rawInt]⟩
          refine aH9 (aI4 (aH9 (wpAny_isOneOf_keyiter (s:={ s with heap:=s.heap.update it (Obj.mapFields (·.setIfInBounds 1 (rawInt ((i:Int)+1)))) }) nx.typeIs ?m)))
          case m=>show wpAny _ _ (pure es[i].key) _ _ _;exact aI0 (aI0 ⟨_,rfl,aI0 (u _ nx (Heap.SameBut.update ..))⟩)
theorem raw_end {Q:Option Value->Shared->Prop} (hh:A.handled=none) (i:s.heap.IsKeyIter it d es.size es.size ep) (r:Raw s.heap d es ep) (v:∀ h',Heap.ExtBut it s.heap h'->Q none { s with heap:=h' }):wpAny (model prog w) A (pyNext (.ref it)) Q E s:=by
 obtain ⟨o,u,y,hd⟩:=id i
 obtain ⟨od,n,x,p⟩:=r
 unfold pyNext
 refine aH9 (wpAny_attempt (wpAny_callSpecial?_slot (name:=Str.ofString "__next__") i.typeIs PySem.F.slot_dict_keyiterator_next (wpAny_call_entry PySem.F.slot_dict_keyiterator_next i.typeIs PySem.F.entry_dict_keyiterator_next ?b (PySem.F.args_dict_keyiterator_next_1 _))))
 case b =>
  refine aH9 (aI0 (aH9 (aH9 ?c)))
  case c =>
   first | refine aH9 (wpAny_typeNameOfWhole_keyiter i.typeIs (aI0 (aH9 (wpAny_fieldsOf u hd ?e)))) | refine aH9 (wpAny_typeNameOf_keyiter i.typeIs (aI0 (aH9 (wpAny_fieldsOf u hd ?e))))
   case e =>
    simp only [show Builtin.Dict_items.ownsTuple "dict_keyiterator" = false by decide,Bool.false_eq_true,if_false]
    show wpAny _ _ (if (Value.ref d == Value.none)=true then _ else _) _ _ s;rw [aE6 (show ¬ ((Value.ref d == Value.none)=true) from aA9)]
    refine aH9 (aI0 (aH9 (wpAny_dictEntries n p ?f)))
    case f =>
     rw [aE6 (by simp)];refine aH9 (aI0 (aH9 (wpAny_dictEpoch n p ?g)))
     case g =>
      rw [aE6 (by simp)];refine aI0 ?h
      case h =>
       simp only [show ¬ ((es.size:Int) < 0) by omega,if_false,Int.toNat_natCast,Array.getElem?_eq_none (aA6 es.size)];refine aH9 ?j
       case j =>
        first | refine aH9 (wpAny_typeNameOfWhole_keyiter i.typeIs (aI0 ?k)) | refine aH9 (wpAny_typeNameOf_keyiter i.typeIs (aI0 ?k))
        case k =>
         show wpAny _ _ (setField (.ref it) 0 .none >>= _) _ _ s;refine aH9 (wpAny_setField u hd (by simp) ?l)
         case l =>
          show wpAny _ _ (newExc (.type "StopIteration") [] >>= _) _ _ _;refine aH9 ?m
          case m =>
           simp only [newExc,newTuple];refine aH9 (aI7 ?zz2 (by size_fits))
           case zz2 =>
            refine aH9 (m:=firstArgMember _ _) (wpAny_of_eq (a:=Value.none) (by first | rfl | (simp only [firstArgMember];rfl)) (aI7 ?zz1 (by size_fits)))
            case zz1 =>
             simp only [raiseNew];refine aH9 (wpAny_handled ?q)
             case q =>
              rw [show A.in1.handled=none from hh];refine aH9 (aI0 (wpAny_throw ?u1))
              case u1=>refine aH9 (wpAny_isInstance (T:="StopIteration") (b:=true) ⟨_,aI3 _ rfl,rfl⟩ isSubtype_stop ?u2);exact aI0 (v _ (((Heap.SameBut.update ..).extBut.push _).push _))
end
theorem walks {prog:Program} {w:World} {A:Around} (hh:A.handled=none) (I d:Addr) (c:d ≠ I) (es:Array DictEntry) (g:Nat) :
  Walks prog w A I [I,d] [I] es.size (fun i v=>(es[i]?).map (·.key)=some v) (fun i h=>h.IsKeyIter I d i es.size g/\Raw h d es g) where
 sub:=fun b hb=>by simp at hb;simp [hb]
 frame:=fun _ _ _ st f=>⟨st.1.at fun o e=>f I (by simp) o e,st.2.keep fun o e=>f d (by simp) o e⟩
 item:=fun i s Q E hi st a=>raw_item st.1 st.2 hi fun h' nx sb=>a _ h' s.toks (by rw [aA4 hi];rfl) ⟨nx,st.2.keep fun o e=>sb.extBut d o c e⟩ fun b o hb e=>sb.extBut b o (fun z=>hb (by simp [z])) e
 done:=fun s Q E st a=>raw_end hh st.1 st.2 fun h' j=>a h' s.toks fun b o hb e=>j b o (fun z=>hb (by simp [z])) e
 self:=fun _ _ _ _ st a=>wpAny_pyIter_keyiter st.1 a
end DI
namespace DI
open PySem PySem.W PyProof.Rows
section
variable {prog:Program} {w:World} {A:Around} {E:Value->Shared->Prop} {s:Shared}
theorem src (d:Addr) (es:Array DictEntry) (a:Nat) (hd:(d == sysModules)=false):KdlSrc prog w "dict" d d es.size (fun i v=>(es[i]?).map (·.key)=some v) (fun h=>Raw h d es a) where
 type:=fun s r=>r.ty
 there:=fun h r=>let ⟨o,e,_⟩:=r;⟨aI2 e,aI2 e⟩
 keep:=fun h h' r k=>r.keep fun o e=>k d (.inl rfl) o e
 notList:=by decide
 notTuple:=by decide
 hint:=fun A E s Q r q=>kdl_hint_dict r.ty q
 iter:=fun A s hh r=>⟨{ cls:=.type "dict_keyiterator",data:=.fields #[.ref d,.int 0 0,.int es.size 0,.int a 0] },fun i h=>h.IsKeyIter s.heap.objs.size d i es.size a/\Raw h d es a,fun E Q q=>raw_iter hd r q,
  walks hh s.heap.objs.size d (by obtain ⟨o,e,_⟩:=r;exact aB5 (aI2 e)) es a,⟨_,aI3 _ rfl,rfl,rfl⟩,r.keep fun o e=>aI1 _ e⟩
end
end DI
namespace TS
open PySem PySem.W PyProof.Rows
section
variable {prog:Program} {w:World} {A:Around} {E:Value->Shared->Prop} {s:Shared}
end
end TS
namespace L2
open PySem PySem.Spec PyProof.Rows
section
variable {X:Cx} {pins:List (Addr × Obj)} {σ:St} {H:Hp} {s:Shared} {h':Heap}
theorem Inv.turnNew {t':Nat} {ch:List Addr} {T:Addr} {o:HO} (I:Inv X pins σ H s) (f:∀ b∈ch,FpOk X pins H b) (k:∀ b u,b ∉ ch->s.heap.get? b=some u->h'.get? b=some u) (g:s.heap.objs.size<=T) (new:ObjOk X.prog X.w (upd H T o) h' T o) :
  Inv X pins σ (upd H T o) { s with heap:=h',toks:=t' }:=by
 have hn:H T=none:=I.hok.fresh g
 have d:∀ b u,H b=some u->b ∉ ch:=fun b u e z=>by rw [(f b z).1] at e;cases e
 refine I.step (g':=s.gens) (d':=s.drawn) (ch:=ch) (fun b hb=>⟨(f b hb).2.2.2.1,(f b hb).2.1,(f b hb).2.2.2.2.1,(f b hb).2.2.2.2.2⟩) (fun b u _ _ a e _=>k b u a e) (fun b u _ _ a e _=>⟨u.slots,k b u a e⟩)
  (fun b u _ e n=>by rw [aae (aB5 (aC4 (aI2 e) g))];exact n) (fun b u a e=>⟨u,k b u a e⟩) (fun b xs e=>by rw [aae (aak e hn)];exact e) (fun b u v e=>by rw [aae (aak e hn)];exact e)
  (fun b ps e=>⟨#[],by rw [aae (aak e hn),e];simp⟩) (fun m hm=>?_) (fun b u e=>?_) I.bare
 ·obtain ⟨u,es,h,i,r⟩:=hm
  exact ⟨u,es,h,k _ u (fun z=>(f _ z).2.1 rfl) i,r⟩
 ·by_cases hb:b=T
  ·subst hb;rw [aah] at e;cases e;exact new
  ·rw [aae hb] at e
   refine (I.hok b u e).stay (fun c v a q=>k c v ?_ q) (fun c q=>by rw [aae (aak q hn)];exact q) fun c xs q=>by rw [aae (aak q hn)];exact q
   rcases a with z | z
   ·rw [z];exact d b u e
   ·exact d c _ z
theorem Inv.turnedL {t':Nat} {ch:List Addr} (I:Inv X pins σ H s) (f:∀ b∈ch,FpOk X pins H b) (k:∀ b u,b ∉ ch->s.heap.get? b=some u->h'.get? b=some u):Inv X pins σ H { s with heap:=h',toks:=t' }:=by
 have d:∀ b u,H b=some u->b ∉ ch:=fun b u e z=>by rw [(f b z).1] at e;cases e
 refine I.step (g':=s.gens) (d':=s.drawn) (ch:=ch) (fun b hb=>⟨(f b hb).2.2.2.1,(f b hb).2.1,(f b hb).2.2.2.2.1,(f b hb).2.2.2.2.2⟩) (fun b u _ _ a e _=>k b u a e) (fun b u _ _ a e _=>⟨u.slots,k b u a e⟩) (fun _ _ _ _ n=>n)
  (fun b u a e=>⟨u,k b u a e⟩) (fun _ _ e=>e) (fun _ _ _ e=>e) (fun b ps e=>⟨#[],by rw [e];simp⟩) (fun m hm=>?_) (fun b u e=>?_) I.bare
 ·obtain ⟨u,es,g,h,r⟩:=hm
  exact ⟨u,es,g,k _ u (fun z=>(f _ z).2.1 rfl) h,r⟩
 ·refine (I.hok b u e).stay (fun c v a q=>k c v ?_ q) (fun _ q=>q) fun _ _ q=>q
  rcases a with z | z
  ·rw [z];exact d b u e
  ·exact d c _ z
end
def Ite (K:Frag) (a:Addr):It :=
 ⟨fun i H=>∃ xs x,SqL K H a xs/\xs[i]?=some x,fun i H x H'=>∃ p y,x=.ref p/\H p=none/\H'=upd H p (.tup [.int i,y])/\∀ xs,SqL K H a xs->xs[i]?=some y,fun i H=>∃ xs,SqL K H a xs/\xs.length<=i⟩
def Itz (K:Frag) (a b:Addr):It :=
 ⟨fun i H=>∃ xs ys x y,SqL K H a xs/\SqL K H b ys/\xs[i]?=some x/\ys[i]?=some y,fun i H v H'=>∃ p x y,v=.ref p/\H p=none/\H'=upd H p (.tup [x,y])/\(∀ xs,SqL K H a xs->xs[i]?=some x)/\∀ ys,SqL K H b ys->ys[i]?=some y,
  fun i H=>∃ xs ys,SqL K H a xs/\SqL K H b ys/\min xs.length ys.length=i⟩
theorem aqz {P:Program} {w:World} {K:Frag} {f:List Expr} {k:Nat} {pos:Pos} (a e it:Addr) (C:e ≠ it) (S:a ≠ e) (U:a ≠ it) :
  Turn P w K (.Tuple f k pos) (Ite K a) [e,it] e (fun i h=>(∃ old,IsEnum h e it i old)/\h.IsListIter it a i) where
 mem:=by simp
 obj:=fun i h st b hb=>by
  obtain ⟨⟨old,g⟩,o,D,c,d⟩:=st
  rcases aA8.mp hb with rfl | hb
  ·exact ⟨_,g,fun v z=>by simp at z⟩
  ·have:b=it:=by simpa using hb
   subst this
   exact ⟨o,D,fun v z=>by rw [d] at z;cases z⟩
 keep:=fun i h h' st q=>⟨let ⟨old,g⟩:=st.1;⟨old,q e (by simp) _ g⟩,st.2.at fun o x=>q it (by simp) o x⟩
 item:=by
  intro X l O M J i pins s σ H E I hf st F
  subst l O M
  obtain ⟨xs,x,r,R⟩:=F
  obtain ⟨its,B,p,hz⟩:=I.list r
  obtain ⟨u,hu,ru⟩:=B.get R
  have hi:i < its.toArray.size:=by simpa using (aA1.mp hu).1
  have W:=WalksT.enumerate (prog:=X.prog) (w:=X.w) (I.ok.hd J) e it a C S U its.toArray
  refine W.item i s _ _ hi ⟨st.1,st.2,p.isList⟩ fun T Z h1 tk l hT G mid kk=>⟨_,rfl,?_⟩
  obtain ⟨t,y,N,rfl⟩:=l
  have ey:y=u:=by
   have:its[i]?=some y:=by simpa using N
   rw [hu] at this;cases this;rfl
  subst ey
  have aT:=W.apart i T _ mid
  refine W.go f k pos i T { s with heap:=h1,toks:=tk } _ _ mid fun h2 j Y=>?_
  have m:IsTup h2 T #[.int i t,y]:=by
   obtain ⟨o,D,e2,n,e3⟩:=G
   exact ⟨o,Y T o aT D,e2,n,e3⟩
  refine ⟨.ref T,upd H T (.tup [.int i,x]),I.turnNew hf (fun b o hb q=>Y b o hb (kk b o hb q)) hT ?_,rfl,⟨T,x,rfl,I.hok.fresh hT,rfl,fun ys N=>by rw [I.list_inj N r];exact R⟩,⟨?_,j.2.1⟩,fun b hb=>?_⟩
  ·exact ⟨by show (2:Nat)<=sizeLine;decide,[.int i t,y],.cons ⟨t,rfl⟩ (.cons ru .nil),m⟩
  ·obtain ⟨old,q⟩:=j.1
   exact ⟨old,by simpa using q⟩
  ·rw [aae]
   ·exact (hf b hb).1
   ·rintro rfl;exact aT hb
 done:=by
  intro X l O M J i pins s σ H E I hf st F
  subst l O M
  obtain ⟨xs,r,R⟩:=F
  obtain ⟨its,B,p,hz⟩:=I.list r
  obtain ⟨⟨old,g⟩,L⟩:=st
  have hl:=B.length
  exact wpAny_pyNext_enum_end (I.ok.hd J) g L p.isList (by simp;omega) fun h2 eb=>⟨rfl,I.turnedL (t':=s.toks) hf fun b o hb q=>eb b o (fun z=>hb (by simp [z])) q⟩
 self:=fun A i s Q E st h=>by
  obtain ⟨⟨old,g⟩,_⟩:=st
  exact wpAny_pyIter_enum g h
section
variable {X:Cx} {elts:List Expr} {k:Nat} {tpos:Pos}
def apd (K:Frag) (ta:TA):TI:=fun σ H R=>ta σ H fun vs H1=>∃ a xs,vs=[.ref a]/\SqL K H1 a xs/\R (Ite K a) H1
theorem aod {a:Expr} {j:TA} {p pos:Pos} (m:Gl X "enumerate") (hm:X.mg "enumerate" = none) (ha:PA X [a] j) (w:starEach [a] X.env=[(false,eval a X.env)]:=by rfl):PI X (.Tuple elts k tpos) (.Call (.Name "enumerate" p) [a] [] pos) (apd X.K j):=by
 intro pins s σ H R I h
 refine Call_ (acs I m hm alx (PyProof.Rows.callWith_type1 (thn (ha pos pins s σ H _ I h) fun us s1 ⟨vs,r,f,y,a,xs,v,l,q⟩=>?_) w rfl))
 subst v
 obtain ⟨u,rfl,x⟩:=ac0 y
 cases x
 obtain ⟨its,B,pl,z⟩:=f.list l
 refine call_enumerate_list pl.isList fun A i g hsz kp=>?_
 have d:a < s1.heap.objs.size:=by obtain ⟨o,n,e,_⟩:=pl;exact aI2 e
 refine wpAny_pyIter_enum i ⟨s1.heap.objs.size+1,[s1.heap.objs.size+1,s1.heap.objs.size],_,_,r,rfl,f.kept (t':=s1.toks) kp,aqz a _ _ (Nat.succ_ne_self _) (aB5 (aE8 d)) (aB5 d),⟨⟨_,i⟩,g⟩,fun b hb=>?_,q⟩
 have c:s1.heap.objs.size<=b:=by
  rcases aA8.mp hb with rfl | hb
  ·exact Nat.le_succ _
  ·have:b=s1.heap.objs.size:=by simpa using hb
   exact Nat.le_of_eq this.symm
 exact f.fpOk c (f.hok.fresh c)
end
theorem atd {P:Program} {w:World} {K:Frag} {m:List Expr} {k:Nat} {pos:Pos} (z TI TO i1 f N L:Addr) (D:ZipApart z TI TO i1 f N L) :
  Turn P w K (.Tuple m k pos) (Itz K N L) [z,TI,TO,i1,f] z (fun i h=>IsZip h z TI TO .none/\IsPair h TI (.ref i1) (.ref f)/\(∃ a b,IsPair h TO a b)/\h.IsListIter i1 N i/\h.IsListIter f L i) where
 mem:=by simp
 obj:=fun i h st b hb=>by
  obtain ⟨B,c,⟨a,b',d⟩,⟨o1,e1,c1,d1⟩,⟨o2,e2,c2,d2⟩⟩:=st
  simp only [aA8,aH4,or_false] at hb
  rcases hb with rfl | rfl | rfl | rfl | rfl
  ·exact ⟨_,B,fun v y=>by simp at y⟩
  ·exact ⟨_,c,fun v y=>by simp at y⟩
  ·exact ⟨_,d,fun v y=>by simp at y⟩
  ·exact ⟨o1,e1,fun v y=>by rw [d1] at y;cases y⟩
  ·exact ⟨o2,e2,fun v y=>by rw [d2] at y;cases y⟩
 keep:=fun i h h' st q=>by
  obtain ⟨B,c,⟨a,b',d⟩,F,G⟩:=st
  exact ⟨q z (by simp) _ B,q TI (by simp) _ c,⟨a,b',q TO (by simp) _ d⟩,F.at fun o x=>q i1 (by simp) o x,G.at fun o x=>q f (by simp) o x⟩
 item:=by
  intro X J hw hK hc i pins s σ H E I hf st hg
  subst J hw hK
  obtain ⟨xs,ys,x,y,l,j,U,hy⟩:=hg
  obtain ⟨us,r,p1,_⟩:=I.list l
  obtain ⟨vs,C,p2,_⟩:=I.list j
  obtain ⟨u,hu,ru⟩:=r.get U
  obtain ⟨v,hv,rv⟩:=C.get hy
  have hi:i < min us.toArray.size vs.toArray.size:=by
   have a1:=(aA1.mp hu).1
   have a2:=(aA1.mp hv).1
   simp;omega
  obtain ⟨B,c,d,F,G⟩:=st
  have W:=WalksT.zip2 (prog:=X.prog) (w:=X.w) (I.ok.hd hc) z TI TO i1 f N L D us.toArray vs.toArray
  refine W.item i s _ _ hi ⟨B,c,d,F,G,p1.isList,p2.isList⟩ fun T a4 h3 Z J hT M mid kk=>⟨_,rfl,?_⟩
  obtain ⟨Y,S,a3,a0,rfl⟩:=J
  have ex:Y=u:=by
   have:us[i]?=some Y:=by simpa using a3
   rw [hu] at this;cases this;rfl
  have ey:S=v:=by
   have:vs[i]?=some S:=by simpa using a0
   rw [hv] at this;cases this;rfl
  subst ex ey
  have O:=W.apart i T _ mid
  have sub:∀ b,b ∉ [z,TI,TO,i1,f]->b ∉ [z,TO,i1,f]:=fun b hb y=>hb (by simp at y ⊢;rcases y with y | y | y | y <;> simp [y])
  have Tt:T ∉ [z,TI,TO,i1,f]:=fun y=>by
   have:=(hf T y).1
   obtain ⟨o,e,_⟩:=M
   simp only [aA8,aH4,or_false] at y
   rcases y with rfl | rfl | rfl | rfl | rfl
   ·exact O (by simp)
   ·exact absurd (aI2 c) (Nat.not_lt.mpr hT)
   ·exact O (by simp)
   ·exact O (by simp)
   ·exact O (by simp)
  refine W.go m k pos i T { s with heap:=h3,toks:=Z } _ _ mid fun h4 g k4=>?_
  have R:IsTup h4 T #[Y,S]:=by
   obtain ⟨o,e1,e2,n,e3⟩:=M
   exact ⟨o,k4 T o O e1,e2,n,e3⟩
  refine ⟨.ref T,upd H T (.tup [x,y]),I.turnNew hf (fun b o hb q=>k4 b o (sub b hb) (kk b o (sub b hb) q)) hT ?_,rfl,⟨T,x,y,rfl,I.hok.fresh hT,rfl,fun zs p=>by rw [I.list_inj p l];exact U,fun zs p=>by rw [I.list_inj p j];exact hy⟩,⟨g.1,g.2.1,g.2.2.1,g.2.2.2.1,g.2.2.2.2.1⟩,fun b hb=>?_⟩
  ·exact ⟨by show (2:Nat)<=sizeLine;decide,[Y,S],.cons ru (.cons rv .nil),R⟩
  ·rw [aae]
   ·exact (hf b hb).1
   ·rintro rfl;exact Tt hb
 done:=by
  intro X J hw hK hc i pins s σ H E I hf st hg
  subst J hw hK
  obtain ⟨xs,ys,l,j,U⟩:=hg
  obtain ⟨us,r,p1,_⟩:=I.list l
  obtain ⟨vs,C,p2,_⟩:=I.list j
  obtain ⟨B,c,d,F,G⟩:=st
  have W:=WalksT.zip2 (prog:=X.prog) (w:=X.w) (I.ok.hd hc) z TI TO i1 f N L D us.toArray vs.toArray
  have ei:min us.toArray.size vs.toArray.size=i:=by
   rw [← U,r.length,C.length];simp
  have sub:∀ b,b ∉ [z,TI,TO,i1,f]->b ∉ [z,TO,i1,f]:=fun b hb y=>hb (by simp at y ⊢;rcases y with y | y | y | y <;> simp [y])
  rw [← ei] at F G
  exact W.done s _ _ ⟨B,c,d,F,G,p1.isList,p2.isList⟩ fun h3 Z kk=>⟨rfl,I.turnedL (t':=Z) hf fun b o hb q=>kk b o (sub b hb) q⟩
 self:=fun A i s Q E st h=>wpAny_pyIter_zip st.1 h
theorem ayv {n a b:Nat} (d:a < n) (c:b < n):ZipApart (n+4) (n+2) (n+3) n (n+1) a b:=by constructor <;> (show (_:Nat) ≠ _;omega)
section
variable {X:Cx} {elts:List Expr} {k:Nat} {tpos:Pos}
def iZip (K:Frag) (ta:TA):TI:=fun σ H R=>ta σ H fun vs H1=>∃ a b xs ys,vs=[.ref a,.ref b]/\SqL K H1 a xs/\SqL K H1 b ys/\R (Itz K a b) H1
theorem ayw {a b:Expr} {x:TA} {p pos:Pos} (y:Gl X "zip") (hm:X.mg "zip" = none) (ha:PA X [a,b] x) (E:starEach [a,b] X.env=[(false,eval a X.env),(false,eval b X.env)]:=by rfl) (d:starEach [b] X.env=[(false,eval b X.env)]:=by rfl):PI X (.Tuple elts k tpos) (.Call (.Name "zip" p) [a,b] [] pos) (iZip X.K x):=by
 intro pins s σ H R I h
 refine Call_ (acs I y hm axz (PyProof.Rows.callWith_type1 (thn (ha pos pins s σ H _ I h) fun us s1 ⟨vs,z,g,J,a,b,xs,ys,A,i,j,q⟩=>?_) (by rw [E,d]) (by rw [d];rfl)))
 subst A
 obtain ⟨u,c,rfl,F,D⟩:=aia J
 cases F
 cases D
 obtain ⟨_,_,w,_⟩:=g.list i
 obtain ⟨_,_,p2,_⟩:=g.list j
 have B:a < s1.heap.objs.size:=by obtain ⟨o,n,e,_⟩:=w;exact aI2 e
 have G:b < s1.heap.objs.size:=by obtain ⟨o,n,e,_⟩:=p2;exact aI2 e
 refine call_zip_2 w.isList p2.isList fun M v m l C L hsz kp=>?_
 refine wpAny_pyIter_zip v ⟨s1.heap.objs.size+4,[s1.heap.objs.size+4,s1.heap.objs.size+2,s1.heap.objs.size+3,s1.heap.objs.size,s1.heap.objs.size+1],_,_,z,rfl,g.kept (t':=s1.toks) kp,atd _ _ _ _ _ a b (ayv B G),⟨v,m,⟨_,_,l⟩,C,L⟩,fun c r=>?_,q⟩
 have f:s1.heap.objs.size<=c:=by
  simp only [aA8,aH4,or_false] at r
  rcases r with rfl | rfl | rfl | rfl | rfl
  ·exact Nat.le_add_right _ 4
  ·exact Nat.le_add_right _ 2
  ·exact Nat.le_add_right _ 3
  ·exact aA6 _
  ·exact Nat.le_add_right _ 1
 exact g.fpOk f (g.hok.fresh f)
end
theorem aoe:∀ {xs:List V} {us:List Value},xs.length=us.length->(∀ (i:Nat) v u,xs[i]?=some v->us[i]?=some u->RelV v u)->Vals xs us
 | [],[],_,_ => .nil
 | [],_ :: _,h,_=>by simp at h
 | _ :: _,[],h,_=>by simp at h
 | x :: xs,u :: us,h,k => .cons (k 0 x u rfl rfl) (aoe (by simpa using h) fun i v w b a=>k (i+1) v w (by simpa using b) (by simpa using a))
theorem ayx:bootBuiltins "abs" = some (.builtin "abs"):=by decide +kernel
section
variable {X:Cx}
def rAbs:List V->Hp->VK->Prop:=fun xs H Q=>∃ i:Int,xs=[.int i]/\Q (.int (if i < 0 then -i else i)) H
theorem aq0:abk X (.builtin "abs") rAbs:=by
 intro pins s σ H xs us Q I r h
 obtain ⟨i,rfl,q⟩:=h
 obtain ⟨u,rfl,t,rfl⟩:=ac0 r
 exact call_abs_int fun t' a=>⟨.int _,H,I.tok _,⟨_,rfl⟩,q⟩
def aml (K:Frag):List V->Hp->VK->Prop:=fun xs H Q=>∃ p ys,xs=[.ref p]/\(SqL K H p ys\/SqT K H p ys)/\∀ l,H l=none->Q (.ref l) (upd H l (.lst ys))
theorem air:abk X (.type "list") (aml X.K):=alm
def aq1 (ta:TA):TE:=fun σ H Q=>ta σ H fun vs H1=>∃ j:Int,vs=[.int j]/\0<=j/\j<=1000000/\∀ l,H1 l=none->Q (.ref l) (upd H1 l (.lst ((List.range j.toNat).map fun (i:Nat)=>V.int (i:Int))))
theorem amm {a:Expr} {z:TA} {K p2 pos d:Pos} (D:Gl X "list") (hm:X.mg "list" = none) (r:Gl X "range") (y:X.mg "range" = none) (B:X.calm=true) (ha:PA X [a] z) (M:starEach [a] X.env=[(false,eval a X.env)]:=by rfl)
  (l:starEach [.Call (.Name "range" p2) [a] [] d] X.env=[(false,eval (.Call (.Name "range" p2) [a] [] d) X.env)]:=by rfl):PE X (.Call (.Name "list" K) [.Call (.Name "range" p2) [a] [] d] [] pos) (aq1 z):=by
 intro pins s σ H Q I h
 refine Call_ (acs I D hm agn (PyProof.Rows.callWith_type1 ?_ l rfl))
 rw [l]
 refine Calls.spliced_cons (Call_ (acs I r y boot_range (PyProof.Rows.callWith_type1 (thn (ha d pins s σ H _ I h) fun us s1 ⟨vs,S,x,O,j,E,T,R,q⟩=>?_) M rfl)))
 subst E
 obtain ⟨u,rfl,t,rfl⟩:=ac0 O
 refine call_range_1 (Calls.spliced_nil ?_)
 have G:IsRange (s1.heap.push { cls:=.type "range",data:=.fields #[.int 0 s1.toks,.int j t,.int 1 (s1.toks+1)] }) s1.heap.objs.size 0 j 1 s1.toks t (s1.toks+1):=aI3 _ rfl
 have hn:Builtin.Range.rangeSize 0 j 1=((j.toNat:Nat):Int):=by rw [rangeSize_one];split <;> omega
 refine call_list_range (s:={ s1 with heap:=s1.heap.push { cls:=.type "range",data:=.fields #[.int 0 s1.toks,.int j t,.int 1 (s1.toks+1)] },toks:=s1.toks+1+1 }) (x.ok.hd B) G (small_one (by omega) (by omega) (by omega) (by omega)) hn (by omega) fun J A n c kp P g=>?_
 have F:∀ b o,s1.heap.get? b=some o->J.get? b=some o:=fun b o e=>kp b o (aI1 _ e)
 have f:s1.heap.objs.size<=(s1.heap.push { cls:=.type "range",data:=.fields #[.int 0 s1.toks,.int j t,.int 1 (s1.toks+1)] }).objs.size:=by rw [Heap.size_push];exact Nat.le_succ _
 refine ⟨.ref _,_,x.laid (t':=A) (o:=.lst ((List.range j.toNat).map fun (i:Nat)=>V.int (i:Int))) F f ?_,rfl,q _ (x.hok.fresh f)⟩
 refine ⟨by rw [aA3,List.length_range];exact aF5 (VL.big (by omega)),n.toList,c,?_,by simpa using P⟩
 obtain ⟨L,w⟩:=g
 refine aoe (by simp [L]) fun i v u p N=>?_
 have m:n[i]?=some u:=by simpa using N
 obtain ⟨t',C⟩:=w i u m
 rw [aA5] at p
 have hi:i < j.toNat:=by
  have:=(Array.getElem?_eq_some_iff.mp m).1
  omega
 rw [aA0 (by simpa using hi)] at p
 simp at p
 subst p
 exact ⟨t',by rw [C];simp⟩
end
section
variable {X:Cx} {pins:List (Addr × Obj)} {σ:St} {H:Hp} {s:Shared}
theorem Inv.toFrz {a:Addr} {o:Obj} {u:HO} (I:Inv X pins σ H s) (e:H a=some u) (i:s.heap.get? a=some o) (g:∀ xs,u ≠ .tup xs) (l:∀ o v,u ≠ .frz o v) (nb:∀ ps,u ≠ .tbl ps) (h:∀ x,u ≠ .own x):Inv X pins σ (upd H a (.frz o u)) s:=by
 have ne:∀ b v,H b=some v->v ≠ u->b ≠ a:=fun b v f j z=>by subst z;rw [e] at f;exact j (aC5 f).symm
 have J:=I.un (t':=s.toks) (H':=upd H a (.frz o u)) (h':=s.heap) ⟨fun b o q _ _ _=>q,fun b o q _ _ _=>⟨o.slots,q⟩,fun b o q n _=>by rw [aae (aak e n).symm];exact n,fun b o q _=>⟨o,q⟩,fun b xs q=>by rw [aae (ne b _ q (fun z=>g xs z.symm))];exact q,
  fun b w v q=>by rw [aae (ne b _ q (fun z=>l w v z.symm))];exact q,fun b ps q=>⟨#[],by rw [aae (ne b _ q (fun z=>nb ps z.symm)),q];simp⟩⟩ fun b v q=>?_
 ·exact J
 ·have st:∀ c v,ObjOk X.prog X.w H s.heap c v->ObjOk X.prog X.w (upd H a (.frz o u)) s.heap c v:=fun c v x=>x.stay (fun _ _ _ q=>q) (fun d q=>by rw [aae (ne d _ q (fun z=>h c z.symm))];exact q) fun d xs q=>by rw [aae (ne d _ q (fun z=>g xs z.symm))];exact q
  by_cases hb:b=a
  ·subst hb;rw [aah] at q;cases q
   exact ⟨i,st _ _ (I.hok b u e)⟩
  ·rw [aae hb] at q
   exact st _ _ (I.hok b v q)
end
def Itd (a:Addr) (kvs:List (List Key × V)) (o:Obj):It :=
 ⟨fun i H=>i < kvs.length/\H a=some (.frz o (.dT kvs)),fun i H x H'=>H'=H/\∃ b k,x=.ref b/\H b=some (.tup (k.map kV))/\(kvs[i]?).map (·.1)=some k,fun i H=>kvs.length=i/\H a=some (.frz o (.dT kvs))⟩
theorem KT.get {H:Hp}:∀ {kvs:List (List Key × V)} {xs:List (List Key × Addr × Value)} {i:Nat} {p:List Key × V},KT H kvs xs->kvs[i]?=some p->∃ q,xs[i]?=some q/\p.1=q.1/\H q.2.1=some (.tup (p.1.map kV))
 | _,_,_,_,.nil,e=>by simp at e
 | _,_,0,_,.cons r _,e=>by simp at e;subst e;exact ⟨_,rfl,r.1,r.2.1⟩
 | _,_,i+1,p,.cons _ t,e=>by
  obtain ⟨q,b,a⟩:=KT.get (i:=i) (p:=p) t (by simpa using e)
  exact ⟨q,by simpa using b,a⟩
theorem awi {P:Program} {w:World} {K:Frag} {tg:Expr} (a it:Addr) {kvs:List (List Key × V)} {o:Obj} {es:Array DictEntry} {N:Nat} (O:o.ExactDict) (hd:o.data=.dict es N) (hz:es.size=kvs.length) (hn:a ≠ it) :
  Turn P w K tg (Itd a kvs o) [it] it (fun i h=>h.IsKeyIter it a i es.size N) where
 mem:=by simp
 obj:=fun i h st b hb=>by
  have e:b=it:=by simpa using hb
  subst e
  obtain ⟨u,e,c,d⟩:=st
  exact ⟨u,e,fun v z=>by rw [d] at z;cases z⟩
 keep:=fun i h h' st q=>st.at fun u e=>q it (by simp) u e
 item:=by
  intro X r A n J i pins s σ H E I hf st C
  subst r A n
  obtain ⟨hi,l⟩:=C
  have g:i < es.size:=by omega
  obtain ⟨j,z,y,xs,x,o',T,a0,Q,h2,L,R,h5⟩:=(show ObjOk X.prog X.w H s.heap a (.frz o (.dT kvs)) from I.hok a _ l)
  rw [j] at Q;cases Q
  rw [hd] at L;cases L
  obtain ⟨p,M⟩:∃ p,kvs[i]?=some p:=⟨_,aA0 hi⟩
  obtain ⟨q,U,Z,D⟩:=KT.get x M
  have f:es[i].key=.ref q.2.1:=by
   have:es.toList[i]?=some es[i]:=by simp [g]
   rw [R,aA5,U] at this
   simp at this
   rw [← this];rfl
  obtain ⟨m,f1,W,G,B,F⟩:=hf it (by simp)
  refine DI.raw_item st ⟨o,j,O,hd⟩ g fun h' nx sb=>?_
  rw [f]
  have Y:Inv X pins σ H { s with heap:=h' }:=I.turned (t':=s.toks) (fun b u hb e=>(sb.2 b hb).trans e) m f1 G B F
  obtain ⟨u,e,c,d⟩:=id nx
  exact ⟨_,rfl,aos (s:={ s with heap:=h' }) e c d (by decide) ⟨.ref q.2.1,H,Y,rfl,⟨rfl,q.2.1,p.1,rfl,D,by rw [M];rfl⟩,nx,fun b hb=>(hf b hb).1⟩⟩
 done:=by
  intro X r A n J i pins s σ H E I hf st C
  subst r A n
  obtain ⟨hi,l⟩:=C
  obtain ⟨j,_⟩:=(show ObjOk X.prog X.w H s.heap a (.frz o (.dT kvs)) from I.hok a _ l)
  obtain ⟨m,f1,W,G,B,F⟩:=hf it (by simp)
  have e:i=es.size:=by omega
  subst e
  exact DI.raw_end (I.ok.hd J) st ⟨o,j,O,hd⟩ fun h' S=>⟨rfl,I.turned (t':=s.toks) (fun b u hb e=>S b u hb e) m f1 G B F⟩
 self:=fun _ _ _ _ _ st h=>wpAny_pyIter_keyiter st h
section
variable {X:Cx} {tg:Expr}
def iDT (te:TE):TI:=fun σ H R=>te σ H fun x H1=>∃ a kvs,x=.ref a/\H1 a=some (.dT kvs)/\∀ o,R (Itd a kvs o) (upd H1 a (.frz o (.dT kvs)))
theorem az0 {l:Expr} {te:TE} (n:PE X l te):PI X tg l (iDT te):=by
 intro pins s σ H R I h
 refine thn (n pins s σ H _ I h) fun v s1 ⟨x,r,j,C,a,kvs,ex,g,q⟩=>?_
 subst ex
 cases C
 obtain ⟨z,y,xs,d,o,es,E,c,i,m,p,D⟩:=(show ObjOk X.prog X.w r s1.heap a (.dT kvs) from j.hok a _ g)
 have A:es.size=kvs.length:=by
  have B:es.toList.length=xs.length:=by rw [p];simp
  have e2:=Paired.length d
  simp at B;omega
 have J:=j.toFrz (u:=.dT kvs) g c (fun _ z=>nomatch z) (fun _ _ z=>nomatch z) (fun _ z=>nomatch z) fun _ z=>nomatch z
 have f:a < s1.heap.objs.size:=aI2 c
 refine DI.raw_iter y ⟨o,c,i,m⟩ ⟨s1.heap.objs.size,[s1.heap.objs.size],_,_,_,rfl,J.kept (t':=s1.toks) fun b u e=>aI1 _ e,awi a _ i m A (aB5 f),⟨_,aI3 _ rfl,rfl,rfl⟩,fun b hb=>?_,q o⟩
 have e:b=s1.heap.objs.size:=by simpa using hb
 subst e
 exact J.fpOk (aA6 _) (J.hok.fresh (aA6 _))
end
end L2
namespace VL
open PySem PySem.Spec L2
def enD (ds:List PyData):List PyData:=(List.range ds.length).map fun (i:Nat) => .tuple [.int (i:Int),ds.getD i .none]
def zipD (xs ys:List PyData):List PyData:=(xs.zip ys).map fun p => .tuple [p.1,p.2]
theorem aft {ds:List PyData}:(enD ds).length=ds.length:=by simp [enD]
theorem aof {ds:List PyData} {i:Nat} {d:PyData} (h:(enD ds)[i]?=some d):∃ x,ds[i]?=some x/\d=.tuple [.int (i:Int),x]:=by
 unfold enD at h
 rw [aA5] at h
 by_cases hi:i < ds.length
 ·rw [aA0 (by simpa using hi)] at h
  simp at h
  refine ⟨ds[i],aA0 hi,?_⟩
  rw [← h]
  simp [hi]
 ·rw [aE7.mpr (by simp;omega)] at h;cases h
theorem ate {xs ys:List PyData} {i:Nat} {d:PyData} (h:(zipD xs ys)[i]?=some d):∃ x y,xs[i]?=some x/\ys[i]?=some y/\d=.tuple [x,y]:=by
 unfold zipD at h
 rw [aA5] at h
 cases e:(xs.zip ys)[i]? with
 | none=>rw [e] at h;cases h
 | some p =>
  rw [e] at h
  cases h
  obtain ⟨b,a⟩:=List.getElem?_zip_eq_some.mp e
  exact ⟨p.1,p.2,b,a,rfl⟩
theorem Out.tup2 {G H:Hp} {p:Addr} {x y:V} {d e:PyData} (g:Same G H) (h:H p=none) (b:Rp G x d) (a:Rp G y e):Out G H (.ref p) (upd G p (.tup [x,y])) (upd H p (.tup [x,y])) (.st (.tuple [d,e])) (fun _=>False):=Out.newT g h (.cons b (.cons a .nil))
section
variable {B:Bs} {env:En} {QI:List PyData->En->Prop} {QO:Sl->En->Prop} {Q':PyData->En->Prop} {K:Frag} {i:Nat} {ta:TA}
theorem atf (h:EvA B ta env fun vs e=>∃ ds,vs=[.list ds]/\QI (enD ds) e):EvI B (apd K ta) env QI:=fun σ G H F R I k =>
 h σ G H F _ I fun vs f m c ds s b j D o=>by
  obtain ⟨xs,w,n⟩:=o
  subst w
  cases D with
  | cons r t =>
   cases t
   cases r with
   | @lst a us _ ha rs =>
    refine ⟨a,us,rfl,SqL.of (b.gh _ _ ha),k _ f m c _ s b j ⟨fun i G' H' g h hi=>?_,fun i G' H' g h hi=>?_,fun i G' H' x H'' d g h ft hd y=>?_⟩ n⟩
    ·have:i < us.length:=by rw [rs.length];rw [aft] at hi;exact hi
     exact ⟨us,us[i],SqL.of (h _ _ (g _ _ ha)),aA0 this⟩
    ·exact ⟨us,SqL.of (h _ _ (g _ _ ha)),by rw [rs.length];rw [aft] at hi;exact Nat.le_of_eq hi.symm⟩
    ·obtain ⟨p,v,rfl,l,rfl,z⟩:=y
     obtain ⟨dx,q,rfl⟩:=aof hd
     obtain ⟨u,C,A⟩:=rs.get q
     have:=z us (SqL.of (h _ _ (g _ _ ha)))
     rw [C] at this;cases this
     exact ⟨_,Out.tup2 h l (.int _) (A.same g)⟩
theorem awj (h:EvA B ta env fun vs e=>∃ xs ys,vs=[.list xs,.list ys]/\QI (zipD xs ys) e):EvI B (iZip K ta) env QI:=fun σ G H F R I k =>
 h σ G H F _ I fun vs n z m ds c l q P C=>by
  obtain ⟨xs,ys,E,A⟩:=C
  subst E
  cases P with
  | cons r t =>
   cases t with
   | cons r2 t =>
    cases t
    cases r with
    | @lst a us _ ha rs =>
     cases r2 with
     | @lst b ws _ hb rs2 =>
      have o:(zipD xs ys).length=min us.length ws.length:=by simp [zipD,rs.length,rs2.length]
      refine ⟨a,b,us,ws,rfl,SqL.of (l.gh _ _ ha),SqL.of (l.gh _ _ hb),k _ n z m _ c l q ⟨fun i G' H' g h hi=>?_,fun i G' H' g h hi=>?_,fun i G' H' x H'' d g h ft hd y=>?_⟩ A⟩
      ·have M:i < us.length:=by omega
       have L:i < ws.length:=by omega
       exact ⟨us,ws,us[i],ws[i],SqL.of (h _ _ (g _ _ ha)),SqL.of (h _ _ (g _ _ hb)),aA0 M,aA0 L⟩
      ·exact ⟨us,ws,SqL.of (h _ _ (g _ _ ha)),SqL.of (h _ _ (g _ _ hb)),by rw [← o];exact hi.symm⟩
      ·obtain ⟨p,v,w,rfl,s,rfl,N,S⟩:=y
       obtain ⟨dx,T,D,J,rfl⟩:=ate hd
       obtain ⟨u,Q,O⟩:=rs.get D
       obtain ⟨U,f,j⟩:=rs2.get J
       have c:=N us (SqL.of (h _ _ (g _ _ ha)))
       have e2:=S ws (SqL.of (h _ _ (g _ _ hb)))
       rw [Q] at c;cases c
       rw [f] at e2;cases e2
       exact ⟨_,Out.tup2 h s (O.same g) (j.same g)⟩
theorem RpT.len {G:Hp}:∀ {kvs:List (List Key × V)} {es:List (List Key × PyData)},RpT G kvs es->kvs.length=es.length/\kvs.map (·.1)=es.map (·.1)
 | _,_,.nil=>⟨rfl,rfl⟩
 | _,_,.cons _ t=>by
  obtain ⟨b,a⟩:=RpT.len t
  exact ⟨by simp [b],by simp [a]⟩
theorem ahq {G:Hp}:∀ (ks:List Key),Rps G (ks.map kV) (ks.map kD)
 | [] => .nil
 | .inl i :: r => .cons (.int i) (ahq r)
 | .inr x :: r => .cons (.str x) (ahq r)
@[reducible] def tkD (ks:List Key):PyData:=.tuple (ks.map kD)
theorem ayy {es:List (List Key × PyData)} (e:env[i]?=some (some (.own (OT es)))) (q:QI (es.map fun p=>tkD p.1) (env.set i none)):EvI B (iDT (tVar i)) env QI:=fun σ G H F R I k=>by
 obtain ⟨v,s,⟨a,kvs,rfl,ha,rt,hf⟩,hb⟩:=I.sl i _ e
 refine ⟨_,s,a,kvs,rfl,ha,fun o=>?_⟩
 have c:F i a:=(hf a).mpr rfl
 have D:=(I.drop i).aside (p:=a) (o:=.frz o (.dT kvs)) (fun _ z=>nomatch z) (I.fg i a c) (fun j z=>by
  by_cases h:j=i
  ·subst h;exact putF_same.mp z
  ·rw [aba h] at z;exact h (I.fd j i a z c)) (hb a c)
 have J:=D.freeze (Fv:=(· = a)) (fun b z=>by rw [z];exact hb a c) (fun j b z y=>by
  rw [z] at y
  by_cases h:j=i
  ·subst h;exact putF_same.mp y
  ·rw [aba h] at y;exact h (I.fd j i a y c)) (fun b z=>by rw [z];exact I.fg i a c)
 have m:jn G (upd H a (.frz o (.dT kvs))) (· = a) a=some (.frz o (.dT kvs)):=(aet (F:=(· = a)) rfl).trans aah
 obtain ⟨w,u⟩:=RpT.len rt
 refine k _ _ _ _ _ _ J (abd fun b z=>by rw [z];exact I.fg i a c) ⟨fun n G' H' g h hn=>⟨by simp at hn;omega,h _ _ (g _ _ m)⟩,fun n G' H' g h hn=>⟨by simp at hn;omega,h _ _ (g _ _ m)⟩,fun n G' H' x H'' d g h ft hd y=>?_⟩ q
 obtain ⟨rfl,b,ks,rfl,f,r⟩:=y
 have:d=tkD ks:=by
  rw [aA5] at hd
  cases e2:es[n]? with
  | none=>rw [e2] at hd;cases hd
  | some p =>
   rw [e2] at hd;cases hd
   have l:(kvs.map (·.1))[n]?=some ks:=by rw [aA5];exact r
   rw [u,aA5,e2] at l
   simp at l
   show tkD p.1=tkD ks;rw [l]
 subst this
 exact ⟨G',Out.refl h (.tup (ft b ks f) (ahq ks))⟩
@[reducible] def tiD (ns:List Int):PyData:=.tuple (ns.map .int)
def lexS (pss:List (List Int)):Prop:=pss.Pairwise fun x y=>HT.lexLt y x=false
theorem amn {G H:Hp} (ft:FT G H):∀ {vs:List V},(∀ v∈vs,TupI H v)->Rps G vs ((vs.map (kH H)).map tiD)
 | [],_ => .nil
 | v :: vs,h=>by
  obtain ⟨t,ns,rfl,e,_⟩:=h v aB7
  rw [aD0,aD0,ao8 e]
  have:(ns.map V.int)=(ns.map (fun i=>(Sum.inl i:Key))).map kV:=by rw [aD5];rfl
  refine .cons (.tup ?_ (Rps.ints ns)) (amn ft fun u a=>h u (aB4 _ a))
  rw [this];exact ft t _ (by rw [← this];exact e)
theorem ag6 {G H:Hp} (gh:Same G H):∀ {vs:List V} {pss:List (List Int)},Rps G vs (pss.map tiD)->(∀ ns∈pss,ns ≠ [])->(∀ v∈vs,TupI H v)/\vs.map (kH H)=pss
 | _,[],.nil,_=>⟨fun v b=>by simp at b,rfl⟩
 | v :: vs,ns :: pss,.cons r t,hn=>by
  obtain ⟨i1,c⟩:=ag6 gh t fun d hm=>hn d (aB4 _ hm)
  cases r with
  | tup h rs =>
   have:=Rps.ints_inv rs
   subst this
   have e:=gh _ _ h
   refine ⟨fun u a=>?_,by rw [aD0,ao8 e,c]⟩
   rcases aA8.mp a with rfl | a
   ·exact ⟨_,ns,rfl,e,hn ns aB7⟩
   ·exact i1 u a
theorem aq2 {pss:List (List Int)} (hn:∀ ns∈pss,ns ≠ []) (h:EvA B ta env fun ds e=>ds=[.list (pss.map tiD)]/\∀ b:List (List Int),b.Perm pss->lexS b->QO (.own (OL (b.map tiD))) e):EvO B (tCB (ail K) ta) env QO:=fun σ G H F Q I k =>
 h σ G H F _ I fun vs z f i ds x c j y m=>by
  obtain ⟨s,l⟩:=m
  subst s
  cases y with
  | cons r t =>
   cases t
   cases r with
   | @lst a us _ ha rs =>
    obtain ⟨t1,n⟩:=ag6 c.gh rs hn
    refine ⟨a,us,rfl,SqL.of (c.gh _ _ ha),t1,fun g p d w hf=>?_⟩
    have q:∀ v∈g,TupI f v:=fun v u=>t1 v (d.mem_iff.mp u)
    have o:=Out.newL c.gh hf (amn c.ft q)
    refine k _ _ _ i _ _ x (c.out o).1 (j.trans o.gg) (c.out o).2 (l _ ?_ ?_)
    ·have:=d.map (kH f);rw [n] at this;exact this
    ·unfold lexS;rw [aF1];exact w
end
section
variable {B:Bs} {env:En} {QO:Sl->En->Prop} {Q':PyData->En->Prop} {K:Frag} {i:Nat} {ta:TA} {R:Sl->Prop}
theorem awk {n:Int} (h:R (.st (.int (if n < 0 then -n else n)))):OpA rAbs [.int n] R:=fun G H vs Q gh rs k=>by
 obtain rfl:vs=[V.int n]:=Rps.ints_inv (ns:=[n]) rs
 exact ⟨n,rfl,k _ _ _ _ _ (Out.refl gh (.int _)) h⟩
theorem atg {ds:List PyData} (h:R (.own (OL ds))):OpA (aml K) [.list ds] R:=fun G H vs Q gh rs k=>by
 cases rs with
 | cons r t =>
  cases t
  cases r with
  | lst ha ra=>exact ⟨_,_,rfl,.inl (SqL.of (gh _ _ ha)),fun p a=>k _ _ _ _ _ (Out.newL gh a ra) h⟩
theorem aq3 {G:Hp} (n:Nat):Rps G ((List.range n).map fun (i:Nat)=>V.int (i:Int)) (rngD 0 n):=by
 unfold rngD
 refine amk (by simp) fun i v d a hd=>?_
 rw [aA5] at a hd
 cases e:(List.range n)[i]? with
 | none=>rw [e] at a;cases a
 | some m=>rw [e] at a hd;cases a;cases hd;show Rp G (.int (m:Int)) (.int (0+(m:Int)));rw [aH6];exact .int _
theorem aq4 (h:EvA B ta env fun ds e=>∃ j:Int,ds=[.int j]/\0<=j/\j<=1000000/\QO (.own (OL (rngD 0 j.toNat))) e):EvO B (aq1 ta) env QO:=fun σ G H F Q I k =>
 h σ G H F _ I fun vs r s b ds n a d q l=>by
  obtain ⟨j,m,i,c,g⟩:=l
  subst m
  obtain rfl:vs=[V.int j]:=Rps.ints_inv (ns:=[j]) q
  refine ⟨j,rfl,i,c,fun p f=>?_⟩
  have o:=Out.newL a.gh f (aq3 j.toNat)
  exact k _ _ _ b _ _ n (a.out o).1 (d.trans o.gg) (a.out o).2 g
end
section
variable {κ:Type} [DecidableEq κ] {α:Type}
def valD (es:List (κ × α)) (k : κ):Option α:=(es.find? fun e=>decide (e.1=k)).map (·.2)
def putD (es:List (κ × α)) (k : κ) (d : α):List (κ × α):=if (es.any fun e=>decide (e.1=k))=true then es.map (fun e=>if e.1=k then (e.1,d) else e) else es ++ [(k,d)]
end
theorem RpK.val {G:Hp} {k:Key}:∀ {kvs:List (Key × V)} {es:List (Key × PyData)},RpK G kvs es->(valD es k=none->valV kvs k=none)/\∀ d,valD es k=some d->∃ v,valV kvs k=some v/\Rp G v d
 | _,_,.nil=>⟨fun _=>rfl,fun d h=>by cases h⟩
 | _,_,.cons (k:=k') r t=>by
  obtain ⟨i1,b⟩:=RpK.val (k:=k) t
  by_cases e:k'=k
  ·refine ⟨fun h=>by simp [valD,e] at h,fun d h=>?_⟩
   simp [valD,e] at h
   subst h
   exact ⟨_,by simp [valV,e],r⟩
  ·refine ⟨fun h=>?_,fun d h=>?_⟩
   ·simp [valV,e];simp [valD,e] at h
    have:=i1 (by simp [valD];exact h)
    simpa [valV] using this
   ·obtain ⟨v,c,a⟩:=b d (by simpa [valD,e] using h)
    exact ⟨v,by simpa [valV,e] using c,a⟩
theorem RpK.any {G:Hp} {k:Key}:∀ {kvs:List (Key × V)} {es:List (Key × PyData)},RpK G kvs es->(kvs.any fun e=>decide (e.1=k))=es.any fun e=>decide (e.1=k)
 | _,_,.nil=>rfl
 | _,_,.cons r t=>by simp [RpK.any t]
theorem RpK.map {G:Hp} {k:Key} {v:V} {d:PyData} (h:Rp G v d):∀ {kvs:List (Key × V)} {es:List (Key × PyData)},RpK G kvs es->RpK G (kvs.map fun e=>if e.1=k then (e.1,v) else e) (es.map fun e=>if e.1=k then (e.1,d) else e)
 | _,_,.nil => .nil
 | _,_,.cons (k:=k') r t=>by
  by_cases e:k'=k
  ·simp only [aD0,e,if_true];exact .cons h (RpK.map h t)
  ·simp only [aD0,e,if_false];exact .cons r (RpK.map h t)
theorem RpK.append {G:Hp}:∀ {a b:List (Key × V)} {c d:List (Key × PyData)},RpK G a c->RpK G b d->RpK G (a ++ b) (c ++ d)
 | _,_,_,_,.nil,s=>s
 | _,_,_,_,.cons r t,s => .cons r (RpK.append t s)
theorem RpK.put {G:Hp} {k:Key} {v:V} {d:PyData} (h:Rp G v d) {kvs:List (Key × V)} {es:List (Key × PyData)} (r:RpK G kvs es):RpK G (putK kvs k v) (putD es k d):=by
 unfold putK putD
 rw [r.any]
 split
 ·exact r.map h
 ·exact r.append (.cons h .nil)
theorem RpT.any {G:Hp} {k:List Key}:∀ {kvs:List (List Key × V)} {es:List (List Key × PyData)},RpT G kvs es->(kvs.any fun e=>decide (e.1=k))=es.any fun e=>decide (e.1=k)
 | _,_,.nil=>rfl
 | _,_,.cons r t=>by simp [RpT.any t]
theorem RpT.map {G:Hp} {k:List Key} {v:V} {d:PyData} (h:Rp G v d):∀ {kvs:List (List Key × V)} {es:List (List Key × PyData)},RpT G kvs es->RpT G (kvs.map fun e=>if e.1=k then (e.1,v) else e) (es.map fun e=>if e.1=k then (e.1,d) else e)
 | _,_,.nil => .nil
 | _,_,.cons (k:=k') r t=>by
  by_cases e:k'=k
  ·simp only [aD0,e,if_true];exact .cons h (RpT.map h t)
  ·simp only [aD0,e,if_false];exact .cons r (RpT.map h t)
theorem RpT.append {G:Hp}:∀ {a b:List (List Key × V)} {c d:List (List Key × PyData)},RpT G a c->RpT G b d->RpT G (a ++ b) (c ++ d)
 | _,_,_,_,.nil,s=>s
 | _,_,_,_,.cons r t,s => .cons r (RpT.append t s)
theorem RpT.put {G:Hp} {k:List Key} {v:V} {d:PyData} (h:Rp G v d) {kvs:List (List Key × V)} {es:List (List Key × PyData)} (r:RpT G kvs es):RpT G (putK kvs k v) (putD es k d):=by
 unfold putK putD
 rw [r.any]
 split
 ·exact r.map h
 ·exact r.append (.cons h .nil)
theorem RpK.length {G:Hp}:∀ {kvs:List (Key × V)} {es:List (Key × PyData)},RpK G kvs es->kvs.length=es.length
 | _,_,.nil=>rfl
 | _,_,.cons _ t=>by simp [RpK.length t]
theorem ais {G:Hp} {v:V} {k:Key} (r:Rp G v (kD k)):v=kV k:=by
 cases k with
 | inl i=>cases r;rfl
 | inr x=>cases r;rfl
theorem aq5 {G:Hp}:∀ {ks:List Key} {vs:List V},Rps G vs (ks.map kD)->vs=ks.map kV
 | [],_,.nil=>rfl
 | k :: ks,_,.cons r t=>by rw [ais r,aq5 t];rfl
section
variable {B:Bs} {env:En} {QO:Sl->En->Prop} {Q':PyData->En->Prop} {D':VEnds} {i:Nat} {te ty tv td:TE}
theorem aq6 (q:QO (.own (OT [])) env):EvO B aqb env QO:=fun σ G H F Q I k p a=>by
 have o:=Out.newDT (ds:=[]) I.gh a .nil
 exact k _ _ _ F _ _ env (I.out o).1 o.gg (I.out o).2 q
theorem aq7 {es0:List (List Key × PyData)} (h:Ev B tv env fun d m=>Has m i (OT es0)/\Ev B ty m fun y e2=>∃ es ks,e2[i]?=some (some (.own (OT es)))/\y=tkD ks/\es.length<=999999/\D'.nx (e2.set i (some (.own (OT (putD es ks d)))))):EvS B (aib (tVar i) ty tv) D' env:=fun σ G H F D I r =>
 h σ G H F _ I fun v w A u d m q x N E=>by
  obtain ⟨K,C⟩:=E
  obtain ⟨v0,n,a,kvs,rfl,ha,rt,_⟩:=q.has K
  refine ⟨_,n,C σ w A u _ q fun R z H2 F2 y e2 j s L ⟨es,ks,c,J,O,M⟩=>?_⟩
  subst J
  obtain ⟨Q,g,⟨P,p,l,o,f,hf⟩,hb⟩:=j.sl i _ c
  rw [n] at g;cases g;cases l
  cases L with
  | tup hk rs =>
   have:=aq5 rs
   subst this
   refine ⟨a,_,rfl,DPut.t o (j.gh _ _ hk) (by rw [(RpT.len f).1];exact big (by omega)),?_⟩
   exact r.nx σ z _ _ _ (j.upd1 (A':=OT (putD es ks d)) c (.inl rfl) n hf ⟨a,_,rfl,aah,f.put (N.same s),fun b=>Iff.rfl⟩) (x.trans s) M
theorem aq8 {es0:List (Key × PyData)} (h:Ev B tv env fun d l=>Has l i (OD es0)/\Ev B ty l fun y e2=>∃ es k,e2[i]?=some (some (.own (OD es)))/\y=kD k/\es.length<=999999/\D'.nx (e2.set i (some (.own (OD (putD es k d)))))):EvS B (aib (tVar i) ty tv) D' env:=fun σ G H F D I r =>
 h σ G H F _ I fun v w A u d l q x N E=>by
  obtain ⟨K,C⟩:=E
  obtain ⟨v0,m,a,kvs,rfl,ha,rt,_⟩:=q.has K
  refine ⟨_,m,C σ w A u _ q fun R z H2 F2 y e2 p s L ⟨es,ks,c,J,O,M⟩=>?_⟩
  subst J
  obtain ⟨Q,g,⟨P,o,j,n,f,hf⟩,hb⟩:=p.sl i _ c
  rw [m] at g;cases g;cases j
  have:=ais L
  subst this
  refine ⟨a,_,rfl,DPut.k n (by rw [f.length];exact big (by omega)),?_⟩
  exact r.nx σ z _ _ _ (p.upd1 (A':=OD (putD es ks d)) c (.inl rfl) m hf ⟨a,_,rfl,aah,f.put (N.same s),fun b=>Iff.rfl⟩) (x.trans s) M
theorem ape {es0:List (Key × PyData)} (h:Ev B ty env fun y e2=>∃ es k,Has e2 i (OD es)/\y=kD k/\Q' (.bool (!(valD es k).isSome)) e2):Ev B (agl ty (tVar i)) env Q':=fun σ G H F Q I k =>
 h σ G H F _ I fun s g H2 F2 y e2 c o p j=>by
  obtain ⟨es,b,r,l,q⟩:=j
  subst l
  obtain ⟨v,n,a,kvs,rfl,ha,rt,_⟩:=c.has r
  have:=ais p
  subst this
  refine ⟨_,n,a,_,rfl,DGet.k ha,?_⟩
  have e:(valV kvs b).isSome=(valD es b).isSome:=by
   obtain ⟨i1,f⟩:=rt.val (k:=b)
   cases hd:valD es b with
   | none=>rw [i1 hd];rfl
   | some d=>obtain ⟨v,m,_⟩:=f d hd;rw [m];rfl
  rw [e]
  exact k _ g H2 F2 _ e2 c o (.bl _) q
theorem ath {es0:List (Key × PyData)} (o:Has env i (OD es0)) (h:Ev B ty env fun y e2=>∃ es k d,Has e2 i (OD es)/\y=kD k/\valD es k=some d/\Q' d e2):Ev B (aoy (tVar i) ty) env Q':=fun σ G H F Q I k=>by
 obtain ⟨v,f,_⟩:=I.has o
 refine ⟨v,f,h σ G H F _ I fun x g H2 F2 y e2 c p r ⟨es,l,d,s,j,hd,q⟩=>?_⟩
 subst j
 obtain ⟨w,b,a,kvs,rfl,ha,rt,_⟩:=c.has s
 rw [f] at b;cases b
 have:=ais r
 subst this
 obtain ⟨u,n,m⟩:=(rt.val (k:=l)).2 d hd
 exact ⟨a,u,rfl,by rw [← n];exact DGet.k ha,k _ g H2 F2 _ e2 c p m q⟩
end
section
variable {B:Bs} {env:En} {QO:Sl->En->Prop} {Q':PyData->En->Prop} {QE:En->Prop} {D':VEnds} {K:Frag} {i:Nat} {ta:TA}
theorem aog {n:Nat} {a:TGs} {ds:List PyData} (b:ds.length=n) (h:EvGs B a ds env QE):EvG B (gLst K n a) (.st (.list ds)) env QE:=fun σ G H F v Fv Q I x k=>by
 obtain ⟨r,_⟩:=x.ok
 cases r with
 | lst ha rs=>exact ⟨_,_,rfl,SqL.of (I.gh _ _ ha),by rw [rs.length,b],h σ G H F _ Q I rs k⟩
theorem ait {ns:List Int} {tl d:TO} (e:env[i]?=some (some (.scr ns))) (n:B.K=K) (h:EvOp B tl env fun lo e2=>EvOp B d e2 fun hi c=>QO (.own (OL (cutD (ns.map .int) lo hi))) c):EvO B (tSl (rSlL K) (tVar i) tl d) env QO:=fun σ G H F Q I k=>by
 subst n
 obtain ⟨v0,u,⟨a,j,q⟩,_⟩:=I.sl i _ e
 subst j
 refine ⟨_,u,h σ G H F _ I fun lo m H2 F2 e2 r g w=>w σ m H2 F2 _ r fun hi x H3 v c b f s=>⟨a,_,rfl,b.gh.seq (f.seq (g.seq q)),fun p l=>?_⟩⟩
 have o:=Out.newL (xs:=cutV (ns.map V.int) lo hi) (ds:=cutD (ns.map .int) lo hi) b.gh l (by
  unfold cutV cutD
  rw [aA3,aA3]
  exact ((Rps.ints ns).drop _).take _)
 exact k _ _ _ v _ _ c (b.out o).1 (g.trans (f.trans o.gg)) (b.out o).2 s
theorem aq9 {ns:List Int} {tl c:TO} (e:env[i]?=some (some (.scr ns))) (d:B.K=K) (h:EvOp B tl env fun lo e2=>EvOp B c e2 fun hi f=>Q' (.list (cutD (ns.map .int) lo hi)) f):Ev B (tSl (rSlL K) (tVar i) tl c) env Q':=ab8 (ait e d fun σ G H F Q I k=>h σ G H F Q I fun lo G' H' F' a b g' q=>k lo G' H' F' a b g' fun σ G H F Q I k=>q σ G H F Q I fun hi G' H' F' a b g' q=>k hi G' H' F' a b g' (acq q))
theorem ara (h:EvA B ta env fun ds e=>∃ ns:List Int,ds=[.list (ns.map .int)]/\ns.length < 64/\∀ b:List Int,b.Perm ns->b.Pairwise (·<=·)->QO (.own (OL (b.map .int))) e):EvO B (tCB (aij K) ta) env QO:=fun σ G H F Q I k =>
 h σ G H F _ I fun vs u v d ds q c g s l=>by
  obtain ⟨ns,m,f,j⟩:=l
  subst m
  cases s with
  | cons r t =>
   cases t
   cases r with
   | @lst a us _ ha rs =>
    have:=Rps.ints_inv rs
    subst this
    refine ⟨a,ns,rfl,SqL.of (c.gh _ _ ha),f,fun b p i n hf=>?_⟩
    have o:=Out.newL c.gh hf (Rps.ints b)
    exact k _ _ _ d _ _ q (c.out o).1 (g.trans o.gg) (c.out o).2 (j _ i n)
theorem x_en {ds:List PyData} {R:List PyData->Prop} (h:R ds):∃ xs,[PyData.list ds]=[.list xs]/\R xs:=⟨ds,rfl,h⟩
theorem az1 {xs ys:List PyData} {R:List PyData->List PyData->Prop} (h:R xs ys):∃ us vs,[PyData.list xs,.list ys]=[.list us,.list vs]/\R us vs:=⟨xs,ys,rfl,h⟩
theorem awl {j:Int} {R:Int->Prop} (b:0<=j) (a:j<=1000000) (h:R j):∃ i:Int,[PyData.int j]=[.int i]/\0<=i/\i<=1000000/\R i:=⟨j,rfl,b,a,h⟩
theorem x_dT {es:List (List Key × PyData)} {a b:Int} {e2:En} {R:List (List Key × PyData)->List Key->Prop} (e:e2[i]?=some (some (.own (OT es)))) (c:es.length<=999999) (q:R es [.inl a,.inl b]):∃ es ks,e2[i]?=some (some (.own (OT es)))/\PyData.tuple [.int a,.int b]=tkD ks/\es.length<=999999/\R es ks:=⟨es,_,e,rfl,c,q⟩
theorem x_dK {es:List (Key × PyData)} {a:Int} {e2:En} {R:List (Key × PyData)->Key->Prop} (e:e2[i]?=some (some (.own (OD es)))) (b:es.length<=999999) (q:R es (.inl a)):∃ es k,e2[i]?=some (some (.own (OD es)))/\PyData.int a=kD k/\es.length<=999999/\R es k:=⟨es,_,e,rfl,b,q⟩
theorem x_dN {es:List (Key × PyData)} {a:Int} {e2:En} {R:List (Key × PyData)->Key->Prop} (e:Has e2 i (OD es)) (q:R es (.inl a)):∃ es k,Has e2 i (OD es)/\PyData.int a=kD k/\R es k:=⟨es,_,e,rfl,q⟩
theorem x_dG {es:List (Key × PyData)} {a:Int} {d:PyData} {e2:En} {R:PyData->Prop} (e:Has e2 i (OD es)) (hd:valD es (.inl a)=some d) (q:R d):∃ es k d,Has e2 i (OD es)/\PyData.int a=kD k/\valD es k=some d/\R d:=⟨es,_,d,e,rfl,hd,q⟩
end
def ltP (p q:Int × Int):Prop:=p.1 < q.1\/(p.1=q.1/\p.2 < q.2)
@[reducible] def p2 (p:Int × Int):List Int:=[p.1,p.2]
theorem lex2 (p q:Int × Int):HT.lexLt (p2 p) (p2 q)=true ↔ ltP p q:=by
 obtain ⟨a,b⟩:=p
 obtain ⟨c,d⟩:=q
 simp [p2,HT.lexLt,ltP]
 split <;> omega
theorem apf {a:List (List Int)} {ps:List (Int × Int)} (h:a.Perm (ps.map p2)):∃ b:List (Int × Int),a=b.map p2/\b.Perm ps:=by
 refine ⟨a.map fun l=>(l.getD 0 0,l.getD 1 0),?_,?_⟩
 ·rw [aD5]
  symm
  conv=>rhs;rw [← List.map_id a]
  apply aE1
  intro l c
  obtain ⟨p,_,rfl⟩:=aB6.mp (h.mem_iff.mp c)
  rfl
 ·have:=h.map fun l=>(l.getD 0 0,l.getD 1 0)
  rw [aD5] at this
  have e:((fun l:List Int=>(l.getD 0 0,l.getD 1 0)) ∘ p2)=id:=by funext p;rfl
  rw [e,List.map_id] at this
  exact this
def Rise (es:List (Int × Int)):Prop:=es.Pairwise ltP
theorem agv (p:Int × Int):¬ ltP p p:=by unfold ltP;omega
theorem awm (p q:Int × Int):ltP p q\/p=q\/ltP q p:=by
 obtain ⟨a,b⟩:=p
 obtain ⟨c,d⟩:=q
 unfold ltP
 simp only [Prod.mk.injEq]
 omega
theorem ayz {p q r:Int × Int} (h:ltP p q) (g:ltP q r):ltP p r:=by unfold ltP at *;omega
theorem awn {a ps:List (Int × Int)} (f:a.Perm ps) (hn:ps.Nodup) (c:lexS (a.map p2)):Rise a:=by
 have b:a.Nodup:=f.nodup_iff.mpr hn
 unfold lexS at c
 rw [aF1] at c
 unfold Rise
 refine (List.Pairwise.and c b).imp fun {p q} h=>?_
 have d:¬ ltP q p:=fun z=>by rw [(lex2 q p).mpr z] at h;exact absurd h.1 (by simp)
 rcases awm p q with z | z | z
 ·exact z
 ·exact absurd z h.2
 ·exact absurd z d
theorem Rise.nodup {es:List (Int × Int)} (h:Rise es):es.Nodup:=h.imp fun {p q} z (e:p=q)=>agv q (by rw [e] at z;exact z)
theorem Rise.eq:∀ {as bs:List (Int × Int)},Rise as->Rise bs->(∀ p,p∈as ↔ p∈bs)->as=bs
 | [],[],_,_,_=>rfl
 | [],b :: _,_,_,h=>by have:=(h b).mpr aB7;simp at this
 | a :: _,[],_,_,h=>by have:=(h a).mp aB7;simp at this
 | a :: as,b :: bs,ha,hb,h=>by
  obtain ⟨c,f⟩:=List.pairwise_cons.mp ha
  obtain ⟨d,i⟩:=List.pairwise_cons.mp hb
  have e:a=b:=by
   rcases aA8.mp ((h a).mp aB7) with e | e
   ·exact e
   ·rcases aA8.mp ((h b).mpr aB7) with e2 | e2
    ·exact e2.symm
    ·exact absurd (ayz (c b e2) (d a e)) (agv a)
  subst e
  have:=Rise.eq f i fun p=>by
   have g:=h p
   simp only [aA8] at g
   constructor
   ·intro m
    rcases g.mp (.inr m) with e | e
    ·subst e;exact absurd (c p m) (agv p)
    ·exact e
   ·intro m
    rcases g.mpr (.inr m) with e | e
    ·subst e;exact absurd (d p m) (agv p)
    ·exact e
  rw [this]
structure WebOk (n:Int) (es:List (Int × Int)):Prop where
 lo:1<=n
 hi:n<=60
 inn:∀ p∈es,0<=p.1/\p.1 < p.2/\p.2 < n
 rise:Rise es
theorem WebOk.in {n:Int} {es:List (Int × Int)} (h:WebOk n es):InN n es:=fun p a=>by
 have:=h.inn p a;omega
theorem agb {n:Nat} {es:List (Int × Int)} (hn:es.Nodup) (hi:∀ p∈es,0<=p.1/\p.1 < (n:Int)/\0<=p.2/\p.2 < (n:Int)):es.length<=n * n:=by
 have h:(es.map fun (p:Int × Int)=>p.1 * (n:Int)+p.2).Nodup:=by
  unfold List.Nodup
  rw [aF1]
  refine aH0 ?_ hn
  intro p q c g d e
  have a:=hi p c
  have b:=hi q g
  apply d
  have f:p.1=q.1:=by
   rcases Int.lt_trichotomy p.1 q.1 with z | z | z
   ·have:(p.1+1) * n<=q.1 * n:=Int.mul_le_mul_of_nonneg_right (by omega) (by omega)
    rw [Int.add_mul] at this;omega
   ·exact z
   ·have:(q.1+1) * n<=p.1 * n:=Int.mul_le_mul_of_nonneg_right (by omega) (by omega)
    rw [Int.add_mul] at this;omega
  rw [f] at e
  exact Prod.ext f (by omega)
 have:=L2.few_places (n * n) _ h fun v i=>by
  obtain ⟨p,c,rfl⟩:=aB6.mp i
  have a:=hi p c
  have l:0<=p.1 * (n:Int):=Int.mul_nonneg a.1 (by omega)
  have j:(p.1+1) * (n:Int)<=n * n:=Int.mul_le_mul_of_nonneg_right (by omega) (by omega)
  rw [Int.add_mul] at j
  push_cast
  omega
 simpa using this
theorem WebOk.len {n:Int} {es:List (Int × Int)} (h:WebOk n es):es.length<=3600:=by
 have:=agb (n:=n.toNat) h.rise.nodup fun p b=>by have:=h.inn p b;have:=h.lo;omega
 have a:n.toNat<=60:=by have:=h.hi;omega
 exact aC9 this (Nat.mul_le_mul a a)
def kE (ps:List (Int × Int)):List (List Key × PyData):=ps.map fun p=>([Sum.inl p.1,Sum.inl p.2],.bool true)
def addP (ps:List (Int × Int)) (p:Int × Int):List (Int × Int):=if p∈ps then ps else ps ++ [p]
theorem aew {ps:List (Int × Int)}:(kE ps).length=ps.length:=by simp [kE]
theorem aiu (ps:List (Int × Int)) (a b:Int):putD (kE ps) [Sum.inl a,Sum.inl b] (.bool true)=kE (addP ps (a,b)):=by
 have c:((kE ps).any fun e=>decide (e.1=[Sum.inl a,Sum.inl b]))=decide ((a,b)∈ps):=by
  rw [aG8,List.any_eq_true,decide_eq_true_iff]
  constructor
  ·rintro ⟨e,d,h⟩
   obtain ⟨p,f,rfl⟩:=aB6.mp d
   simp at h
   obtain ⟨g,p2⟩:=p
   simp at h
   rw [← h.1,← h.2];exact f
  ·intro h
   exact ⟨_,aB6.mpr ⟨(a,b),h,rfl⟩,by simp⟩
 unfold putD
 rw [c]
 unfold addP
 by_cases h:(a,b)∈ps
 ·rw [aE5 (by simpa using h),aE5 h]
  unfold kE
  rw [aD5]
  apply aE1
  intro p _
  simp only [Function.comp]
  split <;> rfl
 ·rw [aE6 (by simpa using h),aE6 h]
  simp [kE]
theorem addP_mem {ps:List (Int × Int)} {p q:Int × Int}:q∈addP ps p ↔ q∈ps\/q=p:=by
 unfold addP
 split
 ·rename_i h
  exact ⟨.inl,fun z=>z.elim id fun e=>e ▸ h⟩
 ·simp
theorem apg {ps:List (Int × Int)} {p:Int × Int} (h:ps.Nodup):(addP ps p).Nodup:=by
 unfold addP
 split
 ·exact h
 ·rename_i hn
  rw [List.nodup_append]
  exact ⟨h,by simp,fun x b y a=>by simp at a;subst a;rintro rfl;exact hn b⟩
theorem awo (ps:List (Int × Int)):(kE ps).map (fun e=>tkD e.1)=ps.map prD:=by
 unfold kE;rw [aD5];rfl
theorem arb (ps:List (Int × Int)):(ps.map p2).map tiD=ps.map prD:=by rw [aD5];rfl
theorem az2 {ps:List (Int × Int)}:∀ ns∈ps.map p2,ns ≠ []:=fun ns h=>by
 obtain ⟨p,_,rfl⟩:=aB6.mp h
 simp
section
variable {B:Bs} {env:En} {QO:Sl->En->Prop} {K:Frag} {i:Nat} {ta:TA}
theorem arc {ps:List (Int × Int)} (h:EvA B ta env fun ds e=>ds=[.list (ps.map prD)]/\∀ a:List (Int × Int),a.Perm ps->lexS (a.map p2)->QO (.own (OL (a.map prD))) e):EvO B (tCB (ail K) ta) env QO :=
 aq2 (pss:=ps.map p2) az2 fun σ G H F Q I k=>h σ G H F Q I fun vs G' H' F' ds e f g r ⟨d,q⟩=>k vs G' H' F' ds e f g r ⟨by rw [arb];exact d,fun j c i=>by
  obtain ⟨a,rfl,b⟩:=apf c
  rw [arb];exact q a b i⟩
end
def OW (d:PyData) (ds:List PyData):Own where
 P:=fun G H v F=>∃ t l u vs,v=.ref t/\H t=some (.tup [u,.ref l])/\Rp G u d/\H l=some (.lst vs)/\Rps G vs ds/\∀ b,F b ↔ b=t\/b=l
 mono:=fun ⟨t,l,u,vs,e,h1,r1,h2,r2,f⟩ g hh=>⟨t,l,u,vs,e,hh t _ ((f t).mpr (.inl rfl)) h1,r1.same g,hh l _ ((f l).mpr (.inr rfl)) h2,r2.same g,f⟩
 dom:=fun ⟨t,l,u,vs,e,h1,r1,h2,r2,f⟩ b z=>by
  rcases (f b).mp z with rfl | rfl
  ·exact ⟨_,h1⟩
  ·exact ⟨_,h2⟩
theorem abv {d:PyData} {ds:List PyData}:Frz (OW d ds) (.tuple [d,.list ds]):=fun G H v F ⟨t,l,u,vs,e,b,h,a,c,f⟩ n g=>by
 subst e
 exact .tup (by rw [aet ((f t).mpr (.inl rfl))];exact b) (.cons (h.same (abd n)) (.cons (.lst (by rw [aet ((f l).mpr (.inr rfl))];exact a) (c.same (abd n))) .nil))
theorem auo {d:PyData} {ds:List PyData} {R:PyData->Prop} (h:R (.tuple [d,.list ds])):FQ (.own (OW d ds)) R:=⟨_,abv,h⟩
section
variable {B:Bs} {env:En} {QO:Sl->En->Prop} {Q':PyData->En->Prop} {K:Frag} {i j:Nat} {ta te:TE}
theorem ahr {u:V} {l:Addr} {ks:List Key}:HO.tup [u,.ref l] ≠ .tup (ks.map kV):=by
 intro z
 injection z with z
 match ks,z with
 | [],z=>cases z
 | [_],z=>cases z
 | [_,k],z =>
  simp at z
  cases k <;> simp [kV] at z
 | _ :: _ :: _ :: _,z=>simp at z
theorem ang {d:PyData} {ds:List PyData} {a b:Int} (C:env[i]?=some (some (.own (OW d ds)))) (P:ds.length<=999999) (q:Q' .none (env.set i (some (.own (OW d (ds ++ [.tuple [.int a,.int b]])))))):Ev B (tBM K "list" ad6 (tOp (ada K) (tVar i) (tC (.int 1))) (abt (tTup (abt (tC (.int a)) (abt (tC (.int b)) tNil))) tNil)) env Q':=fun σ G H F Q I k=>by
 obtain ⟨v,D,⟨t,l,u,vs,rfl,h,O,g,E,f⟩,hb⟩:=I.sl i _ C
 refine ⟨_,D,ahk h at1 ⟨.inl ⟨rfl,_,SqL.of g⟩,?_⟩⟩
 refine ⟨by show (2:Nat)<=sizeLine;decide,fun p n=>?_⟩
 have o:=Out.newT (ds:=[.int a,.int b]) I.gh n (.cons (.int a) (.cons (.int b) .nil))
 have r:=(I.out o).1
 have tl:t ≠ l:=at3 h g (by intro z;cases z)
 have M:l ≠ p:=aak g n
 have N:t ≠ p:=aak h n
 have x:upd H p (.tup [.int a,.int b]) l=some (.lst vs):=by rw [aae M];exact g
 have m:upd H p (.tup [.int a,.int b]) t=some (.tup [u,.ref l]):=by rw [aae N];exact h
 refine aes x (by rw [E.length];exact big (by omega)) ?_
 have J:=r.change (A:=OW d (ds ++ [.tuple [.int a,.int b]])) (H2:=upd (upd H p (.tup [.int a,.int b])) l (.lst (vs ++ [.ref p]))) (F2:=F i) (os':=.own (OW d (ds ++ [.tuple [.int a,.int b]]))) i C D (fun c w L j=>by rw [aae (fun z:c=l=>L ((f c).mpr (.inr z)))];exact j)
  (fun c w j=>by
   by_cases z:c=l
   ·rw [z];exact ⟨_,aah⟩
   ·rw [aae z];exact ⟨w,j⟩)
  (fun c z=>⟨.inl z,by
   by_cases y:c=l
   ·rw [y];exact ⟨_,aah⟩
   ·rw [aae y];exact r.fo i c z⟩) ?_ (fun c ks e=>by
   by_cases z:c=l
   ·subst z;rw [aah] at e;cases e
   ·rw [aae z] at e;exact r.ft c ks e) (.inl ⟨rfl,_,rfl⟩)
 ·exact k _ _ _ _ _ _ J o.gg .non q
 ·have s:Rp (upd G p (.tup [.int a,.int b])) (.ref p) (.tuple [.int a,.int b]):=o.ok.1
  exact ⟨t,l,u,_,rfl,by rw [aae tl];exact m,O.same o.gg,aah,(E.same o.gg).append (.cons s .nil),f⟩
end
section
variable {B:Bs} {env:En} {Q':PyData->En->Prop} {D':VEnds} {i:Nat} {ty tv:TE}
theorem aph {a:List (List Key × PyData)} (c:env[i]?=some (some (.own (OT a)))) (h:Ev B tv env fun d b=>Has b i (OT a)/\Ev B ty b fun y e2=>∃ es ks,e2[i]?=some (some (.own (OT es)))/\y=tkD ks/\es.length<=999999/\D'.nx (e2.set i (some (.own (OT (putD es ks d)))))):EvS B (aib (tVar i) ty tv) D' env:=aq7 h
theorem api {a:List (Key × PyData)} (c:env[i]?=some (some (.own (OD a)))) (h:Ev B tv env fun d b=>Has b i (OD a)/\Ev B ty b fun y e2=>∃ es k,e2[i]?=some (some (.own (OD es)))/\y=kD k/\es.length<=999999/\D'.nx (e2.set i (some (.own (OD (putD es k d)))))):EvS B (aib (tVar i) ty tv) D' env:=aq8 h
theorem anh {a:List (Key × PyData)} (b:Has env i (OD a)) (h:Ev B ty env fun y e2=>∃ es k,Has e2 i (OD es)/\y=kD k/\Q' (.bool (!(valD es k).isSome)) e2):Ev B (agl ty (tVar i)) env Q':=ape (es0:=[]) h
end
section
variable {R:Sl->Prop} {K:Frag}
end
theorem akc (p:Int × Int):aat (prD p)=true:=rfl
theorem ad0 (ps:List (Int × Int)):plainDs (ps.map prD)=true:=by
 rw [ag4]
 intro d hd
 obtain ⟨p,_,rfl⟩:=aB6.mp hd
 rfl
theorem aoh (p q:Int × Int):PyData.eqv (prD p) (prD q)=decide (p=q):=by
 rw [aG8,af6 _ _ rfl rfl,decide_eq_true_iff]
 constructor
 ·intro h
  simp [prD] at h
  exact Prod.ext h.1 h.2
 ·rintro rfl;rfl
theorem aoi (ps:List (Int × Int)) (q:Int × Int):((ps.map prD).any fun z=>PyData.eqv z (prD q))=decide (q∈ps):=by
 rw [aG8,List.any_eq_true,decide_eq_true_iff]
 constructor
 ·rintro ⟨d,hd,e⟩
  obtain ⟨p,a,rfl⟩:=aB6.mp hd
  rw [aoh] at e
  rw [← of_decide_eq_true e];exact a
 ·intro h
  exact ⟨prD q,aB6.mpr ⟨q,h,rfl⟩,by rw [aoh];exact aD4 rfl⟩
theorem ae2 {ds:List PyData} {m:Nat} (h:∀ d∈ds,d.depth<=m):PyData.depthAll ds<=m:=by
 induction ds with
 | nil=>simp [PyData.depthAll]
 | cons d ds ih =>
  simp only [PyData.depthAll]
  exact Nat.max_le.mpr ⟨h d aB7,ih fun e a=>h e (aB4 _ a)⟩
theorem aex (p:Int × Int):(prD p).depth<=1:=by simp [prD,PyData.depth,PyData.depthAll]
theorem apj (ps:List (Int × Int)):PyData.depthAll (ps.map prD)<=1:=ae2 fun d hd=>by
 obtain ⟨p,_,rfl⟩:=aB6.mp hd
 exact aex p
theorem aej {d:PyData} (h:aat d=true):PyData.eqv d d=true:=(af6 d d h h).mpr rfl
end VL
namespace VL
end VL
namespace VL
open PySem PySem.Spec L2
section
variable {B:Bs} {env:En} {Q':PyData->En->Prop} {K:Frag} {E:XK} {i:Nat}
end
end VL
namespace VL
open PySem L2
theorem az3 {B:Bs} {t:TS} {D':VEnds} {e:En} (h:EvS B t D' e):EvS B t D' e:=h
theorem az4 {B:Bs} {g:TG} {s:Sl} {e:En} {Q:En->Prop} (h:EvG B g s e Q):EvG B g s e Q:=h
theorem ay0 {B:Bs} {g:TGs} {s:List PyData} {e:En} {Q:En->Prop} (h:EvGs B g s e Q):EvGs B g s e Q:=h
theorem g_Ev {B:Bs} {t:TE} {e:En} {Q:PyData->En->Prop} (h:Ev B t e Q):Ev B t e Q:=h
theorem az5 {B:Bs} {t:TE} {e:En} {Q:Sl->En->Prop} (h:EvO B t e Q):EvO B t e Q:=h
theorem az6 {B:Bs} {t:TT} {e:En} {Q:Bool->En->Prop} (h:EvT B t e Q):EvT B t e Q:=h
theorem az7 {B:Bs} {t:TA} {e:En} {Q:List PyData->En->Prop} (h:EvA B t e Q):EvA B t e Q:=h
theorem az8 {B:Bs} {t:TI} {e:En} {Q:List PyData->En->Prop} (h:EvI B t e Q):EvI B t e Q:=h
theorem ay3 {B:Bs} {t:TO} {e:En} {Q:Option Int->En->Prop} (h:EvOp B t e Q):EvOp B t e Q:=h
theorem az9 {r:R2} {x y:PyData} {R:Sl->Prop} (h:Op2 r x y R):Op2 r x y R:=h
theorem a0a {r:List V->Hp->VK->Prop} {x:List PyData} {R:Sl->Prop} (h:OpA r x R):OpA r x R:=h
theorem g_FQ {s:Sl} {R:PyData->Prop} (h:FQ s R):FQ s R:=h
theorem awp {ds:List PyData} {R:List PyData->Prop} (h:ak9 ds R):ak9 ds R:=h
theorem awq {ds:List PyData} {R:List PyData->Prop} (h:ala ds R):ala ds R:=h
structure PsOk (n:Int) (ps:List (Int × Int)):Prop where
 nd:ps.Nodup
 inn:∀ p∈ps,0<=p.1/\p.1 < p.2/\p.2 < n
theorem PsOk.nil (n:Int):PsOk n []:=⟨List.nodup_nil,fun p a=>by simp at a⟩
theorem PsOk.add {n a b:Int} {ps:List (Int × Int)} (h:PsOk n ps) (g:0<=a) (d:a < b) (c:b < n):PsOk n (addP ps (a,b)) :=
 ⟨apg h.nd,fun p f=>by
  rcases addP_mem.mp f with q | q
  ·exact h.inn p q
  ·subst q;exact ⟨g,d,c⟩⟩
theorem PsOk.len {n:Int} {ps:List (Int × Int)} (h:PsOk n ps) (hn:n<=100):ps.length<=10000:=by
 by_cases h0:0<=n
 ·have:=agb (n:=n.toNat) h.nd fun p b=>by have:=h.inn p b;omega
  have a:n.toNat<=100:=by omega
  exact aC9 this (Nat.mul_le_mul a a)
 ·cases ps with
  | nil=>simp
  | cons p r=>have:=h.inn p aB7;omega
def Tr (n:Int) (ps:List (Int × Int)):Prop:=∀ k,1<=k->k < n->∃ h,0<=h/\h < k/\(h,k)∈ps
theorem Tr.add {n:Int} {ps:List (Int × Int)} {p:Int × Int} (h:Tr n ps):Tr n (addP ps p):=fun k d f=>by
 obtain ⟨x,a,b,c⟩:=h k d f
 exact ⟨x,a,b,addP_mem.mpr (.inl c)⟩
def Conn (n:Int) (T:Int->Int->Prop):Prop:=∀ u v,0<=u->u < n->0<=v->v < n->∃ k,Gr.Walk T u k v
theorem Tr.conn {n:Int} {ps:List (Int × Int)} (h:Tr n ps):Conn n (Tied ps):=by
 have d:∀ (m:Nat) (v:Int),v=m->v < n->∃ k,Gr.Walk (Tied ps) 0 k v:=by
  intro m
  induction m using Nat.strongRecOn with
  | ind m ih =>
   intro v l hn
   by_cases h0:m=0
   ·subst h0;have:v=0:=by omega
    subst this;exact ⟨0,.refl⟩
   ·obtain ⟨x,a,b,c⟩:=h v (by omega) hn
    obtain ⟨k,w⟩:=ih x.toNat (by omega) x (by omega) (by omega)
    exact ⟨k+1,.step w (.inl c)⟩
 intro u v i g v0 f
 obtain ⟨k,w⟩:=d u.toNat u (by omega) g
 obtain ⟨j,x⟩:=d v.toNat v (by omega) f
 exact ⟨k+j,(w.rev fun _ _ t=>t.symm).app x⟩
theorem Conn.joined {n:Int} {es:List (Int × Int)} (h:Conn n (Tied es)) (b:0 < n):Joined n es:=fun v v0 a=>by
 obtain ⟨k,w⟩:=h 0 v (by omega) (by omega) v0 a
 obtain ⟨d,_,hd⟩:=Gr.Dist.of_walk w
 exact ⟨d,hd⟩
theorem Joined.conn {n:Int} {es:List (Int × Int)} (h:Joined n es):Conn n (Tied es):=fun u v c f v0 a=>by
 obtain ⟨d,hd⟩:=h u c f
 obtain ⟨e,b⟩:=h v v0 a
 exact ⟨d+e,(hd.1.rev fun _ _ t=>t.symm).app b.1⟩
theorem Conn.mono {n:Int} {T a:Int->Int->Prop} (h:Conn n T) (g:∀ u v,T u v->a u v):Conn n a:=fun u v d f v0 b=>by
 obtain ⟨k,w⟩:=h u v d f v0 b
 exact ⟨k,w.rec .refl fun _ t c => .step c (g _ _ t)⟩
def Order (n:Int) (row:List Int):Prop:=row.Perm ((List.range n.toNat).map fun (i:Nat)=>(i:Int))
theorem Order.len {n:Int} {row:List Int} (h:Order n row):row.length=n.toNat:=by have:=h.length_eq;simpa using this
theorem Order.nodup {n:Int} {row:List Int} (h:Order n row):row.Nodup:=by
 refine h.nodup_iff.mpr ?_
 unfold List.Nodup
 rw [aF1]
 exact List.nodup_range.imp fun {a b} c e=>c (by omega)
theorem Order.mem {n:Int} {row:List Int} (h:Order n row) {v:Int}:v∈row ↔ 0<=v/\v < n:=by
 rw [h.mem_iff,aB6]
 constructor
 ·rintro ⟨i,hi,rfl⟩
  have:=aB8.mp hi
  omega
 ·rintro ⟨b,a⟩
  exact ⟨v.toNat,aB8.mpr (by omega),by omega⟩
theorem Order.get {n:Int} {row:List Int} (h:Order n row) {a:Int} (c:0<=a) (d:a < n):∃ x,row[a.toNat]?=some x/\atI row a=some x/\0<=x/\x < n:=by
 have b:a.toNat < row.length:=by rw [h.len];omega
 have e:row[a.toNat]?=some row[a.toNat]:=aA0 b
 have:=h.mem.mp (aA2 e)
 exact ⟨_,e,aiq c e,this.1,this.2⟩
theorem Order.inj {n:Int} {row:List Int} (h:Order n row) {a b x:Int} (a0:0<=a) (b0:0<=b) (ha:row[a.toNat]?=some x) (hb:row[b.toNat]?=some x):a=b:=by
 obtain ⟨c,d⟩:=aA1.mp ha
 obtain ⟨f,e2⟩:=aA1.mp hb
 have:=nodup_ix h.nodup c f (d.trans e2.symm)
 omega
theorem Order.id (n:Int):Order n ((List.range n.toNat).map fun (i:Nat)=>(i:Int)):=List.Perm.refl _
def abj (row:List Int) (a:Int):Int:=row.getD a.toNat 0
def reP (row:List Int) (p:Int × Int):Int × Int:=if abj row p.1 < abj row p.2 then (abj row p.1,abj row p.2) else (abj row p.2,abj row p.1)
theorem Order.at {n:Int} {row:List Int} (h:Order n row) {a:Int} (c:0<=a) (b:a < n):row[a.toNat]?=some (abj row a)/\0<=abj row a/\abj row a < n:=by
 obtain ⟨x,e,_,f,d⟩:=h.get c b
 have:abj row a=x:=by unfold abj;rw [List.getD_eq_getElem?_getD,e];rfl
 rw [this];exact ⟨e,f,d⟩
theorem Order.atI {n:Int} {row:List Int} (h:Order n row) {a:Int} (b:0<=a) (c:a < n):L2.atI row a=some (abj row a):=aiq b (h.at b c).1
theorem Order.ne {n:Int} {row:List Int} (h:Order n row) {a b:Int} (a0:0<=a) (i:a < n) (b0:0<=b) (f:b < n) (c:a ≠ b):abj row a ≠ abj row b:=fun e=>by
 have d:=(h.at a0 i).1
 have g:=(h.at b0 f).1
 rw [e] at d
 exact c (h.inj a0 b0 d g)
theorem PsOk.re {n:Int} {ps:List (Int × Int)} {row:List Int} (h:PsOk n ps) (o:Order n row):PsOk n (ps.map (reP row)):=by
 have inn:∀ p∈ps,0<=(reP row p).1/\(reP row p).1 < (reP row p).2/\(reP row p).2 < n:=fun p c=>by
  obtain ⟨p0,v,p2⟩:=h.inn p c
  have a:=o.at p0 (by omega)
  have b:=o.at (a:=p.2) (by omega) p2
  have ne:=o.ne p0 (by omega) (by omega) p2 (by omega)
  unfold reP
  split <;> dsimp only <;> omega
 refine ⟨?_,fun q d=>by obtain ⟨p,c,rfl⟩:=aB6.mp d;exact inn p c⟩
 unfold List.Nodup
 rw [aF1]
 refine aH0 ?_ h.nd
 intro p q c d g e
 apply g
 obtain ⟨p0,v,p2⟩:=h.inn p c
 obtain ⟨i,x,r⟩:=h.inn q d
 have inj:∀ a b,0<=a->a < n->0<=b->b < n->abj row a=abj row b->a=b:=fun a b a0 w b0 u e=>by
  apply Classical.byContradiction
  intro f
  exact o.ne a0 w b0 u f e
 have j:=inj p.1 q.1 p0 (by omega) i (by omega)
 have s:=inj p.2 q.2 (by omega) p2 (by omega) r
 have l:=inj p.1 q.2 p0 (by omega) (by omega) r
 have m:=inj p.2 q.1 (by omega) p2 i (by omega)
 unfold reP at e
 split at e <;> split at e <;> simp only [Prod.mk.injEq] at e
 ·exact Prod.ext (j e.1) (s e.2)
 ·have:=l e.1;have:=m e.2;omega
 ·have:=m e.1;have:=l e.2;omega
 ·exact Prod.ext (j e.2) (s e.1)
theorem Tied.re {ps:List (Int × Int)} {row:List Int} {u v:Int} (h:Tied ps u v):Tied (ps.map (reP row)) (abj row u) (abj row v):=by
 have c:∀ a b,(a,b)∈ps->Tied (ps.map (reP row)) (abj row a) (abj row b):=fun a b hm=>by
  have:=List.mem_map_of_mem (f:=reP row) hm
  unfold reP at this
  dsimp only at this
  split at this
  ·exact .inl this
  ·exact .inr this
 rcases h with h | h
 ·exact c u v h
 ·exact (c v u h).symm
theorem Conn.re {n:Int} {ps:List (Int × Int)} {row:List Int} (h:Conn n (Tied ps)) (o:Order n row):Conn n (Tied (ps.map (reP row))):=fun u v f q v0 l=>by
 have c:∀ x,0<=x->x < n->∃ a,0<=a/\a < n/\abj row a=x:=fun x j g=>by
  obtain ⟨i,hi,e⟩:=aG6.mp (o.mem.mpr ⟨j,g⟩)
  refine ⟨i,by omega,by rw [o.len] at hi;omega,?_⟩
  unfold abj
  simp [hi,e]
 obtain ⟨a,a0,m,rfl⟩:=c u f q
 obtain ⟨b,b0,d,rfl⟩:=c v v0 l
 obtain ⟨k,w⟩:=h a b a0 m b0 d
 exact ⟨k,w.rec .refl fun _ t p => .step p t.re⟩
theorem Tied.perm {a ps:List (Int × Int)} (h:a.Perm ps) {u v:Int}:Tied a u v ↔ Tied ps u v:=by unfold Tied;rw [h.mem_iff,h.mem_iff]
theorem ati {n:Int} {ps a:List (Int × Int)} (f:1<=n) (d:n<=60) (h:PsOk n ps) (b:a.Perm ps) (c:lexS (a.map p2)):WebOk n a:=⟨f,d,fun p hm=>h.inn p (b.mem_iff.mp hm),awn b h.nd c⟩
theorem afu {α:Type}:∀ {l:List α} {k:Nat} {x : α},l[k]?=some x->(x :: l.eraseIdx k).Perm l
 | [],_,_,h=>by simp at h
 | a :: l,0,x,h=>by simp at h;subst h;exact List.Perm.refl _
 | a :: l,k+1,x,h=>by
  have b:=afu (l:=l) (k:=k) (x:=x) (by simpa using h)
  exact (List.Perm.swap a x _).trans (b.cons a)
theorem apk {n:Int} {row left:List Int} {k:Nat} {x:Int} (h:Order n (row ++ left)) (a:left[k]?=some x):Order n ((row ++ [x]) ++ left.eraseIdx k):=by
 refine List.Perm.trans ?_ h
 rw [aB3]
 refine List.Perm.append_left row ?_
 exact afu a
section
variable {B:Bs} {env:En} {g:TG} {tif:TT} {te:TE} {K:Frag} {src:List (Option Nat)} {ds:List PyData} {e1:En} {R:List PyData->En->Prop}
theorem ard {w:Frag} {α:Type} {xs:List α} {fa fb : α->PyData} (f : α->PyData) (p : α->Bool) (n:noIo (aaj src e1)=true) (D:xs.length<=999999)
  (h:∀ x∈xs,∀ a:Bs,a.K=K->EvT a tif (some (.st (fa x)) :: some (.st (fb x)) :: aaj src e1) fun b j=>b=p x/\j=some (.st (fa x)) :: some (.st (fb x)) :: aaj src e1/\(b=true->Ev a te (some (.st (fa x)) :: some (.st (fb x)) :: aaj src e1) fun y g=>y=f x/\g=some (.st (fa x)) :: some (.st (fb x)) :: aaj src e1))
  (A:R ((xs.filter p).map f) e1):LcV K (none :: none :: src) (gLst w 2 (aa8 (aas 0) (aa8 (aas 1) gNil))) tif te (xs.map fun x => .list [fa x,fb x]) e1 R:=by
 have c:noIo (aaj (none :: none :: src) e1)=true:=by
  show ((none :: none :: aaj src e1).all fun s => !isIo s)=true
  rw [List.all_cons,List.all_cons]
  exact (aG1 _ _).mpr ⟨rfl,(aG1 _ _).mpr ⟨rfl,n⟩⟩
 refine ⟨fun i ys e=>ys=((xs.take i).filter p).map f/\∃ o o',e=stO o :: stO o' :: aaj src e1,⟨by simp,none,none,rfl⟩,?_,?_,?_⟩
 ·rintro i ys e ⟨_,o,o',rfl⟩
  exact ⟨⟨isIo_stO.symm,ab9⟩,⟨isIo_stO.symm,ab9⟩,acz acv⟩
 ·rintro i d ys e hd ⟨rfl,o,o',rfl⟩ a C
  rw [aA5] at hd
  cases hx:xs[i]? with
  | none=>rw [hx] at hd;cases hd
  | some x =>
   rw [hx] at hd
   cases hd
   have hi:i < xs.length:=(aA1.mp hx).1
   have q:xs.take (i+1)=xs.take i ++ [x]:=by rw [aG4,hx];rfl
   refine aog rfl (abh (aar (abh (aar (adj ?_)))))
   show EvT a tif (some (.st (fa x)) :: some (.st (fb x)) :: aaj src e1) _
   intro σ G H F Q I k
   refine h x (aA2 hx) a C σ G H F Q I fun b G' H' F' j m g' ⟨hb,u,r⟩=>k b G' H' F' j m g' ?_
   subst u
   by_cases hp:b=true
   ·rw [aE5 hp]
    intro σ G H F Q I k
    refine r hp σ G H F Q I fun v G' H' F' d' g m g' z ⟨B,l⟩=>k v G' H' F' d' g m g' z ?_
    subst B l
    refine ⟨?_,?_,some _,some _,rfl⟩
    ·have:=List.length_filter_le p (xs.take i)
     simp only [aA3]
     have E:(xs.take i).length<=i:=by simp;omega
     omega
    ·rw [q,List.filter_append,aD7]
     have:p x=true:=by rw [← hb];exact hp
     simp [this]
   ·rw [aE6 hp]
    refine ⟨?_,some _,some _,rfl⟩
    rw [q,List.filter_append,aD7]
    have:p x=false:=by rw [← hb];simpa using hp
    simp [this]
 ·rintro ys e ⟨rfl,o,o',rfl⟩
  rw [aff c]
  simpa using A
end
theorem aoj (n:Nat):rngD 0 n=((List.range n).map fun (i:Nat)=>(i:Int)).map PyData.int:=by simp [rngD]
theorem ahs {B:Bs} {t:TS} {D':VEnds} {env:En} (J:En->Prop) (h:EvS B t { D' with nx:=J } env) (k:∀ e,J e->D'.nx e):EvS B t D' env:=fun σ G H F D I r=>h σ G H F D I ⟨fun σ G' H F env a g q=>r.nx _ _ _ _ _ a g (k _ q),r.rt,r.bk,r.ct⟩
theorem afi {B:Bs} {g:TG} {A:Own} {d:PyData} {env:En} {b:En->Prop} (f:Frz A d) (h:EvG B g (.st d) env b):EvG B g (.own A) env b:=fun σ G H F v Fv Q I x k =>
 h σ _ H F v _ Q (I.freeze x.fb x.fd x.fg) (ade (f G H v Fv x.ok x.fg I.gh)) fun a G' H' F' c i g' q=>k a G' H' F' c i ((abd x.fg).trans g') q
theorem atj {B:Bs} {t:TS} {D':VEnds} {env:En} {A:Own} {d:PyData} {s:Sl} (i:Nat) (h:s=.own A\/s=.st d) (e:env[i]?=some (some s)) (f:Frz A d) (q:EvS B t D' (env.set i (some (.st d)))):EvS B t D' env:=by
 rcases h with rfl | rfl
 ·exact ad8 i e f q
 ·obtain ⟨hi,e⟩:=aA1.mp e
  rw [← e,List.set_getElem_self] at q
  exact q
theorem cutR {R X:Prop} (h:R->X) (r:R):X:=h r
end VL
namespace VL
open PySem PySem.Spec L2
def adu (e:En):Prop:=∀ (j:Nat) (s:Sl),e[j]?=some (some s)->(∃ d,s=.st d)\/∃ ns:List Int,s=.scr ns
def Sls (K:Frag) (G:Hp) (σ:St) (e:En):Prop:=∀ (j:Nat) (s:Sl),e[j]?=some (some s)->∃ v,σ[j]?=some (some v)/\((∃ d,s=.st d/\Rp G v d)\/∃ (ns:List Int) (a:Addr),s=.scr ns/\v=.ref a/\SqL K G a (ns.map V.int))
theorem Sls.same {K:Frag} {G G':Hp} {σ:St} {e:En} (h:Sls K G σ e) (g:Same G G'):Sls K G' σ e:=fun j s es=>by
 obtain ⟨v,c,q⟩:=h j s es
 refine ⟨v,c,?_⟩
 rcases q with ⟨d,b,r⟩ | ⟨ns,a,b,e2,r⟩
 ·exact .inl ⟨d,b,r.same g⟩
 ·exact .inr ⟨ns,a,b,e2,g.seq r⟩
def bsC (K:Frag) (G H:Hp) (σ:St):Bs:=⟨K,G,H,H,σ,noF⟩
theorem akd {K:Frag} {G H:Hp} {σ:St} {e:En} (gh:Same G H) (ft:FT G H) (ln : σ.length=e.length) (sl:Sls K G σ e):VI (bsC K G H σ) G H σ e noF:=by
 refine ⟨gh,Same.refl _,fun a o e => .inl e,Same.refl _,Same.refl _,fun a o e=>⟨o,e⟩,fun i a z=>z.elim,fun i a z=>z.elim,fun i j a z=>z.elim,fun i a z=>z.elim,fun i s es=>?_,ln,ft⟩
 obtain ⟨v,c,q⟩:=sl i s es
 refine ⟨v,c,?_⟩
 rcases q with ⟨d,b,r⟩ | ⟨ns,a,b,e2,r⟩
 ·subst b;exact ⟨r,fun a z=>z⟩
 ·subst b;exact ⟨⟨a,e2,r⟩,fun a z=>z⟩
theorem aiv {B:Bs} {K:Frag} {G H:Hp} {σ:St} {e:En} {F:Nat->Addr->Prop} (I:VI B G H σ e F) (c:adu e) (f:B.K=K:=by rfl):Sls K G σ e:=fun j s es=>by
 subst f
 obtain ⟨v,h,q⟩:=I.sl j s es
 refine ⟨v,h,?_⟩
 rcases c j s es with ⟨d,rfl⟩ | ⟨ns,rfl⟩
 ·exact .inl ⟨d,rfl,q.1⟩
 ·obtain ⟨⟨a,b,g⟩,_⟩:=q
  exact .inr ⟨ns,a,rfl,b,g⟩
def LcV2 (K:Frag) (src:List (Option Nat)) (g:TG) (tif:TT) (wi2:TI) (g2:TG) (tif2:TT) (te:TE) (ds:List PyData) (e1:En) (R:List PyData->Prop):Prop:=∃ J:Nat->List PyData->En->Prop,J 0 [] (aaj src e1)/\(∀ i ys e,J i ys e->adu e) /\
 (∀ i d ys e,ds[i]?=some d->J i ys e->∀ B':Bs,B'.K=K->EvG B' g (.st d) e fun e2=>EvT B' tif e2 fun b e3=>if b=true then EvI B' wi2 e3 fun ds2 e4=>∃ J2:Nat->List PyData->En->Prop,J2 0 ys e4/\(∀ j ys e,J2 j ys e->adu e) /\
  (∀ j d2 ys2 e,ds2[j]?=some d2->J2 j ys2 e->∀ B2:Bs,B2.K=K->EvG B2 g2 (.st d2) e fun e5=>EvT B2 tif2 e5 fun b e6=>if b=true then Ev B2 te e6 fun y e7=>ys2.length<=999999/\J2 (j+1) (ys2 ++ [y]) e7 else J2 (j+1) ys2 e6)/\(∀ ys2 e,J2 ds2.length ys2 e->J (i+1) ys2 e) else J (i+1) ys e3)/\∀ ys e,J ds.length ys e->R ys
section
variable {B:Bs} {env:En}
theorem awr {src:List (Option Nat)} {wi:TI} {g:TG} {b0:TT} {a8:TI} {g2:TG} {M:TT} {te:TE} {QO:Sl->En->Prop} (h:EvI B wi env fun ds w=>LcV2 B.K src g b0 a8 g2 M te ds w fun ys=>QO (.own (OL ys)) w):EvO B (tLC2 src wi g b0 a8 g2 M te) env QO:=fun σ G H F Q I k=>by
 refine h σ G H F _ I fun J G1 H1 L ds w X g1 it ⟨Jv,j0,jc,js,jd⟩ c n=>?_
 have fa:∀ j,¬ L j c:=X.no_f n
 have hb:B.H c=none:=X.no_b n
 -- between two turns
 let Wv:(List PyData->En->Prop)->List V->St->Hp->Prop:=fun J ys σI H=>∃ f e D,VI B f H σ w L/\Same G1 f/\H c=some (.lst ys)/\Rps f ys D/\f c=none/\J D e/\σI.length=e.length/\Sls B.K f σI e
 -- out of a frame within
 have leave:∀ {l H3:Hp} {σI:St} {ys:List V},VI B l H3 σ w L->l c=none->H3 c=some (.lst ys)->∀ {R T:Hp} {C:St} {F4:Nat->Addr->Prop} {e4:En},VI (bsC B.K l H3 σI) R T C e4 F4->VI B R T σ w L/\R c=none/\T c=some (.lst ys):=by
  intro l H3 σI ys Z W ac R T C F4 e4 E
  refine ⟨Z.grow E.g0 E.gh E.rs E.gn E.ft,?_,E.rs _ _ ac⟩
  cases e':R c with
  | none=>rfl
  | some u =>
   rcases E.gn c u e' with q | q
   ·change l c=_ at q;rw [W] at q;cases q
   ·change H3 c=_ at q;rw [ac] at q;cases q
 have step:∀ {f H2:Hp} {ys:List V} {x:V} {l H3:Hp} {d:PyData},VI B f H2 σ w L->f c=none->H2 c=some (.lst ys)->Out f H2 x l H3 (.st d) (fun _=>False)->VI B l H3 σ w L/\l c=none/\H3 c=some (.lst ys):=by
  intro f H2 ys x l H3 d N W ac o
  refine ⟨(N.out o).1,?_,o.hh _ _ ac⟩
  cases e':l c with
  | none=>rfl
  | some u =>
   rcases o.gn c u e' with q | q
   ·rw [W] at q;cases q
   ·rw [ac] at q;cases q
 refine ⟨fun i m ys σI H=>m=ds.length - i/\i<=ds.length/\Wv (Jv i) ys σI H,⟨ds.length,by simp,aF0 _,?_⟩,?_⟩
 ·refine ⟨G1,aaj src w,[],X.aside (fun _ z=>nomatch z) (X.no_g n) fa hb,Same.refl _,aah,.nil,X.no_g n,j0,by simp [pick,aaj],fun j s e=>?_⟩
  obtain ⟨i,t,hs,ht,hp⟩:=aev e
  obtain ⟨v,hv,q⟩:=X.sl i t ht
  refine ⟨v,aho hs hv,?_⟩
  cases t with
  | st d=>cases hp;exact .inl ⟨d,rfl,q.1⟩
  | scr ns =>
   cases hp
   obtain ⟨⟨a,ea,sq⟩,_⟩:=q
   exact .inr ⟨ns,a,rfl,ea,sq⟩
  | own A=>cases hp;rcases jc _ _ _ j0 j _ e with ⟨d,z⟩ | ⟨ns,z⟩ <;> cases z
  | io A=>cases hp;rcases jc _ _ _ j0 j _ e with ⟨d,z⟩ | ⟨ns,z⟩ <;> cases z
 ·rintro i m ys σI H2 ⟨rfl,hi,f,e,D,N,r,S,ry,W,jv,ln,sl⟩
  by_cases hlt:i < ds.length
  ·refine .inr ⟨it.go i f H2 r N.gh hlt,Wv (Jv (i+1)),fun b6 b4 H' hw=>⟨ds.length - (i+1),by omega,rfl,hlt,hw⟩,fun x H3 y=>?_⟩
   obtain ⟨l,o⟩:=it.yld i f H2 x H3 _ r N.gh N.ft (aA0 hlt) y
   obtain ⟨Z,a7,a2⟩:=step N W S o
   have E3:=akd (K:=B.K) Z.gh Z.ft ln (sl.same o.gg)
   refine js i _ D e (aA0 hlt) jv (bsC B.K l H3 σI) rfl σI l H3 _ x _ _ E3 (ade o.ok.1) fun C R T F4 e4 E g4 q4=>?_
   refine q4 C R T F4 _ E fun b G5 H5 F5 e5 I5 g5 q5=>?_
   have a6:=ry.same (o.gg.trans (g4.trans g5))
   have s5:=r.trans (o.gg.trans (g4.trans g5))
   cases b with
   | false =>
    rw [aE6 aA9] at q5 ⊢
    obtain ⟨K5,b7,c0⟩:=leave Z a7 a2 I5
    exact ⟨G5,e5,D,K5,s5,c0,a6,b7,q5,I5.ln,aiv I5 (jc _ _ _ q5)⟩
   | true =>
    rw [aE5 rfl] at q5 ⊢
    refine q5 C G5 H5 F5 _ I5 fun J2 G6 H6 F6 p e6 I6 g6 P ⟨Jw,w0,wc,ws,wd⟩=>?_
    obtain ⟨K6,c1,b5⟩:=leave Z a7 a2 I6
    have s6:=s5.trans g6
    let Wi:Nat->List V->St->Hp->Prop:=fun j ys σI H=>∃ f e D,VI B f H σ w L/\Same G6 f/\H c=some (.lst ys)/\Rps f ys D/\f c=none/\Jw j D e/\σI.length=e.length/\Sls B.K f σI e
    refine ⟨fun j m ys σI H=>m=p.length - j/\j<=p.length/\Wi j ys σI H,⟨p.length,by simp,aF0 _,G6,e6,D,K6,Same.refl _,b5,a6.same g6,c1,w0,I6.ln,aiv I6 (wc _ _ _ w0)⟩,?_⟩
    rintro j m zs b2 H7 ⟨rfl,hj,G7,e7,zd,Y,U,O,rz,a0,jw,b1,a9⟩
    refine ⟨O,?_⟩
    by_cases hlt2:j < p.length
    ·refine .inr ⟨P.go j G7 H7 U Y.gh hlt2,Wi (j+1),fun b6 b4 H' hw=>⟨p.length - (j+1),by omega,rfl,hlt2,hw⟩,fun x2 H8 y2=>?_⟩
     obtain ⟨G8,o2⟩:=P.yld j G7 H7 x2 H8 _ U Y.gh Y.ft (aA0 hlt2) y2
     obtain ⟨I8,a4,b3⟩:=step Y a0 O o2
     have E8:=akd (K:=B.K) I8.gh I8.ft b1 (a9.same o2.gg)
     refine ws j _ zd e7 (aA0 hlt2) jw (bsC B.K G8 H8 b2) rfl b2 G8 H8 _ x2 _ _ E8 (ade o2.ok.1) fun a3 G9 H9 F9 e9 I9 g9 q9=>?_
     refine q9 a3 G9 H9 F9 _ I9 fun b GA HA FA eA IA gA qA=>?_
     cases b with
     | false =>
      rw [aE6 aA9] at qA ⊢
      obtain ⟨KA,c2,b9⟩:=leave I8 a4 b3 IA
      have sA:=o2.gg.trans (g9.trans gA)
      exact ⟨GA,eA,zd,KA,U.trans sA,b9,rz.same sA,c2,qA,IA.ln,aiv IA (wc _ _ _ qA)⟩
     | true =>
      rw [aE5 rfl] at qA ⊢
      refine qA a3 GA HA FA _ IA fun yv GB HB FB dB eB IB gB rB ⟨lB,qB⟩=>?_
      obtain ⟨KB,a5,b8⟩:=leave I8 a4 b3 IB
      have sB:=o2.gg.trans (g9.trans (gA.trans gB))
      have a1:=rz.same sB
      refine ⟨b8,by rw [a1.length];exact aD6 lB (by decide),GB,eB,zd ++ [dB],KB.aside (fun _ z=>nomatch z) a5 fa hb,U.trans sB,aah,a1.append (.cons rB .nil),a5,qB,IB.ln,aiv IB (wc _ _ _ qB)⟩
    ·have ej:j=p.length:=by omega
     subst ej
     refine .inl ⟨P.stop _ G7 H7 U Y.gh rfl,G7,e7,zd,Y,s6.trans U,O,rz,a0,wd _ _ jw,b1,a9⟩
  ·have ei:i=ds.length:=by omega
   subst ei
   refine .inl ⟨it.stop _ f H2 r N.gh rfl,?_⟩
   refine k (.ref c) f H2 L (· = c) (.own (OL D)) w N (g1.trans r) ⟨⟨c,ys,rfl,S,ry,fun b=>Iff.rfl⟩,fun a z=>by rw [z];exact hb,fun a z=>by rw [z];exact W,fun a z=>by rw [z];exact ⟨_,S⟩,fun j a z=>by rw [z];exact fa j⟩ (jd _ _ jv)
end
theorem aa5 {o:Option PyData} {e:En} (h:adu e):adu (stO o :: e):=fun j s es=>by
 cases j with
 | zero =>
  cases o with
  | none=>simp [stO] at es
  | some d =>
   have:s=.st d:=by simpa [stO] using es.symm
   exact .inl ⟨d,this⟩
 | succ j=>exact h j s (by simpa using es)
theorem atk {α β:Type} {K:Frag} {src:List (Option Nat)} {c:En} {r:TI} {h:TT} {te:TE} {R:List PyData->Prop} {xs:List α} {a : α->PyData} (g : α->List β) (p : β->PyData) (f : α->β->PyData) (q : α->β->Bool) (T:adu (aaj src c))
  (X:(xs.flatMap fun x=>((g x).filter (q x)).map (f x)).length<=999999)
  (h1:∀ x∈xs,∀ n:Bs,n.K=K->∀ o,EvI n r (some (.st (a x)) :: stO o :: aaj src c) fun u A=>u=(g x).map p/\A=some (.st (a x)) :: stO o :: aaj src c)
  (h2:∀ x∈xs,∀ y∈g x,∀ n:Bs,n.K=K->EvT n h (some (.st (a x)) :: some (.st (p y)) :: aaj src c) fun b e6=>b=q x y/\e6=some (.st (a x)) :: some (.st (p y)) :: aaj src c/\(b=true->Ev n te (some (.st (a x)) :: some (.st (p y)) :: aaj src c) fun z e7=>z=f x y/\e7=some (.st (a x)) :: some (.st (p y)) :: aaj src c))
  (Y:R (xs.flatMap fun x=>((g x).filter (q x)).map (f x))):LcV2 K (none :: none :: src) (aas 0) tYes r (aas 1) h te (xs.map a) c R:=by
 refine ⟨fun i ys e=>ys=(xs.take i).flatMap (fun x=>((g x).filter (q x)).map (f x))/\∃ o o',e=stO o :: stO o' :: aaj src c,⟨by simp,none,none,rfl⟩,?_,?_,?_⟩
 ·rintro i ys e ⟨_,o,o',rfl⟩
  exact aa5 (aa5 T)
 ·rintro i d ys e hd ⟨rfl,o,o',rfl⟩ n Z
  rw [aA5] at hd
  cases hx:xs[i]? with
  | none=>rw [hx] at hd;cases hd
  | some x =>
   rw [hx] at hd
   cases hd
   have B:=aA2 hx
   have W:xs.take (i+1)=xs.take i ++ [x]:=by rw [aG4,hx];rfl
   have P:((xs.take (i+1)).flatMap (fun x=>((g x).filter (q x)).map (f x))).length<=999999:=by
    refine aC9 ?_ X
    conv=>rhs;rw [← aC0 (i+1) xs,List.flatMap_append,aB0]
    exact Nat.le_add_right _ _
   refine aar (acj ?_)
   rw [aE5 rfl]
   show EvI n r (some (.st (a x)) :: stO o' :: aaj src c) _
   intro σ G H F Q I k
   refine h1 x B n Z o' σ G H F Q I fun J G' H' F' u A D g' N ⟨L,w⟩=>k J G' H' F' u A D g' N ?_
   subst L w
   refine ⟨fun j m e=>m=(xs.take i).flatMap (fun x=>((g x).filter (q x)).map (f x)) ++ (((g x).take j).filter (q x)).map (f x)/\∃ o',e=some (.st (a x)) :: stO o' :: aaj src c,⟨by simp,o',rfl⟩,?_,?_,?_⟩
   ·rintro j m e ⟨_,s,rfl⟩
    exact aa5 (o:=some (a x)) (aa5 T)
   ·rintro j d2 m e l ⟨rfl,s,rfl⟩ U S
    rw [aA5] at l
    cases hy:(g x)[j]? with
    | none=>rw [hy] at l;cases l
    | some y =>
     rw [hy] at l
     cases l
     have C:(g x).take (j+1)=(g x).take j ++ [y]:=by rw [aG4,hy];rfl
     refine aar ?_
     show EvT U h (some (.st (a x)) :: some (.st (p y)) :: aaj src c) _
     intro σ G H F Q I k
     refine h2 x B y (aA2 hy) U S σ G H F Q I fun b G' H' F' e3 D g' ⟨hb,he,hq⟩=>k b G' H' F' e3 D g' ?_
     subst he
     by_cases hp:b=true
     ·rw [aE5 hp]
      intro σ G H F Q I k
      refine hq hp σ G H F Q I fun v G' H' F' d' A D g' r' ⟨M,w⟩=>k v G' H' F' d' A D g' r' ?_
      subst M w
      have E:q x y=true:=by rw [← hb];exact hp
      refine ⟨?_,?_,some (p y),rfl⟩
      ·refine aC9 ?_ P
       rw [W,List.flatMap_append,aB0,aB0]
       refine Nat.add_le_add_left ?_ _
       simp only [List.flatMap_cons,List.flatMap_nil,aE2,aA3]
       exact (List.Sublist.filter (q x) (List.take_sublist j (g x))).length_le
      ·rw [C,List.filter_append,aD7,← aB3]
       simp [E]
     ·rw [aE6 hp]
      have O:q x y=false:=by rw [← hb];simpa using hp
      refine ⟨?_,some (p y),rfl⟩
      rw [C,List.filter_append,aD7]
      simp [O]
   ·rintro m e ⟨rfl,s,rfl⟩
    refine ⟨?_,some (a x),s,rfl⟩
    rw [W,List.flatMap_append]
    simp
 ·rintro ys e ⟨rfl,o,o',rfl⟩
  rw [aA3,aF8]
  exact Y
section
variable {B:Bs} {env:En} {Q':PyData->En->Prop} {QO:Sl->En->Prop} {c:TT} {ta tb:TE}
theorem aws (h:EvT B c env fun b e=>if b=true then EvO B ta e QO else EvO B tb e QO):EvO B (tIf c ta tb) env QO:=fun σ G H F Q I k =>
 h σ G H F _ I fun b i l f n m j q=>by
  cases b with
  | true=>rw [aE5 rfl] at q ⊢;exact q σ i l f Q m fun v G' H' F' Fv d e a g r z=>k v G' H' F' Fv d e a (j.trans g) r z
  | false=>rw [aE6 aA9] at q ⊢;exact q σ i l f Q m fun v G' H' F' Fv d e a g r z=>k v G' H' F' Fv d e a (j.trans g) r z
end
def ay4 (e:En):Bool:=e.all fun o=>match o with | some (.own _)=>false | some (.io _)=>false | _=>true
theorem ake {e:En} (h:ay4 e=true):adu e:=fun j s es=>by
 have:=aE4.mp h (some s) (aA2 es)
 cases s with
 | st d=>exact .inl ⟨d,rfl⟩
 | scr ns=>exact .inr ⟨ns,rfl⟩
 | own A=>simp at this
 | io A=>simp at this
end VL
namespace VL
open PySem PySem.Spec L2 PyProof.Rows
theorem ajr {G:Hp}:∀ {vs:List V} {ds:List PyData} {i:Nat} {v:V} {d:PyData},Rps G vs ds->vs[i]?=some v->ds[i]?=some d->Rp G v d
 | _,_,0,_,_,.cons r _,e1,e2=>by simp at e1 e2;subst e1 e2;exact r
 | _,_,i+1,_,_,.cons _ t,e1,e2=>ajr t (i:=i) (by simpa using e1) (by simpa using e2)
theorem arf {a b c:Int} {R:Sl->Prop} (h:∀ m,ao6 [a,b,c] m->R (.st (.int m))):OpA auj [.int a,.int b,.int c] R:=fun G H vs Q gh rs k=>by
 obtain rfl:vs=[V.int a,V.int b,V.int c]:=Rps.ints_inv (ns:=[a,b,c]) rs
 exact ⟨a,b,c,rfl,fun m hm=>k _ _ _ _ _ (Out.refl gh (.int _)) (h m hm)⟩
end VL
namespace VL
open PySem PySem.Spec L2
section
variable {B:Bs} {env:En} {QO:Sl->En->Prop} {i:Nat}
theorem arh {k c:Int} (e:env[i]?=some (some (.st (.int k)))) (q:QO (.own (OD [(.inl k,.int c)])) env):EvO B (aui [(tVar i,tC (.int c))]) env QO:=fun σ G H F Q I f p a=>by
 obtain ⟨v,g,r⟩:=I.sl i _ e
 obtain ⟨r,_⟩:=r
 cases r
 refine ⟨_,g,aah,[(.inl k,.int c)],rfl,by simp,?_⟩
 have o:=Out.newD (ds:=[(.inl k,.int c)]) (xs:=[(.inl k,.int c)]) I.gh a (.cons (.int c) .nil)
 have d:upd (upd H p (.dK [])) p (.dK (ae7 [] [(Sum.inl k,V.int c)]))=upd H p (.dK [(.inl k,.int c)]):=by
  funext b
  unfold upd
  split <;> rfl
 rw [d]
 exact f _ _ _ F _ _ env (I.out o).1 o.gg (I.out o).2 q
theorem ay5 {k l:Key} (h:kD k=kD l):k=l:=by
 cases k <;> cases l <;> simp [kD] at h <;> first | rw [h] | cases h
theorem ari:∀ {es fs:List (Key × PyData)},es.map (fun p=>(kD p.1,p.2))=fs.map (fun p=>(kD p.1,p.2))->es=fs
 | [],[],_=>rfl
 | [],_ :: _,h=>by simp at h
 | _ :: _,[],h=>by simp at h
 | a :: es,b :: fs,h=>by
  simp only [aD0,List.cons.injEq,Prod.mk.injEq] at h
  rw [ari h.2,Prod.ext (ay5 h.1.1) h.1.2]
theorem arj {es:List (Key × PyData)} {ty:TE} {n:PyData->En->Prop} (j:es ≠ []) (e:env[i]?=some (some (.st (.dict (es.map fun p=>(kD p.1,p.2)))))) (h:Ev B ty env fun y e2=>∃ k,y=kD k/\n ((valD es k).getD .none) e2):Ev B (alq (tVar i) ty) env n:=fun σ G H F Q I s=>by
 obtain ⟨v,z,r⟩:=I.sl i _ e
 obtain ⟨r,_⟩:=r
 generalize hds:(es.map fun p=>(kD p.1,p.2))=ds at r
 cases r with
 | dt ha rt e2 =>
  exfalso
  rename_i es'
  rw [e2] at hds
  cases es with
  | nil=>exact j rfl
  | cons a es =>
   cases es' with
   | nil=>simp at hds
   | cons b es' =>
    simp only [aD0,List.cons.injEq,Prod.mk.injEq] at hds
    have:=hds.1.1
    cases l:a.1 <;> rw [l] at this <;> simp [kD] at this
 | dk ha rt e2 =>
  rename_i a kvs es'
  rw [e2] at hds
  have:=ari hds
  subst this
  refine ⟨.ref a,z,a,rfl,.inl ⟨kvs,Rd.of (I.gh _ _ ha)⟩,?_⟩
  refine h σ G H F _ I fun C m H2 F2 y o g f A ⟨k,w,q⟩=>?_
  subst w
  have:=ais A
  subst this
  have c:=rt.same f
  refine ⟨valV kvs k,DGet.k (g.gh _ _ (f _ _ ha)),?_⟩
  cases hd:valD es k with
  | none =>
   rw [(c.val (k:=k)).1 hd]
   rw [hd] at q
   exact s _ m H2 F2 _ o g f .non q
  | some d =>
   obtain ⟨u,l,x⟩:=(c.val (k:=k)).2 d hd
   rw [l]
   rw [hd] at q
   exact s _ m H2 F2 _ o g f x q
end
section
variable {X:Cx}
end
section
variable {R:Sl->Prop}
end
end VL
namespace L2
open PySem PySem.Spec PyProof.Rows
section
variable {X:Cx}
variable {e est:Expr} {te:TE} {ts:TO} {pos p2:Pos}
end
end L2
namespace VL
open PySem PySem.Spec L2
section
variable {B:Bs} {env:En} {QO:Sl->En->Prop} {Q':PyData->En->Prop} {te tl:TE} {ts:TO} {K:Frag} {i:Nat}
end
theorem aiw {α:Type} [DecidableEq α]:∀ {as bs:List α},as.Nodup->(∀ a∈as,a∈bs)->as.length<=bs.length
 | [],_,_,_=>aF0 _
 | a :: as,bs,hn,hs=>by
  have ha:a∈bs:=hs a (aB7 ..)
  have b:=aH5.mp hn
  have h:=aiw (bs:=bs.erase a) b.2 fun x c=>(List.mem_erase_of_ne (show x ≠ a from fun e=>b.1 (by rw [← e];exact c))).mpr (hs x (aB4 _ c))
  rw [List.length_erase_of_mem ha] at h
  have:0 < bs.length:=List.length_pos_of_mem ha
  simp only [aD8]
  omega
structure But (n:Int) (es rem:List (Int × Int)):Prop where
 rise:Rise es
 inn:∀ p∈es,0<=p.1/\p.1 < p.2/\p.2 < n
 all:∀ p:Int × Int,0<=p.1->p.1 < p.2->p.2 < n->p∈es\/p∈rem
theorem But.len {n:Int} {es rem:List (Int × Int)} (h:But n es rem) (hn:8<=n) (b:rem.length<=5):2<=es.length:=by
 have:=aiw (as:=[((0:Int),(1:Int)),(0,2),(0,3),(0,4),(0,5),(0,6),(0,7)]) (bs:=es ++ rem) (by decide) (fun p a=>by
  have:0<=p.1/\p.1 < p.2/\p.2 < 8:=by
   simp only [aA8,aH4,or_false] at a
   rcases a with rfl | rfl | rfl | rfl | rfl | rfl | rfl <;> decide
  exact aA7.mpr (h.all p this.1 this.2.1 (by omega)))
 simp at this
 omega
theorem But.cut {n:Int} {es rem:List (Int × Int)} (h:But n es rem) {k:Nat} {p:Int × Int} (c:es[k]?=some p):But n (es.eraseIdx k) (p :: rem) :=
 ⟨h.rise.sublist (List.eraseIdx_sublist ..),fun q a=>h.inn q ((List.eraseIdx_sublist ..).subset a),fun q b f d=>by
  rcases h.all q b f d with a | a
  ·have:=(afu c).mem_iff.mpr a
   rcases aA8.mp this with e | e
   ·exact .inr (e ▸ aB7 ..)
   ·exact .inl e
  ·exact .inr (aB4 _ a)⟩
end VL
namespace L2
open PySem PySem.Spec PyProof.Rows PySem.W
theorem arr0 (x:Value) (more:Array Value):(#[x] ++ more)[0]?=some x:=by
 rw [Array.getElem?_append_left (Nat.zero_lt_succ 0)];rfl
theorem apl {pos d:Pos} {c f:Value}:∀ (l:List Value),TriplesOk l->codeAmong d (l ++ [rawInt pos.line,rawInt pos.col,c])=some f->codeAmong d l=some f\/f=c:=by
 intro l h e
 fun_induction TriplesOk l with
 | case1 =>
  simp only [List.nil_append,codeAmong,rawInt] at e
  split at e
  ·exact .inr (aC5 e).symm
  ·cases e
 | case2 a t b u x rest ih =>
  simp only [List.cons_append,codeAmong] at e ⊢
  split at e
  ·rename_i hc;rw [aE5 hc];exact .inl e
  ·rename_i hc;rw [aE6 hc];exact ih h e
 | case3 l h1 h2=>exact h.elim
def LamH (P:Addr) (H H':Hp):Prop:=H'=H\/∃ c,H c=none/\H'=upd H c (.own P)
theorem LamH.same {P:Addr} {H H':Hp} (l:LamH P H H') {a:Addr} {o:HO} (e:H a=some o):H' a=some o:=by
 rcases l with rfl | ⟨c,n,rfl⟩
 ·exact e
 ·rw [aae (aak e n)];exact e
section
variable {X:Cx} {pins:List (Addr × Obj)} {σ:St} {H:Hp} {s:Shared} {c P:Addr}
theorem atl {A:Around} {E:Value->Shared->Prop} {Q:Value->Shared->Prop} {a:Arguments} {body:Expr} {scope:Scope} {pos:Pos} (I:Inv X pins σ H s) (ht:tabIn X.K lamN=some (c,P)) (hC:codeHdIn X.K c P=true)
  (j:X.env.code=.ref c) (hq:X.env.qual ++ "<lambda>" = lamQ) (R:closureFor scope X.env=pure []) (N:defaultsOf a X.env=([],[]))
  (h:∀ f g pm l H' Y,Inv X pins σ H' Y->LamH P H H'->Y.heap.get? f=some (kla_obj "<lambda>" lamQ a body scope [] pm g l)->Y.heap.CodeRec (.ref g) lamQ->Q (.ref f) Y) :
  wpAny (model X.prog X.w) A (eval (.Lambda a body scope pos) X.env) Q E s:=by
 refine kla_eval N ?_
 rw [hq]
 obtain ⟨more,D⟩:=I.tab c P ht
 obtain ⟨ps,W,p,G⟩:=I.hok P _ D
 have C:CodeHd s.heap c P:=codeHd_of_K I.kIn hC
 have U:s.heap.Ns mainGlobals X.mg:=I.mod.glob.keeps I.bk
 obtain ⟨T,ob,b1,b2,b3,b4,b5,b6⟩:=I.mod.bmain
 have m:=I.bk T ob b3
 have a1:mainGlobals ≠ P:=fun q=>by
  obtain ⟨o,es,ep,e,hd,_⟩:=U
  rw [q,W] at e;cases e;cases hd
 have a0:T ≠ P:=fun q=>by
  rw [q,W] at m;cases m;cases b4
 have a2:T ≠ mainGlobals:=fun q=>by
  obtain ⟨o,es,ep,e,hd,_⟩:=U
  rw [q,e] at m;cases m;rw [hd] at b6;cases b6
 have hB:s.heap.BuiltinsAt X.mg P:=⟨T,ob,b1,b2,a2,a0,m,b4,b5,b6⟩
 cases hf:codeAmong pos ps.toList with
 | some cv =>
  obtain ⟨g,oc,vs,q,t,t',rfl,e2,J,S,Z,B⟩:=G pos cv hf
  have a3:q=lamQ:=by
   have e7:(#[Value.str lamQ 0] ++ more)[0]?=some (Value.str lamQ 0):=arr0 _ _
   rw [e7] at B
   injection B with B
   injection B with B _
   exact B.symm
  subst a3
  refine kla_makeFunctionHit (mg:=X.mg) R I.ok.glob U j C W p hf hB fun l h' tk y hsz=>?_
  refine h _ g _ l H _ (I.kept fun b u e=>aI1 _ (y b u e)) (.inl rfl) (aI3 _ rfl) ?_
  exact ⟨g,oc,vs,t,rfl,aI1 _ (y _ _ J),S,Z⟩
 | none =>
  refine kla_makeFunction (mg:=X.mg) R I.ok.glob U j C W p hf a1 hB fun g l h' tk hx F a4 M O=>?_
  have hn:H g=none:=I.hok.fresh F
  have nP:∀ b,H b=none->b ≠ P:=fun b n z=>by rw [z,D] at n;cases n
  have y:∀ b o,b ≠ P->s.heap.get? b=some o->∀ x,(h'.push x).get? b=some o:=fun b o nb e x=>aI1 _ (hx b o nb e)
  obtain ⟨c2,oc,vs,t,ec,J,S,Z⟩:=M
  cases ec
  have un:∀ x,Un X.fs [] H (upd H g (.own P)) s.heap (h'.push x):=fun x=>by
   refine ⟨fun b o e n _ _=>y b o (nP b n) e x,fun b o e n _ _=>⟨o.slots,y b o (nP b n) e x⟩,fun b o e n _=>?_,fun b o e _=>?_,fun b xs e=>?_,fun b o u e=>?_,fun b gs e=>⟨#[],?_⟩⟩
   ·rw [aae (aB5 (aC4 (aI2 e) F))];exact n
   ·by_cases z:b=P
    ·subst z;exact ⟨_,aI1 _ O⟩
    ·exact ⟨o,y b o z e x⟩
   ·rw [aae (aak e hn)];exact e
   ·rw [aae (aak e hn)];exact e
   ·rw [aae (aak e hn),e];simp
  have hok:∀ x,HOk X.prog X.w (upd H g (.own P)) (h'.push x):=fun x b u e=>by
   by_cases z:b=g
   ·subst z;rw [aah] at e;cases e
    exact ⟨oc,aI1 _ J⟩
   ·rw [aae z] at e
    by_cases z2:b=P
    ·subst z2
     rw [D] at e;cases e
     refine ⟨_,aI1 _ O,?_,fun L cv i=>?_⟩
     ·rw [aF6]
      exact TriplesOk_snoc _ _ _ _ p
     ·rw [aF6] at i
      rcases apl _ p i with i | i
      ·obtain ⟨d,od,vd,q,t1,t2,r1,r2,r3,r4,r5,r6⟩:=G L cv i
       refine ⟨d,od,vd,q,t1,t2,r1,?_,y d od (fun z3=>?_) r3 x,r4,r5,r6⟩
       ·rw [aae (aak r2 hn)];exact r2
       ·rw [z3,D] at r2;cases r2
      ·exact ⟨g,oc,vs,lamQ,t,0,i,aah,aI1 _ J,S,Z,arr0 _ _⟩
    ·refine (I.hok b u e).stay (fun d v hd r=>y d v ?_ r x) (fun d r=>by rw [aae (aak r hn)];exact r) fun d xs r=>by rw [aae (aak r hn)];exact r
     rcases hd with rfl | hd
     ·exact z2
     ·intro z3;rw [z3,D] at hd;cases hd
  refine h _ g _ l (upd H g (.own P)) _ (I.un (un _) (hok _)) (.inr ⟨g,hn,rfl⟩) (aI3 _ rfl) ?_
  exact ⟨g,oc,vs,t,rfl,aI1 _ J,S,Z⟩
theorem atm {prog:Program} {w:World} {A:Around} {E:Value->Shared->Prop} {Q:Value->Shared->Prop} {s:Shared} {env:Env} {x:Str} {m:Str->Option Value} {b:Addr} {its:List Value} {u:Value} {j:Nat} {l p2 f:Pos}
  (g:env.scope.kind=.function) (i:env.kindOf x=some .local) (hn:s.heap.Ns env.locals m) (hm:m x=some (.ref b)) (a:IsTup s.heap b its.toArray) (c:its[0]?=some u)
  (hd:(x == ("__debug__" : Str))=false) (h:∀ d,Q u { s with toks:=d }) :
  wpAny (model prog w) A (eval (.Subscript (.Name x l) (.Constant (.int 0) j p2) f) env) Q E s:=by
 refine Subscript_ (wpAny_Name (wpAny_loadName_local g i hn hm ?_) hd)
 refine wpAny_Constant_int ?_
 have o:0 < its.length:=(aA1.mp c).1
 exact subscriptTail_builtinR (x:=u) (IsTup.typeIs (s:={ s with toks:=_ }) a) slot_tuple_getitem.lookup
  (getItem_tuple (j:=0) (Q:=fun r n=>r=u/\Q r n) a (by decide) (by decide) (by rw [aB1];exact seqIndex_of (by decide) (by omega)) (by simpa using c) ⟨rfl,h _⟩) (by with_unfolding_all rfl)
abbrev lamBody (x:Str) (j:Nat) (p1 p2 p3:Pos):Expr:=.Subscript (.Name x p1) (.Constant (.int 0) j p2) p3
theorem atn {prog:Program} {w:World} {A:Around} {E:Value->Shared->Prop} {Q:Value->Shared->Prop} {s:Shared} {f r b:Addr} {c:Arguments} {scope:Scope} {pm n:Value} {x:Str} {its:List Value} {u:Value} {j:Nat} {G p2 C:Pos}
  (K:A.depth < recursionLimit) (hf:s.heap.get? f=some (kla_obj "<lambda>" lamQ c (lamBody x j G p2 C) scope [] pm r n)) (H:s.heap.CodeRec (.ref r) lamQ) (I:s.heap.NoLimit)
  (i:∀ v,bindArgs (kla_fn "<lambda>" lamQ c (lamBody x j G p2 C) scope [] pm (.ref r) n) ⟨[v],[]⟩=pure [(x,v)]) (F:scope.names.lookup x=some .local)
  (q:scope.isCoroutine=false) (m:scope.isGenerator=false) (D:scope.kind=.function) (g:∀ y∈scope.names,y.2 ≠ .cell) (hd:(x == ("__debug__" : Str))=false)
  (J:IsTup s.heap b its.toArray) (M:its[0]?=some u) (h:∀ h' B,(∀ d o,s.heap.get? d=some o->h'.get? d=some o)->Q u { s with heap:=h',toks:=B }) :
  wpAny (model prog w) A (call (.ref f) [.ref b]) Q E s:=by
 refine wpAny_call (kla_callFunE K hf rfl q m rfl H ?_)
 rw [i]
 refine aI0 (wpAny_newFunctionEnv g (fun y L=>?_) (fun l p z=>?_) D)
 ·rw [aC1.mp L];exact F
 ·have a:∀ b o,s.heap.get? b=some o->l.get? b=some o:=fun b o e=>z.extBut b o (aB5 (aI2 e)) (aI1 _ e)
  refine ⟨I.keeps a,kla_codeExpr ?_⟩
  exact atm (b:=b) (its:=its) (u:=u) D F p (by simp) (J.keeps a) M hd fun B=>h _ _ a
def acl (ks:List Int) (i:Nat):Prop:=∀ j,j < ks.length->ks.getD i 0<=ks.getD j 0/\(j < i->ks.getD i 0 < ks.getD j 0)
def aup (K:Frag):List V->Hp->VK->Prop:=fun xs H Q=>∃ (a:Addr) (vs:List V) (ks:List Int),xs=[.ref a]/\SqL K H a vs/\vs.length=ks.length/\vs ≠ [] /\
 (∀ (i:Nat) v k,vs[i]?=some v->ks[i]?=some k->∃ b r,v=.ref b/\SqT K H b (.int k :: r))/\∀ (P:Addr) (H':Hp) i v,vs[i]?=some v->acl ks i->LamH P H H'->Q v H'
theorem SqL.lam {K:Frag} {H':Hp} {a:Addr} {xs:List V} (l:LamH P H H') (h:SqL K H a xs):SqL K H' a xs:=by
 rcases h with (h | ⟨o,h⟩) | h
 ·exact .inl (.inl (l.same h))
 ·exact .inl (.inr ⟨o,l.same h⟩)
 ·exact .inr h
theorem SqT.lam {K:Frag} {H':Hp} {a:Addr} {xs:List V} (l:LamH P H H') (h:SqT K H a xs):SqT K H' a xs:=by
 rcases h with (h | ⟨o,h⟩) | h
 ·exact .inl (.inl (l.same h))
 ·exact .inl (.inr ⟨o,l.same h⟩)
 ·exact .inr h
theorem awt {f M a:Addr} {c:Arguments} {scope:Scope} {pm R:Value} {x:Str} {j:Nat} {p1 p2 p3:Pos} {vs:List V} {ks:List Int} {Q:VK} (I:Inv X pins σ H s) (hh:X.A.handled=none) (hr:X.A.in1.depth < recursionLimit)
  (hf:s.heap.get? f=some (kla_obj "<lambda>" lamQ c (lamBody x j p1 p2 p3) scope [] pm M R)) (hc:s.heap.CodeRec (.ref M) lamQ)
  (G:∀ v,bindArgs (kla_fn "<lambda>" lamQ c (lamBody x j p1 p2 p3) scope [] pm (.ref M) R) ⟨[v],[]⟩=pure [(x,v)]) (hx:scope.names.lookup x=some .local)
  (Z:scope.isCoroutine=false) (O:scope.isGenerator=false) (hk:scope.kind=.function) (D:∀ y∈scope.names,y.2 ≠ .cell) (hd:(x == ("__debug__" : Str))=false)
  (hS:SqL X.K H a vs) (a5:vs.length=ks.length) (a3:vs ≠ []) (a2:∀ (i:Nat) v k,vs[i]?=some v->ks[i]?=some k->∃ b r,v=.ref b/\SqT X.K H b (.int k :: r))
  (hQ:∀ i v,vs[i]?=some v->acl ks i->Q v H) :
  wpAny (model X.prog X.w) X.A (call (.builtin "min") [.ref a] [(Str.ofString "key",.ref f)]) (EP X pins σ Q) X.xe s:=by
 obtain ⟨its,rr,pl,_⟩:=I.list hS
 have E:its.length=vs.length:=rr.length.symm
 obtain ⟨m,F⟩:=I.fr
 have N:=ar0 (g:=X.base) (h:=s.heap) (L:=X.env.locals)
 have keep:∀ (h:Heap) (own:List (Addr × Obj)),Fr X.base X.env.locals h m->News X.base X.env.locals h (ae4 X.base s.heap X.env.locals ++ own)->∀ b o,b ≠ X.env.locals->s.heap.get? b=some o->h.get? b=some o:=fun h own F' B b o nb e=>by
  cases q:X.base.get? b with
  | some u =>
   have e2:=I.bk b u q
   rw [e] at e2;cases e2
   exact F'.keep b _ q
  | none=>exact (B (b,o) (aC6 _ (am6 nb q e))).1
 have W:∀ b o,s.heap.get? b=some o->(∀ es J,o.data ≠ .dict es J)->b ≠ X.env.locals:=fun b o e nd z=>by
  obtain ⟨o',es,J,e',d,_⟩:=F.ns
  rw [z,e'] at e;cases e;exact nd _ _ d
 have S:∀ (h:Heap),(∀ b o,b ≠ X.env.locals->s.heap.get? b=some o->h.get? b=some o)->∀ b T,IsTup s.heap b T->IsTup h b T:=fun h k b T ⟨o,e,a4,n,d⟩=>⟨o,k b o (W b o e fun es J z=>by rw [d] at z;cases z) e,a4,n,d⟩
 refine kmk_min (fun i=>ks.getD i 0) hh F N (l:=a) (vs:=its) (fun h F' B=>?_) (by rw [E];exact aE9.mpr a3) (fun i v U h tk own F' B=>?_) fun i v h' a6 U hb F' B=>?_
 ·obtain ⟨o,n,e,q1,q2,q3⟩:=pl
  have k:=keep h [] F' (by rw [aE2];exact B)
  exact (PlainL.isList ⟨o,n,k a o (W a o e fun es J z=>by rw [q3] at z;cases z) e,q1,q2,q3⟩)
 ·have k:=keep h own F' B
  have hi:i < vs.length:=by rw [← E];exact (aA1.mp U).1
  have ex:vs[i]?=some vs[i]:=aA0 hi
  have ek:ks[i]?=some (ks[i]'(by omega)):=aA0 (by omega)
  obtain ⟨u,P,C⟩:=rr.get ex
  rw [U] at P;cases P
  obtain ⟨b,r,eb,hT⟩:=a2 i _ _ ex ek
  rw [eb] at C
  cases C
  obtain ⟨T,a1,tp,_⟩:=I.tuple hT
  obtain ⟨u0,e0,r0⟩:=a1.get (i:=0) (x:=.int (ks[i]'(by omega))) rfl
  obtain ⟨t0,rfl⟩:=r0
  obtain ⟨c2,oc,vd,t2,ec,g1,g2,g3⟩:=hc
  cases ec
  refine atn (s:={ s with heap:=h,toks:=tk }) (b:=b) (its:=T) hr (k f _ (W f _ hf fun es J z=>by cases z) hf) ⟨M,oc,vd,t2,rfl,k M oc (W M oc g1 fun es J z=>by rw [g2] at z;cases z) g1,g2,g3⟩ (I.ok.mod.nolimit.keeps F'.keep) G hx Z O hk D hd (S h k b _ tp) e0 fun h2 a0 Y=>?_
  refine ⟨h2,a0,t0,rfl,?_,⟨F'.ns.keeps Y,fun b o e=>Y b o (F'.keep b o e),F'.above⟩,fun p hp=>⟨Y _ _ (B p hp).1,(B p hp).2⟩⟩
  simp [ek]
 ·have k:=keep h' [] F' (by rw [aE2];exact B)
  have hi:i < vs.length:=by rw [← E];exact (aA1.mp U).1
  have ex:vs[i]?=some vs[i]:=aA0 hi
  obtain ⟨u,P,C⟩:=rr.get ex
  rw [U] at P;cases P
  refine ⟨vs[i],H,?_,C,hQ i _ ex fun j hj=>hb j (by omega)⟩
  refine I.step (g':=s.gens) (d':=s.drawn) (ch:=[]) (fun _ z=>nomatch z) (fun b o nb _ _ e _=>k b o nb e) (fun b o nb _ _ e _=>⟨o.slots,k b o nb e⟩) (fun _ _ _ _ n=>n) (fun b o _ e=>?_) (fun _ _ e=>e) (fun _ _ _ e=>e) (fun b gs e=>⟨#[],by rw [e];simp⟩) (fun m' hm=>?_) (fun b u e=>?_) I.bare
  ·by_cases z:b=X.env.locals
   ·obtain ⟨o',_,_,e',_⟩:=F'.ns
    exact ⟨o',by rw [z];exact e'⟩
   ·exact ⟨o,k b o z e⟩
  ·rw [hm.eq_nsMap,← F.ns.eq_nsMap];exact F'.ns
  ·have nb:∀ d v,H d=some v->d ≠ X.env.locals:=fun d v q z=>by rw [z,I.free] at q;cases q
   refine (I.hok b u e).stay (fun d v hd r=>k d v ?_ r) (fun _ q=>q) fun _ _ q=>q
   rcases hd with rfl | hd
   ·exact nb _ _ e
   ·exact nb _ _ hd
variable {p pos kpos lpos p1 p2 p3:Pos} {e:Expr} {t:TA} {params:Arguments} {scope:Scope} {x:Str} {j:Nat} {k:Nat}
theorem awu (hr:Room (k+1) X.A) (N:X.calm=true) (S:Gl X "min") (hm:X.mg "min" = none) (ha:PA X [e] t) (O:tabIn X.K lamN=some (c,P)) (hC:codeHdIn X.K c P=true)
  (d:X.env.code=.ref c) (M:X.env.qual ++ "<lambda>" = lamQ) (E:closureFor scope X.env=pure []) (q:defaultsOf params X.env=([],[]))
  (m:∀ v pm L o,bindArgs (kla_fn "<lambda>" lamQ params (lamBody x j p1 p2 p3) scope [] pm (.ref L) o) ⟨[v],[]⟩=pure [(x,v)]) (Z:scope.names.lookup x=some .local)
  (B:scope.isCoroutine=false) (n:scope.isGenerator=false) (T:scope.kind=.function) (g:∀ y∈scope.names,y.2 ≠ .cell) (hd:(x == ("__debug__" : Str))=false)
  (hv:bootBuiltins "min" = some (.builtin "min"):=by decide +kernel)
  (W:backTo pos (starEach [e] X.env)=(false,eval e X.env) :: backTo pos (starEach [] X.env):=by rfl)
  (C:(backTo pos (starEach [e] X.env)).any (·.1)=false:=by rfl) :
  PE X (.Call (.Name "min" p) [e] [⟨some "key",.Lambda params (lamBody x j p1 p2 p3) scope lpos,kpos⟩] pos) (tCB (aup X.K) t):=by
 intro pins s σ H Q I h
 refine wpAny_Call_Name_kw (acs I S hm hv ?_ (by decide) (by decide))
 refine PyProof.Rows.callWith_kw (thn (ha pos pins s σ H _ I h) fun us s1 ⟨vs,H1,I1,r1,U⟩=>?_) W C
 obtain ⟨a,xs,ks,rfl,hS,w,D,G,Y⟩:=U
 obtain ⟨u,rfl,ru⟩:=ac0 r1
 cases ru
 show wpAny _ _ (evalAll [(do let v ← eval (.Lambda params (lamBody x j p1 p2 p3) scope lpos) X.env;standAt pos;pure v)]) _ _ s1
 refine wpAny_evalAll_cons (aH9 (atl I1 O hC d M E q fun f L pm o H' s2 J l hf z=>aH9 (wpAny_standAt (aI0 ?_))))
 refine aI0 ?_
 exact awt J (J.ok.hd N) hr.in1.depth hf z (fun v=>m v _ _ _) Z B n T g hd (hS.lam l) w D (fun i v k F e2=>let ⟨b,r,e3,R⟩:=G i v k F e2;⟨b,r,e3,R.lam l⟩) fun i v F e2=>Y P H' i v F e2 l
end
def LamAt (K:Frag) (mg:Str->Option Value):Prop:=∃ f c P,mg lamN=some (.ref f)/\tabIn K lamN=some (c,P)/\codeHdIn K c P=true/\∀ oc od fd sl,K.lookup f=some ⟨oc,od,.func fd,sl⟩->fd.code=.ref c
theorem ay6 {K:Frag} {mg:Str->Option Value} {h:Heap} {c P:Addr} (X:K.In h) (G:h.Ns mainGlobals mg) (a:tabIn K lamN=some (c,P)) (b:codeHdIn K c P=true):LamAt K mg:=by
 have q:∃ f,nsIn K mainGlobals lamN=some (some (.ref f)):=by
  unfold tabIn at a
  split at a
  ·rename_i f hf;exact ⟨f,hf⟩
  ·cases a
 obtain ⟨f,hf⟩:=q
 have hm:=mg_of X G hf
 refine ⟨f,c,P,hm,a,b,fun oc od fd sl d=>?_⟩
 exact law_code X G a hm (X _ _ d) rfl
theorem LamAt.at {K:Frag} {mg:Str->Option Value} (L:LamAt K mg) {f:Addr} {fd:FuncData} (hm:mg lamN=some (.ref f)) (a:∃ oc od sl,K.lookup f=some ⟨oc,od,.func fd,sl⟩):∃ c P,tabIn K lamN=some (c,P)/\codeHdIn K c P=true/\fd.code=.ref c:=by
 obtain ⟨i,c,P,b,d,h,g⟩:=L
 rw [hm] at b;cases b
 obtain ⟨oc,od,sl,a⟩:=a
 exact ⟨c,P,d,h,g _ _ _ _ a⟩
theorem Fun.okC {P:Program} {w:World} {K:Frag} {mg:Str->Option Value} {base:Heap} {x qual:Str} {st:Stmt} {f:Addr} {fd:FuncData} {N ps:List Str} {k:Nat} {sp:Sp} (F:Fun K x qual st f fd) (L:LamAt K mg) (hm:mg lamN=some (.ref f)) (S:FnScope N ps (aal st)) (len:∀ vs H Q E,sp vs H Q E->vs.length=ps.length)
  (a:∀ (c T:Addr) (A:Around) (outer:List Env) (s:Shared) (H:Hp) (vs:List V) (Q:VK) (E:XK),tabIn K lamN=some (c,T)->codeHdIn K c T=true->Room k (A.deeper (envOfC qual (aal st) s.heap.objs.size f (.ref c)))->sp vs H Q E ->
   ∃ t,PSs (cxOf CX0 P w K mg base N qual (aal st) f (.ref c) A outer s H E).nox (ab1 st) t/\t { nx:=fun _ H'=>Q .non H',rt:=Q } (start N vs) H):FnOk P w K mg base CX0 (k+1) f fd ps sp:=by
 obtain ⟨oc,od,kV,doc,pm,an,cdv,ct,osl,rfl,g,b⟩:=F.ex
 obtain ⟨c,T,l,j,n⟩:=L.at hm ⟨_,_,_,g⟩
 have m:cdv=.ref c:=n
 subst m
 refine aud g b S len fun A outer s H vs Q E i d=>?_
 obtain ⟨t,h,q⟩:=a c T A outer s H vs Q E l j i d
 exact ⟨t,h.nox,q⟩
theorem tabs0_some {p:Program} {a:List Str} {b:ExcName->Option Value} {mg mb:Str->Option Value} {K:Frag} {h:Heap} {c P:Addr} (T:Top p a b mg mb h) (X:K.In h) (f:((recsOf p).find? (fun e=>e.name == lamN)).isSome=true) (g:tabIn K lamN=some (c,P)) (i:K.lookup P=none):ae8 K h:=fun l j q=>by
 rw [g] at q;cases q
 obtain ⟨d,f⟩:=Option.isSome_iff_exists.mp f
 exact ⟨(tab_of T X f g).1,(tab_of T X f g).2,i⟩
theorem tab_mk {K:Frag} {f c P:Addr} {oc i:Value} {od j:Option Addr} {fd:FuncData} {sl g:Array (Option Value)} {vs:Array Value} (a:nsIn K mainGlobals lamN=some (some (.ref f))) (l:K.lookup f=some ⟨oc,od,.func fd,sl⟩) (d:fd.code=.ref c) (h:K.lookup c=some ⟨i,j,.fields vs,g⟩) (b:vs[11]?=some (.ref P)):tabIn K lamN=some (c,P):=by
 unfold tabIn
 simp only [a,l,d,h,b]
theorem ay7 {K:Frag} {c P:Addr} {o:Obj} (a:K.lookup c=some o) (h:codeHdIn [(c,o)] c P=true):codeHdIn K c P=true:=by
 unfold codeHdIn at *
 rw [a]
 rw [show List.lookup c [(c,o)]=some o by simp [List.lookup]] at h
 exact h
end L2
namespace VL
open PySem PySem.Spec L2
theorem Out.lam {G H H':Hp} {P:Addr} {v:V} {d:PyData} (g:Same G H) (r:Rp G v d) (l:LamH P H H'):Out G H v G H' (.st d) (fun _=>False) :=
 ⟨Same.refl _,fun a o e=>l.same (g a o e),fun a o e=>l.same e,fun a o e => .inl e,fun a z=>z.elim,fun a z=>z.elim,fun a z=>z.elim,⟨r,fun a z=>z⟩,fun t a ks e=>by
  rcases l with rfl | ⟨c,n,rfl⟩
  ·exact t a ks e
  ·by_cases z:a=c
   ·subst z;rw [aah] at e;cases e
   ·rw [aae z] at e;exact t a ks e⟩
theorem ato {K:Frag} {b:List (Int × List PyData)} {R:Sl->Prop} (m:b ≠ []) (j:∀ i z,b[i]?=some z->acl (b.map (·.1)) i->R (.st (.tuple (.int z.1 :: z.2)))) :
  OpA (aup K) [.list (b.map fun z => .tuple (.int z.1 :: z.2))] R:=fun G H vs Q gh rs k=>by
 cases rs with
 | cons r t =>
  cases t
  cases r with
  | @lst a xs ds ha ra =>
   have f:=ra.length
   rw [aA3] at f
   refine ⟨a,xs,b.map (·.1),rfl,SqL.of (gh _ _ ha),by rw [aA3];exact f,fun e=>m (List.length_eq_zero_iff.mp (by rw [← f,e];rfl)),fun i v k g d=>?_,fun P H' i v g hm l=>?_⟩
   ·rw [aA5] at d
    cases c:b[i]? with
    | none=>rw [c] at d;cases d
    | some z =>
     rw [c] at d
     cases d
     have h:(b.map fun z=>PyData.tuple (.int z.1 :: z.2))[i]?=some (.tuple (.int z.1 :: z.2)):=by rw [aA5,c];rfl
     have n:=ajr ra g h
     cases n with
     | tup hb rb =>
      cases rb with
      | cons r3 _=>cases r3;exact ⟨_,_,rfl,.inl (.inl (gh _ _ hb))⟩
   ·have hi:i < b.length:=by rw [← f];exact (aA1.mp g).1
    have c:b[i]?=some b[i]:=aA0 hi
    have h:(b.map fun z=>PyData.tuple (.int z.1 :: z.2))[i]?=some (.tuple (.int b[i].1 :: b[i].2)):=by rw [aA5,c];rfl
    exact k _ _ _ _ _ (Out.lam gh (ajr ra g h) l) (j i _ c hm)
end VL
namespace L2
open PySem PySem.Spec PyProof.Rows
theorem akx {M:Model} {A:Around} {s:Shared} {E:Value->Shared->Prop} {a b:Value} {Q:Value->Shared->Prop} (ha:s.TypeIs a "list") (hb:s.TypeIs b "list")
  (g:wpAny M A (call (.builtin "list.__iadd__") [a,b]) Q E s):wpAny M A (inplaceOp .Add a b) Q E s:=by
 unfold inplaceOp
 refine aI4 ?_
 have f:typeLookup (.type "list") (dunderI "add")=pure (some (.builtin "list.__iadd__")):=F.slot_list_iadd.lookup
 have c:fillsInplaceSlot (.type "list") "add" (Operator.Add == .Add)=pure false:=by
  unfold fillsInplaceSlot
  show (typeLookup (.type "list") (dunderI "add") >>= fun fi=>pure (fi.isSome && !isSeqSlot fi))=pure false
  rw [f]
  show (pure ((some (Value.builtin "list.__iadd__")).isSome && !isSeqSlot (some (Value.builtin "list.__iadd__"))):Sem Bool)=pure false
  rw [show isSeqSlot (some (Value.builtin "list.__iadd__"))=true by decide +kernel]
  rfl
 have d:seqSlot? (.type "list") (dunderI "add")=pure (some (.builtin "list.__iadd__")):=PySem.seqSlot_of f (by decide +kernel)
 refine aH9 (wpAny_typeOf ha (aH9 (wpAny_of_eq c ?_)))
 show wpAny M A (if false=true then _ else _) Q E s
 rw [aE6 aA9]
 refine aH9 (binaryOp1_none (nm:="add") ha hb noFill_list_add ?_)
 refine aH9 (wpAny_of_eq d ?_)
 exact aH9 (wpAny_rule g)
def ipL:TIp:=fun x y H Q=>∃ l b xs zs,x=.ref l/\y=.ref b/\H l=some (.lst xs)/\H b=some (.lst zs)/\xs.length+zs.length<=sizeLine/\Q (.ref l) (upd H l (.lst (xs ++ zs)))
theorem awv {X:Cx}:PIp X .Add ipL:=by
 intro pins s σ H x y v u Q I g f h
 obtain ⟨l,b,xs,A,rfl,rfl,d,j,B,q⟩:=h
 cases g
 cases f
 obtain ⟨z,its,n,r,p,e⟩:=I.lstM d
 obtain ⟨w,a,i,o,m,e2⟩:=I.lstM j
 have hsz:its.toArray.size+a.toArray.size<=sizeLine:=by rw [aB1,aB1];omega
 have c:¬ (!its.toArray.isEmpty && Builtin.List.listTooLong (its.toArray.size+a.toArray.size))=true:=by
  rw [ahc hsz,Bool.and_false]
  exact aA9
 refine akx ⟨_,e,rfl⟩ ⟨_,e2,rfl⟩ ?_
 refine call_meets F.slot_list_iadd ⟨_,e,rfl⟩ F.entry_list_iadd (F.args_list_iadd_2 _ _)
  (AutoSeq1.list___iadd___list_list_0 l its.toArray n b a.toArray i c (by rw [aB1];omega) (by omega)) ⟨e,e2,?_⟩
 refine ⟨.ref l,_,I.lset (its':=its ++ a) d e (by simp) (r.append o) ?_,rfl,q⟩
 rw [aB0]
 omega
end L2
namespace VL
open PySem PySem.Spec L2
variable {B:Bs} {env:En} {i:Nat} {te:TE} {D':VEnds}
theorem atp {α:Type} {l:List (Option α)} {i:Nat} {v : α} (h:l[i]?=some (some v)):l.set i (some v)=l:=by
 apply aF2
 intro j
 by_cases e:j=i
 ·subst e
  rw [List.getElem?_set_self (aA1.mp h).1,h]
 ·rw [List.getElem?_set_ne (Ne.symm e)]
theorem atq {l:List PyData} (w:Has env i (OL l)) (h:Ev B te env fun y e2=>∃ ds ys,y=.list ys/\e2[i]?=some (some (.own (OL ds)))/\ds.length+ys.length<=1000000/\D'.nx (e2.set i (some (.own (OL (ds ++ ys)))))):EvS B (tAug i te ipL) D' env:=fun σ G H F D I k=>by
 obtain ⟨v,f,a,vs,o,ha,rs,_⟩:=I.has w
 subst o
 refine ⟨_,f,h σ G H F _ I fun u p H2 F2 y e2 g x z ⟨ds,ys,r,es,n,q⟩=>?_⟩
 subst r
 cases z with
 | lst hb rb =>
  obtain ⟨C,d,A,s,j,m,c,hf⟩:=g.has (.inl es)
  rw [f] at d;cases d;cases j
  refine ⟨a,_,_,_,rfl,rfl,m,g.gh _ _ hb,by rw [c.length,rb.length];exact aF5 (big n),?_⟩
  show D.nx (List.set σ i (some (V.ref a))) _
  rw [atp f]
  exact k.nx _ p _ _ _ (g.upd1 (A':=OL (ds ++ ys)) es (.inl rfl) f hf ⟨a,_,rfl,aah,c.append rb,fun b=>Iff.rfl⟩) x q
theorem atr {α:Type} {K n:Frag} {src:List (Option Nat)} {b:En} {te:TE} {R:List PyData->En->Prop} {xs:List α} {fa fb fc : α->PyData} (f : α->PyData) (m:noIo (aaj src b)=true) (A:xs.length<=999999)
  (h:∀ x∈xs,∀ g:Bs,g.K=K->Ev g te (some (.st (fa x)) :: some (.st (fb x)) :: some (.st (fc x)) :: aaj src b) fun y j=>y=f x/\j=some (.st (fa x)) :: some (.st (fb x)) :: some (.st (fc x)) :: aaj src b)
  (q:R (xs.map f) b):LcV K (none :: none :: none :: src) (gTup n 3 (aa8 (aas 0) (aa8 (aas 1) (aa8 (aas 2) gNil)))) tYes te (xs.map fun x => .tuple [fa x,fb x,fc x]) b R:=by
 have c:noIo (aaj (none :: none :: none :: src) b)=true:=by
  show ((none :: none :: none :: aaj src b).all fun s => !isIo s)=true
  rw [List.all_cons,List.all_cons,List.all_cons]
  exact (aG1 _ _).mpr ⟨rfl,(aG1 _ _).mpr ⟨rfl,(aG1 _ _).mpr ⟨rfl,m⟩⟩⟩
 refine ⟨fun i ys e=>ys=(xs.take i).map f/\∃ o o' a,e=stO o :: stO o' :: stO a :: aaj src b,⟨by simp,none,none,none,rfl⟩,?_,?_,?_⟩
 ·rintro i ys e ⟨_,o,o',a,rfl⟩
  exact ⟨⟨isIo_stO.symm,ab9⟩,⟨isIo_stO.symm,ab9⟩,⟨isIo_stO.symm,ab9⟩,acz acv⟩
 ·rintro i d ys e hd ⟨rfl,o,o',a,rfl⟩ g z
  rw [aA5] at hd
  cases hx:xs[i]? with
  | none=>rw [hx] at hd;cases hd
  | some x =>
   rw [hx] at hd
   cases hd
   have hi:i < xs.length:=(aA1.mp hx).1
   have u:xs.take (i+1)=xs.take i ++ [x]:=by rw [aG4,hx];rfl
   refine afd rfl (abh (aar (abh (aar (abh (aar (adj (acj ?_))))))))
   rw [aE5 rfl]
   show Ev g te (some (.st (fa x)) :: some (.st (fb x)) :: some (.st (fc x)) :: aaj src b) _
   intro σ G H F Q I k
   refine h x (aA2 hx) g z σ G H F Q I fun v G' H' F' d' j w g' p ⟨r,l⟩=>k v G' H' F' d' j w g' p ?_
   subst r l
   refine ⟨?_,?_,some _,some _,some _,rfl⟩
   ·simp only [aA3]
    have B:(xs.take i).length<=i:=by simp;omega
    omega
   ·rw [u,aD7];rfl
 ·rintro ys e ⟨rfl,o,o',a,rfl⟩
  rw [aff c]
  simpa using q
theorem apm {α β:Type} {K K1 U:Frag} {src:List (Option Nat)} {g:En} {n:TI} {te:TE} {R:List PyData->Prop} {xs:List α} {fa fb fe : α->PyData} (b : α->List β) (fc fd : α->β->PyData) (f : α->β->PyData) (M:adu (aaj src g))
  (P:(xs.flatMap fun x=>(b x).map (f x)).length<=999999)
  (Z:∀ x∈xs,∀ m:Bs,m.K=K->∀ o o',EvI m n (some (.st (fa x)) :: some (.st (fb x)) :: some (.st (fe x)) :: stO o :: stO o' :: aaj src g) fun q s=>q=(b x).map (fun y => .tuple [fc x y,fd x y])/\s=some (.st (fa x)) :: some (.st (fb x)) :: some (.st (fe x)) :: stO o :: stO o' :: aaj src g)
  (Y:∀ x∈xs,∀ y∈b x,∀ m:Bs,m.K=K->Ev m te (some (.st (fa x)) :: some (.st (fb x)) :: some (.st (fe x)) :: some (.st (fc x y)) :: some (.st (fd x y)) :: aaj src g) fun z X=>z=f x y/\X=some (.st (fa x)) :: some (.st (fb x)) :: some (.st (fe x)) :: some (.st (fc x y)) :: some (.st (fd x y)) :: aaj src g)
  (S:R (xs.flatMap fun x=>(b x).map (f x))):LcV2 K (none :: none :: none :: none :: none :: src) (gTup K1 3 (aa8 (aas 0) (aa8 (aas 1) (aa8 (aas 2) gNil)))) tYes n (gTup U 2 (aa8 (aas 3) (aa8 (aas 4) gNil))) tYes te (xs.map fun x => .tuple [fa x,fb x,fe x]) g R:=by
 refine ⟨fun i ys e=>ys=(xs.take i).flatMap (fun x=>(b x).map (f x))/\∃ o o' h p a,e=stO o :: stO o' :: stO h :: stO p :: stO a :: aaj src g,⟨by simp,none,none,none,none,none,rfl⟩,?_,?_,?_⟩
 ·rintro i ys e ⟨_,o,o',h,p,a,rfl⟩
  exact aa5 (aa5 (aa5 (aa5 (aa5 M))))
 ·rintro i d ys e hd ⟨rfl,o,o',h,p,a,rfl⟩ m T
  rw [aA5] at hd
  cases hx:xs[i]? with
  | none=>rw [hx] at hd;cases hd
  | some x =>
   rw [hx] at hd
   cases hd
   have u:=aA2 hx
   have O:xs.take (i+1)=xs.take i ++ [x]:=by rw [aG4,hx];rfl
   have D:((xs.take (i+1)).flatMap (fun x=>(b x).map (f x))).length<=999999:=by
    refine aC9 ?_ P
    conv=>rhs;rw [← aC0 (i+1) xs,List.flatMap_append,aB0]
    exact Nat.le_add_right _ _
   refine afd rfl (abh (aar (abh (aar (abh (aar (adj (acj ?_))))))))
   rw [aE5 rfl]
   show EvI m n (some (.st (fa x)) :: some (.st (fb x)) :: some (.st (fe x)) :: stO p :: stO a :: aaj src g) _
   intro σ G H F Q I k
   refine Z x u m T p a σ G H F Q I fun J G' H' F' q s E g' B ⟨w,r⟩=>k J G' H' F' q s E g' B ?_
   subst w r
   refine ⟨fun j l e=>l=(xs.take i).flatMap (fun x=>(b x).map (f x)) ++ ((b x).take j).map (f x)/\∃ p a,e=some (.st (fa x)) :: some (.st (fb x)) :: some (.st (fe x)) :: stO p :: stO a :: aaj src g,⟨by simp,p,a,rfl⟩,?_,?_,?_⟩
   ·rintro j l e ⟨_,p,a,rfl⟩
    exact aa5 (o:=some (fa x)) (aa5 (o:=some (fb x)) (aa5 (o:=some (fe x)) (aa5 (aa5 M))))
   ·rintro j d2 l e c ⟨rfl,p,a,rfl⟩ N L
    rw [aA5] at c
    cases hy:(b x)[j]? with
    | none=>rw [hy] at c;cases c
    | some y =>
     rw [hy] at c
     cases c
     have C:(b x).take (j+1)=(b x).take j ++ [y]:=by rw [aG4,hy];rfl
     refine afd rfl (abh (aar (abh (aar (adj (acj ?_))))))
     rw [aE5 rfl]
     show Ev N te (some (.st (fa x)) :: some (.st (fb x)) :: some (.st (fe x)) :: some (.st (fc x y)) :: some (.st (fd x y)) :: aaj src g) _
     intro σ G H F Q I k
     refine Y x u y (aA2 hy) N L σ G H F Q I fun v G' H' F' d' s E g' W ⟨A,r⟩=>k v G' H' F' d' s E g' W ?_
     subst A r
     refine ⟨?_,?_,some (fc x y),some (fd x y),rfl⟩
     ·refine aC9 ?_ D
      rw [O,List.flatMap_append,aB0,aB0]
      refine Nat.add_le_add_left ?_ _
      simp only [List.flatMap_cons,List.flatMap_nil,aE2,aA3]
      exact (List.take_sublist j (b x)).length_le
     ·rw [C,aD7,← aB3];rfl
   ·rintro l e ⟨rfl,p,a,rfl⟩
    refine ⟨?_,some (fa x),some (fb x),some (fe x),p,a,rfl⟩
    rw [O,List.flatMap_append]
    simp
 ·rintro ys e ⟨rfl,o,o',h,p,a,rfl⟩
  rw [aA3,aF8]
  exact S
end VL
namespace PopT
open PySem PyProof.Rows
section
variable {prog:Program} {w:World} {K:Type} [DecidableEq K] {knd:HeapKind prog w K} {A:Around} {E:Value->Shared->Prop} {s:Shared}
end
end PopT
namespace L2
open PySem PySem.Spec PySem.W PyProof.Rows
theorem KT.at {H:Hp} {kvs:List (List Key × V)} {xs:List (List Key × Addr × Value)} (r:KT H kvs xs):∀ {j:Nat} {k:List Key} {v:V},kvs[j]?=some (k,v)->∃ p:Addr × Value,xs[j]?=some (k,p)/\RelV v p.2:=by
 induction r with
 | nil=>intro j k v e;simp at e
 | @cons p q ps qs hq t ih =>
  intro j k v e
  cases j with
  | zero =>
   have e:p=(k,v):=by simpa using e
   subst e
   exact ⟨q.2,by rw [List.getElem?_cons_zero,show k=q.1 from hq.1],hq.2.2⟩
  | succ j=>exact ih (by simpa using e)
section
variable {X:Cx} {pins:List (Addr × Obj)} {σ:St} {H:Hp} {s:Shared} {a b:Addr} {A:Around} {E:Value->Shared->Prop}
end
section
variable {X:Cx} {o e f:Expr} {apos cpos:Pos} {td ty tx:TE}
end
end L2
namespace DNe
open PySem PyProof.Rows
end DNe
namespace L2
open PySem PySem.Spec PySem.W PyProof.Rows
end L2
namespace DNe
open PySem PyProof.Rows
section
variable {prog:Program} {w:World} {A:Around} {E:Value->Shared->Prop} {s:Shared}
end
end DNe
namespace L2
open PySem PySem.Spec PySem.W PyProof.Rows
end L2
namespace VL
open PySem PySem.Spec L2
section
variable {B:Bs} {env:En} {Q':PyData->En->Prop} {QO:Sl->En->Prop} {i:Nat} {ty:TE}
theorem RpT.at {G:Hp}:∀ {kvs:List (List Key × V)} {es:List (List Key × PyData)},RpT G kvs es->∀ {j:Nat} {ks:List Key} {d:PyData},es[j]?=some (ks,d)->∃ v,kvs[j]?=some (ks,v)/\Rp G v d
 | _,_,.nil,j,ks,d,e=>by simp at e
 | _,_,.cons (k:=k) (v:=v) (d:=d0) h t,0,ks,d,e=>by
  have e:(k,d0)=(ks,d):=by simpa using e
  cases e
  exact ⟨v,rfl,h⟩
 | _,_,.cons h t,j+1,ks,d,e=>by
  obtain ⟨v,a,r⟩:=RpT.at t (j:=j) (by simpa using e)
  exact ⟨v,by simpa using a,r⟩
end
section
variable {B:Bs} {env:En} {QO:Sl->En->Prop} {Q':PyData->En->Prop} {K:Frag} {i:Nat}
end
section
variable {B:Bs} {env:En} {QO:Sl->En->Prop} {Q':PyData->En->Prop} {K:Frag} {i:Nat}
theorem ats {j n:TE} (h:Ev B j env fun d u=>EvO B n u fun s e2=>∃ ds,s=.own (OL ds)/\QO (.own (OW d ds)) e2):EvO B (tTup (abt j (abt n tNil))) env QO:=fun σ G H F Q I k =>
 h σ G H F _ I fun v A D y d u L C M K=>K σ A D y _ L fun w i H2 F2 Fv s e2 f r x E=>by
  obtain ⟨ds,es,q⟩:=E
  subst es
  obtain ⟨l,vs,rfl,g,rs,hf⟩:=x.ok
  refine ⟨show (2:Nat)<=sizeLine by rw [sizeLine_eq];decide,fun p c=>?_⟩
  have pl:p ≠ l:=(aak g c).symm
  have J:VI B i (upd H2 p (.tup [v,.ref l])) σ e2 F2:=f.grow (Same.refl _) (f.gh.trans (ab3 c)) (ab3 c) (fun a o e => .inl e) fun a ks e=>by
   by_cases z:a=p
   ·subst z;rw [aah] at e;exact absurd (aC5 e) ahr
   ·rw [aae z] at e;exact f.ft a ks e
  refine k _ i _ _ (fun a=>a=p\/a=l) (.own (OW d ds)) _ J (C.trans r) ⟨⟨p,l,v,vs,rfl,aah,M.same r,by rw [aae pl.symm];exact g,rs,fun b=>Iff.rfl⟩,fun a z=>?_,fun a z=>?_,fun a z=>?_,fun m a z=>?_⟩ q
  ·rcases z with rfl | rfl
   ·exact f.no_b c
   ·exact x.fb a ((hf a).mpr rfl)
  ·rcases z with rfl | rfl
   ·exact f.no_g c
   ·exact x.fg a ((hf a).mpr rfl)
  ·rcases z with rfl | rfl
   ·exact ⟨_,aah⟩
   ·exact ⟨_,by rw [aae pl.symm];exact g⟩
  ·rcases z with rfl | rfl
   ·exact f.no_f c m
   ·exact x.fd m a ((hf a).mpr rfl)
end
section
variable {B:Bs} {env:En} {QO:Sl->En->Prop} {Q':PyData->En->Prop} {K:Frag} {E:XK} {i:Nat}
theorem VI.moment2 {G c b H H3:Hp} {σ:St} {F:Nat->Addr->Prop} {v:V} {s:Sl} {Fv:Addr->Prop} (I:VI B G H σ env F) (g:Same G c) (o:Out c H v b H3 s Fv):∃ d,Same G d/\VI B d H3 σ env F/\∀ a,H a=none->d a=b a:=by
 refine ⟨fun a=>if H a=none then b a else G a,fun a u e=>?_,I.grow (fun a u e=>?_) (fun a u e=>?_) o.hh (fun a u e=>?_) (fun a ks e=>?_),fun a h=>aE5 h⟩
 ·show (if H a=none then b a else G a)=some u;rw [aE6 (by rw [I.gh a u e];simp)];exact e
 ·rw [aE6 (by rw [I.gh a u e];simp)];exact e
 ·by_cases h:H a=none
  ·rw [aE5 h] at e;exact o.gh a u e
  ·rw [aE6 h] at e;exact o.hh _ _ (I.gh a u e)
 ·by_cases h:H a=none
  ·exact .inr h
  ·rw [aE6 h] at e;exact .inl e
 ·have f1:FT c H:=fun a ks e=>g _ _ (I.ft a ks e)
  by_cases h:H a=none
  ·rw [aE5 h];exact o.ft f1 a ks e
  ·rw [aE6 h]
   obtain ⟨u,f⟩:=aim h
   have:=o.hh _ _ f
   rw [e] at this
   exact I.ft a ks (by rw [f,← this])
end
def stS:Option Sl->Option Sl
 | some (.st d)=>some (.st d)
 | some (.scr ns)=>some (.scr ns)
 | _=>none
def momE (env:En) (i:Nat) (d:PyData):En:=(env.map stS).set i (some (.st d))
section
variable {B:Bs} {env:En} {QO:Sl->En->Prop} {Q':PyData->En->Prop} {K:Frag} {i j:Nat} {ta te:TE}
theorem abi {A:Own} {d:PyData} (j:Has env i A) (L:Frz A d) (h:∀ b:Bs,b.K=B.K->Ev b te (momE env i d) fun d' _=>afs d'=true/\Q' d' env):Ev B te env Q':=fun σ G H F Q I k=>by
 obtain ⟨v,x,ap⟩:=I.has j
 have js:=abd (H:=H) (I.fg i)
 let b:Bs:={ K:=B.K,G:=jn G H (F i),H:=H,R:=H,S:=σ,F:=fun _ _=>False }
 have hi:i < env.length:=by
  rcases j with e | e <;> exact (aA1.mp e).1
 have J:VI b (jn G H (F i)) H σ (momE env i d) (fun _ _=>False):={
  gh:=ain I.gh
  g0:=Same.refl _
  gn:=fun a o e => .inl e
  rs:=Same.refl _
  rb:=Same.refl _
  bh:=fun a o e=>⟨o,e⟩
  fg:=fun _ _ z=>z.elim
  fr:=fun _ _ z=>z.elim
  fd:=fun _ _ _ z=>z.elim
  fo:=fun _ _ z=>z.elim
  sl:=fun m s e=>by
   unfold momE at e
   by_cases hm:m=i
   ·subst hm
    rw [aD1,aE5 rfl,aE5 (by simpa using hi)] at e
    cases e
    exact ⟨v,x,L _ _ _ _ ap (I.fg m) I.gh,fun _ z=>z⟩
   ·rw [aD1,aE6 (fun z=>hm z.symm),aA5] at e
    cases em:env[m]? with
    | none=>rw [em] at e;cases e
    | some o =>
     rw [em] at e
     cases o with
     | none=>cases e
     | some t =>
      obtain ⟨u,g,q⟩:=I.sl m t em
      cases t with
      | st d'=>cases e;exact ⟨u,g,q.1.same js,fun _ z=>z⟩
      | scr ns =>
       cases e
       obtain ⟨⟨a,l,p⟩,_⟩:=q
       exact ⟨u,g,⟨a,l,js.seq p⟩,fun _ z=>z⟩
      | own A'=>cases e
      | io A'=>cases e
  ln:=by simp [momE,I.ln]
  ft:=fun a ks e=>js _ _ (I.ft a ks e) }
 refine h b rfl σ _ H _ Q J fun w n H2 F2 d' e2 c y f ⟨C,q⟩=>?_
 have o:Out (jn G H (F i)) H w n H2 (.st d') (fun _=>False):={
  gg:=y
  gh:=c.gh
  hh:=c.rs
  gn:=c.gn
  fn:=fun _ z=>z.elim
  fg:=fun _ z=>z.elim
  fo:=fun _ z=>z.elim
  ok:=⟨f,fun _ z=>z⟩
  ft:=fun _=>c.ft }
 obtain ⟨D,E,r⟩:=I.moment js o
 exact k w D H2 F d' env r E (ajq f C) q
end
theorem aww {o:Option Sl} {s:Sl} (h:stS o=some s):o=some s/\((∃ d,s=.st d)\/∃ ns,s=.scr ns):=by
 cases o with
 | none=>cases h
 | some t =>
  cases t with
  | st d=>cases h;exact ⟨rfl,.inl ⟨d,rfl⟩⟩
  | scr ns=>cases h;exact ⟨rfl,.inr ⟨ns,rfl⟩⟩
  | own A=>cases h
  | io A=>cases h
section
variable {B:Bs} {env:En} {QO:Sl->En->Prop} {K:Frag} {te:TE}
theorem awx {src:List (Option Nat)} {wi:TI} (h:EvI B wi env fun ds e1=>ds.length<=999999/\∃ l:List (List PyData),l.length=ds.length/\(∀ (i:Nat) d,ds[i]?=some d->∀ B':Bs,B'.K=B.K->EvO B' te (some (.st d) :: (aaj src e1).map stS) fun s _=>∃ xs,l[i]?=some xs/\s=.own (OL xs))/\QO (.own (OLL l)) e1):EvO B (tLC (none :: src) wi (aas 0) tYes te) env QO:=fun σ G H F Q I k=>by
 refine h σ G H F _ I fun J G1 H1 F1 ds e1 O g1 it ⟨b1,l,b0,a8,q⟩ c f=>?_
 let W:Nat->List V->St->Hp->Prop:=fun n ys σI H=>∃ (as:List Addr) (C:Hp) (o:Option V),σI=o :: pick src σ/\ys=as.map V.ref/\as.length=n/\as.Nodup/\c ∉ as/\(∀ b∈as,H1 b=none/\C b=none)/\(∀ (i:Nat) b xs,as[i]?=some b->l[i]?=some xs->∃ vs,H b=some (.lst vs)/\Rps C vs xs)/\H c=some (.lst ys)/\C c=none/\Same G1 C/\Same C H/\Same H1 H/\(∀ a o,C a=some o->G1 a=some o\/H1 a=none)/\FT C H
 refine ⟨fun n m ys σI H=>m=ds.length - n/\n<=ds.length/\W n ys σI H,⟨ds.length,by simp,aF0 _,[],G1,none,rfl,rfl,rfl,List.nodup_nil,by simp,fun b hb=>by simp at hb,fun i b xs hb=>by simp at hb,aah,O.no_g f,Same.refl _,O.gh.trans (ab3 f),ab3 f,fun a o e => .inl e,fun a ks e=>?_⟩,?_⟩
 ·by_cases z:a=c
  ·subst z;rw [aah] at e;cases e
  ·rw [aae z] at e;exact O.ft a ks e
 rintro n m ys σI H2 ⟨rfl,hn,as,C,o0,rfl,rfl,hl,nd,na,all,E,M,ga,U,D,r,T,N⟩
 refine ⟨M,?_⟩
 have L:∀ b∈as,∃ u,H2 b=some u:=fun b hb=>by
  obtain ⟨i,hi,e⟩:=aG6.mp hb
  obtain ⟨vs,h1,_⟩:=E i b _ (by rw [aA0 hi,e]) (aA0 (show i < l.length by omega))
  exact ⟨_,h1⟩
 by_cases hlt:n < ds.length
 ·refine .inr ⟨it.go n C H2 U D hlt,fun Z X H'=>W (n+1) Z X H',fun Z X H' hw=>⟨ds.length - (n+1),by omega,rfl,hlt,hw⟩,fun x H3 y=>?_⟩
  obtain ⟨G3,o⟩:=it.yld n C H2 x H3 _ U D N (aA0 hlt) y
  refine agm (alu (adb ?_))
  have I2:=O.grow U D r T N
  obtain ⟨I3,X3⟩:=I2.out o
  let B':Bs:={ K:=B.K,G:=G3,H:=H3,R:=H3,S:=some x :: pick src σ,F:=fun _ _=>False }
  have J':VI B' G3 H3 (some x :: pick src σ) (some (.st ds[n]) :: (aaj src e1).map stS) (fun _ _=>False):={
   gh:=o.gh
   g0:=Same.refl _
   gn:=fun a u e => .inl e
   rs:=Same.refl _
   rb:=Same.refl _
   bh:=fun a u e=>⟨u,e⟩
   fg:=fun _ _ z=>z.elim
   fr:=fun _ _ z=>z.elim
   fd:=fun _ _ _ z=>z.elim
   fo:=fun _ _ z=>z.elim
   sl:=fun m s e=>by
    cases m with
    | zero =>
     simp only [List.getElem?_cons_zero,Option.some.injEq] at e
     subst e
     exact ⟨x,rfl,X3.ok.1,fun _ z=>z⟩
    | succ m =>
     rw [aH1,aA5] at e
     obtain ⟨t,ht,et⟩:=Option.map_eq_some_iff.mp e
     obtain ⟨rfl,hs⟩:=aww et
     obtain ⟨i,t',a4,a5,g⟩:=aev ht
     obtain ⟨v,hv,q'⟩:=I3.sl i t' a5
     refine ⟨v,by rw [aH1];exact aho a4 hv,?_⟩
     rcases hs with ⟨d,rfl⟩ | ⟨ns,rfl⟩
     ·cases t' with
      | st d'=>cases g;exact ⟨q'.1,fun _ z=>z⟩
      | scr ns=>cases g
      | own A=>cases g
      | io A=>cases g
     ·cases t' with
      | st d'=>cases g
      | scr ns'=>cases g;exact ⟨q'.1,fun _ z=>z⟩
      | own A=>cases g
      | io A=>cases g
   ln:=by simp [pick,aaj]
   ft:=o.ft N }
  refine a8 n _ (aA0 hlt) B' rfl _ G3 H3 _ _ J' fun v G4 H4 F4 Fv s e4 I4 g4 X4 ⟨xs,a2,es⟩=>?_
  subst es
  obtain ⟨p,vs,rfl,hp,rp,fp⟩:=X4.ok
  have a1:=(fp p).mpr rfl
  have n3:H3 p=none:=X4.fb p a1
  have gp:G4 p=none:=X4.fg p a1
  have n2:H2 p=none:=abe o.hh n3
  have n1:H1 p=none:=abe r n2
  have P:Same H3 H4:=I4.rs
  have Y:=o.hh _ _ M
  have a3:=P _ _ Y
  have pa:p ≠ c:=(aak Y n3).symm
  have a9:p ∉ as:=fun z=>by
   obtain ⟨u,hu⟩:=L p z
   rw [hu] at n2;cases n2
  have gb:∀ b,C b=none->(∃ u,H2 b=some u)->G4 b=none:=fun b h1 z_=>by
   obtain ⟨u,h2⟩:=z_
   cases e:G4 b with
   | none=>rfl
   | some w =>
    rcases I4.gn b w e with e | e
    ·rcases o.gn b w e with e | e
     ·rw [h1] at e;cases e
     ·rw [h2] at e;cases e
    ·have:=o.hh _ _ h2;change H3 b=none at e;rw [this] at e;cases e
  have a0:G4 c=none:=gb c ga ⟨_,M⟩
  refine ⟨a3,by rw [aA3,hl];exact big (by omega),as ++ [p],G4,some x,rfl,by simp,by simp [hl],?_,?_,fun b hb=>?_,fun i b a6 hb hd=>?_,aah,a0,U.trans (o.gg.trans g4),fun a u e=>?_,fun a u e=>?_,fun a u e=>?_,fun a ks e=>?_⟩
  ·rw [List.nodup_append]
   exact ⟨nd,by simp,fun x hx y hy=>by simp at hy;subst hy;intro e;subst e;exact a9 hx⟩
  ·intro z
   rcases aA7.mp z with z | z
   ·exact na z
   ·exact pa (aC1.mp z).symm
  ·rcases aA7.mp hb with hb | hb
   ·exact ⟨(all b hb).1,gb b (all b hb).2 (L b hb)⟩
   ·cases aC1.mp hb
    exact ⟨n1,gp⟩
  ·by_cases hi:i < as.length
   ·rw [aC2 hi] at hb
    obtain ⟨us,h1,h2⟩:=E i b a6 hb hd
    refine ⟨us,?_,h2.same (o.gg.trans g4)⟩
    rw [aae (fun z:b=c=>na (by rw [← z];exact aA2 hb))]
    exact P _ _ (o.hh _ _ h1)
   ·have a7:i=n:=by
     have:=(aA1.mp hb).1
     simp at this
     omega
    subst a7
    rw [aC7 (by omega)] at hb
    have:b=p:=by
     rw [show i - as.length=0 by omega] at hb
     simpa using hb.symm
    subst this
    rw [a2] at hd
    cases hd
    exact ⟨vs,by rw [aae pa];exact hp,rp⟩
  ·have aa:a ≠ c:=by rintro rfl;rw [a0] at e;cases e
   rw [aae aa];exact I4.gh a u e
  ·have aa:a ≠ c:=aak e f
   rw [aae aa];exact P _ _ (o.hh _ _ (r a u e))
  ·rcases I4.gn a u e with e | e
   ·rcases o.gn a u e with e | e
    ·exact T a u e
    ·exact .inr (abe r e)
   ·exact .inr (abe r (abe o.hh e))
  ·by_cases z:a=c
   ·subst z;rw [aah] at e;cases e
   ·rw [aae z] at e;exact I4.ft a ks e
 ·have e:n=ds.length:=by omega
  subst e
  refine .inl ⟨it.stop _ C H2 U D rfl,?_⟩
  have I2:=O.grow U D r T N
  refine k (.ref c) C H2 F1 (fun b=>b=c\/b∈as) (.own (OLL l)) e1 I2 (g1.trans U) ⟨⟨c,as,rfl,M,nd,na,by omega,E,fun b=>Iff.rfl⟩,fun b z=>?_,fun b z=>?_,fun b z=>?_,fun j b z y=>?_⟩ q
  ·rcases z with rfl | z
   ·exact O.no_b f
   ·exact O.no_b (all b z).1
  ·rcases z with rfl | z
   ·exact ga
   ·exact (all b z).2
  ·rcases z with rfl | z
   ·exact ⟨_,M⟩
   ·exact L b z
  ·rcases z with rfl | z
   ·exact O.no_f f j y
   ·exact O.no_f (all b z).1 j y
end
end VL
namespace L2
open PySem PySem.Spec PyProof.Rows
section
variable {prog:Program} {w:World} {A:Around} {E:Value->Shared->Prop} {s:Shared}
end
section
variable {X:Cx} {tg:Expr}
end
end L2
namespace VL
open PySem PySem.Spec L2
section
variable {B:Bs} {env:En} {g:TG} {tb:TS} {D':VEnds} {QI:List PyData->En->Prop}
end
theorem aok {G G':Hp}:∀ {vs:List V} {ns:List Int},Rps G vs (ns.map PyData.int)->Rps G' vs (ns.map PyData.int)
 | [],[],_ => .nil
 | [],_ :: _,h=>by cases h
 | _ :: _,[],h=>by cases h
 | v :: vs,n :: ns,h=>by
  cases h with
  | cons r t =>
   cases r
   exact .cons (.int n) (aok t)
theorem att {c:List (List Int)}:∀ G G' H v F,(OLL (c.map fun ns=>ns.map PyData.int)).P G H v F->(OLL (c.map fun ns=>ns.map PyData.int)).P G' H v F:=fun G G' H v F ⟨a,as,e,h,d,g,l,r,f⟩ =>
 ⟨a,as,e,h,d,g,l,fun i b ds hb hd=>by
  obtain ⟨vs,m,j⟩:=r i b ds hb hd
  rw [aA5] at hd
  obtain ⟨ns,_,rfl⟩:=Option.map_eq_some_iff.mp hd
  exact ⟨vs,m,aok j⟩,f⟩
section
variable {B:Bs} {env:En} {QO:Sl->En->Prop} {i:Nat} {te:TE}
end
def afj (A:Own):Prop:=∀ G G' H v F,Same G H->FT G' H->A.P G H v F->A.P G' H v F
theorem aix {G G' H:Hp} (g:Same G H) (t:FT G' H):∀ {vs:List V} {ps:List (Int × Int)},Rps G vs (ps.map prD)->Rps G' vs (ps.map prD)
 | [],[],_ => .nil
 | [],_ :: _,h=>by cases h
 | _ :: _,[],h=>by cases h
 | v :: vs,p :: ps,h=>by
  rw [aD0] at h
  cases h with
  | cons r r2 =>
   refine .cons ?_ (aix g t r2)
   cases r with
   | tup ha ra =>
    cases ra with
    | cons x1 y =>
     cases x1
     cases y with
     | cons x2 z =>
      cases x2
      cases z
      exact .tup (t _ [.inl p.1,.inl p.2] (g _ _ ha)) (.cons (.int _) (.cons (.int _) .nil))
theorem awy (ps:List (Int × Int)):afj (OL (ps.map prD)):=fun G G' H v F g t ⟨l,vs,e,h,r,f⟩=>⟨l,vs,e,h,aix g t r,f⟩
theorem aol (x:Int) (ps:List (Int × Int)):afj (OW (.int x) (ps.map prD)):=fun G G' H v F g t a=>by
 obtain ⟨p,l,u,vs,e,c,h,b,d,f⟩:=a
 cases h
 exact ⟨p,l,_,vs,e,c,.int x,b,aix g t d,f⟩
theorem awz {A:Own} (h:∀ G G' H v F,A.P G H v F->A.P G' H v F):afj A:=fun G G' H v F _ _ q=>h G G' H v F q
theorem ark {G G':Hp}:∀ {vs:List V} {ds:List PyData},(∀ d∈ds,∃ k:Int,d=.int k)->Rps G vs ds->Rps G' vs ds
 | _,_,_,.nil => .nil
 | _,_,h,.cons r t=>by
  obtain ⟨k,e⟩:=h _ aB7
  subst e
  cases r
  exact .cons (.int k) (ark (fun d hd=>h d (aB4 _ hd)) t)
section
variable {B:Bs} {env:En} {QO:Sl->En->Prop} {Q':PyData->En->Prop} {K:Frag} {i:Nat} {te:TE} {E:XK}
theorem ag7 {A:Own} {d:PyData} (l:Has env i A) (M:Frz A d) (h:∀ f:Bs,f.K=B.K->EvO f te (momE env i d) fun s _=>∃ A',s=.own A'/\afj A'/\QO (.own A') env):EvO B te env QO:=fun σ G H F Q I k=>by
 obtain ⟨v,C,ap⟩:=I.has l
 have js:=abd (H:=H) (I.fg i)
 let f:Bs:={ K:=B.K,G:=jn G H (F i),H:=H,R:=H,S:=σ,F:=fun _ _=>False }
 have hi:i < env.length:=by
  rcases l with e | e <;> exact (aA1.mp e).1
 have J:VI f (jn G H (F i)) H σ (momE env i d) (fun _ _=>False):={
  gh:=ain I.gh
  g0:=Same.refl _
  gn:=fun a o e => .inl e
  rs:=Same.refl _
  rb:=Same.refl _
  bh:=fun a o e=>⟨o,e⟩
  fg:=fun _ _ z=>z.elim
  fr:=fun _ _ z=>z.elim
  fd:=fun _ _ _ z=>z.elim
  fo:=fun _ _ z=>z.elim
  sl:=fun m s e=>by
   unfold momE at e
   by_cases hm:m=i
   ·subst hm
    rw [aD1,aE5 rfl,aE5 (by simpa using hi)] at e
    cases e
    exact ⟨v,C,M _ _ _ _ ap (I.fg m) I.gh,fun _ z=>z⟩
   ·rw [aD1,aE6 (fun z=>hm z.symm),aA5] at e
    cases em:env[m]? with
    | none=>rw [em] at e;cases e
    | some o =>
     rw [em] at e
     cases o with
     | none=>cases e
     | some t =>
      obtain ⟨u,n,q⟩:=I.sl m t em
      cases t with
      | st d'=>cases e;exact ⟨u,n,q.1.same js,fun _ z=>z⟩
      | scr ns =>
       cases e
       obtain ⟨⟨a,r,y⟩,_⟩:=q
       exact ⟨u,n,⟨a,r,js.seq y⟩,fun _ z=>z⟩
      | own A'=>cases e
      | io A'=>cases e
  ln:=by simp [momE,I.ln]
  ft:=fun a ks e=>js _ _ (I.ft a ks e) }
 refine h f rfl σ _ H _ Q J fun w x H2 F2 Fv s e2 c D b ⟨A',es,N,q⟩=>?_
 subst es
 have o:Out (jn G H (F i)) H w x H2 (.own A') Fv:={
  gg:=D
  gh:=c.gh
  hh:=c.rs
  gn:=c.gn
  fn:=b.fb
  fg:=b.fg
  fo:=b.fo
  ok:=b.ok
  ft:=fun _=>c.ft }
 obtain ⟨E,L,g,p⟩:=I.moment2 js o
 exact k w E H2 F Fv (.own A') env g L ⟨N _ _ _ _ _ c.gh g.ft b.ok,fun a z=>I.no_b (o.fn a z),fun a z=>by rw [p a (o.fn a z)];exact o.fg a z,o.fo,fun j a z=>I.no_f (o.fn a z) j⟩ q
open Classical in
def flG (H:Hp):Hp:=fun a=>if ∃ ks:List Key,H a=some (.tup (ks.map kV)) then H a else none
theorem aht {H:Hp}:Same (flG H) H:=fun a o e=>by
 unfold flG at e
 split at e
 ·exact e
 ·cases e
theorem arl {H:Hp}:FT (flG H) H:=fun a ks e=>by
 unfold flG
 rw [aE5 ⟨ks,e⟩];exact e
theorem ahu {H:Hp} {a:Addr} {o:HO} (e:flG H a=some o):∃ ks:List Key,o=.tup (ks.map kV):=by
 unfold flG at e
 split at e
 ·rename_i h
  obtain ⟨ks,h⟩:=h
  rw [h] at e
  exact ⟨ks,(aC5 e).symm⟩
 ·cases e
theorem aiy {f:VIo} {t:TA} (h0:∃ s,env[i]?=some (some s)) (h:EvA B t env fun ds T=>∃ s0 A,T[i]?=some (some s0)/\(s0=.own A\/s0=.io A)/\afj A/\(∀ d∈ds,∃ k:Int,d=.int k) /\
  f A (ds.map Sl.st) fun A' s=>A'=A/\∃ (x:Int) (ps:List (Int × Int)),s=.st (.tuple [.int x,.list (ps.map prD)])/\QO (.own (OW (.int x) (ps.map prD))) T):EvO B (acw (spI K f) [] E (abt (tVar i) t)) env QO:=fun σ G H F Q I k=>by
 unfold acw
 simp only [aE2]
 obtain ⟨s,e⟩:=h0
 obtain ⟨v0,hv,_⟩:=I.sl i _ e
 refine ⟨v0,hv,h σ G H F _ I fun vs S g M ds T w g1 r1 ⟨s0,A,Y,hs,hA,hd,q1⟩=>?_⟩
 obtain ⟨v',W,q⟩:=w.sl i _ Y
 rw [hv] at W;cases W
 have ap:A.P S g v0 (M i):=by
  rcases hs with rfl | rfl
  ·exact q.1
  ·exact q.1
 let inv:Nat->Option Nat:=fun j=>if j=i then some 0 else none
 have p:inv i=some 0:=aE5 rfl
 have r:∀ j,j ≠ i->inv j=none:=fun j h=>aE6 h
 have c:∀ j l,inv j=some l->j=i/\l=0:=fun j l h=>by
  by_cases hj:j=i
  ·subst hj;rw [p] at h;cases h;exact ⟨rfl,rfl⟩
  ·rw [r j hj] at h;cases h
 refine ⟨v0,vs,flG g,acd g M inv,A,_,M i,_,rfl,aht,arl,adf,hA _ _ _ _ _ w.gh arl ap,fun a z=>?_,fun a z=>afq p z,ArgsOk.of (ark hd r1),q1,fun A' s q v G' H' F' Fv o=>?_⟩
 ·cases e:flG g a with
  | none=>rfl
  | some u =>
   obtain ⟨ks,rfl⟩:=ahu e
   have:=w.ft a ks (aht _ _ e)
   rw [w.fg i a z] at this
   cases this
 obtain ⟨rfl,x,ps,rfl,q⟩:=q
 have rp:=o.ok.1
 cases rp with
 | @tup tt xs _ ht rt =>
  cases rt with
  | cons r1 r2 =>
   cases r1
   cases r2 with
   | cons r3 r4 =>
    cases r4
    cases r3 with
    | @lst l ws _ hl rl =>
     have tn:g tt=none:=by
      rcases o.gn _ _ ht with e | e
      ·obtain ⟨ks,e⟩:=ahu e
       exact absurd e ahr
      ·exact e
     have nl:g l=none:=by
      rcases o.gn _ _ hl with e | e
      ·obtain ⟨ks,e⟩:=ahu e
       cases e
      ·exact e
     let D:Hp:=fun a=>if a=tt\/a=l then none else if g a=none then G' a else S a
     have O:∀ a,(a=tt\/a=l)->D a=none:=fun a h=>aE5 h
     have R:∀ a,¬ (a=tt\/a=l)->g a=none->D a=G' a:=fun a h m=>by show (if _ then _ else _)=_;rw [aE6 h,aE5 m]
     have C:∀ a,¬ (a=tt\/a=l)->g a ≠ none->D a=S a:=fun a h m=>by show (if _ then _ else _)=_;rw [aE6 h,aE6 m]
     have old:∀ a,g a ≠ none->¬ (a=tt\/a=l):=fun a h z=>by
      rcases z with rfl | rfl
      ·exact h tn
      ·exact h nl
     have a0:Same D H':=fun a u e=>by
      by_cases h:a=tt\/a=l
      ·rw [O a h] at e;cases e
      ·by_cases m:g a=none
       ·rw [R a h m] at e;exact o.gh a u e
       ·rw [C a h m] at e
        refine o.rs a u ?_
        rw [aei fun i' j Z z=>?_]
        ·exact w.gh a u e
        ·rw [(c i' j Z).1] at z
         rw [w.fg i a z] at e;cases e
     have gg:Same S D:=fun a u e=>by
      have m:g a ≠ none:=by rw [w.gh a u e];simp
      rw [C a (old a m) m];exact e
     have gn:∀ a u,D a=some u->S a=some u\/g a=none:=fun a u e=>by
      by_cases m:g a=none
      ·exact .inr m
      ·rw [C a (old a m) m] at e;exact .inl e
     have N:FT D H':=fun a ks e=>by
      have e2:=o.ft a ks e
      have h:¬ (a=tt\/a=l):=fun z=>by
       rcases z with rfl | rfl
       ·rw [ht] at e2;exact absurd (aC5 e2) ahr
       ·rw [hl] at e2;cases e2
      by_cases m:g a=none
      ·rw [R a h m];exact e2
      ·rw [C a h m]
       rcases o.gn _ _ e2 with e3 | e3
       ·exact w.ft a ks (aht _ _ e3)
       ·exact absurd e3 m
     have a1:∀ a,F' a->D a=none:=fun a z=>by
      by_cases h:a=tt\/a=l
      ·exact O a h
      ·by_cases m:g a=none
       ·rw [R a h m];exact o.fg a z
       ·rw [C a h m]
        rcases o.fi a z with y | y
        ·exact w.fg i a y
        ·exact absurd y m
     have U:=hA _ _ _ _ _ o.gh N o.ap
     have J:VI ⟨K,S,g,acd g M inv,[some v0],fun j a=>j=0/\M i a⟩ D H' [some v0] [some (.io A')] (fun j a=>j=0/\F' a):=by
      refine ⟨a0,gg,gn,o.rs,adf,o.bh,fun j a z=>a1 a z.2,fun j a z=>?_,fun j l a y z=>by rw [y.1,z.1],fun j a z=>A'.dom U a z.2,fun j s e=>?_,rfl,N⟩
      ·rcases o.fi a z.2 with y | y
       ·exact afq p y
       ·cases e:acd g M inv a with
        | none=>exact e
        | some u=>rw [adf a u e] at y;cases y
      ·cases j with
       | zero =>
        simp at e
        subst e
        refine ⟨v0,rfl,?_,fun a z=>?_,rfl⟩
        ·have:(fun a=>0=0/\F' a)=F':=by funext a;simp
         rw [this];exact U
        ·rcases o.fi a z.2 with y | y
         ·exact .inl ⟨rfl,y⟩
         ·exact .inr y
       | succ j=>simp at e
     have L:=w.leave (inv:=inv) (env2:=T) (fun a b j ha hb=>by rw [(c a j ha).1,(c b j hb).1]) rfl rfl (fun a u e n=>by show acd g M inv a=_;rw [aei n];exact e)
      (fun a j ha x z=>by rw [(c a j ha).1];exact z.2) (fun a j ha=>by rw [(c a j ha).1,(c a j ha).2,hv];rfl) J (fun a j ha=>⟨A',by rw [(c a j ha).2];rfl⟩) rfl fun j s' e5=>by
       by_cases hj:j=i
       ·rw [hj,Y] at e5
        cases e5
        subst hj
        refine .inr ⟨0,A',A',p,rfl,?_⟩
        rcases hs with rfl | rfl
        ·exact .inl ⟨Y,rfl⟩
        ·exact .inr ⟨Y,rfl⟩
       ·exact .inl ⟨r j hj,e5⟩
     have nf:∀ a,(a=tt\/a=l)->¬ F' a:=fun a z y=>by
      have:=o.fg a y
      rcases z with rfl | rfl
      ·rw [ht] at this;cases this
      ·rw [hl] at this;cases this
     have X:RsX ⟨K,S,g,acd g M inv,[some v0],fun j a=>j=0/\M i a⟩ D H' (.ref tt) (fun a=>a=tt\/a=l) (.own (OW (.int x) (ps.map prD))) (fun j a=>j=0/\F' a) :=
      ⟨⟨tt,l,_,ws,rfl,o.gh _ _ ht,.int x,o.gh _ _ hl,aix o.gh N rl,fun b=>Iff.rfl⟩,fun a z=>by rcases z with rfl | rfl;exact tn;exact nl,O,fun a z=>by rcases z with rfl | rfl;exact ⟨_,o.gh _ _ ht⟩;exact ⟨_,o.gh _ _ hl⟩,fun j a z y=>nf a z y.2⟩
     exact k _ D H' _ _ _ T L (g1.trans gg) (X.leave (inv:=inv) w rfl) q
end
inductive RpF (G:Hp):List (Str × V)->List (Str × PyData)->Prop
 | nil:RpF G [] []
 | cons {x:Str} {u:V} {d:PyData} {us:List (Str × V)} {fs:List (Str × PyData)}:Rp G u d->RpF G us fs->RpF G ((x,u) :: us) ((x,d) :: fs)
def putP (x:Str) (d:PyData):List (Str × PyData)->List (Str × PyData)
 | []=>[(x,d)]
 | (y,e) :: fs=>if y=x then (y,d) :: fs else (y,e) :: putP x d fs
theorem RpF.same {G G':Hp} {us:List (Str × V)} {fs:List (Str × PyData)} (h:RpF G us fs) (g:Same G G'):RpF G' us fs:=by
 induction h with
 | nil=>exact .nil
 | cons r _ ih=>exact .cons (r.same g) ih
theorem RpF.get {G:Hp} {x:Str} {d:PyData} {us:List (Str × V)} {fs:List (Str × PyData)} (h:RpF G us fs) (e:fs.lookup x=some d):∃ u,us.lookup x=some u/\Rp G u d:=by
 induction h with
 | nil=>cases e
 | @cons y u d' us fs r _ ih =>
  rw [aF9] at e ⊢
  cases hx:x == y with
  | true=>rw [hx] at e;cases e;exact ⟨u,rfl,r⟩
  | false=>rw [hx] at e;exact ih e
theorem RpF.length {G:Hp} {us:List (Str × V)} {fs:List (Str × PyData)} (h:RpF G us fs):us.length=fs.length:=by
 induction h with
 | nil=>rfl
 | cons _ _ ih=>simp [ih]
theorem RpF.put {G:Hp} {x:Str} {u:V} {d:PyData} {us:List (Str × V)} {fs:List (Str × PyData)} (h:RpF G us fs) (r:Rp G u d):RpF G (L2.putF x u us) (putP x d fs):=by
 induction h with
 | nil=>exact .cons r .nil
 | @cons y u' d' us fs r' hh ih =>
  unfold L2.putF putP
  by_cases e:y=x
  ·rw [aE5 e,aE5 e];first | exact .cons r hh | (rw [e];exact .cons r hh)
  ·rw [aE6 e,aE6 e];exact .cons r' ih
section
variable {B:Bs} {env:En} {QO:Sl->En->Prop} {Q':PyData->En->Prop} {D':VEnds} {K:Frag} {C:Addr} {i:Nat} {fs:List (Str × PyData)} {x:Str} {tv:TE}
end
end VL
namespace L2
open PySem PySem.Spec
structure MeAt (K:Frag) (C:Addr) (m qn:Str) (st:Stmt) (ps:List Str) (f:Addr) (fd:FuncData):Prop where
 fn:Fun K m qn st f fd
 me:Meth K C m f
 bd:Binds K fd ps []
structure MeOk (P:Program) (w:World) (K:Frag) (mg:Str->Option Value) (base:Heap) (C:Addr) (m:Str) (k:Nat) (ps:List Str) (sp:Sp) (f:Addr) (fd:FuncData):Prop where
 me:Meth K C m f
 ok:FnOk P w K mg base CX0 k f fd ps sp
 bd:Binds K fd ps []
def CanM (P:Program) (w:World) (K:Frag) (mg:Str->Option Value) (base:Heap) (C:Addr) (m:Str) (k:Nat) (ps:List Str) (sp:Sp):Prop:=∃ f fd,MeOk P w K mg base C m k ps sp f fd
section
variable {X:Cx} {k j:Nat} {ps:List Str} {sp:Sp} {x m:Str} {p pos apos:Pos} {o e:Expr} {es:List Expr} {t:TA} {ta:TE} {C:Addr}
end
end L2
namespace VL
open PySem PySem.Spec L2
section
variable {B:Bs} {env:En} {QO:Sl->En->Prop} {Q':PyData->En->Prop} {D':VEnds} {K:Frag} {C:Addr} {i:Nat} {x:Str} {tv:TE}
end
abbrev VJ:=List Sl->(En->Sl->Prop)->Prop
def ioO:Option Sl->Option Sl
 | some (.io A)=>some (.io A)
 | _=>none
def cutE:Nat->En->En
 | 0,_=>[]
 | n+1,[]=>none :: cutE n []
 | n+1,x :: xs=>ioO x :: cutE n xs
theorem ae3:∀ (n:Nat) (e:En),(cutE n e).length=n
 | 0,_=>rfl
 | n+1,[]=>by unfold cutE;rw [aD8,ae3 n []]
 | n+1,_ :: xs=>by unfold cutE;rw [aD8,ae3 n xs]
theorem ahv:∀ {n:Nat} {e:En} {i:Nat} {s:Sl},(cutE n e)[i]?=some (some s)->∃ A,s=.io A/\e[i]?=some (some (.io A))
 | 0,_,_,_,h=>by simp [cutE] at h
 | n+1,[],0,_,h=>by simp [cutE] at h
 | n+1,[],i+1,_,h=>by
  unfold cutE at h
  rw [aH1] at h
  obtain ⟨A,_,a⟩:=ahv h
  simp at a
 | n+1,x :: xs,0,s,h=>by
  unfold cutE at h
  rw [List.getElem?_cons_zero] at h
  have h:=aC5 h
  match x,h with
  | some (.io A),h=>cases h;exact ⟨A,rfl,rfl⟩
  | some (.st _),h=>cases h
  | some (.own _),h=>cases h
  | some (.scr _),h=>cases h
  | none,h=>cases h
 | n+1,x :: xs,i+1,s,h=>by
  unfold cutE at h
  rw [aH1] at h
  rw [aH1]
  exact ahv h
def spJ (K:Frag) (f:VJ):Sp:=fun vs H Q _=>∃ (B:Bs) (ss:List Sl) (Q':En->Sl->Prop),B.K=K/\B.S=vs.map some/\VI B B.G H (vs.map some) (ss.map some) B.F/\f ss Q' /\
 ∀ e s,Q' e s->∀ v G' H' F' Fv,VI B G' H' (vs.map some) e F'->RsX B G' H' v Fv s F'->Q v H'
theorem ay8 {c:Prop} [Decidable c] {s:Sl} (e:(if c then some (none:Option Sl) else none)=some (some s)):False:=by
 split at e <;> cases e
theorem VI.pad {B:Bs} {G H:Hp} {σ:St} {env:En} {F:Nat->Addr->Prop} (I:VI B G H σ env F) (n:Nat):VI B G H (σ ++ List.replicate n none) (env ++ List.replicate n none) F :=
 ⟨I.gh,I.g0,I.gn,I.rs,I.rb,I.bh,I.fg,I.fr,I.fd,I.fo,fun i s e=>by
  by_cases h:i < env.length
  ·rw [aC2 h] at e
   obtain ⟨v,b,a⟩:=I.sl i s e
   exact ⟨v,by rw [aC2 (by rw [I.ln];exact h)];exact b,a⟩
  ·rw [aC7 (by omega),aG7] at e
   exact (ay8 e).elim,by rw [aB0,aB0,I.ln];simp,I.ft⟩
theorem VI.cut {B:Bs} {G H:Hp} {σ:St} {env:En} {F:Nat->Addr->Prop} (I:VI B G H σ env F):VI B G H B.S (cutE B.S.length env) (fun i a=>(∃ A,(cutE B.S.length env)[i]?=some (some (.io A)))/\F i a) :=
 ⟨I.gh,I.g0,I.gn,I.rs,I.rb,I.bh,fun i a z=>I.fg i a z.2,fun i a z=>I.fr i a z.2,fun i j a y z=>I.fd i j a y.2 z.2,fun i a z=>I.fo i a z.2,fun i s e=>by
  obtain ⟨A,rfl,h⟩:=ahv e
  obtain ⟨v,f,c,d,b⟩:=I.sl i _ h
  have:(fun a=>(∃ A,(cutE B.S.length env)[i]?=some (some (.io A)))/\F i a)=F i:=by
   funext a
   exact propext ⟨fun z=>z.2,fun z=>⟨⟨A,e⟩,z⟩⟩
  exact ⟨v,b,by rw [this];exact c,fun a z=>d a z.2,b⟩,(ae3 _ _).symm,I.ft⟩
theorem RsX.cut {B:Bs} {G H:Hp} {v:V} {Fv:Addr->Prop} {s:Sl} {F F2:Nat->Addr->Prop} (r:RsX B G H v Fv s F) (h:∀ i a,F2 i a->F i a):RsX B G H v Fv s F2:=⟨r.ok,r.fb,r.fg,r.fo,fun j a z y=>r.fd j a z (h j a y)⟩
theorem a0b {K:Frag} {f:VJ} {ts:TS} {N:List Str} {vs:List V} {H:Hp} {Q:VK} {E:XK} (h:spJ K f vs H Q E)
  (hb:∀ ss b,f ss b->∀ B,B.K=K->EvS B ts { nx:=fun e=>b (cutE ss.length e) (.st .none),rt:=fun s e=>b (cutE ss.length e) s } (ss.map some ++ List.replicate (N.length - ss.length) none)):ts { nx:=fun _ H'=>Q .non H',rt:=Q } (L2.start N vs) H:=by
 obtain ⟨B,ss,b,n,l,I,hf,m⟩:=h
 have j:vs.length=ss.length:=by have:=I.ln;simpa using this
 have d:B.S.length=ss.length:=by rw [l,aA3,j]
 have fin:∀ {σ G' H' F env v Fv s},VI B G' H' σ env F->RsX B G' H' v Fv s F->b (cutE ss.length env) s->Q v H':=fun {σ G' H' F env v Fv s} c r q=>by
  have J:=c.cut
  have X:=r.cut (F2:=fun i a=>(∃ A,(cutE B.S.length env)[i]?=some (some (.io A)))/\F i a) fun i a z=>z.2
  rw [d] at J X
  rw [l] at J
  exact m _ s q v G' H' _ Fv J X
 refine hb ss b hf B n (L2.start N vs) B.G H B.F _ ?_ ⟨fun σ G' H' F env c g q=>fin c (ade .non) q,fun σ G' H' F env v Fv s c g r q=>fin c r q,fun _ _ _ _ _ _ _ q=>q,fun _ _ _ _ _ _ _ q=>q⟩
 unfold L2.start
 rw [j]
 exact I.pad _
theorem lenJ {K:Frag} {f:VJ} {n:Nat} {vs:List V} {H:Hp} {Q:VK} {E:XK} (h:spJ K f vs H Q E) (hf:∀ ss a,f ss a->ss.length=n):vs.length=n:=by
 obtain ⟨B,ss,a,_,_,I,q,_⟩:=h
 have:=I.ln
 rw [aA3,aA3] at this
 rw [this];exact hf ss a q
inductive AJ where
 | pl (d:PyData)
 | rf (i:Nat)
def acm:List AJ->List Nat
 | []=>[]
 | .pl _ :: js=>acm js
 | .rf i :: js=>i :: acm js
def ArgJ (σ:St) (G:Hp):V->AJ->Prop
 | v,.pl d=>Rp G v d
 | v,.rf i => σ[i]?=some (some v)
inductive ArgsJ (σ:St) (G:Hp):List V->List AJ->Prop
 | nil:ArgsJ σ G [] []
 | cons {v:V} {j:AJ} {vs:List V} {js:List AJ}:ArgJ σ G v j->ArgsJ σ G vs js->ArgsJ σ G (v :: vs) (j :: js)
def EvJ (B:Bs) (ta:TA) (env:En) (Q':List AJ->En->Prop):Prop:=∀ (σ:St) (G H:Hp) (F:Nat->Addr->Prop) (Q:List V->Hp->Prop),VI B G H σ env F ->
 (∀ vs G' H' F' js env',VI B G' H' σ env' F'->Same G G'->ArgsJ σ G' vs js->Q' js env'->Q vs H')->ta σ H Q
inductive SlJ (e:En):List AJ->List Sl->Prop
 | nil:SlJ e [] []
 | pl {d:PyData} {js:List AJ} {ss:List Sl}:SlJ e js ss->SlJ e (.pl d :: js) (.st d :: ss)
 | rf {i:Nat} {A:Own} {js:List AJ} {ss:List Sl}:Has e i A->SlJ e js ss->SlJ e (.rf i :: js) (.io A :: ss)
inductive PutJ:En->List AJ->En->En->Prop
 | nil {e:En}:PutJ e [] [] e
 | pl {e r e2:En} {d:PyData} {x:Option Sl} {js:List AJ}:PutJ e js r e2->PutJ e (.pl d :: js) (x :: r) e2
 | rf {e r e2:En} {i:Nat} {s0:Sl} {A A':Own} {js:List AJ}:e[i]?=some (some s0)->(s0=.own A\/s0=.io A)->PutJ (e.set i (some (reS s0 A'))) js r e2->PutJ e (.rf i :: js) (some (.io A') :: r) e2
theorem adn:∀ {js:List AJ} {j i:Nat},js[j]?=some (.rf i)->i∈acm js
 | [],_,_,h=>by simp at h
 | .pl _ :: js,0,_,h=>by simp at h
 | .rf k :: js,0,_,h=>by simp at h;simp [acm,h]
 | .pl _ :: js,j+1,_,h=>by rw [aH1] at h;exact adn (js:=js) h
 | .rf k :: js,j+1,_,h=>by rw [aH1] at h;exact aB4 _ (adn h)
theorem ahw:∀ {js:List AJ} {i:Nat},i∈acm js->∃ j:Nat,js[j]?=some (AJ.rf i)
 | [],_,h=>by simp [acm] at h
 | .pl _ :: js,i,h=>by
  obtain ⟨j,hj⟩:=ahw (js:=js) h
  exact ⟨j+1,by rw [aH1];exact hj⟩
 | .rf k :: js,i,h=>by
  rcases aA8.mp h with rfl | h
  ·exact ⟨0,rfl⟩
  ·obtain ⟨j,hj⟩:=ahw (js:=js) h
   exact ⟨j+1,by rw [aH1];exact hj⟩
theorem agc:∀ {js:List AJ} {j a i:Nat},(acm js).Nodup->js[j]?=some (.rf i)->js[a]?=some (.rf i)->j=a
 | [],_,_,_,_,h,_=>by simp at h
 | x :: js,0,0,_,_,_,_=>rfl
 | .pl _ :: js,0,_+1,_,_,h,_=>by simp at h
 | .pl _ :: js,_+1,0,_,_,_,h=>by simp at h
 | .rf k :: js,0,a+1,i,n,h,h'=>by
  simp at h;subst h
  rw [aH1] at h'
  exact absurd (adn h') (aH5.mp n).1
 | .rf k :: js,j+1,0,i,n,h,h'=>by
  simp at h';subst h'
  rw [aH1] at h
  exact absurd (adn h) (aH5.mp n).1
 | .pl _ :: js,j+1,a+1,i,n,h,h'=>by
  rw [aH1] at h h'
  rw [agc (js:=js) n h h']
 | .rf k :: js,j+1,a+1,i,n,h,h'=>by
  rw [aH1] at h h'
  rw [agc (js:=js) (aH5.mp n).2 h h']
theorem PutJ.io {e r e2:En} {js:List AJ} (h:PutJ e js r e2):∀ {i j:Nat},js[j]?=some (.rf i)->∃ A',r[j]?=some (some (.io A')):=by
 induction h with
 | nil=>intro i j h;simp at h
 | pl _ ih =>
  intro i j h
  cases j with
  | zero=>simp at h
  | succ j=>rw [aH1] at h ⊢;exact ih h
 | rf _ _ _ ih =>
  intro i j h
  cases j with
  | zero=>exact ⟨_,rfl⟩
  | succ j=>rw [aH1] at h ⊢;exact ih h
theorem PutJ.length {e r e2:En} {js:List AJ} (h:PutJ e js r e2):e2.length=e.length:=by
 induction h with
 | nil=>rfl
 | pl _ ih=>exact ih
 | rf _ _ _ ih=>rw [ih,List.length_set]
theorem PutJ.at {e r e2:En} {js:List AJ} (h:PutJ e js r e2):(acm js).Nodup->∀ {i:Nat} {s:Sl},e2[i]?=some (some s)->(i ∉ acm js/\e[i]?=some (some s))\/∃ (j:Nat) (A A':Own),js[j]?=some (AJ.rf i)/\r[j]?=some (some (.io A'))/\((e[i]?=some (some (.own A))/\s=.own A')\/(e[i]?=some (some (.io A))/\s=.io A')):=by
 induction h with
 | nil=>intro _ i s h;exact .inl ⟨by simp [acm],h⟩
 | pl _ ih =>
  intro n i s h
  rcases ih n h with z | ⟨j,A,A',c,g,d⟩
  ·exact .inl z
  ·exact .inr ⟨j+1,A,A',by rw [aH1];exact c,by rw [aH1];exact g,d⟩
 | @rf e r e2 k s0 A A' js h0 hs _ ih =>
  intro n i s h
  have l:=aH5.mp n
  rcases ih l.2 h with ⟨m,b⟩ | ⟨j,o,f,c,g,d⟩
  ·rw [aD1] at b
   by_cases a:k=i
   ·subst a
    rw [aE5 rfl,aE5 (aA1.mp h0).1] at b
    cases b
    refine .inr ⟨0,A,A',rfl,rfl,?_⟩
    rcases hs with rfl | rfl
    ·exact .inl ⟨h0,rfl⟩
    ·exact .inr ⟨h0,rfl⟩
   ·rw [aE6 a] at b
    exact .inl ⟨fun z=>by
     rcases aA8.mp z with y | y
     ·exact a y.symm
     ·exact m y,b⟩
  ·have a:k ≠ i:=fun z=>l.1 (z ▸ adn c)
   rw [aD1,aE6 a] at d
   exact .inr ⟨j+1,o,f,by rw [aH1];exact c,by rw [aH1];exact g,d⟩
theorem SlJ.length {e:En} {js:List AJ} {ss:List Sl} (h:SlJ e js ss):ss.length=js.length:=by
 induction h with
 | nil=>rfl
 | pl _ ih=>simp [ih]
 | rf _ _ ih=>simp [ih]
theorem ArgsJ.length {σ:St} {G:Hp} {vs:List V} {js:List AJ} (h:ArgsJ σ G vs js):vs.length=js.length:=by
 induction h with
 | nil=>rfl
 | cons _ _ ih=>simp [ih]
theorem ArgsJ.get {σ:St} {G:Hp} {vs:List V} {js:List AJ} (h:ArgsJ σ G vs js):∀ {j:Nat} {x:AJ},js[j]?=some x->∃ v,vs[j]?=some v/\ArgJ σ G v x:=by
 induction h with
 | nil=>intro j x h;simp at h
 | cons q _ ih =>
  intro j x h
  cases j with
  | zero=>simp at h;subst h;exact ⟨_,rfl,q⟩
  | succ j=>rw [aH1] at h ⊢;exact ih h
theorem SlJ.get {e:En} {js:List AJ} {ss:List Sl} (h:SlJ e js ss):∀ {j:Nat} {s:Sl},ss[j]?=some s->(∃ d,js[j]?=some (AJ.pl d)/\s=.st d)\/∃ i A,js[j]?=some (AJ.rf i)/\s=.io A/\Has e i A:=by
 induction h with
 | nil=>intro j s h;simp at h
 | pl _ ih =>
  intro j s h
  cases j with
  | zero=>simp at h;exact .inl ⟨_,rfl,h.symm⟩
  | succ j=>rw [aH1] at h ⊢;exact ih h
 | rf q _ ih =>
  intro j s h
  cases j with
  | zero=>simp at h;exact .inr ⟨_,_,rfl,h.symm,q⟩
  | succ j=>rw [aH1] at h ⊢;exact ih h
section
variable {B:Bs} {env:En} {QO:Sl->En->Prop} {Q':PyData->En->Prop} {QJ:List AJ->En->Prop} {K:Frag} {E:XK} {t:TA} {te:TE} {i:Nat}
theorem agw (q:QJ [] env):EvJ B tNil env QJ:=fun σ G H F Q I k=>k [] G H F [] env I (Same.refl _) .nil q
theorem ArgsJ.same {σ:St} {G G':Hp} {vs:List V} {js:List AJ} (h:ArgsJ σ G vs js) (g:Same G G'):ArgsJ σ G' vs js:=by
 induction h with
 | nil=>exact .nil
 | @cons v j vs js q _ ih =>
  refine .cons ?_ ih
  cases j with
  | pl d=>exact (show Rp G v d from q).same g
  | rf i=>exact q
theorem afv (h:Ev B te env fun x b=>EvJ B t b fun xs e2=>QJ (.pl x :: xs) e2):EvJ B (abt te t) env QJ:=fun σ G H F Q I k =>
 h σ G H F _ I fun r d i c x b n f q l=>l σ d i c _ n fun vs g H2 F2 js e2 m a o p=>k _ g H2 F2 _ e2 m (f.trans a) (.cons (j:=.pl x) (q.same a) o) p
theorem agx {s:Sl} (d:env[i]?=some (some s)) (h:EvJ B t env fun xs e2=>QJ (.rf i :: xs) e2):EvJ B (abt (tVar i) t) env QJ:=fun σ G H F Q I k=>by
 obtain ⟨v,a,_⟩:=I.sl i _ d
 exact ⟨v,a,h σ G H F _ I fun vs b H2 F2 js e2 c f l g=>k _ b H2 F2 _ e2 c f (.cons (j:=.rf i) a l) g⟩
theorem ay9 {js:List AJ} (nd:(acm js).Nodup):∃ inv:Nat->Option Nat,(∀ i j,inv i=some j ↔ js[j]?=some (AJ.rf i))/\∀ i,inv i=none ↔ i ∉ acm js:=by
 have a:∀ i,∃ o:Option Nat,(∀ j,o=some j ↔ js[j]?=some (AJ.rf i))/\(o=none ↔ i ∉ acm js):=fun i=>by
  by_cases hh:i∈acm js
  ·obtain ⟨j,hj⟩:=ahw hh
   exact ⟨some j,fun k=>⟨fun z=>by cases z;exact hj,fun z=>congrArg some (agc nd hj z)⟩,⟨fun z=>(nomatch z),fun z=>absurd hh z⟩⟩
  ·exact ⟨none,fun k=>⟨fun z=>(nomatch z),fun z=>absurd (adn z) hh⟩,⟨fun _=>hh,fun _=>rfl⟩⟩
 exact ⟨fun i=>Classical.choose (a i),fun i j=>(Classical.choose_spec (a i)).1 j,fun i=>(Classical.choose_spec (a i)).2⟩
theorem aey {f:VJ} (W:B.K=K) (h:EvJ B t env fun js w=>∃ ss,SlJ w js ss/\(acm js).Nodup/\f ss fun e s=>∃ e2,PutJ w js e e2/\QO s e2):EvO B (acw (spJ K f) [] E t) env QO:=fun σ G H F Q I k=>by
 subst W
 unfold acw
 simp only [aE2]
 refine h σ G H F _ I fun vs P p m js w D T l ⟨ss,N,nd,hf⟩=>?_
 obtain ⟨inv,i1,R⟩:=ay9 nd
 have inj:∀ i c j,inv i=some j->inv c=some j->i=c:=fun i c j x y=>by
  have x:=(i1 i j).mp x
  have y:=(i1 c j).mp y
  rw [x] at y
  cases y
  rfl
 have J:=D.enter (inv:=inv) (σI:=vs.map some) (envI:=ss.map some) inj (by rw [aA3,aA3,l.length,N.length]) (fun j s e=>by
  rw [aA5] at e
  obtain ⟨Y,S,e2⟩:=Option.map_eq_some_iff.mp e
  cases e2
  rcases N.get S with ⟨d,b,rfl⟩ | ⟨i,A,b,rfl,C⟩
  ·obtain ⟨v,g,q⟩:=l.get b
   refine ⟨v,by rw [aA5,g];rfl,.inl ⟨d,rfl,q,fun i z=>?_⟩⟩
   rw [(i1 i j).mp z] at b
   cases b
  ·obtain ⟨v,g,q⟩:=l.get b
   exact ⟨v,by rw [aA5,g];rfl,.inr (.inr ⟨i,A,(i1 i j).mpr b,rfl,q,C⟩)⟩)
 refine ⟨⟨B.K,P,p,acd p m inv,vs.map some,fun j a=>∃ i,inv i=some j/\m i a⟩,ss,_,rfl,rfl,J,hf,fun e s ⟨e2,o,q⟩ v G' H' F' Fv M X=>?_⟩
 have L:=D.leave (inv:=inv) (env2:=e2) inj rfl rfl (fun a u e n=>by show acd p m inv a=_;rw [aei n];exact e) (fun i j hi a z=>by
   obtain ⟨c,r,z⟩:=z
   rw [inj i c j hi r]
   exact z) (fun i j hi=>by
   obtain ⟨v,g,q⟩:=l.get ((i1 i j).mp hi)
   show (vs.map some)[j]? = σ[i]?
   rw [aA5,g,q]
   rfl) M (fun i j hi=>o.io ((i1 i j).mp hi)) o.length (fun i Y e=>by
   rcases o.at nd e with ⟨U,Z⟩ | ⟨j,A,A',b,C,O⟩
   ·exact .inl ⟨(R i).mpr U,Z⟩
   ·exact .inr ⟨j,A,A',(i1 i j).mpr b,C,O⟩)
 exact k v G' H' _ Fv s _ L (T.trans M.g0) (X.leave (inv:=inv) D rfl) q
end
section
variable {B:Bs} {env:En} {QO:Sl->En->Prop} {i:Nat}
end
section
variable {B:Bs} {env:En} {Q':PyData->En->Prop} {i j l:Nat}
end
section
variable {B:Bs} {env:En} {QO:Sl->En->Prop} {Q':PyData->En->Prop} {K K1 K2:Frag} {i j l:Nat}
theorem arm {d:PyData} {ds:List PyData} {T:String} (E:adm T) (M:env[i]?=some (some (.own (OW d ds)))) (O:∀ x∈ds,isiD T x=true) {src:List (Option Nat)} (q:QO (.own (OL [])) env) :
  EvO B (tLC (none :: src) (aou K (tOp (ada K2) (tVar i) (tC (.int 1)))) (aas 0) (tNot (tB (tCB (rIsi K1) (abt (tVar 0) (abt (tC (V.ty T)) tNil))))) (tVar 0)) env QO:=fun σ G H F Q I k=>by
 obtain ⟨v,N,⟨t,l,u,vs,rfl,J,U,s,P,f⟩,hb⟩:=I.sl i _ M
 refine ⟨_,N,ahk J at1 ⟨l,rfl,⟨_,SqL.of s⟩,fun c b=>?_⟩⟩
 have w:l ≠ c:=aak s b
 have g:upd H c (.lst []) l=some (.lst vs):=by rw [aae w];exact s
 refine ⟨fun n m ys σI H'=>m=vs.length - n/\n<=vs.length/\0 < σI.length/\ys=[]/\H'=upd H c (.lst []),⟨vs.length,by simp,aF0 _,by simp [pick],rfl,rfl⟩,?_⟩
 rintro n m ys σI H2 ⟨rfl,hn,p,rfl,rfl⟩
 refine ⟨aah,?_⟩
 by_cases hlt:n < vs.length
 ·refine .inr ⟨⟨vs,_,SqL.of g,aA0 hlt⟩,fun j h H'=>0 < h.length/\j=[]/\H'=upd H c (.lst []),fun j h H' ⟨A,S,R⟩=>⟨vs.length - (n+1),by omega,rfl,hlt,A,S,R⟩,fun x H3 y=>?_⟩
  obtain ⟨e,y⟩:=y
  subst e
  have C:=y _ (SqL.of g)
  obtain ⟨dx,z,D⟩:=P.getV C
  have r:Rp (upd H c (.lst [])) x dx:=D.same fun a u e=>by rw [aae (aak (I.gh a u e) b)];exact I.gh a u e
  have L:(σI.set 0 (some x))[0]?=some (some x):=by rw [aD1,aE5 rfl,aE5 p]
  refine agm ?_
  refine ⟨_,L,x,T,_,_,rfl,aum r,aun E dx,_,rfl,?_⟩
  rw [O dx (aA2 z)]
  exact ⟨by rw [List.length_set];exact p,rfl,rfl⟩
 ·have e:n=vs.length:=by omega
  subst e
  refine .inl ⟨⟨_,SqL.of g,aA6 _⟩,?_⟩
  have o:=Out.newL I.gh b (Rps.nil (G:=G))
  exact k _ _ _ F _ _ env (I.out o).1 o.gg (I.out o).2 q
end
end VL
namespace G
open PySem L2 VL
def top (i:Nat):Stmt:=PySem.Challenge.pw_fewties_k15_best_few_ties.main.body.getD i (.Pass ⟨0,0,0,0⟩)
abbrev s_is_whole:Stmt:=top 6
abbrev s_is_between:Stmt:=top 7
abbrev s_need_number:Stmt:=top 8
abbrev s_is_place:Stmt:=top 9
abbrev s_tied_places:Stmt:=top 10
abbrev s_far_from:Stmt:=top 11
abbrev s_need_place:Stmt:=top 12
abbrev s_all_far:Stmt:=top 13
abbrev s_is_joined:Stmt:=top 14
abbrev s_need_joined:Stmt:=top 16
abbrev s_far_rows:Stmt:=top 17
abbrev s_most_far:Stmt:=top 18
abbrev s_free_ties:Stmt:=top 22
abbrev s_rows_with:Stmt:=top 23
abbrev s_row_with:Stmt:=top 24
abbrev s_best_few:Stmt:=top 25
abbrev s_one_tie_more:Stmt:=top 26
abbrev s_law_draws:Stmt:=top 28
abbrev s_law_web:Stmt:=top 29
abbrev s_law_copy:Stmt:=top 30
abbrev s_law_rows:Stmt:=top 31
abbrev s_law_free:Stmt:=top 33
abbrev s_law_with:Stmt:=top 34
abbrev s_law_few:Stmt:=top 35
abbrev s_law_best_few:Stmt:=top 36
abbrev s_law_thick:Stmt:=top 37
abbrev s_law:Stmt:=top 38
structure Txt (K:Frag) (mg:Str->Option Value):Prop where
 b_ValueError:mg "ValueError" = none
 b_max:mg "max" = none
 b_list:mg "list" = none
 b_range:mg "range" = none
 b_min:mg "min" = none
 b_enumerate:mg "enumerate" = none
 b_isinstance:mg "isinstance" = none
 b_int:mg "int" = none
 b_len:mg "len" = none
 b_abs:mg "abs" = none
 b_sorted:mg "sorted" = none
 b_bool:mg "bool" = none
 b_zip:mg "zip" = none
 b_tuple:mg "tuple" = none
 lam:LamAt K mg
 v_MOST_FEW:∃ t,mg "MOST_FEW" = some (.int 3 t)
 v_MOST_PLACES_FOR_FEW:∃ t,mg "MOST_PLACES_FOR_FEW" = some (.int 8 t)
 d_is_whole:∃ f fd,DefAt K mg "is_whole" s_is_whole ["thing"] f fd
 d_is_between:∃ f fd,DefAt K mg "is_between" s_is_between ["least","most","thing"] f fd
 d_need_number:∃ f fd,DefAt K mg "need_number" s_need_number ["least","most","thing"] f fd
 d_is_place:∃ f fd,DefAt K mg "is_place" s_is_place ["n","thing"] f fd
 d_tied_places:∃ f fd,DefAt K mg "tied_places" s_tied_places ["web"] f fd
 d_far_from:∃ f fd,DefAt K mg "far_from" s_far_from ["tied","start"] f fd
 d_need_place:∃ f fd,DefAt K mg "need_place" s_need_place ["web","thing"] f fd
 d_all_far:∃ f fd,DefAt K mg "all_far" s_all_far ["web","a"] f fd
 d_is_joined:∃ f fd,DefAt K mg "is_joined" s_is_joined ["web"] f fd
 d_need_joined:∃ f fd,DefAt K mg "need_joined" s_need_joined ["web"] f fd
 d_far_rows:∃ f fd,DefAt K mg "far_rows" s_far_rows ["web"] f fd
 d_most_far:∃ f fd,DefAt K mg "most_far" s_most_far ["rows"] f fd
 d_free_ties:∃ f fd,DefAt K mg "free_ties" s_free_ties ["web"] f fd
 d_rows_with:∃ f fd,DefAt K mg "rows_with" s_rows_with ["rows","tie"] f fd
 d_row_with:∃ f fd,DefAt K mg "row_with" s_row_with ["rows","row","tie"] f fd
 d_best_few:∃ f fd,DefAt K mg "best_few" s_best_few ["web","k"] f fd
 d_one_tie_more:∃ f fd,DefAt K mg "one_tie_more" s_one_tie_more ["level"] f fd
 d_law_draws:∃ f fd,DefAt K mg "_law_draws" s_law_draws ["script","many"] f fd
 d_law_web:∃ f fd,DefAt K mg "_law_web" s_law_web ["d","spot","most"] f fd
 d_law_copy:∃ f fd,DefAt K mg "_law_copy" s_law_copy ["web"] f fd
 d_law_rows:∃ f fd,DefAt K mg "_law_rows" s_law_rows ["web"] f fd
 d_law_free:∃ f fd,DefAt K mg "_law_free" s_law_free ["web"] f fd
 d_law_with:∃ f fd,DefAt K mg "_law_with" s_law_with ["rows","tie"] f fd
 d_law_few:∃ f fd,DefAt K mg "_law_few" s_law_few ["rows","free","many","chosen","best"] f fd
 d_law_best_few:∃ f fd,DefAt K mg "_law_best_few" s_law_best_few ["web","k"] f fd
 d_law_thick:∃ f fd,DefAt K mg "_law_thick" s_law_thick ["d","spot","n"] f fd
 d_law:∃ f fd,DefAt K mg "law" s_law ["script"] f fd
local macro_rules | `(tactic| row_cond sc) => `(tactic| exact ⟨rfl,rfl,rfl,by decide +kernel,rfl,by decide +kernel,by decide +kernel⟩)
local macro_rules | `(tactic| row_cond gn) => `(tactic| first | (with_reducible first | refine evg_n0 ?_ | refine ayl ?_ | refine aym ?_ | refine ayn ?_ | refine ayo ?_ | refine ayp ?_ | refine ayq ?_ | refine ayr ?_ | refine ays ?_ | refine ayt ?_ | refine av5 ?_ | refine av6 ?_ | refine av7 ?_ | refine av8 ?_ | refine av9 ?_ | refine awa ?_ | refine awb ?_ | refine awc ?_ | refine evg_n18 ?_ | refine evg_n19 ?_ | refine evg_n20 ?_ | refine evg_n21 ?_ | refine evg_n22 ?_ | refine evg_n23 ?_ | refine evg_n24 ?_ | refine evg_n25 ?_) | ((with_reducible refine aar ?_); dsimp only [List.set_cons_zero, List.set_cons_succ]))
local macro_rules | `(tactic| row_cond dc) => `(tactic| first | assumption | omega | (with_reducible rfl))
local macro_rules | `(tactic| row_cond ar) => `(tactic| first | assumption | (refine ⟨?_, ?_, ?_⟩ <;> decide) | (constructor <;> first | assumption | omega) | (show (0 : Int) < _; first | assumption | omega) | (left; constructor <;> first | assumption | omega) | (right; constructor <;> first | assumption | omega))
local macro_rules | `(tactic| row_cond hs) => `(tactic| first | exact Or.inl rfl | exact Or.inr rfl)
local macro_rules | `(tactic| row_cond fz) => `(tactic| first | exact adc | exact aqq | exact frz_OT | exact abv | exact afg | assumption)
local macro_rules | `(tactic| row_cond le) => `(tactic| first | exact Nat.le_of_ble_eq_true rfl | assumption | omega | (simp only [List.length_append, List.length_map, List.length_cons, List.length_nil, List.length_set, List.length_replicate]; omega))
local macro_rules | `(tactic| row_cond ia) => `(tactic| first | assumption | exact at0 | exact at1 | exact at2 | exact rfl)
local macro_rules | `(tactic| row_cond ty) => `(tactic| first | exact ayh | exact av3 | exact ata | exact av4 | exact ty_str | exact ty_dict)
local macro_rules | `(tactic| row_cond sEvS) => `(tactic| first | (with_reducible refine ass (fun c_ hc_ => ?_)) | (with_reducible first | refine avq ?_ | refine ax8 ?_ | refine aso ?_) | ((with_reducible refine' atb ?h0 ?_); (case h0 => exact rfl)) | (with_reducible first | refine an9 ?_ | refine avr ?_ | refine aeh ?_) | ((with_reducible refine' aph ?h0 ?_); (case h0 => exact rfl)) | ((with_reducible refine' api ?h0 ?_); (case h0 => exact rfl)) | ((with_reducible refine' avs ?h0 ?_); (case h0 => assumption)))
local macro_rules | `(tactic| row_cond sEvG) => `(tactic| first | row_cond gn | ((with_reducible refine' afd ?h0 ?_); (case h0 => exact rfl)) | ((with_reducible refine' as9 ?h0 ?_); (case h0 => row_cond hs)) | ((with_reducible refine' aog ?h0 ?_); (case h0 => exact rfl)) | (with_reducible refine evg_st ?_))
local macro_rules | `(tactic| row_cond sEvGs) => `(tactic| first | (with_reducible first | refine abh ?_ | refine adj ?_))
local macro_rules | `(tactic| row_cond sEv) => `(tactic| first | ((with_reducible refine' ax2 ?h0 ?_); (case h0 => exact rfl)) | (with_reducible refine ax3 ?_) | ((with_reducible refine' ayf ?h0 ?_); (case h0 => row_cond hs)) | ((with_reducible refine' ayd ?h0 ?_); (case h0 => row_cond hs)) | (with_reducible refine azs ?_) | ((with_reducible refine' ayg ?h0 ?_); (case h0 => row_cond ty)) | ((with_reducible refine' aye ?h0 ?h1 ?_); (case h0 => row_cond hs); (case h1 => row_cond fz)) | (with_reducible refine ast ?_) | ((with_reducible refine' avi ?h0 ?h1 ?_); (case h0 => exact rfl); (case h1 => row_cond fz); dsimp only [List.set_cons_zero, List.set_cons_succ]) | (with_reducible first | refine ax5 ?_ | refine ax6 ?_ | refine azr ?_ | refine ax4 ?_ | refine avn ?_ | refine avo ?_ | refine asn ?_ | refine ab8 (te:=tCB (ail _) _) ?_ | refine ab8 (te:=tCB (aij _) _) ?_ | refine auk ?_) | ((with_reducible refine' apa ?h0 ?_); (case h0 => row_cond hs)) | ((with_reducible refine' ang ?h0 ?h1 ?_); (case h0 => exact rfl); (case h1 => row_cond le); dsimp only [List.set_cons_zero, List.set_cons_succ]) | ((with_reducible refine' apb ?h0 ?_); (case h0 => row_cond hs)) | ((with_reducible refine' as8 ?h0 ?_); (case h0 => row_cond hs)) | ((with_reducible refine' anh ?h0 ?_); (case h0 => row_cond hs)) | ((with_reducible refine' ath ?h0 ?_); (case h0 => row_cond hs)) | (with_reducible refine ev_listR ?_) | ((with_reducible refine' azz ?h0 ?_); (case h0 => decide)) | ((with_reducible refine' aq9 ?h0 ?h1 ?_); (case h0 => exact rfl); (case h1 => assumption)) | (with_reducible first | refine as7 ?_))
local macro_rules | `(tactic| row_cond sEvO) => `(tactic| first | (with_reducible first | refine amh (r:=rCat) ?_ | refine amh (r:=rRep) ?_ | refine abl (te:=tOp _ _ _) ?_ | refine abl (te:=tVar _) ?_ | refine abl (te:=tC _) ?_ | refine an8 ?_) | (with_reducible refine an7 ?_) | ((with_reducible refine' aqt ?h0 ?h1 ?_); (case h0 => exact rfl); (case h1 => assumption)) | (with_reducible first | refine aj8 ?_ | refine awe ?_) | ((with_reducible refine' aqu ?h0 ?_); (case h0 => decide)) | (with_reducible first | refine awr ?_ | refine aws ?_) | ((with_reducible refine' ait ?h0 ?h1 ?_); (case h0 => exact rfl); (case h1 => assumption)) | (with_reducible first | refine aka ?_ | refine aq6 ?_ | refine aq4 ?_ | refine aqr (r:=aml _) ?_ | refine abl (te:=tIf _ _ _) ?_ | refine abl (te:=aoq _ _) ?_ | refine abl (te:=aor _) ?_ | refine abl (te:=alg _ _ _ _ _) ?_ | refine abl (te:=aoy _ _) ?_ | refine abl (te:=agl _ _) ?_ | refine abl (te:=alq _ _) ?_ | refine abl (te:=tCB (rLen _) _) ?_ | refine abl (te:=tCB (rIsi _) _) ?_ | refine abl (te:=tCB ak4 _) ?_ | refine abl (te:=tCB ak5 _) ?_ | refine abl (te:=tCB ak6 _) ?_ | refine abl (te:=tCB rAbs _) ?_ | refine abl (te:=tCB (agp _) _) ?_ | refine abl (te:=tBM _ _ _ _ _) ?_))
local macro_rules | `(tactic| row_cond sEvT) => `(tactic| first | (with_reducible first | refine aco ?_ | refine afp ?_ | refine avk ?_ | refine ax7 ?_ | refine avl ?_ | refine acj ?_) | (with_reducible refine avm ?_))
local macro_rules | `(tactic| row_cond sEvA) => `(tactic| first | (with_reducible first | refine asm ?_ | refine avj ?_))
local macro_rules | `(tactic| row_cond sEvI) => `(tactic| first | (with_reducible first | refine asq ?_ | refine asr ?_ | refine asp ?_ | refine atf ?_ | refine awj ?_) | ((with_reducible refine' ayy ?h0 ?_); (case h0 => exact rfl); dsimp only [List.set_cons_zero, List.set_cons_succ]) | (with_reducible refine evi_tup ?_))
local macro_rules | `(tactic| row_cond sEvOp) => `(tactic| first | (with_reducible first | refine as4 ?_ | refine as6 ?_))
local macro_rules | `(tactic| row_cond sOp2) => `(tactic| first | (with_reducible first | refine avu ?_ | refine avv ?_) | ((with_reducible refine' ayc ?h0 ?_); (case h0 => row_cond ar)) | (with_reducible first | refine avw ?_) | ((with_reducible refine' avx ?h0 ?_); (case h0 => row_cond ia)) | ((with_reducible refine' avy ?h0 ?_); (case h0 => row_cond ia)) | (with_reducible first | refine av0 ?_) | ((with_reducible refine' av1 ?h0 ?_); (case h0 => row_cond le)))
local macro_rules | `(tactic| row_cond sOp1) => `(tactic| first | (with_reducible refine op1_Ui ?_))
local macro_rules | `(tactic| row_cond sOpA) => `(tactic| first | (with_reducible first | refine asw ?_ | refine asx ?_ | refine asz ?_ | refine as0 ?_ | refine awk ?_ | refine atg ?_))
local macro_rules | `(tactic| row_cond sFQ) => `(tactic| first | (with_reducible first | refine agr ?_ | refine acq ?_ | refine auo ?_))
local macro_rules | `(tactic| row_cond sRngA1) => `(tactic| first | ((with_reducible refine' aya ?h0 ?h1 ?_); (case h0 => omega); (case h1 => omega)))
local macro_rules | `(tactic| row_cond sRngA2) => `(tactic| first | ((with_reducible refine' ayb ?h0 ?_); (case h0 => omega)))
local macro_rules | `(tactic| row_cond sRest) => `(tactic| first | (with_reducible first | refine x_bl ?_ | refine x_st ?_ | refine ax9 ?_ | refine azu ?_) | ((with_reducible refine' azw ?h0 ?h1 ?_); (case h0 => row_cond hs); (case h1 => row_cond ia)) | ((with_reducible refine' azx ?h0 ?h1 ?_); (case h0 => row_cond hs); (case h1 => row_cond fz)) | ((with_reducible refine' x_sc ?h0 ?_); (case h0 => exact rfl)) | ((with_reducible refine' azv ?h0 ?_); (case h0 => row_cond le)) | (with_reducible first | refine adb ?_ | refine aeg ?_ | refine acp ?_ | refine an5 ?_) | ((with_reducible refine' ajc ?h0 ?_); (case h0 => row_cond dc)) | ((with_reducible refine' ajd ?h0 ?_); (case h0 => row_cond dc)) | ((with_reducible refine' azy ?h0 ?_); (case h0 => first | exact rfl | row_cond hs)) | ((with_reducible refine' ayi ?h0 ?h1 ?_); (case h0 => exact rfl); (case h1 => row_cond le); dsimp only [List.set_cons_zero, List.set_cons_succ]) | ((with_reducible refine' apc ?h0 ?h1 ?_); (case h0 => exact rfl); (case h1 => first | exact ixN0 | exact ixN1 | exact ixN2 | assumption); dsimp only [List.set_cons_zero, List.set_cons_succ, reS]) | ((with_reducible refine' ayj ?h0 ?h1 ?_); (case h0 => exact rfl); (case h1 => first | exact ixN0 | exact ixN1 | exact ixN2 | assumption); dsimp only [List.set_cons_zero, List.set_cons_succ, reS]) | (with_reducible first | refine ayk ?_ | refine atc ?_) | ((with_reducible refine' x_dT ?h0 ?h1 ?_); (case h0 => exact rfl); (case h1 => row_cond le); dsimp only [List.set_cons_zero, List.set_cons_succ]) | ((with_reducible refine' x_dK ?h0 ?h1 ?_); (case h0 => exact rfl); (case h1 => row_cond le); dsimp only [List.set_cons_zero, List.set_cons_succ]) | ((with_reducible refine' x_dN ?h0 ?_); (case h0 => row_cond hs)) | ((with_reducible refine' x_dG ?h0 ?h1 ?_); (case h0 => row_cond hs); (case h1 => assumption)) | (with_reducible first | refine x_en ?_ | refine az1 ?_) | ((with_reducible refine' awl ?h0 ?h1 ?_); (case h0 => omega); (case h1 => omega)))
local macro_rules | `(tactic| row_cond st) => `(tactic| first | ((with_reducible refine az3 ?_); row_cond sEvS) | ((with_reducible refine az4 ?_); row_cond sEvG) | ((with_reducible refine ay0 ?_); row_cond sEvGs) | ((with_reducible refine g_Ev ?_); row_cond sEv) | ((with_reducible refine az5 ?_); row_cond sEvO) | ((with_reducible refine az6 ?_); row_cond sEvT) | ((with_reducible refine az7 ?_); row_cond sEvA) | ((with_reducible refine az8 ?_); row_cond sEvI) | ((with_reducible refine ay3 ?_); row_cond sEvOp) | ((with_reducible refine az9 ?_); row_cond sOp2) | ((with_reducible refine g_Op1 ?_); row_cond sOp1) | ((with_reducible refine a0a ?_); row_cond sOpA) | ((with_reducible refine g_FQ ?_); row_cond sFQ) | ((with_reducible refine awp ?_); row_cond sRngA1) | ((with_reducible refine awq ?_); row_cond sRngA2) | row_cond sRest)
local macro_rules | `(tactic| row_cond go) => `(tactic| repeat row_cond st)
local macro_rules | `(tactic| row_cond hnx) => `(tactic| first | assumption | (apply Ne.symm; assumption) | exact aak (by assumption) (by assumption) | exact (aak (by assumption) (by assumption)).symm)
local macro_rules | `(tactic| row_cond hhp) => `(tactic| first | assumption | exact aah | (rw [aae (by row_cond hnx)]; row_cond hhp) | ((refine' Same.at ?ss ?hh); (case ss => assumption); (case hh => row_cond hhp)))
local macro_rules | `(tactic| row_cond hix) => `(tactic| first | assumption | exact at0 | exact at1 | exact at2)
local macro_rules | `(tactic| row_cond hst) => `(tactic| first | (with_reducible first | refine go_seq ?_ | refine go_asg ?_ | refine agm ?_ | refine go_op ?_ | refine go_c ?_ | refine go_I0 ?_ | refine go_U ?_ | refine aqi ?_ | refine go_test ?_ | refine go_bl ?_ | refine go_ifS ?_ | refine go_and ?_ | refine go_ret ?_ | refine go_drop ?_ | refine go_next ?_ | refine go_cb ?_ | refine go_cons ?_ | refine aqh ?_ | refine go_call ?_ | refine anx ?_ | refine anz ?_ | refine an0 ?_ | refine go_gsub ?_ | refine go_lstW ?_ | refine go_bmL ?_ | refine go_for ?_ | refine go_lc ?_ | refine go_irng1 ?_ | refine alu ?_ | refine adb ?_ | refine aeg ?_) | ((with_reducible refine' go_var ?hv ?_); (case hv => exact rfl)) | ((with_reducible refine' afo ?ha ?hv ?_); (case ha => row_cond hhp); (case hv => row_cond hix)) | ((with_reducible refine go_I ?hc ?_); (case hc => row_cond ar)) | ((with_reducible refine' anw ?ha ?_); (case ha => row_cond hhp)) | ((with_reducible refine' anv ?ha ?hj ?_); (case ha => row_cond hhp); (case hj => first | exact ixN0 | exact ixN1 | exact ixN2)) | ((with_reducible refine' go_tyL ?ha ?_); (case ha => row_cond hhp)) | ((with_reducible refine' aes ?ha ?hl ?_); (case ha => row_cond hhp); (case hl => exact aeo (by simp; omega))) | ((with_reducible refine' ajc ?hc ?_); (case hc => row_cond dc)) | ((with_reducible refine' ajd ?hc ?_); (case hc => row_cond dc)) | dsimp only [List.set_cons_zero, List.set_cons_succ])
local macro_rules | `(tactic| row_cond hgo) => `(tactic| repeat row_cond hst)
def isInt:PyData->Bool
 | .int _=>true
 | _=>false
def btwD (a b:Int):PyData->Bool
 | .int i=>decide (a<=i/\i<=b)
 | _=>false
def aw0:VP:=fun ss Q=>∃ d,ss=[.st d]/\Q (.st (.bool (isInt d)))
def arn:VP:=fun ss Q=>∃ (a b:Int) (d:PyData),ss=[.st (.int a),.st (.int b),.st d]/\Q (.st (.bool (btwD a b d)))
def aw1:VP:=fun ss Q=>∃ (n:Int) (d:PyData),ss=[.st (.int n),.st d]/\Q (.st (.bool (btwD 0 (n - 1) d)))
section
variable {P:Program} {w:World} {K:Frag} {mg:Str->Option Value} {base:Heap}
theorem sc_is_whole:FnScope ["thing"] ["thing"] (aal s_is_whole):=by row_cond sc
theorem amo (T:Txt K mg):Can P w K mg base "is_whole" 1 ["thing"] (spP K (aw0)):=by
 obtain ⟨f,fd,D⟩:=T.d_is_whole
 refine D.can (D.fn.ok sc_is_whole (fun vs H Q E h=>lenP h fun ss c q=>by obtain ⟨d,rfl,k⟩:=q;rfl) (fun cdv A outer s H vs Q E j h=>?_))
 have nd:=sc_is_whole.nd
 refine ⟨_,(aag (aa2 (ah6 (aaw adi (by rfl) T.b_isinstance ab4 (aaa (pv 0) (aaa (ad3 (v:=.ty "int") rfl T.b_int alv rfl) aab))) (ale (axh (aaw adi (by rfl) T.b_isinstance ab4 (aaa (pv 0) (aaa (ad3 (v:=.ty "bool") rfl T.b_bool an1 rfl) aab)))))))),?_⟩
 refine abf h fun ss c q B g=>?_
 refine exS1 ss q fun d a=>?_
 have k:=a
 clear a q
 show EvS B _ _ [some (.st d)]
 row_cond go
 cases d with
 | int i => refine adb ?_; row_cond go; exact k
 | bool b => refine adb ?_; row_cond go; exact k
 | _=>refine aeg ?_;exact k
theorem sc_is_between:FnScope ["least","most","thing"] ["least","most","thing"] (aal s_is_between):=by row_cond sc
theorem afk (T:Txt K mg):Can P w K mg base "is_between" 2 ["least","most","thing"] (spP K (arn)):=by
 obtain ⟨f,fd,D⟩:=T.d_is_between
 refine D.can (D.fn.ok sc_is_between (fun vs H Q E h=>lenP h fun ss j q=>by obtain ⟨a,b,d,rfl,k⟩:=q;rfl) (fun cdv A outer s H vs Q E l h=>?_))
 have nd:=sc_is_between.nd
 refine ⟨_,(aag (aa2 (ah6 (aav (amo T) l (aaa (pv 2) aab)) (ale (ar2 aua aua (pv 0) (pv 2) (pv 1)))))),?_⟩
 refine abf h fun ss j q B m=>?_
 refine exS3 ss q fun a b d c=>?_
 have k:=c
 clear c q
 show EvS B _ _ [some (.st (.int a)),some (.st (.int b)),some (.st d)]
 row_cond go
 refine ⟨d,rfl,?_⟩
 row_cond go
 cases d with
 | int i =>
  refine adb ?_
  row_cond go
  refine ab2 (fun g=>?_) (fun g=>?_)
  ·row_cond go
   have e:decide (i<=b)=btwD a b (.int i):=by
    show _=decide (a<=i/\i<=b)
    rw [aG8];simp [g]
   rw [e];exact k
  ·have e:false=btwD a b (.int i):=by
    show _=decide (a<=i/\i<=b)
    exact (aD3 (fun z=>g z.1)).symm
   rw [e];exact k
 | _=>exact aeg k
theorem sc_is_place:FnScope ["n","thing"] ["n","thing"] (aal s_is_place):=by row_cond sc
theorem amp (T:Txt K mg):Can P w K mg base "is_place" 3 ["n","thing"] (spP K (aw1)):=by
 obtain ⟨f,fd,D⟩:=T.d_is_place
 refine D.can (D.fn.ok sc_is_place (fun vs H Q E h=>lenP h fun ss b q=>by obtain ⟨n,d,rfl,k⟩:=q;rfl) (fun cdv A outer s H vs Q E c h=>?_))
 have nd:=sc_is_place.nd
 refine ⟨_,(aag (aa2 (aav (afk T) c (aaa aac (aaa (aaf acu (pv 0) aac) (aaa (pv 1) aab)))))),?_⟩
 refine abf h fun ss b q B g=>?_
 refine exS2 ss q fun n d a=>?_
 have k:=a
 clear a q
 show EvS B _ _ [some (.st (.int n)),some (.st d)]
 row_cond go
 exact ⟨_,_,_,rfl,k⟩
def aza:VP:=fun ss Q=>∃ (n:Int) (es:List (Int × Int)),ss=[.st (webD n es)]/\0<=n/\n<=100/\InN n es/\es.length<=10000/\∀ tl,TiedL n (Tied es) tl->(∀ us∈tl,us.length<=20000)->Q (.own (OLL (tlD tl)))
theorem sc_tied_places:FnScope ["web","n","ties","tied","a","b"] ["web"] (aal s_tied_places):=by row_cond sc
theorem aez (T:Txt K mg):Can P w K mg base "tied_places" 1 ["web"] (spP K (aza)):=by
 obtain ⟨f,fd,D⟩:=T.d_tied_places
 refine D.can (D.fn.ok sc_tied_places (fun vs H Q E h=>lenP h fun ss O q=>by obtain ⟨n,es,rfl,M,L,p,I,k⟩:=q;rfl) (fun cdv A outer s H vs Q E W h=>?_))
 have nd:=sc_tied_places.nd
 refine ⟨_,(aad (act (pv 0) (ab6 rfl (aau (aai (i:=1) nd rfl (Or.inl rfl)) (aau (aai (i:=2) nd rfl (Or.inl rfl)) abp))))
  (aad (ahg (i:=3) nd rfl (Or.inl rfl) rfl (N:=["place"]) (src:=[none]) (by exact abn rfl rfl rfl rfl rfl rfl) (aa0 rfl T.b_range (aaa (pv 1) aab)) (fun _ _ _ _=>(aai (i:=0) (show List.Nodup (["place"]:List Str) by decide +kernel) rfl (Or.inl rfl) (hf:=Or.inr rfl))) (fun _ _ _ _=>abm) (fun _ _ _ _=>(aa3 aab)))
  (aad (aa9 aI5 rfl (abw (pv 2)) (ab6 rfl (aau (aai (i:=4) nd rfl (Or.inl rfl)) (aau (aai (i:=5) nd rfl (Or.inl rfl)) abp)))
   (aad (aaz (abx PySem.F.plainAttrs_list PySem.F.slot_list_append PySem.F.type_list_append aa1 (aao aap (pv 3) (pv 4) (fun _ _=>rfl)) (aaa (pv 5) aab)))
    (aag (aaz (abx PySem.F.plainAttrs_list PySem.F.slot_list_append PySem.F.type_list_append aa1 (aao aap (pv 3) (pv 5) (fun _ _=>rfl)) (aaa (pv 4) aab))))))
  (aag (aa2 (pv 3)))))),?_⟩
 refine abf h fun ss O q B U=>?_
 refine exS2 ss q fun n es c=>?_
 have M:=c.1
 have L:=c.2.1
 have p:=c.2.2.1
 have I:=c.2.2.2.1
 have k:=c.2.2.2.2
 clear c q
 show EvS B _ _ [some (.st (webD n es)),none,none,none,none,none]
 row_cond go
 rw [ab0]
 refine ⟨by omega,?_⟩
 row_cond go
 refine adk (fun i e=>∃ C J tl,e=[some (.st (webD n es)),some (.st (.int n)),some (.st (.list (es.map prD))),some (.own (OLL (tlD tl))),C,J]/\TiedL n (Tied (es.take i)) tl/\∀ d∈tl,d.length<=2 * i)
  ⟨none,none,List.replicate n.toNat [],by simp [tlD],⟨by simp;omega,fun i d hi w=>?_⟩,fun d S=>?_⟩ ?_ ?_
 ·rw [aG7] at hi
  split at hi
  ·cases hi;simp [Tied]
  ·cases hi
 ·have:=List.eq_of_mem_replicate S
  subst this;simp
 ·rintro i ⟨a,b⟩ e G m
  refine exS3 e m fun C J tl c=>?_
  have o:=c.1
  have l:=c.2
  clear c m
  have hi:i < es.length:=(aA1.mp G).1
  obtain ⟨a0,z,b0,x⟩:=p _ (aA2 G)
  dsimp only at a0 z b0 x
  row_cond go
  obtain ⟨d,g,_⟩:=o.get a0 z
  have R:=l d (aA2 g)
  refine adz (n:=a.toNat) (ds:=d.map .int) rfl rfl rfl (by rw [aA3];exact afh a0 (by rw [o.1];exact z)) (aea g) (by rw [aA3];omega) ?_
  dsimp only [List.set_cons_zero,List.set_cons_succ]
  have y:=o.put (q:=b) a0 z g
  rw [show d.map PyData.int ++ [.int b]=(d ++ [b]).map .int by simp,agu]
  have j:∀ us∈tl.set a.toNat (d ++ [b]),us.length<=2 * i+1:=fun us r=>by
   rcases List.mem_or_eq_of_mem_set r with h | h
   ·have:=l us h;omega
   ·subst h;simp;omega
  generalize tl.set a.toNat (d ++ [b])=tl2 at y j
  row_cond go
  obtain ⟨d,g,_⟩:=y.get b0 x
  have R:=j d (aA2 g)
  refine adz (n:=b.toNat) (ds:=d.map .int) rfl rfl rfl (by rw [aA3];exact afh b0 (by rw [y.1];exact x)) (aea g) (by rw [aA3];omega) ?_
  dsimp only [List.set_cons_zero,List.set_cons_succ]
  rw [show d.map PyData.int ++ [.int a]=(d ++ [a]).map .int by simp,agu]
  refine ⟨_,_,_,rfl,(y.put (q:=a) b0 x g).iff fun u v=>(Tied.snoc G u v).symm,fun us r=>?_⟩
  rcases List.mem_or_eq_of_mem_set r with h | h
  ·have:=j us h;omega
  ·subst h;simp;omega
 ·rintro e m
  refine exS3 e m fun C J tl c=>?_
  have o:=c.1
  have l:=c.2
  clear c m
  rw [aF8] at o
  row_cond go
  exact k tl o fun us r=>by have:=l us r;omega
end
@[reducible] def tlV (tl:List (List Int)):PyData:=.list ((tlD tl).map .list)
def a0c:VP:=fun ss Q=>∃ (n a:Int) (T:Int->Int->Prop) (tl:List (List Int)),ss=[.st (tlV tl),.st (.int a)]/\n<=100/\TiedL n T tl/\(∀ u v,T u v->0<=v/\v < n)/\0<=a/\a < n/\Q (.own (OL (lab n.toNat (Gr.farO T a))))
section
variable {P:Program} {w:World} {K:Frag} {mg:Str->Option Value} {base:Heap}
theorem sc_far_from:FnScope ["tied","start","far","edge","beyond","place","other"] ["tied","start"] (aal s_far_from):=by row_cond sc
theorem agd (T:Txt K mg):Can P w K mg base "far_from" 1 ["tied","start"] (spP K (a0c)):=by
 obtain ⟨f,fd,D⟩:=T.d_far_from
 refine D.can (D.fn.ok sc_far_from (fun vs H Q E h=>lenP h fun ss Q' q=>by obtain ⟨n,a,T,tl,rfl,n1,S,hT,a0,a1,k⟩:=q;rfl) (fun cdv A outer s H vs Q E hr h=>?_))
 have nd:=sc_far_from.nd
 refine ⟨_,(aad (aam (i:=2) nd rfl (Or.inl rfl) (aaf axr (aa3 (aaa alc aab)) (aaw ack (by rfl) T.b_len adq (aaa (pv 0) aab))))
  (aad (act aac (ah7 (pv 2) (pv 1) afm))
  (aad (aam (i:=3) nd rfl (Or.inl rfl) (aa3 (aaa (pv 1) aab)))
  (aad (aha aI5 (aqm (pv 3))
   (aad (aam (i:=4) nd rfl (Or.inl rfl) (aa3 aab))
    (aad (aa9 aI5 rfl (abw (pv 3)) (aai (i:=5) nd rfl (Or.inl rfl))
     (aag (aa9 aI5 rfl (abw (aao aap (pv 0) (pv 5) (fun _ _=>rfl))) (aai (i:=6) nd rfl (Or.inl rfl))
       (aag (ab5 (aa6 avf (aao aap (pv 2) (pv 6) (fun _ _=>rfl)) alc (aa7 _))
         (aad (act (aaf aaq (aao aap (pv 2) (pv 5) (fun _ _=>rfl)) aac) (ah7 (pv 2) (pv 6) afm))
          (aag (aaz (abx PySem.F.plainAttrs_list PySem.F.slot_list_append PySem.F.type_list_append aa1 (pv 4) (aaa (pv 6) aab)))))
         abo)))))
    (aag (aam (i:=3) nd rfl (Or.inl rfl) (pv 4))))))
  (aag (aa2 (pv 2))))))),?_⟩
 refine abf h fun ss Q' q B hK=>?_
 refine exS4 ss q fun n a T tl b=>?_
 have n1:=b.1
 have S:=b.2.1
 have hT:=b.2.2.1
 have a0:=b.2.2.2.1
 have a1:=b.2.2.2.2.1
 have k:=b.2.2.2.2.2
 clear b q
 show EvS B _ _ [some (.st (tlV tl)),some (.st (.int a)),none,none,none,none,none]
 have hl:tl.length=n.toNat:=by have:=S.1;omega
 row_cond go
 refine av2 (by first | omega | (simp;done) | (simp;omega)) (by first | omega | (simp;done) | (simp;omega)) (by first | omega | (simp;done) | (simp;omega)) ?_
 simp only [aA3,hl]
 rw [show ((n.toNat:Nat):Int).toNat=n.toNat by omega,awg]
 row_cond go
 refine apc (j:=a.toNat) rfl (by rw [acr];exact afh a0 (by omega)) ?_
 dsimp only [List.set_cons_zero,List.set_cons_succ,reS]
 rw [show (PyData.int 0)=.int ((0:Nat):Int) from rfl,aoc a0 (by omega)]
 row_cond go
 refine ad8 3 rfl adc ?_
 dsimp only [List.set_cons_zero,List.set_cons_succ]
 refine af9 (fun m e=>∃ v4 M y far edge r,e=[some (.st (tlV tl)),some (.st (.int a)),some (.own (OL (lab n.toNat far))),some (.st (.list (edge.map .int))),v4,M,y]/\Gr.Ring T a r far edge/\(∀ v∈edge,0<=v/\v < n)/\m=2 * cnt far n.toNat+(if edge=[] then 0 else 1))
  ⟨_,none,none,none,_,[a],0,rfl,Gr.Ring.start,fun v N=>by simp at N;subst N;exact ⟨a0,a1⟩,rfl⟩ ?_
 rintro m e l
 refine exS6 e l fun v4 M y far edge r b=>?_
 have R:=b.1
 have hb:=b.2.1
 have X:=b.2.2
 clear b l
 subst X
 row_cond go
 rw [anf]
 cases hedge:edge with
 | nil =>
  subst hedge
  refine aeg ?_
  row_cond go
  rw [aqx (g:=Gr.farO T a) fun v _ _=>R.fin v]
  exact k
 | cons e0 er =>
  refine adb ?_
  rw [← hedge]
  have Z:edge ≠ []:=by rw [hedge];simp
  row_cond go
  refine adk (fun i e=>∃ M y c beyond,e=[some (.st (tlV tl)),some (.st (.int a)),some (.own (OL (lab n.toNat c))),some (.st (.list (edge.map .int))),some (.own (OL (beyond.map .int))),M,y]/\Gr.Mid T r far edge (fun u=>u∈edge.take i) c beyond/\cnt c n.toNat+beyond.length=cnt far n.toNat/\∀ v∈beyond,0<=v/\v < n)
   ⟨M,y,far,[],rfl,Gr.Mid.start.imp fun u L=>by simp at L,rfl,fun v N=>by simp at N⟩ ?_ ?_
  ·rintro i p e hp l
   refine exS4 e l fun M y c beyond b=>?_
   have C:=b.1
   have G:=b.2.1
   have o:=b.2.2
   clear b l
   have J:=aA2 hp
   obtain ⟨p0,p1⟩:=hb p J
   obtain ⟨ws,U,hw⟩:=S.get p0 p1
   have a6:atI ((tlD tl).map PyData.list) p=some (.list (ws.map .int)):=aga (f:=PyData.list) (aiq p0 (aea U))
   row_cond go
   have a2:far p=some r:=(R.lab p r).mpr ⟨(R.edg p).mp J,aA6 _⟩
   refine adk (fun j e=>∃ y c beyond,e=[some (.st (tlV tl)),some (.st (.int a)),some (.own (OL (lab n.toNat c))),some (.st (.list (edge.map .int))),some (.own (OL (beyond.map .int))),some (.st (.int p)),y]/\Gr.Mid T r far edge (fun u=>u∈edge.take i) c beyond/\cnt c n.toNat+beyond.length=cnt far n.toNat/\(∀ v∈beyond,0<=v/\v < n)/\∀ x∈ws.take j,c x ≠ none)
    ⟨y,c,beyond,rfl,C,G,o,fun x I=>by simp at I⟩ ?_ ?_
   ·rintro j u e L l
    refine exS3 e l fun y c beyond b=>?_
    have C:=b.1
    have G:=b.2.1
    have o:=b.2.2.1
    have z:=b.2.2.2
    clear b l
    have tu:T p u:=(hw u).mp (aA2 L)
    obtain ⟨O,u1⟩:=hT _ _ tu
    have a3:atI (lab n.toNat c) u=some (oD (c u)):=aqw O (by omega)
    have a5:atI (lab n.toNat c) p=some (.int (r:Int)):=by
     rw [aqw p0 (by omega),C.old p r a2];rfl
    row_cond go
    rw [awf]
    cases hf:c u with
    | none =>
     refine adb ?_
     row_cond go
     refine apc (j:=u.toNat) rfl (by rw [acr];exact afh O (by omega)) ?_
     dsimp only [List.set_cons_zero,List.set_cons_succ,reS]
     rw [show (PyData.int ((r:Int)+1))=.int ((r+1:Nat):Int) by simp,aoc O (by omega)]
     have a4:=akb (d:=r+1) O hf (n:=n.toNat) (by omega)
     have Y:beyond.length<=cnt far n.toNat:=by omega
     have W:∀ m,cnt far m<=m:=fun m=>by
      induction m with
      | zero=>exact aA6 _
      | succ m ih=>unfold cnt;split <;> omega
     have:=W n.toNat
     row_cond go
     refine ⟨some (.st (.int u)),Gr.label c u (r+1),beyond ++ [u],by simp,C.add J tu hf,by simp;omega,fun v N=>?_,fun x I=>?_⟩
     ·rcases aA7.mp N with h | h
      ·exact o v h
      ·have:v=u:=by simpa using h
       subst this;exact ⟨O,u1⟩
     ·by_cases hx2:x=u
      ·subst hx2;rw [Gr.label_same];simp
      ·rw [Gr.label_ne hx2]
       rcases adv L I with h | h
       ·exact z x h
       ·exact absurd h hx2
    | some d =>
     refine aeg ?_
     row_cond go
     refine ⟨_,c,beyond,rfl,C,G,o,fun x I=>?_⟩
     rcases adv L I with h | h
     ·exact z x h
     ·subst h;rw [hf];simp
   ·rintro e l
    refine exS3 e l fun y c beyond b=>?_
    have C:=b.1
    have G:=b.2.1
    have o:=b.2.2.1
    have z:=b.2.2.2
    clear b l
    rw [aF8] at z
    refine ⟨_,_,c,beyond,rfl,?_,G,o⟩
    refine (C.did (u:=p) fun x tx=>z x ((hw x).mpr tx)).imp fun x I=>?_
    exact adv hp I
  ·rintro e l
   refine exS4 e l fun M y c beyond b=>?_
   have C:=b.1
   have G:=b.2.1
   have o:=b.2.2
   clear b l
   row_cond go
   refine ⟨_,?_,_,_,_,c,beyond,r+1,rfl,R.next C fun u L=>by rw [aF8];exact L,o,rfl⟩
   rw [aE6 Z]
   cases beyond with
   | nil=>rw [aE5 rfl];simp at G;omega
   | cons b0 br=>rw [aE6 (by simp)];simp at G;omega
end
def ani:VP:=fun ss Q=>∃ (n a:Int) (es:List (Int × Int)),ss=[.st (webD n es),.st (.int a)]/\0<=a/\a < n/\Q (.st .none)
def atu:VP:=fun ss Q=>∃ (n a:Int) (es:List (Int × Int)),ss=[.st (webD n es),.st (.int a)]/\n<=100/\InN n es/\es.length<=10000/\0<=a/\a < n/\Q (.own (OL (lab n.toNat (Gr.farO (Tied es) a))))
def atv:VP:=fun ss Q=>∃ (n:Int) (es:List (Int × Int)),ss=[.st (webD n es)]/\1<=n/\n<=100/\InN n es/\es.length<=10000/\∀ b:Bool,(b=true ↔ Joined n es)->Q (.st (.bool b))
section
variable {P:Program} {w:World} {K:Frag} {mg:Str->Option Value} {base:Heap}
theorem sc_need_place:FnScope ["web","thing"] ["web","thing"] (aal s_need_place):=by row_cond sc
theorem ajs (T:Txt K mg):Can P w K mg base "need_place" 4 ["web","thing"] (spP K (ani)):=by
 obtain ⟨f,fd,D⟩:=T.d_need_place
 refine D.can (D.fn.ok sc_need_place (fun vs H Q E h=>lenP h fun ss c q=>by obtain ⟨n,a,es,rfl,a0,g,k⟩:=q;rfl) (fun cdv A outer s H vs Q E d h=>?_))
 have nd:=sc_need_place.nd
 refine ⟨_,(aag (ab5 (ae5 (aec (aav (amp T) d (aaa (aao aap (pv 0) aac (fun _ _=>rfl)) (aaa (pv 1) aab)))))
   (aag ag9)
   abo)),?_⟩
 refine abf h fun ss c q B i=>?_
 refine exS3 ss q fun n a es b=>?_
 have a0:=b.1
 have g:=b.2.1
 have k:=b.2.2
 clear b q
 show EvS B _ _ [some (.st (webD n es)),some (.st (.int a))]
 row_cond go
 refine ⟨_,_,rfl,?_⟩
 row_cond go
 have e:btwD 0 (n - 1) (.int a)=true:=aD4 ⟨a0,by omega⟩
 rw [e]
 row_cond go
 exact k
theorem sc_all_far:FnScope ["web","a"] ["web","a"] (aal s_all_far):=by row_cond sc
theorem anj (T:Txt K mg):Can P w K mg base "all_far" 5 ["web","a"] (spP K (atu)):=by
 obtain ⟨f,fd,D⟩:=T.d_all_far
 refine D.can (D.fn.ok sc_all_far (fun vs H Q E h=>lenP h fun ss m q=>by obtain ⟨n,a,es,rfl,g,c,d,a0,j,k⟩:=q;rfl) (fun cdv A outer s H vs Q E i h=>?_))
 have nd:=sc_all_far.nd
 refine ⟨_,(aad (aaz (aav (ajs T) i (aaa (pv 0) (aaa (pv 1) aab))))
  (aag (aa2 (aav (agd T) i (aaa (aav (aez T) i (aaa (pv 0) aab)) (aaa (pv 1) aab)))))),?_⟩
 refine abf h fun ss m q B o=>?_
 refine exS3 ss q fun n a es b=>?_
 have g:=b.1
 have c:=b.2.1
 have d:=b.2.2.1
 have a0:=b.2.2.2.1
 have j:=b.2.2.2.2.1
 have k:=b.2.2.2.2.2
 clear b q
 show EvS B _ _ [some (.st (webD n es)),some (.st (.int a))]
 row_cond go
 refine ⟨n,a,es,rfl,a0,j,?_⟩
 row_cond go
 refine ⟨n,es,rfl,by omega,g,c,d,fun tl l _=>?_⟩
 refine ayu ?_
 row_cond go
 exact ⟨n,a,Tied es,tl,rfl,g,l,fun u v h=>(h.in c).2,a0,j,k⟩
theorem sc_is_joined:FnScope ["web"] ["web"] (aal s_is_joined):=by row_cond sc
theorem aky (T:Txt K mg):Can P w K mg base "is_joined" 6 ["web"] (spP K (atv)):=by
 obtain ⟨f,fd,D⟩:=T.d_is_joined
 refine D.can (D.fn.ok sc_is_joined (fun vs H Q E h=>lenP h fun ss m q=>by obtain ⟨n,es,rfl,j,g,c,b,k⟩:=q;rfl) (fun cdv A outer s H vs Q E i h=>?_))
 have nd:=sc_is_joined.nd
 refine ⟨_,(aag (aa2 (ad4 (af7 i.units) alc (aav (anj T) i (aaa (pv 0) (aaa aac aab))) rfl))),?_⟩
 refine abf h fun ss m q B o=>?_
 refine exS2 ss q fun n es a=>?_
 have j:=a.1
 have g:=a.2.1
 have c:=a.2.2.1
 have b:=a.2.2.2.1
 have k:=a.2.2.2.2
 clear a q
 show EvS B _ _ [some (.st (webD n es))]
 row_cond go
 refine ⟨n,0,es,rfl,g,c,b,by omega,by omega,?_⟩
 row_cond go
 refine ajp rfl aqy (by simp [PyData.depth]) ?_
 row_cond go
 refine k _ ?_
 rw [aE5 rfl,Bool.not_eq_true',← Bool.not_eq_true,awh]
 constructor
 ·intro h v v0 l
  cases e:Gr.farO (Tied es) 0 v with
  | some d=>exact ⟨d,Gr.farO_some.mp e⟩
  | none=>exact absurd ⟨v,v0,by omega,e⟩ h
 ·rintro h ⟨v,v0,l,e⟩
  obtain ⟨d,hd⟩:=h v v0 (by omega)
  exact Gr.farO_none.mp e d hd
end
def dsF (es:List (Int × Int)) (u v:Int):Int:=(((Gr.farO (Tied es) u v).getD 0:Nat):Int)
def rowD (n:Nat) (r:Int->Int):List PyData:=(List.range n).map fun (i:Nat) => .int (r (i:Int))
def matD (n:Nat) (m:Int->Int->Int):List PyData:=(List.range n).map fun (u:Nat) => .list (rowD n (m (u:Int)))
theorem aek {n:Nat} {r:Int->Int} {x:Int} (a:0<=x) (b:x < n):atI (rowD n r) x=some (.int (r x)):=by
 have:=ad5 (xs:=rowD n r) (j:=x.toNat) (v:=.int (r x)) (by
  unfold rowD
  rw [aA5,aA0 (by simp;omega)]
  simp [Int.max_eq_left a])
 rwa [show ((x.toNat:Nat):Int)=x by omega] at this
theorem aiz {n:Nat} {m:Int->Int->Int} {x:Int} (a:0<=x) (b:x < n):atI (matD n m) x=some (.list (rowD n (m x))):=by
 have:=ad5 (xs:=matD n m) (j:=x.toNat) (v:=.list (rowD n (m x))) (by
  unfold matD
  rw [aA5,aA0 (by simp;omega)]
  simp [Int.max_eq_left a])
 rwa [show ((x.toNat:Nat):Int)=x by omega] at this
theorem aom {n:Nat} {r:Int->Int}:(rowD n r).length=n:=by simp [rowD]
theorem ahx {n:Nat} {r:Int->Int}:rowD n r=((List.range n).map fun (i:Nat)=>r (i:Int)).map .int:=by simp [rowD]
theorem ad1 {n:Int} {es:List (Int × Int)} (a:Joined n es) {u v:Int} (c:0<=u) (f:u < n) (v0:0<=v) (b:v < n):∃ d,Gr.farO (Tied es) u v=some d:=by
 cases e:Gr.farO (Tied es) u v with
 | some d=>exact ⟨d,rfl⟩
 | none =>
  obtain ⟨k,g⟩:=a.conn u v c f v0 b
  obtain ⟨d,_,hd⟩:=Gr.Dist.of_walk g
  exact absurd hd (Gr.farO_none.mp e d)
theorem aw2 {n:Int} {es:List (Int × Int)} (a:Joined n es) {u:Int} (b:0<=u) (c:u < n):lab n.toNat (Gr.farO (Tied es) u)=rowD n.toNat (dsF es u):=by
 unfold lab rowD
 refine aE1 fun i hi=>?_
 obtain ⟨d,e⟩:=ad1 a b c (show 0<=(i:Int) by omega) (by have:=aB8.mp hi;omega)
 simp only [dsF,e,oD,Option.getD_some]
theorem ael {α:Type} {K:Frag} {src:List (Option Nat)} {a:En} {te:TE} {R:List PyData->En->Prop} {xs:List α} {f : α->PyData} (g : α->PyData) (m:noIo (aaj src a)=true) (z:xs.length<=999999)
  (h:∀ x∈xs,∀ c:Bs,c.K=K->Ev c te (some (.st (f x)) :: aaj src a) fun y j=>y=g x/\j=some (.st (f x)) :: aaj src a)
  (w:R (xs.map g) a):LcV K (none :: src) (aas 0) tYes te (xs.map f) a R:=by
 have b:noIo (aaj (none :: src) a)=true:=by
  show ((none :: aaj src a).all fun s => !isIo s)=true
  rw [List.all_cons]
  exact (aG1 _ _).mpr ⟨rfl,m⟩
 refine ⟨fun i ys e=>ys=(xs.take i).map g/\∃ o,e=stO o :: aaj src a,⟨by simp,none,rfl⟩,?_,?_,?_⟩
 ·rintro i ys e ⟨_,o,rfl⟩
  exact ⟨⟨isIo_stO.symm,ab9⟩,acz acv⟩
 ·rintro i d ys e hd ⟨rfl,o,rfl⟩ c u
  rw [aA5] at hd
  cases hx:xs[i]? with
  | none=>rw [hx] at hd;cases hd
  | some x =>
   rw [hx] at hd
   cases hd
   have hi:i < xs.length:=(aA1.mp hx).1
   have p:xs.take (i+1)=xs.take i ++ [x]:=by rw [aG4,hx];rfl
   refine aar (acj ?_)
   rw [aE5 rfl]
   intro σ G H F Q I k
   refine h x (aA2 hx) c u σ G H F Q I fun v G' H' F' d' j q g' r ⟨n,l⟩=>k v G' H' F' d' j q g' r ?_
   subst n l
   refine ⟨by simp;omega,by rw [p];simp,some _,rfl⟩
 ·rintro ys e ⟨rfl,o,rfl⟩
  rw [aff b]
  simpa using w
theorem ahy {ns:List Int} {x y:Int} (h:ady ns x) (g:ady ns y):x=y:=Int.le_antisymm (g.2 x h.1) (h.2 y g.1)
theorem agy:∀ {ns:List Int},ns ≠ []->∃ x,ady ns x
 | [a],_=>⟨a,by simp [ady]⟩
 | a :: b :: r,_=>by
  obtain ⟨x,d,hm⟩:=agy (ns:=b :: r) (by simp)
  by_cases h:a<=x
  ·exact ⟨x,aB4 _ d,fun y c=>by
    rcases aA8.mp c with rfl | c
    ·exact h
    ·exact hm y c⟩
  ·exact ⟨a,aB7,fun y c=>by
    rcases aA8.mp c with rfl | c
    ·exact Int.le_refl _
    ·have:=hm y c;omega⟩
theorem agz {n:Nat} (b:1<=n) (m:Int->Int->Int):∃ a:Nat->Int,∀ u:Nat,ady ((List.range n).map fun (i:Nat)=>m (u:Int) (i:Int)) (a u) :=
 ⟨fun u=>Classical.choose (agy (ns:=(List.range n).map fun (i:Nat)=>m (u:Int) (i:Int)) (by simp;omega)),fun u=>Classical.choose_spec (agy (ns:=(List.range n).map fun (i:Nat)=>m (u:Int) (i:Int)) (by simp;omega))⟩
theorem amq {n:Nat} {r q:Int->Int}:zipD (rowD n r) (rowD n q)=(List.range n).map fun (i:Nat) => .tuple [.int (r (i:Int)),.int (q (i:Int))]:=by
 unfold zipD rowD
 rw [List.zip_map',aD5]
 rfl
def amr:VP:=fun ss Q=>∃ (n:Int) (es:List (Int × Int)),ss=[.st (webD n es)]/\1<=n/\n<=100/\InN n es/\es.length<=10000/\Joined n es/\Q (.st .none)
def matL (n:Nat) (m:Int->Int->Int):List (List PyData):=(List.range n).map fun (u:Nat)=>rowD n (m (u:Int))
theorem azb (n:Nat) (m:Int->Int->Int):(matL n m).map PyData.list=matD n m:=by unfold matL matD;rw [aD5];rfl
def apn:VP:=fun ss Q=>∃ (n:Int) (es:List (Int × Int)),ss=[.st (webD n es)]/\1<=n/\n<=100/\InN n es/\es.length<=10000/\Joined n es/\Q (.own (OLL (matL n.toNat (dsF es))))
def aro:VP:=fun ss Q=>∃ (n:Int) (es:List (Int × Int)),ss=[.st (webD n es)]/\1<=n/\n<=100/\InN n es/\es.length<=10000/\Joined n es/\Q (.own (OL (matD n.toNat (dsF es))))
def ag0 (n:Nat) (m:Int->Int->Int) (x:Int):Prop:=(∃ u v:Int,0<=u/\u < n/\0<=v/\v < n/\m u v=x)/\∀ u v:Int,0<=u->u < n->0<=v->v < n->m u v<=x
def arp:VP:=fun ss Q=>∃ (n:Nat) (m:Int->Int->Int),ss=[.st (.list (matD n m))]/\1<=n/\n<=1000/\∀ x,ag0 n m x->Q (.st (.int x))
def rwF (m:Int->Int->Int) (r:Int->Int) (a b x:Int):Int:=if r a < r b then (if r a+1+m b x < r x then r a+1+m b x else r x) else (if r b+1+m a x < r x then r b+1+m a x else r x)
def arq:VP:=fun ss Q=>∃ (n:Nat) (m:Int->Int->Int) (r:Int->Int) (a b:Int),ss=[.st (.list (matD n m)),.st (.list (rowD n r)),.st (prD (a,b))]/\n<=1000/\0<=a/\a < n/\0<=b/\b < n/\Q (.own (OL (rowD n (rwF m r a b))))
def apo:VP:=fun ss Q=>∃ (n:Nat) (m:Int->Int->Int) (a b:Int),ss=[.st (.list (matD n m)),.st (prD (a,b))]/\n<=1000/\0<=a/\a < n/\0<=b/\b < n/\Q (.own (OL (matD n fun u=>rwF m (m u) a b)))
structure FreeAll (n:Int) (es fs:List (Int × Int)):Prop where
 mem:∀ p:Int × Int,p∈fs ↔ (0<=p.1/\p.1 < p.2/\p.2 < n/\p ∉ es)
 rise:Rise fs
theorem FreeAll.eq {n:Int} {es fs a:List (Int × Int)} (h:FreeAll n es fs) (g:FreeAll n es a):fs=a:=h.rise.eq g.rise fun p=>by rw [h.mem,g.mem]
def yfF (n:Int) (x:Nat):List Int:=(List.range (n - (0+(x:Int)+1)).toNat).map fun (j:Nat)=>0+(x:Int)+1+(j:Int)
theorem aw3 {n:Int} {x:Nat} {y:Int}:y∈yfF n x ↔ (x:Int) < y/\y < n:=by
 unfold yfF
 simp only [aB6,aB8]
 constructor
 ·rintro ⟨j,hj,rfl⟩;omega
 ·intro h;exact ⟨(y - x - 1).toNat,by omega,by omega⟩
theorem yfF_lt {n:Int} {x:Nat}:(yfF n x).Pairwise (· < ·):=by
 unfold yfF
 rw [aF1]
 exact List.pairwise_lt_range.imp fun {a b} h=>by omega
def ace (n:Int) (es:List (Int × Int)):List (Int × Int):=(List.range n.toNat).flatMap fun x=>((yfF n x).filter fun y => !decide (((x:Int),y)∈es)).map fun y=>((x:Int),y)
theorem akf (n:Int) (es:List (Int × Int)):FreeAll n es (ace n es):=by
 refine ⟨fun p=>?_,?_⟩
 ·unfold ace
  simp only [List.mem_flatMap,aB8,aB6,List.mem_filter,aw3]
  constructor
  ·rintro ⟨x,i,y,⟨⟨f,c⟩,d⟩,rfl⟩
   refine ⟨by simp only;omega,f,c,by simpa using d⟩
  ·rintro ⟨l,f,c,d⟩
   refine ⟨p.1.toNat,by omega,p.2,⟨⟨by omega,c⟩,?_⟩,?_⟩
   ·rw [show ((p.1.toNat:Nat):Int)=p.1 by omega];simpa using d
   ·rw [show ((p.1.toNat:Nat):Int)=p.1 by omega]
 ·unfold ace Rise
  rw [List.pairwise_flatMap]
  refine ⟨fun x i=>?_,?_⟩
  ·rw [aF1]
   exact (yfF_lt.filter _).imp fun {a b} h => .inr ⟨rfl,h⟩
  ·refine List.pairwise_lt_range.imp fun {a b} h p j q g=>?_
   obtain ⟨_,_,rfl⟩:=aB6.mp j
   obtain ⟨_,_,rfl⟩:=aB6.mp g
   exact .inl (by simp only;omega)
theorem FreeAll.len {n:Int} {es fs:List (Int × Int)} (h:FreeAll n es fs) (a:n<=100):fs.length<=10000:=PsOk.len ⟨h.rise.nodup,fun p b=>by have:=(h.mem p).mp b;omega⟩ a
def ai0:VP:=fun ss Q=>∃ (n:Int) (es:List (Int × Int)),ss=[.st (webD n es)]/\0<=n/\n<=100/\∀ fs,FreeAll n es fs->Q (.own (OL (fs.map prD)))
section
variable {P:Program} {w:World} {K:Frag} {mg:Str->Option Value} {base:Heap}
theorem sc_need_joined:FnScope ["web"] ["web"] (aal s_need_joined):=by row_cond sc
theorem ai1 (T:Txt K mg):Can P w K mg base "need_joined" 7 ["web"] (spP K (amr)):=by
 obtain ⟨f,fd,D⟩:=T.d_need_joined
 refine D.can (D.fn.ok sc_need_joined (fun vs H Q E h=>lenP h fun ss l q=>by obtain ⟨n,es,rfl,i,g,d,c,j,k⟩:=q;rfl) (fun cdv A outer s H vs Q E m h=>?_))
 have nd:=sc_need_joined.nd
 refine ⟨_,(aag (ab5 (ae5 (aec (aav (aky T) m (aaa (pv 0) aab))))
   (aag ag9)
   abo)),?_⟩
 refine abf h fun ss l q B o=>?_
 refine exS2 ss q fun n es a=>?_
 have i:=a.1
 have g:=a.2.1
 have d:=a.2.2.1
 have c:=a.2.2.2.1
 have j:=a.2.2.2.2.1
 have k:=a.2.2.2.2.2
 clear a q
 show EvS B _ _ [some (.st (webD n es))]
 row_cond go
 refine ⟨n,es,rfl,i,g,d,c,fun b hb=>?_⟩
 have:b=true:=hb.mpr j
 subst this
 row_cond go
 exact k
theorem sc_far_rows:FnScope ["web","tied"] ["web"] (aal s_far_rows):=by row_cond sc
theorem ams (T:Txt K mg):Can P w K mg base "far_rows" 8 ["web"] (spP K (apn)):=by
 obtain ⟨f,fd,D⟩:=T.d_far_rows
 refine D.can (D.fn.ok sc_far_rows (fun vs H Q E h=>lenP h fun ss y q=>by obtain ⟨n,es,rfl,r,g,b,c,m,k⟩:=q;rfl) (fun cdv A outer s H vs Q E l h=>?_))
 have nd:=sc_far_rows.nd
 refine ⟨_,(aad (aaz (aav (ai1 T) l (aaa (pv 0) aab)))
  (aad (aam (i:=1) nd rfl (Or.inr rfl) (aav (aez T) l (aaa (pv 0) aab)))
  (aag (aa2 (ac1 rfl (N:=["place","tied"]) (src:=[none,some 1]) (by exact abn rfl rfl rfl rfl rfl rfl) (aa0 rfl T.b_range (aaa (aaw ack (by rfl) T.b_len adq (aaa (pv 1) aab)) aab)) (fun _ _ _ _=>(aai (i:=0) (show List.Nodup (["place","tied"]:List Str) by decide +kernel) rfl (Or.inl rfl) (hf:=Or.inr rfl))) (fun _ _ _ _=>abm) (fun _ _ _ _=>(aav (agd T) l (aaa (pv 1) (aaa (pv 0) aab))))))))),?_⟩
 refine abf h fun ss y q B F=>?_
 refine exS2 ss q fun n es a=>?_
 have r:=a.1
 have g:=a.2.1
 have b:=a.2.2.1
 have c:=a.2.2.2.1
 have m:=a.2.2.2.2.1
 have k:=a.2.2.2.2.2
 clear a q
 show EvS B _ _ [some (.st (webD n es)),none]
 row_cond go
 refine ⟨n,es,rfl,r,g,b,c,m,?_⟩
 row_cond go
 refine ⟨n,es,rfl,by omega,g,b,c,fun tl p _=>?_⟩
 refine afi afg ?_
 have x:tl.length=n.toNat:=by have:=p.1;omega
 have o:((tlD tl).map PyData.list).length=n.toNat:=by simp [tlD,x]
 repeat (first | (refine awx ?_) | row_cond st)
 rw [o,show (((n.toNat:Nat):Int)).toNat=n.toNat by omega]
 refine ⟨by rw [ab0];omega,matL n.toNat (dsF es),by rw [ab0];simp [matL],fun u d hd C G=>?_,k⟩
 obtain ⟨z,rfl⟩:=ahn hd
 have j:(u:Int) < n:=by omega
 show EvO C _ [some (.st (.int (0+(u:Int)))),some (.st (.list ((tlD tl).map .list)))] _
 row_cond go
 refine ⟨n,0+(u:Int),Tied es,tl,rfl,g,p,fun u v h=>(h.in b).2,by omega,by omega,⟨rowD n.toNat (dsF es (u:Int)),?_,?_⟩⟩
 ·unfold matL
  rw [aA5,List.getElem?_range z]
  rfl
 ·rw [aH6,aw2 m (by omega) j]
theorem sc_most_far:FnScope ["rows"] ["rows"] (aal s_most_far):=by row_cond sc
theorem amt (T:Txt K mg):Can P w K mg base "most_far" 1 ["rows"] (spP K (arp)):=by
 obtain ⟨f,fd,D⟩:=T.d_most_far
 refine D.can (D.fn.ok sc_most_far (fun vs H Q E h=>lenP h fun ss o q=>by obtain ⟨n,m,rfl,g,l,k⟩:=q;rfl) (fun cdv A outer s H vs Q E C h=>?_))
 have nd:=sc_most_far.nd
 refine ⟨_,(aag (aa2 (aaw (acy rfl) (by rfl) T.b_max adr (aaa (ac1 rfl (N:=["row"]) (src:=[none]) (by exact abn rfl rfl rfl rfl rfl rfl) (abw (pv 0)) (fun _ _ _ _=>(aai (i:=0) (show List.Nodup (["row"]:List Str) by decide +kernel) rfl (Or.inl rfl) (hf:=Or.inr rfl))) (fun _ _ _ _=>abm) (fun _ _ _ _=>(aaw (show abk _ (.builtin "max") (agp K) from (acy rfl)) (by rfl) T.b_max adr (aaa (pv 0) aab)))) aab)))),?_⟩
 refine abf h fun ss o q B z=>?_
 refine exS2 ss q fun n m a=>?_
 have g:=a.1
 have l:=a.2.1
 have k:=a.2.2
 clear a q
 show EvS B _ _ [some (.st (.list (matD n m)))]
 obtain ⟨d,b⟩:=agz g m
 row_cond go
 unfold matD
 refine ael (fun u:Nat => .int (d u)) rfl (by simp;omega) (fun u J L G=>?_) ?_
 ·row_cond go
  rw [ahx]
  exact adl (by simp;omega) fun x c=>⟨by rw [ahy c (b u)],rfl⟩
 ·row_cond go
  rw [show (List.range n).map (fun u:Nat=>PyData.int (d u))=((List.range n).map d).map .int by rw [aD5];rfl]
  refine adl (by simp;omega) fun x c=>?_
  row_cond go
  refine k x ⟨?_,fun u v r I v0 y=>?_⟩
  ·obtain ⟨i,hi,e⟩:=aB6.mp c.1
   obtain ⟨j,hj,e2⟩:=aB6.mp (b i).1
   exact ⟨i,j,by omega,by have:=aB8.mp hi;omega,by omega,by have:=aB8.mp hj;omega,e2.trans e⟩
  ·have p:=(b u.toNat).2 (m ((u.toNat:Nat):Int) ((v.toNat:Nat):Int)) (aB6.mpr ⟨v.toNat,aB8.mpr (by omega),rfl⟩)
   have F:=c.2 (d u.toNat) (aB6.mpr ⟨u.toNat,aB8.mpr (by omega),rfl⟩)
   rw [show ((u.toNat:Nat):Int)=u by omega,show ((v.toNat:Nat):Int)=v by omega] at p
   omega
theorem sc_row_with:FnScope ["rows","row","tie","a","b","near","beyond","over"] ["rows","row","tie"] (aal s_row_with):=by row_cond sc
theorem amu (T:Txt K mg):Can P w K mg base "row_with" 1 ["rows","row","tie"] (spP K (arq)):=by
 obtain ⟨f,fd,D⟩:=T.d_row_with
 refine D.can (D.fn.ok sc_row_with (fun vs H Q E h=>lenP h fun ss o q=>by obtain ⟨n,m,r,a,b,rfl,l,a0,j,b0,g,k⟩:=q;rfl) (fun cdv A outer s H vs Q E y h=>?_))
 have nd:=sc_row_with.nd
 refine ⟨_,(aad (act (pv 2) (ab6 rfl (aau (aai (i:=3) nd rfl (Or.inl rfl)) (aau (aai (i:=4) nd rfl (Or.inl rfl)) abp))))
  (aad (act (ar1 (aa6 agh (aao aap (pv 1) (pv 3) (fun _ _=>rfl)) (aao aap (pv 1) (pv 4) (fun _ _=>rfl)) (aa7 _)) (abg (aaa (pv 3) (aaa (pv 4) aab))) (abg (aaa (pv 4) (aaa (pv 3) aab)))) (ab6 rfl (aau (aai (i:=5) nd rfl (Or.inl rfl)) (aau (aai (i:=6) nd rfl (Or.inl rfl)) abp))))
  (aad (aam (i:=7) nd rfl (Or.inr rfl) (aaf aaq (aao aap (pv 1) (pv 5) (fun _ _=>rfl)) aac))
  (aag (aa2 (ac1 rfl (N:=["far","rest","over"]) (src:=[none,none,some 7]) (by exact abn rfl rfl rfl rfl rfl rfl) (ayw rfl T.b_zip (aaa (pv 1) (aaa (aao aap (pv 0) (pv 6) (fun _ _=>rfl)) aab))) (fun _ _ _ _=>(show PG _ _ (gTup K 2 (aa8 (aas 0) (aa8 (aas 1) gNil))) from (ab6 rfl (aau (aai (i:=0) (show List.Nodup (["far","rest","over"]:List Str) by decide +kernel) rfl (Or.inl rfl) (hf:=Or.inr rfl)) (aau (aai (i:=1) (show List.Nodup (["far","rest","over"]:List Str) by decide +kernel) rfl (Or.inl rfl) (hf:=Or.inr rfl)) abp))))) (fun _ _ _ _=>abm) (fun _ _ _ _=>(aaw (ac9 rfl) (by rfl) T.b_min ae9 (aaa (pv 0) (aaa (aaf aaq (pv 2) (pv 1)) aab)))))))))),?_⟩
 refine abf h fun ss o q B x=>?_
 refine exS5 ss q fun n m r a b c=>?_
 have l:=c.1
 have a0:=c.2.1
 have j:=c.2.2.1
 have b0:=c.2.2.2.1
 have g:=c.2.2.2.2.1
 have k:=c.2.2.2.2.2
 clear c q
 show EvS B _ _ [some (.st (.list (matD n m))),some (.st (.list (rowD n r))),some (.st (prD (a,b))),none,none,none,none,none]
 have v:=aek (r:=r) a0 j
 have rb:=aek (r:=r) b0 g
 have z:=aiz (m:=m) a0 j
 have mb:=aiz (m:=m) b0 g
 row_cond go
 refine ab2 (fun d=>?_) (fun d=>?_)
 ·row_cond go
  rw [amq]
  refine ahp (xs:=List.range n) (fa:=fun i:Nat => .int (r (i:Int))) (fb:=fun i:Nat => .int (m b (i:Int))) (fun i:Nat => .int (rwF m r a b (i:Int))) (fun _=>true) rfl (by simp;omega) (fun i hi u p=>?_) ?_
  ·refine acj ⟨rfl,rfl,fun _=>?_⟩
   row_cond go
   unfold rwF
   rw [aE5 d]
   exact ⟨rfl,rfl⟩
  ·rw [adg]
   row_cond go
   exact k
 ·row_cond go
  rw [amq]
  refine ahp (xs:=List.range n) (fa:=fun i:Nat => .int (r (i:Int))) (fb:=fun i:Nat => .int (m a (i:Int))) (fun i:Nat => .int (rwF m r a b (i:Int))) (fun _=>true) rfl (by simp;omega) (fun i hi u p=>?_) ?_
  ·refine acj ⟨rfl,rfl,fun _=>?_⟩
   row_cond go
   unfold rwF
   rw [aE6 d]
   exact ⟨rfl,rfl⟩
  ·rw [adg]
   row_cond go
   exact k
theorem sc_rows_with:FnScope ["rows","tie"] ["rows","tie"] (aal s_rows_with):=by row_cond sc
theorem akz (T:Txt K mg):Can P w K mg base "rows_with" 2 ["rows","tie"] (spP K (apo)):=by
 obtain ⟨f,fd,D⟩:=T.d_rows_with
 refine D.can (D.fn.ok sc_rows_with (fun vs H Q E h=>lenP h fun ss l q=>by obtain ⟨n,m,a,b,rfl,g,a0,j,b0,d,k⟩:=q;rfl) (fun cdv A outer s H vs Q E o h=>?_))
 have nd:=sc_rows_with.nd
 refine ⟨_,(aag (aa2 (ac1 rfl (N:=["row","rows","tie"]) (src:=[none,some 0,some 1]) (by exact abn rfl rfl rfl rfl rfl rfl) (abw (pv 0)) (fun _ _ _ _=>(aai (i:=0) (show List.Nodup (["row","rows","tie"]:List Str) by decide +kernel) rfl (Or.inl rfl) (hf:=Or.inr rfl))) (fun _ _ _ _=>abm) (fun _ _ _ _=>(aav (amu T) o (aaa (pv 1) (aaa (pv 0) (aaa (pv 2) aab)))))))),?_⟩
 refine abf h fun ss l q B p=>?_
 refine exS4 ss q fun n m a b c=>?_
 have g:=c.1
 have a0:=c.2.1
 have j:=c.2.2.1
 have b0:=c.2.2.2.1
 have d:=c.2.2.2.2.1
 have k:=c.2.2.2.2.2
 clear c q
 show EvS B _ _ [some (.st (.list (matD n m))),some (.st (prD (a,b)))]
 row_cond go
 unfold matD
 refine ael (f:=fun u:Nat => .list (rowD n (m (u:Int)))) (fun u:Nat => .list (rowD n (rwF m (m (u:Int)) a b))) rfl (by simp;omega) (fun u v x r=>?_) ?_
 ·row_cond go
  refine ⟨n,m,m (u:Int),a,b,rfl,g,a0,j,b0,d,acq ⟨rfl,rfl⟩⟩
 ·row_cond go
  exact k
theorem sc_free_ties:FnScope ["web","n","ties"] ["web"] (aal s_free_ties):=by row_cond sc
theorem ak0 (T:Txt K mg):Can P w K mg base "free_ties" 1 ["web"] (spP K (ai0)):=by
 obtain ⟨f,fd,D⟩:=T.d_free_ties
 refine D.can (D.fn.ok sc_free_ties (fun vs H Q E h=>lenP h fun ss m q=>by obtain ⟨n,es,rfl,l,b,k⟩:=q;rfl) (fun cdv A outer s H vs Q E p h=>?_))
 have nd:=sc_free_ties.nd
 refine ⟨_,(aad (act (pv 0) (ab6 rfl (aau (aai (i:=1) nd rfl (Or.inr rfl)) (aau (aai (i:=2) nd rfl (Or.inr rfl)) abp))))
  (aag (aa2 (aqg rfl (N:=["a","b","n","ties"]) (src:=[none,none,some 1,some 2]) (by exact abn rfl rfl rfl rfl rfl rfl) (aa0 rfl T.b_range (aaa (pv 1) aab)) (fun _ _ _ _=>(aai (i:=0) (show List.Nodup (["a","b","n","ties"]:List Str) by decide +kernel) rfl (Or.inl rfl) (hf:=Or.inr rfl))) (fun _ _ _ _=>abm) (fun _ _ _ _=>(adp rfl T.b_range (aaa (aaf aaq (pv 0) aac) (aaa (pv 2) aab)))) (fun _ _ _ _=>(aai (i:=1) (show List.Nodup (["a","b","n","ties"]:List Str) by decide +kernel) rfl (Or.inl rfl) (hf:=Or.inr rfl))) (fun _ _ _ _=>ant (aa6 (af7 p.units) (abg (aaa (pv 0) (aaa (pv 1) aab))) (pv 3) rfl)) (fun _ _ _ _=>(abg (aaa (pv 0) (aaa (pv 1) aab)))))))),?_⟩
 refine abf h fun ss m q B z=>?_
 refine exS2 ss q fun n es a=>?_
 have l:=a.1
 have b:=a.2.1
 have k:=a.2.2
 clear a q
 show EvS B _ _ [some (.st (webD n es)),none,none]
 row_cond go
 have j:=akf n es
 have g:=j.len b
 have c:((List.range n.toNat).flatMap fun x=>((yfF n x).filter fun y => !decide (((x:Int),y)∈es)).map fun y=>PyData.tuple [.int (0+(x:Int)),.int y])=(ace n es).map prD:=by
  unfold ace
  rw [List.map_flatMap]
  congr 1
  funext x
  rw [aD5]
  refine aE1 fun y _=>?_
  simp [prD]
 unfold rngD
 refine atk (xs:=List.range n.toNat) (yfF n) .int (fun x y => .tuple [.int (0+(x:Int)),.int y]) (fun x y => !decide (((x:Int),y)∈es)) ?_ ?_ ?_ ?_ ?_
 ·exact ake rfl
 ·rw [c,aA3];omega
 ·intro x d v u o
  have r:(x:Int) < n:=by have:=aB8.mp d;omega
  row_cond go
  unfold yfF rngD
  rw [aD5]
  exact ⟨rfl,rfl⟩
 ·intro x d y C v u
  row_cond go
  refine ajp (akc (_,_)) (ad0 es) (aC9 (aex (_,_)) (by decide)) ?_
  rw [aE5 rfl,show PyData.tuple [PyData.int (0+(x:Int)),PyData.int y]=prD (0+(x:Int),y) from rfl,aoi]
  refine ⟨_,rfl,by rw [aH6],rfl,fun _=>?_⟩
  row_cond go
  exact rfl
 ·rw [c]
  exact k _ j
end
theorem aon {n:Nat} (d:1<=n) (m:Int->Int->Int):∃ x,ag0 n m x:=by
 obtain ⟨c,a⟩:=agz d m
 obtain ⟨x,b⟩:=agy (ns:=(List.range n).map c) (by simp;omega)
 refine ⟨x,?_,fun u v g o v0 h=>?_⟩
 ·obtain ⟨i,hi,e⟩:=aB6.mp b.1
  obtain ⟨j,hj,e2⟩:=aB6.mp (a i).1
  exact ⟨i,j,by omega,by have:=aB8.mp hi;omega,by omega,by have:=aB8.mp hj;omega,e2.trans e⟩
 ·have f:=(a u.toNat).2 (m ((u.toNat:Nat):Int) ((v.toNat:Nat):Int)) (aB6.mpr ⟨v.toNat,aB8.mpr (by omega),rfl⟩)
  have l:=b.2 (c u.toNat) (aB6.mpr ⟨u.toNat,aB8.mpr (by omega),rfl⟩)
  rw [show ((u.toNat:Nat):Int)=u by omega,show ((v.toNat:Nat):Int)=v by omega] at f
  omega
theorem ahz {n:Nat} {m:Int->Int->Int} {x y:Int} (h:ag0 n m x) (g:ag0 n m y):x=y:=by
 obtain ⟨u,v,a,b,c,d,e⟩:=h.1
 obtain ⟨l,j,f,i,o,d',p⟩:=g.1
 have:=g.2 u v a b c d
 have:=h.2 l j f i o d'
 omega
def ars:VP:=fun ss Q=>∃ (a b c:Int),ss=[.st (.int a),.st (.int b),.st (.int c)]/\a<=c/\c<=b/\Q (.st .none)
section
variable {P:Program} {w:World} {K:Frag} {mg:Str->Option Value} {base:Heap}
theorem sc_need_number:FnScope ["least","most","thing"] ["least","most","thing"] (aal s_need_number):=by row_cond sc
theorem ae0 (T:Txt K mg):Can P w K mg base "need_number" 3 ["least","most","thing"] (spP K (ars)):=by
 obtain ⟨f,fd,D⟩:=T.d_need_number
 refine D.can (D.fn.ok sc_need_number (fun vs H Q E h=>lenP h fun ss g q=>by obtain ⟨a,b,c,rfl,l,j,k⟩:=q;rfl) (fun cdv A outer s H vs Q E i h=>?_))
 have nd:=sc_need_number.nd
 refine ⟨_,(aag (ab5 (ae5 (aec (aav (afk T) i (aaa (pv 0) (aaa (pv 1) (aaa (pv 2) aab))))))
   (aag ag9)
   abo)),?_⟩
 refine abf h fun ss g q B m=>?_
 refine exS3 ss q fun a b c d=>?_
 have l:=d.1
 have j:=d.2.1
 have k:=d.2.2
 clear d q
 show EvS B _ _ [some (.st (.int a)),some (.st (.int b)),some (.st (.int c))]
 row_cond go
 refine ⟨a,b,.int c,rfl,?_⟩
 have:btwD a b (.int c)=true:=by simp [btwD];omega
 rw [this]
 row_cond go
 exact k
end
def tpM (n:Nat) (n0:1<=n) (m:Int->Int->Int):Int:=Classical.choose (aon n0 m)
theorem ajt {n:Nat} (a:1<=n) (m:Int->Int->Int):ag0 n m (tpM n a m):=Classical.choose_spec (aon a m)
structure FI where
 ts:List (Int × Int)
 ls:List (Int × Int)
 m:Int->Int->Int
def fiD (n:Nat) (x:FI):PyData:=.tuple [.list (x.ts.map prD),.list (x.ls.map prD),.list (matD n x.m)]
def wF (m:Int->Int->Int) (p:Int × Int):Int->Int->Int:=fun u=>rwF m (m u) p.1 p.2
def nxF (x:FI) (i:Nat):FI:=⟨x.ts ++ [x.ls.getD i (0,0)],x.ls.drop (i+1),wF x.m (x.ls.getD i (0,0))⟩
def moF (x:FI):List FI:=(List.range x.ls.length).map (nxF x)
def lvF (m:Int->Int->Int) (fs:List (Int × Int)):Nat->List FI
 | 0=>[⟨[],fs,m⟩]
 | j+1=>(lvF m fs j).flatMap moF
def trF (m:Int->Int->Int) (fs:List (Int × Int)):Nat->List FI
 | 0=>lvF m fs 0
 | j+1=>trF m fs j ++ lvF m fs (j+1)
def FOk (m:Int->Int->Int) (fs:List (Int × Int)) (j:Nat) (x:FI):Prop:=(x.ts ++ x.ls).Sublist fs/\x.ts.length=j/\x.m=x.ts.foldl wF m
theorem aeb {α:Type} {l:List α} {i:Nat} (d : α) (h:i < l.length):l.getD i d=l[i]:=by
 rw [List.getD_eq_getElem?_getD,aA0 h];rfl
theorem aw4 {α:Type} {l:List α} {i:Nat} (d : α) (h:i < l.length):l.drop i=l.getD i d :: l.drop (i+1):=by
 rw [List.drop_eq_getElem_cons h,aeb _ h]
theorem a0d {m:Int->Int->Int} {fs:List (Int × Int)} {j i:Nat} {x:FI} (h:FOk m fs j x) (hi:i < x.ls.length):FOk m fs (j+1) (nxF x i):=by
 refine ⟨List.Sublist.trans ?_ h.1,by simp [nxF,h.2.1],by simp [nxF,h.2.2,List.foldl_append]⟩
 show (x.ts ++ [x.ls.getD i (0,0)] ++ x.ls.drop (i+1)).Sublist _
 rw [aB3,List.singleton_append,← aw4 _ hi]
 exact List.Sublist.append_left (List.drop_sublist _ _) _
theorem alb {m:Int->Int->Int} {fs:List (Int × Int)}:∀ {j:Nat} {x:FI},x∈lvF m fs j->FOk m fs j x
 | 0,x,h=>by
  cases aC1.mp h
  exact ⟨by simp,rfl,rfl⟩
 | j+1,x,h=>by
  obtain ⟨y,a,b⟩:=List.mem_flatMap.mp h
  obtain ⟨i,hi,rfl⟩:=aB6.mp b
  exact a0d (alb a) (aB8.mp hi)
theorem auq {m:Int->Int->Int} {fs:List (Int × Int)}:∀ {k:Nat} {x:FI},x∈trF m fs k->∃ j,j<=k/\x∈lvF m fs j
 | 0,x,h=>⟨0,aA6 _,h⟩
 | k+1,x,h=>by
  rcases aA7.mp h with h | h
  ·obtain ⟨j,hj,a⟩:=auq h
   exact ⟨j,by omega,a⟩
  ·exact ⟨k+1,aA6 _,h⟩
theorem ah0 {α β:Type} {f : α->List β} {c:Nat}:∀ {l:List α},(∀ x∈l,(f x).length<=c)->(l.flatMap f).length<=l.length * c
 | [],_=>by simp
 | a :: l,h=>by
  have:=ah0 (l:=l) fun x b=>h x (aB4 _ b)
  have d:=h a aB7
  rw [List.flatMap_cons,aB0,aD8,Nat.add_mul]
  omega
theorem aur {m:Int->Int->Int} {fs:List (Int × Int)} {j:Nat} {x:FI} (h:FOk m fs j x):x.ls.length<=fs.length:=by
 have:=h.1.length_le
 rw [aB0] at this
 omega
theorem ai2 {m:Int->Int->Int} {fs:List (Int × Int)} {c:Nat} (a:fs.length<=c):∀ j,(lvF m fs j).length<=c ^ j
 | 0=>by simp [lvF]
 | j+1=>by
  refine aC9 (ah0 (c:=c) fun x b=>?_) ?_
  ·have:=aur (alb b)
   simp [moF];omega
  ·rw [Nat.pow_succ]
   exact Nat.mul_le_mul_right _ (ai2 a j)
theorem amv {m:Int->Int->Int} {fs:List (Int × Int)} {c:Nat} (a:fs.length<=c+1):∀ j,(trF m fs j).length<=(j+1) * (c+1) ^ j
 | 0=>by simp [trF,lvF]
 | j+1=>by
  have f:=amv (m:=m) a j
  have d:=ai2 (m:=m) a (j+1)
  have b:(c+1) ^ j<=(c+1) ^ (j+1):=Nat.pow_le_pow_right (by omega) (by omega)
  have g:=Nat.mul_le_mul_left (j+1) b
  show (trF m fs j ++ lvF m fs (j+1)).length<=_
  rw [aB0,show j+1+1=(j+1)+1 from rfl,Nat.succ_mul]
  omega
theorem aus {m:Int->Int->Int} {fs:List (Int × Int)}:∀ {k:Nat},trF m fs k ≠ []
 | 0,e=>by cases e
 | k+1,e=>aus (List.append_eq_nil_iff.mp e).1
theorem azc {m:Int->Int->Int} {fs:List (Int × Int)} {j:Nat} {x:FI} (h:FOk m fs j x) {p:Int × Int} (a:p∈x.ls):p∈fs:=h.1.subset (aA7.mpr (.inr a))
theorem amw {n:Int} {es fs:List (Int × Int)} (h:FreeAll n es fs) (d:n<=8):fs.length<=28:=by
 have:=aiw (bs:=(List.range 8).flatMap fun (a:Nat)=>(List.range a).map fun (b:Nat)=>((b:Int),(a:Int))) h.rise.nodup fun p c=>by
  have:=(h.mem p).mp c
  exact List.mem_flatMap.mpr ⟨p.2.toNat,aB8.mpr (by omega),aB6.mpr ⟨p.1.toNat,aB8.mpr (by omega),Prod.ext (by simp only;omega) (by simp only;omega)⟩⟩
 exact aC9 this (by decide)
theorem amx (ls:List (Int × Int)) {i:Nat} (h:i < ls.length):cutD (ls.map prD) (some ((i:Int)+1)) none=(ls.drop (i+1)).map prD:=by
 unfold cutD
 rw [aA3,HT.sIx_none,show ((i:Int)+1)=((i+1:Nat):Int) from rfl,HT.sIx_nat,show min (i+1) ls.length=i+1 by omega,← List.map_drop,aE3 (by rw [aA3,aH7];omega)]
def azd:VP:=fun ss Q=>∃ (n j:Nat) (m:Int->Int->Int) (fs:List (Int × Int)) (xs:List FI),ss=[.st (.list (xs.map (fiD n)))]/\n<=1000/\(∀ x∈xs,FOk m fs j x)/\j<=100/\fs.length<=64/\xs.length<=10000/\(∀ p∈fs,0<=p.1/\p.1 < n/\0<=p.2/\p.2 < n)/\Q (.own (OL ((xs.flatMap moF).map (fiD n))))
section
variable {P:Program} {w:World} {K:Frag} {mg:Str->Option Value} {base:Heap}
theorem sc_one_tie_more:FnScope ["level"] ["level"] (aal s_one_tie_more):=by row_cond sc
theorem ah1 (T:Txt K mg):Can P w K mg base "one_tie_more" 3 ["level"] (spP K (azd)):=by
 obtain ⟨f,fd,D⟩:=T.d_one_tie_more
 refine D.can (D.fn.ok sc_one_tie_more (fun vs H Q E h=>lenP h fun ss C q=>by obtain ⟨n,j,m,fs,xs,rfl,v,hok,hj,g,u,l,k⟩:=q;rfl) (fun cdv A outer s H vs Q E F h=>?_))
 have nd:=sc_one_tie_more.nd
 refine ⟨_,(aag (aa2 (aqg rfl (N:=["ties","left","rows","at","tie"]) (src:=[none,none,none,none,none]) (by exact abn rfl rfl rfl rfl rfl rfl) (abw (pv 0)) (fun _ _ _ _=>(show PG _ _ (gTup K 3 (aa8 (aas 0) (aa8 (aas 1) (aa8 (aas 2) gNil)))) from (ab6 rfl (aau (aai (i:=0) (show List.Nodup (["ties","left","rows","at","tie"]:List Str) by decide +kernel) rfl (Or.inl rfl) (hf:=Or.inr rfl)) (aau (aai (i:=1) (show List.Nodup (["ties","left","rows","at","tie"]:List Str) by decide +kernel) rfl (Or.inl rfl) (hf:=Or.inr rfl)) (aau (aai (i:=2) (show List.Nodup (["ties","left","rows","at","tie"]:List Str) by decide +kernel) rfl (Or.inl rfl) (hf:=Or.inr rfl)) abp)))))) (fun _ _ _ _=>abm) (fun _ _ _ _=>(show PI _ _ _ (apd K _) from aod (by rfl) T.b_enumerate (aaa (pv 1) aab))) (fun _ _ _ _=>(show PG _ _ (gTup K 2 (aa8 (aas 3) (aa8 (aas 4) gNil))) from (ab6 rfl (aau (aai (i:=3) (show List.Nodup (["ties","left","rows","at","tie"]:List Str) by decide +kernel) rfl (Or.inl rfl) (hf:=Or.inr rfl)) (aau (aai (i:=4) (show List.Nodup (["ties","left","rows","at","tie"]:List Str) by decide +kernel) rfl (Or.inl rfl) (hf:=Or.inr rfl)) abp))))) (fun _ _ _ _=>abm) (fun _ _ _ _=>(abg (aaa (aaf ap6 (pv 0) (aa3 (aaa (pv 4) aab))) (aaa (ahb (show SlR _ (rSlL K) from ai8) (pv 1) (ai7 (aaf aaq (pv 3) aac)) ai6) (aaa (aav (akz T) F (aaa (pv 2) (aaa (pv 4) aab))) aab)))))))),?_⟩
 refine abf h fun ss C q B J=>?_
 refine exS5 ss q fun n j m fs xs a=>?_
 have v:=a.1
 have hok:=a.2.1
 have hj:=a.2.2.1
 have g:=a.2.2.2.1
 have u:=a.2.2.2.2.1
 have l:=a.2.2.2.2.2.1
 have k:=a.2.2.2.2.2.2
 clear a q
 show EvS B _ _ [some (.st (.list (xs.map (fiD n))))]
 have r:∀ x∈xs,x.ls.length<=64:=fun x d=>aC9 (aur (hok x d)) g
 row_cond go
 refine apm (xs:=xs) (fa:=fun x => .list (x.ts.map prD)) (fb:=fun x => .list (x.ls.map prD)) (fe:=fun x => .list (matD n x.m)) (fun x=>List.range x.ls.length) (fun x i => .int (i:Int)) (fun x i=>prD (x.ls.getD i (0,0))) (fun x i=>fiD n (nxF x i)) (ake rfl) ?_ ?_ ?_ ?_
 ·refine aC9 (ah0 (c:=64) fun x d=>?_) (by omega)
  rw [aA3,List.length_range]
  exact r x d
 ·intro x d I G o o'
  row_cond go
  refine ⟨?_,rfl⟩
  unfold enD
  rw [aA3]
  refine aE1 fun i hi=>?_
  have b:=aB8.mp hi
  rw [aeb _ (by simpa using b),List.getElem_map,aeb _ b]
 ·intro x d i hi I G
  have b:=aB8.mp hi
  have z:x.ls.getD i (0,0)∈x.ls:=by rw [aeb _ b];exact List.getElem_mem b
  have p:=l _ (azc (hok x d) z)
  have y:=(hok x d).2.1
  row_cond go
  refine ⟨n,x.m,(x.ls.getD i (0,0)).1,(x.ls.getD i (0,0)).2,rfl,v,p.1,p.2.1,p.2.2.1,p.2.2.2,acq ?_⟩
  row_cond go
  rw [amx _ b]
  refine ⟨?_,rfl⟩
  show PyData.tuple _=PyData.tuple [.list ((x.ts ++ [x.ls.getD i (0,0)]).map prD),_,_]
  rw [aD7]
  rfl
 ·have e:(xs.flatMap fun x=>(List.range x.ls.length).map fun i=>fiD n (nxF x i))=(xs.flatMap moF).map (fiD n):=by
   rw [List.map_flatMap]
   congr 1
   funext x
   unfold moF
   rw [aD5];rfl
  rw [e]
  exact k
end
def fewD (x:Int) (ts:List (Int × Int)):PyData:=.tuple [.int x,.list (ts.map prD)]
def aze:VIo:=fun A ss Q=>∃ (n k:Int) (es:List (Int × Int)),A=OW (.int n) (es.map prD)/\ss=[.st (.int k)]/\1<=n/\n<=8/\InN n es/\es.length<=10000/\Joined n es/\1<=k/\k<=3 /\
 ∀ fs (n0:1<=n.toNat) i x,FreeAll n es fs->(trF (dsF es) fs k.toNat)[i]?=some x->acl ((trF (dsF es) fs k.toNat).map fun y=>tpM n.toNat n0 y.m) i->Q (OW (.int n) (es.map prD)) (.st (fewD (tpM n.toNat n0 x.m) x.ts))
theorem art (n:Nat) (m:Int->Int->Int):matL n m=((List.range n).map fun (u:Nat)=>(List.range n).map fun (i:Nat)=>m (u:Int) (i:Int)).map fun ns=>ns.map .int:=by
 unfold matL
 rw [aD5]
 refine aE1 fun u _=>?_
 simp [rowD]
section
variable {P:Program} {w:World} {K:Frag} {mg:Str->Option Value} {base:Heap}
theorem sc_best_few:FnScope ["web","k","rows","level","tried","again"] ["web","k"] (aal s_best_few):=by row_cond sc
theorem age (T:Txt K mg):Can P w K mg base "best_few" 9 ["web","k"] (spI K (aze)):=by
 obtain ⟨f,fd,D⟩:=T.d_best_few
 obtain ⟨j,c⟩:=T.v_MOST_FEW
 obtain ⟨b,a⟩:=T.v_MOST_PLACES_FOR_FEW
 refine D.can (D.fn.okC T.lam D.mgx sc_best_few (fun vs H Q E h=>lenI h fun A ss Q' q=>by obtain ⟨n,k,es,rfl,rfl,Y,U,u,F,Z,k0,k3,W⟩:=q;rfl) (fun cdv a0 A outer s H vs Q E J R l h=>?_))
 have nd:=sc_best_few.nd
 refine ⟨_,(aad (aam (i:=2) nd rfl (Or.inl rfl) (aav (ams T) l (aaa (pv 0) aab)))
  (aad (aaz (aav (ae0 T) l (aaa aac (aaa (ann (v:=.int 3) rfl c ⟨_,rfl⟩) (aaa (pv 1) aab)))))
  (aad (aaz (aav (ae0 T) l (aaa aac (aaa (ann (v:=.int 8) rfl a ⟨_,rfl⟩) (aaa (aao aap (pv 0) aac (fun _ _=>rfl)) aab)))))
  (aad (aam (i:=3) nd rfl (Or.inl rfl) (aa3 (aaa (abg (aaa (aa3 aab) (aaa (aav (ak0 T) l (aaa (pv 0) aab)) (aaa (pv 2) aab)))) aab)))
  (aad (aam (i:=4) nd rfl (Or.inl rfl) (aem air (by rfl) T.b_list agn (aaa (pv 3) aab)))
  (aad (aa9 aI5 rfl (aa0 rfl T.b_range (aaa (pv 1) aab)) (aai (i:=5) nd rfl (Or.inl rfl))
   (aad (aam (i:=3) nd rfl (Or.inl rfl) (aav (ah1 T) l (aaa (pv 3) aab)))
    (aag (axj (i:=4) nd rfl (Or.inl rfl) (pv 3) awv))))
  (aag (aa2 (awu l rfl (by rfl) T.b_min (aaa (ac1 rfl (N:=["ties","left","told"]) (src:=[none,none,none]) (by exact abn rfl rfl rfl rfl rfl rfl) (abw (pv 4)) (fun _ _ _ _=>(show PG _ _ (gTup K 3 (aa8 (aas 0) (aa8 (aas 1) (aa8 (aas 2) gNil)))) from (ab6 rfl (aau (aai (i:=0) (show List.Nodup (["ties","left","told"]:List Str) by decide +kernel) rfl (Or.inl rfl) (hf:=Or.inr rfl)) (aau (aai (i:=1) (show List.Nodup (["ties","left","told"]:List Str) by decide +kernel) rfl (Or.inl rfl) (hf:=Or.inr rfl)) (aau (aai (i:=2) (show List.Nodup (["ties","left","told"]:List Str) by decide +kernel) rfl (Or.inl rfl) (hf:=Or.inr rfl)) abp)))))) (fun _ _ _ _=>abm) (fun _ _ _ _=>(abg (aaa (aav (amt T) l (aaa (pv 2) aab)) (aaa (pv 0) aab))))) aab) J R rfl (by rfl) (by rfl) (by rfl) (fun _ _ _ _=>rfl) rfl rfl rfl rfl (by decide +kernel) (by decide)))))))))),?_⟩
 refine azt h fun A0 ss Q' q B hK=>?_
 obtain ⟨n,k,es,rfl,rfl,Y,U,u,F,Z,k0,k3,W⟩:=q
 show EvS B _ _ [some (.io (OW (.int n) (es.map prD))),some (.st (.int k)),none,none,none,none]
 have hn:1<=n.toNat:=by omega
 repeat (first | (refine ag7 (i:=0) (.inr rfl) abv fun S I=>?_) | row_cond st)
 refine ⟨n,es,rfl,Y,by omega,u,F,Z,?_⟩
 refine ⟨_,rfl,awz (by rw [art];exact att),afi afg ?_⟩
 rw [azb]
 row_cond go
 refine ⟨1,3,k,rfl,by omega,by omega,?_⟩
 repeat (first | (refine abi (i:=0) (.inr rfl) abv fun S I=>?_) | row_cond st)
 refine ⟨1,8,n,rfl,by omega,by omega,?_⟩
 repeat (first | (refine ab8 (ag7 (te:=acw (spP K ai0) _ _ _) (i:=0) (.inr rfl) abv fun S I=>?_)) | row_cond st)
 refine ⟨n,es,rfl,by omega,by omega,fun fs M=>⟨_,rfl,awy fs,acq ?_⟩⟩
 have g:=amw M U
 have C:∀ p∈fs,0<=p.1/\p.1 < (n.toNat:Int)/\0<=p.2/\p.2 < (n.toNat:Int):=fun p hp=>by
  have:=(M.mem p).mp hp
  omega
 row_cond go
 refine abb (fun i e=>∃ O,e=[some (.io (OW (.int n) (es.map prD))),some (.st (.int k)),some (.st (.list (matD n.toNat (dsF es)))),some (.st (.list ((lvF (dsF es) fs i).map (fiD n.toNat)))),some (.own (OL ((trF (dsF es) fs i).map (fiD n.toNat)))),O]) ⟨none,rfl⟩ ?_ ?_
 ·rintro i e hi d
  refine exE1 e d fun O=>?_
  clear d
  have a1:i < 3:=by omega
  have X:(lvF (dsF es) fs i).length<=4096:=by
   refine aC9 (ai2 g i) ?_
   have:i=0\/i=1\/i=2:=by omega
   rcases this with rfl | rfl | rfl <;> decide
  row_cond go
  refine ⟨n.toNat,i,dsF es,fs,lvF (dsF es) fs i,rfl,by omega,fun x o=>alb o,by omega,by omega,by omega,C,afi adc ?_⟩
  row_cond go
  refine atq (.inl rfl) ?_
  row_cond go
  refine ⟨_,_,rfl,rfl,?_,some (.st (.int (0+(i:Int)))),?_⟩
  ·rw [aA3,aA3]
   have h1:=amv (m:=dsF es) g i
   have h2:=ai2 (m:=dsF es) g (i+1)
   have:i=0\/i=1\/i=2:=by omega
   have h3:(28:Nat) ^ (i+1)<=262144:=by rcases this with rfl | rfl | rfl <;> decide
   have h4:(i+1) * (27+1) ^ i<=20000:=by rcases this with rfl | rfl | rfl <;> decide
   have h5:(List.flatMap moF (lvF (dsF es) fs i)).length=(lvF (dsF es) fs (i+1)).length:=rfl
   omega
  ·rw [← aD7]
   rfl
 ·rintro e d
  refine exE1 e d fun O=>?_
  clear d
  refine ad8 (i:=4) rfl adc ?_
  row_cond go
  refine abl (auk ?_)
  row_cond go
  have G:k.toNat=0\/k.toNat=1\/k.toNat=2\/k.toNat=3:=by omega
  have L:(trF (dsF es) fs k.toNat).length<=999999:=by
   refine aC9 (amv (m:=dsF es) g k.toNat) ?_
   rcases G with e | e | e | e <;> rw [e] <;> decide
  refine atr (xs:=trF (dsF es) fs k.toNat) (fa:=fun x => .list (x.ts.map prD)) (fb:=fun x => .list (x.ls.map prD)) (fc:=fun x => .list (matD n.toNat x.m)) (fun x => .tuple [.int (tpM n.toNat hn x.m),.list (x.ts.map prD)]) rfl L (fun x o S I=>?_) ?_
  ·row_cond go
   refine ⟨n.toNat,x.m,rfl,hn,by omega,fun y hy=>?_⟩
   row_cond go
   exact ⟨by rw [ahz hy (ajt hn x.m)],rfl⟩
  ·row_cond go
   rw [show ((trF (dsF es) fs k.toNat).map fun x=>PyData.tuple [.int (tpM n.toNat hn x.m),.list (x.ts.map prD)])=((trF (dsF es) fs k.toNat).map fun x=>((tpM n.toNat hn x.m,[.list (x.ts.map prD)]):Int × List PyData)).map (fun z => .tuple (.int z.1 :: z.2)) by rw [aD5];rfl]
   refine ato ?_ fun i z r hm=>agr ?_
   ·intro e
    have:=congrArg List.length e
    rw [aA3] at this
    exact aus (List.length_eq_zero_iff.mp this)
   ·rw [aA5] at r
    cases o:(trF (dsF es) fs k.toNat)[i]? with
    | none=>rw [o] at r;cases r
    | some x =>
     rw [o] at r
     cases r
     rw [aD5] at hm
     exact ⟨_,rfl,W fs hn i x M o hm⟩
end
def azf:VP:=fun ss Q=>∃ (n:Int) (es:List (Int × Int)),ss=[.st (webD n es)]/\es.length<=10000/\Q (.own (OW (.int n) (es.map prD)))
theorem azg {p:Int × Int} {a b c:Int} (h:ltP p (a,b)) (d:b<=c):ltP p (a,c):=by
 unfold ltP at *
 simp only at *
 omega
theorem aw5 (fs:List (Int × Int)) (a b:Int):fs.map prD ++ [.tuple [.int a,.int b]]=(fs ++ [(a,b)]).map prD:=by simp [prD]
structure FreeTo (n:Int) (es fs:List (Int × Int)) (a b:Int):Prop where
 mem:∀ p:Int × Int,p∈fs ↔ (0<=p.1/\p.1 < p.2/\p.2 < n/\p ∉ es/\ltP p (a,b))
 rise:Rise fs
theorem FreeTo.len {n a b:Int} {es fs:List (Int × Int)} (h:FreeTo n es fs a b) (c:n<=100):fs.length<=10000:=PsOk.len ⟨h.rise.nodup,fun p d=>by have:=(h.mem p).mp d;omega⟩ c
theorem FreeTo.skip {n a b c d:Int} {es fs:List (Int × Int)} (h:FreeTo n es fs a b) (m:∀ p:Int × Int,0<=p.1->p.1 < p.2->p.2 < n->p ∉ es->(ltP p (c,d) ↔ ltP p (a,b))):FreeTo n es fs c d :=
 ⟨fun p=>by
  rw [h.mem]
  constructor
  ·rintro ⟨g,f,j,i,l⟩;exact ⟨g,f,j,i,(m p g f j i).mpr l⟩
  ·rintro ⟨g,f,j,i,l⟩;exact ⟨g,f,j,i,(m p g f j i).mp l⟩,h.rise⟩
theorem FreeTo.snoc {n a b c:Int} {es fs:List (Int × Int)} (h:FreeTo n es fs a b) (u:0<=a) (s:a < b) (r:b < n) (v:(a,b) ∉ es) (m:c=b+1):FreeTo n es (fs ++ [(a,b)]) a c:=by
 subst m
 refine ⟨fun p=>?_,aC8.mpr ⟨h.rise,List.pairwise_singleton _ _,fun p o q l=>?_⟩⟩
 ·rw [aA7,h.mem,aC1]
  constructor
  ·rintro (⟨f,i,g,j,d⟩ | rfl)
   ·exact ⟨f,i,g,j,azg d (by omega)⟩
   ·exact ⟨u,s,r,v,.inr ⟨rfl,by simp only;omega⟩⟩
  ·rintro ⟨f,i,g,j,d⟩
   by_cases e:p=(a,b)
   ·exact .inr e
   ·refine .inl ⟨f,i,g,j,?_⟩
    rcases d with d | ⟨d,w⟩
    ·exact .inl d
    ·refine .inr ⟨d,?_⟩
     simp only at *
     have:p.2 ≠ b:=fun e2=>e (Prod.ext d e2)
     omega
 ·have:q=(a,b):=by simpa using l
  subst this;exact ((h.mem p).mp o).2.2.2.2
def azh:VP:=fun ss Q=>∃ (n:Int) (es:List (Int × Int)),ss=[.st (webD n es)]/\0<=n/\n<=100/\∀ fs,FreeAll n es fs->Q (.own (OL (fs.map prD)))
section
variable {P:Program} {w:World} {K:Frag} {mg:Str->Option Value} {base:Heap}
theorem sc_law_copy:FnScope ["web"] ["web"] (aal s_law_copy):=by row_cond sc
theorem amy (T:Txt K mg):Can P w K mg base "_law_copy" 1 ["web"] (spP K (azf)):=by
 obtain ⟨f,fd,D⟩:=T.d_law_copy
 refine D.can (D.fn.ok sc_law_copy (fun vs H Q E h=>lenP h fun ss c q=>by obtain ⟨n,es,rfl,b,k⟩:=q;rfl) (fun cdv A outer s H vs Q E g h=>?_))
 have nd:=sc_law_copy.nd
 refine ⟨_,(aag (aa2 (abg (aaa (aao aap (pv 0) aac (fun _ _=>rfl)) (aaa (aem air (by rfl) T.b_list agn (aaa (aao aap (pv 0) aac (fun _ _=>rfl)) aab)) aab))))),?_⟩
 refine abf h fun ss c q B d=>?_
 refine exS2 ss q fun n es a=>?_
 have b:=a.1
 have k:=a.2
 clear a q
 show EvS B _ _ [some (.st (webD n es))]
 repeat (first | (refine ats ?_) | row_cond st)
 exact ⟨_,rfl,k⟩
theorem sc_law_free:FnScope ["web","found","a","b"] ["web"] (aal s_law_free):=by row_cond sc
theorem amz (T:Txt K mg):Can P w K mg base "_law_free" 1 ["web"] (spP K (azh)):=by
 obtain ⟨f,fd,D⟩:=T.d_law_free
 refine D.can (D.fn.ok sc_law_free (fun vs H Q E h=>lenP h fun ss G q=>by obtain ⟨n,es,rfl,u,hn,k⟩:=q;rfl) (fun cdv A outer s H vs Q E I h=>?_))
 have nd:=sc_law_free.nd
 refine ⟨_,(aad (aam (i:=1) nd rfl (Or.inl rfl) (aa3 aab))
  (aad (aa9 aI5 rfl (aa0 rfl T.b_range (aaa (aao aap (pv 0) aac (fun _ _=>rfl)) aab)) (aai (i:=2) nd rfl (Or.inl rfl))
   (aag (aa9 aI5 rfl (adp rfl T.b_range (aaa (aaf aaq (pv 2) aac) (aaa (aao aap (pv 0) aac (fun _ _=>rfl)) aab))) (aai (i:=3) nd rfl (Or.inl rfl))
     (aag (ab5 (aa6 (af7 I.units) (abg (aaa (pv 2) (aaa (pv 3) aab))) (aao aap (pv 0) aac (fun _ _=>rfl)) rfl)
       (aag (aaz (abx PySem.F.plainAttrs_list PySem.F.slot_list_append PySem.F.type_list_append aa1 (pv 1) (aaa (abg (aaa (pv 2) (aaa (pv 3) aab))) aab))))
       abo)))))
  (aag (aa2 (pv 1))))),?_⟩
 refine abf h fun ss G q B N=>?_
 refine exS2 ss q fun n es a=>?_
 have u:=a.1
 have hn:=a.2.1
 have k:=a.2.2
 clear a q
 show EvS B _ _ [some (.st (webD n es)),none,none,none]
 row_cond go
 refine abb (fun i e=>∃ v d fs,e=[some (.st (webD n es)),some (.own (OL (fs.map prD))),v,d]/\FreeTo n es fs (i:Int) ((i:Int)+1)) ⟨none,none,[],rfl,⟨fun p=>?_,List.Pairwise.nil⟩⟩ ?_ ?_
 ·simp only [aH4,false_iff,ltP]
  rintro ⟨m,l,o,g,y⟩
  push_cast at y
  omega
 ·rintro i e hi b
  refine exS3 e b fun v d fs a=>?_
  have c:=a
  clear a b
  have C:0+(i:Int) < n:=by omega
  row_cond go
  refine abb (fun j e=>∃ d fs,e=[some (.st (webD n es)),some (.own (OL (fs.map prD))),some (.st (.int (0+(i:Int)))),d]/\FreeTo n es fs (0+(i:Int)) (0+(i:Int)+1+j)) ⟨_,fs,rfl,?_⟩ ?_ ?_
  ·rw [aH6];simpa using c
  ·clear c fs d
   rintro j e hj b
   refine exS2 e b fun d fs a=>?_
   have c:=a
   clear a b
   have r:0+(i:Int)+1+(j:Int) < n:=by omega
   row_cond go
   refine ajp (akc (_,_)) (ad0 es) (aC9 (aex (_,_)) (by decide)) ?_
   row_cond go
   rw [aE5 rfl,show PyData.tuple [PyData.int (0+(i:Int)),PyData.int (0+(i:Int)+1+(j:Int))]=prD (0+(i:Int),0+(i:Int)+1+(j:Int)) from rfl,aoi]
   have L:=c.len hn
   by_cases hm:(0+(i:Int),0+(i:Int)+1+(j:Int))∈es
   ·rw [aD4 hm]
    row_cond go
    refine ⟨_,fs,rfl,c.skip fun p z M J x=>?_⟩
    have:p ≠ (0+(i:Int),0+(i:Int)+1+(j:Int)):=fun e=>x (e ▸ hm)
    have:¬ (p.1=0+(i:Int)/\p.2=0+(i:Int)+1+(j:Int)):=fun e=>this (Prod.ext e.1 e.2)
    unfold ltP
    push_cast
    omega
   ·rw [aD3 hm]
    row_cond go
    rw [aw5]
    exact ⟨_,_,rfl,c.snoc (by omega) (by omega) r hm (by push_cast;omega)⟩
  ·rintro e b
   refine exS2 e b fun d fs a=>?_
   have c:=a
   clear a b
   refine ⟨_,_,fs,rfl,c.skip fun p z M J x=>?_⟩
   unfold ltP
   push_cast
   omega
 ·rintro e b
  refine exS3 e b fun v d fs a=>?_
  have c:=a
  clear a b
  row_cond go
  refine k fs ⟨fun p=>?_,c.rise⟩
  rw [c.mem]
  constructor
  ·rintro ⟨m,l,o,g,_⟩;exact ⟨m,l,o,g⟩
  ·rintro ⟨m,l,o,g⟩;exact ⟨m,l,o,g,.inl (by simp only;omega)⟩
end
def rowE (line:List Int) (ds:List Nat):List (Key × PyData):=(line.zip ds).map fun p=>(Sum.inl p.1,.int (p.2:Int))
theorem ah2 {line:List Int} {ds:List Nat} (j:ds.length=line.length) (nd:line.Nodup) {i:Nat} {v:Int} {d:Nat} (f:line[i]?=some v) (hd:ds[i]?=some d):valD (rowE line ds) (Sum.inl v)=some (.int (d:Int)):=by
 induction line generalizing ds i with
 | nil=>simp at f
 | cons a line ih =>
  cases ds with
  | nil=>simp at j
  | cons b ds =>
   unfold rowE valD
   simp only [List.zip_cons_cons,aD0,List.find?_cons]
   cases i with
   | zero =>
    simp at f hd
    subst f hd
    simp
   | succ i =>
    have c:line[i]?=some v:=by simpa using f
    have g:a ≠ v:=fun e=>(aH5.mp nd).1 (e ▸ aA2 c)
    rw [show decide ((Sum.inl a:Key)=Sum.inl v)=false from aD3 fun h=>g (Sum.inl.inj h)]
    exact ih (by simpa using j) (aH5.mp nd).2 c (by simpa using hd)
theorem aru {line:List Int} {ds:List Nat} {v:Int} (h:v ∉ line):valD (rowE line ds) (Sum.inl v)=none:=by
 induction line generalizing ds with
 | nil=>simp [rowE,valD]
 | cons a line ih =>
  cases ds with
  | nil=>simp [rowE,valD]
  | cons b ds =>
   unfold rowE valD
   simp only [List.zip_cons_cons,aD0,List.find?_cons]
   have c:a ≠ v:=fun e=>h (e ▸ aB7)
   rw [show decide ((Sum.inl a:Key)=Sum.inl v)=false from aD3 fun h=>c (Sum.inl.inj h)]
   exact ih fun hm=>h (aB4 _ hm)
theorem atw {line:List Int} {ds:List Nat} {v:Int} {d:Nat} (b:ds.length=line.length) (h:v ∉ line):putD (rowE line ds) (Sum.inl v) (.int (d:Int))=rowE (line ++ [v]) (ds ++ [d]):=by
 have:(rowE line ds).any (fun e=>decide (e.1=(Sum.inl v:Key)))=false:=by
  rw [List.any_eq_false]
  intro e a hd
  obtain ⟨p,f,rfl⟩:=aB6.mp a
  have:p.1=v:=by
   have c:(Sum.inl p.1:Key)=Sum.inl v:=of_decide_eq_true hd
   exact Sum.inl.inj c
  exact h (this ▸ (List.of_mem_zip f).1)
 unfold putD
 rw [aE6 (by rw [this];simp)]
 unfold rowE
 rw [List.zip_append b.symm,aD7]
 rfl
theorem am0 {line:List Int} {ds:List Nat} (a:ds.length=line.length):(rowE line ds).length=line.length:=by simp [rowE,a]
theorem ai3:∀ (ns:List Int),aat (.list (ns.map .int))=true
 | []=>rfl
 | a :: ns=>by have:=ai3 ns;simp only [aat,aD0,plainDs] at *;simp [this]
theorem apq (ns:List Int):(PyData.list (ns.map .int)).depth<=60:=by
 have:PyData.depthAll (ns.map .int)<=1:=ae2 fun d hd=>by
  obtain ⟨_,_,rfl⟩:=aB6.mp hd
  simp [PyData.depth]
 simp only [PyData.depth]
 omega
theorem am1 {n:Int} {line:List Int} (nd:line.Nodup) (h:∀ v∈line,0<=v/\v < n):line.length<=n.toNat * n.toNat:=by
 have:=agb (n:=n.toNat) (es:=line.map fun v=>(v,(0:Int))) (aF1.mpr (nd.imp fun a e=>a (by simpa using e))) fun p c=>by
  obtain ⟨v,b,rfl⟩:=aB6.mp c
  have:=h v b
  simp only
  omega
 simpa using this
theorem a0e {n:Int} (h:n<=100):n.toNat * n.toNat<=10000:=Nat.mul_le_mul (show n.toNat<=100 by omega) (show n.toNat<=100 by omega)
section
variable {P:Program} {w:World} {K:Frag} {mg:Str->Option Value} {base:Heap}
theorem sc_law_rows:FnScope ["web","n","ties","beside","a","b","found","first","row","waiting","here","there"] ["web"] (aal s_law_rows):=by row_cond sc
theorem am2 (T:Txt K mg):Can P w K mg base "_law_rows" 1 ["web"] (spP K (aro)):=by
 obtain ⟨f,fd,D⟩:=T.d_law_rows
 refine D.can (D.fn.ok sc_law_rows (fun vs H Q E h=>lenP h fun ss Q' q=>by obtain ⟨n,es,rfl,n0,n1,W,a5,hJ,k⟩:=q;rfl) (fun cdv A outer s H vs Q E hr h=>?_))
 have nd:=sc_law_rows.nd
 refine ⟨_,(aad (act (pv 0) (ab6 rfl (aau (aai (i:=1) nd rfl (Or.inl rfl)) (aau (aai (i:=2) nd rfl (Or.inl rfl)) abp))))
  (aad (ahg (i:=3) nd rfl (Or.inl rfl) rfl (N:=["k"]) (src:=[none]) (by exact abn rfl rfl rfl rfl rfl rfl) (aa0 rfl T.b_range (aaa (pv 1) aab)) (fun _ _ _ _=>(aai (i:=0) (show List.Nodup (["k"]:List Str) by decide +kernel) rfl (Or.inl rfl) (hf:=Or.inr rfl))) (fun _ _ _ _=>abm) (fun _ _ _ _=>(aa3 aab)))
  (aad (aa9 aI5 rfl (abw (pv 2)) (ab6 rfl (aau (aai (i:=4) nd rfl (Or.inl rfl)) (aau (aai (i:=5) nd rfl (Or.inl rfl)) abp)))
   (aad (aaz (abx PySem.F.plainAttrs_list PySem.F.slot_list_append PySem.F.type_list_append aa1 (aao aap (pv 3) (pv 4) (fun _ _=>rfl)) (aaa (pv 5) aab)))
    (aag (aaz (abx PySem.F.plainAttrs_list PySem.F.slot_list_append PySem.F.type_list_append aa1 (aao aap (pv 3) (pv 5) (fun _ _=>rfl)) (aaa (pv 4) aab))))))
  (aad (aam (i:=6) nd rfl (Or.inl rfl) (aa3 aab))
  (aad (aa9 aI5 rfl (aa0 rfl T.b_range (aaa (pv 1) aab)) (aai (i:=7) nd rfl (Or.inl rfl))
   (aad (aam (i:=8) nd rfl (Or.inr rfl) (au6 (ar7 (pv 7) aac au5) rfl rfl (by simp) (by decide)))
    (aad (aam (i:=9) nd rfl (Or.inl rfl) (aa3 (aaa (pv 7) aab)))
    (aad (aha aI5 (aa6 (afa hr.units) (pv 9) (aa3 aab) (aa7 _))
     (aad (aam (i:=10) nd rfl (Or.inl rfl) (abx PySem.F.plainAttrs_list PySem.F.slot_list_pop PySem.F.type_list_pop ahd (pv 9) (aaa aac aab)))
      (aag (aa9 aI5 rfl (abw (aao aap (pv 3) (pv 10) (fun _ _=>rfl))) (aai (i:=11) nd rfl (Or.inl rfl))
       (aag (ab5 (axg (aqa (aen hr) (pv 11) (pv 8)))
         (aad (ae6 (aen hr) (pv 8) (pv 11) (aaf aaq (au4 (aen hr) (pv 8) (pv 10) (fun _ _=>rfl)) aac) rfl)
          (aag (aaz (abx PySem.F.plainAttrs_list PySem.F.slot_list_append PySem.F.type_list_append aa1 (pv 9) (aaa (pv 11) aab)))))
         abo))))))
    (aag (aaz (abx PySem.F.plainAttrs_list PySem.F.slot_list_append PySem.F.type_list_append aa1 (pv 6) (aaa (ac1 rfl (N:=["place","row"]) (src:=[none,some 8]) (by exact abn rfl rfl rfl rfl rfl rfl) (aa0 rfl T.b_range (aaa (pv 1) aab)) (fun _ _ _ _=>(aai (i:=0) (show List.Nodup (["place","row"]:List Str) by decide +kernel) rfl (Or.inl rfl) (hf:=Or.inr rfl))) (fun _ _ _ _=>abm) (fun _ _ _ _=>(ar8 (aen hr) (pv 1) (pv 0) ⟨rfl,rfl,rfl,rfl⟩))) aab))))))))
  (aag (aa2 (pv 6)))))))),?_⟩
 refine abf h fun ss Q' q B hK=>?_
 refine exS2 ss q fun n es c=>?_
 have n0:=c.1
 have n1:=c.2.1
 have W:=c.2.2.1
 have a5:=c.2.2.2.1
 have hJ:=c.2.2.2.2.1
 have k:=c.2.2.2.2.2
 clear c q
 show EvS B _ _ [some (.st (webD n es)),none,none,none,none,none,none,none,none,none,none,none]
 row_cond go
 rw [ab0]
 refine ⟨by omega,?_⟩
 row_cond go
 refine adk (fun i e=>∃ Y Z tl,e=[some (.st (webD n es)),some (.st (.int n)),some (.st (.list (es.map prD))),some (.own (OLL (tlD tl))),Y,Z,none,none,none,none,none,none]/\TiedL n (Tied (es.take i)) tl/\∀ r∈tl,r.length<=2 * i)
  ⟨none,none,List.replicate n.toNat [],by simp [tlD],⟨by simp;omega,fun i r hi w=>?_⟩,fun r hw=>?_⟩ ?_ ?_
 ·rw [aG7] at hi
  split at hi
  ·cases hi;simp [Tied]
  ·cases hi
 ·have:=List.eq_of_mem_replicate hw
  subst this;simp
 ·rintro i ⟨a,b⟩ e p g
  refine exS3 e g fun Y Z tl c=>?_
  have X:=c.1
  have G:=c.2
  clear c g
  have hi:i < es.length:=(aA1.mp p).1
  obtain ⟨a0,a1,b0,b1⟩:=W _ (aA2 p)
  dsimp only at a0 a1 b0 b1
  row_cond go
  obtain ⟨r,y,_⟩:=X.get a0 a1
  have l1:=G r (aA2 y)
  refine adz (n:=a.toNat) (ds:=r.map .int) rfl rfl rfl (by rw [aA3];exact afh a0 (by rw [X.1];exact a1)) (aea y) (by rw [aA3];omega) ?_
  dsimp only [List.set_cons_zero,List.set_cons_succ]
  have t2:=X.put (q:=b) a0 a1 y
  rw [show r.map PyData.int ++ [.int b]=(r ++ [b]).map .int by simp,agu]
  have z:∀ us∈tl.set a.toNat (r ++ [b]),us.length<=2 * i+1:=fun us hu=>by
   rcases List.mem_or_eq_of_mem_set hu with h | h
   ·have:=G us h;omega
   ·subst h;simp;omega
  generalize tl.set a.toNat (r ++ [b])=tl2 at t2 z
  row_cond go
  obtain ⟨r,y,_⟩:=t2.get b0 b1
  have l1:=z r (aA2 y)
  refine adz (n:=b.toNat) (ds:=r.map .int) rfl rfl rfl (by rw [aA3];exact afh b0 (by rw [t2.1];exact b1)) (aea y) (by rw [aA3];omega) ?_
  dsimp only [List.set_cons_zero,List.set_cons_succ]
  rw [show r.map PyData.int ++ [.int a]=(r ++ [a]).map .int by simp,agu]
  refine ⟨_,_,_,rfl,(t2.put (q:=a) b0 b1 y).iff fun u v=>(Tied.snoc p u v).symm,fun us hu=>?_⟩
  rcases List.mem_or_eq_of_mem_set hu with h | h
  ·have:=z us h;omega
  ·subst h;simp;omega
 ·rintro e g
  refine exS3 e g fun Y Z tl c=>?_
  have X:=c.1
  have G:=c.2
  clear c g
  rw [aF8] at X
  row_cond go
  have a2:∀ u v:Int,Tied es u v->0<=v/\v < n:=fun u v h=>(h.in W).2
  refine abb (fun i e=>∃ s3 v7 v8 v9 C o,e=[some (.st (webD n es)),some (.st (.int n)),some (.st (.list (es.map prD))),some s3,Y,Z,some (.own (OL ((List.range i).map fun (u:Nat)=>PyData.list (rowD n.toNat (dsF es (u:Int)))))),v7,v8,v9,C,o]/\(s3=.own (OLL (tlD tl))\/s3=.st (.list ((tlD tl).map .list)))) ⟨_,_,_,_,_,_,rfl,.inl rfl⟩ ?_ ?_
  ·rintro i e hi g
   refine exS6 e g fun s3 v7 v8 v9 C o c=>?_
   have h3:=c
   clear c g
   refine aar ?_
   dsimp only [List.set_cons_zero,List.set_cons_succ]
   refine atj 3 h3 rfl afg ?_
   dsimp only [List.set_cons_zero,List.set_cons_succ]
   row_cond go
   refine arh rfl ?_
   row_cond go
   refine af9 (fun mm e=>∃ line ds at_ C o,e=[some (.st (webD n es)),some (.st (.int n)),some (.st (.list (es.map prD))),some (.st (.list ((tlD tl).map .list))),Y,Z,some (.own (OL ((List.range i).map fun (u:Nat)=>PyData.list (rowD n.toNat (dsF es (u:Int)))))),some (.st (.int (0+(i:Int)))),some (.own (OD (rowE line ds))),some (.own (OL ((line.drop at_).map .int))),C,o]/\Gr.Bfs (Tied es) (0+(i:Int)) line ds at_/\(∀ v∈line,0<=v/\v < n)/\mm=n.toNat * n.toNat - at_) ⟨_,[0+(i:Int)],[0],0,_,_,rfl,Gr.Bfs.start _ _,fun v M=>?_,rfl⟩ ?_
   ·have:v=0+(i:Int):=by simpa using M
    omega
   rintro mm e g
   refine exS5 e g fun line ds at_ C o c=>?_
   have m:=c.1
   have R:=c.2.1
   have a6:=c.2.2
   clear c g
   subst a6
   row_cond go
   refine ad7 (ai3 _) rfl (apq _) ?_
   cases hdr:line.drop at_ with
   | nil =>
    rw [show PyData.eqv (.list (([]:List Int).map .int)) (.list [])=true from rfl]
    repeat (first | (refine ad8 8 rfl aqq ?_) | row_cond st)
    dsimp only [List.set_cons_zero,List.set_cons_succ]
    have l:at_=line.length:=by have:=List.drop_eq_nil_iff.mp hdr;have:=m.le;omega
    subst l
    have a9:rowE line ds ≠ []:=by
     have:=am0 m.len
     intro e0
     rw [e0] at this
     have h0:=(aA1.mp m.fst).1
     simp at this
     omega
    unfold rngD
    refine ael (fun u:Nat => .int (dsF es (i:Int) (u:Int))) rfl (by simp;omega) (fun u hu B' S=>?_) ?_
    ·have b6:(u:Int) < n:=by have:=aB8.mp hu;omega
     refine arj a9 rfl ?_
     row_cond go
     refine ⟨.inl (0+(u:Int)),rfl,?_⟩
     obtain ⟨q,hw⟩:=hJ.conn (0+(i:Int)) (0+(u:Int)) (by omega) (by omega) (by omega) (by omega)
     obtain ⟨j,hj,ej⟩:=aG6.mp (m.fin q _ hw)
     have e1:line[j]?=some (0+(u:Int)):=by rw [aA0 hj,ej]
     obtain ⟨dd,e2⟩:∃ dd,ds[j]?=some dd:=⟨_,aA0 (by rw [m.len];exact hj)⟩
     have hd:=m.dist j _ _ e1 e2
     rw [ah2 m.len m.nd e1 e2]
     refine ⟨?_,rfl⟩
     rw [aH6,aH6] at hd
     simp only [Option.getD_some,dsF,Gr.farO_some.mpr hd]
    ·refine ⟨_,rfl,by simp;omega,?_⟩
     dsimp only [List.set_cons_zero,List.set_cons_succ]
     rw [show ((List.range i).map fun (u:Nat)=>PyData.list (rowD n.toNat (dsF es (u:Int)))) ++ [PyData.list ((List.range n.toNat).map fun (u:Nat)=>PyData.int (dsF es (i:Int) (u:Int)))]=(List.range (i+1)).map fun (u:Nat)=>PyData.list (rowD n.toNat (dsF es (u:Int))) by rw [List.range_succ,aD7];rfl]
     exact ⟨_,_,_,_,_,_,rfl,.inr rfl⟩
   | cons here rest =>
    rw [show PyData.eqv (.list ((here :: rest).map .int)) (.list [])=false from rfl]
    row_cond go
    refine ⟨_,(here :: rest).map .int,0,0,.int here,rfl,rfl,.inl rfl,by decide,by decide,by simp [seqIndex?],rfl,?_⟩
    dsimp only [List.set_cons_zero,List.set_cons_succ,reS,List.map_cons,List.eraseIdx_cons_zero]
    have l:line[at_]?=some here:=by
     have:=congrArg (·[0]?) hdr
     simpa using this
    have O:rest=line.drop (at_+1):=by
     have:=congrArg List.tail hdr
     simpa using this.symm
    have hh:=R here (aA2 l)
    obtain ⟨r,y,J⟩:=X.get hh.1 hh.2
    have b4:atI ((tlD tl).map PyData.list) here=some (.list (r.map .int)):=aga (f:=PyData.list) (aiq hh.1 (aea y))
    subst O
    row_cond go
    refine adk (fun j e=>∃ line ds o,e=[some (.st (webD n es)),some (.st (.int n)),some (.st (.list (es.map prD))),some (.st (.list ((tlD tl).map .list))),Y,Z,some (.own (OL ((List.range i).map fun (u:Nat)=>PyData.list (rowD n.toNat (dsF es (u:Int)))))),some (.st (.int (0+(i:Int)))),some (.own (OD (rowE line ds))),some (.own (OL ((line.drop (at_+1)).map .int))),some (.st (.int here)),o]/\Gr.Bfs (Tied es) (0+(i:Int)) line ds at_/\(∀ v∈line,0<=v/\v < n)/\line[at_]?=some here/\∀ x∈r.take j,x∈line) ⟨line,ds,_,rfl,m,R,l,fun x p=>by simp at p⟩ ?_ ?_
    ·clear m R l hdr
     rintro j there e hj g
     refine exS3 e g fun line ds o c=>?_
     have m:=c.1
     have R:=c.2.1
     have l:=c.2.2.1
     have htk:=c.2.2.2
     clear c g
     have hT:Tied es here there:=(J there).mp (aA2 hj)
     have a4:r.take (j+1)=r.take j ++ [there]:=by rw [aG4,hj];rfl
     have a7:=aC9 (am1 m.nd R) (a0e n1)
     have b5:=am0 m.len
     have U:at_ < line.length:=(aA1.mp l).1
     obtain ⟨d,hd⟩:∃ d,ds[at_]?=some d:=⟨_,aA0 (by rw [m.len];exact U)⟩
     have M:=ah2 m.len m.nd l hd
     have b3:((line.drop (at_+1)).map PyData.int).length<=999999:=by simp;omega
     have b2:(rowE line ds).length<=999999:=by omega
     row_cond go
     by_cases hm:there∈line
     ·obtain ⟨q,hq,eq⟩:=aG6.mp hm
      have e1:line[q]?=some there:=by rw [aA0 hq,eq]
      obtain ⟨dd,e2⟩:∃ dd,ds[q]?=some dd:=⟨_,aA0 (by rw [m.len];exact hq)⟩
      rw [ah2 m.len m.nd e1 e2]
      refine acp ?_
      row_cond go
      refine ⟨line,ds,_,rfl,m,R,l,fun x p=>?_⟩
      rw [a4] at p
      rcases aA7.mp p with p | p
      ·exact htk x p
      ·have:x=there:=by simpa using p
       rw [this];exact hm
     ·rw [aru hm]
      refine an5 ?_
      row_cond go
      rw [show ((d:Int)+1)=((d+1:Nat):Int) by push_cast;rfl,atw m.len hm,show (line.drop (at_+1)).map PyData.int ++ [PyData.int there]=((line ++ [there]).drop (at_+1)).map .int by rw [List.drop_append_of_le_length (by omega),aD7];rfl]
      refine ⟨line ++ [there],ds ++ [d+1],_,rfl,m.add l hd hT hm,fun v M=>?_,by rw [aC2 U];exact l,fun x p=>?_⟩
      ·rcases aA7.mp M with M | M
       ·exact R v M
       ·have:v=there:=by simpa using M
        rw [this];exact a2 here there hT
      ·rw [a4] at p
       rcases aA7.mp p with p | p
       ·exact aA7.mpr (.inl (htk x p))
       ·exact aA7.mpr (.inr p)
    ·rintro e g
     refine exS3 e g fun I a8 o c=>?_
     have S:=c.1
     have a3:=c.2.1
     have L:=c.2.2.1
     have htk:=c.2.2.2
     clear c g
     rw [aF8] at htk
     have U:at_ < I.length:=(aA1.mp L).1
     have a7:=am1 S.nd a3
     exact ⟨n.toNat * n.toNat - (at_+1),by omega,I,a8,at_+1,_,_,rfl,S.next L fun x p=>htk x ((J x).mpr p),a3,rfl⟩
  ·rintro e g
   refine exS6 e g fun s3 v7 v8 v9 C o c=>?_
   have h3:=c
   clear c g
   row_cond go
   exact k
end
theorem aw6 {n:Int} {es:List (Int × Int)} (a:Joined n es) {u c x:Int} (d:0<=u) (g:u < n) (f:0<=c) (h:c < n) (b:0<=x) (i:x < n):dsF es u x<=dsF es u c+dsF es c x:=by
 obtain ⟨o,l⟩:=ad1 a d g b i
 obtain ⟨p,e2⟩:=ad1 a d g f h
 obtain ⟨m,j⟩:=ad1 a f h b i
 have:=(Gr.farO_some.mp l).2 _ ((Gr.farO_some.mp e2).1.app (Gr.farO_some.mp j).1)
 simp only [dsF,l,e2,j,Option.getD_some]
 omega
def arv:VP:=fun ss Q=>∃ (n:Nat) (m:Int->Int->Int) (a b:Int),ss=[.st (.list (matD n m)),.st (prD (a,b))]/\n<=1000/\0<=a/\a < n/\0<=b/\b < n/\(∀ u c x:Int,0<=u->u < n->0<=c->c < n->0<=x->x < n->m u x<=m u c+m c x)/\Q (.own (OL (matD n fun u=>rwF m (m u) a b)))
theorem azi {m:Int->Int->Int} {r:Int->Int} {a b x y:Int} (n:r x<=r a+m a x) (j:r x<=r b+m b x)
  (hm:ao6 [r x,(if r b+1 < r a then r b+1 else r a)+m a x,(if r a+1 < r b then r a+1 else r b)+m b x] y):y=rwF m r a b x:=by
 obtain ⟨d,c⟩:=hm
 have g:(if r b+1 < r a then r b+1 else r a)<=r b+1/\(if r b+1 < r a then r b+1 else r a)<=r a/\((if r b+1 < r a then r b+1 else r a)=r b+1\/(if r b+1 < r a then r b+1 else r a)=r a):=by split <;> omega
 have f:(if r a+1 < r b then r a+1 else r b)<=r a+1/\(if r a+1 < r b then r a+1 else r b)<=r b/\((if r a+1 < r b then r a+1 else r b)=r a+1\/(if r a+1 < r b then r a+1 else r b)=r b):=by split <;> omega
 generalize (if r b+1 < r a then r b+1 else r a)=p at g d c
 generalize (if r a+1 < r b then r a+1 else r b)=q at f d c
 have h:=c (r x) (by simp)
 have l:=c (p+m a x) (by simp)
 have i:=c (q+m b x) (by simp)
 simp only [aA8,aH4,or_false] at d
 clear c
 unfold rwF
 split <;> split <;> omega
section
variable {P:Program} {w:World} {K:Frag} {mg:Str->Option Value} {base:Heap}
theorem sc_law_with:FnScope ["rows","tie","a","b","found","row","near","far","some","x"] ["rows","tie"] (aal s_law_with):=by row_cond sc
theorem am3 (T:Txt K mg):Can P w K mg base "_law_with" 1 ["rows","tie"] (spP K (arv)):=by
 obtain ⟨f,fd,D⟩:=T.d_law_with
 refine D.can (D.fn.ok sc_law_with (fun vs H Q E h=>lenP h fun ss R q=>by obtain ⟨n,m,a,b,rfl,M,a0,p,b0,o,tri,k⟩:=q;rfl) (fun cdv A outer s H vs Q E hr h=>?_))
 have nd:=sc_law_with.nd
 refine ⟨_,(aad (act (pv 1) (ab6 rfl (aau (aai (i:=2) nd rfl (Or.inl rfl)) (aau (aai (i:=3) nd rfl (Or.inl rfl)) abp))))
  (aad (aam (i:=4) nd rfl (Or.inl rfl) (aa3 aab))
  (aad (aa9 aI5 rfl (abw (pv 0)) (aai (i:=5) nd rfl (Or.inl rfl))
   (aad (aam (i:=6) nd rfl (Or.inl rfl) (aaw (ac9 rfl) (by rfl) T.b_min ae9 (aaa (aao aap (pv 5) (pv 2) (fun _ _=>rfl)) (aaa (aaf aaq (aao aap (pv 5) (pv 3) (fun _ _=>rfl)) aac) aab))))
    (aad (aam (i:=7) nd rfl (Or.inl rfl) (aaw (ac9 rfl) (by rfl) T.b_min ae9 (aaa (aao aap (pv 5) (pv 3) (fun _ _=>rfl)) (aaa (aaf aaq (aao aap (pv 5) (pv 2) (fun _ _=>rfl)) aac) aab))))
    (aad (aam (i:=8) nd rfl (Or.inl rfl) (aa3 aab))
    (aad (aa9 aI5 rfl (aa0 rfl T.b_range (aaa (aaw ack (by rfl) T.b_len adq (aaa (pv 5) aab)) aab)) (aai (i:=9) nd rfl (Or.inl rfl))
     (aag (aaz (abx PySem.F.plainAttrs_list PySem.F.slot_list_append PySem.F.type_list_append aa1 (pv 8) (aaa (aaw (aqp rfl) (by rfl) T.b_min ae9 (aaa (aao aap (pv 5) (pv 9) (fun _ _=>rfl)) (aaa (aaf aaq (pv 6) (aao aap (aao aap (pv 0) (pv 2) (fun _ _=>rfl)) (pv 9) (fun _ _=>rfl))) (aaa (aaf aaq (pv 7) (aao aap (aao aap (pv 0) (pv 3) (fun _ _=>rfl)) (pv 9) (fun _ _=>rfl))) aab)))) aab)))))
    (aag (aaz (abx PySem.F.plainAttrs_list PySem.F.slot_list_append PySem.F.type_list_append aa1 (pv 4) (aaa (pv 8) aab)))))))))
  (aag (aa2 (pv 4)))))),?_⟩
 refine abf h fun ss R q B Y=>?_
 refine exS4 ss q fun n m a b d=>?_
 have M:=d.1
 have a0:=d.2.1
 have p:=d.2.2.1
 have b0:=d.2.2.2.1
 have o:=d.2.2.2.2.1
 have tri:=d.2.2.2.2.2.1
 have k:=d.2.2.2.2.2.2
 clear d q
 show EvS B _ _ [some (.st (.list (matD n m))),some (.st (prD (a,b))),none,none,none,none,none,none,none,none]
 have ma:=aiz (m:=m) a0 p
 have mb:=aiz (m:=m) b0 o
 row_cond go
 rw [show matD n m=(List.range n).map fun (u:Nat)=>PyData.list (rowD n (m (u:Int))) from rfl]
 refine adk (fun i e=>∃ J x z C l,e=[some (.st (.list (matD n m))),some (.st (prD (a,b))),some (.st (.int a)),some (.st (.int b)),some (.own (OL ((List.range i).map fun (u:Nat)=>PyData.list (rowD n (rwF m (m (u:Int)) a b))))),J,x,z,C,l]) ⟨_,_,_,_,_,rfl⟩ ?_ ?_
 ·rintro i u e I c
  refine exE5 e c fun J x z C l=>?_
  clear c
  obtain ⟨hi,I⟩:=aA1.mp I
  have O:i < n:=by simpa using hi
  have:u=i:=by simpa using I.symm
  subst this
  have U:=aek (r:=m (u:Int)) a0 p
  have rb:=aek (r:=m (u:Int)) b0 o
  have L:=aom (n:=n) (r:=m (u:Int))
  row_cond go
  rw [L]
  refine abb (fun j e=>∃ l,e=[some (.st (.list (matD n m))),some (.st (prD (a,b))),some (.st (.int a)),some (.st (.int b)),some (.own (OL ((List.range u).map fun (u:Nat)=>PyData.list (rowD n (rwF m (m (u:Int)) a b))))),some (.st (.list (rowD n (m (u:Int))))),some (.st (.int (if m (u:Int) b+1 < m (u:Int) a then m (u:Int) b+1 else m (u:Int) a))),some (.st (.int (if m (u:Int) a+1 < m (u:Int) b then m (u:Int) a+1 else m (u:Int) b))),some (.own (OL (rowD j (rwF m (m (u:Int)) a b)))),l]) ⟨_,rfl⟩ ?_ ?_
  ·rintro j e hj c
   refine exE1 e c fun l=>?_
   clear c
   have g:0+(j:Int) < n:=by omega
   have Z:=aek (r:=m (u:Int)) (show 0<=0+(j:Int) by omega) g
   have X:=aek (r:=m a) (show 0<=0+(j:Int) by omega) g
   have W:=aek (r:=m b) (show 0<=0+(j:Int) by omega) g
   have G:=aom (n:=j) (r:=rwF m (m (u:Int)) a b)
   row_cond go
   refine arf fun y S=>?_
   have N:=azi (tri u a (0+(j:Int)) (by omega) (by omega) a0 p (by omega) g) (tri u b (0+(j:Int)) (by omega) (by omega) b0 o (by omega) g) S
   subst N
   row_cond st
   refine ⟨_,rfl,by rw [G];omega,?_⟩
   dsimp only [List.set_cons_zero,List.set_cons_succ]
   rw [show rowD j (rwF m (m (u:Int)) a b) ++ [PyData.int (rwF m (m (u:Int)) a b (0+(j:Int)))]=rowD (j+1) (rwF m (m (u:Int)) a b) by unfold rowD;rw [List.range_succ,aD7,aH6];rfl]
   exact ⟨_,rfl⟩
  ·rintro e c
   refine exE1 e c fun l=>?_
   clear c
   have v:((List.range u).map fun (u:Nat)=>PyData.list (rowD n (rwF m (m (u:Int)) a b))).length<=999999:=by simp;omega
   rw [show ((n:Nat):Int).toNat=n by omega]
   row_cond go
   refine ⟨_,rfl,v,?_⟩
   rw [show ((List.range u).map fun (u:Nat)=>PyData.list (rowD n (rwF m (m (u:Int)) a b))) ++ [PyData.list (rowD n (rwF m (m (u:Int)) a b))]=(List.range (u+1)).map fun (u:Nat)=>PyData.list (rowD n (rwF m (m (u:Int)) a b)) by rw [List.range_succ,aD7];rfl]
   exact ⟨_,_,_,_,_,rfl⟩
 ·rintro e c
  refine exE5 e c fun J x z C l=>?_
  clear c
  row_cond go
  rw [List.length_range]
  exact k
end
structure TriM (n:Nat) (m:Int->Int->Int):Prop where
 tri:∀ u c x:Int,0<=u->u < n->0<=c->c < n->0<=x->x < n->m u x<=m u c+m c x
 nn:∀ u x:Int,0<=u->u < n->0<=x->x < n->0<=m u x
theorem TriM.with {n:Nat} {m:Int->Int->Int} (h:TriM n m) {p:Int × Int} (a0:0<=p.1) (r:p.1 < n) (b0:0<=p.2) (l:p.2 < n):TriM n (wF m p):=by
 obtain ⟨a,b⟩:=p
 simp only at a0 r b0 l
 have A:∀ u x:Int,0<=u->u < n->0<=x->x < n->wF m (a,b) u x<=m u x/\wF m (a,b) u x<=m u a+1+m b x/\wF m (a,b) u x<=m u b+1+m a x:=fun u x d j i g=>by
  have H:=h.tri u a x d j a0 r i g
  have F:=h.tri u b x d j b0 l i g
  dsimp only [wF,rwF]
  split <;> split <;> omega
 have s:∀ u x:Int,wF m (a,b) u x=m u x\/wF m (a,b) u x=m u a+1+m b x\/wF m (a,b) u x=m u b+1+m a x:=fun u x=>by
  dsimp only [wF,rwF]
  split <;> split <;> omega
 refine ⟨fun u c x d j o q i g=>?_,fun u x d j i g=>?_⟩
 ·obtain ⟨G,p2,B⟩:=A u x d j i g
  have t1:=h.tri u c x d j o q i g
  have E:=h.tri u c a d j o q a0 r
  have I:=h.tri u c b d j o q b0 l
  have K:=h.tri a c x a0 r o q i g
  have D:=h.tri b c x b0 l o q i g
  have C:=h.tri u a x d j a0 r i g
  have J:=h.tri u b x d j b0 l i g
  have w:=h.nn b c b0 l o q
  have z:=h.nn a c a0 r o q
  have v:=h.nn c a o q a0 r
  have y:=h.nn c b o q b0 l
  rcases s u c with e | e | e <;> rcases s c x with f | f | f <;> rw [e,f] <;> omega
 ·have w:=h.nn u x d j i g
  have z:=h.nn u a d j a0 r
  have v:=h.nn b x b0 l i g
  have y:=h.nn u b d j b0 l
  have L:=h.nn a x a0 r i g
  rcases s u x with e | e | e <;> rw [e] <;> omega
theorem azj {n:Int} {es:List (Int × Int)} (a:Joined n es) (g:1<=n):TriM n.toNat (dsF es):=⟨fun u c x b h d j f i=>aw6 a b (by omega) d (by omega) f (by omega),fun u x _ _ _ _=>by unfold dsF;omega⟩
def DrawsOk (ds:List Int):Prop:=∀ x∈ds,0<=x/\x < 10007
theorem DrawsOk.snoc {ds:List Int} {x:Int} (h:DrawsOk ds) (c:0<=x) (b:x < 10007):DrawsOk (ds ++ [x]):=fun y a=>by
 rcases aA7.mp a with a | a
 ·exact h y a
 ·have:y=x:=by simpa using a
  subst this;exact ⟨c,b⟩
theorem atx {xs:List PyData} {lo hi:Option Int} {d:PyData} (h:d∈cutD xs lo hi):d∈xs:=aC3 (aB9 h)
theorem aty {xs:List PyData} {lo hi:Option Int}:(cutD xs lo hi).length<=xs.length:=by unfold cutD;simp;omega
theorem afw (ds:List Int) (x:Int):ds.map PyData.int ++ [.int x]=(ds ++ [x]).map .int:=by simp
def aw7:VP:=fun ss Q=>∃ (ns:List Int) (many:Int),ss=[.scr ns,.st (.int many)]/\ns.length<=63/\0<=many/\many<=1000/\∀ ds:List Int,many<=ds.length->ds.length<=3000->DrawsOk ds->Q (.own (OL (ds.map .int)))
section
variable {P:Program} {w:World} {K:Frag} {mg:Str->Option Value} {base:Heap}
theorem sc_law_draws:FnScope ["script","many","drawn","base","k","cell","number","one"] ["script","many"] (aal s_law_draws):=by row_cond sc
theorem ak1 (T:Txt K mg):Can P w K mg base "_law_draws" 1 ["script","many"] (spP K (aw7)):=by
 obtain ⟨f,fd,D⟩:=T.d_law_draws
 refine D.can (D.fn.ok sc_law_draws (fun vs H Q E h=>lenP h fun ss U q=>by obtain ⟨ns,many,rfl,v,O,X,k⟩:=q;rfl) (fun cdv A outer s H vs Q E hr h=>?_))
 have nd:=sc_law_draws.nd
 refine ⟨_,(aad (aam (i:=2) nd rfl (Or.inl rfl) (aa3 aab))
  (aad (aam (i:=3) nd rfl (Or.inl rfl) aac)
  (aad (aa9 aI5 rfl (aod rfl T.b_enumerate (aaa (ahb ai8 (pv 0) ai6 (ai7 aac)) aab)) (ab6 rfl (aau (aai (i:=4) nd rfl (Or.inl rfl)) (aau (aai (i:=5) nd rfl (Or.inl rfl)) abp)))
   (aad (aam (i:=6) nd rfl (Or.inl rfl) (aaw aq0 (by rfl) T.b_abs ayx (aaa (pv 5) aab)))
    (aad (aam (i:=3) nd rfl (Or.inl rfl) (aaf aax (aaf aaq (aaf acf (pv 3) aac) (pv 6)) aac))
    (aag (ab5 (aa6 aub (pv 6) (ave (n:=1000000000000000000) (by decide) (by refine ⟨by decide,by decide,by decide⟩)) (aa7 _))
     (aag (aha aI5 (PW.pt (ald (aa6 ak3 (pv 6) aac (aa7 _)) (ai5 (aa6 agh (aaw ack (by rfl) T.b_len adq (aaa (pv 2) aab)) (pv 1) (aa7 _)))))
       (aad (aaz (abx PySem.F.plainAttrs_list PySem.F.slot_list_append PySem.F.type_list_append aa1 (pv 2) (aaa (aaf aax (pv 6) aac) aab)))
        (aag (aam (i:=6) nd rfl (Or.inl rfl) (aaf acg (pv 6) aac))))))
     (aad (aam (i:=7) nd rfl (Or.inl rfl) (aaf aax (aaf acf (aaf aaq (aaf aaq (aaf aax (pv 6) aac) (pv 4)) aac) aac) aac))
      (aad (aam (i:=7) nd rfl (Or.inl rfl) (aaf aax (aaf acf (pv 7) (pv 7)) aac))
      (aad (aaz (abx PySem.F.plainAttrs_list PySem.F.slot_list_append PySem.F.type_list_append aa1 (pv 2) (aaa (aaf aax (aaf acg (pv 7) aac) aac) aab)))
      (aad (aam (i:=7) nd rfl (Or.inl rfl) (aaf aax (aaf aaq (aaf aaq (aaf acf (pv 7) aac) (aaf acf aac (pv 4))) aac) aac))
      (aad (aam (i:=7) nd rfl (Or.inl rfl) (aaf aax (aaf acf (pv 7) (pv 7)) aac))
      (aag (aaz (abx PySem.F.plainAttrs_list PySem.F.slot_list_append PySem.F.type_list_append aa1 (pv 2) (aaa (aaf aax (aaf acg (pv 7) aac) aac) aab))))))))))))))
  (aad (aa9 aI5 rfl (aa0 rfl T.b_range (aaa (aaf acu (pv 1) (aaw ack (by rfl) T.b_len adq (aaa (pv 2) aab))) aab)) (aai (i:=4) nd rfl (Or.inl rfl))
   (aad (aam (i:=7) nd rfl (Or.inl rfl) (aaf aax (aaf aaq (aaf aaq (pv 3) (aaf acf aac (pv 4))) aac) aac))
    (aad (aam (i:=7) nd rfl (Or.inl rfl) (aaf aax (aaf acf (pv 7) (pv 7)) aac))
    (aad (aam (i:=7) nd rfl (Or.inl rfl) (aaf aax (aaf aaq (aaf acf (pv 7) aac) (pv 4)) aac))
    (aag (aaz (abx PySem.F.plainAttrs_list PySem.F.slot_list_append PySem.F.type_list_append aa1 (pv 2) (aaa (aaf aax (aaf acg (aaf aax (aaf acf (pv 7) (pv 7)) aac) aac) aac) aab))))))))
  (aag (aa2 (pv 2))))))),?_⟩
 refine abf h fun ss U q B hK=>?_
 refine exS2 ss q fun ns many a=>?_
 have v:=a.1
 have O:=a.2.1
 have X:=a.2.2.1
 have k:=a.2.2.2
 clear a q
 show EvS B _ _ [some (.scr ns),some (.st (.int many)),none,none,none,none,none,none]
 row_cond go
 have C:(cutD (ns.map PyData.int) none (some 63)).length<=63:=aC9 aty (by simpa using v)
 refine ⟨fun i e=>∃ p u r l ds bs,e=[some (.scr ns),some (.st (.int many)),some (.own (OL (ds.map .int))),some (.st (.int bs)),p,u,r,l]/\0<=bs/\bs < 2147483629/\DrawsOk ds/\(ds.length:Int)<=2 * i+many,
  ⟨none,none,none,none,[],7,rfl,by omega,by omega,fun x z=>by simp at z,by simp;omega⟩,?_,?_⟩
 ·rintro i d e hd b
  refine exS6 e b fun p u r l ds bs a=>?_
  have b0:=a.1
  have N:=a.2.1
  have o:=a.2.2.1
  have j:=a.2.2.2
  clear a b
  obtain ⟨x,z,rfl⟩:=aof hd
  have hi:i < 63:=aC4 (aA1.mp z).1 C
  obtain ⟨c,_,rfl⟩:=aB6.mp (atx (aA2 z))
  row_cond go
  have y:0<=(if c < 0 then -c else c):=by split <;> omega
  generalize (if c < 0 then -c else c)=num0 at y
  refine ab2 (fun L=>?_) (fun W=>?_)
  ·row_cond go
   refine af9 (fun m e=>∃ g ds,e=[some (.scr ns),some (.st (.int many)),some (.own (OL (ds.map .int))),some (.st (.int ((bs * 31+num0) % 2147483629))),some (.st (.int (i:Int))),some (.st (.int c)),some (.st (.int g)),l]/\0<=g/\DrawsOk ds/\(ds.length:Int)<=2 * i+many/\m=g.toNat) ⟨_,num0,ds,rfl,y,o,j,rfl⟩ ?_
   rintro m e b
   refine exS2 e b fun g ds a=>?_
   have Z:=a.1
   have o:=a.2.1
   have j:=a.2.2.1
   have I:=a.2.2.2
   clear a b
   subst I
   row_cond go
   refine ab2 (fun R=>?_) (fun R=>?_)
   ·row_cond go
    rw [aA3]
    refine ab2 (fun M=>?_) (fun M=>?_)
    ·row_cond go
     refine ⟨(g / 10007).toNat,by omega,g / 10007,ds ++ [g % 10007],by simp,by omega,o.snoc (by omega) (by omega),by simp;omega,rfl⟩
    ·row_cond go
     exact ⟨_,_,_,_,ds,_,rfl,by omega,by omega,o,by push_cast;omega⟩
   ·row_cond go
    exact ⟨_,_,_,_,ds,_,rfl,by omega,by omega,o,by push_cast;omega⟩
  ·row_cond go
   rw [afw,afw]
   refine ⟨_,_,_,_,_,_,rfl,by omega,by omega,(o.snoc (by omega) (by omega)).snoc (by omega) (by omega),by simp;omega⟩
 ·rintro e b
  refine exS6 e b fun p u r l ds bs a=>?_
  have b0:=a.1
  have N:=a.2.1
  have o:=a.2.2.1
  have j:=a.2.2.2
  clear a b
  rw [aft] at j
  row_cond go
  rw [aA3]
  have Y:(ds.length:Int)<=1126:=by omega
  row_cond go
  refine abb (fun i e=>∃ p u r l es,e=[some (.scr ns),some (.st (.int many)),some (.own (OL (es.map .int))),some (.st (.int bs)),p,u,r,l]/\DrawsOk es/\es.length=ds.length+i) ⟨_,_,_,_,ds,rfl,o,rfl⟩ ?_ ?_
  ·rintro i e hi b
   refine exS5 e b fun p u r l es a=>?_
   have J:=a.1
   have G:=a.2
   clear a b
   have S:(i:Int) < 1000:=by omega
   row_cond go
   rw [afw]
   exact ⟨_,_,_,_,_,rfl,J.snoc (by omega) (by omega),by simp;omega⟩
  ·rintro e b
   refine exS5 e b fun p u r l es a=>?_
   have J:=a.1
   have G:=a.2
   clear a b
   row_cond go
   exact k es (by omega) (by omega) J
end
theorem DrawsOk.at {ds:List Int} (h:DrawsOk ds) {i:Int} (b:0<=i) (c:i < ds.length):∃ x,atI (ds.map PyData.int) i=some (.int x)/\0<=x/\x < 10007:=by
 have a:i.toNat < ds.length:=by omega
 have e:ds[i.toNat]?=some ds[i.toNat]:=aA0 a
 have:=h _ (aA2 e)
 exact ⟨_,aga (f:=PyData.int) (aiq b e),this.1,this.2⟩
def a0f:VP:=fun ss Q=>∃ (ds:List Int) (spot most:Int),ss=[.st (.list (ds.map .int)),.st (.int spot),.st (.int most)]/\DrawsOk ds/\0<=spot/\spot+50<=ds.length/\ds.length<=3000/\1<=most/\most<=60/\∀ n es,WebOk n es->n<=most->Joined n es->Q (.st (webD n es))
theorem at5 {a b c d e:Int} {i:Int} (f:0<=i) (g:i < 5):∃ y,atI [PyData.int a,PyData.int b,PyData.int c,PyData.int d,PyData.int e] i=some (PyData.int y)/\(y=a\/y=b\/y=c\/y=d\/y=e):=by
 rcases (show i=0\/i=1\/i=2\/i=3\/i=4 by omega) with rfl | rfl | rfl | rfl | rfl
 ·exact ⟨a,rfl,by simp⟩
 ·exact ⟨b,rfl,by simp⟩
 ·exact ⟨c,rfl,by simp⟩
 ·exact ⟨d,rfl,by simp⟩
 ·exact ⟨e,rfl,by simp⟩
theorem azk {a r n:Int} (a0:0<=a) (c:a < n) (b:0<=r) (d:r < n - 1):(a+1+r) % n ≠ a:=by
 by_cases h:a+1+r < n
 ·rw [Int.emod_eq_of_lt (by omega) h];omega
 ·have e:a+1+r=(a+1+r - n)+n * 1:=by omega
  rw [e,Int.add_mul_emod_self_left,Int.emod_eq_of_lt (by omega) (by omega)];omega
theorem agf {α β:Type} (f : α->β):∀ (l:List α) (k:Nat),(l.map f).eraseIdx k=(l.eraseIdx k).map f
 | [],_=>rfl
 | _ :: _,0=>rfl
 | a :: l,k+1=>by simp [agf f l k]
theorem arw {j:Int} {n:Nat} (a:0<=j) (b:j < n):seqIndex? j n=some j.toNat:=by unfold seqIndex?;simp;omega
theorem azl {left:List Int} {k:Nat} {y:Int} (a:left[k]?=some y):(left.map PyData.int)[k]?=some (.int y):=by rw [aA5,a];rfl
theorem a0g {x y:Int} {ns:List Int} (i:ns.Perm [x,y]) (d:ns.Pairwise (·<=·)):ns=if x < y then [x,y] else [y,x]:=by
 have f:(if x < y then [x,y] else [y,x]).Perm [x,y]:=by
  split
  ·exact List.Perm.refl _
  ·exact List.Perm.swap _ _ _
 have c:(if x < y then [x,y] else [y,x]).Pairwise (·<=·):=by
  split <;> simp <;> omega
 exact (i.trans f.symm).eq_of_pairwise (fun a b _ _ h g=>Int.le_antisymm h g) d c
section
variable {P:Program} {w:World} {K:Frag} {mg:Str->Option Value} {base:Heap}
theorem sc_law_web:FnScope ["d","spot","most","n","way","ties","k","x","head","a","b","kind","cut","two","order","left","at","turned"] ["d","spot","most"] (aal s_law_web):=by row_cond sc
theorem ank (T:Txt K mg):Can P w K mg base "_law_web" 1 ["d","spot","most"] (spP K (a0f)):=by
 obtain ⟨f,fd,D⟩:=T.d_law_web
 refine D.can (D.fn.ok sc_law_web (fun vs H Q E h=>lenP h fun ss Q' q=>by obtain ⟨ds,spot,most,rfl,W,s0,s1,hl,m0,m1,k⟩:=q;rfl) (fun cdv A outer s H vs Q E hr h=>?_))
 have nd:=sc_law_web.nd
 refine ⟨_,(aad (aam (i:=3) nd rfl (Or.inl rfl) (aaf aaq aac (aaf aax (aao aap (pv 0) (pv 1) (fun _ _=>rfl)) (pv 2))))
  (aad (aam (i:=4) nd rfl (Or.inl rfl) (aaf aax (aaf acg (aao aap (pv 0) (pv 1) (fun _ _=>rfl)) aac) aac))
  (aad (aam (i:=5) nd rfl (Or.inl rfl) ar6)
  (aad (aa9 aI5 rfl (adp rfl T.b_range (aaa aac (aaa (pv 3) aab))) (aai (i:=6) nd rfl (Or.inl rfl))
   (aad (aam (i:=7) nd rfl (Or.inl rfl) (aao aap (pv 0) (aaf aaq (aaf aaq (pv 1) aac) (aaf aax (pv 6) aac)) (fun _ _=>rfl)))
    (aad (aam (i:=8) nd rfl (Or.inl rfl) (aao aap (aa3 (aaa (aaf acu (pv 6) aac) (aaa aac (aaa (aaf aax (pv 7) (pv 6)) (aaa (aaw (aif rfl) (by rfl) T.b_max adr (aaa aac (aaa (aaf acu (aaf acu (pv 6) aac) (aaf aax (pv 7) aac)) aab))) (aaa (aaf acu (pv 6) aac) aab)))))) (pv 4) (fun _ _=>rfl)))
    (aag (ae6 (aen hr) (pv 5) (abg (aaa (pv 8) (aaa (pv 6) aab))) adw rfl)))))
  (aad (ab5 (PW.pt (ald (aa6 ah8 (pv 4) aac (aa7 _)) (ai5 (aa6 ak3 (pv 3) aac (aa7 _)))))
   (aag (ae6 (aen hr) (pv 5) (abg (aaa aac (aaa (aaf acu (pv 3) aac) aab))) adw rfl))
   abo)
  (aad (aa9 aI5 rfl (aa0 rfl T.b_range (aaa (aaf acf (aao aap (aa3 (aaa aac (aaa aac (aaa aac (aaa aac (aaa (aaf acg (pv 3) aac) aab)))))) (aaf aax (aao aap (pv 0) (aaf aaq (pv 1) aac) (fun _ _=>rfl)) aac) (fun _ _=>rfl)) (aem aig (by rfl) T.b_int alv (aaa (ad4 ak3 (pv 3) aac (aa7 _)) aab))) aab)) (aai (i:=6) nd rfl (Or.inl rfl))
   (aad (aam (i:=9) nd rfl (Or.inl rfl) (aaf aax (aao aap (pv 0) (aaf aaq (aaf aaq (pv 1) aac) (aaf aax (pv 6) aac)) (fun _ _=>rfl)) (pv 3)))
    (aad (aam (i:=10) nd rfl (Or.inl rfl) (aaf aax (aaf aaq (aaf aaq (pv 9) aac) (aaf aax (aao aap (pv 0) (aaf aaq (aaf aaq (pv 1) aac) (aaf aax (pv 6) aac)) (fun _ _=>rfl)) (aaf acu (pv 3) aac))) (pv 3)))
    (aag (ae6 (aen hr) (pv 5) (abg (aaa (aaw (ac9 rfl) (by rfl) T.b_min ae9 (aaa (pv 9) (aaa (pv 10) aab))) (aaa (aaw (aif rfl) (by rfl) T.b_max adr (aaa (pv 9) (aaa (pv 10) aab))) aab))) adw rfl)))))
  (aad (aam (i:=11) nd rfl (Or.inl rfl) (aaf aax (aaf acg (aao aap (pv 0) (aaf aaq (pv 1) aac) (fun _ _=>rfl)) aac) aac))
  (aad (aam (i:=12) nd rfl (Or.inl rfl) (aaf aaq aac (aaf aax (aaf acg (aao aap (pv 0) (aaf aaq (pv 1) aac) (fun _ _=>rfl)) aac) (aaw (ac9 rfl) (by rfl) T.b_min ae9 (aaa (pv 3) (aaa aac aab))))))
  (aad (aa9 aI5 rfl (aa0 rfl T.b_range (aaa (pv 3) aab)) (aai (i:=10) nd rfl (Or.inl rfl))
   (aag (aa9 aI5 rfl (aa0 rfl T.b_range (aaa (pv 10) aab)) (aai (i:=9) nd rfl (Or.inl rfl))
     (aad (aam (i:=13) nd rfl (Or.inl rfl) (ah6 (ad4 ah8 (pv 11) aac (aa7 _)) (ah6 (ad4 aub (pv 9) (pv 12) (aa7 _)) (ale (ad4 agh (pv 3) aac (aa7 _))))))
      (aag (ab5 (PW.pt (ald (aa6 agh (pv 11) aac (aa7 _)) (ai5 (PW.pt (ah5 (aa6 agh (pv 10) (pv 12) (aa7 _)) (ah4 (aqm (pv 13))))))))
       (aag (ae6 (aen hr) (pv 5) (abg (aaa (pv 9) (aaa (pv 10) aab))) adw rfl))
       abo))))))
  (aad (aam (i:=14) nd rfl (Or.inr rfl) (amm rfl T.b_list rfl T.b_range rfl (aaa (pv 3) aab)))
  (aad (ab5 (aa6 ak3 (aaf aax (aaf acg (aao aap (pv 0) (aaf aaq (pv 1) aac) (fun _ _=>rfl)) aac) aac) aac (aa7 _))
   (aad (aam (i:=15) nd rfl (Or.inl rfl) (amm rfl T.b_list rfl T.b_range rfl (aaa (pv 3) aab)))
    (aad (aam (i:=14) nd rfl (Or.inr rfl) (aa3 aab))
    (aag (aa9 aI5 rfl (aa0 rfl T.b_range (aaa (pv 3) aab)) (aai (i:=6) nd rfl (Or.inl rfl))
     (aad (aam (i:=16) nd rfl (Or.inl rfl) (aaf acg (aao aap (pv 0) (aaf aaq (aaf aaq (pv 1) aac) (aaf aax (pv 6) aac)) (fun _ _=>rfl)) (aaf aaq aac (aaf acg (pv 6) aac))))
      (aag (aaz (abx PySem.F.plainAttrs_list PySem.F.slot_list_append PySem.F.type_list_append aa1 (pv 14) (aaa (abx PySem.F.plainAttrs_list PySem.F.slot_list_pop PySem.F.type_list_pop ahd (pv 15) (aaa (aaf aax (pv 16) (aaw ack (by rfl) T.b_len adq (aaa (pv 15) aab))) aab)) aab)))))))))
   abo)
  (aad (ahg (i:=17) nd rfl (Or.inl rfl) rfl (N:=["a","b","order"]) (src:=[none,none,some 14]) (by exact abn rfl rfl rfl rfl rfl rfl) (az0 (pv 5)) (fun _ _ _ _=>(show PG _ _ (gTup K 2 (aa8 (aas 0) (aa8 (aas 1) gNil))) from (ab6 rfl (aau (aai (i:=0) (show List.Nodup (["a","b","order"]:List Str) by decide +kernel) rfl (Or.inl rfl) (hf:=Or.inr rfl)) (aau (aai (i:=1) (show List.Nodup (["a","b","order"]:List Str) by decide +kernel) rfl (Or.inl rfl) (hf:=Or.inr rfl)) abp))))) (fun _ _ _ _=>abm) (fun _ _ _ _=>(aaw (show abk _ (.builtin "sorted") (aij K) from ao5) (by rfl) T.b_sorted aj2 (aaa (aa3 (aaa (aao (show IxR _ (ada K) from aap) (pv 2) (pv 0) (fun _ _=>rfl)) (aaa (aao (show IxR _ (ada K) from aap) (pv 2) (pv 1) (fun _ _=>rfl)) aab))) aab))))
  (aag (aa2 (abg (aaa (pv 3) (aaa (aaw ao9 (by rfl) T.b_sorted aj2 (aaa (ac1 rfl (N:=["a","b"]) (src:=[none,none]) (by exact abn rfl rfl rfl rfl rfl rfl) (abw (pv 17)) (fun _ _ _ _=>(show PG _ _ (gLst K 2 (aa8 (aas 0) (aa8 (aas 1) gNil))) from (ax1 rfl (aau (aai (i:=0) (show List.Nodup (["a","b"]:List Str) by decide +kernel) rfl (Or.inl rfl) (hf:=Or.inr rfl)) (aau (aai (i:=1) (show List.Nodup (["a","b"]:List Str) by decide +kernel) rfl (Or.inl rfl) (hf:=Or.inr rfl)) abp))))) (fun _ _ _ _=>abm) (fun _ _ _ _=>(abg (aaa (pv 0) (aaa (pv 1) aab))))) aab)) aab))))))))))))))))),?_⟩
 refine abf h fun ss Q' q B hK=>?_
 refine exS3 ss q fun ds spot most g=>?_
 have W:=g.1
 have s0:=g.2.1
 have s1:=g.2.2.1
 have hl:=g.2.2.2.1
 have m0:=g.2.2.2.2.1
 have m1:=g.2.2.2.2.2.1
 have k:=g.2.2.2.2.2.2
 clear g q
 show EvS B _ _ [some (.st (.list (ds.map .int))),some (.st (.int spot)),some (.st (.int most)),none,none,none,none,none,none,none,none,none,none,none,none,none,none,none]
 obtain ⟨Y,a0,b3,b5⟩:=W.at (i:=spot) s0 (by omega)
 obtain ⟨d1,a1,b7,b9⟩:=W.at (i:=spot+1) (by omega) (by omega)
 row_cond go
 have a2:1<=1+Y % most:=by have:=aD9 Y (show most ≠ 0 by omega);omega
 have Z:1+Y % most<=most:=by have:=aE0 Y (show 0 < most by omega);omega
 generalize 1+Y % most=n at a2 Z
 generalize hw:Y / 64 % 5=way
 have a6:0<=way:=by omega
 have b0:way < 5:=by omega
 have b8:(spot:Int)<=2950:=by omega
 row_cond go
 refine abb (fun i e=>∃ o C G ps,e=[some (.st (.list (ds.map .int))),some (.st (.int spot)),some (.st (.int most)),some (.st (.int n)),some (.st (.int way)),some (.own (OT (kE ps))),o,C,G,none,none,none,none,none,none,none,none,none]/\PsOk n ps/\Tr (1+i) ps) ⟨_,_,_,[],rfl,PsOk.nil n,fun k _ _=>by omega⟩ ?_ ?_
 ·rintro i e hi l
  refine exS4 e l fun o C G ps g=>?_
  have m:=g.1
  have r:=g.2
  clear g l
  have b4:(i:Int) < n - 1:=by omega
  obtain ⟨x,ax,xl,xh⟩:=W.at (i:=spot+2+(1+(i:Int)) % 20) (by omega) (by omega)
  have x0:=aD9 x (show 1+(i:Int) ≠ 0 by omega)
  have x1:=aE0 x (show 0 < 1+(i:Int) by omega)
  obtain ⟨hd,ah,hh⟩:=at5 (a:=1+(i:Int) - 1) (b:=0) (c:=x % (1+(i:Int))) (d:=if 1+(i:Int) - 1 - x % 3 > 0 then 1+(i:Int) - 1 - x % 3 else 0) (e:=1+(i:Int) - 1) a6 b0
  have h0:0<=hd/\hd < 1+(i:Int):=by
   generalize x % (1+(i:Int))=z at *
   split at hh <;> omega
  clear hh
  have hL:(kE ps).length<=999999:=by rw [aew];exact aC9 (m.len (by omega)) (by decide)
  row_cond go
  rw [aiu]
  refine ⟨_,_,_,_,rfl,m.add h0.1 h0.2 (by omega),fun k k1 k2=>?_⟩
  by_cases hk:k=1+(i:Int)
  ·subst hk;exact ⟨hd,h0.1,h0.2,addP_mem.mpr (.inr rfl)⟩
  ·obtain ⟨h,z0,z1,z2⟩:=r k k1 (by push_cast at k2;omega);exact ⟨h,z0,z1,addP_mem.mpr (.inl z2)⟩
 ·rintro e l
  refine exS4 e l fun o C G ps g=>?_
  have m:=g.1
  have r:=g.2
  clear g l
  replace r:Tr n ps:=fun k k1 k2=>r k k1 (by omega)
  row_cond go
  refine' cutR (R:=∀ ps,PsOk n ps->Tr n ps->EvS B _ _ [some (.st (.list (ds.map .int))),some (.st (.int spot)),some (.st (.int most)),some (.st (.int n)),some (.st (.int way)),some (.own (OT (kE ps))),o,C,G,none,none,none,none,none,none,none,none,none]) (fun R=>?K1) ?K2
  case K1 =>
   refine ab2 (fun _=>?_) (fun _=>?_)
   ·row_cond go
    refine ab2 (fun hn=>?_) (fun hn=>?_)
    ·refine ahs (fun e=>∃ ps,e=[some (.st (.list (ds.map .int))),some (.st (.int spot)),some (.st (.int most)),some (.st (.int n)),some (.st (.int way)),some (.own (OT (kE ps))),o,C,G,none,none,none,none,none,none,none,none,none]/\PsOk n ps/\Tr n ps) ?_ ?_
     ·have hL:(kE ps).length<=999999:=by rw [aew];exact aC9 (m.len (by omega)) (by decide)
      row_cond go
      rw [aiu]
      exact ⟨_,rfl,m.add (by omega) (by omega) (by omega),r.add⟩
     ·rintro e l
      refine exS1 e l fun ps g=>?_
      have m:=g.1
      have r:=g.2
      clear g l
      exact R ps m r
    ·refine aeh ?_
     exact R ps m r
   ·refine aeh ?_
    exact R ps m r
  case K2 =>
   clear m r ps
   intro ps m r
   obtain ⟨X,a5,h5⟩:=at5 (a:=0) (b:=0) (c:=1) (d:=2) (e:=n / 2) (i:=d1 % 5) (by omega) (by omega)
   have y0:0<=X/\X<=30:=by omega
   clear h5
   row_cond go
   have hm : -(2 ^ 62)<=X * (if decide (1 < n)=true then 1 else 0)/\X * (if decide (1 < n)=true then 1 else 0) < 2 ^ 62/\(0 < X * (if decide (1 < n)=true then 1 else 0)->1 < n):=by
    by_cases hn:1 < n
    ·rw [aE5 (aD4 hn)];omega
    ·rw [aE6 (by simpa using hn)];omega
   generalize (X * if decide (1 < n)=true then 1 else 0)=tot at hm
   obtain ⟨t0,t1,t2⟩:=hm
   row_cond go
   refine abb (fun i e=>∃ o C G M I ps,e=[some (.st (.list (ds.map .int))),some (.st (.int spot)),some (.st (.int most)),some (.st (.int n)),some (.st (.int way)),some (.own (OT (kE ps))),o,C,G,M,I,none,none,none,none,none,none,none]/\PsOk n ps/\Tr n ps) ⟨_,_,_,_,_,ps,rfl,m,r⟩ ?_ ?_
   ·clear m r o C G ps
    rintro i e hi l
    refine exS6 e l fun o C G M I ps g=>?_
    have m:=g.1
    have r:=g.2
    clear g l
    have hn:1 < n:=t2 (by omega)
    obtain ⟨x,ax,xl,xh⟩:=W.at (i:=spot+22+(0+(i:Int)) % 8) (by omega) (by omega)
    obtain ⟨y,ay,yl,yh⟩:=W.at (i:=spot+30+(0+(i:Int)) % 8) (by omega) (by omega)
    have hL:(kE ps).length<=999999:=by rw [aew];exact aC9 (m.len (by omega)) (by decide)
    have u0:=aD9 x (show n ≠ 0 by omega)
    have u1:=aE0 x (show 0 < n by omega)
    have w0:=aD9 y (show n - 1 ≠ 0 by omega)
    have w1:=aE0 y (show 0 < n - 1 by omega)
    have z0:=aD9 (x % n+1+y % (n - 1)) (show n ≠ 0 by omega)
    have z1:=aE0 (x % n+1+y % (n - 1)) (show 0 < n by omega)
    have zn:=azk u0 u1 w0 w1
    row_cond go
    rw [aiu]
    generalize (x % n+1+y % (n - 1)) % n=q at *
    generalize x % n=p at *
    refine ⟨_,_,_,_,_,_,rfl,m.add ?_ ?_ ?_,r.add⟩ <;> (by_cases hb:q < p) <;> simp [hb] <;> omega
   ·clear m r o C G ps
    rintro e l
    refine exS6 e l fun o C G M I ps g=>?_
    have m:=g.1
    have r:=g.2
    clear g l
    row_cond go
    generalize d1 / 15 % 8=kind
    generalize (2+d1 / 120 % _:Int)=cut
    refine abb (fun i e=>∃ o C G M I J ps,e=[some (.st (.list (ds.map .int))),some (.st (.int spot)),some (.st (.int most)),some (.st (.int n)),some (.st (.int way)),some (.own (OT (kE ps))),o,C,G,M,I,some (.st (.int kind)),some (.st (.int cut)),J,none,none,none,none]/\PsOk n ps/\Tr n ps) ⟨_,_,_,_,_,_,ps,rfl,m,r⟩ ?_ ?_
    ·clear m r o C G M I ps
     rintro b e hb l
     refine exS7 e l fun o C G M I J ps g=>?_
     have m:=g.1
     have r:=g.2
     clear g l
     have b2:0+(b:Int) < n:=by omega
     row_cond go
     refine abb (fun i e=>∃ o C G M J ps,e=[some (.st (.list (ds.map .int))),some (.st (.int spot)),some (.st (.int most)),some (.st (.int n)),some (.st (.int way)),some (.own (OT (kE ps))),o,C,G,M,some (.st (.int (0+(b:Int)))),some (.st (.int kind)),some (.st (.int cut)),J,none,none,none,none]/\PsOk n ps/\Tr n ps) ⟨_,_,_,_,_,ps,rfl,m,r⟩ ?_ ?_
     ·clear m r o C G M J ps
      rintro a e ha l
      refine exS6 e l fun o C G M J ps g=>?_
      have m:=g.1
      have r:=g.2
      clear g l
      have b1:0+(a:Int) < 0+b:=by omega
      have hL:(kE ps).length<=999999:=by rw [aew];exact aC9 (m.len (by omega)) (by decide)
      row_cond go
      refine' cutR (R:=∀ bb:Bool,EvS B _ _ [some (.st (.list (ds.map .int))),some (.st (.int spot)),some (.st (.int most)),some (.st (.int n)),some (.st (.int way)),some (.own (OT (kE ps))),o,C,G,some (.st (.int (0+(a:Int)))),some (.st (.int (0+(b:Int)))),some (.st (.int kind)),some (.st (.int cut)),some (.st (.bool bb)),none,none,none,none]) (fun R=>?K1) ?K2
      case K1 =>
       refine ab2 (fun _=>?_) (fun _=>?_)
       ·repeat (first | exact R _ | row_cond st)
        refine ab2 (fun _=>?_) (fun _=>?_)
        ·repeat (first | exact R _ | row_cond st)
        ·repeat (first | exact R _ | row_cond st)
       ·repeat (first | exact R _ | row_cond st)
      case K2 =>
       have U:PsOk n (addP ps (0+(a:Int),0+(b:Int)))/\Tr n (addP ps (0+(a:Int),0+(b:Int))):=⟨m.add (by omega) b1 b2,r.add⟩
       rintro (_ | _) <;> row_cond go <;> refine ab2 (fun _=>?_) (fun _=>?_) <;> row_cond go <;> first | exact ⟨_,_,_,_,_,_,rfl,m,r⟩ | (refine ab2 (fun _=>?_) (fun _=>?_) <;> row_cond go <;> first | exact ⟨_,_,_,_,_,_,rfl,m,r⟩ | (rw [aiu];exact ⟨_,_,_,_,_,_,rfl,U.1,U.2⟩))
     ·rintro e l
      refine exS6 e l fun o C G M J ps g=>?_
      have m:=g.1
      have r:=g.2
      clear g l
      exact ⟨_,_,_,_,_,_,ps,rfl,m,r⟩
    ·clear m r o C G M I ps
     rintro e l
     refine exS7 e l fun o C G M I J ps g=>?_
     have m:=g.1
     have r:=g.2
     clear g l
     row_cond go
     refine' cutR (R:=∀ row o O L,Order n row->EvS B _ _ [some (.st (.list (ds.map .int))),some (.st (.int spot)),some (.st (.int most)),some (.st (.int n)),some (.st (.int way)),some (.own (OT (kE ps))),o,C,G,M,I,some (.st (.int kind)),some (.st (.int cut)),J,some (.own (OL (row.map .int))),O,L,none]) (fun R=>?K1) ?K2
     case K1 =>
      rw [aoj]
      refine ab2 (fun _=>?_) (fun _=>?_)
      ·refine ahs (fun e=>∃ row o O L,e=[some (.st (.list (ds.map .int))),some (.st (.int spot)),some (.st (.int most)),some (.st (.int n)),some (.st (.int way)),some (.own (OT (kE ps))),o,C,G,M,I,some (.st (.int kind)),some (.st (.int cut)),J,some (.own (OL (row.map .int))),O,L,none]/\Order n row) ?_ ?_
       ·row_cond go
        refine abb (fun i e=>∃ row left o L,e=[some (.st (.list (ds.map .int))),some (.st (.int spot)),some (.st (.int most)),some (.st (.int n)),some (.st (.int way)),some (.own (OT (kE ps))),o,C,G,M,I,some (.st (.int kind)),some (.st (.int cut)),J,some (.own (OL (row.map .int))),some (.own (OL (left.map .int))),L,none]/\Order n (row ++ left)/\row.length=i) ⟨[],_,_,_,by rw [aoj];rfl,Order.id n,rfl⟩ ?_ ?_
        ·rintro i e hi l
         refine exS4 e l fun row left o L g=>?_
         have S:=g.1
         have a4:=g.2
         clear g l
         have a3:left.length=n.toNat - i:=by have:=S.len;simp at this;omega
         obtain ⟨x,ax,xl,xh⟩:=W.at (i:=spot+38+(0+(i:Int)) % 12) (by omega) (by omega)
         iterate 30 (row_cond st)
         have a7:1<=1+(0+(i:Int)) / 12/\1+(0+(i:Int)) / 12<=100:=by omega
         row_cond st
         (generalize 1+(0+(i:Int)) / 12=z12 at a7)
         row_cond st
         row_cond st
         (generalize x / z12=q)
         row_cond go
         rw [aA3]
         have q0:=aD9 q (show (left.length:Int) ≠ 0 by omega)
         have q1:=aE0 q (show 0 < (left.length:Int) by omega)
         row_cond go
         (generalize q % (left.length:Int)=j at q0 q1)
         obtain ⟨y,hy⟩:∃ y,left[j.toNat]?=some y:=⟨_,aA0 (show j.toNat < left.length by omega)⟩
         refine ⟨_,left.map .int,j,j.toNat,.int y,rfl,rfl,.inl rfl,by omega,by omega,arw q0 (by rw [aA3];exact q1),azl hy,?_⟩
         rw [agf]
         dsimp only [List.set_cons_zero,List.set_cons_succ,reS]
         row_cond go
         refine ⟨_,rfl,by rw [aA3];omega,?_⟩
         refine ⟨row ++ [y],left.eraseIdx j.toNat,_,_,by rw [afw],apk S hy,by simp;omega⟩
        ·rintro e l
         refine exS4 e l fun row left o L g=>?_
         have S:=g.1
         have a4:=g.2
         clear g l
         have a3:left=[]:=by have:=S.len;simp at this;exact List.length_eq_zero_iff.mp (by omega)
         subst a3
         rw [aE2] at S
         exact ⟨row,_,_,_,rfl,S⟩
       ·rintro e l
        refine exS4 e l fun row o O L g=>?_
        have S:=g
        clear g l
        exact R row o O L S
      ·refine aeh ?_
       exact R _ _ _ _ (Order.id n)
     case K2 =>
      clear o
      intro row o O L S
      refine ad8 14 rfl adc ?_
      row_cond go
      rw [awo]
      refine ahp (xs:=ps) (fa:=fun p => .int p.1) (fb:=fun p => .int p.2) (fun p => .list [.int (reP row p).1,.int (reP row p).2]) (fun _=>true) rfl (aC9 (m.len (by omega)) (by decide)) ?_ ?_
      ·intro p hp B' hB
       have hq:=m.inn p hp
       have r1:=aga (f:=PyData.int) (S.atI (a:=p.1) (by omega) (by omega))
       have r2:=aga (f:=PyData.int) (S.atI (a:=p.2) (by omega) (by omega))
       refine acj ⟨rfl,rfl,fun _=>?_⟩
       refine ab8 (ara ?_)
       row_cond go
       refine ⟨[abj row p.1,abj row p.2],rfl,by simp,fun b6 a9 a8=>acq ⟨?_,rfl⟩⟩
       rw [a0g a9 a8]
       unfold reP
       split <;> rfl
      ·rw [adg]
       row_cond go
       refine arc (ps:=ps.map (reP row)) ?_
       row_cond go
       refine ard (xs:=ps) (fa:=fun p => .int (reP row p).1) (fb:=fun p => .int (reP row p).2) (fun p=>prD (reP row p)) (fun _=>true) rfl (aC9 (m.len (by omega)) (by decide)) ?_ ?_
       ·intro p hp B' hB
        refine acj ⟨rfl,rfl,fun _=>?_⟩
        row_cond go
        exact rfl
       ·rw [adg]
        row_cond go
        refine ⟨by rw [aD5];rfl,fun qs hq hs=>acq ?_⟩
        row_cond go
        refine k n qs (ati a2 (by omega) (m.re S) hq hs) Z ?_
        exact Conn.joined ((r.conn.re S).mono fun u v h=>(Tied.perm hq).mpr h) (by omega)
end
theorem But.len6 {n:Int} {es rem:List (Int × Int)} (h:But n es rem) (hn:6<=n) (b:rem.length<=4):1<=es.length:=by
 have:=aiw (as:=[((0:Int),(1:Int)),(0,2),(0,3),(0,4),(0,5)]) (bs:=es ++ rem) (by decide) (fun p a=>by
  have:0<=p.1/\p.1 < p.2/\p.2 < 6:=by
   simp only [aA8,aH4,or_false] at a
   rcases a with rfl | rfl | rfl | rfl | rfl <;> decide
  exact aA7.mpr (h.all p this.1 this.2.1 (by omega)))
 simp at this
 omega
theorem But.joined6 {n:Int} {es rem:List (Int × Int)} (h:But n es rem) (hn:6<=n) (D:rem.length<=4):Joined n es:=by
 refine Conn.joined (fun u v r B v0 q=>?_) (by omega)
 -- from 0 to each place
 have f:∀ v:Int,0<=v->v < n->∃ k,Gr.Walk (Tied es) 0 k v:=by
  intro v v0 q
  by_cases hv:v=0
  ·subst hv;exact ⟨0,.refl⟩
  have s:4<=([1,2,3,4,5].erase v:List Int).length:=by
   rw [List.length_erase]
   split <;> simp
  have i:([1,2,3,4,5].erase v:List Int).Nodup:=List.Nodup.erase _ (by decide)
  have c:∀ w∈([1,2,3,4,5].erase v:List Int),1<=w/\w<=5/\w ≠ v:=fun w d=>by
   have:=(List.Nodup.mem_erase_iff (show ([1,2,3,4,5]:List Int).Nodup by decide)).mp d
   have z:=this.2
   simp only [aA8,aH4,or_false] at z
   omega
  generalize ([1,2,3,4,5].erase v:List Int)=L at s i c
  by_cases hex:∃ w∈L,Tied es 0 w/\Tied es w v
  ·obtain ⟨w,_,t1,y⟩:=hex
   exact ⟨2,.step (.step .refl t1) y⟩
  ·by_cases hd:Tied es 0 v
   ·exact ⟨1,.step .refl hd⟩
   exfalso
   have m:((0:Int),v)∈rem:=by
    rcases h.all (0,v) (by simp) (by simp;omega) (by simp;omega) with g | g
    ·exact absurd (.inl g) hd
    ·exact g
   have hf:∀ w∈L,(if (0,w)∈rem then ((0:Int),w) else if w < v then (w,v) else (v,w))∈rem:=fun w d=>by
    have l:=c w d
    by_cases h1:(0,w)∈rem
    ·rw [aE5 h1];exact h1
    ·rw [aE6 h1]
     have t1:Tied es 0 w:=by
      rcases h.all (0,w) (by simp) (by simp;omega) (by simp;omega) with g | g
      ·exact .inl g
      ·exact absurd g h1
     by_cases hwv:w < v
     ·rw [aE5 hwv]
      rcases h.all (w,v) (by simp;omega) (by simp;omega) (by simp;omega) with g | g
      ·exact absurd ⟨w,d,t1,.inl g⟩ hex
      ·exact g
     ·rw [aE6 hwv]
      rcases h.all (v,w) (by simp;omega) (by simp;omega) (by simp;omega) with g | g
      ·exact absurd ⟨w,d,t1,.inr g⟩ hex
      ·exact g
   have:=aiw (as:=(0,v) :: L.map fun w=>if (0,w)∈rem then ((0:Int),w) else if w < v then (w,v) else (v,w)) (bs:=rem) (by
    refine aH5.mpr ⟨fun hm=>?_,?_⟩
    ·obtain ⟨w,d,e⟩:=aB6.mp hm
     have l:=c w d
     split at e <;> (try split at e) <;> have o:=congrArg Prod.fst e <;> have e2:=congrArg Prod.snd e <;> simp only at o e2 <;> omega
    rw [List.Nodup,aF1]
    refine aH0 (fun {a b} ha hb x=>?_) i
    have C:=c a ha
    have A:=c b hb
    intro e
    split at e <;> split at e <;> (try split at e) <;> (try split at e) <;> have o:=congrArg Prod.fst e <;> have e2:=congrArg Prod.snd e <;> simp only at o e2 <;> omega) (fun p j=>by
    rcases aA8.mp j with rfl | j
    ·exact m
    obtain ⟨w,d,rfl⟩:=aB6.mp j
    exact hf w d)
   rw [aD8,aA3] at this
   omega
 obtain ⟨a,ha⟩:=f u r B
 obtain ⟨b,hb⟩:=f v v0 q
 exact ⟨a+b,(ha.rev fun _ _ t=>t.symm).app hb⟩
theorem But.web6 {n:Int} {es rem:List (Int × Int)} (h:But n es rem) (hn:6<=n) (a:n<=60):WebOk n es:=⟨by omega,a,h.inn,h.rise⟩
def rowP (a:Int) (m:Nat):List (Int × Int):=(List.range m).map fun (j:Nat)=>(a,a+1+(j:Int))
theorem FreeTo.row {n a:Int} {fs:List (Int × Int)} (h:FreeTo n [] fs a (a+1)) (b:0<=a):∀ m:Nat,a+1+(m:Int)<=n->FreeTo n [] (fs ++ rowP a m) a (a+1+m)
 | 0,_=>by simpa [rowP] using h
 | m+1,hm=>by
  have c:=FreeTo.row h b m (by omega)
  have e:fs ++ rowP a (m+1)=(fs ++ rowP a m) ++ [(a,a+1+(m:Int))]:=by unfold rowP;rw [List.range_succ];simp
  rw [e]
  exact c.snoc b (by omega) (by omega) (by simp) (by push_cast;omega)
theorem aw8 (a b:Int) (m:Nat):(rngD b m).map (fun d=>PyData.tuple [.int a,d])=((List.range m).map fun (j:Nat)=>(a,b+(j:Int))).map prD:=by simp [rngD,prD]
def aw9:VP:=fun ss Q=>∃ (ds:List Int) (spot n:Int),ss=[.st (.list (ds.map .int)),.st (.int spot),.st (.int n)]/\DrawsOk ds/\0<=spot/\spot+6<=ds.length/\ds.length<=3000/\6<=n/\n<=8/\∀ es,WebOk n es->Joined n es->Q (.st (webD n es))
section
variable {P:Program} {w:World} {K:Frag} {mg:Str->Option Value} {base:Heap}
theorem sc_law_thick:FnScope ["d","spot","n","ties","a","k"] ["d","spot","n"] (aal s_law_thick):=by row_cond sc
theorem ak2 (T:Txt K mg):Can P w K mg base "_law_thick" 1 ["d","spot","n"] (spP K (aw9)):=by
 obtain ⟨f,fd,D⟩:=T.d_law_thick
 refine D.can (D.fn.ok sc_law_thick (fun vs H Q E h=>lenP h fun ss X q=>by obtain ⟨ds,spot,n,rfl,v,s0,s1,Z,m,n1,k⟩:=q;rfl) (fun cdv A outer s H vs Q E I h=>?_))
 have nd:=sc_law_thick.nd
 refine ⟨_,(aad (aam (i:=3) nd rfl (Or.inl rfl) (aa3 aab))
  (aad (aa9 aI5 rfl (aa0 rfl T.b_range (aaa (pv 2) aab)) (aai (i:=4) nd rfl (Or.inr rfl))
   (aag (aaz (abx PySem.F.plainAttrs_list PySem.F.slot_list_extend PySem.F.type_list_extend ap5 (pv 3) (aaa (ac1 rfl (N:=["b","a"]) (src:=[none,some 4]) (by exact abn rfl rfl rfl rfl rfl rfl) (adp rfl T.b_range (aaa (aaf aaq (pv 4) aac) (aaa (pv 2) aab))) (fun _ _ _ _=>(aai (i:=0) (show List.Nodup (["b","a"]:List Str) by decide +kernel) rfl (Or.inl rfl) (hf:=Or.inr rfl))) (fun _ _ _ _=>abm) (fun _ _ _ _=>(abg (aaa (pv 1) (aaa (pv 0) aab))))) aab)))))
  (aad (aa9 aI5 rfl (aa0 rfl T.b_range (aaa (aaf aaq aac (aaf aax (aao aap (pv 0) (pv 1) (fun _ _=>rfl)) aac)) aab)) (aai (i:=5) nd rfl (Or.inl rfl))
   (aag (aaz (abx PySem.F.plainAttrs_list PySem.F.slot_list_pop PySem.F.type_list_pop ahd (pv 3) (aaa (aaf aax (aao aap (pv 0) (aaf aaq (aaf aaq (pv 1) aac) (pv 5)) (fun _ _=>rfl)) (aaw ack (by rfl) T.b_len adq (aaa (pv 3) aab))) aab)))))
  (aag (aa2 (abg (aaa (pv 2) (aaa (pv 3) aab)))))))),?_⟩
 refine abf h fun ss X q B hK=>?_
 refine exS3 ss q fun ds spot n a=>?_
 have v:=a.1
 have s0:=a.2.1
 have s1:=a.2.2.1
 have Z:=a.2.2.2.1
 have m:=a.2.2.2.2.1
 have n1:=a.2.2.2.2.2.1
 have k:=a.2.2.2.2.2.2
 clear a q
 show EvS B _ _ [some (.st (.list (ds.map .int))),some (.st (.int spot)),some (.st (.int n)),none,none,none]
 obtain ⟨d0,a0,W,Y⟩:=v.at (i:=spot) s0 (by omega)
 row_cond go
 refine abb (fun i e=>∃ o fs,e=[some (.st (.list (ds.map .int))),some (.st (.int spot)),some (.st (.int n)),some (.own (OL (fs.map prD))),o,none]/\FreeTo n [] fs (i:Int) ((i:Int)+1)) ⟨none,[],rfl,⟨fun p=>?_,List.Pairwise.nil⟩⟩ ?_ ?_
 ·simp only [aH4,false_iff,ltP]
  rintro ⟨h1,h2,h3,h4,S⟩
  push_cast at S
  omega
 ·rintro i e hi b
  refine exS2 e b fun o fs a=>?_
  have c:=a
  clear a b
  have u:0+(i:Int) < n:=by omega
  have a1:=c.len (by omega)
  row_cond go
  refine avt (fun d => .tuple [.int (0+(i:Int)),d]) rfl (by rw [ab0];omega) (fun d hd B' g=>?_) ?_
  ·row_cond go
   exact rfl
  ·rw [aw8]
   have l:=c.row (by omega) (n - (0+(i:Int)+1)).toNat (by omega)
   refine ⟨_,_,rfl,rfl,by simp;omega,?_⟩
   rw [← aD7]
   dsimp only [List.set_cons_zero,List.set_cons_succ]
   refine ⟨_,_,rfl,?_⟩
   rw [show ((List.range (n - (0+(i:Int)+1)).toNat).map fun (j:Nat)=>(0+(i:Int),0+(i:Int)+1+(j:Int)))=rowP (i:Int) (n - (0+(i:Int)+1)).toNat by unfold rowP;rw [aH6]]
   refine l.skip fun p C O g3 g4=>?_
   unfold ltP
   simp only
   push_cast
   omega
 ·rintro e b
  refine exS2 e b fun o fs a=>?_
  have c:=a
  clear a b
  have r:But n fs []:=⟨c.rise,fun p U=>by have:=(c.mem p).mp U;omega,fun p g0 C O => .inl ((c.mem p).mpr ⟨g0,C,O,by simp,.inl (by simp only;omega)⟩)⟩
  row_cond go
  refine abb (fun i e=>∃ z es rem,e=[some (.st (.list (ds.map .int))),some (.st (.int spot)),some (.st (.int n)),some (.own (OL (es.map prD))),o,z]/\But n es rem/\rem.length=i/\es.length<=10000) ⟨none,fs,[],rfl,r,rfl,c.len (by omega)⟩ ?_ ?_
  ·rintro i e hi b
   refine exS3 e b fun z es rem a=>?_
   have g:=a.1
   have I:=a.2.1
   have M:=a.2.2
   clear a b
   have u:(i:Int) < 4:=by omega
   have J:=But.len6 g m (by omega)
   obtain ⟨x,ax,xl,xh⟩:=v.at (i:=spot+1+(0+(i:Int))) (by omega) (by omega)
   row_cond go
   rw [aA3]
   have L:=aD9 x (show (es.length:Int) ≠ 0 by omega)
   have G:=aE0 x (show 0 < (es.length:Int) by omega)
   row_cond go
   (generalize x % (es.length:Int)=j at L G)
   obtain ⟨y,R⟩:∃ y,es[j.toNat]?=some y:=⟨_,aA0 (show j.toNat < es.length by omega)⟩
   refine ⟨_,es.map prD,j,j.toNat,prD y,rfl,rfl,.inl rfl,by omega,by omega,arw L (by rw [aA3];exact G),by rw [aA5,R];rfl,?_⟩
   rw [agf]
   dsimp only [List.set_cons_zero,List.set_cons_succ,reS]
   exact ⟨_,es.eraseIdx j.toNat,y :: rem,rfl,g.cut R,by simp;omega,aC9 (List.length_eraseIdx_le ..) M⟩
  ·rintro e b
   refine exS3 e b fun z es rem a=>?_
   have g:=a.1
   have I:=a.2.1
   have M:=a.2.2
   clear a b
   refine ad8 3 rfl adc ?_
   dsimp only [List.set_cons_zero,List.set_cons_succ]
   row_cond go
   exact k es (But.web6 g m (by omega)) (But.joined6 g m (by omega))
end
theorem arx {n:Nat} {m:Int->Int->Int} {b:Nat->Int} (a:∀ u:Nat,ady ((List.range n).map fun (i:Nat)=>m (u:Int) (i:Int)) (b u)) {x:Int} (c:ady ((List.range n).map b) x):ag0 n m x:=by
 refine ⟨?_,fun u v f l v0 g=>?_⟩
 ·obtain ⟨i,hi,e⟩:=aB6.mp c.1
  obtain ⟨j,hj,e2⟩:=aB6.mp (a i).1
  exact ⟨i,j,by omega,by have:=aB8.mp hi;omega,by omega,by have:=aB8.mp hj;omega,e2.trans e⟩
 ·have d:=(a u.toNat).2 (m ((u.toNat:Nat):Int) ((v.toNat:Nat):Int)) (aB6.mpr ⟨v.toNat,aB8.mpr (by omega),rfl⟩)
  have h:=c.2 (b u.toNat) (aB6.mpr ⟨u.toNat,aB8.mpr (by omega),rfl⟩)
  rw [show ((u.toNat:Nat):Int)=u by omega,show ((v.toNat:Nat):Int)=v by omega] at d
  omega
def dnF:Nat->FI->List FI
 | 0,x=>[x]
 | j+1,x=>(moF x).flatMap (dnF j)
theorem aoo:∀ (j:Nat) (x:FI),dnF (j+1) x=(dnF j x).flatMap moF
 | 0,x=>by simp [dnF]
 | j+1,x=>by
  show (moF x).flatMap (dnF (j+1))=((moF x).flatMap (dnF j)).flatMap moF
  rw [List.flatMap_assoc]
  congr 1
  funext y
  exact aoo j y
theorem aut (m:Int->Int->Int) (fs:List (Int × Int)):∀ j,dnF j ⟨[],fs,m⟩=lvF m fs j
 | 0=>rfl
 | j+1=>by rw [aoo,aut m fs j];rfl
theorem apr (m:Int->Int->Int) (fs:List (Int × Int)):∀ k,trF m fs k=⟨[],fs,m⟩ :: (List.range k).flatMap fun t=>dnF (t+1) ⟨[],fs,m⟩
 | 0=>rfl
 | k+1=>by
  show trF m fs k ++ lvF m fs (k+1)=_
  rw [apr m fs k,List.range_succ,List.flatMap_append,List.cons_append]
  simp [aut]
def upF (n:Nat) (n0:1<=n) (b:Int × List (Int × Int)) (x:FI):Int × List (Int × Int):=if tpM n n0 x.m < b.1 then (tpM n n0 x.m,x.ts) else b
theorem afx {n:Nat} {c:1<=n}:∀ (L:List FI) (a:FI) (i:Nat) (x:FI),(a :: L)[i]?=some x->acl ((a :: L).map fun y=>tpM n c y.m) i->L.foldl (upF n c) (tpM n c a.m,a.ts)=(tpM n c x.m,x.ts)
 | [],a,i,x,hx,_=>by
  cases i with
  | zero=>cases hx;rfl
  | succ i=>simp at hx
 | b :: L,a,i,x,hx,hm=>by
  have l:=(aA1.mp hx).1
  have g0:=hm 0 (by simp)
  have d:=hm 1 (by simp)
  have f:((a :: b :: L).map fun y=>tpM n c y.m).getD 0 0=tpM n c a.m:=rfl
  have g:((a :: b :: L).map fun y=>tpM n c y.m).getD 1 0=tpM n c b.m:=rfl
  rw [f] at g0
  rw [g] at d
  by_cases h:tpM n c b.m < tpM n c a.m
  ·have hi:i ≠ 0:=fun z=>by
    subst z
    rw [f] at d
    omega
   obtain ⟨i,rfl⟩:∃ k,i=k+1:=⟨i - 1,by omega⟩
   rw [List.foldl_cons,show upF n c (tpM n c a.m,a.ts) b=(tpM n c b.m,b.ts) from aE5 h]
   refine afx L b i x (by simpa using hx) fun j hj=>?_
   have:=hm (j+1) (by simpa using hj)
   simp only [aD0,List.getD_cons_succ] at this ⊢
   exact ⟨this.1,fun z=>this.2 (by omega)⟩
  ·rw [List.foldl_cons,show upF n c (tpM n c a.m,a.ts) b=(tpM n c a.m,a.ts) from aE6 h]
   cases i with
   | zero =>
    refine afx L a 0 x hx fun j hj=>?_
    cases j with
    | zero=>exact ⟨Int.le_refl _,fun z=>absurd z (aF4 _)⟩
    | succ j =>
     have:=hm (j+2) (by simpa using hj)
     simp only [aD0,List.getD_cons_succ] at this ⊢
     exact ⟨this.1,fun z=>absurd z (Nat.not_lt_zero _)⟩
   | succ i =>
    cases i with
    | zero =>
     have:=g0.2 (by omega)
     rw [g] at this
     omega
    | succ i =>
     refine afx L a (i+1) x (by simpa using hx) fun j hj=>?_
     cases j with
     | zero =>
      have:=g0
      simp only [aD0,List.getD_cons_succ] at this ⊢
      exact ⟨this.1,fun _=>this.2 (by omega)⟩
     | succ j =>
      have:=hm (j+2) (by simpa using hj)
      simp only [aD0,List.getD_cons_succ] at this ⊢
      exact ⟨this.1,fun z=>this.2 (by omega)⟩
theorem ary:∀ {ks:List Int},ks ≠ []->∃ i,i < ks.length/\acl ks i
 | [],h=>absurd rfl h
 | [a],_=>⟨0,by simp,fun j hj=>by
  have:j=0:=by simpa using hj
  subst this
  exact ⟨Int.le_refl _,fun z=>absurd z (aF4 _)⟩⟩
 | a :: b :: l,_=>by
  obtain ⟨i,hi,hm⟩:=ary (ks:=b :: l) (by simp)
  by_cases h:a<=(b :: l).getD i 0
  ·refine ⟨0,by simp,fun j hj=>?_⟩
   cases j with
   | zero=>exact ⟨Int.le_refl _,fun z=>absurd z (aF4 _)⟩
   | succ j =>
    have:=(hm j (by simpa using hj)).1
    rw [List.getD_cons_succ,List.getD_cons_zero]
    exact ⟨by omega,fun z=>absurd z (Nat.not_lt_zero _)⟩
  ·refine ⟨i+1,by simpa using hi,fun j hj=>?_⟩
   rw [List.getD_cons_succ]
   cases j with
   | zero =>
    rw [List.getD_cons_zero]
    exact ⟨by omega,fun _=>by omega⟩
   | succ j =>
    have:=hm j (by simpa using hj)
    rw [List.getD_cons_succ]
    exact ⟨this.1,fun z=>this.2 (by omega)⟩
theorem aop {ks:List Int} {i j:Nat} (h:acl ks i) (g:acl ks j) (hi:i < ks.length) (hj:j < ks.length):i=j:=by
 have a:=h j hj
 have b:=g i hi
 rcases Nat.lt_trichotomy i j with z | z | z
 ·have:=b.2 z;omega
 ·exact z
 ·have:=a.2 z;omega
def ad2 (b:Int × List (Int × Int)):List PyData:=[.int b.1,.list (b.2.map prD)]
def azm (d:Nat):VJ:=fun ss Q=>∃ (n j:Nat) (n0:1<=n) (x:FI) (b:Int × List (Int × Int)),ss=[.st (.list (matD n x.m)),.st (.list (x.ls.map prD)),.st (.int (j:Int)),.st (.list (x.ts.map prD)),.io (OL (ad2 b))]/\j+1<=d/\n<=8/\x.ls.length<=28/\x.ts.length+j<=3/\TriM n x.m/\(∀ p∈x.ls,0<=p.1/\p.1 < n/\0<=p.2/\p.2 < n) /\
 Q [none,none,none,none,some (.io (OL (ad2 ((dnF j x).foldl (upF n n0) b))))] (.st .none)
def a0h:VP:=fun ss Q=>∃ (n k:Int) (es:List (Int × Int)),ss=[.st (webD n es),.st (.int k)]/\1<=n/\n<=8/\InN n es/\es.length<=10000/\Joined n es/\1<=k/\k<=3 /\
 ∀ fs (n0:1<=n.toNat) i x,FreeAll n es fs->(trF (dsF es) fs k.toNat)[i]?=some x->acl ((trF (dsF es) fs k.toNat).map fun y=>tpM n.toNat n0 y.m) i->Q (.st (fewD (tpM n.toNat n0 x.m) x.ts))
section
variable {P:Program} {w:World} {K:Frag} {mg:Str->Option Value} {base:Heap}
theorem sc_law_few:FnScope ["rows","free","many","chosen","best","far","k","more"] ["rows","free","many","chosen","best"] (aal s_law_few):=by row_cond sc
theorem anl (T:Txt K mg):∀ d,Can P w K mg base "_law_few" (d+2) ["rows","free","many","chosen","best"] (spJ K (azm d)):=by
 intro d
 obtain ⟨f,fd,D⟩:=T.d_law_few
 induction d with
 | zero=>exact D.can ⟨fun vs H Q E h=>(by obtain ⟨B,ss,F,_,_,_,q,_⟩:=h;obtain ⟨n,j,a,x,b,_,M,_⟩:=q;omega),fun A outer s H args us vs Q E _ _ _ _ h=>(by obtain ⟨B,ss,F,_,_,_,q,_⟩:=h;obtain ⟨n,j,a,x,b,_,M,_⟩:=q;omega)⟩
 | succ d ih =>
  refine D.can (D.fn.ok sc_law_few (fun vs H Q E h=>lenJ h fun ss F q=>by obtain ⟨n,j,a,x,b,rfl,_⟩:=q;rfl) (fun cdv A outer s H vs Q E U h=>?_))
  have nd:=sc_law_few.nd
  refine ⟨_,(aag (ab5 (aa6 ah8 (pv 2) aac (aa7 _))
   (aad (aam (i:=5) nd rfl (Or.inl rfl) (aaw (acy rfl) (by rfl) T.b_max adr (aaa (ac1 rfl (N:=["row"]) (src:=[none]) (by exact abn rfl rfl rfl rfl rfl rfl) (abw (pv 0)) (fun _ _ _ _=>(aai (i:=0) (show List.Nodup (["row"]:List Str) by decide +kernel) rfl (Or.inl rfl) (hf:=Or.inr rfl))) (fun _ _ _ _=>abm) (fun _ _ _ _=>(aaw (show abk _ (.builtin "max") (agp K) from (acy rfl)) (by rfl) T.b_max adr (aaa (pv 0) aab)))) aab)))
    (aag (ab5 (aa6 agh (pv 5) (aao aap (pv 4) aac (fun _ _=>rfl)) (aa7 _))
     (aad (act (pv 5) (ah7 (pv 4) aac afm))
      (aag (act (pv 3) (ah7 (pv 4) aac afm))))
     abo)))
   (aag (aa9 aI5 rfl (aa0 rfl T.b_range (aaa (aaw ack (by rfl) T.b_len adq (aaa (pv 1) aab)) aab)) (aai (i:=6) nd rfl (Or.inl rfl))
     (aad (aam (i:=7) nd rfl (Or.inl rfl) (aaf ap6 (pv 3) (aa3 (aaa (aao aap (pv 1) (pv 6) (fun _ _=>rfl)) aab))))
      (aag (aaz (aav ih U (aaa (aav (hj:=Nat.le_add_left 1 _) (am3 T) U (aaa (pv 0) (aaa (aao aap (pv 1) (pv 6) (fun _ _=>rfl)) aab))) (aaa (ahb ai8 (pv 1) (ai7 (aaf aaq (pv 6) aac)) ai6) (aaa (aaf acu (pv 2) aac) (aaa (pv 7) (aaa (pv 4) aab))))) (hj:=aA6 _))))))))),?_⟩
  refine a0b h fun ss F q B hK=>?_
  obtain ⟨n,j,a,x,b,rfl,hd,X,hl,ht,S,z,r⟩:=q
  show EvS B _ _ [some (.st (.list (matD n x.m))),some (.st (.list (x.ls.map prD))),some (.st (.int (j:Int))),some (.st (.list (x.ts.map prD))),some (.io (OL (ad2 b))),none,none,none]
  have W:atI (ad2 b) 0=some (.int b.1):=rfl
  have a0:atI (ad2 b) 1=some (.list (b.2.map prD)):=rfl
  row_cond go
  refine ab2 (fun M=>?_) (fun M=>?_)
  ·have O:j=0:=by omega
   subst O
   obtain ⟨L,v⟩:=agz a x.m
   row_cond go
   rw [show matD n x.m=(List.range n).map fun (u:Nat)=>PyData.list (rowD n (x.m (u:Int))) from rfl]
   refine ael (fun u:Nat => .int (L u)) rfl (by simp;omega) (fun u hu B' hB=>?_) ?_
   ·row_cond go
    rw [ahx]
    exact adl (by simp;omega) fun y J=>⟨by rw [ahy J (v u)],rfl⟩
   ·row_cond go
    rw [show (List.range n).map (fun u:Nat=>PyData.int (L u))=((List.range n).map L).map .int by rw [aD5];rfl]
    refine adl (by simp;omega) fun y J=>?_
    obtain rfl:y=tpM n a x.m:=ahz (arx v J) (ajt a x.m)
    row_cond go
    refine ab2 (fun o=>?_) (fun o=>?_)
    ·row_cond go
     have e:(dnF 0 x).foldl (upF n a) b=(tpM n a x.m,x.ts):=aE5 o
     rw [e] at r
     exact r
    ·row_cond go
     have e:(dnF 0 x).foldl (upF n a) b=b:=aE6 o
     rw [e] at r
     exact r
  ·obtain ⟨i,rfl⟩:∃ i,j=i+1:=⟨j - 1,by omega⟩
   row_cond go
   rw [aA3]
   row_cond go
   refine abb (fun t e=>∃ R G I,e=[some (.st (.list (matD n x.m))),some (.st (.list (x.ls.map prD))),some (.st (.int ((i+1:Nat):Int))),some (.st (.list (x.ts.map prD))),some (.io (OL (ad2 (((List.range t).flatMap fun u=>dnF i (nxF x u)).foldl (upF n a) b)))),R,G,I]) ⟨_,_,_,rfl⟩ ?_ ?_
   ·rintro t e Y g
    refine exE3 e g fun R G I=>?_
    clear g
    have c:t < x.ls.length:=by omega
    have C:x.ls.getD t (0,0)∈x.ls:=by rw [aeb _ c];exact List.getElem_mem c
    have l:=z _ C
    have a1:atI (x.ls.map prD) (0+(t:Int))=some (prD (x.ls.getD t (0,0))):=by
     rw [aH6]
     exact ad5 (by rw [aA5,aA0 c,aeb _ c];rfl)
    repeat (first | (refine aey (by assumption) ?_) | (refine agx (s:=.io _) rfl ?_) | (refine afv ?_) | (refine agw ?_) | row_cond st)
    refine ⟨n,x.m,(x.ls.getD t (0,0)).1,(x.ls.getD t (0,0)).2,rfl,by omega,l.1,l.2.1,l.2.2.1,l.2.2.2,S.tri,acq ?_⟩
    repeat (first | (refine aey (by assumption) ?_) | (refine agx (s:=.io _) rfl ?_) | (refine afv ?_) | (refine agw ?_) | row_cond st)
    refine ⟨_,.pl (.pl (.pl (.pl (.rf (.inr rfl) .nil)))),(by show List.Nodup [4];decide),n,i,a,nxF x t,((List.range t).flatMap fun u=>dnF i (nxF x u)).foldl (upF n a) b,?_,by omega,X,?_,?_,S.with l.1 l.2.1 l.2.2.1 l.2.2.2,?_,?_⟩
    ·rw [aH6,amx _ c,show ((i+1:Nat):Int) - 1=(i:Int) by omega]
     show [Sl.st _,_,_,Sl.st (.list (x.ts.map prD ++ [prD (x.ls.getD t (0,0))])),_]=[Sl.st _,_,_,Sl.st (.list ((x.ts ++ [x.ls.getD t (0,0)]).map prD)),_]
     rw [aD7]
     rfl
    ·show (x.ls.drop (t+1)).length<=28
     rw [aH7];omega
    ·show (x.ts ++ [x.ls.getD t (0,0)]).length+i<=3
     rw [aB0,List.length_singleton];omega
    ·exact fun p C=>z p (aC3 C)
    ·refine ⟨_,.pl (.pl (.pl (.pl (.rf rfl (.inr rfl) .nil)))),?_⟩
     dsimp only [List.set_cons_zero,List.set_cons_succ,reS]
     rw [← List.foldl_append]
     have Z:(List.range (t+1)).flatMap (fun u=>dnF i (nxF x u))=(List.range t).flatMap (fun u=>dnF i (nxF x u)) ++ dnF i (nxF x t):=by rw [List.range_succ,List.flatMap_append,List.flatMap_singleton]
     rw [Z]
     exact ⟨_,_,_,rfl⟩
   ·rintro e g
    refine exE3 e g fun R G I=>?_
    clear g
    row_cond go
    have e:(dnF (i+1) x)=(List.range (x.ls.length:Int).toNat).flatMap fun u=>dnF i (nxF x u):=by
     show ((List.range x.ls.length).map (nxF x)).flatMap (dnF i)=_
     rw [List.flatMap_map]
     rfl
    rw [e] at r
    exact r
theorem sc_law_best_few:FnScope ["web","k","rows","best","many"] ["web","k"] (aal s_law_best_few):=by row_cond sc
theorem ah3 (T:Txt K mg):Can P w K mg base "_law_best_few" 7 ["web","k"] (spP K (a0h)):=by
 obtain ⟨f,fd,D⟩:=T.d_law_best_few
 refine D.can (D.fn.ok sc_law_best_few (fun vs H Q E h=>lenP h fun ss U q=>by obtain ⟨n,k,es,rfl,r,J,g,d,G,R,Y,M⟩:=q;rfl) (fun cdv A outer s H vs Q E v h=>?_))
 have nd:=sc_law_best_few.nd
 refine ⟨_,(aad (aam (i:=2) nd rfl (Or.inl rfl) (aav (am2 T) v (aaa (pv 0) aab)))
  (aad (aam (i:=3) nd rfl (Or.inl rfl) (aa3 (aaa (aaw (acy rfl) (by rfl) T.b_max adr (aaa (ac1 rfl (N:=["row"]) (src:=[none]) (by exact abn rfl rfl rfl rfl rfl rfl) (abw (pv 2)) (fun _ _ _ _=>(aai (i:=0) (show List.Nodup (["row"]:List Str) by decide +kernel) rfl (Or.inl rfl) (hf:=Or.inr rfl))) (fun _ _ _ _=>abm) (fun _ _ _ _=>(aaw (show abk _ (.builtin "max") (agp K) from (acy rfl)) (by rfl) T.b_max adr (aaa (pv 0) aab)))) aab)) (aaa (aa3 aab) aab))))
  (aad (aa9 aI5 rfl (adp rfl T.b_range (aaa aac (aaa (aaf aaq (pv 1) aac) aab))) (aai (i:=4) nd rfl (Or.inl rfl))
   (aag (aaz (aav (anl T 4) v (aaa (pv 2) (aaa (aav (amz T) v (aaa (pv 0) aab)) (aaa (pv 4) (aaa (aa3 aab) (aaa (pv 3) aab)))))))))
  (aag (aa2 (abg (aaa (aao aap (pv 3) aac (fun _ _=>rfl)) (aaa (aao aap (pv 3) aac (fun _ _=>rfl)) aab)))))))),?_⟩
 refine abf h fun ss U q B hK=>?_
 refine exS3 ss q fun n k es a=>?_
 have r:=a.1
 have J:=a.2.1
 have g:=a.2.2.1
 have d:=a.2.2.2.1
 have G:=a.2.2.2.2.1
 have R:=a.2.2.2.2.2.1
 have Y:=a.2.2.2.2.2.2.1
 have M:=a.2.2.2.2.2.2.2
 clear a q
 show EvS B _ _ [some (.st (webD n es)),some (.st (.int k)),none,none,none]
 have hn:1<=n.toNat:=by omega
 have X:=azj G r
 obtain ⟨F,c⟩:=agz hn (dsF es)
 have j:=akf n es
 have I:=amw j J
 row_cond go
 refine ⟨n,es,rfl,r,by omega,g,d,G,afi adc ?_⟩
 row_cond go
 rw [show matD n.toNat (dsF es)=(List.range n.toNat).map fun (u:Nat)=>PyData.list (rowD n.toNat (dsF es (u:Int))) from rfl]
 refine ael (fun u:Nat => .int (F u)) rfl (by simp;omega) (fun u hu B' hB=>?_) ?_
 ·row_cond go
  rw [ahx]
  exact adl (by simp;omega) fun y z=>⟨by rw [ahy z (c u)],rfl⟩
 ·row_cond go
  rw [show (List.range n.toNat).map (fun u:Nat=>PyData.int (F u))=((List.range n.toNat).map F).map .int by rw [aD5];rfl]
  refine adl (by simp;omega) fun y z=>?_
  obtain rfl:y=tpM n.toNat hn (dsF es):=ahz (arx c z) (ajt hn (dsF es))
  row_cond go
  refine abb (fun t e=>∃ o,e=[some (.st (webD n es)),some (.st (.int k)),some (.st (.list (matD n.toNat (dsF es)))),some (.own (OL (ad2 (((List.range t).flatMap fun u=>dnF (u+1) ⟨[],ace n es,dsF es⟩).foldl (upF n.toNat hn) (tpM n.toNat hn (dsF es),[]))))),o]) ⟨_,rfl⟩ ?_ ?_
  ·rintro t e Z b
   refine exE1 e b fun o=>?_
   clear b
   repeat (first | (refine aey (by assumption) ?_) | (refine agx (s:=.own _) rfl ?_) | (refine afv ?_) | (refine agw ?_) | row_cond st)
   refine ⟨n,es,rfl,by omega,by omega,fun fs C=>acq ?_⟩
   obtain rfl:=C.eq j
   repeat (first | (refine aey (by assumption) ?_) | (refine agx (s:=.own _) rfl ?_) | (refine afv ?_) | (refine agw ?_) | row_cond st)
   refine ⟨_,.pl (.pl (.pl (.pl (.rf (.inl rfl) .nil)))),(by show List.Nodup [3];decide),n.toNat,t+1,hn,⟨[],ace n es,dsF es⟩,((List.range t).flatMap fun u=>dnF (u+1) ⟨[],ace n es,dsF es⟩).foldl (upF n.toNat hn) (tpM n.toNat hn (dsF es),[]),?_,by omega,by omega,I,?_,X,?_,?_⟩
   ·rw [show (1:Int)+(t:Int)=((t+1:Nat):Int) by omega]
    rfl
   ·show 0+(t+1)<=3
    omega
   ·exact fun p S=>by
     have:=(j.mem p).mp S
     omega
   ·refine ⟨_,.pl (.pl (.pl (.pl (.rf rfl (.inl rfl) .nil)))),?_⟩
    dsimp only [List.set_cons_zero,List.set_cons_succ,reS]
    rw [← List.foldl_append]
    have W:(List.range (t+1)).flatMap (fun u=>dnF (u+1) ⟨[],ace n es,dsF es⟩)=(List.range t).flatMap (fun u=>dnF (u+1) ⟨[],ace n es,dsF es⟩) ++ dnF (t+1) ⟨[],ace n es,dsF es⟩:=by rw [List.range_succ,List.flatMap_append,List.flatMap_singleton]
    rw [W]
    exact ⟨_,rfl⟩
  ·rintro e b
   refine exE1 e b fun o=>?_
   clear b
   rw [show (k+1 - 1).toNat=k.toNat by omega]
   obtain ⟨i,hi,hm⟩:=ary (ks:=(trF (dsF es) (ace n es) k.toNat).map fun y=>tpM n.toNat hn y.m) (by rw [apr];simp)
   rw [aA3] at hi
   have l:=aA0 hi
   have q:=M (ace n es) hn i _ j l hm
   generalize (trF (dsF es) (ace n es) k.toNat)[i]=x at l q
   rw [apr] at l hm
   have e:=afx _ _ i x l hm
   have L:=show atI (ad2 (((List.range k.toNat).flatMap fun u=>dnF (u+1) ⟨[],ace n es,dsF es⟩).foldl (upF n.toNat hn) (tpM n.toNat hn (dsF es),[]))) 0=some (.int (tpM n.toNat hn x.m)) by rw [e];rfl
   have O:=show atI (ad2 (((List.range k.toNat).flatMap fun u=>dnF (u+1) ⟨[],ace n es,dsF es⟩).foldl (upF n.toNat hn) (tpM n.toNat hn (dsF es),[]))) 1=some (.list (x.ts.map prD)) by rw [e];rfl
   row_cond go
   exact q
end
def aps (K:Frag):Sp:=fun vs H Q _=>∃ (a:Addr) (ns:List Int),vs=[.ref a]/\SqL K H a (ns.map V.int)/\ns.length<=63/\∀ H',Q (.bl true) H'
def auu:VP:=fun ss Q=>∃ ns:List Int,ss=[.scr ns]/\ns.length<=63/\Q (.st (.bool true))
theorem atz {K:Frag} {vs:List V} {H:Hp} {Q:VK} {E:XK} (h:aps K vs H Q E):spP K auu vs H Q E:=by
 obtain ⟨a,ns,rfl,c,b,k⟩:=h
 refine ⟨H,[.scr ns],fun s=>s=.st (.bool true),Same.refl _,fun a ks h=>h,.cons ⟨a,rfl,c⟩ .nil,⟨ns,rfl,b,rfl⟩,fun s e v G' H' Fv o=>?_⟩
 subst e
 have r:=o.ok.1
 cases r
 exact k _
theorem fewP (x:Int) (ts:List (Int × Int)):aat (fewD x ts)=true/\(fewD x ts).depth<=60:=by
 refine ⟨?_,?_⟩
 ·show plainDs [.int x,.list (ts.map prD)]=true
  simp only [plainDs,aat,Bool.true_and,Bool.and_true]
  exact ad0 ts
 ·have:=apj ts
  simp only [fewD,PyData.depth,PyData.depthAll]
  omega
theorem webP (n:Int) (es:List (Int × Int)):aat (webD n es)=true:=by
 have:=ad0 es
 simp only [webD,aat,plainDs,this,Bool.and_self]
theorem auv (n:Int) (es:List (Int × Int)):(webD n es).depth<=60:=by
 have h:PyData.depthAll (es.map prD)<=1:=ae2 fun d hd=>by
  obtain ⟨p,_,rfl⟩:=aB6.mp hd
  exact aex p
 simp only [webD,PyData.depth,PyData.depthAll]
 omega
section
variable {P:Program} {w:World} {K:Frag} {mg:Str->Option Value} {base:Heap}
theorem sc_law:FnScope ["script","d","turn","k","web","handed","due","found"] ["script"] (aal s_law):=by row_cond sc
theorem axa (T:Txt K mg) {f:Addr} {fd:FuncData} (D:DefAt K mg "law" s_law ["script"] f fd):FnOk P w K mg base CX0 12 f fd ["script"] (spP K (auu)):=by
 refine D.fn.ok sc_law (fun vs H Q E h=>lenP h fun ss Q' q=>by obtain ⟨ns,rfl,Y,kk⟩:=q;rfl) (fun cdv A outer s H vs Q E o h=>?_)
 have nd:=sc_law.nd
 refine ⟨_,(aad (aam (i:=1) nd rfl (Or.inl rfl) (aav (ak1 T) o (aaa (pv 0) (aaa aac aab))))
  (aad (aa9 aI5 rfl (aa0 rfl T.b_range (aaa aac aab)) (aai (i:=2) nd rfl (Or.inl rfl))
   (aad (aam (i:=3) nd rfl (Or.inl rfl) (aaf aaq aac (aaf aax (aao aap (pv 1) (aaf aaq aac (pv 2)) (fun _ _=>rfl)) aac)))
    (aad (aam (i:=4) nd rfl (Or.inl rfl) (aav (ank T) o (aaa (pv 1) (aaa (aaf acf aac (pv 2)) (aaa (aao aap (aa3 (aaa aac (aaa aac (aaa (aao aap (aa3 (aaa aac (aaa aac aab))) (aem aig (by rfl) T.b_int alv (aaa (ad4 ah8 (aaf aax (aao aap (pv 1) (aaf aaq aac (pv 2)) (fun _ _=>rfl)) aac) aac (aa7 _)) aab)) (fun _ _=>rfl)) aab)))) (aaf acu (pv 3) aac) (fun _ _=>rfl)) aab)))))
    (aad (ab5 (aa6 ah8 (aaf aax (aao aap (pv 1) (aaf aaq aac (pv 2)) (fun _ _=>rfl)) aac) aac (aa7 _))
     (aag (aam (i:=4) nd rfl (Or.inl rfl) (aav (ak2 T) o (aaa (pv 1) (aaa (aaf acf aac (pv 2)) (aaa (aaf aaq aac (aaf aax (aao aap (pv 1) aac (fun _ _=>rfl)) aac)) aab))))))
     abo)
    (aad (aam (i:=5) nd rfl (Or.inl rfl) (aav (amy T) o (aaa (pv 4) aab)))
    (aad (aam (i:=6) nd rfl (Or.inl rfl) (aav (ah3 T) o (aaa (pv 4) (aaa (pv 3) aab))))
    (aad (aam (i:=7) nd rfl (Or.inl rfl) (aav (age T) o (aaa (pv 5) (aaa (pv 3) aab))))
    (aad (ab5 (PW.pt (ah5 (ae5 (aec (aaw adi (by rfl) T.b_isinstance ab4 (aaa (pv 7) (aaa (ad3 (v:=.ty "tuple") rfl T.b_tuple alw rfl) aab))))) (ah5 (aa6 (afa o.units) (pv 7) (pv 6) (aa7 _)) (ah4 (aa6 (afa o.units) (pv 5) (pv 4) (aa7 _))))))
     (aag (aa2 adw))
     abo)
    (aad (ab5 (ae5 (aec (aaw adi (by rfl) T.b_isinstance ab4 (aaa (aao aap (pv 7) aac (fun _ _=>rfl)) (aaa (ad3 (v:=.ty "list") rfl T.b_list agn rfl) aab)))))
     (aag (aa2 adw))
     abo)
    (aad (ab5 (PW.pt (ah5 (aa6 (afa o.units) (ac1 rfl (N:=["tie"]) (src:=[none]) (by exact abn rfl rfl rfl rfl rfl rfl) (abw (aao aap (pv 7) aac (fun _ _=>rfl))) (fun _ _ _ _=>(aai (i:=0) (show List.Nodup (["tie"]:List Str) by decide +kernel) rfl (Or.inl rfl) (hf:=Or.inr rfl))) (fun _ _ _ _=>ant (ae5 (aec (aaw (show abk _ (.builtin "isinstance") (rIsi K) from adi) (by rfl) T.b_isinstance ab4 (aaa (pv 0) (aaa (ad3 (v:=.ty "tuple") rfl T.b_tuple alw rfl) aab)))))) (fun _ _ _ _=>(pv 0))) (aa3 aab) (aa7 _)) (ah4 (aec (aaw adi (by rfl) T.b_isinstance ab4 (aaa (aao aap (pv 7) aac (fun _ _=>rfl)) (aaa (ad3 (v:=.ty "bool") rfl T.b_bool an1 rfl) aab)))))))
     (aag (aa2 adw))
     abo)
    (aad (aaz (abx PySem.F.plainAttrs_list PySem.F.slot_list_append PySem.F.type_list_append aa1 (aao aap (pv 7) aac (fun _ _=>rfl)) (aaa (abg (aaa aac (aaa aac aab))) aab)))
    (aag (ab5 (PW.pt (ah5 (aa6 (afa o.units) (aav (age T) o (aaa (pv 5) (aaa (pv 3) aab))) (pv 6) (aa7 _)) (ah4 (aa6 (afa o.units) (pv 5) (pv 4) (aa7 _)))))
     (aag (aa2 adw))
     abo)))))))))))))
  (aag (aa2 adw)))),?_⟩
 refine abf h fun ss Q' q B hK=>?_
 refine exS1 ss q fun ns a=>?_
 have Y:=a.1
 have kk:=a.2
 clear a q
 show EvS B _ _ [some (.scr ns),none,none,none,none,none,none,none]
 row_cond go
 refine ⟨ns,130,rfl,Y,by decide,by decide,fun ds b3 hl S=>afi adc ?_⟩
 row_cond go
 refine abb (fun i e=>∃ v2 v3 v4 v5 v6 X,e=[some (.scr ns),some (.st (.list (ds.map .int))),v2,v3,v4,v5,v6,X]) ⟨_,_,_,_,_,_,rfl⟩ ?_ ?_
 ·rintro i e hi b
  refine exE6 e b fun v2 v3 v4 v5 v6 X=>?_
  clear b
  obtain ⟨C,ak,lk,hk⟩:=S.at (i:=120+(0+(i:Int))) (by omega) (by omega)
  obtain ⟨x2,a2,l2,h2⟩:=S.at (i:=122+(0+(i:Int))) (by omega) (by omega)
  obtain ⟨x4,a4,l4,h4⟩:=S.at (i:=124+(0+(i:Int))) (by omega) (by omega)
  obtain ⟨x6,a6,l6,h6⟩:=S.at (i:=126) (by omega) (by omega)
  obtain ⟨y1,a9,b2⟩:∃ y,atI [PyData.int 7,PyData.int 8] (if decide (x2 % 8=0)=true then 1 else 0)=some (.int y)/\(y=7\/y=8):=by
   split
   ·exact ⟨8,rfl,.inr rfl⟩
   ·exact ⟨7,rfl,.inl rfl⟩
  obtain ⟨y2,b0,b8⟩:∃ y,atI [PyData.int 8,PyData.int 8,PyData.int y1] (1+C % 3 - 1)=some (.int y)/\1<=y/\y<=8:=by
   rcases (show C % 3=0\/C % 3=1\/C % 3=2 by omega) with h | h | h <;> rw [h]
   ·exact ⟨8,rfl,by omega⟩
   ·exact ⟨8,rfl,by omega⟩
   ·exact ⟨y1,rfl,by omega⟩
  row_cond go
  refine ⟨ds,60 * (0+(i:Int)),y2,rfl,S,by omega,by omega,hl,by omega,by omega,fun n es I u G=>?_⟩
  row_cond go
  refine' cutR (R:=∀ n es,WebOk n es->n<=8->Joined n es->EvS B _ _ [some (.scr ns),some (.st (.list (ds.map .int))),some (.st (.int (0+(i:Int)))),some (.st (.int (1+C % 3))),some (.st (webD n es)),v5,v6,X]) (fun R=>?K1) ?K2
  case K1 =>
   refine ab2 (fun _=>?_) (fun _=>?_)
   ·refine ahs (fun e=>∃ n es,e=[some (.scr ns),some (.st (.list (ds.map .int))),some (.st (.int (0+(i:Int)))),some (.st (.int (1+C % 3))),some (.st (webD n es)),v5,v6,X]/\WebOk n es/\n<=8/\Joined n es) ?_ ?_
    ·row_cond go
     refine ⟨ds,60 * (0+(i:Int)),6+x6 % 3,rfl,S,by omega,by omega,hl,by omega,by omega,fun b5 a8 a3=>?_⟩
     row_cond go
     exact ⟨_,_,rfl,a8,by omega,a3⟩
    ·rintro e b
     refine exS2 e b fun n es a=>?_
     have I:=a.1
     have h8:=a.2.1
     have G:=a.2.2
     clear a b
     exact R n es I h8 G
   ·refine aeh ?_
    exact R n es I (by omega) G
  case K2 =>
   clear G I u n es
   intro n es I u G
   have L:=I.lo
   have b6:=I.len
   have J:=I.in
   have g:1<=1+C % 3/\1+C % 3<=3:=by omega
   row_cond go
   refine ⟨n,es,rfl,by omega,?_⟩
   row_cond go
   refine ⟨n,1+C % 3,es,rfl,L,u,J,by omega,G,g.1,g.2,fun fs hn j x hF Z hm=>?_⟩
   obtain ⟨O,pd⟩:=fewP (tpM n.toNat hn x.m) x.ts
   repeat (first | (refine aiy (i:=5) ⟨_,rfl⟩ ?_) | row_cond st)
   refine ⟨_,_,rfl,.inl rfl,aol _ _,fun d hd=>⟨_,aC1.mp hd⟩,n,1+C % 3,es,rfl,rfl,L,u,J,by omega,G,g.1,g.2,fun b4 M j' c a0 l U=>⟨rfl,_,_,rfl,?_⟩⟩
   obtain rfl:=a0.eq hF
   obtain rfl:=aop U hm (by rw [aA3];exact (aA1.mp l).1) (by rw [aA3];exact (aA1.mp Z).1)
   obtain rfl:c=x:=by rw [Z] at l;cases l;rfl
   repeat (first | (refine afp (abi (i:=7) (.inl rfl) abv fun z r=>?_)) | (refine aco (abi (i:=7) (.inl rfl) abv fun z r=>?_)) | row_cond st)
   refine acp ?_
   repeat (first | (refine afp (abi (i:=7) (.inl rfl) abv fun z r=>?_)) | (refine aco (abi (i:=7) (.inl rfl) abv fun z r=>?_)) | row_cond st)
   refine ad7 O O pd ?_
   rw [show PyData.eqv (.tuple [.int (tpM n.toNat M c.m),.list (c.ts.map prD)]) (fewD (tpM n.toNat hn c.m) c.ts)=true from aej O]
   refine agr ⟨rfl,_,rfl,?_⟩
   refine acp ?_
   repeat (first | (refine afp (abi (i:=5) (.inl rfl) abv fun z r=>?_)) | (refine aco (abi (i:=5) (.inl rfl) abv fun z r=>?_)) | row_cond st)
   refine ad7 (webP n es) (webP n es) (auv n es) ?_
   rw [show PyData.eqv (.tuple [.int n,.list (es.map prD)]) (webD n es)=true from aej (webP n es)]
   refine agr ⟨rfl,_,rfl,?_⟩
   refine acp ?_
   repeat (first | (refine afp (abi (i:=7) (.inl rfl) abv fun z r=>?_)) | (refine aco (abi (i:=7) (.inl rfl) abv fun z r=>?_)) | row_cond st)
   refine acp ?_
   repeat (first | (refine ab8 (arm (i:=7) (d:=.int (tpM n.toNat M c.m)) (ds:=c.ts.map prD) (.inr (.inr (.inl rfl))) rfl (fun x Z=>by obtain ⟨p,_,rfl⟩:=aB6.mp Z;rfl) (acq ?_))) | row_cond st)
   refine ad7 rfl rfl (by decide) ?_
   rw [aej (d:=.list []) rfl]
   refine ⟨_,rfl,?_⟩
   refine acp ?_
   repeat (first | (refine afp (abi (i:=7) (.inl rfl) abv fun z r=>?_)) | (refine aco (abi (i:=7) (.inl rfl) abv fun z r=>?_)) | row_cond st)
   refine aeg ?_
   have b7:c.ts.length<=3:=by
    obtain ⟨jj,hj,a7⟩:=auq (aA2 Z)
    have:=(alb a7).2.1
    omega
   have hL:(c.ts.map prD).length<=999999:=by rw [aA3];omega
   repeat (first | (refine ab8 (aiy (i:=5) ⟨_,rfl⟩ ?_)) | row_cond st)
   refine ⟨_,_,rfl,.inl rfl,aol _ _,fun d hd=>⟨_,aC1.mp hd⟩,n,1+C % 3,es,rfl,rfl,L,u,J,by omega,G,g.1,g.2,fun fs b1 j x a5 W a1=>⟨rfl,_,_,rfl,auo ?_⟩⟩
   obtain rfl:=a0.eq a5
   obtain rfl:=aop U a1 (by rw [aA3];exact (aA1.mp l).1) (by rw [aA3];exact (aA1.mp W).1)
   obtain rfl:c=x:=by rw [W] at l;cases l;rfl
   row_cond go
   refine ad7 O O pd ?_
   rw [show PyData.eqv (.tuple [.int (tpM n.toNat M c.m),.list (c.ts.map prD)]) (fewD (tpM n.toNat hn c.m) c.ts)=true from aej O]
   refine agr ⟨_,rfl,?_⟩
   refine acp ?_
   repeat (first | (refine afp (abi (i:=5) (.inl rfl) abv fun z r=>?_)) | (refine aco (abi (i:=5) (.inl rfl) abv fun z r=>?_)) | row_cond st)
   refine ad7 (webP n es) (webP n es) (auv n es) ?_
   rw [show PyData.eqv (.tuple [.int n,.list (es.map prD)]) (webD n es)=true from aej (webP n es)]
   refine agr ⟨rfl,_,rfl,?_⟩
   refine acp ?_
   row_cond go
   exact ⟨_,_,_,_,_,_,rfl⟩
 ·rintro e b
  refine exE6 e b fun v2 v3 v4 v5 v6 X=>?_
  clear b
  row_cond go
  exact kk
theorem azn (T:Txt K mg) {f:Addr} {fd:FuncData} (D:DefAt K mg "law" s_law ["script"] f fd):FnOk P w K mg base CX0 12 f fd ["script"] (aps K):=(axa T D).imp fun _ _ _ _ h=>atz h
end
theorem len0 {α:Type} {us:List α} (h:us.length=0):us=[]:=aG2 h
theorem len1 {α:Type} {us:List α} (h:us.length=1):∃ a0,us=[a0]:=by
 cases us with
 | nil=>cases h
 | cons a us=>exact ⟨a,by rw [len0 (Nat.succ.inj h)]⟩
theorem len2 {α:Type} {us:List α} (h:us.length=2):∃ a0 b,us=[a0,b]:=by
 cases us with
 | nil=>cases h
 | cons a us=>obtain ⟨b,e⟩:=len1 (Nat.succ.inj h);exact ⟨a,b,by rw [e]⟩
theorem len3 {α:Type} {us:List α} (h:us.length=3):∃ a0 b c,us=[a0,b,c]:=by
 cases us with
 | nil=>cases h
 | cons a us=>obtain ⟨b,c,e⟩:=len2 (Nat.succ.inj h);exact ⟨a,b,c,by rw [e]⟩
theorem len4 {α:Type} {us:List α} (h:us.length=4):∃ a0 c d b,us=[a0,c,d,b]:=by
 cases us with
 | nil=>cases h
 | cons a us=>obtain ⟨c,d,b,e⟩:=len3 (Nat.succ.inj h);exact ⟨a,c,d,b,by rw [e]⟩
theorem len5 {α:Type} {us:List α} (h:us.length=5):∃ a0 d f b c,us=[a0,d,f,b,c]:=by
 cases us with
 | nil=>cases h
 | cons a us=>obtain ⟨d,f,b,c,e⟩:=len4 (Nat.succ.inj h);exact ⟨a,d,f,b,c,by rw [e]⟩
def Bnd (x:Str) (st:Stmt) (ps:List Str):Prop:=∀ (kV doc pm:Value) (an:Option Addr) (cdv ct:Value) (us:List Value),us.length=ps.length->bindArgs (fnOf x x (ach st) (ab1 st) (aal st) .none kV doc pm an cdv ct) ⟨us,[]⟩=pure (ps.zip us)
def FnIn (K:Frag) (x:Str) (st:Stmt):Prop:=∃ f oc od kV dc pm an cd ct sl,nsIn K mainGlobals x=some (some (.ref f))/\K.lookup f=some ⟨oc,od,.func (fnOf x x (ach st) (ab1 st) (aal st) .none kV dc pm an cd ct),sl⟩/\codeIn K cd x=true/\keepIn K (.ref f)=true
theorem fn_in {K:Frag} {x:Str} {st:Stmt} {f:Addr} {od an:Option Addr} {sl:Array (Option Value)} {oc kV d pm b ct:Value} (a:nsIn K mainGlobals x=some (some (.ref f))) (l:K.lookup f=some ⟨oc,od,.func (fnOf x x (ach st) (ab1 st) (aal st) .none kV d pm an b ct),sl⟩) (c:codeIn K b x=true) (k:keepIn K (.ref f)=true):FnIn K x st:=⟨f,oc,od,kV,d,pm,an,b,ct,sl,a,l,c,k⟩
theorem bnd1 {st:Stmt} {x:Str} {ps:List Str} (c:ps.length=1) (h:∀ (kV doc pm:Value) (an:Option Addr) (cdv ct:Value) (a:Value),bindArgs (fnOf x x (ach st) (ab1 st) (aal st) .none kV doc pm an cdv ct) ⟨[a],[]⟩=pure (ps.zip [a])):Bnd x st ps:=by
 intro kV doc pm an cdv ct us b
 rw [c] at b
 obtain ⟨_,rfl⟩:=len1 b
 exact h _ _ _ _ _ _ _
theorem bnd2 {st:Stmt} {x:Str} {ps:List Str} (d:ps.length=2) (h:∀ (kV doc pm:Value) (an:Option Addr) (cdv ct:Value) (b c:Value),bindArgs (fnOf x x (ach st) (ab1 st) (aal st) .none kV doc pm an cdv ct) ⟨[b,c],[]⟩=pure (ps.zip [b,c])):Bnd x st ps:=by
 intro kV doc pm an cdv ct us a
 rw [d] at a
 obtain ⟨_,_,rfl⟩:=len2 a
 exact h _ _ _ _ _ _ _ _
theorem bnd3 {st:Stmt} {x:Str} {ps:List Str} (f:ps.length=3) (h:∀ (kV doc pm:Value) (an:Option Addr) (cdv ct:Value) (b c d:Value),bindArgs (fnOf x x (ach st) (ab1 st) (aal st) .none kV doc pm an cdv ct) ⟨[b,c,d],[]⟩=pure (ps.zip [b,c,d])):Bnd x st ps:=by
 intro kV doc pm an cdv ct us a
 rw [f] at a
 obtain ⟨_,_,_,rfl⟩:=len3 a
 exact h _ _ _ _ _ _ _ _ _
theorem bnd5 {st:Stmt} {x:Str} {ps:List Str} (i:ps.length=5) (h:∀ (kV doc pm:Value) (an:Option Addr) (cdv ct:Value) (b f g d c:Value),bindArgs (fnOf x x (ach st) (ab1 st) (aal st) .none kV doc pm an cdv ct) ⟨[b,f,g,d,c],[]⟩=pure (ps.zip [b,f,g,d,c])):Bnd x st ps:=by
 intro kV doc pm an cdv ct us a
 rw [i] at a
 obtain ⟨_,_,_,_,_,rfl⟩:=len5 a
 exact h _ _ _ _ _ _ _ _ _ _ _
theorem aa4 {K:Frag} {h:Heap} {mg:Str->Option Value} {x:Str} {st:Stmt} {ps:List Str} (X:K.In h) (G:h.Ns mainGlobals mg) (q:FnIn K x st)
  (hb:Bnd x st ps):∃ f fd,DefAt K mg x st ps f fd:=by
 obtain ⟨f,oc,od,kV,b,pm,an,d,ct,sl,a,l,c,k⟩:=q
 exact ⟨_,_,have F:=axu (st:=st) l c k;⟨F,mg_of X G a,F.binds hb⟩⟩
theorem txt_mk {K:Frag} {h:Heap} {mg:Str->Option Value} (X:K.In h) (G:h.Ns mainGlobals mg)
  {f:Tok} {a:Tok} {O q L:Addr} {J s:Value} {N v:Option Addr} {r:FuncData} {M u:Array (Option Value)} {I:Array Value} 
  (h0:FnIn K "is_whole" s_is_whole)
  (h1:FnIn K "is_between" s_is_between)
  (h2:FnIn K "need_number" s_need_number)
  (h3:FnIn K "is_place" s_is_place)
  (h4:FnIn K "tied_places" s_tied_places)
  (h5:FnIn K "far_from" s_far_from)
  (h6:FnIn K "need_place" s_need_place)
  (h7:FnIn K "all_far" s_all_far)
  (h8:FnIn K "is_joined" s_is_joined)
  (h9:FnIn K "need_joined" s_need_joined)
  (a4:FnIn K "far_rows" s_far_rows)
  (R:FnIn K "most_far" s_most_far)
  (a2:FnIn K "free_ties" s_free_ties)
  (Y:FnIn K "rows_with" s_rows_with)
  (S:FnIn K "row_with" s_row_with)
  (Z:FnIn K "best_few" s_best_few)
  (U:FnIn K "one_tie_more" s_one_tie_more)
  (a8:FnIn K "_law_draws" s_law_draws)
  (a7:FnIn K "_law_web" s_law_web)
  (a0:FnIn K "_law_copy" s_law_copy)
  (a1:FnIn K "_law_rows" s_law_rows)
  (a6:FnIn K "_law_free" s_law_free)
  (a5:FnIn K "_law_with" s_law_with)
  (P:FnIn K "_law_few" s_law_few)
  (T:FnIn K "_law_best_few" s_law_best_few)
  (a3:FnIn K "_law_thick" s_law_thick)
  (Q:FnIn K "law" s_law)
  (c:nsIn K mainGlobals "ValueError" = some none)
  (z:nsIn K mainGlobals "max" = some none)
  (o:nsIn K mainGlobals "list" = some none)
  (n:nsIn K mainGlobals "range" = some none)
  (C:nsIn K mainGlobals "min" = some none)
  (g:nsIn K mainGlobals "enumerate" = some none)
  (d:nsIn K mainGlobals "isinstance" = some none)
  (D:nsIn K mainGlobals "int" = some none)
  (y:nsIn K mainGlobals "len" = some none)
  (B:nsIn K mainGlobals "abs" = some none)
  (j:nsIn K mainGlobals "sorted" = some none)
  (p:nsIn K mainGlobals "bool" = some none)
  (w:nsIn K mainGlobals "zip" = some none)
  (m:nsIn K mainGlobals "tuple" = some none)
  (i:nsIn K mainGlobals "MOST_FEW" = some (some (.int 3 f)))
  (b:nsIn K mainGlobals "MOST_PLACES_FOR_FEW" = some (some (.int 8 a)))
  (E:nsIn K mainGlobals lamN=some (some (.ref O))) (A:K.lookup O=some ⟨J,N,.func r,M⟩) (F:r.code=.ref q) (l:K.lookup q=some ⟨s,v,.fields I,u⟩) (H:I[11]?=some (.ref L)) (x:PySem.W.codeHdIn [(q,⟨s,v,.fields I,u⟩)] q L=true)
  : Txt K mg where
  lam:=ay6 X G (tab_mk E A F l H) (ay7 l x)
  b_ValueError:=mg_none_of X G c
  b_max:=mg_none_of X G z
  b_list:=mg_none_of X G o
  b_range:=mg_none_of X G n
  b_min:=mg_none_of X G C
  b_enumerate:=mg_none_of X G g
  b_isinstance:=mg_none_of X G d
  b_int:=mg_none_of X G D
  b_len:=mg_none_of X G y
  b_abs:=mg_none_of X G B
  b_sorted:=mg_none_of X G j
  b_bool:=mg_none_of X G p
  b_zip:=mg_none_of X G w
  b_tuple:=mg_none_of X G m
  v_MOST_FEW:=⟨_,mg_of X G i⟩
  v_MOST_PLACES_FOR_FEW:=⟨_,mg_of X G b⟩
  d_is_whole:=aa4 X G h0 (bnd1 rfl fun _ _ _ _ _ _ _=>rfl)
  d_is_between:=aa4 X G h1 (bnd3 rfl fun _ _ _ _ _ _ _ _ _=>rfl)
  d_need_number:=aa4 X G h2 (bnd3 rfl fun _ _ _ _ _ _ _ _ _=>rfl)
  d_is_place:=aa4 X G h3 (bnd2 rfl fun _ _ _ _ _ _ _ _=>rfl)
  d_tied_places:=aa4 X G h4 (bnd1 rfl fun _ _ _ _ _ _ _=>rfl)
  d_far_from:=aa4 X G h5 (bnd2 rfl fun _ _ _ _ _ _ _ _=>rfl)
  d_need_place:=aa4 X G h6 (bnd2 rfl fun _ _ _ _ _ _ _ _=>rfl)
  d_all_far:=aa4 X G h7 (bnd2 rfl fun _ _ _ _ _ _ _ _=>rfl)
  d_is_joined:=aa4 X G h8 (bnd1 rfl fun _ _ _ _ _ _ _=>rfl)
  d_need_joined:=aa4 X G h9 (bnd1 rfl fun _ _ _ _ _ _ _=>rfl)
  d_far_rows:=aa4 X G a4 (bnd1 rfl fun _ _ _ _ _ _ _=>rfl)
  d_most_far:=aa4 X G R (bnd1 rfl fun _ _ _ _ _ _ _=>rfl)
  d_free_ties:=aa4 X G a2 (bnd1 rfl fun _ _ _ _ _ _ _=>rfl)
  d_rows_with:=aa4 X G Y (bnd2 rfl fun _ _ _ _ _ _ _ _=>rfl)
  d_row_with:=aa4 X G S (bnd3 rfl fun _ _ _ _ _ _ _ _ _=>rfl)
  d_best_few:=aa4 X G Z (bnd2 rfl fun _ _ _ _ _ _ _ _=>rfl)
  d_one_tie_more:=aa4 X G U (bnd1 rfl fun _ _ _ _ _ _ _=>rfl)
  d_law_draws:=aa4 X G a8 (bnd2 rfl fun _ _ _ _ _ _ _ _=>rfl)
  d_law_web:=aa4 X G a7 (bnd3 rfl fun _ _ _ _ _ _ _ _ _=>rfl)
  d_law_copy:=aa4 X G a0 (bnd1 rfl fun _ _ _ _ _ _ _=>rfl)
  d_law_rows:=aa4 X G a1 (bnd1 rfl fun _ _ _ _ _ _ _=>rfl)
  d_law_free:=aa4 X G a6 (bnd1 rfl fun _ _ _ _ _ _ _=>rfl)
  d_law_with:=aa4 X G a5 (bnd2 rfl fun _ _ _ _ _ _ _ _=>rfl)
  d_law_few:=aa4 X G P (bnd5 rfl fun _ _ _ _ _ _ _ _ _ _ _=>rfl)
  d_law_best_few:=aa4 X G T (bnd2 rfl fun _ _ _ _ _ _ _ _=>rfl)
  d_law_thick:=aa4 X G a3 (bnd3 rfl fun _ _ _ _ _ _ _ _ _=>rfl)
  d_law:=aa4 X G Q (bnd1 rfl fun _ _ _ _ _ _ _=>rfl)
theorem walk {l:PySem.W.OpenLaw} {q:Program} {b:List Str} {v:(Str->Option Value)->Heap->Prop} {j:World->Heap->Prop} {d:DefRec} {K:Params->Frag} (hn:l.most=some 63) (m:d.params.defaults=[]) (g:d.name = "law")
  (y:∀ (w:World) (h:Heap),j w h->(K w.params).In h)
  (i:∀ (w:World) (lo:List Str) (mg mb:Str->Option Value) (c:ExcName->Option Value) (h:Heap),PyProof.Rows.Top q lo c mg mb h->j w h->ae8 (K w.params) h)
  (F:∀ (w:World) (mg:Str->Option Value) (h:Heap),(K w.params).In h->h.Ns mainGlobals mg->Txt (K w.params) mg) :
  PySem.W.WalkO q b v j l.row.toRowW d [] (fun f vs=>PySem.call f vs):=by
 refine L2.walk_of (n:=63) (k:=12) (x:="script") (CX:=fun _=>CX0) (sp:=fun w=>aps (K w.params)) hn (by decide) m ⟨rfl,by decide,by decide,rfl⟩ y i (fun w mg fa h X G e=>?_) (fun _ _ a ns p _ B=>⟨a,ns,rfl,B,p,fun _=>rfl⟩) fun _ _ _ _ _ z=>z
 have T:=F w mg h X G
 rw [g] at e
 obtain ⟨f1,o,D⟩:=T.d_law
 have A:=e.symm.trans D.mgx
 cases A
 refine ⟨o,fun s u=>?_,fun base _ _=>?_⟩
 ·obtain ⟨oc,od,kV,doc,pm,an,cdv,ct,osl,rfl,C,r⟩:=D.fn.ex
  exact .of_eq rfl
 ·exact azn T D
end G
end
theorem PySem.W.Fast.tw9690982077163236850 : True := trivial
theorem PySem.W.Fast.tw17361771078749099735 : True := trivial
theorem PySem.W.Fast.tw1455342720589530928 : True := trivial
theorem PySem.W.Fast.tw4167932034660656157 : True := trivial
theorem PySem.W.Fast.tw17085716272110216477 : True := trivial
theorem PySem.W.Fast.tw8160663114509169378 : True := trivial
theorem PySem.W.Fast.tw5198235065393890327 : True := trivial
theorem PySem.W.Fast.tw14793898195545411696 : True := trivial
theorem PySem.W.Fast.tw9263286797439732528 : True := trivial
theorem PySem.W.Fast.tw6015469243141961552 : True := trivial
theorem PySem.W.Fast.tw12586611444860078231 : True := trivial
theorem PySem.W.Fast.tw18175173309065375962 : True := trivial
theorem PySem.W.Fast.tw12382237215061520659 : True := trivial
theorem PySem.W.Fast.tw15401452034575884944 : True := trivial
theorem PySem.W.Fast.tw2429808254752335528 : True := trivial
theorem PySem.W.Fast.tw7186198905269432882 : True := trivial
theorem PySem.W.Fast.tw18180971351105437944 : True := trivial
theorem PySem.W.Fast.tw4047735566041206707 : True := trivial
theorem PySem.W.Fast.tw1477763500068211757 : True := trivial
theorem PySem.W.Fast.tw7794922342302784044 : True := trivial
theorem PySem.W.Fast.tw1857891311233000955 : True := trivial
theorem PySem.W.Fast.tw2849473599883673781 : True := trivial
theorem PySem.W.Fast.tw907806547008316266 : True := trivial
theorem PySem.W.Fast.tw8336879043403125972 : True := trivial
theorem PySem.W.Fast.tw567283608380016313 : True := trivial
theorem PySem.W.Fast.tw3400219139092206412 : True := trivial
theorem PySem.W.Fast.tw16020427416373148643 : True := trivial
theorem PySem.W.Fast.tw9550553433945532349 : True := trivial
theorem PySem.W.Fast.tw13677436394063775037 : True := trivial
theorem PySem.W.Fast.tw999369290750673561 : True := trivial
theorem PySem.W.Fast.tw11953277469331107532 : True := trivial
theorem PySem.W.Fast.tw9558896855562196825 : True := trivial
theorem PySem.W.Fast.tw6242323644660918162 : True := trivial
theorem PySem.W.Fast.tw14741327297439461618 : True := trivial
theorem PySem.W.Fast.tw6234063322260165271 : True := trivial
theorem PySem.W.Fast.tw17512925848363240138 : True := trivial
theorem PySem.W.Fast.tw11122273226141914355 : True := trivial
theorem PySem.W.Fast.tw4318995724287383479 : True := trivial
theorem PySem.W.Fast.tw1457332636534550258 : True := trivial
theorem PySem.W.Fast.tw12917032562792158338 : True := trivial
theorem PySem.W.Fast.tw9200929834718175761 : True := trivial
theorem PySem.W.Fast.tw2078629160955554001 : True := trivial
theorem PySem.W.Fast.tw14649179214961139942 : True := trivial
theorem PySem.W.Fast.tw17875786937352275465 : True := trivial
theorem PySem.W.Fast.tw11686938532400572293 : True := trivial
theorem PySem.W.Fast.tw3585623387370841808 : True := trivial
theorem PySem.W.Fast.tw17508936513144286291 : True := trivial
theorem PySem.W.Fast.tw9247844373027173418 : True := trivial
theorem PySem.W.Fast.tw123523476364393235 : True := trivial
theorem PySem.W.Fast.tw11851929476493710692 : True := trivial
theorem PySem.W.Fast.tw10596559880555094586 : True := trivial
theorem PySem.W.Fast.tw10305082880882591102 : True := trivial
theorem PySem.W.Fast.tw18287609891129022634 : True := trivial
theorem PySem.W.Fast.tw2942607331613800182 : True := trivial
theorem PySem.W.Fast.tw3850325767156828620 : True := trivial
theorem PySem.W.Fast.tw306634587253358701 : True := trivial
theorem PySem.W.Fast.tw11393192518896051400 : True := trivial
theorem PySem.W.Fast.tw6520102438647122375 : True := trivial
theorem PySem.W.Fast.tw3576067776702233635 : True := trivial
theorem PySem.W.Fast.tw4979556901108802296 : True := trivial
theorem PySem.W.Fast.tw12693663677461649682 : True := trivial
theorem PySem.W.Fast.tw5288829153101538102 : True := trivial
theorem PySem.W.Fast.tw2948208386026352434 : True := trivial
theorem PySem.W.Fast.tw4757076613978642632 : True := trivial
theorem PySem.W.Fast.tw4897177078059101134 : True := trivial
theorem PySem.W.Fast.tw2352058102954036750 : True := trivial
theorem PySem.W.Fast.tw7659774547681102715 : True := trivial
theorem PySem.W.Fast.tw17289817157292855644 : True := trivial
theorem PySem.W.Fast.tw15296123943171584422 : True := trivial
theorem PySem.W.Fast.tw9509947183089786314 : True := trivial
theorem PySem.W.Fast.tw13328400548957114725 : True := trivial
theorem PySem.W.Fast.tw17172618419869082252 : True := trivial
theorem PySem.W.Fast.tw9022007236607517409 : True := trivial
theorem PySem.W.Fast.tw4677996124701529278 : True := trivial
theorem PySem.W.Fast.tw7879001132176545404 : True := trivial
theorem PySem.W.Fast.tw9395840441067627548 : True := trivial
theorem PySem.W.Fast.tw4754671176538730821 : True := trivial
theorem PySem.W.Fast.tw17258679829383297867 : True := trivial
theorem PySem.W.Fast.tw16947830202161165376 : True := trivial
theorem PySem.W.Fast.tw12023991115618188710 : True := trivial
theorem PySem.W.Fast.tw259659852518911142 : True := trivial
theorem PySem.W.Fast.tw17562693210298241370 : True := trivial
theorem PySem.W.Fast.tw6786782413258842473 : True := trivial
theorem PySem.W.Fast.tw2352570499166103963 : True := trivial
theorem PySem.W.Fast.tw2937609123905204607 : True := trivial
theorem PySem.W.Fast.tw14583192556423897988 : True := trivial
theorem PySem.W.Fast.tw5763579573840640591 : True := trivial
theorem PySem.W.Fast.tw6041893213370918594 : True := trivial
theorem PySem.W.Fast.tw17829746415827948831 : True := trivial
theorem PySem.W.Fast.tw16079437824979046033 : True := trivial
theorem PySem.W.Fast.tw528899160357561201 : True := trivial
theorem PySem.W.Fast.tw6190454404254523167 : True := trivial
theorem PySem.W.Fast.tw16766699295601577430 : True := trivial
theorem PySem.W.Fast.tw7775803635884367348 : True := trivial
theorem PySem.W.Fast.tw7622418619449837216 : True := trivial
theorem PySem.W.Fast.tw15512127560269361214 : True := trivial
theorem PySem.W.Fast.tw8166930025070130447 : True := trivial
theorem PySem.W.Fast.tw10181225121222318659 : True := trivial
theorem PySem.W.Fast.tw1250040361554875232 : True := trivial
theorem PySem.W.Fast.tw518607109267311814 : True := trivial
theorem PySem.W.Fast.tw5607732128119635334 : True := trivial
theorem PySem.W.Fast.tw5671001081098034728 : True := trivial
theorem PySem.W.Fast.tw15809259041150703059 : True := trivial
theorem PySem.W.Fast.tw3755701898816924434 : True := trivial
theorem PySem.W.Fast.tw16283473522671657291 : True := trivial
theorem PySem.W.Fast.tw3144355991279728694 : True := trivial
theorem PySem.W.Fast.tw13738989474833904999 : True := trivial
theorem PySem.W.Fast.tw11410476583186772329 : True := trivial
theorem PySem.W.Fast.tw7363312827351282623 : True := trivial
theorem PySem.W.Fast.tw7734770020190233166 : True := trivial
theorem PySem.W.Fast.tw16677933397835243192 : True := trivial
theorem PySem.W.Fast.tw9313676697667201783 : True := trivial
theorem PySem.W.Fast.tw17947294568613378546 : True := trivial
theorem PySem.W.Fast.tw12717315408371111516 : True := trivial
theorem PySem.W.Fast.tw75176216112540396 : True := trivial
theorem PySem.W.Fast.tw13384904345251236073 : True := trivial
theorem PySem.W.Fast.tw3503400332791468403 : True := trivial
theorem PySem.W.Fast.tw8110030939009693841 : True := trivial
theorem PySem.W.Fast.tw8098833053123264544 : True := trivial
theorem PySem.W.Fast.tw5282639735782583868 : True := trivial
theorem PySem.W.Fast.tw4282122760667924331 : True := trivial
theorem PySem.W.Fast.tw7995445031258936103 : True := trivial
theorem PySem.W.Fast.tw3423512476027901802 : True := trivial
theorem PySem.W.Fast.tw9309239121822655693 : True := trivial
theorem PySem.W.Fast.tw18324410755769207221 : True := trivial
theorem PySem.W.Fast.tw1647731405814907719 : True := trivial
theorem PySem.W.Fast.tw2993162635376925106 : True := trivial
theorem PySem.W.Fast.tw6267355127416576538 : True := trivial
open PySem PySem.W PyProof.Rows
set_option maxRecDepth 100000 in
set_option maxHeartbeats 0 in
theorem PySem.Challenge.cw_fewties_k15_best_few_ties_holds : PySem.Challenge.rw_fewties_k15_best_few_ties.Holds := by
 w_on;o_law;k_head;(case hw=>w_witness2)
 k_fill
 refine G.walk (l:=PySem.Challenge.rw_fewties_k15_best_few_ties) rfl rfl rfl (fun w h Y=>PySem.W.km_in_of Y) ?TB ?F
 case TB =>
  intro w lo mg mb mean h T Y
  refine' L2.tabs0_some T (PySem.W.km_in_of Y) (by kernel_rfl) (L2.tab_mk ?a_ ?l_ ?c_ ?k_ ?v_) ?hl_
  case a_=>k_is
  case l_=>k_is
  case c_=>exact rfl
  case k_=>k_is
  case v_=>exact rfl
  case hl_=>kernel_rfl
 case F =>
  intro w mg h KX GG
  refine' G.txt_mk KX GG ..
  all_goals try (refine' G.fn_in ?a_ ?l_ ?c_ ?k_;(case a_=>k_is);(case l_=>k_is);(case c_=>k_is);(case k_=>k_is))
  all_goals try k_is
  all_goals try exact rfl
  all_goals try k_is
  all_goals try exact rfl
  all_goals try kernel_rfl
#print axioms PySem.Challenge.cw_fewties_k15_best_few_ties_holds
