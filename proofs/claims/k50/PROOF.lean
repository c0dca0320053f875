import PyProof.Rows.All
import Wide.All
import OpenK.AllK
import Wide.FinOn
import PyProof.EqAt
import PyProof.EqKinds
import PyProof.TupleCall
import KE.KLam
import KE.KMinKey
import PyProof.NeData
import PyProof.P3In
import PyProof.WalkInts
import PyProof.Rows.SortWalk
import PyProof.SumWalkG
import PyProof.Rows.CallKwBuiltin
import KE.KDictList
import PyProof.WalksEnum
import PyProof.ZipIter
import PyProof.ConsumeWalk
import PyProof.ListRange
import PyProof.TupleOfSeq
import PyProof.Rows.RuleN_abs
import PyProof.Rows.SetFrom
import KE.KDictOf
import PyProof.AttrMissHeap
import KE.KDictLaws
import KE.KUnpackStar
import PySem.Challenge.RW_fewties_k50_whole_trees_parted_as_webs
open PySem.W (Frag kitOne mg_of nsIn mg_none_of excIn fnOf mroIn keepIn codeIn)
set_option Elab.async false
set_option linter.all false
set_option compiler.extract_closed false
set_option maxRecDepth 100000
set_option maxHeartbeats 4000000
set_option autoImplicit true
set_option relaxedAutoImplicit true
noncomputable section
abbrev aA0:=@List.getElem?_eq_getElem
abbrev aA1:=@List.getElem?_eq_some_iff
abbrev aA2:=@List.mem_of_getElem?
abbrev aA3:=@List.length_map
abbrev aA4:=@Array.getElem?_eq_getElem
abbrev aA5:=@List.getElem?_map
abbrev aA6:=@Nat.le_refl
abbrev aA7:=@List.mem_append
abbrev aA8:=@Array.length_toList
abbrev aA9:=@List.mem_cons
abbrev aB0:=@Bool.false_ne_true
abbrev aB1:=@List.length_append
abbrev aB2:=@List.size_toArray
abbrev aB3:=@List.mem_append_right
abbrev aB4:=@List.append_assoc
abbrev aB5:=@List.mem_cons_of_mem
abbrev aB6:=@Nat.ne_of_lt
abbrev aB7:=@List.mem_map
abbrev aB8:=@List.mem_cons_self
abbrev aB9:=@List.mem_range
abbrev aC0:=@List.mem_of_mem_take
abbrev aC1:=@List.take_append_drop
abbrev aC2:=@List.mem_singleton
abbrev aC3:=@List.getElem?_append_left
abbrev aC4:=@List.mem_of_mem_drop
abbrev aC5:=@Nat.lt_of_lt_of_le
abbrev aC6:=@Option.some.inj
abbrev aC7:=@List.mem_append_left
abbrev aC8:=@List.getElem?_append_right
abbrev aC9:=@List.pairwise_append
abbrev aD0:=@Nat.le_trans
abbrev aD1:=@List.map_cons
abbrev aD2:=@List.getElem?_set
abbrev aD3:=@List.getElem?_of_mem
abbrev aD4:=@List.getD_eq_getElem?_getD
abbrev aD5:=@Classical.byContradiction
abbrev aD6:=@Array.getElem?_toList
abbrev aD7:=@decide_eq_false
abbrev aD8:=@decide_eq_true
abbrev aD9:=@List.getElem?_range
abbrev aE0:=@List.map_map
abbrev aE1:=@List.length_range
abbrev aE2:=@List.mem_filter
abbrev aE3:=@List.getElem?_eq_none
abbrev aE4:=@Nat.lt_of_le_of_lt
abbrev aE5:=@List.map_append
abbrev aE6:=@List.length_cons
abbrev aE7:=@List.nodup_append
abbrev aE8:=@List.Nodup.length_le_of_subset
abbrev aE9:=@List.map_congr_left
abbrev aF0:=@List.append_nil
abbrev aF1:=@List.take_of_length_le
abbrev aF2:=@List.getElem_mem
abbrev aF3:=@List.length_filter_le
abbrev aF4:=@List.all_eq_true
abbrev aF5:=@if_pos
abbrev aF6:=@if_neg
abbrev aF7:=@List.getElem?_eq_none_iff
abbrev aF8:=@Nat.lt_succ_of_lt
abbrev aF9:=@List.length_pos_iff
abbrev aG0:=@Nat.zero_le
abbrev aG1:=@List.pairwise_map
abbrev aG2:=@List.ext_getElem?
abbrev aG3:=@beq_iff_eq
abbrev aG4:=@Nat.lt_irrefl
abbrev aG5:=@Nat.le_of_lt
abbrev aG6:=@Array.toList_append
abbrev aG7:=@List.pairwise_iff_getElem
abbrev aG8:=@List.take_length
abbrev aG9:=@List.lookup_cons
abbrev aH0:=@List.length_take
abbrev aH1:=@Bool.and_eq_true
abbrev aH2:=@List.eq_nil_of_length_eq_zero
abbrev aH3:=@List.replicate_succ
abbrev aH4:=@List.take_add_one
abbrev aH5:=@List.getElem?_take_of_lt
abbrev aH6:=@List.mem_iff_getElem
abbrev aH7:=@List.getElem?_replicate
abbrev aH8:=@Bool.eq_iff_iff
abbrev aH9:=@Array.size_push
abbrev aI0:=@List.Pairwise.imp_of_mem
abbrev aI1:=@Option.map_some
abbrev aI2:=@List.getElem?_drop
abbrev aI3:=@List.not_mem_nil
abbrev aI4:=@List.nodup_cons
abbrev aI5:=@List.pairwise_cons
abbrev aI6:=@Nat.sub_self
abbrev aI7:=@Nat.lt_succ_self
abbrev aI8:=@List.filter_cons
abbrev aI9:=@List.length_drop
abbrev aJ0:=@List.length_nil
abbrev aJ1:=@List.length_eq_zero_iff
open PySem PySem.Spec in
abbrev aJ2:=@wpAny_bind
open PySem PySem.Spec in
abbrev aJ3:=@wpAny_pure
open PySem PySem.Spec in
abbrev aJ4:=@Heap.get?_push_of_some
open PySem PySem.Spec in
abbrev aJ5:=@Heap.lt_size
open PySem PySem.Spec in
abbrev aJ6:=@Heap.get?_push_size
open PySem PySem.Spec in
abbrev aJ7:=@codeAny_mono
open PySem PySem.Spec in
abbrev aJ8:=@wpAny_holding
open PySem PySem.Spec in
abbrev aJ9:=@PassesOwn.never
open PySem PySem.Spec in
abbrev aK0:=@Heap.get?_update_other
open PySem PySem.Spec in
abbrev aK1:=@wpAny_mono
open PySem PySem.Spec in
abbrev aK2:=@wpAny_newObj_type
open PySem PySem.Spec in
abbrev aK3:=@Around.under_plainId
open PySem PySem.Spec in
abbrev aK4:=@Heap.size_push
open PySem PySem.Spec in
abbrev aK5:=@wpAny_call_entry
open PySem PySem.Spec in
abbrev aK6:=@wpAny_truthy_bool
open PySem PySem.Spec in
abbrev aK7:=@wpAny_pyIter_list
open PySem PySem.Spec in
abbrev aK8:=@Heap.get?_update_self
open PySem PySem.Spec in
abbrev aK9:=@codeAny_builtin
namespace L2
open PySem PySem.Spec PyProof.Rows
abbrev Key:=Sum Int Str
def ahf:Key->Value->Bool
 | .inl k,v=>Value.isInt k v
 | .inr x,v=>Value.isStrOf x v
def keyH(w:World):Key->Int
 | .inl k=>hashInt k
 | .inr x=>hashStr w x
theorem abh:∀{k:Key}{v:Value},ahf k v=true->(∃ i t,k=Sum.inl i/\v=Value.int i t)\/(∃ x t,k=Sum.inr x/\v=Value.str x t)
 | .inl i,v,h=>by
  obtain⟨t,e⟩:=Value.isInt_shape (k:=i) (v:=v) h
  exact .inl ⟨i,t,rfl,e⟩
 | .inr x,v,h=>by
  obtain⟨t,e⟩:=Value.isStrOf_shape (x:=x) (v:=v) h
  exact .inr ⟨x,t,rfl,e⟩
theorem ar7(i:Int)(t:Tok):ahf (.inl i) (.int i t)=true:=by simp[ahf,Value.isInt]
theorem ar8(x:Str)(t:Tok):ahf (.inr x) (.str x t)=true:=by simp[ahf,Value.isStrOf]
theorem a0k(a b:Int):decide ((Sum.inl a:Key)=Sum.inl b)=(a == b):=by
 by_cases e:a=b
 ·subst e;simp
 ·have h:¬ (Sum.inl a:Key)=Sum.inl b:=λq=>e (Sum.inl.inj q)
  rw[aD7 h]
  exact(beq_eq_false_iff_ne.mpr e).symm
theorem a0l(a b:Str):decide ((Sum.inr a:Key)=Sum.inr b)=decide (a=b):=by
 by_cases e:a=b
 ·subst e;simp
 ·have h:¬ (Sum.inr a:Key)=Sum.inr b:=λq=>e (Sum.inr.inj q)
  rw[aD7 h,aD7 e]
theorem a0m(a:Int)(b:Str):decide ((Sum.inl a:Key)=Sum.inr b)=false:=aD7 (λq=>nomatch q)
theorem a0n(a:Str)(b:Int):decide ((Sum.inr a:Key)=Sum.inl b)=false:=aD7 (λq=>nomatch q)
def abg(prog:Program)(w:World):PySem.KeyKind prog w Key where
 is:=ahf
 hash:=keyH w
 inj:=λv a b ha hb=>by
  rcases abh ha with ⟨i,t,rfl,rfl⟩|⟨x,t,rfl,rfl⟩
  ·rcases abh hb with ⟨j,u,rfl,e⟩|⟨y,u,rfl,e⟩
   ·injection e with e1 _;rw[e1]
   ·exact nomatch e
  ·rcases abh hb with ⟨j,u,rfl,e⟩|⟨y,u,rfl,e⟩
   ·exact nomatch e
   ·injection e with e1 _;rw[e1]
 byValue:=λk v h=>by
  rcases abh h with ⟨i,t,rfl,rfl⟩|⟨x,t,rfl,rfl⟩ <;> rfl
 pyHash:=λhv h=>by
  rcases abh hv with ⟨i,t,rfl,rfl⟩|⟨x,t,rfl,rfl⟩
  ·exact wpAny_pyHash_int h
  ·exact wpAny_pyHash_str h
 eqBool:=λhu hv h=>by
  rcases abh hu with ⟨i,t,rfl,rfl⟩|⟨x,t,rfl,rfl⟩
  ·rcases abh hv with ⟨j,u,rfl,rfl⟩|⟨y,u,rfl,rfl⟩
   ·rw[a0k] at h;exact wpAny_eqBool_int h
   ·rw[a0m] at h;exact SeqAt.EqAt.int_str i t y u _ _ _ _ h
  ·rcases abh hv with ⟨j,u,rfl,rfl⟩|⟨y,u,rfl,rfl⟩
   ·rw[a0n] at h;exact SeqAt.EqAt.str_int x t j u _ _ _ _ h
   ·rw[a0l] at h;exact wpAny_eqBool_str h
 «strs»:=λk x t v h=>by
  rcases abh h with ⟨i,u,rfl,e⟩|⟨y,u,rfl,e⟩
  ·exact nomatch e
  ·injection e with e1 _
   subst e1
   cases v <;> rfl
theorem aor(prog:Program)(w:World)(i:Int)(t:Tok):(abg prog w).is (.inl i) (.int i t)=true:=ar7 i t
theorem aos(prog:Program)(w:World)(x:Str)(t:Tok):(abg prog w).is (.inr x) (.str x t)=true:=ar8 x t
inductive V where
 |non|bl (b:Bool)|int (i:Int)|str (x:Str)|byt (b:Array UInt8)|flt (b:UInt64)|ref (a:Addr)|ty (n:String)
 deriving DecidableEq
def RelV:V->Value->Prop
 | .non,u=>u=Value.none
 | .bl b,u=>u=Value.bool b
 | .int i,u=>∃ t,u=Value.int i t
 | .str x,u=>∃ t,u=Value.str x t
 | .byt b,u=>∃ t,u=Value.bytes b t
 | .flt b,u=>∃ t,u=Value.float b t
 | .ref a,u=>u=Value.ref a
 | .ty n,u=>u=Value.type n
abbrev Vals:List V->List Value->Prop:=Paired RelV
theorem Vals.length{xs:List V}{us:List Value}(r:Vals xs us):xs.length=us.length:=Paired.length r
theorem Vals.get:∀{xs:List V}{us:List Value}{i:Nat}{x:V},Vals xs us->xs[i]?=some x->∃ u,us[i]?=some u/\RelV x u
 |_,_,_,_,.nil,e=>by simp at e
 |_,_,0,_,.cons r _,e=>by simp at e;subst e;exact⟨_,rfl,r⟩
 | _,_,i+1,x,.cons _ t,e=>by
  obtain⟨u,a,b⟩:=Vals.get (i:=i) (x:=x) t (by simpa using e)
  exact⟨u,by simpa using a,b⟩
theorem Vals.set(r:RelV x u):∀{xs:List V}{us:List Value}(i:Nat),Vals xs us->Vals (xs.set i x) (us.set i u)
 |_,_,_,.nil=>.nil
 |_,_,0,.cons _ t=>.cons r t
 |_,_,i+1,.cons q t=>.cons q (Vals.set r i t)
theorem Vals.append:∀{xs ys:List V}{us ws:List Value},Vals xs us->Vals ys ws->Vals (xs++ys) (us++ws)
 |_,_,_,_,.nil,s=>s
 |_,_,_,_,.cons r t,s=>.cons r (Vals.append t s)
def RelO:Option V->Option Value->Prop
 |some v,some u=>RelV v u
 |none,none=>True
 |_,_=>False
def KV{κ:Type}:List (κ × V)->List (κ × Value)->Prop:=Paired λ(p : κ × V)(q : κ × Value)=>p.1=q.1/\RelV p.2 q.2
def kV:Key->V
 | .inl i=>.int i
 | .inr x=>.str x
inductive HO where
 /-- a list -/
 |lst (xs:List V)
 /-- a tuple (never changes) -/
 |tup (xs:List V)
 /-- a dict whose keys are ints and texts; one whose keys are tuples of ints and texts (the empty one is both) -/
 |dK (kvs:List (Key × V))|dT (kvs:List (List Key × V))
 /-- a set of ints: its members, its size -/
 |set (S:Int->Bool) (n:Nat)
 /-- an instance of the class at C, its dict at dx, its attributes -/
 |ins (C dx:Addr) (fs:List (Str × V))
 /-- the dict of the instance at x -/
 |own (x:Addr)
 /-- the dict of an exception -/
 |xd (fs:List (Str × V))
 /-- a bound method, f of x -/
 |met (f x:Addr)
 /-- a range object lo, lo + 1, .. below hi -/
 |rng (lo hi:Int)
 /-- a thing that is known to the object (the script; a dict while a loop walks it): read, never written while it is so -/
 |frz (o:Obj) (u:HO)
 /-- a code object's table -/
 |tbl (ps:Array Value)
 /-- any other thing, by what is true of its one object (a def of one's own: SetO a S n:=HO.ext λh=>..) -/
 |ext (φ:Heap->Prop)
abbrev Hp:=Addr->Option HO
def upd(H:Hp)(a:Addr)(o:HO):Hp:=λb=>if b=a then some o else H b
theorem aam:upd H a o a=some o:=by unfold upd;rw[aF5 rfl]
theorem aah(h:b ≠ a):upd H a o b=H b:=by unfold upd;rw[aF6 h]
theorem a3b{H:Hp}{a b:Addr}{o u:HO}(h:H a=some o)(h':H b=some u)(d:o ≠ u):a ≠ b:=by
 intro e;subst e;rw[h] at h';exact d (aC6 h')
theorem aau{H:Hp}{a b:Addr}{o:HO}(h:H a=some o)(h':H b=none):a ≠ b:=by
 intro e;subst e;rw[h] at h';cases h'
section
variable(P:Program)(w:World)
def ObjOk(H:Hp)(h:Heap)(a:Addr):HO->Prop
 | .lst xs=>xs.length<=sizeLine/\∃(its:List Value)(n:Nat),Vals xs its/\h.get? a=some { cls:=.type "list",data:=.seq its.toArray n }
 | .tup xs=>xs.length<=sizeLine/\∃ its:List Value,Vals xs its/\IsTup h a its.toArray
 | .dK kvs=>kvs.length<=sizeLine/\(a == sysModules)=false/\∃ vs,KV kvs vs/\h.DictOf (abg P w) a vs
 | .dT kvs=>kvs.length<=sizeLine/\(a == sysModules)=false/\∃ xs:List (List Key × Addr × Value),
   Paired (λ(p:List Key × V)(q:List Key × Addr × Value)=>p.1=q.1/\H q.2.1=some (.tup (p.1.map kV))/\RelV p.2 q.2.2) kvs xs /\
   ∃ o es ep,h.get? a=some o/\o.ExactDict/\o.data=.dict es ep/\es.toList=xs.map (entryOfKey (tupleKind (abg P w)))/\(xs.map (·.1)).Nodup
 | .set S n=>h.SetOf (intKind P w) a S n
 | .ins C dx fs=>H dx=some (.own a)/\fs.length<=1000/\dx ≠ a/\h.get? a=some (PySem.W.instObj C dx) /\
   ∃ mA,h.Ns1 dx mA/\(∀ f,RelO (fs.lookup f) (mA f))/\PySem.Within mA (fs.map (·.1))
 | .own _=>∃ o,h.get? a=some o
 | .xd fs=>∃ mA,h.Ns1 a mA/\∀ f,RelO (fs.lookup f) (mA f)
 | .rng lo hi=>∃ t u v,h.get? a=some { cls:=.type "range",data:=.fields #[.int lo t,.int hi u,.int 1 v] }
 | .frz o u=>h.get? a=some o/\ObjOk H h a u
 | .tbl gs=>∃ ps:Array Value,h.get? a=some { cls:=.none,data:=.fields ps }/\TriplesOk ps.toList/\∀(pos:Pos)(cv:Value),codeAmong pos ps.toList=some cv->∃ c oc vs q t t',cv=.ref c/\H c=some (.own a)/\h.get? c=some oc/\oc.data=.fields vs/\vs[1]?=some (.str q t)/\gs[0]?=some (.str q t')
 | .met f x=>h.get? a=some (PySem.W.methodObj (.ref f) (.ref x))
 | .ext φ=>φ h/\(∃ o,h.get? a=some o)/\∀ h1 h2:Heap,φ h1->(∀ o,h1.get? a=some o->h2.get? a=some o)->φ h2
def HOk(H:Hp)(h:Heap):Prop:=∀ a o,H a=some o->ObjOk P w H h a o
end
section
theorem ObjOk.lt(x:ObjOk P w H h a o):a<h.objs.size:=by
 cases o with
 |lst xs=>obtain⟨_,_,_,_,e⟩:=x;exact aJ5 e
 |tup xs=>obtain⟨_,_,_,p⟩:=x;exact p.lt
 |dK kvs=>obtain⟨_,_,_,_,o,_,_,e,_⟩:=x;exact aJ5 e
 |dT kvs=>obtain⟨_,_,_,_,o,_,_,e,_⟩:=x;exact aJ5 e
 |set S n=>obtain⟨o,_,_,_,e,_⟩:=x;exact aJ5 e
 |ins C dx fs=>obtain⟨_,_,_,e,_⟩:=x;exact aJ5 e
 |own y=>obtain⟨_,e⟩:=x;exact aJ5 e
 |xd fs=>obtain⟨_,⟨_,_,_,e,_⟩,_⟩:=x;exact aJ5 e
 |rng lo hi=>obtain⟨_,_,_,e⟩:=x;exact aJ5 e
 |frz ob u=>obtain⟨e,_⟩:=x;exact aJ5 e
 |tbl ps=>obtain⟨_,e,_⟩:=x;exact aJ5 e
 |met f y=>exact aJ5 (show h.get? a=some _ from x)
 |ext φ=>obtain⟨_,⟨_,e⟩,_⟩:=x;exact aJ5 e
theorem Paired.mapP{α β:Type}{F G : α->β->Prop}:∀{l₁:List α}{l₂:List β},Paired F l₁ l₂->(∀ a b,F a b->G a b)->Paired G l₁ l₂
 |_,_,.nil,_=>.nil
 |_,_,.cons r t,f=>.cons (f _ _ r) (Paired.mapP t f)
theorem ObjOk.stay(x:ObjOk P w H h a o)(k:∀ b u,(b=a\/H b=some (.own a))->h.get? b=some u->h'.get? b=some u)
  (l:∀ b,H b=some (.own a)->H' b=some (.own a)) (D:∀ b xs,H b=some (.tup xs)->H' b=some (.tup xs)):ObjOk P w H' h' a o:=by
 induction o with
 |lst xs=>obtain⟨z,its,n,r,e⟩:=x;exact⟨z,its,n,r,k _ _ (.inl rfl) e⟩
 |tup xs=>obtain⟨z,its,r,g,e,c⟩:=x;exact⟨z,its,r,g,k _ _ (.inl rfl) e,c⟩
 |dK kvs=>obtain⟨z,y,vs,r,g,es,ep,e,c⟩:=x;exact⟨z,y,vs,r,g,es,ep,k _ _ (.inl rfl) e,c⟩
 | dT kvs =>
  obtain⟨z,y,xs,r,g,es,ep,e,c⟩:=x
  exact⟨z,y,xs,Paired.mapP r λp q z=>⟨z.1,D _ _ z.2.1,z.2.2⟩,g,es,ep,k _ _ (.inl rfl) e,c⟩
 |set S n=>obtain⟨g,es,ep,t,e,c⟩:=x;exact⟨g,es,ep,t,k _ _ (.inl rfl) e,c⟩
 | ins C dx fs =>
  obtain⟨d,z,ne,e,mA,⟨od,es,ep,i,c⟩,r⟩:=x
  exact⟨l _ d,z,ne,k _ _ (.inl rfl) e,mA,⟨od,es,ep,k _ _ (.inr d) i,c⟩,r⟩
 |own y=>obtain⟨g,e⟩:=x;exact⟨g,k _ _ (.inl rfl) e⟩
 |xd fs=>obtain⟨mA,⟨od,es,ep,e,c⟩,r⟩:=x;exact⟨mA,⟨od,es,ep,k _ _ (.inl rfl) e,c⟩,r⟩
 |rng lo hi=>obtain⟨t,u,v,e⟩:=x;exact⟨t,u,v,k _ _ (.inl rfl) e⟩
 |frz g u ih=>obtain⟨e,q⟩:=x;exact⟨k _ _ (.inl rfl) e,ih q⟩
 | tbl ps =>
  obtain⟨j,e,T,f⟩:=x
  exact⟨j,k a _ (.inl rfl) e,T,λpos s z=>let ⟨c,oc,vs,q,t,t',A,i,B,r⟩:=f pos s z;⟨c,oc,vs,q,t,t',A,l c i,k c oc (.inr i) B,r⟩⟩
 | met f y =>
  have e:h.get? a=some (PySem.W.methodObj (.ref f) (.ref y)):=x
  show h'.get? a=some (PySem.W.methodObj (.ref f) (.ref y))
  exact k a _ (.inl rfl) e
 |ext φ=>obtain⟨p,⟨o,e⟩,st⟩:=x;exact⟨st _ _ p λo q=>k _ _ (.inl rfl) q,⟨o,k _ _ (.inl rfl) e⟩,st⟩
theorem HOk.lt(x:HOk P w H h)(e:H a=some o):a<h.objs.size:=(x a o e).lt
theorem HOk.fresh(x:HOk P w H h)(e:h.objs.size<=a):H a=none:=by
 cases q:H a with
 |none=>rfl
 |some u=>exact absurd (aC5 (x.lt q) e) (aG4 _)
theorem HOk.kept(x:HOk P w H h)(k:∀ b u,h.get? b=some u->h'.get? b=some u):HOk P w H h':=λa o e =>
 (x a o e).stay (λb u _ q=>k b u q) (λ_ q=>q) λ_ _ q=>q
theorem HOk.laid(x:HOk P w H h)(k:∀ b u,h.get? b=some u->h'.get? b=some u)(d:h.objs.size<=a)(new:ObjOk P w (upd H a o) h' a o):HOk P w (upd H a o) h':=λb u e=>by
 have hn:=x.fresh d
 by_cases hb:b=a
 ·subst hb;rw[aam] at e;cases e;exact new
 ·rw[aah hb] at e
  exact(x b u e).stay (λc v _ q=>k c v q) (λc q=>by rw[aah (aau q hn)];exact q) λc xs q=>by rw[aah (aau q hn)];exact q
end
def Rd(H:Hp)(a:Addr)(u:HO):Prop:=H a=some u\/∃ o,H a=some (.frz o u)
theorem Rd.ok(r:Rd H a u)(x:HOk P w H h):ObjOk P w H h a u:=by
 rcases r with r|⟨o,r⟩
 ·exact x a u r
 ·obtain⟨_,q⟩:=x a _ r
  exact q
def Mut:Option HO->Prop
 |some (.lst _)=>True
 |some (.dK _)=>True
 |some (.dT _)=>True
 |some (.set _ _)=>True
 |some (.ins _ _ _)=>True
 |some (.ext _)=>True
 |_=>False
section
theorem HOk.write(ok:HOk P w H h)(f:Mut (H x))(l:e=x\/H e=some (.own x))(k:∀ b u,b ≠ e->h.get? b=some u->h'.get? b=some u)(i:∃ u,h'.get? e=some u)
  (new:ObjOk P w (upd H x o') h' x o'):HOk P w (upd H x o') h':=λb u q=>by
 have a:∀ c y,H c=some (.own y)->c ≠ x:=λc y r z=>by subst z;rw[r] at f;exact f
 have d:∀ c xs,H c=some (.tup xs)->c ≠ x:=λc xs r z=>by subst z;rw[r] at f;exact f
 by_cases hb:b=x
 ·subst hb;rw[aam] at q;cases q;exact new
 ·rw[aah hb] at q
  by_cases hbe:b=e
  ·have j:H b=some (.own x):=by
    rcases l with z|z
    ·exact absurd (hbe.trans z) hb
    ·rw[hbe];exact z
   rw[q] at j;cases j
   obtain⟨v,n⟩:=i
   exact⟨v,by rw[hbe];exact n⟩
  ·refine(ok b u q).stay (λc v g r=>k c v ?_ r) (λc r=>by rw[aah (a c b r)];exact r) λc xs r=>by rw[aah (d c xs r)];exact r
   rcases g with rfl|g
   ·exact hbe
   ·rintro rfl
    rcases l with z|z
    ·exact a c b g z
    ·rw[g] at z;cases z;exact hb rfl
end
structure Un(fs ex:List Addr)(H H':Hp)(h h':Heap):Prop where
 keep:∀ b o,h.get? b=some o->H b=none->b ∉ fs->b ∉ ex->h'.get? b=some o
 slot:∀ b o,h.get? b=some o->H b=none->b∈fs->b ∉ ex->∃ sl,h'.get? b=some { o with slots:=sl }
 free:∀ b o,h.get? b=some o->H b=none->b ∉ ex->H' b=none
 there:∀ b o,h.get? b=some o->b ∉ ex->∃ o',h'.get? b=some o'
 tups:∀ b xs,H b=some (.tup xs)->H' b=some (.tup xs)
 frzs:∀ b o u,H b=some (.frz o u)->H' b=some (.frz o u)
 tbls:∀ b ps,H b=some (.tbl ps)->∃ more,H' b=some (.tbl (ps++more))
section
variable{fs fs' ex ex':List Addr}{H H1 H2:Hp}{h h1 h2 h':Heap}{a x e:Addr}{o:HO}
theorem Un.any(u:Un fs ex H H1 h h1){b:Addr}{a:Obj}(q:h.get? b=some a)(n:H b=none)(c:b ∉ ex):∃ sl,h1.get? b=some { a with slots:=sl }:=by
 by_cases hb:b∈fs
 ·exact u.slot b a q n hb c
 ·exact⟨a.slots,u.keep b a q n hb c⟩
theorem Un.kept(k:∀ b u,h.get? b=some u->h'.get? b=some u):Un fs ex H H h h' :=
 ⟨λb a q _ _ _=>k b a q,λb a q _ _ _=>⟨a.slots,k b a q⟩,λ_ _ _ n _=>n,λb a q _=>⟨a,k b a q⟩,λ_ _ q=>q,λ_ _ _ q=>q,λ_ ps q=>⟨#[],by rw[q];simp⟩⟩
theorem Un.refl:Un fs ex H H h h:=Un.kept λ_ _ q=>q
theorem Un.laid(k:∀ b u,h.get? b=some u->h'.get? b=some u)(c:h.objs.size<=a)(hn:H a=none):Un fs ex H (upd H a o) h h' where
 keep:=λb u q _ _ _=>k b u q
 slot:=λb u q _ _ _=>⟨u.slots,k b u q⟩
 free:=λb u q n _=>by rw[aah (aB6 (aC5 (aJ5 q) c))];exact n
 there:=λb u q _=>⟨u,k b u q⟩
 tups:=λb xs q=>by rw[aah (aau q hn)];exact q
 frzs:=λb u xs q=>by rw[aah (aau q hn)];exact q
 tbls:=λb ps q=>⟨#[],by rw[aah (aau q hn),q];simp⟩
theorem Un.write(a:Mut (H x))(f:e=x\/H e=some (.own x))(k:∀ b u,b ≠ e->h.get? b=some u->h'.get? b=some u)(c:∃ u,h'.get? e=some u):Un fs ex H (upd H x o) h h':=by
 have d:∀ b,H b=none->b ≠ x:=λb n z=>by subst z;rw[n] at a;exact a
 have hb:∀ b,H b=none->b ≠ e:=λb n z=>by
  subst z
  rcases f with r|r
  ·exact d b n r
  ·rw[n] at r;cases r
 have hm:∀ b u,H b=some u->¬ Mut (some u)->b ≠ x:=λb u q nm z=>by subst z;rw[q] at a;exact nm a
 refine⟨λb u q n _ _=>k b u (hb b n) q,λb u q n _ _=>⟨u.slots,k b u (hb b n) q⟩,λb u q n _=>by rw[aah (d b n)];exact n,λb u q _=>?_,
  λb xs q=>by rw[aah (hm b _ q λz=>z)];exact q,λb u xs q=>by rw[aah (hm b _ q λz=>z)];exact q,λb ps q=>⟨#[],by rw[aah (hm b _ q λz=>z),q];simp⟩⟩
 by_cases hbe:b=e
 ·subst hbe;exact c
 ·exact⟨u,k b u hbe q⟩
end
def trk(h:Heap)(H:Hp):List Addr:=(List.range h.objs.size).filter λa=>(H a).isSome
def hidT(h:Heap)(H:Hp):Heap:=PySem.W.hideAll h (trk h H)
theorem ar9(h:Heap)(H:Hp):(hidT h H).objs.size=h.objs.size:=PySem.W.hideAll_size _ _
theorem aup(e:h.get? b=some o)(n:H b=none):(hidT h H).get? b=some o :=
 PySem.W.hideAll_get _ e λhm=>by
  have q:(H b).isSome=true:=(aE2.mp hm).2
  rw[n] at q;simp at q
theorem axu(e:(hidT h H).get? b=some o):h.get? b=some o/\H b=none:=by
 have a:h.get? b=some o:=PySem.W.of_hideAll (trk h H) e
 refine⟨a,?_⟩
 cases q:H b with
 |none=>rfl
 | some x =>
  have hm:b∈trk h H:=aE2.mpr ⟨aB9.mpr (aJ5 a),by simp[q]⟩
  have z:(hidT h H).get? b=none:=PySem.W.hideAll_none (trk h H) hm
  rw[z] at e;cases e
def axv(g h:Heap)(L:Addr):List (Addr × Obj):=(List.range h.objs.size).filterMap λa=>if a=L\/(g.get? a).isSome=true then none else (h.get? a).map λo=>(a,o)
def rest(g h:Heap)(L d:Addr):List (Addr × Obj):=(axv g h L).filter λp=>decide (p.1 ≠ d)
def lamN:Str:="best_few"
def lamQ:Str:="best_few.<locals>.<lambda>"
def awy(mg:Str->Option Value)(h:Heap):Prop:=∃ bm ob,mg "__builtins__" = some (.ref bm)/\bm ≠ builtinsNs/\h.get? bm=some ob/\ob.cls=.type "module"/\ob.dict=some builtinsNs/\ob.data=.plain
def TabsOk(K:Frag)(H:Hp):Prop:=∀ c P,PySem.W.tabIn K lamN=some (c,P)->∃ more,H P=some (.tbl (#[.str lamQ 0]++more))
structure Mod(K:Frag)(mg:Str->Option Value)(base:Heap):Prop where
 kin:K.In base
 glob:base.Ns mainGlobals mg
 blt:∃ mb,base.Ns builtinsNs mb/\∀ x:Str,x ≠ "__name__"->mb x=bootBuiltins x
 nolimit:base.NoLimit
 bmain:awy mg base
/-- the context: a def's body (or a comprehension's block) running. base: fixed through the whole law; s₀, H₀: the entry; outer: the frames whose slots others may change (a def's callers); stack: all frames that run;
  ex: iterators that were made ahead of the entry and are walked here (a comprehension's);fn: the names whose cells were made at the entry (a def: all;a comprehension's block: its own);calm: not within an except suite;pn: pins that every state bears;xe: what is wanted of an exception that leaves the code -/
structure Cx where
 prog:Program
 w:World
 K:Frag
 mg:Str->Option Value
 base:Heap
 A:Around
 N:List Str
 s₀:Shared
 H₀:Hp
 env:Env
 outer:List Env
 stack:List Env
 ex:List Addr
 fn:Str->Bool
 calm:Bool
 pn:List (Addr × Obj)
 xe:Value->Shared->Prop
def frs(l:List Env):List Addr:=l.filterMap (·.frame)
abbrev Cx.fs(X:Cx):List Addr:=frs X.outer
def Vis(sc:Scope)(x:Str):Prop:=sc.names.lookup x=some .local\/sc.names.lookup x=some .cell\/sc.names.lookup x=some .free
def Loc(sc:Scope)(x:Str):Prop:=sc.names.lookup x=some .local\/sc.names.lookup x=some .cell
def Look(env:Env)(h:Heap)(m:Str->Option Value)(x:Str)(u:Value):Prop :=
 (env.kindOf x=some .local/\m x=some u)\/((env.kindOf x=some .cell\/env.kindOf x=some .free)/\∃ c,env.cells.lookup x=some c/\h.IsCell c (some u))
structure Cx.Ok(X:Cx):Prop where
 mod:Mod X.K X.mg X.base
 kind:X.env.scope.kind=.function
 glob:X.env.globals=mainGlobals
 blt:X.env.builtins=builtinsNs
 above:X.s₀.heap.objs.size<=X.env.locals
 inj:∀ x y c,X.env.cells.lookup x=some c->X.env.cells.lookup y=some c->x=y
 has:∀ x,(X.env.kindOf x=some .cell\/X.env.kindOf x=some .free)->∃ c,X.env.cells.lookup x=some c
 cab:∀ x c,X.fn x=true->X.env.cells.lookup x=some c->X.s₀.heap.objs.size<=c
 hd:X.calm=true->X.A.handled=none
 frames:X.A.frames=some X.stack
 stk:X.stack=X.outer\/(X.stack=X.env::X.outer/\X.env.frame=some X.env.locals)
 exf:∀ b∈X.ex,b ≠ X.env.locals/\∀ x c,X.env.cells.lookup x=some c->c ≠ b
 bs:∀ b o,X.base.get? b=some o->X.s₀.heap.get? b=some o/\X.H₀ b=none
 bsz:X.base.objs.size<=X.s₀.heap.objs.size
 noex:∀ b o,X.base.get? b=some o->b ∉ X.ex
 exfs:∀ b∈X.ex,b ∉ X.fs
 funs:X.s₀.heap.FunFrames X.base X.outer
 frf:∀ b∈X.fs,X.H₀ b=none
 tab:TabsOk X.K X.H₀
structure Inv(X:Cx)(pins:List (Addr × Obj))(σ:List (Option V))(H:Hp)(s:Shared):Prop where
 ok:X.Ok
 os:s.os=X.s₀.os
 bare:AllBare s.gens
 base:Un X.fs X.ex X.H₀ H X.s₀.heap s.heap
 loc:∃ m,s.heap.Ns X.env.locals m/\∀(i:Nat)(x:Str)(v:V),X.N[i]?=some x->σ[i]?=some (some v)->Vis X.env.scope x->∃ u,RelV v u/\Look X.env s.heap m x u
 cell:∀ x c,X.env.cells.lookup x=some c->∃ v,s.heap.IsCell c v
 free:H X.env.locals=none
 freeC:∀ x c,X.env.cells.lookup x=some c->H c=none
 pin:∀ p∈X.pn++pins,s.heap.get? p.1=some p.2/\H p.1=none/\p.1 ≠ X.env.locals/\p.1 ∉ X.fs/\∀ v,p.2.data ≠ .cell v
 hok:HOk X.prog X.w H s.heap
 len : σ.length=X.N.length
section
variable{X:Cx}{pins:List (Addr × Obj)}{σ:List (Option V)}{H H':Hp}{s:Shared}{h':Heap}
theorem Cx.Ok.nofr(ok:X.Ok)(e:X.base.get? b=some o):b ∉ X.fs:=λhb=>by
 have:=(ok.funs.mem hb).1
 rw[e] at this;cases this
theorem Inv.bs(I:Inv X pins σ H s):∀ b o,X.base.get? b=some o->s.heap.get? b=some o/\H b=none:=λb o e =>
 ⟨I.base.keep b o (I.ok.bs b o e).1 (I.ok.bs b o e).2 (I.ok.nofr e) (I.ok.noex b o e),I.base.free b o (I.ok.bs b o e).1 (I.ok.bs b o e).2 (I.ok.noex b o e)⟩
theorem Inv.bk(I:Inv X pins σ H s):∀ b o,X.base.get? b=some o->s.heap.get? b=some o:=λb o e=>(I.bs b o e).1
theorem Inv.mod(I:Inv X pins σ H s):Mod X.K X.mg X.base:=I.ok.mod
theorem Inv.kIn(I:Inv X pins σ H s):X.K.In s.heap:=I.ok.mod.kin.keeps I.bk
theorem Inv.lt(I:Inv X pins σ H s):X.env.locals<s.heap.objs.size:=let ⟨_,hn,_⟩:=I.loc;hn.lt
theorem Inv.sz(I:Inv X pins σ H s):X.s₀.heap.objs.size<=s.heap.objs.size:=aD0 I.ok.above (aG5 I.lt)
theorem Inv.nofs(I:Inv X pins σ H s)(h:s.heap.objs.size<=a):a ∉ X.fs:=λhb=>by
 obtain⟨_,o,b,_⟩:=I.ok.funs.mem hb
 exact absurd (aC5 (aJ5 b) (aD0 I.sz h)) (aG4 _)
theorem Inv.cne(I:Inv X pins σ H s):∀ x c,X.env.cells.lookup x=some c->c ≠ X.env.locals:=λx c e z=>by
 obtain⟨v,o,d,hd⟩:=I.cell x c e
 obtain⟨m,⟨o',es,ep,a,b,_⟩,_⟩:=I.loc
 rw[z,a] at d;cases d;rw[b] at hd;cases hd
theorem Inv.funs(I:Inv X pins σ H s):s.heap.FunFrames X.base X.outer:=by
 have all:∀(l:List Env),(∀ b∈frs l,b∈X.fs)->X.s₀.heap.FunFrames X.base l->s.heap.FunFrames X.base l:=by
  intro l
  induction l with
  |nil=>intro _ _;trivial
  | cons env r ih =>
   intro hs c
   obtain⟨d,⟨L,o,hf,hn,f,hd⟩,hr⟩:=c
   have a:L∈X.fs:=hs L (by unfold frs;rw[List.filterMap_cons,hf];exact aB8)
   obtain⟨sl,e⟩:=I.base.slot L o f (I.ok.frf L a) a λz=>I.ok.exfs L z a
   exact⟨d,⟨L,_,hf,hn,e,hd⟩,ih (λb hb=>hs b (by unfold frs;rw[List.filterMap_cons,hf];exact aB5 _ hb)) hr⟩
 exact all X.outer (λ_ hb=>hb) I.ok.funs
theorem TabsOk.un{K:Frag}{fs ex:List Addr}{H H':Hp}{h h':Heap}(t:TabsOk K H)(u:Un fs ex H H' h h'):TabsOk K H':=λc P e =>
 let ⟨m,q⟩:=t c P e
 let ⟨b,a⟩:=u.tbls P _ q
 ⟨m++b,by rw[a,Array.append_assoc]⟩
theorem Inv.tab(I:Inv X pins σ H s):TabsOk X.K H:=I.ok.tab.un I.base
theorem Inv.stack(I:Inv X pins σ H s):s.heap.FunFrames X.base X.stack:=by
 rcases I.ok.stk with e|⟨e,hf⟩
 ·rw[e];exact I.funs
 ·rw[e]
  obtain⟨m,hn,_⟩:=I.loc
  refine .cons (by rw[I.ok.kind];decide) hf hn ?_ I.funs
  exact Heap.get?_none_of_le (aD0 I.ok.bsz I.ok.above)
theorem Inv.stkSub(I:Inv X pins σ H s):∀ b∈frs X.stack,b∈X.env.locals::X.fs:=λb hb=>by
 rcases I.ok.stk with e|⟨e,hf⟩
 ·rw[e] at hb;exact aB5 _ hb
 ·rw[e] at hb
  unfold frs at hb
  rw[List.filterMap_cons,hf] at hb
  exact hb
theorem Inv.stkFree(I:Inv X pins σ H s):∀ b∈frs X.stack,H b=none:=λb hb=>by
 rcases aA9.mp (I.stkSub b hb) with e|hb
 ·rw[e];exact I.free
 ·obtain⟨_,o,a,_⟩:=I.ok.funs.mem hb
  exact I.base.free b o a (I.ok.frf b hb) λz=>I.ok.exfs b z hb
theorem Inv.step{g':Array GenState}{t':Nat}{d':Drawn}{ch:List Addr}(I:Inv X pins σ H s)
  (f:∀ b∈ch,(b∈X.ex\/X.s₀.heap.objs.size<=b)/\b ≠ X.env.locals/\(∀ x c,X.env.cells.lookup x=some c->c ≠ b)/\∀ p∈X.pn++pins,p.1 ≠ b)
  (keep:∀ b o,b ≠ X.env.locals->b ∉ X.fs->b ∉ ch->s.heap.get? b=some o->H b=none->h'.get? b=some o)
  (slot:∀ b o,b ≠ X.env.locals->b∈X.fs->b ∉ ch->s.heap.get? b=some o->H b=none->∃ sl,h'.get? b=some { o with slots:=sl }) (free:∀ b o,b ∉ ch->s.heap.get? b=some o->H b=none->H' b=none)
  (there:∀ b o,b ∉ ch->s.heap.get? b=some o->∃ o',h'.get? b=some o')
  (tups:∀ b xs,H b=some (.tup xs)->H' b=some (.tup xs)) (frzs:∀ b o u,H b=some (.frz o u)->H' b=some (.frz o u)) (tbls:∀ b ps,H b=some (.tbl ps)->∃ more,H' b=some (.tbl (ps++more)))
  (ns:∀ m,s.heap.Ns X.env.locals m->h'.Ns X.env.locals m) (hok:HOk X.prog X.w H' h') (L:AllBare g') :
  Inv X pins σ H' { s with heap:=h',gens:=g',drawn:=d',toks:=t' }:=by
 have A:∀ b o,X.s₀.heap.get? b=some o->b ≠ X.env.locals:=λb o e=>aB6 (aC5 (aJ5 e) I.ok.above)
 have t:∀ b o,X.s₀.heap.get? b=some o->b ∉ X.ex->b ∉ ch:=λb o e a hb=>by
  rcases(f b hb).1 with z|z
  ·exact a z
  ·exact absurd (aC5 (aJ5 e) z) (aG4 _)
 have h:∀ x c,X.env.cells.lookup x=some c->∀ v,s.heap.IsCell c v->h'.IsCell c v:=λx c e v F=>by
  obtain⟨o,y,hd⟩:=F
  have g:c ∉ ch:=λz=>(f c z).2.2.1 x c e rfl
  by_cases hc:c∈X.fs
  ·obtain⟨sl,q⟩:=slot c o (I.cne x c e) hc g y (I.freeC x c e)
   exact⟨_,q,hd⟩
  ·exact⟨o,keep c o (I.cne x c e) hc g y (I.freeC x c e),hd⟩
 refine⟨I.ok,I.os,L,⟨λb o e n hb a=>?_,λb o e n hb a=>?_,λb o e n a=>?_,λb o e a=>?_,λb xs e=>tups b xs (I.base.tups b xs e),λb o xs e=>frzs b o xs (I.base.frzs b o xs e),λb ps e=>?_⟩,?_,λx c e=>?_,?_,λx c e=>?_,λp E=>?_,hok,I.len⟩
 ·exact keep b o (A b o e) hb (t b o e a) (I.base.keep b o e n hb a) (I.base.free b o e n a)
 ·obtain⟨sl,j⟩:=I.base.slot b o e n hb a
  obtain⟨C,B⟩:=slot b _ (A b o e) hb (t b o e a) j (I.base.free b o e n a)
  exact⟨C,B⟩
 ·obtain⟨o',j⟩:=I.base.there b o e a
  exact free b o' (t b o e a) j (I.base.free b o e n a)
 ·obtain⟨o',j⟩:=I.base.there b o e a
  exact there b o' (t b o e a) j
 ·obtain⟨M,j⟩:=I.base.tbls b ps e
  obtain⟨K,B⟩:=tbls b _ j
  exact⟨M++K,by rw[B,Array.append_assoc]⟩
 ·obtain⟨m,hn,G⟩:=I.loc
  refine⟨m,ns m hn,λi x v j B J=>?_⟩
  obtain⟨u,r,l⟩:=G i x v j B J
  refine⟨u,r,?_⟩
  rcases l with l|⟨k,c,e,z⟩
  ·exact .inl l
  ·exact .inr ⟨k,c,e,h x c e _ z⟩
 ·obtain⟨v,z⟩:=I.cell x c e
  exact⟨v,h x c e v z⟩
 ·obtain⟨m,⟨o,_,_,y,_⟩,_⟩:=I.loc
  exact free _ o (λz=>(f _ z).2.1 rfl) y I.free
 ·obtain⟨v,o,y,hd⟩:=I.cell x c e
  exact free c o (λz=>(f c z).2.2.1 x c e rfl) y (I.freeC x c e)
 ·obtain⟨e,n,ne,D,d⟩:=I.pin p E
  have g:p.1 ∉ ch:=λz=>(f p.1 z).2.2.2 p E rfl
  exact⟨keep p.1 p.2 ne D g e n,free p.1 p.2 g e n,ne,D,d⟩
theorem Inv.un(I:Inv X pins σ H s)(u:Un X.fs [] H H' s.heap h')(hok:HOk X.prog X.w H' h'):Inv X pins σ H' { s with heap:=h',toks:=t' }:=by
 obtain⟨m,⟨o,es,ep,d,r⟩,_⟩:=id I.loc
 obtain⟨sl,g⟩:=u.any d I.free (by simp)
 exact I.step (g':=s.gens) (d':=s.drawn) (ch:=[]) (λ_ z=>nomatch z) (λb o _ hb _ e n=>u.keep b o e n hb (by simp)) (λb o _ hb _ e n=>u.slot b o e n hb (by simp)) (λb o _ e n=>u.free b o e n (by simp)) (λb o _ e=>u.there b o e (by simp)) u.tups u.frzs u.tbls (λh hm=>by
  obtain⟨o',es',c,a,f⟩:=hm
  rw[d] at a;cases a
  exact⟨_,es',c,g,f⟩) hok I.bare
theorem Inv.call(I:Inv X pins σ H s)(u:Un (frs X.stack) ch H H' s.heap h')(hok:HOk X.prog X.w H' h')(j:AllBare g')
  (d:∀ b∈ch,(b∈X.ex\/X.s₀.heap.objs.size<=b)/\b ≠ X.env.locals/\(∀ x c,X.env.cells.lookup x=some c->c ≠ b)/\∀ p∈X.pn++pins,p.1 ≠ b) :
  Inv X pins σ H' { s with heap:=h',gens:=g',drawn:=d',toks:=t' }:=by
 obtain⟨m,⟨o,es,ep,i,r⟩,_⟩:=id I.loc
 obtain⟨sl,h⟩:=u.any i I.free λz=>(d _ z).2.1 rfl
 exact I.step (ch:=ch) d (λb o h hb a e n=>u.keep b o e n (λz=>(aA9.mp (I.stkSub b z)).elim h hb) a) (λb o _ _ a e n=>u.any e n a) (λb o a e n=>u.free b o e n a) (λb o a e=>u.there b o e a) u.tups u.frzs u.tbls (λq hm=>by
  obtain⟨o',es',g,f,l⟩:=hm
  rw[i] at f;cases f
  exact⟨_,es',g,h,l⟩) hok j
theorem Inv.turned(I:Inv X pins σ H s)(k:∀ b o,b ≠ it->s.heap.get? b=some o->h'.get? b=some o)(hn:H it=none)(f:it ≠ X.env.locals)
  (g:it∈X.ex\/X.s₀.heap.objs.size<=it) (h:∀ x c,X.env.cells.lookup x=some c->c ≠ it) (i:∀ p∈X.pn++pins,p.1 ≠ it):Inv X pins σ H { s with heap:=h',toks:=t' }:=by
 have d:∀ b u,H b=some u->b ≠ it:=λb u e z=>by rw[z,hn] at e;cases e
 refine I.step (g':=s.gens) (d':=s.drawn) (ch:=[it]) (λb hb=>?_) (λb o _ _ a e _=>k b o (λz=>a (by simp[z])) e) (λb o _ _ a e _=>⟨o.slots,k b o (λz=>a (by simp[z])) e⟩) (λ_ _ _ _ n=>n)
  (λb o a e=>⟨o,k b o (λz=>a (by simp[z])) e⟩) (λ_ _ e=>e) (λ_ _ _ e=>e) (λb ps e=>⟨#[],by rw[e];simp⟩) (λm hm=>?_) (λb u e=>?_) I.bare
 ·have e:b=it:=by simpa using hb
  subst e
  exact⟨g,f,h,i⟩
 ·obtain⟨o,es,ep,j,r⟩:=hm
  exact⟨o,es,ep,k _ o (Ne.symm f) j,r⟩
 ·refine(I.hok b u e).stay (λc v a q=>k c v ?_ q) (λ_ q=>q) λ_ _ q=>q
  rcases a with z|z
  ·rw[z];exact d b u e
  ·exact d c _ z
theorem Inv.tok(I:Inv X pins σ H s)(t:Nat):Inv X pins σ H { s with toks:=t }:=I.un (h':=s.heap) (t':=t) Un.refl I.hok
theorem Inv.kept(I:Inv X pins σ H s)(k:∀ b u,s.heap.get? b=some u->h'.get? b=some u):Inv X pins σ H { s with heap:=h',toks:=t' }:=I.un (Un.kept k) (I.hok.kept k)
theorem Inv.laid(I:Inv X pins σ H s)(k:∀ b u,s.heap.get? b=some u->h'.get? b=some u)(c:s.heap.objs.size<=a)(new:ObjOk X.prog X.w (upd H a o) h' a o) :
  Inv X pins σ (upd H a o) { s with heap:=h',toks:=t' }:=I.un (Un.laid k c (I.hok.fresh c)) (I.hok.laid k c new)
theorem Inv.write(I:Inv X pins σ H s)(c:Mut (H x))(d:e=x\/H e=some (.own x))(k:∀ b u,b ≠ e->s.heap.get? b=some u->h'.get? b=some u)(a:∃ u,h'.get? e=some u)
  (new:ObjOk X.prog X.w (upd H x o) h' x o):Inv X pins σ (upd H x o) { s with heap:=h',toks:=t' }:=I.un (Un.write c d k a) (I.hok.write c d k a new)
theorem Inv.pins_of(I:Inv X pins σ H s)(h:∀ p∈a,s.heap.get? p.1=some p.2/\H p.1=none/\p.1 ≠ X.env.locals/\p.1 ∉ X.fs/\∀ v,p.2.data ≠ .cell v):Inv X a σ H s :=
 ⟨I.ok,I.os,I.bare,I.base,I.loc,I.cell,I.free,I.freeC,λp b=>(aA7.mp b).elim (λz=>I.pin p (aC7 _ z)) (h p),I.hok,I.len⟩
theorem nodup_ix{N:List Str}(f:N.Nodup){i j:Nat}{x:Str}(a:N[i]?=some x)(b:N[j]?=some x):i=j:=by
 obtain⟨g,c⟩:=aA1.mp a
 obtain⟨h,d⟩:=aA1.mp b
 exact(List.getElem_inj f).mp (c.trans d.symm)
theorem akk(I:Inv X pins σ H s)(hN:X.N.Nodup)(hi:X.N[i]?=some x)(t:Loc X.env.scope x)(r:RelV v u)
  (h:∀ s',Inv X pins (σ.set i (some v)) H s'->(∃ a,Heap.SameBut a s.heap s'.heap/\(a=X.env.locals\/X.env.cells.lookup x=some a))->Q () s') (hf:X.fn x=true\/X.env.scope.names.lookup x=some .local:=by first|exact .inl rfl|exact .inr rfl|assumption):wpAny M A (storeName X.env x u) Q E s:=by
 obtain⟨m,hn,hl⟩:=id I.loc
 have J:(X.env.scope.kind == .class || (X.env.scope.kind == .module && X.env.locals != X.env.globals))=false:=by rw[I.ok.kind];rfl
 have D:i<σ.length:=by rw[I.len];exact(aA1.mp hi).1
 have cne:=I.cne
 have f:∀{a:Addr}{h':Heap},(∃ o,s.heap.get? a=some o/\H a=none)->Heap.SameBut a s.heap h'->HOk X.prog X.w H h':=λ{a h'} ha hs b ob e=>by
  obtain⟨_,_,B⟩:=ha
  refine(I.hok b ob e).stay (λc R l q=>(hs.2 c ?_).trans q) (λ_ q=>q) λ_ _ q=>q
  rintro rfl
  rcases l with rfl|l
  ·rw[B] at e;cases e
  ·rw[B] at l;cases l
 rcases t with F|F
 ·refine wpAny_storeName_local F hn (λh' a1 hs=>?_) J
  obtain⟨oL,_,_,S,_⟩:=id hn
  refine h _ ⟨I.ok,I.os,I.bare,⟨λb o e n hb t=>?_,λb o e n hb t=>?_,I.base.free,λb o e t=>?_,I.base.tups,I.base.frzs,I.base.tbls⟩,⟨_,a1,λj y Y g C T=>?_⟩,λy c e=>?_,I.free,I.freeC,λp hp=>?_,f ⟨oL,S,I.free⟩ hs,by simpa using I.len⟩ ⟨_,hs,.inl rfl⟩
  ·exact(hs.2 b (aB6 (aC5 (aJ5 e) I.ok.above))).trans (I.base.keep b o e n hb t)
  ·obtain⟨sl,g⟩:=I.base.slot b o e n hb t
   exact⟨sl,(hs.2 b (aB6 (aC5 (aJ5 e) I.ok.above))).trans g⟩
  ·obtain⟨o',g⟩:=I.base.there b o e t
   exact⟨o',(hs.2 b (aB6 (aC5 (aJ5 e) I.ok.above))).trans g⟩
  ·by_cases hj:j=i
   ·subst hj
    rw[hi] at g;cases g
    rw[List.getElem?_set_self D] at C
    cases C
    exact⟨u,r,.inl ⟨F,by simp⟩⟩
   ·rw[List.getElem?_set_ne (Ne.symm hj)] at C
    obtain⟨W,U,q⟩:=hl j y Y g C T
    refine⟨W,U,?_⟩
    rcases q with ⟨k,e⟩|⟨k,c,e,z⟩
    ·refine .inl ⟨k,?_⟩
     have:y ≠ x:=λe=>hj (nodup_ix hN g (e ▸ hi))
     simp[this,e]
    ·exact .inr ⟨k,c,e,z.sameBut hs (cne y c e)⟩
  ·obtain⟨R,z⟩:=I.cell y c e
   exact⟨R,z.sameBut hs (cne y c e)⟩
  ·obtain⟨e,n,ne,Z,d⟩:=I.pin p hp
   exact⟨(hs.2 p.1 ne).trans e,n,ne,Z,d⟩
 ·have G:X.fn x=true:=by
   rcases hf with z|z
   ·exact z
   ·rw[z] at F;cases F
  obtain⟨c,l⟩:=I.ok.has x (.inl F)
  obtain⟨R,z⟩:=I.cell x c l
  refine wpAny_storeName_cell I.ok.kind F l z (λh' O hs=>?_)
  obtain⟨oc,L,K⟩:=id z
  refine h { s with heap:=h' } ⟨I.ok,I.os,I.bare,⟨λb o e n hb t=>?_,λb o e n hb t=>?_,I.base.free,λb o e t=>?_,I.base.tups,I.base.frzs,I.base.tbls⟩,⟨m,hn.sameBut hs (Ne.symm (cne x c l)),λj y Y g C T=>?_⟩,λy P e=>?_,I.free,I.freeC,λp hp=>?_,f ⟨oc,L,I.freeC x c l⟩ hs,by simpa using I.len⟩ ⟨c,hs,.inr l⟩
  ·exact(hs.2 b (aB6 (aC5 (aJ5 e) (I.ok.cab x c G l)))).trans (I.base.keep b o e n hb t)
  ·obtain⟨sl,g⟩:=I.base.slot b o e n hb t
   exact⟨sl,(hs.2 b (aB6 (aC5 (aJ5 e) (I.ok.cab x c G l)))).trans g⟩
  ·obtain⟨o',g⟩:=I.base.there b o e t
   exact⟨o',(hs.2 b (aB6 (aC5 (aJ5 e) (I.ok.cab x c G l)))).trans g⟩
  ·by_cases hj:j=i
   ·subst hj
    rw[hi] at g;cases g
    rw[List.getElem?_set_self D] at C
    cases C
    exact⟨u,r,.inr ⟨.inl F,c,l,O⟩⟩
   ·rw[List.getElem?_set_ne (Ne.symm hj)] at C
    obtain⟨W,U,q⟩:=hl j y Y g C T
    refine⟨W,U,?_⟩
    rcases q with q|⟨k,P,e,z'⟩
    ·exact .inl q
    ·refine .inr ⟨k,P,e,z'.sameBut hs ?_⟩
     rintro rfl
     exact hj (nodup_ix hN g (I.ok.inj _ _ _ e l ▸ hi))
  ·by_cases hcc:P=c
   ·subst hcc;exact⟨_,O⟩
   ·obtain⟨w2,z2⟩:=I.cell y P e
    exact⟨w2,z2.sameBut hs hcc⟩
  ·obtain⟨e,n,ne,Z,d⟩:=I.pin p hp
   refine⟨(hs.2 p.1 ?_).trans e,n,ne,Z,d⟩
   intro q
   rw[q,L] at e
   have q':oc=p.2:=aC6 e
   exact d R (by rw[← q'];exact K)
theorem amc(I:Inv X pins σ H s)(b:X.N.Nodup)(hi:X.N[i]?=some x)(a:Loc X.env.scope x)(r:RelV v u)
  (h:∀ s',Inv X pins (σ.set i (some v)) H s'->Q () s') (hf:X.fn x=true\/X.env.scope.names.lookup x=some .local:=by first|exact .inl rfl|exact .inr rfl|assumption):wpAny M A (storeName X.env x u) Q E s :=
 akk I b hi a r (λs' c _=>h s' c) hf
theorem Inv.call'(I:Inv X pins σ H s)(d:s'.os=s.os)(u:Un (frs X.stack) ch H H' s.heap s'.heap)(hok:HOk X.prog X.w H' s'.heap)(f:AllBare s'.gens)
  (a:∀ b∈ch,(b∈X.ex\/X.s₀.heap.objs.size<=b)/\b ≠ X.env.locals/\(∀ x c,X.env.cells.lookup x=some c->c ≠ b)/\∀ p∈X.pn++pins,p.1 ≠ b):Inv X pins σ H' s':=by
 obtain⟨h',g',d',t',o'⟩:=s'
 have e:o'=s.os:=d
 subst e
 exact I.call (g':=g') (t':=t') (d':=d') u hok f a
end
abbrev XK:=Value->Option Addr->Hp->Prop
abbrev St:=List (Option V)
abbrev VK:=V->Hp->Prop
abbrev TE:=St->Hp->VK->Prop
abbrev TT:=St->Hp->(Bool->Hp->Prop)->Prop
abbrev TA:=St->Hp->(List V->Hp->Prop)->Prop
structure Ends where
 nx:St->Hp->Prop
 rt:VK
 bk:St->Hp->Prop:=λ_ _=>False
 ct:St->Hp->Prop:=λ_ _=>False
abbrev TS:=Ends->St->Hp->Prop
def EP(X:Cx)(pins:List (Addr × Obj))(σ:St)(Q:VK)(u:Value)(s':Shared):Prop:=∃ v H',Inv X pins σ H' s'/\RelV v u/\Q v H'
def TP(X:Cx)(pins:List (Addr × Obj))(σ:St)(Q:Bool->Hp->Prop)(b:Bool)(s':Shared):Prop:=∃ H',Inv X pins σ H' s'/\Q b H'
def AP(X:Cx)(pins:List (Addr × Obj))(σ:St)(Q:List V->Hp->Prop)(us:List Value)(s':Shared):Prop:=∃ vs H',Inv X pins σ H' s'/\Vals vs us/\Q vs H'
def SP(X:Cx)(pins:List (Addr × Obj))(D:Ends)(f:Flow)(s':Shared):Prop :=
 match f with
 | .next=>∃ σ' H',Inv X pins σ' H' s'/\D.nx σ' H'
 | .brk=>∃ σ' H',Inv X pins σ' H' s'/\D.bk σ' H'
 | .cont=>∃ σ' H',Inv X pins σ' H' s'/\D.ct σ' H'
 | .ret u=>∃ v σ' H',Inv X pins σ' H' s'/\RelV v u/\D.rt v H'
def PE(X:Cx)(e:Expr)(t:TE):Prop :=
 ∀(pins:List (Addr × Obj))(s:Shared)(σ:St)(H:Hp)(Q:VK),Inv X pins σ H s->t σ H Q->wpAny (model X.prog X.w) X.A (eval e X.env) (EP X pins σ Q) X.xe s
def PT(X:Cx)(e:Expr)(t:TT):Prop :=
 ∀(pins:List (Addr × Obj))(s:Shared)(σ:St)(H:Hp)(Q:Bool->Hp->Prop),Inv X pins σ H s->t σ H Q->wpAny (model X.prog X.w) X.A (isTrue e X.env (eval e X.env)) (TP X pins σ Q) X.xe s
def PW(X:Cx)(e:Expr)(t:TT):Prop :=
 ∀(whole:Sem Value)(pins:List (Addr × Obj))(s:Shared)(σ:St)(H:Hp)(Q:Bool->Hp->Prop),Inv X pins σ H s->t σ H Q->wpAny (model X.prog X.w) X.A (isTrue e X.env whole) (TP X pins σ Q) X.xe s
theorem PW.pt(h:PW X e t):PT X e t:=h _
def PA(X:Cx)(es:List Expr)(t:TA):Prop :=
 ∀(pos:Pos)(pins:List (Addr × Obj))(s:Shared)(σ:St)(H:Hp)(Q:List V->Hp->Prop),Inv X pins σ H s->t σ H Q->wpAny (model X.prog X.w) X.A (spliced (backTo pos (starEach es X.env))) (AP X pins σ Q) X.xe s
def PS(X:Cx)(st:Stmt)(t:TS):Prop :=
 ∀(pins:List (Addr × Obj))(s:Shared)(σ:St)(H:Hp)(D:Ends),Inv X pins σ H s->t D σ H->wpAny (model X.prog X.w) X.A (exec st X.env) (SP X pins D) X.xe s
def PSs(X:Cx)(st:List Stmt)(t:TS):Prop :=
 ∀(pins:List (Addr × Obj))(s:Shared)(σ:St)(H:Hp)(D:Ends),Inv X pins σ H s->t D σ H->wpAny (model X.prog X.w) X.A (execs st X.env) (SP X pins D) X.xe s
theorem thn{α:Type}{t:Sem α}{Q b : α->Shared->Prop}{M:Model}{A:Around}{E:Value->Shared->Prop}{s:Shared}(h:wpAny M A t Q E s)(c:∀ a s,Q a s->b a s):wpAny M A t b E s:=aK1 h c λ_ _ x=>x
section
def tVar(i:Nat):TE:=λσ H Q=>∃ v,σ[i]?=some (some v)/\Q v H
def tC(v:V):TE:=λ_ H Q=>Q v H
theorem a0o(n:X.N[i]?=some x)(j:Vis X.env.scope x)(hd:(x == ("__debug__" : Str))=false:=by decide)(d:(x == ("__classdict__" : Str))=false:=by decide):PE X (.Name x pos) (tVar i):=by
 intro pins s σ H Q I h
 obtain⟨v,e,h⟩:=h
 obtain⟨m,hn,g⟩:=I.loc
 obtain⟨u,r,l⟩:=g i x v n e j
 have fin:EP X pins σ Q u s:=⟨v,H,I,r,h⟩
 rcases l with ⟨b,hm⟩|⟨b,c,f,a⟩
 ·exact wpAny_Name (wpAny_loadName_local I.ok.kind b hn hm fin) hd
 ·rcases b with b|b
  ·exact wpAny_Name (wpAny_loadName_cell I.ok.kind b f a fin) hd
  ·exact wpAny_Name (wpAny_loadName_free I.ok.kind b f a fin d) hd
theorem aae{i j pos}:PE X (.Constant (.int i) j pos) (tC (.int i)):=λ_ _ _ H _ I h=>wpAny_Constant_int ⟨.int i,H,I.tok _,⟨_,rfl⟩,h⟩
theorem adq{b j pos}:PE X (.Constant (.bool b) j pos) (tC (.bl b)):=λ_ _ _ H _ I h=>Constant_bool ⟨.bl b,H,I,rfl,h⟩
theorem ad1{j pos}:PE X (.Constant .none j pos) (tC .non):=λ_ _ _ H _ I h=>Constant_none ⟨.non,H,I,rfl,h⟩
def Gl(X:Cx)(x:Str):Prop:=X.env.kindOf x=some .globalImplicit
theorem apb(I:Inv X pins σ H s)(a:Gl X x)(hm:X.mg x=some u)(h:Q u s)
  (hd:(x == ("__debug__" : Str))=false:=by decide):wpAny (model X.prog X.w) X.A (eval (.Name x pos) X.env) Q E s :=
 Calls.Name_function_global I.ok.kind a (Calls.loadGlobal_global (by rw[I.ok.glob];exact I.mod.glob.keeps I.bk) hm h) hd
theorem adm{E:Value->Shared->Prop}{pins:List (Addr × Obj)}{s:Shared}{σ:St}{H:Hp}{x:Str}{u:Value}{pos:Pos}{Q:Value->Shared->Prop}(I:Inv X pins σ H s)(d:Gl X x)(hm:X.mg x=none)(c:bootBuiltins x=some u)(h:Q u s)
  (hn:x ≠ "__name__":=by decide) (hd:(x == ("__debug__" : Str))=false:=by decide):wpAny (model X.prog X.w) X.A (eval (.Name x pos) X.env) Q E s:=by
 obtain⟨mb,a,b⟩:=I.mod.blt
 exact Calls.Name_function_global I.ok.kind d (Calls.loadGlobal_builtin (by rw[I.ok.glob];exact I.mod.glob.keeps I.bk) hm (by rw[I.ok.blt];exact a.keeps I.bk) ((b x hn).trans c) h) hd
theorem axw(a:Gl X x)(hm:X.mg x=some u)(r:RelV v u)(hd:(x == ("__debug__" : Str))=false:=by decide):PE X (.Name x pos) (tC v) :=
 λ_ _ _ H _ I h=>apb I a hm ⟨v,H,I,r,h⟩ hd
theorem ahg(a:Gl X x)(hm:X.mg x=none)(b:bootBuiltins x=some u)(r:RelV v u)(hn:x ≠ "__name__":=by decide)(hd:(x == ("__debug__" : Str))=false:=by decide):PE X (.Name x pos) (tC v) :=
 λ_ _ _ H _ I h=>adm I a hm b ⟨v,H,I,r,h⟩ hn hd
variable{a b:Expr}{ta tb:TE}{pos:Pos}
def PC(X:Cx)(op:CmpOp)(a b:Expr)(t:TE):Prop :=
 ∀(pins:List (Addr × Obj))(s:Shared)(σ:St)(H:Hp)(Q:VK),Inv X pins σ H s->t σ H Q ->
  wpAny (model X.prog X.w) X.A (eval a X.env) (λv s₁=>wpAny (model X.prog X.w) X.A (eval b X.env) (λu s₂=>wpAny (model X.prog X.w) X.A (compareOp op v u) (EP X pins σ Q) X.xe s₂) X.xe s₁) X.xe s
def tB(t:TE):TT:=λσ H Q=>t σ H λx H1=>∃ c,x=.bl c/\Q c H1
theorem a0p{op:CmpOp}{t:TE}(h:PC X op a b t)(f:behindInMarks op b=false:=by first|exact nobehind _ (by decide) (by decide)|rfl):PT X (.Compare a [op] [b] pos) (tB t):=by
 intro pins s σ H Q I o
 refine wpAny_isTrue_Compare1 (thn (h pins s σ H _ I o) λv s1 f=>thn f λu s2 j=>thn j λc p ⟨x,n,l,i,g⟩=>?_) f
 obtain⟨d,rfl,q⟩:=g
 cases i
 exact aK6 ⟨n,l,q⟩
theorem ac9{e:Expr}{t:TE}(h:PE X e t)(b:∀ whole,isTrue e X.env whole=(do let v ← whole;standAt e.pos;holding [v] (truthy v)):=by intro _;rfl):PT X e (tB t):=by
 intro pins s σ H Q I i
 refine isTrue_plain (thn (h pins s σ H _ I i) λv s1 ⟨x,g,f,c,a⟩=>?_) (b _)
 obtain⟨d,rfl,q⟩:=a
 cases c
 exact aK6 ⟨g,f,q⟩
variable{tA tB':TT}{rest:List Expr}
def tAnd(t u:TT):TT:=λσ H Q=>t σ H λc H1=>if c=true then u σ H1 Q else Q false H1
def tOr(t u:TT):TT:=λσ H Q=>t σ H λc H1=>if c=true then Q true H1 else u σ H1 Q
def tNot(t:TT):TT:=λσ H Q=>t σ H λc H1=>Q (!c) H1
theorem ahh(ha:PT X a tA):PW X (.BoolOp .And [a] pos) tA:=by
 intro b pins s σ H Q I h
 refine isTrue_and (thn (ha pins s σ H Q I h) λc s1 e=>?_)
 cases c with
 |true=>exact isTrue_and_nil e
 |false=>exact e
theorem ae0(ha:PT X a tA):PW X (.BoolOp .Or [a] pos) tA:=by
 intro b pins s σ H Q I h
 refine isTrue_or (thn (ha pins s σ H Q I h) λc s1 e=>?_)
 cases c with
 |false=>exact isTrue_or_nil e
 |true=>exact e
theorem aiq(ha:PT X a tA)(hb:PW X (.BoolOp .And (b::rest) pos) tB'):PW X (.BoolOp .And (a::b::rest) pos) (tAnd tA tB'):=by
 intro i pins s σ H Q I h
 refine isTrue_and (thn (ha pins s σ H _ I h) λc s1 ⟨f,g,d⟩=>?_)
 cases c with
 |true=>exact hb i pins s1 σ f Q g d
 |false=>exact⟨f,g,d⟩
theorem aes(ha:PT X a tA)(hb:PW X (.BoolOp .Or (b::rest) pos) tB'):PW X (.BoolOp .Or (a::b::rest) pos) (tOr tA tB'):=by
 intro i pins s σ H Q I h
 refine isTrue_or (thn (ha pins s σ H _ I h) λc s1 ⟨f,g,d⟩=>?_)
 cases c with
 |true=>exact⟨f,g,d⟩
 |false=>exact hb i pins s1 σ f Q g d
theorem ada(ha:PT X a tA):PT X (.UnaryOp .Not a pos) (tNot tA):=by
 intro pins s σ H Q I h
 exact isTrue_not (ha pins s σ H (λc b=>Q (!c) b) I h)
def aqu(ta tb:TE):TE:=λσ H Q=>ta σ H λx H1=>∃ c,x=.bl c/\if c=true then tb σ H1 Q else Q (.bl false) H1
def aqv(ta:TE):TE:=λσ H Q=>ta σ H λx H1=>∃ c,x=.bl c/\Q (.bl (!c)) H1
theorem afv{op}(h:PE X a t):PE X (.BoolOp op [a] pos) t:=λpins s σ H Q I b=>BoolOp_one (h pins s σ H Q I b)
theorem aeh(ha:PE X a ta)(hb:PE X (.BoolOp .And (b::rest) pos) tb):PE X (.BoolOp .And (a::b::rest) pos) (aqu ta tb):=by
 intro pins s σ H Q I h
 refine BoolOp_and (thn (ha pins s σ H _ I h) λv s1 ⟨x,f,g,i,d⟩=>?_)
 obtain⟨c,rfl,d⟩:=d
 cases i
 refine aK6 ?_
 cases c with
 |true=>exact hb pins s1 σ f Q g d
 |false=>exact⟨.bl false,f,g,rfl,d⟩
theorem a0q(ha:PE X a ta):PE X (.UnaryOp .Not a pos) (aqv ta):=by
 intro pins s σ H Q I h
 refine UnaryOp_ (thn (ha pins s σ H _ I h) λv s1 ⟨x,d,g,f,b⟩=>?_)
 obtain⟨c,rfl,b⟩:=b
 cases f
 exact not_of (aK6 ⟨.bl (!c),d,g,rfl,b⟩)
end
def SqL(K:Frag)(H:Hp)(a:Addr)(xs:List V):Prop :=
 Rd H a (.lst xs) ∨
  ∃(o:Obj)(its:Array Value)(n:Nat),K.lookup a=some o/\o.cls=.type "list"/\o.dict=none/\o.data=.seq its n/\its.size<=sizeLine/\Vals xs its.toList
def SqT(K:Frag)(H:Hp)(a:Addr)(xs:List V):Prop :=
 Rd H a (.tup xs) ∨
  ∃(o:Obj)(its:Array Value)(n:Nat),K.lookup a=some o/\o.cls=.type "tuple"/\o.data=.seq its n/\its.size<=sizeLine/\Vals xs its.toList
def absV:Value->Option V
 | .none=>some .non
 | .bool b=>some (.bl b)
 | .int i _=>some (.int i)
 | .str x _=>some (.str x)
 | .bytes b _=>some (.byt b)
 | .float b _=>some (.flt b)
 | .ref a=>some (.ref a)
 | .type n=>some (.ty n)
 |_=>none
theorem RelV.abs(r:RelV x u):absV u=some x:=by
 cases x with
 |non=>cases r;rfl
 |bl _=>cases r;rfl
 |int _=>obtain⟨t,rfl⟩:=r;rfl
 |str _=>obtain⟨t,rfl⟩:=r;rfl
 |byt _=>obtain⟨t,rfl⟩:=r;rfl
 |flt _=>obtain⟨t,rfl⟩:=r;rfl
 |ref _=>cases r;rfl
 |ty _=>cases r;rfl
theorem RelV.inj(r:RelV x u)(q:RelV y u):x=y:=aC6 (r.abs.symm.trans q.abs)
theorem Vals.inj:∀{xs ys:List V}{us:List Value},Vals xs us->Vals ys us->xs=ys
 |_,_,_,.nil,.nil=>rfl
 |_,_,_,.cons r t,.cons r' t'=>by rw[r.inj r',Vals.inj t t']
section
theorem SqL.of{K:Frag}(h:H a=some (.lst xs)):SqL K H a xs:=.inl (.inl h)
theorem SqT.of{K:Frag}(h:H a=some (.tup xs)):SqT K H a xs:=.inl (.inl h)
theorem Inv.list(I:Inv X pins σ H s)(h:SqL X.K H a xs):∃ its:List Value,Vals xs its/\PlainL s.heap a its.toArray/\xs.length<=sizeLine:=by
 rcases h with h|⟨o,its,n,c,b,hd,hs,hz,r⟩
 ·obtain⟨z,its,n,r,e⟩:=h.ok I.hok
  exact⟨its,r,⟨_,n,e,rfl,rfl,rfl⟩,z⟩
 ·refine⟨its.toList,r,⟨o,n,I.kIn a o c,b,hd,by simpa using hs⟩,?_⟩
  have e:=r.length
  simp only[aA8] at e
  lia
theorem Inv.tuple(I:Inv X pins σ H s)(h:SqT X.K H a xs):∃ its:List Value,Vals xs its/\IsTup s.heap a its.toArray/\xs.length<=sizeLine:=by
 rcases h with h|⟨o,its,n,c,b,hs,hz,r⟩
 ·obtain⟨z,its,r,p⟩:=h.ok I.hok
  exact⟨its,r,p,z⟩
 ·refine⟨its.toList,r,⟨o,I.kIn a o c,b,n,by simpa using hs⟩,?_⟩
  have e:=r.length
  simp only[aA8] at e
  lia
theorem Inv.list_inj(I:Inv X pins σ H s)(h:SqL X.K H a xs)(h':SqL X.K H a ys):xs=ys:=by
 obtain⟨its,r,⟨o,n,e,_,_,d⟩,_⟩:=I.list h
 obtain⟨its',f,⟨o',g,b,_,_,d'⟩,_⟩:=I.list h'
 rw[e] at b;cases b
 rw[d] at d'
 injection d' with c _
 have:its=its':=by simpa using congrArg Array.toList c
 subst this
 exact r.inj f
end
abbrev Cx.wish(X:Cx)(E:Value->Shared->Prop):Cx:={ X with xe:=E }
abbrev Cx.nox(X:Cx):Cx:=X.wish λ_ _=>False
theorem Cx.Ok.wish{X:Cx}(ok:X.Ok)(E:Value->Shared->Prop):(X.wish E).Ok :=
 ⟨ok.mod,ok.kind,ok.glob,ok.blt,ok.above,ok.inj,ok.has,ok.cab,ok.hd,ok.frames,ok.stk,ok.exf,ok.bs,ok.bsz,ok.noex,ok.exfs,ok.funs,ok.frf,ok.tab⟩
theorem Cx.Ok.unwish{X:Cx}{E:Value->Shared->Prop}(ok:(X.wish E).Ok):X.Ok :=
 ⟨ok.mod,ok.kind,ok.glob,ok.blt,ok.above,ok.inj,ok.has,ok.cab,ok.hd,ok.frames,ok.stk,ok.exf,ok.bs,ok.bsz,ok.noex,ok.exfs,ok.funs,ok.frf,ok.tab⟩
section
theorem Inv.wish(I:Inv X pins σ H s)(E:Value->Shared->Prop):Inv (X.wish E) pins σ H s:=⟨I.ok.wish E,I.os,I.bare,I.base,I.loc,I.cell,I.free,I.freeC,I.pin,I.hok,I.len⟩
theorem Inv.unwish(I:Inv (X.wish E) pins σ H s):Inv X pins σ H s:=⟨I.ok.unwish,I.os,I.bare,I.base,I.loc,I.cell,I.free,I.freeC,I.pin,I.hok,I.len⟩
theorem SP.unwish(h:SP (X.wish E) pins D f s'):SP X pins D f s':=by
 cases f with
 |next=>obtain⟨a,H',I,q⟩:=h;exact⟨a,H',I.unwish,q⟩
 |brk=>obtain⟨a,H',I,q⟩:=h;exact⟨a,H',I.unwish,q⟩
 |cont=>obtain⟨a,H',I,q⟩:=h;exact⟨a,H',I.unwish,q⟩
 |ret u=>obtain⟨v,a,H',I,r,q⟩:=h;exact⟨v,a,H',I.unwish,r,q⟩
theorem PSs.nox{st:List Stmt}{t:TS}(h:PSs X.nox st t):PSs X st t:=λpins s σ H D I a =>
 aK1 (h pins s σ H D (I.wish _) a) (λ_ _ q=>q.unwish) λ_ _ z=>False.elim z
end
section
variable{X:Cx}{st:Stmt}{rest:List Stmt}{t u:TS}{e:Expr}{te:TE}{pos:Pos}
def awz:TS:=λD σ H=>D.nx σ H
def tSeq(t u:TS):TS:=λD σ H=>t { D with nx:=u D } σ H
theorem aa7:PSs X [] awz:=λ_ _ σ H _ I h=>wpAny_execs_nil ⟨σ,H,I,h⟩
theorem aac(b:PS X st t)(d:PSs X rest u):PSs X (st::rest) (tSeq t u):=by
 intro pins s σ H D I h
 refine wpAny_execs_cons (thn (b pins s σ H { D with nx:=u D } I h) λf s1 q=>?_)
 cases f with
 | next =>
  obtain⟨a,H',c,q⟩:=q
  exact d pins s1 a H' D c q
 |ret v=>exact q
 |brk=>exact q
 |cont=>exact q
theorem aaf(a:PS X st t):PSs X [st] t:=by
 intro pins s σ H D I h
 refine wpAny_execs_cons (thn (a pins s σ H D I h) λf s1 q=>?_)
 cases f with
 |next=>exact wpAny_execs_nil q
 |ret v=>exact q
 |brk=>exact q
 |cont=>exact q
theorem Inv.quiet{pins:List (Addr × Obj)}{σ:St}{H:Hp}{s:Shared}(I:Inv X pins σ H s):interactive X.env=false:=by simp[interactive,I.ok.kind]
def aw0(te:TE):TS:=λD σ H=>te σ H λ_ H1=>D.nx σ H1
theorem abk(b:PE X e te)(hs:swapsWith e none pos.line X.env=pure false:=by rfl):PS X (.Expr e pos) (aw0 te):=by
 intro pins s σ H D I h
 exact wpAny_Expr_any (thn (b pins s σ H _ I h) λv s1 ⟨x,c,d,f,a⟩=>⟨σ,c,d,a⟩) I.quiet hs
def tRet(te:TE):TS:=λD σ H=>te σ H D.rt
theorem aas(b:PE X e te):PS X (.Return (some e) pos) (tRet te):=by
 intro pins s σ H D I h
 exact wpAny_Return_some (thn (b pins s σ H _ I h) λv s1 ⟨x,c,f,d,a⟩=>⟨x,σ,c,f,d,a⟩)
def tIfS(c:TT)(t u:TS):TS:=λD σ H=>c σ H λb H1=>if b=true then t D σ H1 else u D σ H1
theorem abn{c:Expr}{a b:List Stmt}{g:TT}(l:PT X c g)(ha:PSs X a t)(hb:PSs X b u):PS X (.If c a b pos) (tIfS g t u):=by
 intro pins s σ H D I h
 refine wpAny_If (thn (l pins s σ H _ I h) λd s1 ⟨j,i,f⟩=>?_)
 cases d with
 |true=>exact ha pins s1 σ j D i f
 |false=>exact hb pins s1 σ j D i f
def a0r:TS:=λ_ _ _=>False
theorem ad9:PS X st a0r:=λ_ _ _ _ _ _ h=>h.elim
end
abbrev TG:=V->St->Hp->(St->Hp->Prop)->Prop
abbrev TGs:=List V->St->Hp->(St->Hp->Prop)->Prop
def PG(X:Cx)(target:Expr)(t:TG):Prop :=
 ∀(pins:List (Addr × Obj))(s:Shared)(σ:St)(H:Hp)(v:V)(u:Value)(Q:St->Hp->Prop),Inv X pins σ H s->RelV v u->t v σ H Q ->
  wpAny (model X.prog X.w) X.A (assign target X.env u) (λ_ s'=>∃ σ' H',Inv X pins σ' H' s'/\Q σ' H') X.xe s
def PGs(X:Cx)(ts:List Expr)(t:TGs):Prop :=
 ∀(pins:List (Addr × Obj))(s:Shared)(σ:St)(H:Hp)(vs:List V)(us:List Value)(Q:St->Hp->Prop),Inv X pins σ H s->Vals vs us->t vs σ H Q ->
  wpAny (model X.prog X.w) X.A (assignInOrder ((assignEach ts X.env).map (·.2)) us) (λ_ s'=>∃ σ' H',Inv X pins σ' H' s'/\Q σ' H') X.xe s
abbrev TSet:=V->V->V->Hp->(Hp->Prop)->Prop
def PSet(X:Cx)(t:TSet):Prop :=
 ∀(pins:List (Addr × Obj))(s:Shared)(σ:St)(H:Hp)(o i v:V)(ov iv u:Value)(Q:Hp->Prop),Inv X pins σ H s->RelV o ov->RelV i iv->RelV v u->t o i v H Q ->
  wpAny (model X.prog X.w) X.A (setItem ov iv u) (λ_ s'=>∃ H',Inv X pins σ H' s'/\Q H') X.xe s
section
def aa0(i:Nat):TG:=λv σ H Q=>Q (σ.set i (some v)) H
theorem aag(b:X.N.Nodup)(hi:X.N[i]?=some x)(a:Loc X.env.scope x)(hf:X.fn x=true\/X.env.scope.names.lookup x=some .local:=by first|exact .inl rfl|exact .inr rfl|assumption):PG X (.Name x pos) (aa0 i):=by
 intro pins s σ H v u Q I r h
 exact wpAny_assign_Name (amc I b hi a r (λs' c=>⟨_,H,c,h⟩) hf)
def gNil:TGs:=λvs σ H Q=>vs=[]/\Q σ H
def abz(t:TG)(u:TGs):TGs:=λvs σ H Q=>∃ v r,vs=v::r/\t v σ H λσ' H'=>u r σ' H' Q
theorem aba:PGs X [] gNil:=by
 intro pins s σ H vs us Q I r h
 obtain⟨e,h⟩:=h
 subst e
 cases r
 exact assignInOrder_nil ⟨σ,H,I,h⟩
theorem aan{e:Expr}{es:List Expr}{t:TG}{u:TGs}(c:PG X e t)(f:PGs X es u)
  (hs:(assignEach (e::es) X.env).map (·.2)=assign e X.env::(assignEach es X.env).map (·.2):=by rfl):PGs X (e::es) (abz t u):=by
 intro pins s σ H vs us Q I r h
 obtain⟨v,j,d,h⟩:=h
 subst d
 cases r with
 | cons r rr =>
  rw[hs]
  refine assignInOrder_cons (thn (c pins s σ H _ _ _ I r h) λ_ s1 ⟨a,i,g,b⟩=>?_)
  exact f pins s1 a i _ _ Q g rr b
def gTup(K:Frag)(n:Nat)(t:TGs):TG:=λv σ H Q=>∃ a xs,v=.ref a/\SqT K H a xs/\xs.length=n/\t xs σ H Q
theorem abo(w:X.calm=true)(h:PGs X es t)
  (hn:(assignEach es X.env).length=n:=by rfl) (c:(assignEach es X.env).findIdx? (·.1)=none:=by rfl):PG X (.Tuple es k pos) (gTup X.K n t):=by
 intro pins s σ H v u Q I r d
 obtain⟨a,xs,g,p,i,d⟩:=d
 subst g
 cases r
 obtain⟨its,f,l,hz⟩:=I.tuple p
 refine assign_Tuple_tuple (I.ok.hd w) l (by simp[hn,← i,f.length]) c λh' q=>?_
 have j:Inv X pins σ H { s with heap:=h' }:=I.kept (t':=s.toks) λb o e=>q b o (aB6 (aJ5 e)) e
 exact h pins _ σ H xs _ Q j (by simpa using f) d
def gSub(to ti:TE)(t:TSet):TG:=λv σ H Q=>to σ H λo H1=>ti σ H1 λi H2=>t o i v H2 λH3=>Q σ H3
theorem air{o i:Expr}{to c:TE}{t:TSet}(q:PE X o to)(hi:PE X i c)(hs:PSet X t)
  (ha:∀ v,assign (.Subscript o i pos) X.env v=(do
   let a ← holding [v] (eval o X.env)
   let b ← holding [v,a] (eval i X.env)
   standAt pos
   holding [v,a,b] (setItem a b v)
   release [v,a,b] []):=by intro _;rfl):PG X (.Subscript o i pos) (gSub to c t):=by
 intro pins s σ H v u Q I r h
 rw[ha]
 refine aJ2 (aJ8 (thn (q pins s σ H _ I h) λa s1 ⟨x,z,p,l,d⟩=>?_))
 refine aJ2 (aJ8 (thn (hi pins s1 σ z _ p d) λb s2 ⟨y,H2,w,n,j⟩=>?_))
 refine aJ2 (wpAny_standAt (aJ2 (aJ8 (thn (hs pins s2 σ H2 x y v a b u _ w l n r j) λ_ A ⟨H3,g,f⟩=>?_))))
 exact wpAny_release ⟨σ,H3,g,f⟩
def tAsg(te:TE)(g:TG):TS:=λD σ H=>te σ H λx H1=>g x σ H1 D.nx
theorem ab0{tg e:Expr}{te:TE}{g:TG}(c:PE X e te)(f:PG X tg g)(hs:swapsWithSole [tg] e pos.line X.env=pure false:=by rfl)(l:swappedStores [tg] e X.env=pure none:=by rfl)
  (b:(assignEach [tg] X.env).map (·.2)=[assign tg X.env]:=by rfl):PS X (.Assign [tg] e pos) (tAsg te g):=by
 intro pins s σ H D I h
 refine wpAny_Assign_stores (thn (c pins s σ H _ I h) λv s1 ⟨x,j,i,d,a⟩=>?_) hs l
 rw[b]
 exact thn (f pins s1 σ j x v _ i d a) λ_ s2 q=>q
theorem aao{i:Nat}{x:Str}{e:Expr}{te:TE}{a:Pos}(n:X.N.Nodup)(hi:X.N[i]?=some x)(j:Loc X.env.scope x)(c:PE X e te)(hs:swapsWith e (some (.Name x a)) pos.line X.env=pure false:=by rfl)(hf:X.fn x=true\/X.env.scope.names.lookup x=some .local:=by first|exact .inl rfl|exact .inr rfl|assumption) :
  PS X (.Assign [.Name x a] e pos) (tAsg te (aa0 i)):=by
 intro pins s σ H D I h
 refine wpAny_Assign_Name (thn (c pins s σ H _ I h) λv s1 ⟨y,l,f,d,b⟩=>?_) hs
 exact amc f n hi j d (λs2 g=>⟨_,l,g,b⟩) hf
end
section
def asa(c:TT)(tb:TS):TS:=λD σ H=>∃ W:Nat->St->Hp->Prop,(∃ m,W m σ H)/\∀ m σ H,W m σ H ->
 c σ H λb H1=>if b=true then ∃ N:St->Hp->Prop,(∀ σ' H',N σ' H'->∃ m',m'<m/\W m' σ' H')/\tb { D with nx:=N,ct:=N,bk:=D.nx } σ H1 else D.nx σ H1
theorem af5{c:Expr}{body:List Stmt}{x:TT}{t:TS}(u:PassesOwn (model X.prog X.w) X.A X.env X.xe)(G:PT X c x)(hb:PSs X body t):PS X (.While c body [] pos) (asa x t):=by
 intro pins s σ H D I h
 obtain⟨W,⟨J,C⟩,g⟩:=h
 refine wpAny_While (codeAny_whileLoop (λn s'=>∃ i H',Inv X pins i H' s'/\W n i H') ?_ J ⟨σ,H,I,C⟩)
 rintro n s1 ⟨d,y,F,E⟩
 refine wpAny_passesOwn u (thn (G pins s1 d y _ F (g n d y E)) λb s2 ⟨H2,z,l⟩=>?_)
 cases b with
 | true =>
  obtain⟨N,B,l⟩:=l
  rw[aF5 rfl]
  refine wpAny_passesOwn u (thn (hb pins s2 d H2 _ z l) λf K j=>?_)
  cases f with
  | next =>
   obtain⟨a,H3,o,q⟩:=j
   obtain⟨r,hm,p⟩:=B a H3 q
   exact⟨r,hm,a,H3,o,p⟩
  | cont =>
   obtain⟨a,H3,o,q⟩:=j
   obtain⟨r,hm,p⟩:=B a H3 q
   exact⟨r,hm,a,H3,o,p⟩
  |brk=>exact j
  |ret v=>exact j
 | false =>
  rw[aF6 aB0]
  exact wpAny_execs_nil ⟨d,H2,z,l⟩
end
structure It where
 go:Nat->Hp->Prop
 yld:Nat->Hp->V->Hp->Prop
 stop:Nat->Hp->Prop
def FpOk(X:Cx)(pins:List (Addr × Obj))(H:Hp)(b:Addr):Prop :=
 H b=none/\b ≠ X.env.locals/\b ∉ X.fs/\(b∈X.ex\/X.s₀.heap.objs.size<=b)/\(∀ x c,X.env.cells.lookup x=some c->c ≠ b)/\∀ p∈X.pn++pins,p.1 ≠ b
theorem Inv.fpOk(I:Inv X pins σ H s)(hb:s.heap.objs.size<=b)(hn:H' b=none):FpOk X pins H' b:=by
 refine⟨hn,Nat.ne_of_gt (aC5 I.lt hb),I.nofs hb,.inr (aD0 I.sz hb),λx c e z=>?_,λp a z=>?_⟩
 ·obtain⟨v,q⟩:=I.cell x c e
  exact absurd (aC5 q.lt (by rw[z];exact hb)) (aG4 _)
 ·exact absurd (aC5 (aJ5 (I.pin p a).1) (by rw[z];exact hb)) (aG4 _)
structure Turn(P:Program)(w:World)(K:Frag)(tg:Expr)(J:It)(fp:List Addr)(it:Addr)(tn:Nat->Heap->Prop):Prop where
 mem:it∈fp
 obj:∀ i h,tn i h->∀ b∈fp,∃ o,h.get? b=some o/\∀ v,o.data ≠ .cell v
 keep:∀ i h h',tn i h->(∀ b∈fp,∀ o,h.get? b=some o->h'.get? b=some o)->tn i h'
 item:∀(X:Cx),X.prog=P->X.w=w->X.K=K->X.calm=true->∀(i:Nat)(pins:List (Addr × Obj))(s:Shared)(σ:St)(H:Hp)(E:Value->Shared->Prop),Inv X pins σ H s->(∀ b∈fp,FpOk X pins H b)->tn i s.heap->J.go i H ->
  wpAny (model P w) X.A (pyNext (.ref it)) (λr s1=>∃ u,r=some u /\
   wpAny (model P w) X.A (letOwnedTupleGo tg (.ref it) u) (λ_ s2=>∃ x H',Inv X pins σ H' s2/\RelV x u/\J.yld i H x H'/\tn (i+1) s2.heap/\∀ b∈fp,H' b=none) E s1) E s
 done:∀(X:Cx),X.prog=P->X.w=w->X.K=K->X.calm=true->∀(i:Nat)(pins:List (Addr × Obj))(s:Shared)(σ:St)(H:Hp)(E:Value->Shared->Prop),Inv X pins σ H s->(∀ b∈fp,FpOk X pins H b)->tn i s.heap->J.stop i H ->
  wpAny (model P w) X.A (pyNext (.ref it)) (λr s1=>r=none/\Inv X pins σ H s1) E s
 self:∀(A:Around)(i:Nat)(s:Shared)(Q:Value->Shared->Prop)(E:Value->Shared->Prop),tn i s.heap->Q (.ref it) s->wpAny (model P w) A (pyIter (.ref it)) Q E s
abbrev TI:=St->Hp->(It->Hp->Prop)->Prop
def PIE(X:Cx)(pins:List (Addr × Obj))(σ:St)(tg:Expr)(R:It->Hp->Prop)(itv:Value)(s2:Shared):Prop :=
 ∃(it:Addr)(fp:List Addr)(tn:Nat->Heap->Prop)(J:It)(H':Hp),itv=.ref it/\Inv X pins σ H' s2/\Turn X.prog X.w X.K tg J fp it tn/\tn 0 s2.heap/\(∀ b∈fp,FpOk X pins H' b)/\R J H'
def PI(X:Cx)(tg iter:Expr)(wi:TI):Prop :=
 ∀(pins:List (Addr × Obj))(s:Shared)(σ:St)(H:Hp)(R:It->Hp->Prop),Inv X pins σ H s->wi σ H R ->
  wpAny (model X.prog X.w) X.A (eval iter X.env) (λv s1=>wpAny (model X.prog X.w) X.A (pyIter v) (PIE X pins σ tg R) X.xe s1) X.xe s
theorem aw1(c:s.heap.get? it=some o)(b:o.cls=.type n)(hd:o.data=.fields vs)
  (hn:["enumerate","zip","dict_itemiterator","dict_reverseitemiterator","odict_iterator","itertools.zip_longest","itertools.pairwise"].contains n=false) (a:Q () s):wpAny M A (letOwnedTupleGo tg (.ref it) u) Q E s:=by
 unfold letOwnedTupleGo
 cases tg <;> first
  |exact aJ3 a
  | (cases u <;> first
    |exact aJ3 a
    | (refine aJ2 (wpAny_load c ?_)
       rw[b,hd]
       show wpAny M A (if (["enumerate","zip","dict_itemiterator","dict_reverseitemiterator","odict_iterator","itertools.zip_longest","itertools.pairwise"].contains n && vs[0]? == some (rawInt _))=true then _ else _) Q E s
       rw[aF6 (by intro h;rw[hn,Bool.false_and] at h;cases h)]
       exact aJ3 a))
def Itl(K:Frag)(a:Addr):It :=
 ⟨λi H=>∃ xs x,SqL K H a xs/\xs[i]?=some x,λi H x H'=>H'=H/\∀ xs,SqL K H a xs->xs[i]?=some x,λi H=>∃ xs,SqL K H a xs/\xs.length<=i⟩
def Itr(lo:Int)(n:Nat):It:=⟨λi _=>i<n,λi H x H'=>H'=H/\x=.int (lo+i),λi _=>n<=i⟩
theorem asb{P:Program}{w:World}{K:Frag}{tg:Expr}(a it:Addr):Turn P w K tg (Itl K a) [it] it (λi h=>h.IsListIter it a i) where
 mem:=by simp
 obj:=λi h st b hb=>by
  have e:b=it:=by simpa using hb
  subst e
  obtain⟨o,e,c,d⟩:=st
  exact⟨o,e,λv z=>by rw[d] at z;cases z⟩
 keep:=λi h h' st k=>st.at λo e=>k it (by simp) o e
 item:=by
  intro X q B n C i pins s σ H E I hf st t
  subst q B n
  obtain⟨xs,x,f,A⟩:=t
  obtain⟨its,l,p,hz⟩:=I.list f
  obtain⟨u,L,J⟩:=l.get A
  obtain⟨r,f1,F,y,j,g⟩:=hf it (by simp)
  refine wpAny_pyNext_list_item st p.isList (x:=u) (by simpa using L) λh' st' sb=>?_
  have G:Inv X pins σ H { s with heap:=h' }:=I.turned (t':=s.toks) (λb o hb e=>(sb.2 b hb).trans e) r f1 y j g
  obtain⟨o,e,c,d⟩:=id st'
  exact⟨u,rfl,aw1 (s:={ s with heap:=h' }) e c d (by decide) ⟨x,H,G,J,⟨rfl,λys D=>by rw[I.list_inj D f];exact A⟩,st',λb hb=>(hf b hb).1⟩⟩
 done:=by
  intro X q B n C i pins s σ H E I hf st t
  subst q B n
  obtain⟨xs,f,A⟩:=t
  obtain⟨its,l,p,hz⟩:=I.list f
  obtain⟨r,f1,F,y,j,g⟩:=hf it (by simp)
  have N:=l.length
  exact wpAny_pyNext_list_end (I.ok.hd C) st p.isList (by simp;lia) λh' M=>⟨rfl,I.turned (t':=s.toks) (λb o hb e=>M b o hb e) r f1 y j g⟩
 self:=λ_ _ _ _ _ st h=>wpAny_pyIter_listiter st h
theorem aqw{P:Program}{w:World}{K:Frag}{tg:Expr}(it:Addr)(lo:Int)(n:Nat):Turn P w K tg (Itr lo n) [it] it (λi h=>IsRangeIter h it (lo+(i:Nat) * 1) ((n:Int)-(i:Nat)) 1) where
 mem:=by simp
 obj:=λi h st b hb=>by
  have e:b=it:=by simpa using hb
  subst e
  exact⟨_,st,λv z=>by
   have y:Data.fields _=Data.cell v:=z
   cases y⟩
 keep:=λi h h' st k=>k it (by simp) _ st
 item:=by
  intro X f q d p i pins s σ H E I hf st j
  subst f q d
  obtain⟨g,f1,x,l,c,a⟩:=hf it (by simp)
  have W:=Walks.range (prog:=X.prog) (w:=X.w) (I.ok.hd p) it lo 1 n
  refine W.item i s _ _ j st λv h' r A st' u=>?_
  obtain⟨t,rfl⟩:=A
  have B:Inv X pins σ H { s with heap:=h',toks:=r }:=I.turned (λb o hb e=>u b o (by simpa using hb) e) g f1 l c a
  refine⟨_,rfl,aw1 (s:={ s with heap:=h',toks:=r }) (n:="range_iterator") st' rfl rfl (by decide) ⟨.int (lo+i),H,B,⟨t,?_⟩,⟨rfl,rfl⟩,st',λb hb=>(hf b hb).1⟩⟩
  rw[Int.mul_one]
 done:=by
  intro X f q d p i pins s σ H E I hf st j
  subst f q d
  obtain⟨g,f1,x,l,c,a⟩:=hf it (by simp)
  exact wpAny_pyNext_range_end (I.ok.hd p) st (by have:n<=i:=j;lia) λh' C=>⟨rfl,I.turned (t':=s.toks) (λb o hb e=>C b o hb e) g f1 l c a⟩
 self:=λ_ _ _ _ _ st h=>wpAny_pyIter_rangeiter st h
section
def aw2(K:Frag)(tl:TE):TI:=λσ H R=>tl σ H λx H1=>∃ a,x=.ref a/\(∃ xs,SqL K H1 a xs)/\R (Itl K a) H1
theorem abl{l:Expr}{tl:TE}(g:PE X l tl):PI X tg l (aw2 X.K tl):=by
 intro pins s σ H R I h
 refine thn (g pins s σ H _ I h) λv s1 ⟨x,j,c,f,d⟩=>?_
 obtain⟨a,e,⟨xs,i⟩,q⟩:=d
 subst e
 cases f
 obtain⟨its,n,p,hz⟩:=c.list i
 refine aK7 p.isList ?_
 refine⟨s1.heap.objs.size,[s1.heap.objs.size],_,_,j,rfl,c.kept (t':=s1.toks) λb o e=>aJ4 _ e,asb a _,⟨_,aJ6 _ rfl,rfl,rfl⟩,λb hb=>?_,q⟩
 have e:b=s1.heap.objs.size:=by simpa using hb
 subst e
 exact c.fpOk (aA6 _) (c.hok.fresh (aA6 _))
theorem amd{pins:List (Addr × Obj)}{σ:St}{H:Hp}{s:Shared}{R:It->Hp->Prop}{E:Value->Shared->Prop}{lo hi:Int}{t u v:Tok}{c:Nat}(I:Inv X pins σ H s)(d : -(2 ^ 62)<=lo)(h:lo<2 ^ 62)(i : -(2 ^ 62)<=hi)(g:hi<2 ^ 62)
  (q:R (Itr lo (hi-lo).toNat) H):wpAny (model X.prog X.w) X.A (pyIter (.ref s.heap.objs.size)) (PIE X pins σ tg R) E { s with heap:=s.heap.push { cls:=.type "range",data:=.fields #[.int lo t,.int hi u,.int 1 v] },toks:=c }:=by
 refine wpAny_pyIter_range (IsRange.new ..) (small_one d h i g) ?_
 have a:Inv X pins σ H { s with heap:=s.heap.push { cls:=.type "range",data:=.fields #[.int lo t,.int hi u,.int 1 v] },toks:=c }:=I.kept λb o e=>aJ4 _ e
 refine⟨(s.heap.push { cls:=.type "range",data:=.fields #[.int lo t,.int hi u,.int 1 v] }).objs.size,[(s.heap.push { cls:=.type "range",data:=.fields #[.int lo t,.int hi u,.int 1 v] }).objs.size],_,_,H,rfl,
  a.kept (t':=c) λb o e=>aJ4 _ e,aqw _ lo (hi-lo).toNat,?_,λb hb=>?_,q⟩
 ·have f:lo+((0:Nat):Int) * 1=lo:=by simp
  have j:(((hi-lo).toNat:Nat):Int)-((0:Nat):Int)=Builtin.Range.rangeSize lo hi 1:=by rw[rangeSize_one];split <;> lia
  show IsRangeIter _ _ (lo+((0:Nat):Int) * 1) ((((hi-lo).toNat:Nat):Int)-((0:Nat):Int)) 1
  rw[f,j]
  exact aJ6 _ rfl
 ·have e:b=(s.heap.push { cls:=.type "range",data:=.fields #[.int lo t,.int hi u,.int 1 v] }).objs.size:=by simpa using hb
  subst e
  exact a.fpOk (aA6 _) (a.hok.fresh (aA6 _))
def aw3(ta:TA):TI:=λσ H R=>ta σ H λvs H1=>∃ j:Int,vs=[.int j]/\-(2 ^ 62)<=j/\j<2 ^ 62/\R (Itr 0 j.toNat) H1
def aw4(ta:TA):TI:=λσ H R=>ta σ H λvs H1=>∃ i j:Int,vs=[.int i,.int j]/\(-(2 ^ 62)<=i/\i<2 ^ 62/\-(2 ^ 62)<=j/\j<2 ^ 62)/\R (Itr i (j-i).toNat) H1
theorem acr{a:Expr}{c:TA}{p pos:Pos}(g:Gl X "range")(hm:X.mg "range" = none)(ha:PA X [a] c)(hs:starEach [a] X.env=[(false,eval a X.env)]:=by rfl):PI X tg (.Call (.Name "range" p) [a] [] pos) (aw3 c):=by
 intro pins s σ H R I h
 refine Call_ (adm I g hm boot_range (PyProof.Rows.callWith_type1 (thn (ha pos pins s σ H _ I h) λus s1 ⟨vs,l,i,f,b⟩=>?_) hs rfl))
 obtain⟨j,e,b,d,q⟩:=b
 subst e
 cases f with
 | cons r rr =>
  cases rr
  obtain⟨t,rfl⟩:=r
  exact call_range_1 (amd i (by lia) (by lia) b d (by simpa using q))
theorem asc{a b:Expr}{f:TA}{p pos:Pos}(o:Gl X "range")(hm:X.mg "range" = none)(ha:PA X [a,b] f)(hs:starEach [a,b] X.env=[(false,eval a X.env),(false,eval b X.env)]:=by rfl)(c:starEach [b] X.env=[(false,eval b X.env)]:=by rfl) :
  PI X tg (.Call (.Name "range" p) [a,b] [] pos) (aw4 f):=by
 intro pins s σ H R I h
 refine Call_ (adm I o hm boot_range (PyProof.Rows.callWith_type1 (thn (ha pos pins s σ H _ I h) λus s1 ⟨vs,w,u,n,d⟩=>?_) (by rw[hs,c]) (by rw[c];rfl)))
 obtain⟨i,j,e,⟨d,l,g,v⟩,q⟩:=d
 subst e
 cases n with
 | cons r rr =>
  cases rr with
  | cons r' rr =>
   cases rr
   obtain⟨t,rfl⟩:=r
   obtain⟨t',rfl⟩:=r'
   exact call_range_2 (amd u d l g v q)
def tFor(wi:TI)(g:TG)(tb:TS):TS:=λD σ H=>wi σ H λJ H1=>∃ W:Nat->Nat->St->Hp->Prop,(∃ m,W 0 m σ H1)/\∀ i m σ H,W i m σ H ->
 (J.stop i H/\D.nx σ H)\/(J.go i H/\∃ N:St->Hp->Prop,(∀ σ' H',N σ' H'->∃ m',m'<m/\W (i+1) m' σ' H')/\∀ x H',J.yld i H x H'->g x σ H' λσ2 H2=>tb { D with nx:=N,ct:=N,bk:=D.nx } σ2 H2)
def ae1(fp:List Addr)(h:Heap):List (Addr × Obj):=fp.filterMap λb=>(h.get? b).map λo=>(b,o)
theorem ab9(hb:b∈fp)(e:h.get? b=some o):(b,o)∈ae1 fp h:=List.mem_filterMap.mpr ⟨b,hb,by rw[e];rfl⟩
theorem asd(a:p∈ae1 fp h):p.1∈fp/\h.get? p.1=some p.2:=by
 obtain⟨b,hb,e⟩:=List.mem_filterMap.mp a
 cases q:h.get? b with
 |none=>rw[q] at e;cases e
 | some o =>
  rw[q] at e
  have c:(b,o)=p:=aC6 e
  subst c
  exact⟨hb,q⟩
theorem Inv.pinned(I:Inv X pins σ H s)(hf:∀ b∈fp,FpOk X pins H b)(h:∀ b∈fp,∃ o,s.heap.get? b=some o/\∀ v,o.data ≠ .cell v):Inv X (pins++ae1 fp s.heap) σ H s :=
 I.pins_of λp f=>(aA7.mp f).elim (λz=>I.pin p (aB3 _ z)) λz=>by
  obtain⟨hb,e⟩:=asd z
  obtain⟨g,f1,c,_⟩:=hf p.1 hb
  obtain⟨o,a,d⟩:=h p.1 hb
  rw[e] at a;cases a
  exact⟨e,g,f1,c,d⟩
theorem Inv.unpinned(I:Inv X (pins++pl) σ H s):Inv X pins σ H s:=I.pins_of λp a=>I.pin p (aB3 _ (aC7 _ a))
theorem aei{iter:Expr}{body:List Stmt}{R:TI}{g:TG}{tb:TS}{pos:Pos}(G:PassesOwn (model X.prog X.w) X.A X.env X.xe)(Z:X.calm=true)(hi:PI X tg iter R)(hg:PG X tg g)(hb:PSs X body tb)
  (hs:∀ x,foldedSetIterable iter X.env x=pure x:=by intro _;rfl):PS X (.For tg iter body [] pos) (tFor R g tb):=by
 intro pins s σ H D I h
 refine wpAny_For (thn (hi pins s σ H _ I h) λv s1 h1=>thn h1 λa1 s2 h2=>?_) hs
 obtain⟨it,fp,tn,J,H2,e,I2,T,K,S,W,⟨m0,w0⟩,E⟩:=h2
 subst e
 -- what stays true of the iterator's objects through the loop
 have p:∀{H':Hp},(∀ b∈fp,H' b=none)->∀ b∈fp,FpOk X pins H' b:=λhn b hb=>⟨hn b hb,(S b hb).2⟩
 refine codeAny_forLoop_any (λn s'=>∃ i j H',Inv X pins j H' s'/\tn i s'.heap/\(∀ b∈fp,H' b=none)/\W i n j H') ?_ m0 ⟨0,σ,H2,I2,K,λb hb=>(S b hb).1,w0⟩
 rintro n U ⟨i,t,H3,Q,F,C,w3⟩
 rcases E i n t H3 w3 with ⟨stop,qn⟩|⟨go,N,hN,step⟩
 ·refine wpAny_passesOwn G (thn (T.done X rfl rfl rfl Z i pins U t H3 X.xe Q (p C) F stop) λr s4 ⟨hr,I4⟩=>?_)
  subst hr
  exact wpAny_execs_nil ⟨t,H3,I4,qn⟩
 ·refine wpAny_passesOwn G (thn (T.item X rfl rfl rfl Z i pins U t H3 X.xe Q (p C) F go) λr s4 ⟨u,hr,h4⟩=>?_)
  subst hr
  refine wpAny_passesOwn G (thn h4 λ_ s5 ⟨x,Y,I5,r5,y5,z,M⟩=>?_)
  have P:=I5.pinned (p M) (T.obj _ _ z)
  refine wpAny_passesOwn G (thn (hg _ s5 t Y x u _ P r5 (step x Y y5)) λ_ s6 ⟨O,H6,I6,q6⟩=>?_)
  refine wpAny_passesOwn G (thn (hb _ s6 O H6 _ I6 q6) λf L y=>?_)
  have l:∀{a:St}{c:Hp},Inv X (pins++ae1 fp s5.heap) a c L->N a c->∃ m,m<n/\∃ i j H',Inv X pins j H' L/\tn i L.heap/\(∀ b∈fp,H' b=none)/\W i m j H':=λ{a c} q B=>by
   obtain⟨m',hm,w7⟩:=hN a c B
   refine⟨m',hm,i+1,a,c,q.unpinned,T.keep _ _ _ z λb hb o e=>(q.pin (b,o) (aB3 _ (aB3 _ (ab9 hb e)))).1,λb hb=>?_,w7⟩
   obtain⟨o,e,d⟩:=T.obj _ _ z b hb
   exact(q.pin (b,o) (aB3 _ (aB3 _ (ab9 hb e)))).2.1
  cases f with
  |next=>obtain⟨a,c,q,B⟩:=y;exact l q B
  |cont=>obtain⟨a,c,q,B⟩:=y;exact l q B
  |brk=>obtain⟨a,c,q,y⟩:=y;exact⟨a,c,q.unpinned,y⟩
  |ret v=>obtain⟨x7,a,c,q,r7,y⟩:=y;exact⟨x7,a,c,q.unpinned,r7,y⟩
end
abbrev R2:=V->V->Hp->VK->Prop
def OpR(X:Cx)(f:Value->Value->Sem Value)(r:R2):Prop :=
 ∀(pins:List (Addr × Obj))(s:Shared)(σ:St)(H:Hp)(x y:V)(v u:Value)(Q:VK),Inv X pins σ H s->RelV x v->RelV y u->r x y H Q ->
  wpAny (model X.prog X.w) X.A (f v u) (EP X pins σ Q) X.xe s
def UnR(X:Cx)(f:Value->Sem Value)(r:V->Hp->VK->Prop):Prop :=
 ∀(pins:List (Addr × Obj))(s:Shared)(σ:St)(H:Hp)(x:V)(v:Value)(Q:VK),Inv X pins σ H s->RelV x v->r x H Q ->
  wpAny (model X.prog X.w) X.A (f v) (EP X pins σ Q) X.xe s
def abi(X:Cx)(f:Value)(r:List V->Hp->VK->Prop):Prop :=
 ∀(pins:List (Addr × Obj))(s:Shared)(σ:St)(H:Hp)(xs:List V)(us:List Value)(Q:VK),Inv X pins σ H s->Vals xs us->r xs H Q ->
  wpAny (model X.prog X.w) X.A (call f us) (EP X pins σ Q) X.xe s
def TruR(X:Cx)(r:V->Hp->(Bool->Hp->Prop)->Prop):Prop :=
 ∀(pins:List (Addr × Obj))(s:Shared)(σ:St)(H:Hp)(x:V)(v:Value)(Q:Bool->Hp->Prop),Inv X pins σ H s->RelV x v->r x H Q ->
  wpAny (model X.prog X.w) X.A (truthy v) (TP X pins σ Q) X.xe s
def tOp(r:R2)(ta tb:TE):TE:=λσ H Q=>ta σ H λx H1=>tb σ H1 λy H2=>r x y H2 Q
def tUn(r:V->Hp->VK->Prop)(ta:TE):TE:=λσ H Q=>ta σ H λx H1=>r x H1 Q
def rI(C:Int->Int->Prop)(g:Int->Int->V):R2:=λx y H Q=>∃ i j,x=.int i/\y=.int j/\C i j/\Q (g i j) H
def rI0(g:Int->Int->V):R2:=λx y H Q=>∃ i j,x=.int i/\y=.int j/\Q (g i j) H
def rU(g:Int->V):V->Hp->VK->Prop:=λx H Q=>∃ i,x=.int i/\Q (g i) H
section
variable{X:Cx}{a b c:Expr}{ta tb tc:TE}{pos:Pos}
theorem binT(ha:PE X a ta)(hb:PE X b tb){pins:List (Addr × Obj)}{s:Shared}{σ:St}{H:Hp}{R:V->V->Hp->Prop}(I:Inv X pins σ H s)
  (h:ta σ H λx g=>tb σ g λy H2=>R x y H2) {Q:Value->Shared->Prop} {f:Value->Value->Sem Value}
  (hf:∀ v u s2 x y H2,Inv X pins σ H2 s2->RelV x v->RelV y u->R x y H2->wpAny (model X.prog X.w) X.A (f v u) Q X.xe s2) :
  wpAny (model X.prog X.w) X.A (eval a X.env) (λv d=>wpAny (model X.prog X.w) X.A (eval b X.env) (λu c=>wpAny (model X.prog X.w) X.A (f v u) Q X.xe c) X.xe d) X.xe s:=by
 refine thn (ha pins s σ H _ I h) λv s1 ⟨x,g,o,l,i⟩=>?_
 refine thn (hb pins s1 σ g _ o i) λu s2 ⟨y,H2,p,n,j⟩=>?_
 exact hf v u s2 x y H2 p l n j
theorem aax(f:OpR X (binaryOp op) r)(ha:PE X a ta)(hb:PE X b tb):PE X (.BinOp a op b pos) (tOp r ta tb):=by
 intro pins s σ H Q I h
 exact wpAny_BinOp (binT ha hb I h λv u s2 x y H2 g c d q=>f pins s2 σ H2 x y v u Q g c d q)
theorem aqx{op:UnaryOp}{r:V->Hp->VK->Prop}(c:UnR X (unaryOp op) r)(ha:PE X a ta):PE X (.UnaryOp op a pos) (tUn r ta):=by
 intro pins s σ H Q I h
 exact UnaryOp_ (thn (ha pins s σ H _ I h) λv s1 ⟨x,d,g,f,b⟩=>c pins s1 σ d x v Q g f b)
theorem opI{f:Value->Value->Sem Value}{C:Int->Int->Prop}{g:Int->Int->Int}
  (a:∀(i j:Int)(t u:Tok)(s:Shared)(Q:Value->Shared->Prop)(E:Value->Shared->Prop),C i j->Q (.int (g i j) s.toks) { s with toks:=s.toks+1 }->wpAny (model X.prog X.w) X.A (f (.int i t) (.int j u)) Q E s) :
  OpR X f (rI C λi j=>.int (g i j)):=by
 intro pins s σ H x y v u Q I b c h
 obtain⟨i,j,rfl,rfl,d,q⟩:=h
 obtain⟨t,rfl⟩:=b
 obtain⟨t',rfl⟩:=c
 exact a i j t t' s _ _ d ⟨.int (g i j),H,I.tok _,⟨_,rfl⟩,q⟩
theorem opI0{f:Value->Value->Sem Value}{g:Int->Int->Int}
  (a:∀(i j:Int)(t u:Tok)(s:Shared)(Q:Value->Shared->Prop)(E:Value->Shared->Prop),Q (.int (g i j) s.toks) { s with toks:=s.toks+1 }->wpAny (model X.prog X.w) X.A (f (.int i t) (.int j u)) Q E s) :
  OpR X f (rI0 λi j=>.int (g i j)):=by
 intro pins s σ H x y v u Q I b c h
 obtain⟨i,j,rfl,rfl,q⟩:=h
 obtain⟨t,rfl⟩:=b
 obtain⟨t',rfl⟩:=c
 exact a i j t t' s _ _ ⟨.int (g i j),H,I.tok _,⟨_,rfl⟩,q⟩
theorem opB0{f:Value->Value->Sem Value}{g:Int->Int->Bool}
  (a:∀(i j:Int)(t u:Tok)(s:Shared)(Q:Value->Shared->Prop)(E:Value->Shared->Prop),Q (.bool (g i j)) s->wpAny (model X.prog X.w) X.A (f (.int i t) (.int j u)) Q E s) :
  OpR X f (rI0 λi j=>.bl (g i j)):=by
 intro pins s σ H x y v u Q I b c h
 obtain⟨i,j,rfl,rfl,q⟩:=h
 obtain⟨t,rfl⟩:=b
 obtain⟨t',rfl⟩:=c
 exact a i j t t' s _ _ ⟨.bl (g i j),H,I,rfl,q⟩
def CDiv(i j:Int):Prop:=0<j/\j<1073741824
def CPow(i j:Int):Prop:=0<=j/\j<=1000000/\i.natAbs<2 ^ 64
def CMul(i j:Int):Prop:=(-(2 ^ 64)<i/\i<2 ^ 64)\/(-(2 ^ 64)<j/\j<2 ^ 64)
theorem CMul.ok(h:CMul i j):IntMulOk i j:=by
 rcases h with ⟨a,b⟩|⟨a,b⟩
 ·exact .of_left (intBits_le_64 a b)
 ·exact .of_right (intBits_le_64 a b)
theorem abu:OpR X (binaryOp .Add) (rI0 λi j=>.int (i+j)):=opI0 λ_ _ _ _ _ _ _ q=>add_int q
theorem adn:OpR X (binaryOp .Sub) (rI0 λi j=>.int (i-j)):=opI0 λ_ _ _ _ _ _ _ q=>sub_int q
theorem ad2:OpR X (binaryOp .Mult) (rI CMul λi j=>.int (i * j)):=opI λ_ _ _ _ _ _ _ a q=>mul_int q a.ok
theorem apc:OpR X (binaryOp .FloorDiv) (rI CDiv λi j=>.int (i / j)):=opI λi j _ _ _ _ _ a q=>by
 have b:(0:Int)<j:=a.1
 have c:j<1073741824:=a.2
 exact floordiv_int (by lia) (by rw[Int.fdiv_eq_ediv_of_nonneg i (by lia)];exact q) (.inl (PyProof.noPylong_small (by lia)))
theorem afw:OpR X (binaryOp .Mod) (rI (λ_ j=>0<j) λi j=>.int (i % j)):=opI λi j _ _ _ _ _ a q=>by
 have b:(0:Int)<j:=a
 exact mod_int' (by lia) (by rw[Int.fmod_eq_emod_of_nonneg i (by lia)];exact q)
theorem a0s:OpR X (binaryOp .Pow) (rI CPow λi j=>.int (i ^ j.toNat)):=opI λ_ _ _ _ _ _ _ a q=>pow_int_small a.1 a.2.1 a.2.2 q
theorem unI{f:Value->Sem Value}{g:Int->Int}
  (a:∀(i:Int)(t:Tok)(s:Shared)(Q:Value->Shared->Prop)(E:Value->Shared->Prop),Q (.int (g i) s.toks) { s with toks:=s.toks+1 }->wpAny (model X.prog X.w) X.A (f (.int i t)) Q E s) :
  UnR X f (rU λi=>.int (g i)):=by
 intro pins s σ H x v Q I b h
 obtain⟨i,rfl,q⟩:=h
 obtain⟨t,rfl⟩:=b
 exact a i t s _ _ ⟨.int (g i),H,I.tok _,⟨_,rfl⟩,q⟩
theorem ame:UnR X (unaryOp .USub) (rU λi=>.int (-i)):=unI λ_ _ _ _ _ q=>neg_int q
end
def scal:V->V->Bool
 | .non,.non=>true | .non,.int _=>true | .int _,.non=>true | .non,.bl _=>true | .bl _,.non=>true | .non,.str _=>true | .str _,.non=>true
 | .int _,.int _=>true | .bl _,.bl _=>true | .str _,.str _=>true | .byt _,.byt _=>true
 | .int _,.str _=>true | .str _,.int _=>true | .bl _,.str _=>true | .str _,.bl _=>true
 |_,_=>false
def rEq:R2:=λx y H Q=>scal x y=true/\Q (.bl (decide (x=y))) H
def rNe:R2:=λx y H Q=>scal x y=true/\Q (.bl (!decide (x=y))) H
theorem ahi:decide (V.int i=V.int j)=(i == j):=by
 rw[aH8]
 simp
theorem amf:decide (V.bl i=V.bl j)=(i == j):=by
 rw[aH8]
 simp
theorem apd:decide (V.str i=V.str j)=(i == j):=by
 rw[aH8]
 simp
theorem ape:decide (V.byt i=V.byt j)=(i.toList == j.toList):=by
 rw[aH8]
 cases i
 cases j
 simp
section
variable{X:Cx}{a b c:Expr}{ta tb tc:TE}{pos:Pos}
theorem aa2{pins:List (Addr × Obj)}{σ:St}{H:Hp}{s:Shared}{Q:VK}{k a:Bool}(I:Inv X pins σ H s)(q:Q (.bl k) H)(e:k=a):EP X pins σ Q (.bool a) s:=by
 subst e
 exact⟨.bl k,H,I,rfl,q⟩
theorem afb:OpR X (compareOp .Eq) rEq:=by
 intro pins s σ H x y v u Q I b a h
 obtain⟨hs,q⟩:=h
 cases x with
 | non =>
  cases b
  cases y with
  |non=>cases a;exact PySem.EqNone.eq_none_none (aa2 I q (by simp))
  |bl j=>cases a;exact PySem.EqNone.eq_none_bool (aa2 I q (by simp))
  |int j=>obtain⟨t',rfl⟩:=a;exact PySem.EqNone.eq_none_int (aa2 I q (by simp))
  |str j=>obtain⟨t',rfl⟩:=a;exact PySem.EqNone.eq_none_str (aa2 I q (by simp))
  |_=>exact absurd (show false=true from hs) aB0
 | bl i =>
  cases b
  cases y with
  |non=>cases a;exact PySem.EqNone.eq_bool_none (aa2 I q (by simp))
  |bl j=>cases a;exact eq_bool (aa2 I q amf)
  |str j=>obtain⟨t',rfl⟩:=a;exact PySem.EqMixed.eq_bool_str (aa2 I q (by simp))
  |_=>exact absurd (show false=true from hs) aB0
 | int i =>
  obtain⟨t,rfl⟩:=b
  cases y with
  |non=>cases a;exact PySem.EqNone.eq_int_none (aa2 I q (by simp))
  |int j=>obtain⟨t',rfl⟩:=a;exact eq_int (aa2 I q ahi)
  |str j=>obtain⟨t',rfl⟩:=a;exact PySem.EqMixed.eq_int_str (aa2 I q (by simp))
  |_=>exact absurd (show false=true from hs) aB0
 | str i =>
  obtain⟨t,rfl⟩:=b
  cases y with
  |non=>cases a;exact PySem.EqNone.eq_str_none (aa2 I q (by simp))
  |bl j=>cases a;exact PySem.EqMixed.eq_str_bool (aa2 I q (by simp))
  |int j=>obtain⟨t',rfl⟩:=a;exact PySem.EqMixed.eq_str_int (aa2 I q (by simp))
  |str j=>obtain⟨t',rfl⟩:=a;exact eq_str (aa2 I q apd)
  |_=>exact absurd (show false=true from hs) aB0
 | byt i =>
  obtain⟨t,rfl⟩:=b
  cases y with
  |byt j=>obtain⟨t',rfl⟩:=a;exact PySem.W.eq_bytes (aa2 I q ape)
  |_=>exact absurd (show false=true from hs) aB0
 |_=>cases y <;> exact absurd (show false=true from hs) aB0
theorem ais:OpR X (compareOp .NotEq) rNe:=by
 intro pins s σ H x y v u Q I b a h
 obtain⟨hs,q⟩:=h
 cases x with
 | non =>
  cases b
  cases y with
  |non=>cases a;exact PySem.EqNone.ne_none_none (aa2 I q (by simp))
  |bl j=>cases a;exact PySem.EqNone.ne_none_bool (aa2 I q (by simp))
  |int j=>obtain⟨t',rfl⟩:=a;exact PySem.EqNone.ne_none_int (aa2 I q (by simp))
  |str j=>obtain⟨t',rfl⟩:=a;exact PySem.EqNone.ne_none_str (aa2 I q (by simp))
  |_=>exact absurd (show false=true from hs) aB0
 | bl i =>
  cases b
  cases y with
  |non=>cases a;exact PySem.EqNone.ne_bool_none (aa2 I q (by simp))
  |bl j=>cases a;exact ne_bool (aa2 I q (congrArg not amf))
  |str j=>obtain⟨t',rfl⟩:=a;exact PySem.EqMixed.ne_bool_str (aa2 I q (by simp))
  |_=>exact absurd (show false=true from hs) aB0
 | int i =>
  obtain⟨t,rfl⟩:=b
  cases y with
  |non=>cases a;exact PySem.EqNone.ne_int_none (aa2 I q (by simp))
  |int j=>obtain⟨t',rfl⟩:=a;exact ne_int (aa2 I q (congrArg not ahi))
  |str j=>obtain⟨t',rfl⟩:=a;exact PySem.EqMixed.ne_int_str (aa2 I q (by simp))
  |_=>exact absurd (show false=true from hs) aB0
 | str i =>
  obtain⟨t,rfl⟩:=b
  cases y with
  |non=>cases a;exact PySem.EqNone.ne_str_none (aa2 I q (by simp))
  |bl j=>cases a;exact PySem.EqMixed.ne_str_bool (aa2 I q (by simp))
  |int j=>obtain⟨t',rfl⟩:=a;exact PySem.EqMixed.ne_str_int (aa2 I q (by simp))
  |str j=>obtain⟨t',rfl⟩:=a;exact ne_str (aa2 I q (congrArg not apd))
  |_=>exact absurd (show false=true from hs) aB0
 | byt i =>
  obtain⟨t,rfl⟩:=b
  cases y with
  |byt j=>obtain⟨t',rfl⟩:=a;exact PySem.W.ne_bytes (aa2 I q (congrArg not ape))
  |_=>exact absurd (show false=true from hs) aB0
 |_=>cases y <;> exact absurd (show false=true from hs) aB0
theorem alz:OpR X (compareOp .Lt) (rI0 λi j=>.bl (decide (i<j))):=opB0 λ_ _ _ _ _ _ _ q=>lt_int q
theorem ait:OpR X (compareOp .LtE) (rI0 λi j=>.bl (decide (i<=j))):=opB0 λ_ _ _ _ _ _ _ q=>le_int q
theorem al0:OpR X (compareOp .Gt) (rI0 λi j=>.bl (decide (j<i))):=opB0 λ_ _ _ _ _ _ _ q=>gt_int q
theorem aw5:OpR X (compareOp .GtE) (rI0 λi j=>.bl (decide (j<=i))):=opB0 λ_ _ _ _ _ _ _ q=>ge_int q
theorem a0t:OpR X (compareOp .Is) (λx y H Q=>y=.non/\Q (.bl (decide (x=.non))) H):=by
 intro pins s σ H x y v u Q I a b h
 obtain⟨rfl,q⟩:=h
 cases b
 refine is_none_gen (aa2 I q ?_)
 cases x <;> first
  |(cases a;rfl)
  |(obtain⟨t,rfl⟩:=a;rfl)
theorem aay(b:Expr)(h:op ≠ .In:=by decide)(d:op ≠ .NotIn:=by decide):behindInMarks op b=false:=by
 have a:(op == CmpOp.In)=false:=by cases op <;> first|rfl|exact absurd rfl h
 have c:(op == CmpOp.NotIn)=false:=by cases op <;> first|rfl|exact absurd rfl d
 cases b <;> simp[behindInMarks,a,c]
theorem acm(f:OpR X (compareOp op) r)(ha:PE X a ta)(hb:PE X b tb)(hm:behindInMarks op b=false):PE X (.Compare a [op] [b] pos) (tOp r ta tb):=by
 intro pins s σ H Q I h
 exact wpAny_Compare1 (binT ha hb I h λv u s2 x y H2 g c d q=>f pins s2 σ H2 x y v u Q g c d q) hm
def aw6(t:TE):TT:=λσ H Q=>t σ H λx H'=>∃ k,x=.bl k/\Q k H'
theorem aav{op:CmpOp}{r:R2}(p:OpR X (compareOp op) r)(ha:PE X a ta)(hb:PE X b tb)(hm:behindInMarks op b=false):PT X (.Compare a [op] [b] pos) (aw6 (tOp r ta tb)):=by
 intro pins s σ H Q I h
 refine wpAny_isTrue_Compare1 (thn (ha pins s σ H _ I h) λv s1 ⟨x,t,n,j,d⟩=>thn (hb pins s1 σ t _ n d) λu s2 ⟨y,H2,q,l,i⟩ =>
  thn (p pins s2 σ H2 x y v u _ q j l i) λc w ⟨z,H3,g,o,k,e,f⟩=>?_) hm
 subst e
 cases o
 exact aK6 ⟨H3,g,f⟩
def amg(r r':R2)(ta tb tc:TE):TE:=λσ H Q=>ta σ H λx H1=>tb σ H1 λy H2=>r x y H2 λz H3=>∃ k,z=.bl k /\
 (if k=true then tc σ H3 λw' H4=>r' y w' H4 Q else Q (.bl false) H3)
theorem auq{op f:CmpOp}{r n:R2}(F:OpR X (compareOp op) r)(g:OpR X (compareOp f) n)(ha:PE X a ta)(hb:PE X b tb)(M:PE X c tc)
  (hm:lastMarks [op,f] [b,c]=false:=by with_unfolding_all rfl):PE X (.Compare a [op,f] [b,c] pos) (amg r n ta tb tc):=by
 intro pins s σ H Q I h
 refine Compare_chain (thn (ha pins s σ H _ I h) λv s1 ⟨x,K,D,B,o⟩=>chain_link (thn (hb pins s1 σ K _ D o) λu s2 ⟨y,H2,J,l,w⟩ =>
  thn (F pins s2 σ H2 x y v u _ J B l w) λd q ⟨z,H3,j,E,k,e,i⟩=>?_)) hm
 subst e
 cases E
 refine aK6 ?_
 cases k with
 |false=>exact ite_ff ⟨.bl false,H3,j,rfl,i⟩
 |true=>exact ite_tt (chain_last (thn (M pins q σ H3 _ j i) λL A ⟨t,C,G,p,N⟩=>g pins A σ C y t u L Q G l p N))
def TruV(K:Frag)(x:V)(H:Hp)(k:Bool):Prop :=
 match x with
 | .non=>k=false
 | .bl b=>k=b
 | .int i=>k=(i != 0)
 | .str y=>y.length<=sizeLine/\k=((y.length:Int) != 0)
 | .byt y=>y.size<=sizeLine/\k=((y.size:Int) != 0)
 | .ref p=>(∃ xs,SqL K H p xs/\k = !xs.isEmpty)\/(∃ xs,SqT K H p xs/\k = !xs.isEmpty)\/∃ kvs,H p=some (.dK kvs)/\k = !kvs.isEmpty
 |_=>False
theorem aqy{κ:Type}{kvs:List (κ × V)}{vs:List (κ × Value)}(r:KV kvs vs):(!vs.isEmpty) = !kvs.isEmpty:=by
 cases r <;> rfl
theorem aiu{xs:List V}{its:List Value}(r:Vals xs its):(!its.toArray.isEmpty) = !xs.isEmpty:=by
 cases r <;> simp
theorem agt:(sizeLine:Nat)<2 ^ 63:=by rw[sizeLine_eq];decide
theorem a0u:TruR X (λx H Q=>∃ k,TruV X.K x H k/\Q k H):=by
 intro pins s σ H x v Q I d h
 obtain⟨k,e,q⟩:=h
 have l:=agt
 have hs:sizeLine=16777216:=sizeLine_eq
 cases x with
 | non =>
  cases d
  have a:k=false:=e
  subst a
  exact truthy_none ⟨H,I,q⟩
 | bl b =>
  cases d
  have a:k=b:=e
  subst a
  exact aK6 ⟨H,I,q⟩
 | int i =>
  obtain⟨t,rfl⟩:=d
  have a:k=(i != 0):=e
  subst a
  exact PySem.P.truthy_int ⟨H,I,q⟩
 | str y =>
  obtain⟨t,rfl⟩:=d
  obtain⟨g,a⟩:y.length<=sizeLine/\k=((y.length:Int) != 0):=e
  subst a
  exact PySem.P.truthy_str (by lia) ⟨H,I.tok _,q⟩
 | byt y =>
  obtain⟨t,rfl⟩:=d
  obtain⟨g,a⟩:y.size<=sizeLine/\k=((y.size:Int) != 0):=e
  subst a
  exact PySem.W.truthy_bytes (by lia) ⟨H,I.tok _,q⟩
 | ref p =>
  cases d
  have a:(∃ xs,SqL X.K H p xs/\k = !xs.isEmpty)\/(∃ xs,SqT X.K H p xs/\k = !xs.isEmpty)\/∃ kvs,H p=some (.dK kvs)/\k = !kvs.isEmpty:=e
  rcases a with ⟨xs,f,a⟩|⟨xs,f,a⟩|⟨kvs,f,a⟩
  ·subst a
   obtain⟨its,r,pl,hz⟩:=I.list f
   have c:=r.length
   exact wpAny_truthy_list pl.isList (by simp only[aB2];lia) ⟨H,I.tok _,by rw[aiu r];exact q⟩
  ·subst a
   obtain⟨its,r,pl,hz⟩:=I.tuple f
   have c:=r.length
   exact truthy_tuple pl (by simp only[aB2];lia) ⟨H,I.tok _,by rw[aiu r];exact q⟩
  ·subst a
   obtain⟨hz,j,vs,r,m⟩:kvs.length<=sizeLine/\(p == sysModules)=false/\∃ vs,KV kvs vs/\s.heap.DictOf (abg X.prog X.w) p vs:=I.hok p _ f
   have c:kvs.length=vs.length:=Paired.length r
   exact wpAny_truthy_dict j m (by lia) ⟨H,I.tok _,by rw[aqy r];exact q⟩
 |_=>exact(show False from e).elim
theorem aur(ha:PE X a ta)(c:∀ whole,isTrue a X.env whole=(do let v ← whole;standAt a.pos;holding [v] (truthy v))) :
  PT X a (λσ H Q=>ta σ H λx H'=>∃ k,TruV X.K x H' k/\Q k H'):=by
 intro pins s σ H Q I h
 exact isTrue_plain (thn (ha pins s σ H _ I h) λv s1 ⟨x,g,f,d,b⟩=>a0u pins s1 σ g x v Q f d b) (c _)
theorem adi(r:Vals [x] us):∃ u,us=[u]/\RelV x u:=by
 cases r with
 |cons r1 r2=>cases r2;exact⟨_,rfl,r1⟩
theorem al1(r:Vals [x,y] us):∃ u a,us=[u,a]/\RelV x u/\RelV y a:=by
 cases r with
 | cons r1 r2 =>
  cases r2 with
  |cons r3 r4=>cases r4;exact⟨_,_,rfl,r1,r3⟩
theorem ase(a:X.calm=true):abi X (.builtin "max") (λxs H Q=>∃ i j,xs=[.int i,.int j]/\Q (.int (if j > i then j else i)) H):=by
 intro pins s σ H xs us Q I r h
 obtain⟨i,j,rfl,q⟩:=h
 obtain⟨u,c,rfl,⟨t,rfl⟩,⟨t',rfl⟩⟩:=al1 r
 refine max_two_ints (I.ok.hd a) λh' b k=>⟨_,H,I.kept k,?_,q⟩
 by_cases hj:j > i
 ·rw[aF5 hj,aF5 hj];exact⟨_,rfl⟩
 ·rw[aF6 hj,aF6 hj];exact⟨_,rfl⟩
theorem asf(a:X.calm=true):abi X (.builtin "min") (λxs H Q=>∃ i j,xs=[.int i,.int j]/\Q (.int (if j<i then j else i)) H):=by
 intro pins s σ H xs us Q I r h
 obtain⟨i,j,rfl,q⟩:=h
 obtain⟨u,c,rfl,⟨t,rfl⟩,⟨t',rfl⟩⟩:=al1 r
 refine min_two_ints (I.ok.hd a) λh' b k=>⟨_,H,I.kept k,?_,q⟩
 by_cases hj:j<i
 ·rw[aF5 hj,aF5 hj];exact⟨_,rfl⟩
 ·rw[aF6 hj,aF6 hj];exact⟨_,rfl⟩
end
structure ObjM(h:Heap)(x dx C:Addr)(mA:Str->Option Value):Prop where
 obj:h.get? x=some (PySem.W.instObj C dx)
 ns:h.Ns1 dx mA
 ne:dx ≠ x
theorem asg{h:Heap}{dx:Addr}{mA:Str->Option Value}(n:h.Ns1 dx mA):∃ od,h.get? dx=some od/\∀ name,PySem.W.lookIn name od=some (mA name):=by
 obtain⟨o,es,ep,f,hd,d,_,hm⟩:=n
 refine⟨o,f,λname=>?_⟩
 have e:=hm name
 unfold nsFind findBy at e
 rw[← Array.find?_toList] at e
 unfold PySem.W.lookIn
 rw[hd]
 dsimp only
 split
 ·rename_i y q
  rw[q] at e
  exact congrArg some e
 ·rename_i q
  rw[q] at e
  have a:es.toList.any (·.refKey)=false:=by
   rw[List.any_eq_false]
   intro y c
   obtain⟨z,t,b⟩:=d y (Array.mem_toList_iff.mp c)
   simp[DictEntry.refKey,b]
  have g:¬ es.toList.any (·.refKey)=true:=by rw[a];exact aB0
  rw[aF6 g]
  exact congrArg some e
theorem ObjM.look(I:ObjM h x dx C mA):∃ od,PySem.W.InstAt h x (PySem.W.instObj C dx) C (some od)/\∀ name,PySem.W.lookIn name od=some (mA name) :=
 let ⟨od,a,b⟩:=asg I.ns
 ⟨od,⟨I.obj,rfl,rfl,a⟩,b⟩
section
end
def putF(f:Str)(v:V):List (Str × V)->List (Str × V)
 |[]=>[(f,v)]
 |(g,x)::r=>if g=f then (g,v)::r else (g,x)::putF f v r
section
theorem ins_get(hok:HOk P w H h)(e:H a=some (.ins C dx fs)):∃ mA,ObjM h a dx C mA/\(∀ f,RelO (fs.lookup f) (mA f))/\PySem.Within mA (fs.map (·.1))/\fs.length<=1000/\H dx=some (.own a):=by
 obtain⟨d,z,ne,b,mA,n,r,q⟩:=(show ObjOk P w H h a (.ins C dx fs) from hok a _ e)
 exact⟨mA,⟨b,n,ne⟩,r,q,z,d⟩
end
structure Cls(K:Frag)(C:Addr):Prop where
 pg:PySem.W.plainGet K C Str.empty=true
 hd:PySem.W.hasDictIn K C=true
 po:PySem.W.plainOver K C=true
 sa:PySem.W.findIn K (.ref C) "__setattr__" = some (some (.builtin "object.__setattr__"))
theorem Cls.get{K:Frag}{C:Addr}(c:Cls K C)(f:Str):PySem.W.plainGet K C f=true:=c.pg
section
end
section
end
section
inductive TyOf(K:Frag)(H:Hp):V->Value->Prop where
 |non:TyOf K H .non (.type "NoneType")
 |bl (x:Bool):TyOf K H (.bl x) (.type "bool")
 |int (i:Int):TyOf K H (.int i) (.type "int")
 |str (x:Str):TyOf K H (.str x) (.type "str")
 |flt (x:UInt64):TyOf K H (.flt x) (.type "float")
 |lst {a:Addr} {xs:List V} (e:H a=some (.lst xs)):TyOf K H (.ref a) (.type "list")
 |frz {a:Addr} {o:Obj} {xs:List V} (e:H a=some (.frz o (.lst xs))):TyOf K H (.ref a) (.type "list")
 |tup {a:Addr} {xs:List V} (e:H a=some (.tup xs)):TyOf K H (.ref a) (.type "tuple")
 |dK {a:Addr} {kvs:List (Key × V)} (e:H a=some (.dK kvs)):TyOf K H (.ref a) (.type "dict")
 |dT {a:Addr} {kvs:List (List Key × V)} (e:H a=some (.dT kvs)):TyOf K H (.ref a) (.type "dict")
 | ins {a C dx:Addr} {fs:List (Str × V)} (e:H a=some (.ins C dx fs)) (cl:Cls K C) (ha:PySem.W.findIn K (.ref C) "__class__" = some (some (.builtin "object.__class__")))
   (hn:PySem.W.specialIn K (.builtin "object.__class__") "__get__" = some (some (.builtin "getset_descriptor.__get__"))) (htk:PySem.W.takesIn K (.builtin "object.__class__")=some true)
   (hm:mroIn K C (.type "object")=some true):TyOf K H (.ref a) (.ref C)
theorem ash(I:Inv X pins σ H s)(d:RelV x u)(ty:TyOf X.K H x t)(e:kitOne X.K t c=some b)(h:∀ j,Q (.bool b) { s with toks:=j }) :
  wpAny (model X.prog X.w) A (call (.builtin "isinstance") [u,c]) Q E s:=by
 cases ty with
 |non=>cases (show u=Value.none from d);exact PySem.W.kia_one PySem.W.kitx_none I.kIn True.intro e (λz=>nomatch z) h
 |bl y=>cases (show u=Value.bool y from d);exact PySem.W.kia_one PySem.W.kitx_bool I.kIn True.intro e (λz=>nomatch z) h
 |int i=>obtain⟨t,q⟩:=(show ∃ t,u=Value.int i t from d);cases q;exact PySem.W.kia_one PySem.W.kitx_int I.kIn True.intro e (λz=>nomatch z) h
 |str y=>obtain⟨t,q⟩:=(show ∃ t,u=Value.str y t from d);cases q;exact PySem.W.kia_one PySem.W.kitx_str I.kIn True.intro e (λz=>nomatch z) h
 |flt y=>obtain⟨t,q⟩:=(show ∃ t,u=Value.float y t from d);cases q;exact PySem.W.kia_one PySem.W.kitx_float I.kIn True.intro e (λz=>nomatch z) h
 | @lst a xs ea =>
  cases (show u=Value.ref a from d)
  obtain⟨_,_,n,_,f⟩:=(show ObjOk X.prog X.w H s.heap a (.lst xs) from I.hok a _ ea)
  exact PySem.W.kia_one PySem.W.kitx_list I.kIn ⟨_,f,rfl⟩ e (λz=>nomatch z) h
 | @frz a ob xs ea =>
  cases (show u=Value.ref a from d)
  obtain⟨_,_,_,n,_,f⟩:=(show ObjOk X.prog X.w H s.heap a (.frz ob (.lst xs)) from I.hok a _ ea)
  exact PySem.W.kia_one PySem.W.kitx_list I.kIn ⟨_,f,rfl⟩ e (λz=>nomatch z) h
 | @tup a xs ea =>
  cases (show u=Value.ref a from d)
  obtain⟨_,_,_,p⟩:=(show ObjOk X.prog X.w H s.heap a (.tup xs) from I.hok a _ ea)
  obtain⟨o,f,g,_⟩:=p
  exact PySem.W.kia_one PySem.W.kitx_tuple I.kIn ⟨o,f,g⟩ e (λz=>nomatch z) h
 | @dK a kvs ea =>
  cases (show u=Value.ref a from d)
  obtain⟨_,_,vs,_,p⟩:=(show ObjOk X.prog X.w H s.heap a (.dK kvs) from I.hok a _ ea)
  obtain⟨o,es,ep,f,g,_⟩:=p
  exact PySem.W.kia_one PySem.W.kitx_dict I.kIn ⟨o,f,g.1⟩ e (λz=>nomatch z) h
 | @dT a kvs ea =>
  cases (show u=Value.ref a from d)
  obtain⟨_,_,xs,_,o,es,ep,f,g,_⟩:=(show ObjOk X.prog X.w H s.heap a (.dT kvs) from I.hok a _ ea)
  exact PySem.W.kia_one PySem.W.kitx_dict I.kIn ⟨o,f,g.1⟩ e (λz=>nomatch z) h
 | @ins a C dx fs ea cl ha hn htk hm =>
  cases (show u=Value.ref a from d)
  obtain⟨mA,O,_⟩:=ins_get I.hok ea
  obtain⟨od,J,_⟩:=O.look
  exact PySem.W.kia_one (PySem.W.kitx_own (cl.get _) cl.hd ha hn htk hm) I.kIn J e (λz=>nomatch z) h
end
structure Room(k:Nat)(A:Around):Prop where
 hd:A.handled=none
 dp:A.depth+3 * k+5<recursionLimit
 un:A.units+16 * k+200<cLine
 gd:A.guards=some []
theorem Room.mono(r:Room k A)(h:j<=k):Room j A:=⟨r.hd,by have:=r.dp;lia,by have:=r.un;lia,r.gd⟩
theorem Room.deeper(r:Room (k+1) A)(env:Env):Room k (A.deeper env) :=
 ⟨r.hd,by have:=r.dp;show A.depth+1+3 * k+5<_;lia,by have:=r.un;show A.units+3+16 * k+200<_;lia,r.gd⟩
theorem Room.depth(r:Room k A):A.depth<recursionLimit:=by have:=r.dp;lia
theorem Room.units(r:Room k A):A.units+64<cLine:=by have:=r.un;lia
theorem Room.units0(r:Room k A):A.units<cLine:=by have:=r.un;lia
def tNil:TA:=λ_ H Q=>Q [] H
def abe(ta:TE)(tr:TA):TA:=λσ H Q=>ta σ H λx H1=>tr σ H1 λxs H2=>Q (x::xs) H2
section
variable{X:Cx}{e:Expr}{es:List Expr}{te:TE}{t:TA}{pos:Pos}
theorem aab:PA X [] tNil:=λ_ _ _ _ H Q I h=>Calls.spliced_nil ⟨[],H,I,.nil,h⟩
theorem aaa(ha:PE X e te)(hr:PA X es t)(hs:starEach (e::es) X.env=(false,eval e X.env)::starEach es X.env:=by rfl):PA X (e::es) (abe te t):=by
 intro pos pins s σ H Q I h
 rw[hs]
 show wpAny _ _ (spliced ((false,eval e X.env)::backTo pos (starEach es X.env))) _ _ s
 refine Calls.spliced_cons (thn (ha pins s σ H _ I h) λu s1 ⟨x,i,f,c,a⟩=>?_)
 exact thn (hr pos pins s1 σ i _ f a) λus s2 ⟨xs,H2,g,d,b⟩=>⟨x::xs,H2,g,.cons c d,b⟩
def tTup(t:TA):TE:=λσ H Q=>t σ H λxs H1=>xs.length<=sizeLine/\∀ p,H1 p=none->Q (.ref p) (upd H1 p (.tup xs))
def tLst(t:TA):TE:=λσ H Q=>t σ H λxs H1=>xs.length<=sizeLine/\∀ p,H1 p=none->Q (.ref p) (upd H1 p (.lst xs))
theorem abp{x1}(h:PA X es t):PE X (.Tuple es x1 pos) (tTup t):=by
 intro pins s σ H Q I d
 refine wpAny_Tuple_spliced (thn (h pos pins s σ H _ I d) λus s1 ⟨xs,c,a,r,z,q⟩=>⟨by rw[← r.length];exact z,?_⟩)
 have hf:c s1.heap.objs.size=none:=a.hok.fresh (aA6 _)
 refine⟨.ref s1.heap.objs.size,upd c s1.heap.objs.size (.tup xs),a.laid (t':=s1.toks) (λb u e=>aJ4 _ e) (aA6 _) ?_,rfl,q _ hf⟩
 exact⟨z,us,r,⟨_,aJ6 _ rfl,rfl,_,rfl⟩⟩
theorem abq(h:PA X es t):PE X (.List es pos) (tLst t):=by
 intro pins s σ H Q I d
 refine wpAny_List_spliced (thn (h pos pins s σ H _ I d) λus s1 ⟨xs,c,a,r,z,q⟩=>⟨by rw[← r.length];exact z,?_⟩)
 have hf:c s1.heap.objs.size=none:=a.hok.fresh (aA6 _)
 refine⟨.ref s1.heap.objs.size,upd c s1.heap.objs.size (.lst xs),a.laid (t':=s1.toks) (λb u e=>aJ4 _ e) (aA6 _) ?_,rfl,q _ hf⟩
 exact⟨z,us,0,r,aJ6 _ rfl⟩
end
abbrev Sp:=List V->Hp->VK->XK->Prop
abbrev CXT:=List Env->Hp->Shared->XK->Value->Shared->Prop
structure Env0(P:Program)(w:World)(K:Frag)(mg:Str->Option Value)(base:Heap)(A:Around)(outer:List Env)(s:Shared)(H:Hp):Prop where
 frames:A.frames=some outer
 mod:Mod K mg base
 bs:∀ b o,base.get? b=some o->s.heap.get? b=some o/\H b=none
 bsz:base.objs.size<=s.heap.objs.size
 funs:s.heap.FunFrames base outer
 frf:∀ b∈frs outer,H b=none
 tab:TabsOk K H
 hok:HOk P w H s.heap
 bare:AllBare s.gens
def CE(outer:List Env)(P:Program)(w:World)(H:Hp)(s:Shared)(Q:VK)(u:Value)(s':Shared):Prop :=
 ∃ v H',s'.os=s.os/\AllBare s'.gens/\Un (frs outer) [] H H' s.heap s'.heap/\HOk P w H' s'.heap/\RelV v u/\Q v H'
def CR(CX:CXT)(outer:List Env)(P:Program)(w:World)(H:Hp)(s:Shared)(Q:VK)(E:XK)(r:Result)(s':Shared):Prop :=
 match r with
 | .ok (.ret u)=>CE outer P w H s Q u s'
 | .ok _=>False
 | .error e=>CX outer H s E e s'
structure FnOk(P:Program)(w:World)(K:Frag)(mg:Str->Option Value)(base:Heap)(CX:CXT)(k:Nat)(f:Addr)(fd:FuncData)(ps:List Str)(sp:Sp):Prop where
 len:∀ vs H Q E,sp vs H Q E->vs.length=ps.length
 run:∀(A:Around)(outer:List Env)(s:Shared)(H:Hp)(args:Args)(us:List Value)(vs:List V)(Q:VK)(E:XK),Room k A->Env0 P w K mg base A outer s H->BindsTo s fd args (ps.zip us)->Vals vs us->sp vs H Q E ->
  codeAny (model P w) A (.call (.ref f) args) (CR CX outer P w H s Q E) s
theorem FnOk.imp{P:Program}{w:World}{K:Frag}{mg:Str->Option Value}{base:Heap}{CX:CXT}{k:Nat}{f:Addr}{fd:FuncData}{ps:List Str}{sp a:Sp}(F:FnOk P w K mg base CX k f fd ps sp)
  (h:∀ vs H Q E,a vs H Q E->sp vs H Q E):FnOk P w K mg base CX k f fd ps a :=
 ⟨λvs H Q E q=>F.len vs H Q E (h _ _ _ _ q),λA outer s H args us vs Q E hr b hb c hs=>F.run A outer s H args us vs Q E hr b hb c (h _ _ _ _ hs)⟩
section
theorem Inv.env0(I:Inv X pins σ H s):Env0 X.prog X.w X.K X.mg X.base X.A X.stack s H :=
 ⟨I.ok.frames,I.ok.mod,I.bs,aD0 I.ok.bsz I.sz,I.stack,I.stkFree,I.tab,I.hok,I.bare⟩
theorem Inv.after(I:Inv X pins σ H s)(h:CE X.stack X.prog X.w H s Q u s'):EP X pins σ Q u s':=by
 obtain⟨v,H',os,bare,un,hok,r,q⟩:=h
 obtain⟨hh,g,d,t,os'⟩:=s'
 obtain rfl:os'=s.os:=os
 exact⟨v,H',I.call (h':=hh) (g':=g) (d':=d) (t':=t) (ch:=[]) un hok bare (λb z=>absurd z (by simp)),r,q⟩
end
def ack(sp:Sp)(dvs:List V)(E:XK)(t:TA):TE:=λσ H Q=>t σ H λvs H1=>sp (vs++dvs) H1 Q E
def Binds(K:Frag)(fd:FuncData)(ps:List Str)(ds:List Value):Prop :=
 ∀(s:Shared)(us:List Value),K.In s.heap->(us++ds).length=ps.length->BindsTo s fd ⟨us,[]⟩ (ps.zip (us++ds))
theorem Binds.all{K:Frag}{fd:FuncData}{ps:List Str}(h:∀ us:List Value,us.length=ps.length->bindArgs fd ⟨us,[]⟩=pure (ps.zip us)):Binds K fd ps []:=λs us _ a=>by
 rw[aF0] at a ⊢
 exact .of_eq (h us a)
def amh(CX:CXT)(X:Cx)(E:XK):Prop:=∀(pins:List (Addr × Obj))(σ:St)(H:Hp)(s:Shared)(e:Value)(s':Shared),Inv X pins σ H s->CX X.stack H s E e s'->X.xe e s'
section
variable{X:Cx}{CX:CXT}{k:Nat}{f C:Addr}{fd:FuncData}{ps:List Str}{sp:Sp}{dvs:List V}{ds:List Value}{E:XK}{x m:Str}{p pos apos:Pos}{e o:Expr}{es:List Expr}{ta:TE}{t:TA}
theorem a0v(F:FnOk X.prog X.w X.K X.mg X.base CX k f fd ps sp)(hr:Room k X.A)(hb:Binds X.K fd ps ds)(hd:Vals dvs ds)(d:amh CX X E)
  (I:Inv X pins σ H s) (r:Vals vs us) (h:sp (vs++dvs) H Q E):wpAny (model X.prog X.w) X.A (call (.ref f) us) (EP X pins σ Q) X.xe s:=by
 have b:Vals (vs++dvs) (us++ds):=r.append hd
 have c:(us++ds).length=ps.length:=by rw[← b.length];exact F.len _ _ _ _ h
 refine wpAny_call (aJ7 (F.run X.A X.stack s H ⟨us,[]⟩ (us++ds) (vs++dvs) Q E hr I.env0 (hb s us I.kIn c) b h) λr s' a=>?_)
 cases r with
 |error e=>exact d pins σ H s e s' I a
 | ok fl =>
  cases fl with
  |ret u=>exact I.after a
  |next=>exact False.elim a
  |brk=>exact False.elim a
  |cont=>exact False.elim a
theorem axx(F:FnOk X.prog X.w X.K X.mg X.base CX k f fd ps sp)(hr:Room k X.A)(i:Gl X x)(hm:X.mg x=some (.ref f))(g:keepIn X.K (.ref f)=true)(hb:Binds X.K fd ps ds)(hd:Vals dvs ds)(j:amh CX X E)
  (ha:PA X (e::es) t) (a:(x == ("__debug__" : Str))=false:=by decide) (d:starEach (e::es) X.env=(false,eval e X.env)::starEach es X.env:=by rfl) (b:(backTo pos (starEach es X.env)).any (·.1)=false:=by rfl) :
  PE X (.Call (.Name x p) (e::es) [] pos) (ack sp dvs E t):=by
 intro pins s σ H Q I h
 refine wpAny_Call_Name_kw (apb I i hm ?_ a)
 refine PySem.W.callWith_K (h₀:=X.base) I.ok.mod.kin g (thn (ha pos pins s σ H _ I h) λus s1 ⟨vs,l,c,r,q⟩=>⟨c.kIn,?_⟩) d b
 exact a0v F hr hb hd j c r q
end
def PK(X:Cx)(kws:List Keyword)(t:TA):Prop :=
 ∀(pos:Pos)(pins:List (Addr × Obj))(s:Shared)(σ:St)(H:Hp)(Q:List V->Hp->Prop),Inv X pins σ H s->t σ H Q->wpAny (model X.prog X.w) X.A (evalAll ((backToKw pos (keywordEach kws X.env)).map (·.2))) (AP X pins σ Q) X.xe s
section
variable{X:Cx}{CX:CXT}{k:Nat}{f C:Addr}{fd:FuncData}{ps ks:List Str}{sp:Sp}{E:XK}{x m:Str}{p pos apos kpos:Pos}{e o:Expr}{es:List Expr}{kws:List Keyword}{te ta:TE}{t tk:TA}{nm:Option Str}
theorem a0w:PK X [] tNil:=λ_ _ _ _ H Q I h=>wpAny_evalAll_nil ⟨[],H,I,.nil,h⟩
theorem axy(ha:PE X e te)(hr:PK X kws t):PK X (⟨nm,e,kpos⟩::kws) (abe te t):=by
 intro pos pins s σ H Q I h
 show wpAny _ _ (evalAll ((do let v ← eval e X.env;standAt pos;pure v)::(backToKw pos (keywordEach kws X.env)).map (·.2))) _ _ s
 refine wpAny_evalAll_cons (aJ2 (thn (ha pins s σ H _ I h) λu s1 ⟨x,i,f,c,a⟩=>aJ2 (wpAny_standAt (aJ3 ?_))))
 exact thn (hr pos pins s1 σ i _ f a) λus s2 ⟨xs,H2,g,d,b⟩=>⟨x::xs,H2,g,.cons c d,b⟩
end
structure FnScope(N P:List Str)(sc:Scope):Prop where
 kind:sc.kind=.function
 co:sc.isCoroutine=false
 gen:sc.isGenerator=false
 nd:N.Nodup
 pre:N.take P.length=P
 par:∀ x∈P,sc.names.lookup x=some .local\/sc.names.lookup x=some .cell
 nofree:∀ y∈sc.names,y.2 ≠ .free
theorem akl{kindOf:Str->Option NameKind}{x:Str}:∀{binds:List (Str × Value)}{m:Str->Option Value},(∀ v,(x,v) ∉ binds)->bindL kindOf binds m x=m x
 |[],_,_=>rfl
 | (n,v)::r,m,h=>by
  unfold bindL
  rw[akl λw a=>h w (aB5 _ a)]
  split
  ·have:x ≠ n:=by rintro rfl;exact h v aB8
   simp[this]
  ·rfl
theorem akm{kindOf:Str->Option NameKind}{x:Str}:∀{binds:List (Str × Value)}{m:Str->Option Value},(∀ v,(x,v) ∉ binds)->bindC kindOf binds m x=m x
 |[],_,_=>rfl
 | (n,v)::r,m,h=>by
  unfold bindC
  rw[akm λw a=>h w (aB5 _ a)]
  split
  ·rfl
  ·have:x ≠ n:=by rintro rfl;exact h v aB8
   simp[this]
theorem akn{kindOf:Str->Option NameKind}{x:Str}{v:Value}:∀{P:List Str}{vs:List Value}{i:Nat}{m:Str->Option Value},P.Nodup->P[i]?=some x->vs[i]?=some v->kindOf x=some .local ->
  bindL kindOf (P.zip vs) m x=some v
 |[],_,_,_,_,h,_,_=>by simp at h
 |_::_,[],_,_,_,_,h,_=>by simp at h
 | p::P,w::vs,0,m,nd,h1,h2,hk=>by
  simp at h1 h2;subst h1;subst h2
  show bindL kindOf ((p,w)::P.zip vs) m p=_
  unfold bindL
  rw[akl λv a=>(aI4.mp nd).1 (List.of_mem_zip a).1,aF5 hk]
  simp
 | p::P,w::vs,i+1,m,nd,h1,h2,hk=>by
  show bindL kindOf ((p,w)::P.zip vs) m x=_
  unfold bindL
  exact akn (i:=i) (aI4.mp nd).2 (by simpa using h1) (by simpa using h2) hk
theorem ako{kindOf:Str->Option NameKind}{x:Str}{v:Value}:∀{P:List Str}{vs:List Value}{i:Nat}{m:Str->Option Value},P.Nodup->P[i]?=some x->vs[i]?=some v->kindOf x ≠ some .local ->
  bindC kindOf (P.zip vs) m x=some v
 |[],_,_,_,_,h,_,_=>by simp at h
 |_::_,[],_,_,_,_,h,_=>by simp at h
 | p::P,w::vs,0,m,nd,h1,h2,hk=>by
  simp at h1 h2;subst h1;subst h2
  show bindC kindOf ((p,w)::P.zip vs) m p=_
  unfold bindC
  rw[akm λv a=>(aI4.mp nd).1 (List.of_mem_zip a).1,aF6 hk]
  simp
 | p::P,w::vs,i+1,m,nd,h1,h2,hk=>by
  show bindC kindOf ((p,w)::P.zip vs) m x=_
  unfold bindC
  exact ako (i:=i) (aI4.mp nd).2 (by simpa using h1) (by simpa using h2) hk
def start(N:List Str)(vs:List V):St:=vs.map some++List.replicate (N.length-vs.length) none
def cxOf(CX:CXT)(P:Program)(w:World)(K:Frag)(mg:Str->Option Value)(base:Heap)(N:List Str)(qual:Str)(scope:Scope)(f:Addr)(cd:Value)(A:Around)(outer:List Env)(s:Shared)(H:Hp)(E:XK):Cx where
 prog:=P
 w:=w
 K:=K
 mg:=mg
 base:=base
 A:=A.deeper (envOfC qual scope s.heap.objs.size f cd)
 N:=N
 s₀:=s
 H₀:=H
 env:=envOfC qual scope s.heap.objs.size f cd
 outer:=outer
 stack:=envOfC qual scope s.heap.objs.size f cd::outer
 ex:=[]
 calm:=true
 fn:=λ_=>true
 pn:=[]
 xe:=λe s'=>wpAny (model P w) (A.deeper (envOfC qual scope s.heap.objs.size f cd)) (leaving (envOfC qual scope s.heap.objs.size f cd) e) (λ_ s''=>CX outer H s E e s'') (λe' s''=>CX outer H s E e' s'') s'
theorem ami{sc:Scope}{n:Nat}{x:Str}(h:sc.names.lookup x=some .cell):∃ c,(cellsFrom n sc.names []).lookup x=some c:=by
 have q:=PySem.W.cellsFrom_some sc.names n [] (.inl h)
 exact Option.isSome_iff_exists.mp q
theorem asi{CX:CXT}{P:Program}{w:World}{K:Frag}{mg:Str->Option Value}{base:Heap}{N ps:List Str}{qual:Str}{scope:Scope}{f:Addr}{C:Value}{A:Around}{outer:List Env}{s s1:Shared}{H:Hp}{E:XK}{us:List Value}{vs:List V}
  (S:FnScope N ps scope) (hd:A.handled=none) (g:Env0 P w K mg base A outer s H) (L:vs.length=ps.length) (r:Vals vs us)
  (x:InCallC s s.heap.objs.size (bindL (envOfC qual scope s.heap.objs.size f C).kindOf (ps.zip us) λ_=>none) (cellsFrom (s.heap.objs.size+1) scope.names []) (bindC (envOfC qual scope s.heap.objs.size f C).kindOf (ps.zip us) λ_=>none) s1) :
  Inv (cxOf CX P w K mg base N qual scope f C A outer s H E) [] (start N vs) H s1:=by
 have G:ps.length<=N.length:=by have:=congrArg List.length S.pre;rw[aH0] at this;lia
 obtain⟨B,J,rfl,D⟩:=x.done
 have l:∀ b:Addr,b ∉ (cxOf CX P w K mg base N qual scope f C A outer s H E).ex:=λb z=>absurd (show b∈([]:List Addr) from z) (by simp)
 refine⟨⟨g.mod,S.kind,rfl,rfl,aA6 _,λy z c B d=>?_,λy j=>?_,λy c _ h=>?_,λ_=>hd,Around.frames_deeper g.frames,.inr ⟨rfl,rfl⟩,λb z=>absurd z (l b),g.bs,g.bsz,λb _ _=>l b,λb z=>absurd z (l b),g.funs,g.frf,g.tab⟩,
  rfl,g.bare,Un.kept D,⟨_,x.toInCall.ns,λi y v B d M=>?_⟩,λy c h=>⟨_,x.cell y c h⟩,g.hok.fresh (aA6 _),λy c h=>?_,λp t=>absurd (show p∈([]:List (Addr × Obj)) from t) (by simp),g.hok.kept D,?_⟩
 ·exact name_of_addr x.apart (PySem.mem_of_lookup B) (PySem.mem_of_lookup d)
 ·have j:scope.names.lookup y=some .cell\/scope.names.lookup y=some .free:=j
  rcases j with j|j
  ·exact ami j
  ·exact absurd rfl (S.nofree _ (PySem.mem_of_lookup j))
 ·exact aG5 (x.above y c (PySem.mem_of_lookup h))
 ·have hi:i<vs.length:=by
   unfold start at d
   by_cases hi:i<vs.length
   ·exact hi
   ·rw[aC8 (by simpa using hi)] at d
    rw[aH7] at d
    split at d <;> cases d
  have ha:vs[i]?=some v:=by
   unfold start at d
   rw[aC3 (by simpa using hi),aA5] at d
   cases e:vs[i]? with
   |none=>rw[e] at d;cases d
   |some a=>rw[e] at d;cases d;rfl
  obtain⟨u,F,I⟩:=r.get ha
  have t:ps[i]?=some y:=by
   rw[← S.pre,aH5 (by lia)];exact B
  have o:ps.Nodup:=by rw[← S.pre];exact S.nd.sublist (List.take_sublist _ _)
  refine⟨u,I,?_⟩
  rcases S.par y (aA2 t) with k|k
  ·exact .inl ⟨k,akn o t F k⟩
  ·obtain⟨c,e⟩:=ami (n:=s.heap.objs.size+1) k
   refine .inr ⟨.inl k,c,e,?_⟩
   have q:=x.cell y c e
   rw[ako o t F (by show scope.names.lookup y ≠ _;rw[k];decide)] at q
   exact q
 ·exact g.hok.fresh (aG5 (x.above y c (PySem.mem_of_lookup h)))
 ·unfold start
  show _=N.length
  rw[aB1,aA3,List.length_replicate]
  lia
theorem a3c{CX:CXT}{P:Program}{w:World}{K:Frag}{mg:Str->Option Value}{base:Heap}{k:Nat}{f:Addr}{name qual:Str}{a:Arguments}{body:List Stmt}{scope:Scope}{z kV doc pm cdv ct oc:Value}{an od:Option Addr}
  {osl:Array (Option Value)} {N ps:List Str} {sp:Sp} (G:K.lookup f=some ⟨oc,od,.func (fnOf name qual a body scope z kV doc pm an cdv ct),osl⟩) (l:codeIn K cdv qual=true) (S:FnScope N ps scope)
  (len:∀ vs H Q E,sp vs H Q E->vs.length=ps.length)
  (g:∀(A:Around)(outer:List Env)(s:Shared)(H:Hp)(vs:List V)(Q:VK)(E:XK),Room k (A.deeper (envOfC qual scope s.heap.objs.size f cdv))->sp vs H Q E ->
   ∃ t,PSs (cxOf CX P w K mg base N qual scope f cdv A outer s H E) body t/\t { nx:=λ_ H'=>Q .non H',rt:=Q } (start N vs) H) :
  FnOk P w K mg base CX (k+1) f (fnOf name qual a body scope z kV doc pm an cdv ct) ps sp:=by
 refine⟨len,λA outer s H args us vs Q E hr i hb r h=>?_⟩
 have F:=len _ _ _ _ h
 have B:K.In s.heap:=i.mod.kin.keeps λb o e=>(i.bs b o e).1
 have p:s.heap.NoLimit:=i.mod.nolimit.keeps λb o e=>(i.bs b o e).1
 have d:∀ y∈ps.zip us,scope.names.lookup y.1=some .local\/(scope.names.lookup y.1=some .cell/\((cellsFrom (s.heap.objs.size+1) scope.names []).lookup y.1).isSome=true):=λ⟨n,v⟩ C=>by
  rcases S.par n (List.of_mem_zip C).1 with q|q
  ·exact .inl q
  ·exact .inr ⟨q,PySem.W.cellsFrom_some _ _ _ (.inl q)⟩
 refine codeAny_call_function hr.depth (B _ _ G) rfl S.co S.gen rfl (PySem.W.codeRec_of B l) (hb _ _ _ _ ?_)
 refine wpAny_newFunctionEnv_cells S.kind d λenv D s1 x=>?_
 subst D
 refine⟨p.keeps x.toInCall.keep,codeAny_func ?_⟩
 obtain⟨t,L,M⟩:=g A outer s H vs Q E (hr.deeper _) h
 have I:Inv (cxOf CX P w K mg base N qual scope f cdv A outer s H E) [] (start N vs) H s1:=asi S hr.hd i F r x
 refine aK1 (L [] s1 (start N vs) H _ I M) (λO s' hs=>?_) λe s' hs=>hs
 have fin:∀{c:St}{H':Hp}{v:V}{u:Value},Inv (cxOf CX P w K mg base N qual scope f cdv A outer s H E) [] c H' s'->RelV v u->Q v H'->CE outer P w H s Q u s' :=
  λ{c H' v u} J j q=>⟨v,H',J.os,J.bare,J.base,J.hok,j,q⟩
 cases O with
 | ret u =>
  obtain⟨v,c,H',J,j,q⟩:=hs
  exact fin J j q
 | next =>
  obtain⟨c,H',J,q⟩:=hs
  exact fin (v:=V.non) (u:=Value.none) J rfl q
 | brk =>
  obtain⟨_,_,_,q⟩:=hs
  exact False.elim q
 | cont =>
  obtain⟨_,_,_,q⟩:=hs
  exact False.elim q
section
variable{X:Cx}{x:Str}{p pos:Pos}{e:Expr}{es:List Expr}{t:TA}{id T:String}{r:List V->Hp->VK->Prop}
def tCB(r:List V->Hp->VK->Prop)(t:TA):TE:=λσ H Q=>t σ H λvs H1=>r vs H1 Q
theorem aai(n:abi X (.builtin id) r)(i:Gl X x)(hm:X.mg x=none)(g:bootBuiltins x=some (.builtin id))(ha:PA X (e::es) t)(hn:x ≠ "__name__":=by decide)(a:(x == ("__debug__" : Str))=false:=by decide)
  (d:starEach (e::es) X.env=(false,eval e X.env)::starEach es X.env:=by rfl) (b:(backTo pos (starEach es X.env)).any (·.1)=false:=by rfl):PE X (.Call (.Name x p) (e::es) [] pos) (tCB r t):=by
 intro pins s σ H Q I h
 refine wpAny_Call_Name_kw (adm I i hm g ?_ hn a)
 exact PyProof.Rows.callWith_builtin1 (thn (ha pos pins s σ H _ I h) λus s1 ⟨vs,l,j,f,c⟩=>n pins s1 σ l vs us Q j f c) d b
theorem asj(n:abi X (.type T) r)(i:Gl X x)(hm:X.mg x=none)(g:bootBuiltins x=some (.type T))(ha:PA X (e::es) t)(hn:x ≠ "__name__":=by decide)(a:(x == ("__debug__" : Str))=false:=by decide)
  (d:starEach (e::es) X.env=(false,eval e X.env)::starEach es X.env:=by rfl) (b:(backTo pos (starEach es X.env)).any (·.1)=false:=by rfl):PE X (.Call (.Name x p) (e::es) [] pos) (tCB r t):=by
 intro pins s σ H Q I h
 refine wpAny_Call_Name_kw (adm I i hm g ?_ hn a)
 exact PyProof.Rows.callWith_type1 (thn (ha pos pins s σ H _ I h) λus s1 ⟨vs,l,j,f,c⟩=>n pins s1 σ l vs us Q j f c) d b
end
end L2
namespace HT
open PySem PyProof.Rows
def lexLt:List Int->List Int->Bool
 |[],[]=>false
 |[],_::_=>true
 |_::_,[]=>false
 |x::xs,y::ys=>if x=y then lexLt xs ys else decide (x<y)
theorem aet(x y:Int)(xs ys:List Int):lexLt (x::xs) (y::ys)=if x=y then lexLt xs ys else decide (x<y):=rfl
theorem alb:lexLt [] []=false:=rfl
theorem ajq(y:Int)(ys:List Int):lexLt [] (y::ys)=true:=rfl
theorem ajr(x:Int)(xs:List Int):lexLt (x::xs) []=false:=rfl
theorem aus(A:Around)(s:Shared)(a:Int)(t:Tok)(c:Int)(u:Tok):∃ e,SeqAt.EqAt A s (.int a t) (.int c u) e/\(e=true ↔ a=c) :=
 ⟨(a == c),SeqAt.EqAt.int_int a t c u,by simp⟩
theorem amj(A:Around)(s:Shared)(a:Int)(t:Tok)(c:Int)(u:Tok)(prog:Program)(w:World)(E:Value->Shared->Prop)(Q:Value->Shared->Prop)(h:Q (.bool (decide (a<c))) s) :
  wpAny (model prog w) A (richCompare .Lt (.int a t) (.int c u)) Q E s :=
 (PyProof.Rows.lt_int h:wpAny (model prog w) A (compareOp .Lt (.int a t) (.int c u)) Q E s)
section
open PySem.SeqAt
open PySem.AutoSeq1 (wpAny_loadPart')
open PySem.MeetsSeq PySem.MeetsSeq2 PySem.MeetsSeq3
theorem alc(l b:Addr)(items f:Array Value)(n S:Nat)(N G:Option Addr)(sl H:Array (Option Value))(ns E:List Int)(hi:IntsAre items.toList ns)(K:IntsAre f.toList E) :
  Meets (Builtin.«tuple.__lt__» ⟨[.ref l,.ref b],[]⟩)
   (λ_ R s=>s.heap.get? l=some { cls:=.type "tuple",dict:=N,data:=.seq items n,slots:=sl }/\s.heap.get? b=some { cls:=.type "tuple",dict:=G,data:=.seq f S,slots:=H } /\
    R (.ok (.ret (.bool (lexLt ns E)))) s) :=
 .of_wp λprog w A R s h=>by
  obtain⟨D,g,d,F,os⟩:=s;obtain⟨P,hb,h⟩:=h
  have U:=AutoSeq1.sub_tuple_tuple
  have W:items.size=ns.length:=by rw[← hi.length];simp
  have T:f.size=E.length:=by rw[← K.length];simp
  wp_walk using wpAny_loadPart' P,wpAny_loadPart' hb,wpAny_forIn_list _ (λrest b s'=>b.1=none/\s'=⟨D,g,d,F,os⟩/\∃(vs ws:List Value)(o j:List Int),rest=vs.zip ws /\
   IntsAre vs o/\IntsAre ws j/\o.length+f.size=j.length+items.size/\R (.ok (.ret (.bool (lexLt o j)))) ⟨D,g,d,F,os⟩) _
  case turn =>
   rintro⟨y,x⟩ rest b s' ⟨z,rfl,vs,ws,o,j,hz,B,p,i,v⟩
   cases B with
   |nil=>rw[List.zip_nil_left] at hz;cases hz
   | cons a t hvi' =>
    cases p with
    |nil=>rw[List.zip_nil_right] at hz;cases hz
    | cons c u hwi' =>
     rw[List.zip_cons_cons] at hz
     injection hz with I C
     injection I with M Q
     subst M Q
     rw[aet] at v
     simp only[aE6] at i
     obtain⟨e,O,r⟩:=aus A.in1 ⟨D,g,d,F,os⟩ a t c u
     refine aJ2 (O prog w _ _ ?_)
     cases e with
     | true =>
      rw[aF5 (r.mp rfl)] at v
      wp_walk
      exact⟨rfl,rfl,_,_,_,_,C,hvi',hwi',by lia,v⟩
     | false =>
      rw[aF6 (λq=>absurd (r.mpr q) aB0)] at v
      have J:=amj A.in1 ⟨D,g,d,F,os⟩ a t c u prog w
      wp_walk using J
      exact⟨_,rfl,by simpa using v⟩
  case fin =>
   rintro⟨b1,X⟩ s' ⟨z,rfl,vs,ws,o,j,hz,B,p,i,v⟩
   simp only at z
   subst z
   have L:lexLt o j=decide (items.size<f.size):=by
    cases B with
    | nil =>
     cases p with
     | nil =>
      simp only[aJ0] at i
      rw[alb]
      exact(aD7 (by lia)).symm
     | cons c u hw =>
      simp only[aJ0,aE6] at i
      rw[ajq]
      exact(aD8 (by lia)).symm
    | cons a t L =>
     cases p with
     | nil =>
      simp only[aJ0,aE6] at i
      rw[ajr]
      exact(aD7 (by lia)).symm
     | cons c u hw =>
      rw[List.zip_cons_cons] at hz
      cases hz
   rw[L] at v
   wp_walk
   exact⟨_,rfl,by simpa[Builtin.Tuple.tupleCompareSizes] using v⟩
  case h =>
   exact⟨rfl,rfl,items.toList,f.toList,ns,E,rfl,hi,K,by lia,h⟩
end
section
theorem lt_tupInts(u:IsTup s.heap l items)(hb:IsTup s.heap b a)(hi:IntsAre items.toList ns)(v:IntsAre a.toList f)
  (y:A.units<cLine) (h:Q (.bool (lexLt ns f)) s):wpAny (model prog w) A (compareOp .Lt (.ref l) (.ref b)) Q E s:=by
 obtain⟨⟨cls,t,data,sl⟩,q,r,n,hd⟩:=id u
 obtain⟨⟨p,i,o,j⟩,g,d,z,c⟩:=id hb
 simp only at r hd d c
 subst r hd d c
 exact richCompare_meets_room (op:=.Lt) ⟨_,q,rfl⟩ ⟨_,g,rfl⟩ PySem.F.slot_tuple_lt PySem.F.entry_tuple_lt (PySem.F.args_tuple_lt_2 _ _) (alc l b items a n z t i sl j ns f hi v)
  ⟨q,g,show Value.bool (lexLt ns f) ≠ Value.notImplemented/\Q (.bool (lexLt ns f)) s from⟨(λx=>nomatch x),h⟩⟩ y
end
end HT
namespace L2
open PySem PySem.Spec PyProof.Rows
abbrev TO:=St->Hp->(Option Int->Hp->Prop)->Prop
theorem ab1:∀{us:List Value},Vals (ns.map V.int) us->IntsAre us ns:=by
 induction ns with
 |nil=>intro us r;rw[List.map_nil] at r;cases r;exact .nil
 | cons n ns ih =>
  intro us r
  rw[aD1] at r
  cases r with
  | cons r1 r2 =>
   obtain⟨t,e⟩:=r1
   subst e
   exact .cons n t (ih r2)
section
def SlR(X:Cx)(r:V->Option Int->Option Int->Hp->VK->Prop):Prop :=
 ∀(pins:List (Addr × Obj))(s:Shared)(σ:St)(H:Hp)(x:V)(v vl vu:Value)(lo hi:Option Int)(sl:Addr)(Q:VK),Inv X pins σ H s->RelV x v->s.heap.IsSliceOf sl vl vu .none->IsPart vl lo->IsPart vu hi->r x lo hi H Q ->
  ∃ T id,typeLookup (.type T) "__getitem__" = pure (some (.builtin id))/\s.TypeIs v T/\wpAny (model X.prog X.w) X.A (getItem v (.ref sl)) (EP X pins σ Q) X.xe s
def rLtT(K:Frag):R2:=λx y H Q=>∃ a b ns ms,x=.ref a/\y=.ref b/\SqT K H a (ns.map V.int)/\SqT K H b (ms.map V.int)/\Q (.bl (HT.lexLt ns ms)) H
theorem asl(o:X.A.units<cLine):OpR X (compareOp .Lt) (rLtT X.K):=by
 intro pins s σ H x y v u Q I f j h
 obtain⟨a,b,ns,d,rfl,rfl,ha,hb,q⟩:=h
 cases f
 cases j
 obtain⟨its,i,n,_⟩:=I.tuple ha
 obtain⟨c,l,p2,_⟩:=I.tuple hb
 have i1:IntsAre its.toArray.toList ns:=ab1 i
 have g:IntsAre c.toArray.toList d:=ab1 l
 exact HT.lt_tupInts n p2 i1 g o ⟨.bl (HT.lexLt ns d),H,I,rfl,q⟩
end
def ixN(n:Nat)(i:Int):Option Nat:=if 0<=i then (if i<n then some i.toNat else none) else if -(n:Int)<=i then some (i+n).toNat else none
def atI{α:Type}(xs:List α)(i:Int):Option α:=(ixN xs.length i).bind λj=>xs[j]?
theorem apf(h:ixN n i=some j):seqIndex? i n=some j/\j<n/\-(n:Int)<=i/\i<n:=by
 unfold ixN at h
 by_cases h0:0<=i
 ·rw[aF5 h0] at h
  by_cases h1:i<n
  ·rw[aF5 h1] at h
   have e:i.toNat=j:=aC6 h
   exact⟨by rw[seqIndex_of h0 h1,e],by lia,by lia,h1⟩
  ·rw[aF6 h1] at h;cases h
 ·rw[aF6 h0] at h
  by_cases h1 : -(n:Int)<=i
  ·rw[aF5 h1] at h
   have e:(i+n).toNat=j:=aC6 h
   exact⟨by rw[seqIndex_neg (by lia) h1,e],by lia,h1,by lia⟩
  ·rw[aF6 h1] at h;cases h
theorem apg{α:Type}{xs:List α}{i:Int}{v : α}(h:atI xs i=some v):∃ j,seqIndex? i xs.length=some j/\xs[j]?=some v/\j<xs.length/\-(xs.length:Int)<=i/\i<xs.length:=by
 unfold atI at h
 cases e:ixN xs.length i with
 |none=>rw[e] at h;cases h
 | some j =>
  rw[e] at h
  obtain⟨a,c,d,b⟩:=apf e
  exact⟨j,a,h,c,d,b⟩
theorem ahj{α:Type}{xs:List α}{j:Nat}{v : α}(h:xs[j]?=some v):atI xs (j:Int)=some v:=by
 have a:j<xs.length:=(aA1.mp h).1
 have e:ixN xs.length (j:Int)=some j:=by
  unfold ixN
  rw[aF5 (by lia),aF5 (by lia)];simp
 unfold atI;rw[e];exact h
def axz(b:Expr):Prop:=∀ o i,subscripted b false o i=operate [o,i] (getItem o i)
def IxR(X:Cx)(r:R2):Prop :=
 ∀(value slice:Expr)(pins:List (Addr × Obj))(s:Shared)(σ:St)(H:Hp)(x y:V)(v u:Value)(Q:VK),Inv X pins σ H s->RelV x v->RelV y u->r x y H Q ->
  subscripted slice false v u=operate [v,u] (getItem v u)->wpAny (model X.prog X.w) X.A (subscriptTail value slice v u) (EP X pins σ Q) X.xe s
def MtR(X:Cx)(id:String)(r:V->List V->Hp->VK->Prop):Prop :=
 ∀(pins:List (Addr × Obj))(s:Shared)(σ:St)(H:Hp)(x:V)(xs:List V)(v:Value)(us:List Value)(Q:VK),Inv X pins σ H s->RelV x v->Vals xs us->r x xs H Q ->
  wpAny (model X.prog X.w) X.A (call (.builtin id) (v::us)) (EP X pins σ Q) X.xe s
section
variable{X:Cx}{a b:Expr}{ta tb:TE}{pos:Pos}
theorem IxR.or(h:IxR X r)(h':IxR X f):IxR X (λx y H Q=>r x y H Q\/f x y H Q):=by
 intro a b pins s σ H x y v u Q I c d q hs
 rcases q with q|q
 ·exact h a b pins s σ H x y v u Q I c d q hs
 ·exact h' a b pins s σ H x y v u Q I c d q hs
theorem aak(hr:IxR X r)(ha:PE X a ta)(hb:PE X b tb)(hs:axz b):PE X (.Subscript a b pos) (tOp r ta tb):=by
 intro pins s σ H Q I h
 exact Subscript_ (binT ha hb I h λv u s2 x y H2 f c d q=>hr a b pins s2 σ H2 x y v u Q f c d q (hs _ _))
def rIxL(K:Frag):R2:=λx y H Q=>∃ p xs i v,x=.ref p/\y=.int i/\SqL K H p xs/\atI xs i=some v/\Q v H
def rIxT(K:Frag):R2:=λx y H Q=>∃ p xs i v,x=.ref p/\y=.int i/\SqT K H p xs/\atI xs i=some v/\Q v H
theorem ix_list:IxR X (rIxL X.K):=by
 intro b c pins s σ H x y v u Q I l A h hs
 obtain⟨p,xs,i,z,rfl,rfl,D,n,q⟩:=h
 cases l
 obtain⟨t,rfl⟩:=A
 obtain⟨its,r,pl,hz⟩:=I.list D
 obtain⟨j,a,C,F,B,E⟩:=apg n
 obtain⟨w,g,d⟩:=r.get C
 have o:=r.length
 have hn:=agt
 have fin:EP X pins σ Q w s:=⟨z,H,I,d,q⟩
 by_cases h0:0<=i
 ·have f:i.toNat=j:=by
   rw[seqIndex_of h0 E] at a
   exact aC6 a
  exact item_listR pl.isList h0 (by lia) (by rw[f];simpa using g) fin hs
 ·have f:(i+(its.toArray.size:Int)).toNat=j:=by
   rw[seqIndex_neg (by lia) B] at a
   rw[aB2,← o]
   exact aC6 a
  exact subscriptTail_builtinR (x:=w) pl.isList.typeIs slot_list_getitem.lookup
   (wpAny_getItem_list_neg (Q:=λr s'=>r=w/\EP X pins σ Q r s') pl.isList (by lia) (by rw[aB2] <;> lia) (by lia) (by rw[f];simpa using g) ⟨rfl,fin⟩) hs
theorem a0x:IxR X (rIxT X.K):=by
 intro a b pins s σ H x y v u Q I f n h hs
 obtain⟨p,xs,i,z,rfl,rfl,B,g,q⟩:=h
 cases f
 obtain⟨t,rfl⟩:=n
 obtain⟨its,r,pl,hz⟩:=I.tuple B
 obtain⟨j,d,o,D,C,E⟩:=apg g
 obtain⟨w,A,c⟩:=r.get o
 have l:=r.length
 have hn:=agt
 have fin:EP X pins σ Q w s:=⟨z,H,I,c,q⟩
 exact subscriptTail_builtinR (x:=w) pl.typeIs slot_tuple_getitem.lookup
  (getItem_tuple (j:=j) (Q:=λr s'=>r=w/\EP X pins σ Q r s') pl (by lia) (by lia) (by rw[aB2,← l];exact d) (by simpa using A) ⟨rfl,fin⟩) hs
theorem aqz(its:List Value)(n j:Nat)(u:Value):Obj.mapSeq (·.setIfInBounds j u) { cls:=.type "list",data:=.seq its.toArray n }={ cls:=.type "list",data:=.seq (its.set j u).toArray n }:=by
 simp[Obj.mapSeq]
theorem Inv.lst{pins:List (Addr × Obj)}{σ:St}{H:Hp}{s:Shared}{p:Addr}{xs:List V}(I:Inv X pins σ H s)(h:H p=some (.lst xs)) :
  ∃(its:List Value)(n:Nat),Vals xs its/\s.heap.get? p=some { cls:=.type "list",data:=.seq its.toArray n }/\xs.length<=sizeLine:=by
 obtain⟨z,its,n,r,e⟩:=I.hok p _ h
 exact⟨its,n,r,e,z⟩
theorem Inv.lstUpd{pins:List (Addr × Obj)}{σ:St}{H:Hp}{s:Shared}{p:Addr}{xs ys:List V}{its its':List Value}{n a:Nat}{f:Obj->Obj}(I:Inv X pins σ H s)(h:H p=some (.lst xs))
  (c:s.heap.get? p=some { cls:=.type "list",data:=.seq its.toArray n }) (hf:f { cls:=.type "list",data:=.seq its.toArray n }={ cls:=.type "list",data:=.seq its'.toArray a }) (r:Vals ys its') (hz:ys.length<=sizeLine) (t:Nat) :
  Inv X pins σ (upd H p (.lst ys)) { s with heap:=s.heap.update p f,toks:=t }:=by
 have e:(s.heap.update p f).get? p=some { cls:=.type "list",data:=.seq its'.toArray a }:=by
  rw[aK8 f c (by rw[hf] <;> rfl),hf]
 refine I.write (x:=p) (e:=p) (by rw[h];trivial) (.inl rfl) (λb u hb q=>(aK0 _ _ (Ne.symm hb)).trans q) ⟨_,e⟩ ?_
 exact⟨hz,its',a,r,e⟩
def aq0:V->V->V->Hp->(Hp->Prop)->Prop:=λo i v H Q=>∃ p xs k j,o=.ref p/\i=.int k/\H p=some (.lst xs)/\ixN xs.length k=some j/\Q (upd H p (.lst (xs.set j v)))
theorem af6:PSet X aq0:=by
 intro pins s σ H o i v C D u Q I A y x h
 obtain⟨p,xs,k,j,rfl,rfl,f,z,q⟩:=h
 cases A
 obtain⟨t,rfl⟩:=y
 obtain⟨its,n,r,d,hz⟩:=I.lst f
 obtain⟨a,B,l,g⟩:=apf z
 have b:=r.length
 have hn:=agt
 have w:Inv X pins σ (upd H p (.lst (xs.set j v))) { s with heap:=s.heap.update p (Obj.mapSeq (·.setIfInBounds j u)) } :=
  I.lstUpd f d (aqz its n j u) (r.set x j) (by rw[List.length_set];exact hz) s.toks
 by_cases h0:0<=k
 ·have c:k.toNat=j:=by
   rw[seqIndex_of h0 g] at a
   exact aC6 a
  exact PySem.W.ki_setAt d h0 (by lia) (by rw[aB2,← b];exact g) (by rw[c];exact⟨_,w,q⟩)
 ·have c:(k+(its.toArray.size:Int)).toNat=j:=by
   rw[seqIndex_neg (by lia) l] at a
   rw[aB2,← b]
   exact aC6 a
  exact PySem.W.ki_setBack d (by lia) (by rw[aB2,← b];exact l) (by lia) (by rw[c];exact⟨_,w,q⟩)
theorem amk:abi X (.builtin "len") (λxs H Q=>∃ p ys,xs=[.ref p]/\(SqL X.K H p ys\/SqT X.K H p ys)/\Q (.int ys.length) H):=by
 intro pins s σ H xs us Q I r h
 obtain⟨p,ys,rfl,b,q⟩:=h
 obtain⟨u,rfl,d⟩:=adi r
 cases d
 have hn:=agt
 rcases b with b|b
 ·obtain⟨its,c,pl,hz⟩:=I.list b
  have a:=c.length
  exact Calls.call_len_list pl.isList (by simp only[aB2] <;> lia) ⟨.int ys.length,H,I.tok _,⟨s.toks+1,by rw[aB2,a]⟩,q⟩
 ·obtain⟨its,c,pl,hz⟩:=I.tuple b
  have a:=c.length
  exact len_tuple pl (by simp only[aB2] <;> lia) ⟨.int ys.length,H,I.tok _,⟨s.toks+1,by rw[aB2,a]⟩,q⟩
def tyV(K:Frag)(T:String)(x:V)(H:Hp):Prop:=match x with
 | .str _=>T = "str"
 | .int _=>T = "int"
 | .ref p=>(T = "list"/\∃ xs,SqL K H p xs)\/(T = "tuple"/\∃ o,K.lookup p=some o/\o.cls=.type "tuple"/\o.dict=none) ∨
   (T = "dict"/\((∃ kvs,H p=some (.dK kvs))\/∃ kvs,H p=some (.dT kvs)))\/(T = "set"/\∃ S n,H p=some (.set S n))
 |_=>False
theorem asm(I:Inv X pins σ H s)(r:RelV x v)(ty:tyV X.K T x H) :
  s.TypeIs v T/\∀ a,v=.ref a->∃ f,s.heap.get? a=some f/\f.dict=none:=by
 cases x with
 | str z =>
  obtain⟨t,rfl⟩:=r
  cases (show T = "str" from ty)
  exact⟨typeIs_str s z t,λ_ e=>nomatch e⟩
 | int i =>
  obtain⟨t,rfl⟩:=r
  cases (show T = "int" from ty)
  exact⟨typeIs_int s i t,λ_ e=>nomatch e⟩
 | ref p =>
  cases r
  rcases ty with ⟨rfl,xs,g⟩|⟨rfl,o,b,h,hd⟩|⟨rfl,b⟩|⟨rfl,S,n,b⟩
  ·obtain⟨its,_,pl,_⟩:=I.list g
   refine⟨pl.isList.typeIs,λa e=>?_⟩
   cases e
   obtain⟨o,n,e,c,hd,_⟩:=pl
   exact⟨o,e,hd⟩
  ·refine⟨⟨o,I.kIn p o b,h⟩,λa e=>?_⟩
   cases e
   exact⟨o,I.kIn _ o b,hd⟩
  ·have z:∃ o,s.heap.get? p=some o/\o.ExactDict:=by
    rcases b with ⟨kvs,b⟩|⟨kvs,b⟩
    ·obtain⟨_,_,_,_,o,_,_,e,ex,_⟩:=I.hok p _ b
     exact⟨o,e,ex⟩
    ·obtain⟨_,_,_,_,o,_,_,e,ex,_⟩:=I.hok p _ b
     exact⟨o,e,ex⟩
   obtain⟨o,e,ex⟩:=z
   refine⟨⟨o,e,ex.1⟩,λa d=>?_⟩
   cases d
   exact⟨o,e,ex.2.1⟩
  ·obtain⟨o,_,_,_,e,ex,_⟩:=I.hok p _ b
   refine⟨⟨o,e,ex.1⟩,λa d=>?_⟩
   cases d
   exact⟨o,e,ex.2.1⟩
 |_=>exact False.elim ty
def tBM0(K:Frag)(T:String)(r:V->List V->Hp->VK->Prop)(to:TE):TE:=λσ H Q=>to σ H λx H1=>tyV K T x H1/\r x [] H1 Q
def tBM(K:Frag)(T:String)(r:V->List V->Hp->VK->Prop)(to:TE)(t:TA):TE:=λσ H Q=>to σ H λx H1=>tyV K T x H1/\t σ H1 λxs H2=>r x xs H2 Q
variable{o e:Expr}{es:List Expr}{to:TE}{t:TA}{name:Str}{apos cpos:Pos}{T id:String}{r:V->List V->Hp->VK->Prop}
theorem a0y(l:PlainAttrs T)(slot:Slot T name id)(c:typeOf (.builtin id)=pure (.type "method_descriptor"))(hm:MtR X id r)(n:PE X o to)
  (a:attributeBase o name X.env (eval o X.env)=eval o X.env:=by rfl) (b:(apos.endLine == cpos.line)=true:=by rfl):PE X (.Call (.Attribute o name apos) [] [] cpos) (tBM0 X.K T r to):=by
 intro pins s σ H Q I h
 refine wpAny_Call_method0_late a b (thn (n pins s σ H _ I h) λv s1 ⟨x,p,f,d,ty,g⟩=>?_)
 obtain⟨i,j⟩:=asm f d ty
 exact⟨T,id,l,slot,c,i,j,Calls.callWith_builtin rfl (PySem.evalArgs_none (hm pins s1 σ p x [] v [] Q f d .nil g))⟩
theorem ac0(y:PlainAttrs T)(slot:Slot T name id)(g:typeOf (.builtin id)=pure (.type "method_descriptor"))(hm:MtR X id r)(z:PE X o to)(ha:PA X (e::es) t)
  (c:attributeBase o name X.env (eval o X.env)=eval o X.env:=by rfl)
  (f:((backTo cpos (starEach (e::es) X.env)).all (λx=>!x.1) && (backToKw cpos (keywordEach [] X.env)).all (λx=>x.1.isSome)
   && decide ((e::es).length+([]:List Keyword).length+(if ([]:List Keyword).isEmpty then 0 else 1)<30))=true:=by rfl)
  (d:(apos.endLine == cpos.line)=true:=by rfl) (hs:starEach (e::es) X.env=(false,eval e X.env)::starEach es X.env:=by rfl) (b:(backTo cpos (starEach es X.env)).any (·.1)=false:=by rfl) :
  PE X (.Call (.Attribute o name apos) (e::es) [] cpos) (tBM X.K T r to t):=by
 intro pins s σ H Q I h
 refine wpAny_Call_method_late c f d rfl (thn (z pins s σ H _ I h) λv s1 ⟨x,B,j,i,ty,n⟩=>?_)
 obtain⟨p,u⟩:=asm j i ty
 refine⟨T,id,y,slot,g,p,u,?_⟩
 have l:=ha cpos pins s1 σ B _ j n
 rw[hs] at l ⊢
 refine Calls.callWith_builtin (by show(false || (backTo cpos (starEach es X.env)).any (·.1))=false;rw[b] <;> rfl) (Calls.evalArgs_plain ?_)
 exact thn l λus s2 ⟨vs,H2,A,w,q⟩=>hm pins s2 σ H2 x vs v us Q A i w q
/- xs.append(e), list.index on a module's tuple .. are MtR facts of 06m -/
end
def MtM(X:Cx)(id:String)(r:V->List V->Hp->VK->Prop):Prop :=
 ∀(pins:List (Addr × Obj))(s:Shared)(σ:St)(H:Hp)(x:V)(xs:List V)(v:Value)(us:List Value)(Q:VK),Inv X pins σ H s->RelV x v->Vals xs us->r x xs H Q ->
  wpAny (model X.prog X.w) X.A (call (.builtin id) (v::us)) (EP X pins σ Q) X.xe s
theorem Vals.one:∀{x:V}{us:List Value},Vals [x] us->∃ u,us=[u]/\RelV x u
 |_,_,.cons r .nil=>⟨_,rfl,r⟩
theorem Vals.zero:∀{us:List Value},Vals [] us->us=[]
 |_,.nil=>rfl
theorem Vals.dropLast(h:Vals xs us):Vals xs.dropLast us.dropLast:=by
 induction h with
 |nil=>exact .nil
 | cons r t ih =>
  cases t with
  |nil=>exact .nil
  |cons q t'=>exact .cons r ih
theorem Vals.eraseIdx:∀{xs:List V}{us:List Value}(i:Nat),Vals xs us->Vals (xs.eraseIdx i) (us.eraseIdx i)
 |_,_,_,.nil=>.nil
 |_,_,0,.cons _ t=>t
 |_,_,i+1,.cons r t=>.cons r (Vals.eraseIdx i t)
theorem Vals.rep(h:Vals xs us):∀ k:Nat,Vals (List.replicate k xs).flatten (List.replicate k us).flatten
 |0=>.nil
 | k+1=>by
  rw[aH3,aH3,List.flatten_cons,List.flatten_cons]
  exact Vals.append h (Vals.rep h k)
theorem aq1{α:Type}(l:List α):l.eraseIdx (l.length-1)=l.dropLast:=by
 induction l with
 |nil=>rfl
 | cons a r ih =>
  cases r with
  |nil=>rfl
  | cons b r =>
   have e:(a::b::r).length-1=((b::r).length-1)+1:=by
    have c:(a::b::r).length=r.length+2:=rfl
    have d:(b::r).length=r.length+1:=rfl
    lia
   rw[e,List.eraseIdx_cons_succ,ih]
   all_goals rfl
theorem akp{α:Type}:∀(l:List α)(i:Nat),(l.eraseIdx i).length<=l.length
 |[],_=>aA6 _
 |_::_,0=>Nat.le_succ _
 |_::r,i+1=>Nat.succ_le_succ (akp r i)
theorem akq(its:List Value):∀(k:Nat)(a:List Value),
  List.foldl (λd b=>d++b) a.toArray (List.replicate k its.toArray)=(a++(List.replicate k its).flatten).toArray
 |0,a=>by simp
 | k+1,a=>by
  have e:a.toArray++its.toArray=(a++its).toArray:=by simp
  have c:(a++its)++(List.replicate k its).flatten=a++(List.replicate (k+1) its).flatten:=by
   rw[aH3,List.flatten_cons,aB4]
  rw[← c,← akq its k (a++its),← e,aH3,List.foldl_cons]
section
theorem Inv.lset{its its':List Value}{n:Nat}{f:Array Value->Array Value}{t':Nat}(I:Inv X pins σ H s)(b:H l=some (.lst xs))
  (e:s.heap.get? l=some { cls:=.type "list",data:=.seq its.toArray n }) (hf:f its.toArray=its'.toArray) (a:Vals ys its') (hz:ys.length<=sizeLine) :
  Inv X pins σ (upd H l (.lst ys)) { s with heap:=s.heap.update l (Obj.mapSeq f),toks:=t' }:=by
 have q:=PySem.IsL.update e f
 rw[hf] at q
 refine I.write (x:=l) (e:=l) (by rw[b];exact trivial) (.inl rfl) (λd u hb c=>(aK0 s.heap (Obj.mapSeq f) (Ne.symm hb)).trans c) ⟨_,q⟩ ?_
 exact⟨hz,its',_,a,q⟩
theorem Inv.lnew(I:Inv X pins σ H s)(a:Vals ys its)(hz:ys.length<=sizeLine) :
  Inv X pins σ (upd H s.heap.objs.size (.lst ys)) { s with heap:=s.heap.push { cls:=.type "list",data:=.seq its.toArray },toks:=t' } :=
 I.laid (λ_ _ q=>aJ4 _ q) (aA6 _) ⟨hz,its,0,a,aJ6 _ rfl⟩
theorem Inv.fresh(I:Inv X pins σ H s):H s.heap.objs.size=none:=I.hok.fresh (aA6 _)
theorem Inv.lstM(I:Inv X pins σ H s)(a:H l=some (.lst xs)):xs.length<=sizeLine/\∃(its:List Value)(n:Nat),Vals xs its/\xs.length=its.length/\s.heap.get? l=some { cls:=.type "list",data:=.seq its.toArray n }:=by
 obtain⟨z,its,n,r,e⟩:=I.hok l _ a
 exact⟨z,its,n,r,r.length,e⟩
theorem aut(h:n<=sizeLine):Builtin.List.listTooLong n=false:=by
 unfold Builtin.List.listTooLong
 exact aD7 (by lia)
end
section
def afx:V->List V->Hp->VK->Prop:=λx vs H Q=>∃ l xs y,x=.ref l/\vs=[y]/\H l=some (.lst xs)/\xs.length<sizeLine/\Q .non (upd H l (.lst (xs++[y])))
theorem ab2:MtM X "list.append" afx:=by
 intro pins s σ H x vs v us Q I b c h
 obtain⟨l,xs,y,rfl,rfl,a,hz,q⟩:=h
 cases b
 obtain⟨u,rfl,d⟩:=c.one
 obtain⟨z,its,n,r,f,e⟩:=I.lstM a
 refine call_meets F.slot_list_append ⟨_,e,rfl⟩ F.entry_list_append (F.args_list_append_2 _ _) (PySem.list_append l its.toArray n u (by rw[aB2];lia)) ⟨e,?_⟩
 refine⟨.non,_,I.lset (its':=its++[u]) a e (by simp) (r.append (.cons d .nil)) ?_,rfl,q⟩
 rw[aB1,List.length_singleton]
 lia
def rPop:V->List V->Hp->VK->Prop:=λx vs H Q=>∃ l xs y,x=.ref l/\vs=[]/\H l=some (.lst xs)/\xs[xs.length-1]?=some y/\Q y (upd H l (.lst xs.dropLast))
theorem a0z:MtM X "list.pop" rPop:=by
 intro pins s σ H x vs v us Q I f g h
 obtain⟨l,xs,y,rfl,rfl,c,d,q⟩:=h
 cases f
 have b:=g.zero
 subst b
 obtain⟨z,its,n,r,i,e⟩:=I.lstM c
 obtain⟨u,o,j⟩:=r.get d
 have a:its.toArray[its.toArray.size-1]?=some u:=by
  show its.toArray[its.length-1]?=some u
  rw[← aD6,← i]
  exact o
 refine call_meets F.slot_list_pop ⟨_,e,rfl⟩ F.entry_list_pop (F.args_list_pop_1 _) (MeetsSeq.list_pop_last l its.toArray n u a (by rw[aB2];lia)) ⟨e,?_⟩
 refine⟨y,_,I.lset (its':=its.dropLast) c e ?_ r.dropLast ?_,j,q⟩
 ·show its.toArray.eraseIdxIfInBounds (its.toArray.size-1)=its.dropLast.toArray
  rw[aB2,List.eraseIdxIfInBounds_toArray,aq1]
 ·rw[List.length_dropLast]
  lia
def aiv:V->List V->Hp->VK->Prop:=λx vs H Q=>∃ l xs i k y,x=.ref l/\vs=[.int i]/\H l=some (.lst xs)/\-(2 ^ 63)<=i/\i<2 ^ 63/\seqIndex? i xs.length=some k/\xs[k]?=some y/\Q y (upd H l (.lst (xs.eraseIdx k)))
theorem auu:MtM X "list.pop" aiv:=by
 intro pins s σ H x vs v us Q I f g h
 obtain⟨l,xs,i,k,y,rfl,rfl,b,d,o,p,c,q⟩:=h
 cases f
 obtain⟨u,rfl,A⟩:=g.one
 obtain⟨t,rfl⟩:=A
 obtain⟨z,its,n,r,j,e⟩:=I.lstM b
 obtain⟨w,B,a⟩:=r.get c
 refine call_meets F.slot_list_pop ⟨_,e,rfl⟩ F.entry_list_pop (F.args_list_pop_2 _ _)
  (MeetsSeq.list_pop_at l its.toArray n i t k w (fitsIndex_both d o) (by rw[aB2,← j];exact p) (by rw[← aD6];exact B) (by rw[aB2];lia)) ⟨e,?_⟩
 refine⟨y,_,I.lset (its':=its.eraseIdx k) b e ?_ (r.eraseIdx k) ?_,a,q⟩
 ·show its.toArray.eraseIdxIfInBounds k=(its.eraseIdx k).toArray
  rw[List.eraseIdxIfInBounds_toArray]
 ·have:=akp xs k
  lia
def rCat:R2:=λx y H Q=>∃ l b xs zs,x=.ref l/\y=.ref b/\H l=some (.lst xs)/\H b=some (.lst zs)/\xs.length+zs.length<=sizeLine/\∀ p,H p=none->Q (.ref p) (upd H p (.lst (xs++zs)))
theorem a00:OpR X (binaryOp .Add) rCat:=by
 intro pins s σ H x y v u Q I c f h
 obtain⟨l,b,xs,w,rfl,rfl,j,g,hz,q⟩:=h
 cases c
 cases f
 obtain⟨z,its,n,r,A,e⟩:=I.lstM j
 obtain⟨t,a,B,o,d,i⟩:=I.lstM g
 refine PySem.P.add_list e i ?_ (by rw[aB2,aB2];lia)
 have p:its.toArray++a.toArray=(its++a).toArray:=by simp
 rw[p]
 exact⟨.ref _,_,I.lnew (t':=s.toks) (r.append o) (by rw[aB1];lia),rfl,q _ I.fresh⟩
def rRep:R2:=λx y H Q=>∃ l k xs,x=.ref l/\y=.int k/\H l=some (.lst xs)/\-(2 ^ 63)<=k/\k<2 ^ 63/\xs.length * k.toNat<=sizeLine /\
 ∀ p,H p=none->Q (.ref p) (upd H p (.lst (List.replicate k.toNat xs).flatten))
theorem aph{α:Type}(xs:List α)(k:Nat):(List.replicate k xs).flatten.length=k * xs.length:=by
 induction k with
 |zero=>simp
 |succ k ih=>rw[aH3,List.flatten_cons,aB1,ih,Nat.succ_mul,Nat.add_comm]
theorem a01:OpR X (binaryOp .Mult) rRep:=by
 intro pins s σ H x y v u Q I p A h
 obtain⟨l,k,xs,rfl,rfl,C,o,B,hz,q⟩:=h
 cases p
 obtain⟨t,rfl⟩:=A
 obtain⟨z,its,n,r,w,e⟩:=I.lstM C
 have f:its.toArray.size * k.toNat<=sizeLine:=by rw[aB2,← w];exact hz
 have g:¬ its.toArray.size * k.toNat > (2 ^ 63-1) / 8:=by
  have:(sizeLine:Nat)<=(2 ^ 63-1) / 8:=by decide
  lia
 have c:¬ (!Builtin.List.listFitsIndex k)=true:=by
  rw[fitsIndex_both o B]
  exact aB0
 have b:¬ Builtin.List.listTooLong (its.toArray.size * k.toNat)=true:=by
  rw[aut f]
  exact aB0
 have d:List.foldl (λj i=>j++i) #[] (List.replicate (if its.toArray.isEmpty=true then 0 else k.toNat) its.toArray)=(List.replicate k.toNat its).flatten.toArray:=by
  have D:∀ m:Nat,List.foldl (λj i=>j++i) #[] (List.replicate m its.toArray)=(List.replicate m its).flatten.toArray:=λm=>by
   have:=akq its m []
   rw[List.nil_append] at this
   exact this
  rw[D]
  cases its with
  |nil=>simp
  |cons a r'=>rw[aF6 (by simp)]
 refine wpAny_binaryOp_repeat_ref (T:="list") (U:="int") (by decide) ⟨_,e,rfl⟩ (λs'=>typeIs_int s' k t) noFill_list_mul F.fills_int_mul F.slot_int_rmul repeat_list F.slot_int_index.lookup
  (call_meets F.slot_int_rmul (typeIs_int s k t) F.entry_int_rmul (F.args_int_rmul_2 _ _) (int___rmul___int_list k t l its.toArray n)
   ⟨e,rfl,⟨_,e,rfl⟩,call_meets F.slot_list_mul ⟨_,e,rfl⟩ F.entry_list_mul (F.args_list_mul_2 _ _) (AutoListH.list___mul___list_int_3 l its.toArray n k t c g b) ⟨e,?_⟩⟩)
 rw[d]
 exact⟨.ref _,_,I.lnew (t':=s.toks) (r.rep k.toNat) (by rw[aph,Nat.mul_comm];exact hz),rfl,q _ I.fresh⟩
end
section
end
section
end
section
variable{κ:Type} [DecidableEq κ]
def valV(kvs:List (κ × V))(k : κ):Option V:=(kvs.find? λkv=>decide (kv.1=k)).map (·.2)
def putK(kvs:List (κ × V))(k : κ)(v:V):List (κ × V) :=
 if (kvs.any λkv=>decide (kv.1=k))=true then kvs.map (λkv=>if kv.1=k then (kv.1,v) else kv) else kvs++[(k,v)]
def aw7(kvs:List (κ × V))(k : κ):List (κ × V):=kvs.filter λkv=>decide (kv.1 ≠ k)
theorem ah9{p : κ × V}{r:List (κ × V)}{k : κ}(e:p.1=k):valV (p::r) k=some p.2:=by simp[valV,List.find?_cons,e]
theorem aia{p : κ × V}{r:List (κ × V)}{k : κ}(e:¬ p.1=k):valV (p::r) k=valV r k:=by simp[valV,List.find?_cons,e]
theorem aml(k : κ):∀ kvs:List (κ × V),(kvs.any λa=>decide (a.1=k))=(valV kvs k).isSome
 |[]=>rfl
 | p::r=>by
  rw[List.any_cons]
  by_cases e:p.1=k
  ·simp only[ah9 e,aD8 e,Bool.true_or,Option.isSome_some]
  ·rw[aia e,aD7 e,Bool.false_or];exact aml k r
theorem afq(kvs:List (κ × V))(k : κ)(v:V):(putK kvs k v).length<=kvs.length+1:=by
 unfold putK
 split
 ·rw[aA3];lia
 ·rw[aB1,aE6,aJ0];lia
theorem RelO.isSome_eq(r:RelO o u):o.isSome=u.isSome:=by
 cases o with
 | none=>cases u with
  |none=>rfl
  |some _=>exact(show False from r).elim
 | some _=>cases u with
  |none=>exact(show False from r).elim
  |some _=>rfl
theorem KV.val(r:KV kvs vs)(k : κ):RelO (valV kvs k) (valueAt vs k):=by
 unfold KV at r
 induction r with
 |nil=>exact True.intro
 | @cons p q ps qs h t ih =>
  obtain⟨c,d⟩:=h
  by_cases e:p.1=k
  ·have a:q.1=k:=c.symm.trans e
   have b:valueAt (q::qs) k=some q.2:=by simp[valueAt,List.find?_cons,a]
   rw[ah9 e,b];exact d
  ·have a:¬ q.1=k:=λz=>e (c.trans z)
   have b:valueAt (q::qs) k=valueAt qs k:=by simp[valueAt,List.find?_cons,a]
   rw[aia e,b];exact ih
theorem KV.any(r:KV kvs vs)(k : κ):(kvs.any λa=>decide (a.1=k))=vs.any λa=>decide (a.1=k):=by
 unfold KV at r
 induction r with
 |nil=>rfl
 |cons h t ih=>rw[List.any_cons,List.any_cons,ih,h.1]
theorem KV.repl(r:KV kvs vs)(k : κ)(c:RelV y u) :
  KV (kvs.map λa=>if a.1=k then (a.1,y) else a) (vs.map λa=>if a.1=k then (a.1,u) else a):=by
 unfold KV at r ⊢
 induction r with
 |nil=>exact .nil
 | @cons p q ps qs h t ih =>
  rw[aD1,aD1]
  refine .cons ?_ ih
  obtain⟨b,d⟩:=h
  by_cases e:p.1=k
  ·rw[aF5 e,aF5 (b.symm.trans e)];exact⟨b,c⟩
  ·rw[aF6 e,aF6 (λz=>e (b.trans z))];exact⟨b,d⟩
theorem KV.put(r:KV kvs vs)(k : κ)(a:RelV y u):KV (putK kvs k y) (stored vs k u):=by
 unfold putK stored
 rw[r.any k]
 by_cases e:(vs.any λb=>decide (b.1=k))=true
 ·rw[aF5 e,aF5 e];exact r.repl k a
 ·rw[aF6 e,aF6 e];exact Paired.snoc r ⟨rfl,a⟩
theorem KV.length{kvs:List (κ × V)}{vs:List (κ × Value)}(r:KV kvs vs):kvs.length=vs.length:=Paired.length r
end
theorem al2(r:RelV (kV k) u):(abg P w).is k u=true:=by
 cases k with
 |inl i=>obtain⟨t,e⟩:=(show ∃ t,u=Value.int i t from r);subst e;exact aor P w i t
 |inr x=>obtain⟨t,e⟩:=(show ∃ t,u=Value.str x t from r);subst e;exact aos P w x t
theorem akr:∀{ks:List Key}{us:List Value},Vals (ks.map kV) us->ItemsAre (abg P w) ks us
 |[],_,r=>by rw[List.map_nil] at r;cases r;exact .nil
 | k::ks,_,r=>by
  rw[aD1] at r
  cases r with
  |cons h t=>exact .cons (al2 h) (akr t)
abbrev KT(H:Hp):List (List Key × V)->List (List Key × Addr × Value)->Prop:=Paired λp q=>p.1=q.1/\H q.2.1=some (.tup (p.1.map kV))/\RelV p.2 q.2.2
theorem KT.val(r:KT H kvs xs)(k:List Key):RelO (valV kvs k) ((atKey xs k).map (·.2)):=by
 induction r with
 |nil=>exact True.intro
 | @cons p q ps qs h t ih =>
  obtain⟨c,_,d⟩:=h
  by_cases e:p.1=k
  ·have a:q.1=k:=c.symm.trans e
   have b:atKey (q::qs) k=some q.2:=by simp[atKey,List.find?_cons,a]
   rw[ah9 e,b];exact d
  ·have a:¬ q.1=k:=λz=>e (c.trans z)
   have b:atKey (q::qs) k=atKey qs k:=by simp[atKey,List.find?_cons,a]
   rw[aia e,b];exact ih
theorem KT.repl(r:KT H kvs xs)(k:List Key)(d:RelV y u) :
  KT H (kvs.map λb=>if b.1=k then (b.1,y) else b) (xs.map (putAt k u)):=by
 induction r with
 |nil=>exact .nil
 | @cons p q ps qs h t ih =>
  rw[aD1,aD1]
  refine .cons ?_ ih
  obtain⟨a,c,f⟩:=h
  unfold putAt
  by_cases e:p.1=k
  ·rw[aF5 e,aF5 (a.symm.trans e)];exact⟨a,c,d⟩
  ·rw[aF6 e,aF6 (λz=>e (a.trans z))];exact⟨a,c,f⟩
theorem KT.put(r:KT H kvs xs)(k:List Key)(hb:H b=some (.tup (k.map kV)))(a:RelV y u) :
  KT H (putK kvs k y) (storedH xs k b u):=by
 have e:(kvs.any λc=>decide (c.1=k))=(atKey xs k).isSome:=by
  rw[aml,(r.val k).isSome_eq,Option.isSome_map]
 unfold putK storedH
 rw[e]
 by_cases q:(atKey xs k).isSome=true
 ·rw[aF5 q,aF5 q];exact r.repl k a
 ·rw[aF6 q,aF6 q];exact Paired.snoc r ⟨rfl,hb,a⟩
theorem KT.keeps(r:KT H kvs xs)(a:∀ b ys,H b=some (.tup ys)->H' b=some (.tup ys)):KT H' kvs xs :=
 Paired.mapP r λ_ _ z=>⟨z.1,a _ _ z.2.1,z.2.2⟩
section
theorem aw8(ok:HOk P w H h)(e:Rd H a u):ObjOk P w H h a u:=e.ok ok
theorem aw9(ok:HOk P w H h)(e:Rd H a (.dK kvs)):kvs.length<=sizeLine/\(a == sysModules)=false/\∃ vs,KV kvs vs/\h.DictOf (abg P w) a vs :=
 show ObjOk P w H h a (.dK kvs) from aw8 ok e
theorem aq2(ok:HOk P w H h)(e:H a=some (.dK kvs)):kvs.length<=sizeLine/\(a == sysModules)=false/\∃ vs,KV kvs vs/\h.DictOf (abg P w) a vs:=aw9 ok (.inl e)
theorem amm(ok:HOk P w H h)(e:H a=some (.tup (ks.map kV))):(tupleKind (abg P w)).is h ks a:=by
 obtain⟨_,its,r,o,b,c,n,d⟩:=(show ObjOk P w H h a (.tup (ks.map kV)) from ok a _ e)
 exact⟨o,its.toArray,n,b,c,d,by simpa using akr r⟩
theorem axa(ok:HOk P w H h)(e:Rd H a (.dT kvs)):kvs.length<=sizeLine/\(a == sysModules)=false /\
  ∃ xs,KT H kvs xs/\h.DictOfH (tupleKind (abg P w)) a xs:=by
 obtain⟨z,y,xs,r,o,es,ep,c,f,g,d,i⟩:=(show ObjOk P w H h a (.dT kvs) from aw8 ok e)
 refine⟨z,y,xs,r,o,es,ep,c,f,g,d,λx b=>?_,i⟩
 have all:∀{l:List (List Key × V)}{m:List (List Key × Addr × Value)},KT H l m->∀ x∈m,(tupleKind (abg P w)).is h x.1 x.2.1:=by
  intro l m q
  induction q with
  |nil=>intro x b;exact nomatch b
  | @cons p q ps qs hq t ih =>
   intro x b
   rcases aA9.mp b with e|b
   ·subst e
    exact amm ok (by rw[← hq.1];exact hq.2.1)
   ·exact ih x b
 exact all r x b
theorem a3d(ok:HOk P w H h)(e:H a=some (.dT kvs)):kvs.length<=sizeLine/\(a == sysModules)=false /\
  ∃ xs,KT H kvs xs/\h.DictOfH (tupleKind (abg P w)) a xs:=axa ok (.inl e)
end
def DGet(H:Hp)(a:Addr)(y:V)(r:Option V):Prop :=
 (∃ kvs k,Rd H a (.dK kvs)/\y=kV k/\r=valV kvs k)\/∃ kvs k b,Rd H a (.dT kvs)/\y=.ref b/\H b=some (.tup (k.map kV))/\r=valV kvs k
def DPut(H:Hp)(a:Addr)(y v:V)(H':Hp):Prop :=
 (∃ kvs k,H a=some (.dK kvs)/\y=kV k/\kvs.length<sizeLine/\H'=upd H a (.dK (putK kvs k v))) ∨
 ∃ kvs k b,H a=some (.dT kvs)/\y=.ref b/\H b=some (.tup (k.map kV))/\kvs.length<sizeLine/\H'=upd H a (.dT (putK kvs k v))
theorem DGet.k{H:Hp}{a:Addr}{kvs:List (Key × V)}{k:Key}(e:H a=some (.dK kvs)):DGet H a (kV k) (valV kvs k):=.inl ⟨kvs,k,.inl e,rfl,rfl⟩
theorem DPut.k{H:Hp}{a:Addr}{kvs:List (Key × V)}{k:Key}{v:V}(e:H a=some (.dK kvs))(b:kvs.length<sizeLine):DPut H a (kV k) v (upd H a (.dK (putK kvs k v))):=.inl ⟨kvs,k,e,rfl,b,rfl⟩
section
theorem Inv.big(I:Inv X pins σ H s):sysModules<s.heap.objs.size:=by
 have h:mainGlobals<s.heap.objs.size:=(I.mod.glob.keeps I.bk).lt
 exact Nat.lt_trans (by decide) h
theorem ax0(j:A.units+1<cLine)(I:Inv X pins σ H s)(g:DGet H a y o)(i:RelV y u)(h:∀ s',Inv X pins σ H s'->Q (.bool (!o.isSome)) s') :
  wpAny (model X.prog X.w) A (compareOp .NotIn u (.ref a)) Q E s:=by
 rcases g with ⟨kvs,k,e,f,l⟩|⟨kvs,k,b,e,f,n,l⟩
 ·subst f
  obtain⟨z,hd,vs,c,d⟩:=aw9 I.hok e
  refine wpAny_notIn_of (al2 i) hd d.mapOf ?_
  rw[← (c.val k).isSome_eq,← l]
  exact h _ (I.tok _)
 ·subst f
  cases (show u=Value.ref b from i)
  obtain⟨z,hd,xs,c,d⟩:=axa I.hok e
  refine wpAny_notIn_heap (tupleKind_room_in1 j) (amm I.hok n) hd d ?_
  have q:=(c.val k).isSome_eq
  rw[Option.isSome_map] at q
  rw[← q,← l]
  exact h _ (I.tok _)
theorem ajs(I:Inv X pins σ H s)(d:Mut (H a))(hs:Heap.SameBut a s.heap h')(f:∃ q,h'.get? a=some q)(new:ObjOk X.prog X.w (upd H a c) h' a c) :
  Inv X pins σ (upd H a c) { s with heap:=h',toks:=t' } :=
 I.write (x:=a) (e:=a) d (.inl rfl) (λb q hb z=>(hs.2 b hb).trans z) f new
theorem asn(z:kvs.length<=sizeLine)(hd:(a == sysModules)=false)(b:KV kvs vs)(c:h'.DictOf (abg P w) a vs) :
  ObjOk P w H' h' a (.dK kvs):=⟨z,hd,vs,b,c⟩
theorem aso(L:A.units+1<cLine)(I:Inv X pins σ H s)(g:DPut H a y v H')(B:RelV y u)(t:RelV v r)(h:∀ s',Inv X pins σ H' s'->Q () s') :
  wpAny (model X.prog X.w) A (setItem (.ref a) u r) Q E s:=by
 rcases g with ⟨kvs,k,e,o,l,j⟩|⟨kvs,k,b,e,o,C,l,j⟩
 ·subst o j
  obtain⟨z,hd,vs,d,n⟩:=aq2 I.hok e
  have hz:vs.length<=sizeLine:=by rw[← d.length];exact z
  have p:(putK kvs k v).length<=sizeLine:=by have:=afq kvs k v;lia
  refine wpAny_setItem_pairs (hsz:=hz) (al2 B) n λh' f hs=>h _ ?_
  have D:∃ q,h'.get? a=some q:=let ⟨q,_,_,i,_⟩:=f;⟨q,i⟩
  exact ajs I (by rw[e];exact True.intro) hs D (asn p hd (d.put k t) f)
 ·subst o j
  cases (show u=Value.ref b from B)
  obtain⟨z,hd,xs,d,n⟩:=a3d I.hok e
  have hz:xs.length<=sizeLine:=by rw[← Paired.length d];exact z
  have p:(putK kvs k v).length<=sizeLine:=by have:=afq kvs k v;lia
  refine wpAny_setItem_heap (hsz:=hz) (tupleKind_room_in1 L) (amm I.hok C) n λh' f hs=>h _ ?_
  obtain⟨q,es,ep,i,G,J,F,_,K⟩:=f
  refine ajs I (by rw[e];exact True.intro) hs ⟨q,i⟩ ⟨p,hd,_,(d.put k C t).keeps λc ys x=>?_,q,es,ep,i,G,J,F,K⟩
  rw[aah (a3b x e (λz=>nomatch z))]
  exact x
end
section
end
def ahk(ty td:TE):TE:=λσ H Q=>ty σ H λy H1=>td σ H1 λx H2=>∃ a o,x=.ref a/\DGet H2 a y o/\Q (.bl (!o.isSome)) H2
def aq3(td ty tv:TE):TS:=λD σ H=>tv σ H λv H1=>td σ H1 λx H2=>ty σ H2 λy H3=>∃ a H4,x=.ref a/\DPut H3 a y v H4/\D.nx σ H4
section
theorem asp(r:X.A.units+1<cLine)(hi:PE X i ty)(p:PE X o td):PC X .NotIn i o (ahk ty td):=by
 intro pins s σ H Q I h
 refine thn (hi pins s σ H _ I h) λw s1 ⟨y,t,n,j,b⟩=>thn (p pins s1 σ t _ n b) λu s2 ⟨x,H2,q,c,a,l,ex,g,f⟩=>?_
 subst ex
 obtain rfl:u=Value.ref a:=c
 exact ax0 r q g j λv d=>⟨.bl (!l.isSome),H2,d,rfl,f⟩
theorem ax1(C:X.A.units+1<cLine)(w:PE X o td)(hi:PE X i ty)(p:PE X value tv)(hs:swapsWith value (some (.Subscript o i pos')) pos.line X.env=pure false) :
  PS X (.Assign [.Subscript o i pos'] value pos) (aq3 td ty tv):=by
 intro pins s σ H D I h
 refine wpAny_Assign_Subscript (thn (p pins s σ H _ I h) λr s1 ⟨v,E,t,j,b⟩=>thn (w pins s1 σ E _ t b) λu s2 ⟨x,H2,B,d,l⟩=>thn (hi pins s2 σ H2 _ B l) λJ F ⟨y,H3,f,n,a,q,ex,g,c⟩=>?_) hs
 subst ex
 obtain rfl:u=Value.ref a:=d
 exact aso C f g n j λG z=>⟨σ,q,z,c⟩
end
theorem auv(h:Heap)(hb:sysModules<h.objs.size):ObjOk P w H (h.push { cls:=.type "dict",data:=.dict #[] }) h.objs.size (.dK []) :=
 ⟨aG0 _,beq_eq_false_iff_ne.mpr (Ne.symm (aB6 hb)),[],.nil,Heap.DictOf.new h⟩
section
end
def amn:List (TE × TE)->St->Hp->(List (V × V)->Hp->Prop)->Prop
 |[],_,H,Q=>Q [] H
 |(tk,tv)::r,σ,H,Q=>tk σ H λx H1=>tv σ H1 λy H2=>amn r σ H2 λps H3=>Q ((x,y)::ps) H3
abbrev VV:List (V × V)->List (Value × Value)->Prop:=Paired λp q=>RelV p.1 q.1/\RelV p.2 q.2
def PPs(X:Cx)(pos:Pos)(keys:List (Option Expr))(values:List Expr)(trs:List (TE × TE)):Prop :=
 ∀(pins:List (Addr × Obj))(s:Shared)(σ:St)(H:Hp)(Q:List (V × V)->Hp->Prop),Inv X pins σ H s->amn trs σ H Q ->
  wpAny (model X.prog X.w) X.A (evalPairs (pairTrees keys values X.env pos)) (λvs s'=>∃ ps H',Inv X pins σ H' s'/\VV ps vs/\Q ps H') X.xe s
theorem ax2:PPs X pos [] [] []:=λpins s σ H Q I h=>pairTrees_nil_walk ⟨[],H,I,.nil,h⟩
theorem auw(p:PE X k d)(o:PE X v c)(hr:PPs X pos ks vs a) :
  PPs X pos (some k::ks) (v::vs) ((d,c)::a):=λpins s σ H Q I h =>
 pairTrees_cons_walk (thn (p pins s σ H _ I h) λu s1 ⟨x,t,q,i,f⟩=>thn (o pins s1 σ t _ q f) λz s2 ⟨y,H2,r,n,l⟩ =>
  thn (hr pins s2 σ H2 _ r l) λws w ⟨ps,H3,j,b,g⟩=>⟨(x,y)::ps,H3,j,.cons ⟨i,n⟩ b,g⟩)
def aej(kvs more:List (Key × V)):List (Key × V):=more.foldl (λacc kv=>putK acc kv.1 kv.2) kvs
theorem KV.merge:∀{more:List (Key × V)}{rs:List (Key × Value)}{kvs:List (Key × V)}{vs:List (Key × Value)},KV more rs->KV kvs vs->KV (aej kvs more) (merged vs rs):=by
 intro more rs kvs vs r
 unfold KV at r
 induction r generalizing kvs vs with
 |nil=>intro q;exact q
 | @cons p q ps qs h t ih =>
  intro a
  have e:KV (putK kvs p.1 p.2) (stored vs q.1 q.2):=by
   have:=a.put p.1 h.2
   rw[← h.1];exact this
  exact ih e
theorem agp:∀(more kvs:List (Key × V)),(aej kvs more).length<=kvs.length+more.length
 |[],kvs=>by show kvs.length<=kvs.length+0;lia
 | p::r,kvs=>by
  have a:=agp r (putK kvs p.1 p.2)
  have b:=afq kvs p.1 p.2
  show(aej (putK kvs p.1 p.2) r).length<=_
  rw[aE6];lia
theorem aiw:∀{kvs:List (Key × V)}{ws:List (Value × Value)},VV (kvs.map λd=>(kV d.1,d.2)) ws->∃ rs,Carries (abg P w) ws rs/\KV kvs rs
 |[],_,r=>by rw[List.map_nil] at r;cases r;exact⟨[],True.intro,.nil⟩
 | p::kvs,_,r=>by
  rw[aD1] at r
  cases r with
  | @cons a b as bs h t =>
   obtain⟨rs,c,q⟩:=aiw (P:=P) (w:=w) t
   obtain⟨b1,f⟩:=b
   exact⟨(p.1,f)::rs,⟨al2 h.1,rfl,c⟩,.cons ⟨rfl,h.2⟩ q⟩
def axb(trs:List (TE × TE)):TE:=λσ H Q=>∀ p,H p=none->amn trs σ (upd H p (.dK [])) λps H2=>H2 p=some (.dK [])/\∃ kvs:List (Key × V),ps=kvs.map (λkv=>(kV kv.1,kv.2))/\kvs.length<=15/\Q (.ref p) (upd H2 p (.dK (aej [] kvs)))
theorem ax3(h:PPs X pos keys b g)(d:keys.all (·.isSome)=true)(y:keys.length=b.length)(n:keys ≠ [])
  (i:keys.length<=15):PE X (.Dict keys b pos) (axb g):=by
 intro pins s σ H Q I q
 have hn:=I.hok.fresh (aA6 s.heap.objs.size)
 have A:=I.laid (a:=s.heap.objs.size) (o:=.dK []) (h':=s.heap.push { cls:=.type "dict",data:=.dict #[] }) (t':=s.toks) (λ_ _ q=>aJ4 _ q) (aA6 _) (auv s.heap I.big)
 refine wpAny_Dict_walk (knd:=abg X.prog X.w) d y n i (thn (h pins _ σ _ _ A (q _ hn)) λws s2 ⟨ps,H2,l,j,e,kvs,ep,D,x⟩=>?_)
 subst ep
 obtain⟨rs,c,C⟩:=aiw (P:=X.prog) (w:=X.w) j
 obtain⟨z,hd,u,v,r⟩:=aq2 l.hok e
 cases v
 refine⟨rs,c,r,λh' f hs=>⟨.ref s.heap.objs.size,_,?_,rfl,x⟩⟩
 have hz:(aej [] kvs).length<=sizeLine:=by
  have p:=agp kvs []
  rw[aJ0] at p
  rw[sizeLine_eq];lia
 have t:∃ q,h'.get? s.heap.objs.size=some q:=let ⟨q,_,_,B,_⟩:=f;⟨q,B⟩
 exact ajs l (by rw[e];exact True.intro) hs t (asn hz hd (C.merge .nil) f)
structure M1(X:Cx)(o:Expr)(m:Str)(apos:Pos)(e:Expr)(cpos:Pos):Prop where
 base:attributeBase o m X.env (eval o X.env)=eval o X.env
 few:((backTo cpos (starEach [e] X.env)).all (λx=>!x.1) && (backToKw cpos (keywordEach [] X.env)).all (λx=>x.1.isSome)
  && decide (([e]:List Expr).length+([]:List Keyword).length+(if ([]:List Keyword).isEmpty then 0 else 1)<30))=true
 line:(apos.endLine == cpos.line)=true
 trees:backTo cpos (starEach [e] X.env)=[(false,eval e X.env)]
structure M2(X:Cx)(o:Expr)(m:Str)(apos:Pos)(e f:Expr)(cpos:Pos):Prop where
 base:attributeBase o m X.env (eval o X.env)=eval o X.env
 few:((backTo cpos (starEach [e,f] X.env)).all (λx=>!x.1) && (backToKw cpos (keywordEach [] X.env)).all (λx=>x.1.isSome)
  && decide (([e,f]:List Expr).length+([]:List Keyword).length+(if ([]:List Keyword).isEmpty then 0 else 1)<30))=true
 line:(apos.endLine == cpos.line)=true
 trees:backTo cpos (starEach [e,f] X.env)=[(false,eval e X.env),(false,eval f X.env)]
section
end
section
end
section
end
section
end
end L2
namespace Att
open PySem PySem.W PySem.Calls PyProof.Rows
theorem aix:∀(ns:List Int)(vs:List Value),WellAll P h vs (ns.map WData.int)->IntsAre vs ns:=by
 intro ns
 induction ns with
 | nil =>
  intro vs w
  rw[List.map_nil] at w
  cases w
  exact .nil
 | cons n ns ih =>
  intro vs w
  rw[aD1] at w
  cases w with
  | cons a b =>
   cases a
   exact .cons _ _ (ih _ b)
theorem asq{l:OpenLaw}{n:Nat}(hn:l.most=some n){P:Params}{h:Heap}{args:List WData}{b:List Value}
  (c:l.row.toRowW.claim.pre args=true) (o:WellAll P h b args) :
  ∃ a vs ns,b=[Value.ref a]/\args=[WData.list (ns.map WData.int)]/\h.get? a=some { cls:=.type "list",data:=.seq vs.toArray }/\IntsAre vs ns/\ns.length<=n:=by
 have j:WShape.hasAll [] args [.list .int]=true:=(pre_splitW c).1
 have p:l.pre.holds [] { args:=args }=true:=(pre_splitW c).2
 obtain⟨d,r,rfl,t,u⟩:=hasAllW_cons j
 obtain rfl:=hasAllW_nil u
 obtain⟨xs,rfl,v⟩:=hasW_list t
 obtain⟨ns,rfl⟩:=items_int v
 have f:ns.length<=n:=by
  unfold OpenLaw.pre at p
  have g:(WTm.not (.lt (.lit (.int (n:Int))) (.len (.arg 0)))).holds [] { args:=[.list (ns.map .int)] }=true:=by
   have g:=(holds_andW p).1
   rw[hn] at g
   exact g
  have i:=condW_of g (w_not (w_lt w_lit (w_len_list (w_arg rfl))))
  rw[aA3] at i
  refine Nat.le_of_not_lt λq=>?_
  have s:(n:Int)<((ns.length:Nat):Int):=by lia
  first
   |(rw[aD8 s] at i;exact absurd i (by decide))
   |(simp at i;lia)
 cases o with
 | cons w1 w2 =>
  cases w2
  cases w1 with
  |list ho hall=>exact⟨_,_,ns,rfl,rfl,ho,aix ns _ hall,f⟩
theorem asr(l:OpenLaw)(args:List WData):l.row.toRowW.claim.post args (.bool true) args=true :=
 postW_of (r:=l.row.toRowW) (X:=(true == true))
  (show WShape.has [] (.bool true) .bool=true by first|rfl|decide|simp[WShape.has,WShape.arms,WShape.armsAll])
  (show(WTm.eq .res (.lit (.bool true))).value [] { args:=args,res:=some (.bool true),after:=args }=some (.bool (true == true)) from w_eq_bool (w_res rfl) w_lit) rfl
theorem attach_call{l:OpenLaw}{n:Nat}{q:Program}{c:List Str}{z:(Str->Option Value)->Heap->Prop}{y:World->Heap->Prop}{d:DefRec}
  (hn:l.most=some n) (u:d.params.defaults=[])
  (call:∀(w:World)(s₀ b:Shared)(mg mb:Str->Option Value)(fa:Addr)(o:Obj)(pm p doc:Value)(a:Addr)(vs:List Value)(ns:List Int),
   Ground q c [] z w s₀ mg mb b.heap->y w b.heap ->
   b.heap.get? fa=some o->o.data=.func (docDef d.name d.params d.body d.scope pm p doc)->b.heap.CodeRec p d.name->mg d.name=some (.ref fa) ->
   b.heap.get? a=some { cls:=.type "list",data:=.seq vs.toArray }->IntsAre vs ns->ns.length<=n->b.gens = #[] ->
   codeAny (model l.prog w) callerA (.call (.ref fa) ⟨[.ref a],[]⟩) (λr s'=>r=.ok (.ret (.bool true))/\OldK b.heap s'.heap/\s'.os=b.os/\AllBare s'.gens) b) :
  WalkO q c z y l.row.toRowW d [] (λf vs=>PySem.call f vs):=by
 intro w s₀ b mg mb G Y fa o pm p doc C kV L hd s B v J args x as j A E t D
 obtain rfl:C=.none:=Dflts.none B u
 obtain rfl:kV=.none:=Dflts.noKw B
 obtain⟨a,vs,ns,rfl,rfl,h,g,i⟩:=asq hn j t
 refine enter_call (aJ7 (call w s₀ b mg mb fa o pm p doc a vs ns G Y L (fd_plain hd) s v h g i J) λr s' K=>?_)
 obtain⟨rfl,H,I,F⟩:=K
 exact⟨.inl ⟨.bool true,.bool true,[],rfl,λ_=>rfl,.bool true,asr l _,λ_=>⟨List.Pairwise.nil,λ_ hm=>(nomatch hm)⟩⟩,H,I,F⟩
section
end
end Att
namespace L2
open PySem PySem.Spec PyProof.Rows
theorem afc:∀{vs:List Value}{ns:List Int},IntsAre vs ns->Vals (ns.map V.int) vs
 |_,_,.nil=>.nil
 |_,_,.cons n t h=>.cons ⟨t,rfl⟩ (afc h)
def Only(H:Hp):Prop:=∀ b,H b=none\/(∃ o xs,H b=some (.frz o (.lst xs)))\/∃ gs,H b=some (.tbl gs)
def afy(K:Frag)(h:Heap):Prop:=∀ c P,PySem.W.tabIn K lamN=some (c,P)->PySem.W.CodeHd h c P/\h.get? P=some (PySem.W.tabObj #[])/\K.lookup P=none
theorem ax4{P:Program}{w:World}{K:Frag}{h:Heap}{H:Hp}{a:Addr}{xs:List V}{l:Obj}(s:afy K h)(ha:h.get? a=some l)(t:l.cls ≠ .none)(n:∀ b,H b=none\/∃ o xs,H b=some (.frz o (.lst xs)))(p:SqL K H a xs)(hok:HOk P w H h)(f:∀ b,H b ≠ none->b=a)(j:H a ≠ none->K.lookup a=none) :
  ∃ H':Hp,Only H'/\SqL K H' a xs/\HOk P w H' h/\(∀ b,H' b ≠ none->(b=a/\K.lookup a=none)\/∃ c,PySem.W.tabIn K lamN=some (c,b))/\TabsOk K H':=by
 cases q:PySem.W.tabIn K lamN with
 | none =>
  refine⟨H,λb=>(n b).elim .inl λz=>.inr (.inl z),p,hok,λb z=>.inl ⟨f b z,j ?_⟩,λc P e=>by rw[q] at e;cases e⟩
  have:=f b z;subst this;exact z
 | some cP =>
  obtain⟨c,T⟩:=cP
  obtain⟨_,i,x⟩:=s c T q
  have g:T ≠ a:=λz=>by subst z;rw[ha] at i;cases i;exact t rfl
  have hn:H T=none:=by
   cases e:H T with
   |none=>rfl
   |some u=>exact absurd (f T (by rw[e];simp)) g
  refine⟨upd H T (.tbl #[.str lamQ 0]),λb=>?_,?_,λb u z=>?_,λb z=>?_,λy A e=>?_⟩
  ·by_cases hb:b=T
   ·subst hb;exact .inr (.inr ⟨_,aam⟩)
   ·rw[aah hb];exact(n b).elim .inl λz=>.inr (.inl z)
  ·rcases p with (r|⟨o,r⟩)|r
   ·exact .inl (.inl (by rw[aah (Ne.symm g)];exact r))
   ·exact .inl (.inr ⟨o,by rw[aah (Ne.symm g)];exact r⟩)
   ·exact .inr r
  ·by_cases hb:b=T
   ·subst hb
    rw[aam] at z;cases z
    exact⟨#[],i,trivial,λpos v e=>by simp[codeAmong] at e⟩
   ·rw[aah hb] at z
    exact(hok b u z).stay (λ_ _ _ r=>r) (λd r=>by rw[aah (aau r hn)];exact r) λd ys r=>by rw[aah (aau r hn)];exact r
  ·by_cases hb:b=T
   ·subst hb;exact .inr ⟨c,rfl⟩
   ·rw[aah hb] at z
    have:=f b z;subst this;exact .inl ⟨rfl,j z⟩
  ·rw[q] at e;cases e
   exact⟨#[],by rw[aam];rfl⟩
theorem aux{P:Program}{w:World}{K:Frag}{mg mb:Str->Option Value}{CX:CXT}{k:Nat}{fa a:Addr}{fd:FuncData}{x:Str}{sp:Sp}{f:Shared}{vs:List Value}{ns:List Int}
  (KX:K.In f.heap) (B:f.heap.Ns mainGlobals mg) (hb:f.heap.Ns builtinsNs mb) (Y:∀ x:Str,x ≠ "__name__"->mb x=bootBuiltins x) (M:f.heap.NoLimit) (hg:f.gens = #[])
  (ha:f.heap.get? a=some { cls:=.type "list",data:=.seq vs.toArray }) (hi:IntsAre vs ns) (hl:ns.length<=sizeLine) (hr:Room k callerA) (i:afy K f.heap) (Z:awy mg f.heap)
  (F:∀ base:Heap,K.In base->base.Ns mainGlobals mg->FnOk P w K mg base CX k fa fd [x] sp) (y:∀(s:Shared)(u:Value),BindsTo s fd ⟨[u],[]⟩ [(x,u)])
  (Q:∀ H:Hp,Only H->SqL K H a (ns.map V.int)->sp [.ref a] H (λv _=>v=.bl true) λ_ _ _=>False)
  (S:∀ H e s',CX [] H f (λ_ _ _=>False) e s'->False) :
  codeAny (model P w) callerA (.call (.ref fa) ⟨[.ref a],[]⟩) (λr s'=>r=.ok (.ret (.bool true))/\OldK f.heap s'.heap/\s'.os=f.os/\AllBare s'.gens) f:=by
 have rv:=afc hi
 have I:=hi.length
 -- from an abstract heap in which nothing but the script may be tracked
 have t:∀ H:Hp,(∀ b,H b=none\/∃ o xs,H b=some (.frz o (.lst xs)))->SqL K H a (ns.map V.int)->HOk P w H f.heap->(∀ b,H b ≠ none->b=a)->(H a ≠ none->K.lookup a=none) ->
   codeAny (model P w) callerA (.call (.ref fa) ⟨[.ref a],[]⟩) (λr s'=>r=.ok (.ret (.bool true))/\OldK f.heap s'.heap/\s'.os=f.os/\AllBare s'.gens) f:=by
  intro H N X hok A hK
  obtain⟨H,N,X,hok,A,hT⟩:=ax4 i ha (by intro z;cases z) N X hok A hK
  have g:∀{b:Addr}{o:Obj},f.heap.get? b=some o->H b=none->(hidT f.heap H).get? b=some o:=λe n=>aup e n
  have W:∀{b:Addr}{o:Obj}{es:Array DictEntry}{ep:Nat},f.heap.get? b=some o->o.data=.dict es ep->H b=none:=λ{b o es ep} e d=>by
   cases q:H b with
   |none=>rfl
   | some u =>
    rcases A b (by rw[q];simp) with ⟨j,_⟩|⟨c,j⟩
    ·subst j
     rw[ha] at e;cases e
     have d':Data.seq vs.toArray _=Data.dict es ep:=d
     cases d'
    ·have E:=(i c b j).2.1
     rw[E] at e;cases e;cases d
  have l:∀{b:Addr}{m:Str->Option Value},f.heap.Ns b m->(hidT f.heap H).Ns b m:=λ{b m} ⟨o,es,ep,e,d,r⟩=>⟨o,es,ep,g e (W e d),d,r⟩
  have L:K.In (hidT f.heap H):=λb o e=>g (KX b o e) (by
   cases q:H b with
   |none=>rfl
   | some u =>
    rcases A b (by rw[q];simp) with ⟨j,G⟩|⟨c,j⟩
    ·subst j
     rw[G] at e;cases e
    ·rw[(i c b j).2.2] at e;cases e)
  have hM:Mod K mg (hidT f.heap H):=⟨L,l B,⟨mb,l hb,Y⟩,let ⟨mc,h1,h2⟩:=M;⟨mc,l h1,h2⟩,by
   obtain⟨O,R,b1,b2,D,U,b5⟩:=Z
   refine⟨O,R,b1,b2,g D ?_,U,b5⟩
   cases q:H O with
   |none=>rfl
   | some u =>
    rcases A O (by rw[q];simp) with ⟨j,_⟩|⟨c,j⟩
    ·subst j
     rw[ha] at D;cases D
     have b6:Value.type "list" = Value.type "module":=U
     injection b6 with z
     exact absurd z (by decide)
    ·rw[(i c O j).2.1] at D;cases D;cases U⟩
  have e0:Env0 P w K mg (hidT f.heap H) callerA [] f H:=⟨rfl,hM,λb o e=>axu e,Nat.le_of_eq (ar9 _ _),trivial,λb hb=>absurd (show b∈([]:List Addr) from hb) (by simp),hT,hok,.of_eq hg⟩
  refine aJ7 ((F _ L (l B)).run callerA [] f H ⟨[.ref a],[]⟩ [.ref a] [.ref a] _ _ hr e0 (y f (.ref a)) (.cons rfl .nil) (Q H N X)) λr s' h=>?_
  cases r with
  |error e=>exact(S H e s' h).elim
  | ok fl =>
   cases fl with
   |next=>exact False.elim h
   |brk=>exact False.elim h
   |cont=>exact False.elim h
   | ret u =>
    obtain⟨v,H',os,bare,un,p,r',q⟩:=h
    have q':v=.bl true:=q
    subst q'
    obtain rfl:u=Value.bool true:=r'
    refine⟨rfl,⟨λb o e=>?_,λb o e=>un.there b o e (by simp)⟩,os,bare⟩
    cases q:H b with
    |none=>exact .inl (un.keep b o e q (by intro z;exact absurd (show b∈([]:List Addr) from z) (by simp)) (by simp))
    | some u =>
     rcases N b with z|⟨R,xs,z⟩|⟨gs,z⟩
     ·rw[q] at z;cases z
     ·refine .inl ?_
      have T:=un.frzs b R _ z
      obtain⟨e1,_⟩:=hok b _ z
      obtain⟨E,_⟩:=p b _ T
      rw[e] at e1;cases e1
      exact E
     ·obtain⟨m,T⟩:=un.tbls b gs z
      obtain⟨ps,E,_⟩:=p b _ T
      rcases A b (by rw[q];simp) with ⟨j,_⟩|⟨c,j⟩
      ·subst j
       obtain⟨a1,J,_⟩:=hok b _ z
       rw[ha] at J;cases J
      ·have J:=(i c b j).2.1
       rw[J] at e;cases e
       refine .inr (.inl ⟨((i c b j).1.tab J).isCodeTable,rfl,#[],ps,rfl,?_⟩)
       rw[E];simp
 cases G:K.lookup a with
 | some o =>
  -- the script is one of the module's own objects
  have e:=KX a o G
  rw[ha] at e
  cases e
  refine t (λ_=>none) (λ_=>.inl rfl) (.inr ⟨_,vs.toArray,_,G,rfl,rfl,rfl,by rw[aB2,I];exact hl,by simpa using rv⟩) (λb u z=>by have C:(none:Option HO)=some u:=z;cases C) (λb z=>absurd rfl z) λz=>absurd rfl z
 | none =>
  refine t (λb=>if b=a then some (.frz { cls:=.type "list",data:=.seq vs.toArray } (.lst (ns.map V.int))) else none) (λb=>?_) (.inl (.inr ⟨{ cls:=.type "list",data:=.seq vs.toArray },aF5 rfl⟩)) (λb u z=>?_) (λb z=>?_) λ_=>G
  ·by_cases hb:b=a
   ·exact .inr ⟨_,_,aF5 hb⟩
   ·exact .inl (aF6 hb)
  ·by_cases hb:b=a
   ·have C:=(aF5 hb).symm.trans z
    cases C
    subst hb
    exact⟨ha,by rw[aA3];exact hl,vs,_,rv,ha⟩
   ·have C:=(aF6 hb).symm.trans z
    cases C
  ·by_cases hb:b=a
   ·exact hb
   ·exact absurd (aF6 hb) z
abbrev KOf{K:Frag}{h:Heap}(_:K.In h):Frag:=K
theorem walk_of{l:PySem.W.OpenLaw}{n k:Nat}{q:Program}{i:List Str}{L:(Str->Option Value)->Heap->Prop}{A:World->Heap->Prop}{d:DefRec}{K:Params->Frag}{CX:World->CXT}{sp:World->Sp}{x:Str}
  (hn:l.most=some n) (E:n<=sizeLine) (B:d.params.defaults=[]) (hr:Room k callerA)
  (Q:∀(w:World)(h:Heap),A w h->(K w.params).In h)
  (z:∀(w:World)(lo:List Str)(mg mb:Str->Option Value)(t:ExcName->Option Value)(h:Heap),PyProof.Rows.Top q lo t mg mb h->A w h->afy (K w.params) h)
  (F:∀(w:World)(mg:Str->Option Value)(fa:Addr)(h:Heap),(K w.params).In h->h.Ns mainGlobals mg->mg d.name=some (.ref fa) ->
   ∃ fd:FuncData,(∀(s:Shared)(u:Value),BindsTo s fd ⟨[u],[]⟩ [(x,u)]) /\
    ∀ base:Heap,(K w.params).In base->base.Ns mainGlobals mg->FnOk l.prog w (K w.params) mg base (CX w) k fa fd [x] (sp w))
  (y:∀(w:World)(H:Hp)(a:Addr)(ns:List Int),ns.length<=n->Only H->SqL (K w.params) H a (ns.map V.int)->sp w [.ref a] H (λv _=>v=.bl true) λ_ _ _=>False)
  (D:∀(w:World)(H:Hp)(s:Shared)(e:Value)(s':Shared),CX w [] H s (λ_ _ _=>False) e s'->False) :
  PySem.W.WalkO q i L A l.row.toRowW d [] (λf vs=>PySem.call f vs):=by
 refine Att.attach_call hn B λw s₀ r mg mb fa o pm R doc a vs ns G Y S hd M C p j c P=>?_
 have I:=Q w _ Y
 obtain⟨fd,hb,O⟩:=F w mg fa _ I G.T.g C
 exact aux I G.T.g G.T.b G.T.builtins G.T.nolimit P p j (aD0 c E) hr (z w _ _ _ _ _ G.T Y) G.T.bmain O hb (λH N J=>y w H a ns c N J) λH e s'=>D w H r e s'
end L2
/- THE LAST THEOREM (shape; LID, My.* are yours):
  My.Adr: a structure of the addresses that your layer names (classes,functions);My.Txt K t: a structure (Prop) of the equations over K;
  My.txt_mk:{K} {implicit addresses ..} (e1:nsIn K mainGlobals "law" = some (some (.ref f))) (e2:K.lookup f=some ⟨oc,od,.func (fnOf "law" "law" params body scope dV kV doc pm an cdv ct),sl⟩) (e3:codeIn K cdv "law" = true) .. : ∃ t,My.Txt K t
set_option maxRecDepth 100000 in
set_option maxHeartbeats 0 in
theorem PySem.Challenge.cw_LID_holds : PySem.Challenge.rw_LID.Holds := by
 w_on;o_law;k_head;(case hw=>w_witness2)
 k_fill
 refine L2.walk_of (l:=PySem.Challenge.rw_LID) (n:=63) (k:=40) (x:="script") (CX:=λw=>..) (sp:=λ_=>My.sp_law) rfl (by decide) rfl ⟨rfl,by decide,by decide⟩ (λw h Y=>PySem.W.kIn_of Y) ?F ?S ?C
 case F =>
  intro w mg fa h KX G hmg
  have T:∃ t,My.Txt (L2.KOf KX) t:=by
   dsimp only[L2.KOf]                          -- K must stand as «<heap const> w.params» for k_is
   refine' My.txt_mk ?e1 ?e2 ?e3 ..
   (case e1=>PySem.W.k_is)                    -- in the order: a name -> its address -> its object -> its parts
   (case e2=>PySem.W.k_is)
   ..
  obtain⟨t,T⟩:=T
  have e0:=hmg.symm.trans (mg_of KX G T.law)
  cases e0                                       -- fa is the law's own address
  exact⟨_,λs u=>.of_eq rfl,λbase kb nb=>My.law_fn T kb nb⟩     -- if «.of_eq rfl» comes too early: refine'⟨_,?b,λbase kb nb=>My.law_fn T kb nb⟩;exact λs u=>.of_eq rfl
 case S=>exact λw H a ns hl hO hS=>..
 case C=>exact ..
(the tactic k_is has no namespace: write k_is) -/
namespace L2
open PySem PySem.Spec PyProof.Rows
def acx(s:Stmt):Arguments:=match s with
 | .FunctionDef _ a _ _ _ _ _ _ _ _=>a
 |_=>{ posonlyargs:=[],args:=[],vararg:=none,kwonlyargs:=[],kw_defaults:=[],kwarg:=none,defaults:=[] }
def acn(s:Stmt):List Stmt:=match s with
 | .FunctionDef _ _ b _ _ _ _ _ _ _=>b
 |_=>[]
def aaj(s:Stmt):Scope:=match s with
 | .FunctionDef _ _ _ _ _ _ sc _ _ _=>sc
 |_=>{ kind:=.function,names:=[],isGenerator:=false,isCoroutine:=false }
abbrev CX0:CXT:=λ_ _ _ _ _ _=>False
abbrev E0:XK:=λ_ _ _=>False
theorem a3e:amh CX0 X E0:=λ_ _ _ _ _ _ _ h=>h.elim
structure Fun(K:Frag)(x qual:Str)(st:Stmt)(f:Addr)(fd:FuncData):Prop where
 ex:∃(oc:Value)(od:Option Addr)(kV doc pm:Value)(an:Option Addr)(cdv ct:Value)(osl:Array (Option Value)),
  fd=fnOf x qual (acx st) (acn st) (aaj st) .none kV doc pm an cdv ct/\K.lookup f=some ⟨oc,od,.func fd,osl⟩/\codeIn K cdv qual=true
 kp:keepIn K (.ref f)=true
section
variable{P:Program}{w:World}{K:Frag}{mg:Str->Option Value}{base:Heap}
theorem Fun.ok{x qual:Str}{st:Stmt}{f:Addr}{fd:FuncData}{N ps:List Str}{k:Nat}{sp:Sp}(F:Fun K x qual st f fd)(S:FnScope N ps (aaj st))(len:∀ vs H Q E,sp vs H Q E->vs.length=ps.length)
  (a:∀(cdv:Value)(A:Around)(outer:List Env)(s:Shared)(H:Hp)(vs:List V)(Q:VK)(E:XK),Room k (A.deeper (envOfC qual (aaj st) s.heap.objs.size f cdv))->sp vs H Q E ->
   ∃ t,PSs (cxOf CX0 P w K mg base N qual (aaj st) f cdv A outer s H E).nox (acn st) t/\t { nx:=λ_ H'=>Q .non H',rt:=Q } (start N vs) H):FnOk P w K mg base CX0 (k+1) f fd ps sp:=by
 obtain⟨oc,od,kV,doc,pm,an,cdv,ct,osl,rfl,d,c⟩:=F.ex
 refine a3c d c S len λA outer s H vs Q E hr b=>?_
 obtain⟨t,h,q⟩:=a cdv A outer s H vs Q E hr b
 exact⟨t,h.nox,q⟩
theorem Fun.binds{x qual:Str}{st:Stmt}{f:Addr}{fd:FuncData}{ps:List Str}(F:Fun K x qual st f fd)
  (h:∀(kV doc pm:Value)(an:Option Addr)(cdv ct:Value)(us:List Value),us.length=ps.length->bindArgs (fnOf x qual (acx st) (acn st) (aaj st) .none kV doc pm an cdv ct) ⟨us,[]⟩=pure (ps.zip us)):Binds K fd ps []:=by
 obtain⟨oc,od,kV,doc,pm,an,cdv,ct,osl,rfl,b,a⟩:=F.ex
 exact .all (h kV doc pm an cdv ct)
theorem a02{x qual:Str}{st:Stmt}{f:Addr}{oc:Value}{od an:Option Addr}{osl:Array (Option Value)}{kV doc pm cdv ct:Value}(l:K.lookup f=some ⟨oc,od,.func (fnOf x qual (acx st) (acn st) (aaj st) .none kV doc pm an cdv ct),osl⟩)
  (c:codeIn K cdv qual=true) (k:keepIn K (.ref f)=true):Fun K x qual st f (fnOf x qual (acx st) (acn st) (aaj st) .none kV doc pm an cdv ct):=⟨⟨oc,od,kV,doc,pm,an,cdv,ct,osl,rfl,l,c⟩,k⟩
end
theorem axc(hr:Room k A):A.units+1<cLine:=aE4 (Nat.add_le_add_left (by decide:1<=64) _) hr.units
theorem afd(h:n<=1000):n<sizeLine:=aE4 h (by decide)
section
variable{X:Cx}
theorem pv(i:Nat)(c:X.N[i]?=some x:=by rfl)(b:Vis X.env.scope x:=by first|exact Or.inl rfl|exact Or.inr (Or.inl rfl)|exact Or.inr (Or.inr rfl))(hd:(x == ("__debug__" : Str))=false:=by decide)
  (a:(x == ("__classdict__" : Str))=false:=by decide):PE X (.Name x pos) (tVar i):=a0o c b hd a
end
theorem iteF{A B:Prop}(h:B):if false=true then A else B:=by
 rw[aF6 aB0]
 exact h
theorem iteT{A B:Prop}(h:A):if true=true then A else B:=by
 rw[aF5 rfl]
 exact h
def Same(H H':Hp):Prop:=∀ b o,H b=some o->H' b=some o
theorem Same.refl(H:Hp):Same H H:=λ_ _ h=>h
theorem Same.trans(a:Same H d)(b:Same d H2):Same H H2:=λc o h=>b c o (a c o h)
theorem Same.seq{K:Frag}{H H':Hp}{a:Addr}{xs:List V}(e:Same H H')(h:SqL K H a xs):SqL K H' a xs:=by
 rcases h with (h|⟨o,h⟩)|h
 ·exact .inl (.inl (e _ _ h))
 ·exact .inl (.inr ⟨o,e _ _ h⟩)
 ·exact .inr h
section
variable{X:Cx}
end
section
variable{κ:Type} [DecidableEq κ]
end
def clos(env:Env):List (Str × NameKind)->List (Str × Addr)->List (Str × Addr)
 |[],cs=>cs
 |(n,k)::r,cs=>if k == NameKind.free then (match env.cells.lookup n with|some a=>clos env r ((n,a)::cs)|none=>clos env r cs) else clos env r cs
theorem aiy(h:∀ n,(n,NameKind.free)∈sc.names->∃ a,env.cells.lookup n=some a):closureFor sc env=pure (clos env sc.names []):=by
 have all:∀(l:List (Str × NameKind))(cs:List (Str × Addr)),(∀ n,(n,NameKind.free)∈l->∃ a,env.cells.lookup n=some a) ->
   (forIn l cs λ(x:Str × NameKind)(cs:List (Str × Addr))=>match x with|(name,kind)=>if kind == NameKind.free then (do let a ← cellOf env name;pure (ForInStep.yield ((name,a)::cs))) else pure (ForInStep.yield cs))=(pure (clos env l cs):Sem _):=by
  intro l
  induction l with
  |nil=>intro cs _;rfl
  | cons p r ih =>
   intro cs c
   obtain⟨n,k⟩:=p
   rw[List.forIn_cons]
   unfold clos
   dsimp only
   cases hk:(k == NameKind.free) with
   | false =>
    simp only[Bool.false_eq_true,if_false,pure_bind]
    exact ih cs λm hm=>c m (aB5 _ hm)
   | true =>
    have d:k=NameKind.free:=by simpa using hk
    subst d
    obtain⟨a,ha⟩:=c n aB8
    have f:cellOf env n=pure a:=by unfold cellOf;rw[ha]
    simp only[if_true,f,pure_bind,ha]
    exact ih _ λm hm=>c m (aB5 _ hm)
 have e:=all sc.names [] h
 unfold closureFor
 refine Eq.trans (b:=(pure (clos env sc.names []):Sem _) >>= λcs=>pure cs) ?_ (pure_bind _ _)
 exact congrArg (λz:Sem (List (Str × Addr))=>z >>= λcs=>pure cs) e
theorem afe:∀{l:List (Str × NameKind)}{cs:List (Str × Addr)},(clos env l cs).lookup x=some c->env.cells.lookup x=some c\/cs.lookup x=some c
 |[],cs,h=>.inr h
 | (n,k)::r,cs,h=>by
  unfold clos at h
  by_cases hk:(k == NameKind.free)=true
  ·rw [aF5 hk] at h
   cases ha:env.cells.lookup n with
   |none=>rw[ha] at h;exact afe h
   | some a =>
    rw[ha] at h
    rcases afe h with e|e
    ·exact .inl e
    ·rw[aG9] at e
     cases hx:(x == n) with
     | true =>
      rw[hx] at e
      have:x=n:=by simpa using hx
      subst this
      cases e
      exact .inl ha
     |false=>rw[hx] at e;exact .inr e
  ·rw[aF6 hk] at h
   exact afe h
theorem aff:∀{l:List (Str × NameKind)}{cs:List (Str × Addr)},(∃ c,cs.lookup x=some c)->∃ c,(clos env l cs).lookup x=some c
 |[],cs,h=>h
 | (n,k)::r,cs,h=>by
  unfold clos
  by_cases hk:(k == NameKind.free)=true
  ·rw[aF5 hk]
   cases ha:env.cells.lookup n with
   |none=>exact aff h
   | some a =>
    refine aff ?_
    rw[aG9]
    cases hx:(x == n) with
    |true=>exact⟨_,rfl⟩
    |false=>exact h
  ·rw[aF6 hk]
   exact aff h
theorem ae2(h:∃ a,env.cells.lookup x=some a):∀{l:List (Str × NameKind)}{cs:List (Str × Addr)},(x,NameKind.free)∈l->∃ c,(clos env l cs).lookup x=some c
 |[],_,hm=>absurd hm (by simp)
 | (n,k)::r,cs,hm=>by
  rcases aA9.mp hm with e|hm
  ·cases e
   obtain⟨a,ha⟩:=h
   unfold clos
   rw[aF5 (by rfl),ha]
   refine aff ⟨a,?_⟩
   rw[aG9]
   simp
  ·unfold clos
   by_cases hk:(k == NameKind.free)=true
   ·rw[aF5 hk]
    cases ha:env.cells.lookup n with
    |none=>exact ae2 h hm
    |some a=>exact ae2 h hm
   ·rw[aF6 hk]
    exact ae2 h hm
theorem agu{env:Env}{x:Str}:∀{names:List (Str × NameKind)},(∀ y∈names,y.2 ≠ .cell) ->
  ((names.map λ(n,k)=>if (k == NameKind.free && env.scope.kind == .function && env.kindOf n == some .cell) then (n,NameKind.cell) else (n,k)).lookup x=some .cell ∨
   (names.map λ(n,k)=>if (k == NameKind.free && env.scope.kind == .function && env.kindOf n == some .cell) then (n,NameKind.cell) else (n,k)).lookup x=some .free)->names.lookup x=some .free
 |[],_,h=>by rcases h with h|h <;> simp at h
 | (n,k)::r,hc,h=>by
  have a:=@agu env x r λy b=>hc y (aB5 _ b)
  rw[aG9]
  simp only[aD1] at h
  by_cases hq:(k == NameKind.free && env.scope.kind == .function && env.kindOf n == some .cell)=true
  ·rw[aF5 hq] at h
   have c:k=NameKind.free:=by
    have:=hq;simp only[aH1] at this;simpa using this.1.1
   subst c
   cases hx:(x == n) with
   |true=>rfl
   |false=>simp only[aG9,hx] at h;exact a h
  ·rw[aF6 hq] at h
   cases hx:(x == n) with
   | true =>
    simp only[aG9,hx] at h
    rcases h with h|h
    ·cases h;exact absurd rfl (hc (n,NameKind.cell) aB8)
    ·exact h
   |false=>simp only[aG9,hx] at h;exact a h
theorem afg{env:Env}{x:Str}:∀{names:List (Str × NameKind)},names.lookup x=some .free ->
  ((names.map λ(n,k)=>if (k == NameKind.free && env.scope.kind == .function && env.kindOf n == some .cell) then (n,NameKind.cell) else (n,k)).lookup x=some .cell ∨
   (names.map λ(n,k)=>if (k == NameKind.free && env.scope.kind == .function && env.kindOf n == some .cell) then (n,NameKind.cell) else (n,k)).lookup x=some .free)
 |[],h=>by simp at h
 | (n,k)::r,h=>by
  have a:=@afg env x r
  rw[aG9] at h
  simp only[aD1]
  by_cases hq:(k == NameKind.free && env.scope.kind == .function && env.kindOf n == some .cell)=true
  ·rw[aF5 hq]
   cases hx:(x == n) with
   |true=>left;simp[aG9,hx]
   |false=>rw[hx] at h;simp only[aG9,hx];exact a h
  ·rw[aF6 hq]
   cases hx:(x == n) with
   |true=>rw[hx] at h;right;simp only[aG9,hx];exact h
   |false=>rw[hx] at h;simp only[aG9,hx];exact a h
def Cx.comp(X:Cx)(N:List Str)(sc:Scope)(C:Addr)(s0:Shared)(H0:Hp)(ex:List Addr):Cx where
 prog:=X.prog
 w:=X.w
 K:=X.K
 mg:=X.mg
 base:=X.base
 A:=X.A
 N:=N
 s₀:=s0
 H₀:=H0
 env:=compEnvC sc (clos X.env sc.names []) C X.env
 outer:=X.stack
 stack:=X.stack
 ex:=ex
 fn:=λ_=>false
 calm:=X.calm
 pn:=[]
 xe:=λ_ _=>False
def pick(src:List (Option Nat))(σ:St):St:=src.map λo=>match o with|some j=>(σ[j]?).getD none|none=>none
structure LcOk(X:Cx)(N:List Str)(sc:Scope)(src:List (Option Nat)):Prop where
 kind:sc.kind=.function
 nocell:∀ y∈sc.names,y.2 ≠ .cell
 own:∀ y∈sc.names,y.2=.local->sc.names.lookup y.1=some .local
 outs:∀ y∈sc.names,y.2=.free->X.env.kindOf y.1=some .cell\/X.env.kindOf y.1=some .free
 len:src.length=N.length
 from':∀(i j:Nat),src[i]?=some (some j)->∃ x,N[i]?=some x/\X.N[j]?=some x/\sc.names.lookup x=some .free
theorem LcOk.clo(L:LcOk X N sc src)(ok:X.Ok):closureFor sc X.env=pure (clos X.env sc.names []) :=
 aiy λn hn=>ok.has n (L.outs (n,.free) hn rfl)
theorem amo           
  (L:LcOk X N sc src) (I:Inv X pins σ H s) (hf:∀ b∈fp,FpOk X pins H b) (g:∀ b∈fp,b<s.heap.objs.size)
  (hn:h.Ns s.heap.objs.size λ_=>none) (f:∀ b o,s.heap.get? b=some o->h.get? b=some o) :
  Inv (X.comp N sc s.heap.objs.size s H fp) [] (pick src σ) H { s with heap:=h,toks:=t' }:=by
 have look:∀{x c},(clos X.env sc.names []).lookup x=some c->X.env.cells.lookup x=some c:=λ{x c} e=>by
  rcases afe e with z|z
  ·exact z
  ·simp at z
 refine⟨⟨I.ok.mod,L.kind,I.ok.glob,I.ok.blt,aA6 _,λx y c n a=>?_,λx K=>?_,λx c z _=>?_,I.ok.hd,I.ok.frames,.inl rfl,λb hb=>⟨?_,λx c e=>?_⟩,I.bs,aD0 I.ok.bsz I.sz,λb o e hb=>?_,λb hb z=>?_,I.stack,I.stkFree,I.tab⟩,
  rfl,I.bare,Un.kept f,⟨_,hn,λi x v n a O=>?_⟩,λx c e=>?_,I.hok.fresh (aA6 _),λx c e=>I.freeC x c (look e),λp F=>?_,I.hok.kept f,?_⟩
 ·exact I.ok.inj x y c (look n) (look a)
 ·have q:=agu (env:=X.env) (x:=x) L.nocell K
  exact ae2 (I.ok.has x (L.outs (x,.free) (PySem.mem_of_lookup q) rfl)) (PySem.mem_of_lookup q)
 ·exact Bool.noConfusion z
 ·exact aB6 (g b hb)
 ·exact(hf b hb).2.2.2.2.1 x c (look e)
 ·rcases(hf b hb).2.2.2.1 with z|z
  ·exact I.ok.noex b o e z
  ·exact absurd (aC5 (aJ5 e) (aD0 I.ok.bsz z)) (aG4 _)
 ·rcases aA9.mp (I.stkSub b z) with q|q
  ·exact(hf b hb).2.1 q
  ·exact(hf b hb).2.2.1 q
 ·unfold pick at a
  rw[aA5] at a
  cases q:src[i]? with
  |none=>rw[q] at a;cases a
  | some o =>
   rw[q] at a
   cases o with
   |none=>cases a
   | some j =>
    obtain⟨y,D,M,w⟩:=L.from' i j q
    have A:N[i]?=some x:=n
    rw[A] at D
    cases D
    have J : σ[j]?=some (some v):=by
     cases q2 : σ[j]? with
     |none=>simp[q2] at a
     |some z=>simp[q2] at a;rw[a]
    have g:=L.outs (x,.free) (PySem.mem_of_lookup w) rfl
    have t:Vis X.env.scope x:=by
     rcases g with z|z
     ·exact .inr (.inl z)
     ·exact .inr (.inr z)
    obtain⟨m,_,G⟩:=I.loc
    obtain⟨u,r,l⟩:=G j x v M J t
    refine⟨u,r,.inr ⟨?_,?_⟩⟩
    ·exact afg (env:=X.env) w
    ·rcases l with ⟨z,_⟩|⟨_,c,E,oc,d,hd⟩
     ·rcases g with C|C <;> (rw[C] at z;cases z)
     ·obtain⟨P,B⟩:=ae2 (env:=X.env) ⟨c,E⟩ (PySem.mem_of_lookup w) (cs:=[])
      have:=look B
      rw[E] at this;cases this
      exact⟨c,B,oc,f c oc d,hd⟩
 ·obtain⟨v,oc,d,hd⟩:=I.cell x c (look e)
  exact⟨v,oc,f c oc d,hd⟩
 ·exact absurd (show p∈([]:List (Addr × Obj)) from F) (by simp)
 ·show(pick src σ).length=N.length
  unfold pick
  rw[aA3]
  exact L.len
def PIf(X:Cx)(ifs:List Expr)(t:TT):Prop :=
 ∀(pins:List (Addr × Obj))(s:Shared)(σ:St)(H:Hp)(Q:Bool->Hp->Prop),Inv X pins σ H s->t σ H Q ->
  wpAny (model X.prog X.w) X.A (forIn ifs true λc r=>if r=true then do let ok ← isTrue c X.env (eval c X.env);pure (ForInStep.yield ok) else pure (ForInStep.yield r)) (TP X pins σ Q) X.xe s
def tYes:TT:=λ_ H Q=>Q true H
theorem ab7:PIf X [] tYes:=λ_ _ _ H _ I h=>wpAny_tests_nil ⟨H,I,h⟩
theorem acy(h:PT X c t):PIf X [c] t:=λpins s σ H Q I q=>wpAny_tests_one (h pins s σ H Q I q)
abbrev LW:=Nat->Nat->List V->St->Hp->Prop
def amp(J:It)(g:TG)(tif:TT)(te:TE)(acc:Addr)(Qd:List V->Hp->Prop)(W:LW):Prop:=∀(i m:Nat)(ys:List V)(σ:St)(H:Hp),W i m ys σ H->H acc=some (.lst ys)/\((J.stop i H/\Qd ys H)\/(J.go i H /\
 ∃ Nx:List V->St->Hp->Prop,(∀ ys' σ' H',Nx ys' σ' H'->∃ m',m'<m/\W (i+1) m' ys' σ' H')/\∀ x H2,J.yld i H x H2 ->
 g x σ H2 λσ3 H3=>tif σ3 H3 λb H4=>if b=true then te σ3 H4 λy H5=>H5 acc=some (.lst ys)/\ys.length<sizeLine/\Nx (ys++[y]) σ3 (upd H5 acc (.lst (ys++[y]))) else Nx ys σ3 H4))
theorem ass                
  (T:Turn X.prog X.w X.K tg J fp it tn) (hc:X.calm=true) (j:∀ e s,¬ X.xe e s) (hg:PG X tg g) (Y:PIf X B F) (he:PE X q te)
  (G:amp J g F te a Qd W) (hR:∀ ys σ H s,Inv X [] σ H s->Qd ys H->R (.ok .next) s)
       (I:Inv X [] σ H s) (st:tn i s.heap) (hf:∀ b∈fp,FpOk X [] H b) (w:W i m ys σ H) :
  codeAny (model X.prog X.w) X.A (.compLoop (.ListComp q [⟨tg,iter,B,0⟩] sc pos) 0 (.ref it) (.ref a) X.env) R s:=by
 have f:∀{H':Hp},(∀ b∈fp,H' b=none)->∀ b∈fp,FpOk X [] H' b:=λhn b hb=>⟨hn b hb,(hf b hb).2⟩
 refine codeAny_loop rfl (λn s'=>∃ i ys c H',Inv X [] c H' s'/\tn i s'.heap/\(∀ b∈fp,H' b=none)/\W i n ys c H') ?_ m ⟨i,ys,σ,H,I,st,λb hb=>(hf b hb).1,w⟩
 rintro n s1 ⟨i,ys,h,P,I1,N,L,w1⟩
 show wpAny _ X.A ((compTurn (.ListComp q [⟨tg,iter,B,0⟩] sc pos) 0 (.ref it) (.ref a) X.env).onRaise (λx=>do noteFrame x X.env;theTreesLotGoes x)) _ _ s1
 refine wpAny_noted ?_
 rw[compTurn_list]
 refine aJ2 (wpAny_standAt (aJ2 ?_))
 obtain⟨a1,⟨stop,qd⟩|⟨go,Nx,E,step⟩⟩:=G i n ys h P w1
 ·refine thn (T.done X rfl rfl rfl hc i [] s1 h P _ I1 (f L) N stop) λr s2 ⟨hr,I2⟩=>?_
  subst hr
  exact aJ3 (hR ys h P s2 I2 qd)
 ·refine thn (T.item X rfl rfl rfl hc i [] s1 h P _ I1 (f L) N go) λr s2 ⟨u,hr,h2⟩=>?_
  subst hr
  refine aJ2 (thn h2 λ_ s3 ⟨x,H3,I3,r3,y3,v,S⟩=>?_)
  have U:=I3.pinned (f S) (T.obj _ _ v)
  refine aJ2 (aK1 (hg _ s3 h H3 x u _ U r3 (step x H3 y3)) (λ_ s4 ⟨t,H4,I4,q4⟩=>?_) λe s' z=>(j e s' z).elim)
  have p:∀{l:St}{C:Hp}{D:Shared}{Z:List V},Inv X ([]++ae1 fp s3.heap) l C D->(∃ O,O<n/\W (i+1) O Z l C)->∃ m,m<n/\∃ i ys c H',Inv X [] c H' D/\tn i D.heap/\(∀ b∈fp,H' b=none)/\W i m ys c H':=λ{l C D Z} M w7=>by
   obtain⟨O,hm,w7⟩:=w7
   refine⟨O,hm,i+1,Z,l,C,M.unpinned,T.keep _ _ _ v λb hb o e=>(M.pin (b,o) (aB3 _ (aB3 _ (ab9 hb e)))).1,λb hb=>?_,w7⟩
   obtain⟨o,e,d⟩:=T.obj _ _ v b hb
   exact(M.pin (b,o) (aB3 _ (aB3 _ (ab9 hb e)))).2.1
  refine aJ2 (aK1 (Y _ s4 t H4 _ I4 q4) (λb s5 ⟨H5,I5,Q⟩=>?_) λe s' z=>(j e s' z).elim)
  cases b with
  | false =>
   rw[aF6 aB0] at Q
   exact aJ3 ⟨rfl,p I5 (E _ _ _ Q)⟩
  | true =>
   rw[aF5 rfl] at Q
   refine aJ2 (aJ2 (aK1 (he _ s5 t H5 _ I5 Q) (λyv s6 ⟨y,H6,I6,r6,a6,l6,w6⟩=>?_) λe s' z=>(j e s' z).elim))
   have ap:=ab2 (X:=X) _ s6 t H6 (.ref a) [y] (.ref a) [yv] (λ_ H'=>H'=upd H6 a (.lst (ys++[y]))) I6 rfl (.cons r6 .nil) ⟨a,ys,y,rfl,rfl,a6,l6,rfl⟩
   refine aJ2 (aK1 ap (λ_ D ⟨v7,C,M,_,e7⟩=>?_) λe s' z=>(j e s' z).elim)
   subst e7
   exact aJ3 (aJ3 ⟨rfl,p M (E _ _ _ w6)⟩)
def tLC(src:List (Option Nat))(wi:TI)(g:TG)(tif:TT)(te:TE):TE:=λσ H Q=>wi σ H λJ H1=>∀ acc,H1 acc=none->∃ W:LW,(∃ m,W 0 m [] (pick src σ) (upd H1 acc (.lst [])))/\amp J g tif te acc (λ_ H'=>Q (.ref acc) H') W
section
variable{X:Cx}{N:List Str}{tg iter elt:Expr}{ifs:List Expr}{sc:Scope}{src:List (Option Nat)}{wi:TI}{g:TG}{tif:TT}{te:TE}{pos:Pos}
theorem ax5(hc:X.calm=true)(L:LcOk X N sc src)(hg:∀ C u t ex,PG (X.comp N sc C u t ex) tg g)(H:∀ C u t ex,PIf (X.comp N sc C u t ex) ifs tif)(Y:∀ C u t ex,PE (X.comp N sc C u t ex) elt te)
  {pins:List (Addr × Obj)} {d:Shared} {σ:St} {H3:Hp} {Q:VK} (h:Inv X pins σ H3 d) {it a:Addr} {fp:List Addr} {J:It} {tn:Nat->Heap->Prop} (T:Turn X.prog X.w X.K tg J fp it tn) (s:tn 0 d.heap) (i:∀ b∈fp,FpOk X pins H3 b)
  {W:LW} {m0:Nat} (Z:W 0 m0 [] (pick src σ) H3) (n:amp J g tif te a (λ_ H'=>Q (.ref a) H') W) (use:Option (Value->Sem Unit)) (P:Value->Shared->Prop)
  (hP:∀ C H' s' m,Inv X pins σ H' s'->Q (.ref a) H'->s'.heap.Ns C m->H' C=none->C ≠ X.env.locals->(C∈X.ex\/X.s₀.heap.objs.size<=C)->(∀ x c,X.env.cells.lookup x=some c->c ≠ C)->(∀ p∈X.pn++pins,p.1 ≠ C) ->
   compPost (model X.prog X.w) X.A X.xe use P (.ref a) C (.ok .next) s') :
  wpAny (model X.prog X.w) X.A (newFunctionEnv sc X.env.globals (clos X.env sc.names []) [] X.env.qual none .none (some X.env)) (λf E =>
    codeAny (model X.prog X.w) X.A (.compStart (.ListComp elt [⟨tg,iter,ifs,0⟩] sc pos) 0 (.ref it) (.ref a) { f with scope:=relabel sc X.env }) (compPost (model X.prog X.w) X.A X.xe use P (.ref a) f.locals) E) X.xe d:=by
 refine wpAny_newFunctionEnv L.nocell (by intro y S;simp at S) (λG B q=>?_) L.kind
 have I:∀ b∈fp,b<d.heap.objs.size:=λb hb=>by
  obtain⟨o,O,_⟩:=T.obj _ _ s b hb
  exact aJ5 O
 have r:∀ b o,d.heap.get? b=some o->G.get? b=some o:=λb o e=>q.extBut b o (aB6 (aJ5 e)) (aJ4 _ e)
 have F:=amo (t':=d.toks+([]:List (Str × Value)).length) L h i I (by simpa using B) r
 have l:tn 0 G:=T.keep _ _ _ s λb _ o e=>r b o e
 have U:∀ b∈fp,FpOk (X.comp N sc d.heap.objs.size d H3 fp) [] H3 b:=λb hb =>
  ⟨(i b hb).1,(F.ok.exf b hb).1,F.ok.exfs b hb,.inl hb,(F.ok.exf b hb).2,λp M=>absurd (show p∈([]:List (Addr × Obj)) from M) (by simp)⟩
 have fin:∀(ys:List V) D H' s',Inv (X.comp N sc d.heap.objs.size d H3 fp) [] D H' s'->Q (.ref a) H'->compPost (model X.prog X.w) X.A X.xe use P (.ref a) d.heap.objs.size (.ok .next) s':=λys D H' s' j R=>by
  have Jo:Inv X pins σ H' s':=h.call' (ch:=fp) j.os j.base j.hok j.bare λb hb=>⟨(i b hb).2.2.2.1,(i b hb).2.1,(i b hb).2.2.2.2.1,(i b hb).2.2.2.2.2⟩
  obtain⟨m,hn,_⟩:=j.loc
  refine hP _ H' s' m Jo R hn j.free (Nat.ne_of_gt h.lt) (.inr h.sz) (λx c e z=>?_) λp M z=>?_
  ·obtain⟨v,o,O,_⟩:=h.cell x c e
   exact absurd (aJ5 O) (by rw[z];exact aG4 _)
  ·exact absurd (aJ5 (h.pin p M).1) (by rw[z];exact aG4 _)
 have loop:codeAny (model X.prog X.w) X.A (.compLoop (.ListComp elt [⟨tg,iter,ifs,0⟩] sc pos) 0 (.ref it) (.ref a) (X.comp N sc d.heap.objs.size d H3 fp).env)
   (compPost (model X.prog X.w) X.A X.xe use P (.ref a) d.heap.objs.size) { d with heap:=G,toks:=d.toks+([]:List (Str × Value)).length } :=
  ass (X:=X.comp N sc d.heap.objs.size d H3 fp) T hc (λ_ _ z=>z) (hg _ _ _ _) (H _ _ _ _) (Y _ _ _ _) n fin F l U Z
 exact codeAny_compStart_list loop (T.self _ 0 _ _ _ l loop)
theorem amq(O:X.calm=true)(L:LcOk X N sc src)(hi:PI X tg iter wi)(K:∀ C f d ex,PG (X.comp N sc C f d ex) tg g)(n:∀ C f d ex,PIf (X.comp N sc C f d ex) ifs tif)(z:∀ C f d ex,PE (X.comp N sc C f d ex) elt te)
       (I:Inv X pins σ H s) (h:tLC src wi g tif te σ H Q) (use:Option (Value->Sem Unit)) (P:Value->Shared->Prop)
  (G:∀ i C H' s' m,Inv X pins σ H' s'->Q (.ref i) H'->s'.heap.Ns C m->H' C=none->C ≠ X.env.locals->(C∈X.ex\/X.s₀.heap.objs.size<=C)->(∀ x c,X.env.cells.lookup x=some c->c ≠ C)->(∀ p∈X.pn++pins,p.1 ≠ C) ->
   compPost (model X.prog X.w) X.A X.xe use P (.ref i) C (.ok .next) s')
  (hs:∀ x,foldedSetIterable iter X.env x=pure x) :
  wpAny (model X.prog X.w) X.A (comprehension (.ListComp elt [⟨tg,iter,ifs,0⟩] sc pos) sc X.env (firstIterPos [⟨tg,iter,ifs,0⟩] pos) (newList []) false (eval iter X.env) use) P X.xe s:=by
 refine wpAny_comprehension_free rfl hs (L.clo I.ok) L.kind L.own (thn (hi pins s σ H _ I h) λv s1 y=>thn y λE s2 F=>?_)
 obtain⟨it,fp,tn,J,H2,e,t,T,l,r,D⟩:=F
 subst e
 have a:H2 s2.heap.objs.size=none:=t.hok.fresh (aA6 _)
 obtain⟨W,⟨R,B⟩,j⟩:=D s2.heap.objs.size a
 have q:∀ b∈fp,b<s2.heap.objs.size:=λb hb=>by
  obtain⟨o,M,_⟩:=T.obj _ _ l b hb
  exact aJ5 M
 refine aK2 ?_
 refine ax5 O L K n z (H3:=upd H2 s2.heap.objs.size (.lst [])) ?_ T ?_ ?_ B j use P (G _)
 ·exact t.laid (t':=s2.toks) (λb u e=>aJ4 _ e) (aA6 _) ⟨aG0 _,[],0,.nil,aJ6 _ rfl⟩
 ·exact T.keep _ _ _ l λb _ o e=>aJ4 _ e
 ·exact λb hb=>⟨by rw[aah (aB6 (q b hb))];exact(r b hb).1,(r b hb).2⟩
theorem adr(u:X.calm=true)(L:LcOk X N sc src)(hi:PI X tg iter wi)(n:∀ C c a ex,PG (X.comp N sc C c a ex) tg g)(f:∀ C c a ex,PIf (X.comp N sc C c a ex) ifs tif)(j:∀ C c a ex,PE (X.comp N sc C c a ex) elt te)
  (hs:∀ x,foldedSetIterable iter X.env x=pure x:=by intro _;rfl):PE X (.ListComp elt [⟨tg,iter,ifs,0⟩] sc pos) (tLC src wi g tif te):=by
 intro pins s σ H Q I h
 rw[eval_ListComp]
 refine amq u L hi n f j I h none _ (λd C H' s' m J q hn p t r i l=>?_) hs
 refine⟨m,hn,λh' sb=>⟨.ref d,H',?_,rfl,q⟩⟩
 exact J.turned (t':=s'.toks) (λb o hb e=>sb.extBut b o hb e) p t r i l
end
section
variable{X:Cx}{N:List Str}{tg iter elt:Expr}{ifs:List Expr}{sc:Scope}{src:List (Option Nat)}{wi:TI}{g:TG}{tif:TT}{te:TE}{pos spos px:Pos}
theorem adb(P:X.N.Nodup)(n:X.N[i]?=some x)(K:Loc X.env.scope x)(O:X.calm=true)(L:LcOk X N sc src)(hi:PI X tg iter wi)(E:∀ C d c ex,PG (X.comp N sc C d c ex) tg g)
  (r:∀ C d c ex,PIf (X.comp N sc C d c ex) ifs tif) (y:∀ C d c ex,PE (X.comp N sc C d c ex) elt te)
  (t:swapsWith (.ListComp elt [⟨tg,iter,ifs,0⟩] sc pos) (some (.Name x px)) spos.line X.env=pure true:=by rfl)
  (hf:X.fn x=true\/X.env.scope.names.lookup x=some .local:=by first|exact .inl rfl|exact .inr rfl|assumption)
  (hs:∀ x,foldedSetIterable iter X.env x=pure x:=by intro _;rfl):PS X (.Assign [.Name x px] (.ListComp elt [⟨tg,iter,ifs,0⟩] sc pos) spos) (tAsg (tLC src wi g tif te) (aa0 i)):=by
 intro pins s σ H D I h
 rw[exec_Assign_Name_used _ _ _ _ t]
 refine aJ2 (wpAny_standAt (aJ2 ?_))
 show wpAny _ X.A (do let _ ← comprehension (.ListComp elt [⟨tg,iter,ifs,0⟩] sc pos) sc X.env _ (newList []) false (eval iter X.env) (some (assign (.Name x px) X.env))) _ _ s
 refine aJ2 (aK1 (amq O L hi E r y I h (some (assign (.Name x px) X.env)) (λ_ s'=>SP X pins D .next s') (λf C H' s' m J q hn M w l j B=>?_) hs) (λ_ s' G=>aJ3 (aJ3 G)) λ_ _ e=>e)
 show wpAny _ X.A (assign (.Name x px) X.env (.ref f)) _ _ _
 refine wpAny_assign_Name (akk J P n K (v:=.ref f) rfl (λs2 F ⟨a,sb,ha⟩=>?_) hf)
 have p:C ≠ a:=by
  rcases ha with z|z
  ·rw[z];exact w
  ·exact(j x a z).symm
 refine⟨m,hn.sameBut sb p,λh' u=>⟨_,H',?_,q⟩⟩
 exact F.turned (t':=s2.toks) (λb o hb e=>u.extBut b o hb e) M w l j B
end
section
variable{g:TG}{tif:TT}{te:TE}{acc:Addr}{Qd:List V->Hp->Prop}{σ0:St}{H0:Hp}
end
def api(J:It)(g:TG)(tif:TT)(te:TE)(acc:Addr)(Qd:List V->St->Hp->Prop)(W:LW):Prop:=∀(i m:Nat)(ys:List V)(σ:St)(H:Hp),W i m ys σ H->H acc=some (.lst ys)/\((J.stop i H/\Qd ys σ H)\/(J.go i H /\
 ∃ Nx:List V->St->Hp->Prop,(∀ ys' σ' H',Nx ys' σ' H'->∃ m',m'<m/\W (i+1) m' ys' σ' H')/\∀ x H2,J.yld i H x H2 ->
 g x σ H2 λσ3 H3=>tif σ3 H3 λb H4=>if b=true then te σ3 H4 λy H5=>H5 acc=some (.lst ys)/\ys.length<sizeLine/\Nx (ys++[y]) σ3 (upd H5 acc (.lst (ys++[y]))) else Nx ys σ3 H4))
def ajt(J:It)(g:TG)(tif:TT)(wi2:TI)(g2:TG)(tif2:TT)(te:TE)(acc:Addr)(Qd:List V->Hp->Prop)(W:LW):Prop:=∀(i m:Nat)(ys:List V)(σ:St)(H:Hp),W i m ys σ H->((J.stop i H/\Qd ys H)\/(J.go i H /\
 ∃ Nx:List V->St->Hp->Prop,(∀ ys' σ' H',Nx ys' σ' H'->∃ m',m'<m/\W (i+1) m' ys' σ' H')/\∀ x H2,J.yld i H x H2 ->
 g x σ H2 λσ3 H3=>tif σ3 H3 λb H4=>if b=true then wi2 σ3 H4 λJ2 H5=>∃ W2:LW,(∃ m2,W2 0 m2 ys σ3 H5)/\api J2 g2 tif2 te acc Nx W2 else Nx ys σ3 H4))
theorem ald(a t1 i1 g d:Expr)(f1 f:List Expr)(sc:Scope)(pos:Pos)(it b:Value)(env:Env) :
  compTurn (.ListComp a [⟨t1,i1,f1,0⟩,⟨g,d,f,0⟩] sc pos) 0 it b env=(do
   standAt i1.pos
   match ← pyNext it with
   |none=>pure (.done .next)
   | some v =>
    letOwnedTupleGo t1 it v
    assign t1 env v
    let mut ok:=true
    for c in f1 do
     if ok then ok ← isTrue c env (eval c env)
    if ok then
     let x ← eval d env
     standAt d.pos
     let x ← foldedSetIterable d env x
     let _ ← runOwn (.compStart (.ListComp a [⟨t1,i1,f1,0⟩,⟨g,d,f,0⟩] sc pos) 1 (← holding [x] (pyIter x)) b env) env
    again (.compLoop (.ListComp a [⟨t1,i1,f1,0⟩,⟨g,d,f,0⟩] sc pos) 0 it b env)):=by rfl
theorem ale(a t1 i1 d f:Expr)(f1 g:List Expr)(sc:Scope)(pos:Pos)(it b:Value)(env:Env) :
  compTurn (.ListComp a [⟨t1,i1,f1,0⟩,⟨d,f,g,0⟩] sc pos) 1 it b env=(do
   standAt f.pos
   match ← pyNext it with
   |none=>pure (.done .next)
   | some v =>
    letOwnedTupleGo d it v
    assign d env v
    let mut ok:=true
    for c in g do
     if ok then ok ← isTrue c env (eval c env)
    if ok then
     (do let _ ← call (.builtin "list.append") [b,← eval a env])
    again (.compLoop (.ListComp a [⟨t1,i1,f1,0⟩,⟨d,f,g,0⟩] sc pos) 1 it b env)):=by rfl
theorem ast           
  (j:codeAny (model prog w) A (.compLoop (.ListComp b [⟨t1,i1,f1,0⟩,⟨i,d,g,0⟩] sc pos) 1 it c env) R s)
  (h:wpAny (model prog w) A (pyIter it) (λa s'=>codeAny (model prog w) A (.compLoop (.ListComp b [⟨t1,i1,f1,0⟩,⟨i,d,g,0⟩] sc pos) 1 a c env) R s') (notedBy (model prog w) A env λx s'=>R (.error x) s') s) :
  codeAny (model prog w) A (.compStart (.ListComp b [⟨t1,i1,f1,0⟩,⟨i,d,g,0⟩] sc pos) 1 it c env) R s:=by
 refine codeAny_of_tree ?_
 show wpAny _ _ ((compStart (.ListComp b [⟨t1,i1,f1,0⟩,⟨i,d,g,0⟩] sc pos) 1 it c env).onRaise (λx=>do noteFrame x env;standAt theWindowsPlace)) _ _ s
 refine wpAny_notedAt ?_
 unfold compStart
 show wpAny _ _ (ask >>= _) _ _ s
 apply aJ2;apply wpAny_askSetting;apply wpAny_ite;split
 ·first|exact aJ2 (aJ3 (aJ3 ⟨rfl,j⟩))|exact aJ3 ⟨rfl,j⟩
 ·have q:wpAny (model prog w) A (pyIter it >>= λa=>again (.compLoop (.ListComp b [⟨t1,i1,f1,0⟩,⟨i,d,g,0⟩] sc pos) 1 a c env)) (λfin s'=>match fin with | .done f=>R (.ok f) s' | .again c'=>c'.quiet=true/\codeAny (model prog w) A c' R s') (notedBy (model prog w) A env λx s'=>R (.error x) s') s :=
   aJ2 (aK1 h (λa s' h'=>aJ3 ⟨rfl,h'⟩) λ_ _ x=>x)
  first
   |exact aJ2 (wpAny_rule (aJ2 (wpAny_standAt (aJ2 (aK1 h (λa s' h'=>aJ3 ⟨rfl,h'⟩) λ_ _ x=>x)))))
   |(apply aJ2;apply wpAny_rule;show wpAny _ _ (standAt d.pos >>= _) _ _ s;exact aJ2 (wpAny_standAt (aJ2 (aK1 h (λa s' h'=>aJ3 ⟨rfl,h'⟩) λ_ _ x=>x))))
theorem aq4                 
  (T:Turn X.prog X.w X.K tg J fp it tn) (hc:X.calm=true) (j:∀ e s,¬ X.xe e s) (hg:PG X tg g) (Y:PIf X B F) (he:PE X q te)
  (G:api J g F te a Qd W) (hR:∀ ys σ H s,Inv X pins σ H s->Qd ys σ H->R (.ok .next) s)
       (I:Inv X pins σ H s) (st:tn i s.heap) (hf:∀ b∈fp,FpOk X pins H b) (w:W i m ys σ H) :
  codeAny (model X.prog X.w) X.A (.compLoop (.ListComp q [⟨t1,i1,f1,0⟩,⟨tg,iter,B,0⟩] sc pos) 1 (.ref it) (.ref a) X.env) R s:=by
 have f:∀{H':Hp},(∀ b∈fp,H' b=none)->∀ b∈fp,FpOk X pins H' b:=λhn b hb=>⟨hn b hb,(hf b hb).2⟩
 refine codeAny_loop rfl (λn s'=>∃ i ys c H',Inv X pins c H' s'/\tn i s'.heap/\(∀ b∈fp,H' b=none)/\W i n ys c H') ?_ m ⟨i,ys,σ,H,I,st,λb hb=>(hf b hb).1,w⟩
 rintro n s1 ⟨i,ys,h,P,I1,N,L,w1⟩
 show wpAny _ X.A ((compTurn (.ListComp q [⟨t1,i1,f1,0⟩,⟨tg,iter,B,0⟩] sc pos) 1 (.ref it) (.ref a) X.env).onRaise (λx=>do noteFrame x X.env;theTreesLotGoes x)) _ _ s1
 refine wpAny_noted ?_
 rw[ale]
 refine aJ2 (wpAny_standAt (aJ2 ?_))
 obtain⟨a1,⟨stop,qd⟩|⟨go,Nx,E,step⟩⟩:=G i n ys h P w1
 ·refine thn (T.done X rfl rfl rfl hc i pins s1 h P _ I1 (f L) N stop) λr s2 ⟨hr,I2⟩=>?_
  subst hr
  exact aJ3 (hR ys h P s2 I2 qd)
 ·refine thn (T.item X rfl rfl rfl hc i pins s1 h P _ I1 (f L) N go) λr s2 ⟨u,hr,h2⟩=>?_
  subst hr
  refine aJ2 (thn h2 λ_ s3 ⟨x,H3,I3,r3,y3,v,S⟩=>?_)
  have U:=I3.pinned (f S) (T.obj _ _ v)
  refine aJ2 (aK1 (hg _ s3 h H3 x u _ U r3 (step x H3 y3)) (λ_ s4 ⟨t,H4,I4,q4⟩=>?_) λe s' z=>(j e s' z).elim)
  have p:∀{l:St}{C:Hp}{D:Shared}{Z:List V},Inv X (pins++ae1 fp s3.heap) l C D->(∃ O,O<n/\W (i+1) O Z l C)->∃ m,m<n/\∃ i ys c H',Inv X pins c H' D/\tn i D.heap/\(∀ b∈fp,H' b=none)/\W i m ys c H':=λ{l C D Z} M w7=>by
   obtain⟨O,hm,w7⟩:=w7
   refine⟨O,hm,i+1,Z,l,C,M.unpinned,T.keep _ _ _ v λb hb o e=>(M.pin (b,o) (aB3 _ (aB3 _ (ab9 hb e)))).1,λb hb=>?_,w7⟩
   obtain⟨o,e,d⟩:=T.obj _ _ v b hb
   exact(M.pin (b,o) (aB3 _ (aB3 _ (ab9 hb e)))).2.1
  refine aJ2 (aK1 (Y _ s4 t H4 _ I4 q4) (λb s5 ⟨H5,I5,Q⟩=>?_) λe s' z=>(j e s' z).elim)
  cases b with
  | false =>
   rw[aF6 aB0] at Q
   exact aJ3 ⟨rfl,p I5 (E _ _ _ Q)⟩
  | true =>
   rw[aF5 rfl] at Q
   refine aJ2 (aJ2 (aK1 (he _ s5 t H5 _ I5 Q) (λyv s6 ⟨y,H6,I6,r6,a6,l6,w6⟩=>?_) λe s' z=>(j e s' z).elim))
   have ap:=ab2 (X:=X) _ s6 t H6 (.ref a) [y] (.ref a) [yv] (λ_ H'=>H'=upd H6 a (.lst (ys++[y]))) I6 rfl (.cons r6 .nil) ⟨a,ys,y,rfl,rfl,a6,l6,rfl⟩
   refine aJ2 (aK1 ap (λ_ D ⟨v7,C,M,_,e7⟩=>?_) λe s' z=>(j e s' z).elim)
   subst e7
   exact aJ3 (aJ3 ⟨rfl,p M (E _ _ _ w6)⟩)
theorem aq5                   
  (T:Turn X.prog X.w X.K t1 J fp it tn) (hc:X.calm=true) (c:∀ e s,¬ X.xe e s) (hg:PG X t1 g) (a5:PIf X f1 M) (a6:PI X t2 N Y) (a1:PG X t2 g2) (U:PIf X f2 t) (he:PE X v te)
  (a7:∀ x,foldedSetIterable N X.env x=pure x)
  (O:ajt J g M Y g2 t te y Qd W) (hR:∀ ys σ H s,Inv X [] σ H s->Qd ys H->R (.ok .next) s)
       (I:Inv X [] σ H s) (st:tn i s.heap) (hf:∀ b∈fp,FpOk X [] H b) (w:W i m ys σ H) :
  codeAny (model X.prog X.w) X.A (.compLoop (.ListComp v [⟨t1,i1,f1,0⟩,⟨t2,N,f2,0⟩] sc pos) 0 (.ref it) (.ref y) X.env) R s:=by
 have j:∀{H':Hp},(∀ b∈fp,H' b=none)->∀ b∈fp,FpOk X [] H' b:=λhn b hb=>⟨hn b hb,(hf b hb).2⟩
 refine codeAny_loop rfl (λn s'=>∃ i ys a H',Inv X [] a H' s'/\tn i s'.heap/\(∀ b∈fp,H' b=none)/\W i n ys a H') ?_ m ⟨i,ys,σ,H,I,st,λb hb=>(hf b hb).1,w⟩
 rintro n s1 ⟨i,ys,l,H1,I1,S,P,w1⟩
 show wpAny _ X.A ((compTurn (.ListComp v [⟨t1,i1,f1,0⟩,⟨t2,N,f2,0⟩] sc pos) 0 (.ref it) (.ref y) X.env).onRaise (λx=>do noteFrame x X.env;theTreesLotGoes x)) _ _ s1
 refine wpAny_noted ?_
 rw[ald]
 refine aJ2 (wpAny_standAt (aJ2 ?_))
 obtain⟨stop,qd⟩|⟨go,Nx,L,step⟩:=O i n ys l H1 w1
 ·refine thn (T.done X rfl rfl rfl hc i [] s1 l H1 _ I1 (j P) S stop) λr s2 ⟨hr,I2⟩=>?_
  subst hr
  exact aJ3 (hR ys l H1 s2 I2 qd)
 ·refine thn (T.item X rfl rfl rfl hc i [] s1 l H1 _ I1 (j P) S go) λr s2 ⟨u,hr,h2⟩=>?_
  subst hr
  refine aJ2 (thn h2 λ_ s3 ⟨x,H3,I3,r3,y3,C,a2⟩=>?_)
  have a4:=I3.pinned (j a2) (T.obj _ _ C)
  refine aJ2 (aK1 (hg _ s3 l H3 x u _ a4 r3 (step x H3 y3)) (λ_ s4 ⟨G,H4,I4,q4⟩=>?_) λe s' z=>(c e s' z).elim)
  have q:∀{p:St}{D:Hp}{F:Shared}{zs:List V},Inv X ([]++ae1 fp s3.heap) p D F->(∃ Z,Z<n/\W (i+1) Z zs p D)->∃ m,m<n/\∃ i ys a H',Inv X [] a H' F/\tn i F.heap/\(∀ b∈fp,H' b=none)/\W i m ys a H':=λ{p D F zs} Q w7=>by
   obtain⟨Z,hm,w7⟩:=w7
   refine⟨Z,hm,i+1,zs,p,D,Q.unpinned,T.keep _ _ _ C λb hb o e=>(Q.pin (b,o) (aB3 _ (aB3 _ (ab9 hb e)))).1,λb hb=>?_,w7⟩
   obtain⟨o,e,d⟩:=T.obj _ _ C b hb
   exact(Q.pin (b,o) (aB3 _ (aB3 _ (ab9 hb e)))).2.1
  refine aJ2 (aK1 (a5 _ s4 G H4 _ I4 q4) (λb s5 ⟨H5,I5,q5⟩=>?_) λe s' z=>(c e s' z).elim)
  cases b with
  | false =>
   rw[aF6 aB0] at q5
   exact aJ3 ⟨rfl,q I5 (L _ _ _ q5)⟩
  | true =>
   rw[aF5 rfl] at q5
   refine aJ2 (aK1 (a6 _ s5 G H5 _ I5 q5) (λxv s6 h6=>?_) λe s' z=>(c e s' z).elim)
   refine aJ2 (wpAny_standAt (aJ2 ?_))
   rw[a7 xv]
   refine aJ3 (aJ2 (aJ8 (aK1 h6 (λa9 F h7=>?_) λe s' z=>(c e s' z).elim)))
   obtain⟨b1,a8,b0,J2,D,e,Q,T2,E,a3,W2,⟨m2,w2⟩,B⟩:=h7
   subst e
   refine aJ2 (wpAny_runOwn ?_)
   have loop:=aq4 (R:=λr s'=>match r with | .ok f=>(∃ m,m<n/\∃ i ys a H',Inv X [] a H' s'/\tn i s'.heap/\(∀ b∈fp,H' b=none)/\W i m ys a H') | .error e=>False) (t1:=t1) (i1:=i1) (f1:=f1) (iter:=N) (sc:=sc) (pos:=pos) T2 hc c a1 U he B (λb2 b3 H8 s8 I8 q8=>q I8 (L _ _ _ q8)) Q E a3 w2
   have st:=ast loop (T2.self _ 0 _ _ _ E loop)
   refine aJ7 st λr s' h=>?_
   cases r with
   |error e=>exact h.elim
   |ok f=>exact aJ3 ⟨rfl,h⟩
def tLC2(src:List (Option Nat))(wi:TI)(g:TG)(tif:TT)(wi2:TI)(g2:TG)(tif2:TT)(te:TE):TE:=λσ H Q=>wi σ H λJ H1=>∀ acc,H1 acc=none->∃ W:LW,(∃ m,W 0 m [] (pick src σ) (upd H1 acc (.lst [])))/\ajt J g tif wi2 g2 tif2 te acc (λ_ H'=>Q (.ref acc) H') W
section
variable{X:Cx}{N:List Str}{t1 i1 t2 i2 elt:Expr}{f1 f2:List Expr}{sc:Scope}{src:List (Option Nat)}{wi wi2:TI}{g g2:TG}{tif tif2:TT}{te:TE}{pos:Pos}
theorem auy(hc:X.calm=true)(L:LcOk X N sc src)(hg:∀ C h f ex,PG (X.comp N sc C h f ex) t1 g)(M:∀ C h f ex,PIf (X.comp N sc C h f ex) f1 tif)(R:∀ C h f ex,PI (X.comp N sc C h f ex) t2 i2 wi2)(H:∀ C h f ex,PG (X.comp N sc C h f ex) t2 g2)(B:∀ C h f ex,PIf (X.comp N sc C h f ex) f2 tif2)(he:∀ C h f ex,PE (X.comp N sc C h f ex) elt te)
  (S:∀ C h f ex x,foldedSetIterable i2 (X.comp N sc C h f ex).env x=pure x)
  {pins:List (Addr × Obj)} {d:Shared} {σ:St} {H3:Hp} {Q:VK} (j:Inv X pins σ H3 d) {it a:Addr} {fp:List Addr} {J:It} {tn:Nat->Heap->Prop} (T:Turn X.prog X.w X.K t1 J fp it tn) (u:tn 0 d.heap) (l:∀ b∈fp,FpOk X pins H3 b)
  {W:LW} {m0:Nat} (w0:W 0 m0 [] (pick src σ) H3) (r:ajt J g tif wi2 g2 tif2 te a (λ_ H'=>Q (.ref a) H') W) (use:Option (Value->Sem Unit)) (P:Value->Shared->Prop)
  (hP:∀ C H' s' m,Inv X pins σ H' s'->Q (.ref a) H'->s'.heap.Ns C m->H' C=none->C ≠ X.env.locals->(C∈X.ex\/X.s₀.heap.objs.size<=C)->(∀ x c,X.env.cells.lookup x=some c->c ≠ C)->(∀ p∈X.pn++pins,p.1 ≠ C) ->
   compPost (model X.prog X.w) X.A X.xe use P (.ref a) C (.ok .next) s') :
  wpAny (model X.prog X.w) X.A (newFunctionEnv sc X.env.globals (clos X.env sc.names []) [] X.env.qual none .none (some X.env)) (λi F =>
    codeAny (model X.prog X.w) X.A (.compStart (.ListComp elt [⟨t1,i1,f1,0⟩,⟨t2,i2,f2,0⟩] sc pos) 0 (.ref it) (.ref a) { i with scope:=relabel sc X.env }) (compPost (model X.prog X.w) X.A X.xe use P (.ref a) i.locals) F) X.xe d:=by
 refine wpAny_newFunctionEnv L.nocell (by intro y hy;simp at hy) (λI D s=>?_) L.kind
 have O:∀ b∈fp,b<d.heap.objs.size:=λb hb=>by
  obtain⟨o,Y,_⟩:=T.obj _ _ u b hb
  exact aJ5 Y
 have t:∀ b o,d.heap.get? b=some o->I.get? b=some o:=λb o e=>s.extBut b o (aB6 (aJ5 e)) (aJ4 _ e)
 have G:=amo (t':=d.toks+([]:List (Str × Value)).length) L j l O (by simpa using D) t
 have q:tn 0 I:=T.keep _ _ _ u λb _ o e=>t b o e
 have f4:∀ b∈fp,FpOk (X.comp N sc d.heap.objs.size d H3 fp) [] H3 b:=λb hb =>
  ⟨(l b hb).1,(G.ok.exf b hb).1,G.ok.exfs b hb,.inl hb,(G.ok.exf b hb).2,λp U=>absurd (show p∈([]:List (Addr × Obj)) from U) (by simp)⟩
 have fin:∀(ys:List V) E H' s',Inv (X.comp N sc d.heap.objs.size d H3 fp) [] E H' s'->Q (.ref a) H'->compPost (model X.prog X.w) X.A X.xe use P (.ref a) d.heap.objs.size (.ok .next) s':=λys E H' s' n Z=>by
  have Jo:Inv X pins σ H' s':=j.call' (ch:=fp) n.os n.base n.hok n.bare λb hb=>⟨(l b hb).2.2.2.1,(l b hb).2.1,(l b hb).2.2.2.2.1,(l b hb).2.2.2.2.2⟩
  obtain⟨m,hn,_⟩:=n.loc
  refine hP _ H' s' m Jo Z hn n.free (Nat.ne_of_gt j.lt) (.inr j.sz) (λx c e z=>?_) λp U z=>?_
  ·obtain⟨v,o,Y,_⟩:=j.cell x c e
   exact absurd (aJ5 Y) (by rw[z];exact aG4 _)
  ·exact absurd (aJ5 (j.pin p U).1) (by rw[z];exact aG4 _)
 have loop:codeAny (model X.prog X.w) X.A (.compLoop (.ListComp elt [⟨t1,i1,f1,0⟩,⟨t2,i2,f2,0⟩] sc pos) 0 (.ref it) (.ref a) (X.comp N sc d.heap.objs.size d H3 fp).env)
   (compPost (model X.prog X.w) X.A X.xe use P (.ref a) d.heap.objs.size) { d with heap:=I,toks:=d.toks+([]:List (Str × Value)).length } :=
  aq5 (X:=X.comp N sc d.heap.objs.size d H3 fp) T hc (λ_ _ z=>z) (hg _ _ _ _) (M _ _ _ _) (R _ _ _ _) (H _ _ _ _) (B _ _ _ _) (he _ _ _ _) (S _ _ _ _) r fin G q f4 w0
 exact codeAny_compStart_list loop (T.self _ 0 _ _ _ q loop)
theorem a03(U:X.calm=true)(L:LcOk X N sc src)(hi:PI X t1 i1 wi)(M:∀ C c a ex,PG (X.comp N sc C c a ex) t1 g)(t:∀ C c a ex,PIf (X.comp N sc C c a ex) f1 tif)(n:∀ C c a ex,PI (X.comp N sc C c a ex) t2 i2 wi2)(r:∀ C c a ex,PG (X.comp N sc C c a ex) t2 g2)(f:∀ C c a ex,PIf (X.comp N sc C c a ex) f2 tif2)(B:∀ C c a ex,PE (X.comp N sc C c a ex) elt te)
  (hs:∀ x,foldedSetIterable i1 X.env x=pure x:=by intro _;rfl) (p:∀ C c a ex x,foldedSetIterable i2 (X.comp N sc C c a ex).env x=pure x:=by intros;rfl):PE X (.ListComp elt [⟨t1,i1,f1,0⟩,⟨t2,i2,f2,0⟩] sc pos) (tLC2 src wi g tif wi2 g2 tif2 te):=by
 intro pins s σ H Q I h
 rw[eval_ListComp]
 refine wpAny_comprehension_free rfl hs (L.clo I.ok) L.kind L.own (thn (hi pins s σ H _ I h) λv s1 A=>thn A λF s2 K=>?_)
 obtain⟨it,fp,tn,J,H2,e,z,T,l,i,E⟩:=K
 subst e
 have d:H2 s2.heap.objs.size=none:=z.hok.fresh (aA6 _)
 obtain⟨W,⟨Y,D⟩,j⟩:=E s2.heap.objs.size d
 have y:∀ b∈fp,b<s2.heap.objs.size:=λb hb=>by
  obtain⟨o,O,_⟩:=T.obj _ _ l b hb
  exact aJ5 O
 refine aK2 ?_
 refine auy (pins:=pins) U L M t n r f B p (H3:=upd H2 s2.heap.objs.size (.lst [])) ?_ T ?_ ?_ D j none _ ?_
 ·exact z.laid (t':=s2.toks) (λb u e=>aJ4 _ e) (aA6 _) ⟨aG0 _,[],0,.nil,aJ6 _ rfl⟩
 ·exact T.keep _ _ _ l λb _ o e=>aJ4 _ e
 ·exact λb hb=>⟨by rw[aah (aB6 (y b hb))];exact(i b hb).1,(i b hb).2⟩
 ·intro C H' s' m J q hn P S R w G
  refine⟨m,hn,λh' sb=>⟨.ref s2.heap.objs.size,H',?_,rfl,q⟩⟩
  exact J.turned (t':=s'.toks) (λb o hb e=>sb.extBut b o hb e) P S R w G
end
def rLen(K:Frag):List V->Hp->VK->Prop:=λxs H Q=>∃ p ys,xs=[.ref p]/\(SqL K H p ys\/SqT K H p ys)/\Q (.int ys.length) H
theorem aa6:abi X (.builtin "len") (rLen X.K):=amk
def al3:List V->Hp->VK->Prop:=λxs H Q=>∃ i j,xs=[.int i,.int j]/\Q (.int (if j > i then j else i)) H
def al4:List V->Hp->VK->Prop:=λxs H Q=>∃ i j,xs=[.int i,.int j]/\Q (.int (if j<i then j else i)) H
theorem acs(a:X.calm=true):abi X (.builtin "max") al3:=ase a
theorem act(a:X.calm=true):abi X (.builtin "min") al4:=asf a
section
variable{σ:St}{H:Hp}{D:Ends}{K:Frag}
theorem apj(h:Q (σ.set i (some v)) H):aa0 i v σ H Q:=h
theorem asu(h:Q [] H):tNil σ H Q:=h
theorem a04(h:t σ H λxs a=>xs.length<=sizeLine/\∀ p,a p=none->Q (.ref p) (upd a p (.lst xs))):tLst t σ H Q:=h
theorem asv(h:Q (.bl (decide (i=j))) H):rEq (.int i) (.int j) H Q:=by
 have e:decide (V.int i=V.int j)=decide (i=j):=by rw[ahi];exact Bool.beq_eq_decide_eq i j
 exact⟨rfl,by rw[e];exact h⟩
theorem a05(h:Q (.bl (!decide (i=j))) H):rNe (.int i) (.int j) H Q:=by
 have e:decide (V.int i=V.int j)=decide (i=j):=by rw[ahi];exact Bool.beq_eq_decide_eq i j
 exact⟨rfl,by rw[e];exact h⟩
theorem a06(h:Q (.bl (decide (i=j))) H):rEq (.bl i) (.bl j) H Q:=by
 have e:decide (V.bl i=V.bl j)=decide (i=j):=by rw[amf];cases i <;> cases j <;> rfl
 exact⟨rfl,by rw[e];exact h⟩
theorem a07(ha:H a=some (.lst xs))(b:atI xs i=some v)(h:Q v H):rIxL K (.ref a) (.int i) H Q:=⟨a,xs,i,v,rfl,rfl,SqL.of ha,b,h⟩
theorem a08(ha:H a=some (.tup xs))(b:atI xs i=some v)(h:Q v H):rIxT K (.ref a) (.int i) H Q:=⟨a,xs,i,v,rfl,rfl,SqT.of ha,b,h⟩
theorem apk(ha:H a=some (.lst xs))(b:ixN xs.length k=some j)(h:Q (upd H a (.lst (xs.set j v)))):aq0 (.ref a) (.int k) v H Q:=⟨a,xs,k,j,rfl,rfl,ha,b,h⟩
theorem agv(ha:H a=some (.lst xs))(b:xs.length<sizeLine)(h:Q .non (upd H a (.lst (xs++[y])))):afx (.ref a) [y] H Q:=⟨a,xs,y,rfl,rfl,ha,b,h⟩
theorem a09(ha:H a=some (.lst xs))(hb:H b=some (.lst c))(d:xs.length+c.length<=sizeLine)(h:∀ p,H p=none->Q (.ref p) (upd H p (.lst (xs++c)))):rCat (.ref a) (.ref b) H Q:=⟨a,b,xs,c,rfl,rfl,ha,hb,d,h⟩
theorem apl(ha:H a=some (.lst xs))(h:Q (.int xs.length) H):rLen K [.ref a] H Q:=⟨a,xs,rfl,.inl (SqL.of ha),h⟩
theorem ax6(ha:H a=some (.tup xs))(h:Q (.int xs.length) H):rLen K [.ref a] H Q:=⟨a,xs,rfl,.inr (SqT.of ha),h⟩
theorem apm(h:Q (.int (if j > i then j else i)) H):al3 [.int i,.int j] H Q:=⟨i,j,rfl,h⟩
theorem apn(h:Q (.int (if j<i then j else i)) H):al4 [.int i,.int j] H Q:=⟨i,j,rfl,h⟩
theorem aju{c:Prop} [Decidable c] {A B:Prop} (a:c) (h:A):if decide c=true then A else B:=by rw[aD8 a];exact iteT h
theorem ajv{c:Prop} [Decidable c] {A B:Prop} (a:¬ c) (h:B):if decide c=true then A else B:=by rw[aD7 a];exact iteF h
theorem ado{c:Prop} [Decidable c] {A B:Prop} (a:c->A) (b:¬ c->B):if decide c=true then A else B:=by
 by_cases hc:c
 ·exact aju hc (a hc)
 ·exact ajv hc (b hc)
theorem ixN0:ixN (n+1) 0=some 0:=by unfold ixN;rw[aF5 (by decide),aF5 (by lia)];rfl
theorem ixN2:ixN (n+3) 2=some 2:=by unfold ixN;rw[aF5 (by decide),aF5 (by lia)];rfl
end
structure CallOk(P:Program)(w:World)(K:Frag)(mg:Str->Option Value)(base:Heap)(x:Str)(k:Nat)(ps:List Str)(sp:Sp)(f:Addr)(fd:FuncData):Prop where
 ok:FnOk P w K mg base CX0 k f fd ps sp
 mgx:mg x=some (.ref f)
 kp:keepIn K (.ref f)=true
 bd:Binds K fd ps []
def Can(P:Program)(w:World)(K:Frag)(mg:Str->Option Value)(base:Heap)(x:Str)(k:Nat)(ps:List Str)(sp:Sp):Prop:=∃ f fd,CallOk P w K mg base x k ps sp f fd
structure DefAt(K:Frag)(mg:Str->Option Value)(x:Str)(st:Stmt)(ps:List Str)(f:Addr)(fd:FuncData):Prop where
 fn:Fun K x x st f fd
 mgx:mg x=some (.ref f)
 bd:Binds K fd ps []
theorem DefAt.can{P:Program}{w:World}{K:Frag}{mg:Str->Option Value}{base:Heap}{x:Str}{st:Stmt}{k:Nat}{ps:List Str}{sp:Sp}{f:Addr}{fd:FuncData}(D:DefAt K mg x st ps f fd)(ok:FnOk P w K mg base CX0 k f fd ps sp):Can P w K mg base x k ps sp :=
 ⟨f,fd,ok,D.mgx,D.fn.kp,D.bd⟩
section
variable{X:Cx}{k j:Nat}{ps:List Str}{sp:Sp}{x:Str}{p pos:Pos}{e:Expr}{es:List Expr}{t:TA}
theorem aad(F:Can X.prog X.w X.K X.mg X.base x k ps sp)(hr:Room j X.A)(ha:PA X (e::es) t)(c:k<=j:=by decide)(g:Gl X x:=by rfl)(a:(x == ("__debug__" : Str))=false:=by decide)
  (d:starEach (e::es) X.env=(false,eval e X.env)::starEach es X.env:=by rfl) (b:(backTo pos (starEach es X.env)).any (·.1)=false:=by rfl) :
  PE X (.Call (.Name x p) (e::es) [] pos) (ack sp [] E0 t):=by
 obtain⟨f,fd,C⟩:=F
 exact axx C.ok (hr.mono c) g C.mgx C.kp C.bd .nil a3e ha a d b
end
theorem aa9(b:sc.kind=.function)(h:sc.names.all (λy=>y.2 != .cell)=true)(l:sc.names.all (λy=>y.2 != .local || sc.names.lookup y.1 == some .local)=true)
  (g:sc.names.all (λy=>y.2 != .free || X.env.kindOf y.1 == some .cell || X.env.kindOf y.1 == some .free)=true) (d:src.length=N.length)
  (c:(List.range src.length).all (λi=>match src[i]? with|some (some j)=>(match N[i]?,X.N[j]? with|some x,some y=>x == y && sc.names.lookup x == some .free|_,_=>false)|_=>true)=true):LcOk X N sc src:=by
 refine⟨b,λy a e=>?_,λy a e=>?_,λy a e=>?_,d,λi j e=>?_⟩
 ·have:=aF4.mp h y a
  rw[e] at this
  exact absurd this (by decide)
 ·have:=aF4.mp l y a
  rw[e] at this
  simpa using this
 ·have:=aF4.mp g y a
  rw[e] at this
  simpa using this
 ·have hi:i<src.length:=(aA1.mp e).1
  have:=aF4.mp c i (aB9.mpr hi)
  rw[e] at this
  dsimp only at this
  cases h7:N[i]? with
  |none=>rw[h7] at this;cases this
  | some x =>
   cases h8:X.N[j]? with
   |none=>rw[h7,h8] at this;cases this
   | some y =>
    rw[h7,h8] at this
    simp only[aH1] at this
    have f:x=y:=by simpa using this.1
    subst f
    exact⟨x,rfl,rfl,by simpa using this.2⟩
section
variable{σ:St}{H:Hp}{D:Ends}{K:Frag}
theorem a1a(ha:SqL K H a xs)(b:atI xs i=some v)(h:Q v H):rIxL K (.ref a) (.int i) H Q:=⟨a,xs,i,v,rfl,rfl,ha,b,h⟩
theorem ax7(ha:SqL K H a xs)(h:Q (.int xs.length) H):rLen K [.ref a] H Q:=⟨a,xs,rfl,.inl ha,h⟩
theorem asw(h:Q true H):tYes σ H Q:=h
theorem auz(ha:H a=some (.lst xs))(b : -(2 ^ 63)<=i)(d:i<2 ^ 63)(f:seqIndex? i xs.length=some k)(c:xs[k]?=some y)(h:Q y (upd H a (.lst (xs.eraseIdx k)))):aiv (.ref a) [.int i] H Q :=
 ⟨a,xs,i,k,y,rfl,rfl,ha,b,d,f,c,h⟩
end
end L2
namespace L2
open PySem
theorem abv:bootBuiltins "len" = some (.builtin "len"):=by decide +kernel
theorem abw:bootBuiltins "max" = some (.builtin "max"):=by decide +kernel
theorem ad3:bootBuiltins "min" = some (.builtin "min"):=by decide +kernel
theorem adw:bootBuiltins "sorted" = some (.builtin "sorted"):=by decide +kernel
theorem ads:bootBuiltins "isinstance" = some (.builtin "isinstance"):=by decide +kernel
theorem asx:bootBuiltins "all" = some (.builtin "all"):=by decide +kernel
theorem a1b:bootBuiltins "int" = some (.type "int"):=by decide +kernel
theorem apo:bootBuiltins "list" = some (.type "list"):=by decide +kernel
theorem a1c:bootBuiltins "set" = some (.type "set"):=by decide +kernel
theorem au0:bootBuiltins "tuple" = some (.type "tuple"):=by decide +kernel
theorem amr:bootBuiltins "enumerate" = some (.type "enumerate"):=by decide +kernel
theorem ax8:bootBuiltins "bool" = some (.type "bool"):=by decide +kernel
theorem a1d:bootBuiltins "zip" = some (.type "zip"):=by decide +kernel
end L2
namespace TS
open PySem PyProof.Rows
def ajw:Bool->Keyed->Array Keyed->Nat->Nat->Nat->StateT SortSt Sem (Option Nat):=sortPriv% PySem.Builtin.gallop
def au1:Array Keyed->Array Keyed->StateT SortSt Sem (Array Keyed):=sortPriv% PySem.Builtin.mergeLo
def au2:Array Keyed->Array Keyed->StateT SortSt Sem (Array Keyed):=sortPriv% PySem.Builtin.mergeHi
def ams:Nat->StateT SortSt Sem Bool:=sortPriv% PySem.Builtin.mergeAt
def ax9:Nat->Nat->StateT SortSt Sem (Option Nat):=sortPriv% PySem.Builtin.countRun
def au3:Nat->Nat->Nat->StateT SortSt Sem Bool:=sortPriv% PySem.Builtin.binarySort
def a3f:StateT SortSt Sem Unit:=sortPriv% PySem.Builtin.sortRuns
structure Cmp(M:Model)(A:Around)(E:Value->Shared->Prop)(s:Shared)(κ:SortKind)(S:Keyed->Prop)(R:Keyed->Keyed->Bool):Prop where
 ask:∀ x y,S x->S y->∀(Q:Option Bool->SortSt->Prop)(st:SortSt),kindOf st = κ->Q (some (R x y)) st->wpS M A E s (lt' x y) Q st
 asy:∀ x y,S x->S y->R x y=true->R y x=false
 tr:∀ x y z,S x->S y->S z->R y x=false->R z y=false->R z x=false
section
theorem aa1{arr:Array Keyed}{i:Nat}{x:Keyed}{Q:Keyed->SortSt->Prop}{st:SortSt}(a:arr[i]?=some x)(h:Q x st):wpS M A E s (elem' arr i) Q st:=by
 rw[elem'_eq,a]
 exact wpS_pure h
theorem aea{x:String}{Q:Unit->SortSt->Prop}{st:SortSt}(h:Q () st):wpS M A E s (liftM (PySem.rule x):StateT SortSt Sem Unit) Q st :=
 wpS_lift (wpAny_rule ⟨rfl,h⟩)
def bey(left:Bool)(key:Keyed)(arr:Array Keyed)(base i:Nat):StateT SortSt Sem (Option Bool):=do
 let x ← elem' arr (base+i)
 if left=true then lt' x key else do
  let r ← lt' key x
  pure (Option.map (λb=>!b) r)
theorem aks{left:Bool}{p:Keyed}{arr:Array Keyed}{base n a:Nat}{B:Nat->Bool}
  (hb:∀ i,i<n->∀(Q:Option Bool->SortSt->Prop)(st:SortSt),kindOf st = κ->Q (some (B i)) st->wpS M A E s (bey left p arr base i) Q st)
  (mono:∀ i j,i<j->j<n->B j=true->B i=true) (hh:a<n) {Q:Option Nat->SortSt->Prop} {st:SortSt} (x:kindOf st = κ)
  (h:∀ k,k<=n->(∀ i,i<k->B i=true)->(∀ i,k<=i->i<n->B i=false)->Q (some k) st):wpS M A E s (ajw left p arr base n a) Q st:=by
 have c:∀ i j,i<j->j<n->B i=false->B j=false:=λi j y K hi=>by
  cases e:B j with
  |false=>rfl
  |true=>rw[mono i j y K e] at hi;cases hi
 -- the last loop
 have last:∀(lo hi:Nat)(F:Option (Option Nat) × Nat × Nat->StateT SortSt Sem (Option Nat)),lo<=hi->hi<=n->(∀ i,i<lo->B i=true)->(∀ i,hi<=i->i<n->B i=false) ->
   (∀ lo hi,F (none,lo,hi)=pure (some hi)) ->
   wpS M A E s (forIn [:n] ((none,lo,hi):Option (Option Nat) × Nat × Nat) (λ(_:Nat) z=>if z.2.1 ≥ z.2.2 then pure (ForInStep.done (none,z.2.1,z.2.2)) else bey left p arr base (z.2.1+(z.2.2-z.2.1) / 2) >>= λr=>match r with
    |some more=>if more=true then pure (ForInStep.yield (none,z.2.1+(z.2.2-z.2.1) / 2+1,z.2.2)) else pure (ForInStep.yield (none,z.2.1,z.2.1+(z.2.2-z.2.1) / 2))
    |_=>pure (ForInStep.done (some none,z.2.1,z.2.2))) >>= F) Q st:=by
  intro lo hi F G I J H C
  refine wpS_bind (wpS_forRange (λt z st'=>st'=st/\z.1=none/\z.2.1<=z.2.2/\z.2.2<=n/\z.2.2-z.2.1+t<=n/\(∀ i,i<z.2.1->B i=true)/\(∀ i,z.2.2<=i->i<n->B i=false)) ?_ ?_ ⟨rfl,rfl,G,I,by dsimp only;lia,J,H⟩)
  ·rintro t ⟨o,l,u⟩ st' _ D ⟨rfl,e,q,d,b,g,w⟩
   dsimp only at e q d b g w ⊢
   subst e
   by_cases hlu:l ≥ u
   ·rw[aF5 hlu]
    have:l=u:=by lia
    subst this
    exact wpS_pure (by dsimp only;rw[C];exact wpS_pure (h l d g w))
   ·rw[aF6 hlu]
    have hm:l+(u-l) / 2<u:=by lia
    refine wpS_bind (hb _ (by lia) _ _ x ?_)
    dsimp only
    cases e:B (l+(u-l) / 2) with
    | true =>
     rw[aF5 rfl]
     refine wpS_pure ⟨rfl,rfl,by dsimp only;lia,d,by dsimp only;lia,λi hi=>?_,w⟩
     dsimp only at hi
     by_cases hi2:i=l+(u-l) / 2
     ·rw[hi2];exact e
     ·exact mono i _ (by lia) (by lia) e
    | false =>
     rw[aF6 (by simp)]
     refine wpS_pure ⟨rfl,rfl,by dsimp only;lia,by dsimp only;lia,by dsimp only;lia,g,λi hi hn=>?_⟩
     dsimp only at hi
     by_cases hi2:i=l+(u-l) / 2
     ·rw[hi2];exact e
     ·exact c _ i (by lia) hn e
  ·rintro ⟨o,l,u⟩ st' ⟨rfl,e,q,d,b,g,w⟩
   dsimp only at e q d b g w ⊢
   subst e
   have : l = u := by have:n ≤ max 0 n := by lia
                      lia
   subst this
   rw[C]
   exact wpS_pure (h l d g w)
 refine wpS_bind (f:=λL=>_) (m:=bey left p arr base a) (hb a hh _ st x ?_)
 dsimp only
 cases e0:B a with
 | true =>
  rw[aF5 rfl]
  refine wpS_bind ?_
  refine wpS_forRange (λt (z:Option (Option Nat) × Nat × Nat) st'=>st'=st/\z.1=none/\z.2.1<z.2.2/\a+z.2.1<n/\B (a+z.2.1)=true/\t+1<=z.2.2) ?_ ?_ ⟨rfl,rfl,by decide,by dsimp only;lia,e0,Nat.le_refl _⟩
  ·rintro t ⟨o,l,u⟩ st' _ D ⟨rfl,e,q,d,b,g⟩
   dsimp only at e q d b g ⊢
   subst e
   by_cases hu:u ≥ n-a
   ·rw[aF5 hu]
    refine wpS_pure ?_
    dsimp only
    refine last _ _ _ (by lia) (by lia) (λi hi=>?_) (λi hi hn=>by lia) (λ_ _=>rfl)
    by_cases hi2:i=a+l
    ·rw[hi2];exact b
    ·exact mono i _ (by lia) d b
   ·rw[aF6 hu]
    refine wpS_bind (m:=bey left p arr base (a+u)) (hb _ (by lia) _ _ x ?_)
    dsimp only
    cases e1:B (a+u) with
    | true =>
     rw[aF6 (by decide)]
     exact wpS_pure ⟨rfl,rfl,by dsimp only;lia,by dsimp only;lia,e1,by dsimp only;lia⟩
    | false =>
     rw[aF5 (by decide)]
     refine wpS_pure ?_
     dsimp only
     refine last _ _ _ (by lia) (by lia) (λi hi=>?_) (λi hi hn=>?_) (λ_ _=>rfl)
     ·by_cases hi2:i=a+l
      ·rw[hi2];exact b
      ·exact mono i _ (by lia) d b
     ·by_cases hi2:i=a+u
      ·rw[hi2];exact e1
      ·exact c _ i (by lia) hn e1
  ·rintro⟨o,l,u⟩ st' ⟨rfl,e,q,d,b,g⟩
   dsimp only at e q d b g ⊢
   subst e
   dsimp only
   refine last _ _ _ (by lia) (by lia) (λi hi=>?_) (λi hi hn=>by lia) (λ_ _=>rfl)
   by_cases hi2:i=a+l
   ·rw[hi2];exact b
   ·exact mono i _ (by lia) d b
 | false =>
  rw[aF6 (by decide)]
  refine wpS_bind ?_
  refine wpS_forRange (λt (z:Option (Option Nat) × Nat × Nat) st'=>st'=st/\z.1=none/\z.2.1<z.2.2/\z.2.1<=a/\B (a-z.2.1)=false/\t+1<=z.2.2) ?_ ?_ ⟨rfl,rfl,by decide,aG0 _,e0,aA6 _⟩
  ·rintro t ⟨o,l,u⟩ st' _ D ⟨rfl,e,q,d,b,g⟩
   dsimp only at e q d b g ⊢
   subst e
   have v:∀ i,a-l<=i->i<n->B i=false:=λi hi hn=>by
    by_cases hi2:i=a-l
    ·rw[hi2];exact b
    ·exact c _ i (by lia) hn b
   by_cases hu:u ≥ a+1
   ·rw[aF5 hu]
    refine wpS_pure ?_
    dsimp only
    exact last _ _ _ (by lia) (by lia) (λi hi=>by lia) v (λ_ _=>rfl)
   ·rw[aF6 hu]
    refine wpS_bind (m:=bey left p arr base (a-u)) (hb _ (by lia) _ _ x ?_)
    dsimp only
    cases e1:B (a-u) with
    | true =>
     rw[aF5 rfl]
     refine wpS_pure ?_
     dsimp only
     refine last _ _ _ (by lia) (by lia) (λi hi=>?_) v (λ_ _=>rfl)
     by_cases hi2:i=a-u
     ·rw[hi2];exact e1
     ·exact mono i _ (by lia) (by lia) e1
    | false =>
     rw[aF6 (by decide)]
     exact wpS_pure ⟨rfl,rfl,by dsimp only;lia,by dsimp only;lia,e1,by dsimp only;lia⟩
  ·rintro⟨o,l,u⟩ st' ⟨rfl,e,q,d,b,g⟩
   dsimp only at e q d b g ⊢
   subst e
   dsimp only
   refine last _ _ _ (by lia) (by lia) (λi hi=>by lia) (λi hi hn=>?_) (λ_ _=>rfl)
   by_cases hi2:i=a-l
   ·rw[hi2];exact b
   ·exact c _ i (by lia) hn b
end
def Srt(R:Keyed->Keyed->Bool)(l:List Keyed):Prop:=l.Pairwise λx y=>R y x=false
structure Mid(R:Keyed->Keyed->Bool)(L out a b:List Keyed):Prop where
 perm:(out++a++b).Perm L
 so:Srt R out
 le:∀ x∈out,∀ y∈a++b,R y x=false
 sa:Srt R a
 sb:Srt R b
section
theorem Mid.takeA(m:Mid R L out (p++a) b)(h:∀ x∈p,∀ y∈b,R y x=false):Mid R L (out++p) a b:=by
 have sp:=aC9.mp m.sa
 refine⟨by have:=m.perm;rw[← aB4] at this;exact this,aC9.mpr ⟨m.so,sp.1,λx d y c=>m.le x d y (aC7 _ (aC7 _ c))⟩,λx d y c=>?_,sp.2.1,m.sb⟩
 rcases aA7.mp d with d|d
 ·refine m.le x d y ?_
  rcases aA7.mp c with c|c
  ·exact aC7 _ (aB3 _ c)
  ·exact aB3 _ c
 ·rcases aA7.mp c with c|c
  ·exact sp.2.2 x d y c
  ·exact h x d y c
theorem Mid.takeB(m:Mid R L out a (p++b))(h:∀ x∈p,∀ y∈a,R y x=false):Mid R L (out++p) a b:=by
 have sp:=aC9.mp m.sb
 refine⟨List.Perm.trans ?_ m.perm,aC9.mpr ⟨m.so,sp.1,λx d y c=>m.le x d y (aB3 _ (aC7 _ c))⟩,λx d y c=>?_,m.sa,sp.2.1⟩
 ·rw[← aB4 (out++a) p b]
  refine List.Perm.append_right b ?_
  rw[aB4,aB4]
  exact List.Perm.append_left out List.perm_append_comm
 ·rcases aA7.mp d with d|d
  ·refine m.le x d y ?_
   rcases aA7.mp c with c|c
   ·exact aC7 _ c
   ·exact aB3 _ (aB3 _ c)
  ·rcases aA7.mp c with c|c
   ·exact h x d y c
   ·exact sp.2.2 x d y c
theorem Mid.done(m:Mid R L out a b)(h:a=[]\/b=[]):(out++a++b).Perm L/\Srt R (out++a++b):=by
 refine⟨m.perm,?_⟩
 rw[aB4]
 refine aC9.mpr ⟨m.so,?_,m.le⟩
 rcases h with h|h
 ·subst h;exact m.sb
 ·subst h;rw[aF0];exact m.sa
theorem Mid.last(m:Mid R L out a b)(h:∀ y∈b,∀ x∈a,R x y=false):(out++b++a).Perm L/\Srt R (out++b++a):=by
 refine⟨List.Perm.trans ?_ m.perm,?_⟩
 ·rw[aB4,aB4]
  exact List.Perm.append_left out List.perm_append_comm
 ·rw[aB4]
  refine aC9.mpr ⟨m.so,aC9.mpr ⟨m.sb,m.sa,h⟩,λx d y c=>m.le x d y ?_⟩
  rcases aA7.mp c with c|c
  ·exact aB3 _ c
  ·exact aC7 _ c
end
structure Eqv(st st':SortSt):Prop where
 k:kindOf st'=kindOf st
 a:arrOf st'=arrOf st
 p:pendingOf st'=pendingOf st
 f:failedOf st'=failedOf st
theorem Eqv.refl(st:SortSt):Eqv st st:=⟨rfl,rfl,rfl,rfl⟩
theorem Eqv.trans{a b c:SortSt}(h:Eqv a b)(g:Eqv b c):Eqv a c:=⟨g.k.trans h.k,g.a.trans h.a,g.p.trans h.p,g.f.trans h.f⟩
theorem ahl(a:Array Keyed)(i:Nat):(a.extract i a.size).toList=a.toList.drop i:=by
 rw[Array.toList_extract];simp only[List.extract_eq_take_drop];exact aF1 (by simp)
theorem ajx(a:Array Keyed)(i k:Nat):(a.extract i (i+k)).toList=(a.toList.drop i).take k:=by
 rw[Array.toList_extract];simp[List.extract]
theorem abr{a:Array Keyed}{i:Nat}(h:i<a.size):a.toList.drop i=a[i]::a.toList.drop (i+1):=by
 rw[List.drop_eq_getElem_cons (by simpa using h)];simp
section
theorem Cmp.irr(C:Cmp M A E s κ S R)(a:S x):R x x=false:=by
 cases e:R x x with
 |false=>rfl
 |true=>have:=C.asy x x a a e;rw[e] at this;cases this
theorem agw(C:Cmp M A E s κ S R){a:Keyed}{arr:Array Keyed}{base n f:Nat}(g:S a)(T:∀ x∈arr.toList,S x)(hn:base+n<=arr.size)(hs:Srt R ((arr.toList.drop base).take n))(hh:f<n)
  {Q:Option Nat->SortSt->Prop} {st:SortSt} (O:kindOf st = κ)
  (h:∀ k,k<=n->(∀ x∈(arr.toList.drop base).take k,R a x=false)->(∀ x∈((arr.toList.drop base).take n).drop k,R a x=true)->Q (some k) st) :
  wpS M A E s (ajw false a arr base n f) Q st:=by
 have at':∀ i,i<n->∃ x,arr[base+i]?=some x/\S x/\((arr.toList.drop base).take n)[i]?=some x:=λi hi=>by
  have p:base+i<arr.size:=by lia
  refine⟨arr[base+i],aA4 p,T _ (by simp),?_⟩
  rw[aH5 hi,aI2]
  simp[p]
 have l:∀ i j x y,i<j->j<n->arr[base+i]?=some x->arr[base+j]?=some y->R y x=false:=λi j x y o r ex I=>by
  obtain⟨U,c,_,b⟩:=at' i (by lia)
  obtain⟨X,D,_,z⟩:=at' j r
  rw[ex] at c;cases c
  rw[I] at D;cases D
  obtain⟨H,b⟩:=aA1.mp b
  obtain⟨N,z⟩:=aA1.mp z
  have:=aG7.mp hs i j H N o
  rw[b,z] at this
  exact this
 refine aks (κ:=κ) (B:=λi=>match arr[base+i]? with|some x=>!(R a x)|none=>false) (λi hi W st' v F=>?_) (λi j o r q=>?_) hh O λk u G K=>h k u (λx w=>?_) λx w=>?_
 ·obtain⟨x,c,t,_⟩:=at' i hi
  unfold bey
  refine wpS_bind (aa1 c ?_)
  rw[aF6 (by decide)]
  refine wpS_bind (C.ask _ _ g t _ _ v ?_)
  refine wpS_pure ?_
  simp only[c] at F
  exact F
 ·obtain⟨x,c,t,_⟩:=at' i (by lia)
  obtain⟨y,b,L,_⟩:=at' j r
  simp only[c,b] at q ⊢
  have J:=l i j x y o r c b
  have P:R a y=false:=by simpa using q
  have:=C.tr x y a t L g J P
  simp[this]
 ·obtain⟨i,hi,e⟩:=List.getElem_of_mem w
  have d:i<k:=by rw[aH0] at hi;lia
  obtain⟨y,c,_,b⟩:=at' i (by lia)
  have hb:=G i d
  simp only[c] at hb
  have ex:x=y:=by
   have:((arr.toList.drop base).take k)[i]?=some x:=by rw[aA0 hi,e]
   rw[aH5 d] at this
   rw[aH5 (by lia)] at b
   rw[this] at b;exact aC6 b
  subst ex
  simpa using hb
 ·obtain⟨i,hi,e⟩:=List.getElem_of_mem w
  have d:k+i<n:=by rw[aI9,aH0] at hi;lia
  obtain⟨y,c,_,b⟩:=at' (k+i) d
  have hb:=K (k+i) (by lia) d
  simp only[c] at hb
  have ex:x=y:=by
   have:(((arr.toList.drop base).take n).drop k)[i]?=some x:=by rw[aA0 hi,e]
   rw[aI2] at this
   rw[this] at b;exact aC6 b
  subst ex
  simpa using hb
theorem aib(C:Cmp M A E s κ S R){a:Keyed}{arr:Array Keyed}{base n f:Nat}(g:S a)(P:∀ x∈arr.toList,S x)(hn:base+n<=arr.size)(hs:Srt R ((arr.toList.drop base).take n))(hh:f<n)
  {Q:Option Nat->SortSt->Prop} {st:SortSt} (O:kindOf st = κ)
  (h:∀ k,k<=n->(∀ x∈(arr.toList.drop base).take k,R x a=true)->(∀ x∈((arr.toList.drop base).take n).drop k,R x a=false)->Q (some k) st) :
  wpS M A E s (ajw true a arr base n f) Q st:=by
 have at':∀ i,i<n->∃ x,arr[base+i]?=some x/\S x/\((arr.toList.drop base).take n)[i]?=some x:=λi hi=>by
  have q:base+i<arr.size:=by lia
  refine⟨arr[base+i],aA4 q,P _ (by simp),?_⟩
  rw[aH5 hi,aI2]
  simp[q]
 have l:∀ i j x y,i<j->j<n->arr[base+i]?=some x->arr[base+j]?=some y->R y x=false:=λi j x y o r ex I=>by
  obtain⟨T,c,_,b⟩:=at' i (by lia)
  obtain⟨W,D,_,z⟩:=at' j r
  rw[ex] at c;cases c
  rw[I] at D;cases D
  obtain⟨H,b⟩:=aA1.mp b
  obtain⟨N,z⟩:=aA1.mp z
  have:=aG7.mp hs i j H N o
  rw[b,z] at this
  exact this
 refine aks (κ:=κ) (B:=λi=>match arr[base+i]? with|some x=>R x a|none=>false) (λi hi U st' v F=>?_) (λi j o r p=>?_) hh O λk u G K=>h k u (λx w=>?_) λx w=>?_
 ·obtain⟨x,c,t,_⟩:=at' i hi
  unfold bey
  refine wpS_bind (aa1 c ?_)
  rw[aF5 rfl]
  simp only[c] at F
  exact C.ask _ _ t g _ _ v F
 ·obtain⟨x,c,t,_⟩:=at' i (by lia)
  obtain⟨y,b,L,_⟩:=at' j r
  simp only[c,b] at p ⊢
  have J:=l i j x y o r c b
  cases e:R x a with
  |true=>rfl
  | false =>
   have:=C.tr a x y g t L e J
   rw[this] at p;cases p
 ·obtain⟨i,hi,e⟩:=List.getElem_of_mem w
  have d:i<k:=by rw[aH0] at hi;lia
  obtain⟨y,c,_,b⟩:=at' i (by lia)
  have hb:=G i d
  simp only[c] at hb
  have ex:x=y:=by
   have:((arr.toList.drop base).take k)[i]?=some x:=by rw[aA0 hi,e]
   rw[aH5 d] at this
   rw[aH5 (by lia)] at b
   rw[this] at b;exact aC6 b
  subst ex
  exact hb
 ·obtain⟨i,hi,e⟩:=List.getElem_of_mem w
  have d:k+i<n:=by rw[aI9,aH0] at hi;lia
  obtain⟨y,c,_,b⟩:=at' (k+i) d
  have hb:=K (k+i) (by lia) d
  simp only[c] at hb
  have ex:x=y:=by
   have:(((arr.toList.drop base).take n).drop k)[i]?=some x:=by rw[aA0 hi,e]
   rw[aI2] at this
   rw[this] at b;exact aC6 b
  subst ex
  exact hb
end
section
structure Two(S:Keyed->Prop)(R:Keyed->Keyed->Bool)(a b:Array Keyed):Prop where
 ha:∀ x∈a.toList,S x
 hb:∀ x∈b.toList,S x
 sa:Srt R a.toList
 sb:Srt R b.toList
 a0:0<a.size
 b0:0<b.size
 first:∀ x∈a.toList,∀ y,b[0]?=some y->R x y=false
 last:∀ y∈b.toList,∀ x,a[a.size-1]?=some x->R x y=false
def Fin2(R:Keyed->Keyed->Bool)(a b m:Array Keyed):Prop:=m.toList.Perm (a.toList++b.toList)/\Srt R m.toList
structure Lo(S:Keyed->Prop)(R:Keyed->Keyed->Bool)(a b out:Array Keyed)(ia ib:Nat):Prop where
 mid:Mid R (a.toList++b.toList) out.toList (a.toList.drop ia) (b.toList.drop ib)
 ia:ia<=a.size
 ib:ib<=b.size
theorem Lo.len{a b out:Array Keyed}{ia ib:Nat}(l:Lo S R a b out ia ib):out.size+(a.size-ia)+(b.size-ib)=a.size+b.size:=by
 have:=l.mid.perm.length_eq
 simp at this
 lia
theorem Lo.doneA{a b out:Array Keyed}{ia ib:Nat}(l:Lo S R a b out ia ib)(h:ib=b.size\/ia=a.size):Fin2 R a b (out++a.extract ia++b.extract ib):=by
 have:=l.mid.done (by
  rcases h with h|h
  ·right;rw[h];simp
  ·left;rw[h];simp)
 unfold Fin2
 rw[aG6,aG6,ahl,ahl]
 exact this
theorem asz{a:Array Keyed}{i:Nat}(h:i+1=a.size):a.toList.drop i=[a[a.size-1]'(by lia)]:=by
 have hi:i<a.size:=by lia
 rw[abr hi]
 have:i=a.size-1:=by lia
 subst this
 have e:a.toList.drop (a.size-1+1)=[]:=by
  apply List.drop_eq_nil_of_le
  simp;lia
 rw[e]
theorem Lo.lastA{a b out:Array Keyed}{ia ib:Nat}(T:Two S R a b)(l:Lo S R a b out ia ib)(h:ia+1=a.size):Fin2 R a b (out++b.extract ib++a.extract ia):=by
 have:=l.mid.last (by
  intro y d x c
  rw[asz h] at c
  have ex:x=a[a.size-1]'(by lia):=by simpa using c
  refine T.last y (aC4 d) x ?_
  rw[ex]
  exact aA4 _)
 unfold Fin2
 rw[aG6,aG6,ahl,ahl]
 exact this
theorem ae3(C:Cmp M A E s κ S R)(h:Srt R (x::l))(b:S x):∀ y∈x::l,R y x=false:=by
 intro y a
 rcases aA9.mp a with e|a
 ·rw[e];exact C.irr b
 ·exact(aI5.mp h).1 y a
theorem Lo.pushB{a b out:Array Keyed}{ia ib:Nat}(C:Cmp M A E s κ S R)(T:Two S R a b)(l:Lo S R a b out ia ib)(hb:ib<b.size)(h:∀ x∈a.toList.drop ia,R x b[ib]=false):Lo S R a b (out.push b[ib]) ia (ib+1):=by
 refine⟨?_,l.ia,hb⟩
 have m:=l.mid
 rw[abr hb] at m
 rw[Array.toList_push]
 exact m.takeB (p:=[b[ib]]) (λx d y c=>by
  have:x=b[ib]:=by simpa using d
  rw[this];exact h y c)
theorem Lo.pushA{a b out:Array Keyed}{ia ib:Nat}(l:Lo S R a b out ia ib)(ha:ia<a.size)(h:∀ y∈b.toList.drop ib,R y a[ia]=false):Lo S R a b (out.push a[ia]) (ia+1) ib:=by
 refine⟨?_,ha,l.ib⟩
 have m:=l.mid
 rw[abr ha] at m
 rw[Array.toList_push]
 exact m.takeA (p:=[a[ia]]) (λx d y c=>by
  have:x=a[ia]:=by simpa using d
  rw[this];exact h y c)
theorem Lo.runA{a b out:Array Keyed}{ia ib k:Nat}(l:Lo S R a b out ia ib)(d:ia+k<=a.size)(h:∀ x∈(a.toList.drop ia).take k,∀ y∈b.toList.drop ib,R y x=false):Lo S R a b (out++a.extract ia (ia+k)) (ia+k) ib:=by
 refine⟨?_,d,l.ib⟩
 have m:=l.mid
 rw[← aC1 k (a.toList.drop ia)] at m
 rw[aG6,ajx]
 have c:=m.takeA h
 rw[List.drop_drop] at c
 exact c
theorem Lo.runB{a b out:Array Keyed}{ia ib k:Nat}(l:Lo S R a b out ia ib)(d:ib+k<=b.size)(h:∀ x∈(b.toList.drop ib).take k,∀ y∈a.toList.drop ia,R y x=false):Lo S R a b (out++b.extract ib (ib+k)) ia (ib+k):=by
 refine⟨?_,l.ia,d⟩
 have m:=l.mid
 rw[← aC1 k (b.toList.drop ib)] at m
 rw[aG6,ajx]
 have c:=m.takeB h
 rw[List.drop_drop] at c
 exact c
theorem adc(h:Srt R l):Srt R (l.drop i):=List.Pairwise.sublist (List.drop_sublist i l) h
theorem jpn{α β:Type}{prog : β->StateT SortSt Sem α}{P : β->Prop}{Q : α->SortSt->Prop}{st:SortSt}{G:Prop}(use:(∀ m,P m->wpS M A E s (prog m) Q st)->G)(a:∀ m,P m->wpS M A E s (prog m) Q st):G:=use a
theorem jpn2{α:Type}{prog:Array Keyed->Nat->StateT SortSt Sem α}{P:Array Keyed->Nat->Prop}{Q : α->SortSt->Prop}{st:SortSt}{G:Prop}(use:(∀ o i,P o i->wpS M A E s (prog o i) Q st)->G)(a:∀ o i,P o i->wpS M A E s (prog o i) Q st):G:=use a
section
variable{ρ β γ δ ε ζ η:Type}
@[elab_as_elim] theorem un5 {J : β->γ->δ->ε->Prop} {G:Option ρ × β × γ × δ × ε->Prop} (z:Option ρ × β × γ × δ × ε) (h:z.1=none/\J z.2.1 z.2.2.1 z.2.2.2.1 z.2.2.2.2) (k:∀ x y u v,J x y u v->G (none,x,y,u,v)):G z:=by
 have e:z=(none,z.2.1,z.2.2.1,z.2.2.2.1,z.2.2.2.2):=by rw[← h.1]
 rw[e];exact k _ _ _ _ h.2
@[elab_as_elim] theorem un6 {J : β->γ->δ->ε->ζ->Prop} {G:Option ρ × β × γ × δ × ε × ζ->Prop} (z:Option ρ × β × γ × δ × ε × ζ) (h:z.1=none/\J z.2.1 z.2.2.1 z.2.2.2.1 z.2.2.2.2.1 z.2.2.2.2.2) (k:∀ x y u v a,J x y u v a->G (none,x,y,u,v,a)):G z:=by
 have e:z=(none,z.2.1,z.2.2.1,z.2.2.2.1,z.2.2.2.2.1,z.2.2.2.2.2):=by rw[← h.1]
 rw[e];exact k _ _ _ _ _ h.2
@[elab_as_elim] theorem un7 {J : β->γ->δ->ε->ζ->η->Prop} {G:Option ρ × β × γ × δ × ε × ζ × η->Prop} (z:Option ρ × β × γ × δ × ε × ζ × η) (h:z.1=none/\J z.2.1 z.2.2.1 z.2.2.2.1 z.2.2.2.2.1 z.2.2.2.2.2.1 z.2.2.2.2.2.2) (k:∀ x y u v a b,J x y u v a b->G (none,x,y,u,v,a,b)):G z:=by
 have e:z=(none,z.2.1,z.2.2.1,z.2.2.2.1,z.2.2.2.2.1,z.2.2.2.2.2.1,z.2.2.2.2.2.2):=by rw[← h.1]
 rw[e];exact k _ _ _ _ _ _ h.2
@[elab_as_elim] theorem unR {κ:Type} {F : ρ->Prop} {J : κ->Prop} {G:Option ρ × κ->Prop} (z:Option ρ × κ) (h:(∃ r,z.1=some r/\F r)\/(z.1=none/\J z.2)) (k1:∀ r x,F r->G (some r,x)) (a:z.1=none/\J z.2->G z):G z:=by
 rcases h with ⟨r,e,hr⟩|h
 ·have e:z=(some r,z.2):=by rw[← e]
  rw[e];exact k1 _ _ hr
 ·exact a h
end
theorem aar{c:Prop} [Decidable c] {α:Type} {b a:StateT SortSt Sem α} {Q : α->SortSt->Prop} {st:SortSt} (d:c->wpS M A E s b Q st) (f:¬ c->wpS M A E s a Q st):wpS M A E s (if c then b else a) Q st:=by
 by_cases h:c
 ·rw[aF5 h];exact d h
 ·rw[aF6 h];exact f h
theorem aq6 (C:Cmp M A E s κ S R) {a b:Array Keyed} (T:Two S R a b) {Q:Array Keyed->SortSt->Prop} {st:SortSt} (hk:kindOf st = κ)
  (h:∀ m st',Eqv st st'->Fin2 R a b m->Q m st'):wpS M A E s (au1 a b) Q st:=by
 have L:∀ i (h:i<a.size),S a[i]:=λi h=>T.ha _ (by simp)
 have O:∀ i (h:i<b.size),S b[i]:=λi h=>T.hb _ (by simp)
 have b0:=T.b0
 have a0:=T.a0
 refine wpS_bind (aea ?_)
 refine wpS_bind (aa1 (x:=b[0]'b0) (aA4 b0) ?_)
 have l1:Lo S R a b #[b[0]'b0] 0 1:=by
  have l0:Lo S R a b #[] 0 0:=⟨⟨by simp,List.Pairwise.nil,λx w=>by simp at w,T.sa,T.sb⟩,aG0 _,aG0 _⟩
  exact l0.pushB C T b0 λx w=>T.first x (by simpa using w) _ (aA4 b0)
 refine aar (λe1=>wpS_pure (h _ _ (Eqv.refl _) (l1.doneA (.inl (aG3.mp e1))))) (λe1=>?_)
 refine aar (λe2=>wpS_pure (h _ _ (Eqv.refl _) (l1.lastA T (aG3.mp e2)))) (λe2=>?_)
 replace e1:1 ≠ b.size:=λq=>e1 (aG3.mpr q)
 replace e2:0+1 ≠ a.size:=λq=>e2 (aG3.mpr q)
 refine wpS_bind (wpS_get ?_)
 refine wpS_bind (wpS_mono (Q:=λ(z:Option (Array Keyed) × Array Keyed × Nat × Nat × Nat) st'=>Eqv st st'/\∃ r,z.1=some r/\Fin2 R a b r) ?_ ?_)
 ·refine wpS_forRange (λt (z:Option (Array Keyed) × Array Keyed × Nat × Nat × Nat) st'=>Eqv st st'/\z.1=none/\Lo S R a b z.2.1 z.2.2.1 z.2.2.2.1/\z.2.2.1+1<a.size/\z.2.2.2.1<b.size/\t+1<=z.2.1.size) ?_ ?_ ⟨Eqv.refl _,rfl,l1,by dsimp only;lia,by dsimp only;lia,by simp⟩
  ·intro t z a9 _ ht n
   have q1:=n.1
   refine un5 (J:=λout ia ib _=>Lo S R a b out ia ib/\ia+1<a.size/\ib<b.size/\t+1<=out.size) z n.2 λout ia ib mg v=>?_
   dsimp only
   refine wpS_bind (wpS_mono (Q:=λ(z:Option (Array Keyed) × Array Keyed × Nat × Nat × Nat × Nat) st'=>Eqv st st'/\((∃ r,z.1=some r/\Fin2 R a b r)\/(z.1=none/\Lo S R a b z.2.1 z.2.2.1 z.2.2.2.1/\z.2.2.1+1<a.size/\z.2.2.2.1<b.size/\t+2<=z.2.1.size))) ?_ ?_)
   ·refine wpS_forRange (λi (z:Option (Array Keyed) × Array Keyed × Nat × Nat × Nat × Nat) st'=>Eqv st st'/\z.1=none/\Lo S R a b z.2.1 z.2.2.1 z.2.2.2.1/\z.2.2.1+1<a.size/\z.2.2.2.1<b.size/\t+1+min i 1<=z.2.1.size) ?_ ?_ ⟨q1,rfl,v.1,v.2.1,v.2.2.1,v.2.2.2⟩
    ·intro i z o _ hi n
     have q:=n.1
     refine un6 (J:=λout ia ib _ _=>Lo S R a b out ia ib/\ia+1<a.size/\ib<b.size/\t+1+min i 1<=out.size) z n.2 λout ia ib ac bc v=>?_
     have l:=v.1
     have H:=v.2.1
     have d:=v.2.2.1
     have hsz:=v.2.2.2
     have g:ia<a.size:=Nat.lt_of_succ_lt H
     refine wpS_bind (aa1 (x:=b[ib]) (aA4 d) ?_)
     refine wpS_bind (aa1 (x:=a[ia]) (aA4 g) ?_)
     refine wpS_bind (C.ask _ _ (O ib d) (L ia g) _ _ (q.k.trans hk) ?_)
     dsimp only
     refine aar (λer=>?_) (λer=>?_)
     ·refine wpS_bind (aa1 (x:=b[ib]) (aA4 d) ?_)
      have F:Lo S R a b (out.push b[ib]) ia (ib+1):=l.pushB C T d λx w=>by
       rw[abr g] at w
       have hd:Srt R (a[ia]::a.toList.drop (ia+1)):=by rw[← abr g];exact adc T.sa
       have sx:S x:=T.ha x (aC4 (i:=ia) (by rw[abr g];exact w))
       exact C.tr _ _ _ (O ib d) (L ia g) sx (C.asy _ _ (O ib d) (L ia g) er) (ae3 C hd (L ia g) x w)
      refine aar (λD=>wpS_pure ⟨q,.inl ⟨_,rfl,F.doneA (.inl (aG3.mp D))⟩⟩) (λD=>?_)
      have hf:ib+1<b.size/\t+2<=(out.push b[ib]).size:=by
       have Y:ib+1 ≠ b.size:=λq=>D (aG3.mpr q)
       rw[aH9];lia
      refine aar (λ_=>wpS_pure ⟨q,.inr ⟨rfl,F,H,hf⟩⟩) (λ_=>wpS_pure ⟨q,rfl,F,H,hf.1,aD0 (by lia) hf.2⟩)
     ·refine wpS_bind (aa1 (x:=a[ia]) (aA4 g) ?_)
      have F:Lo S R a b (out.push a[ia]) (ia+1) ib:=l.pushA g λy I=>by
       rw[abr d] at I
       have hd:Srt R (b[ib]::b.toList.drop (ib+1)):=by rw[← abr d];exact adc T.sb
       have sy:S y:=T.hb y (aC4 (i:=ib) (by rw[abr d];exact I))
       exact C.tr _ _ _ (L ia g) (O ib d) sy (eq_false_of_ne_true er) (ae3 C hd (O ib d) y I)
      refine aar (λD=>wpS_pure ⟨q,.inl ⟨_,rfl,F.lastA T (aG3.mp D)⟩⟩) (λD=>?_)
      have hf:ia+1+1<a.size/\ib<b.size/\t+2<=(out.push a[ia]).size:=by
       have Y:ia+1+1 ≠ a.size:=λq=>D (aG3.mpr q)
       rw[aH9];lia
      refine aar (λ_=>wpS_pure ⟨q,.inr ⟨rfl,F,hf⟩⟩) (λ_=>wpS_pure ⟨q,rfl,F,hf.1,d,aD0 (by lia) hf.2.2⟩)
    ·exact λz o n=>⟨n.1,.inr ⟨n.2.1,n.2.2.1,n.2.2.2.1,n.2.2.2.2.1,aD0 (by lia) n.2.2.2.2.2⟩⟩
   ·intro z o n
    have W:=n.1
    refine unR (J:=λy:Array Keyed × Nat × Nat × Nat × Nat=>Lo S R a b y.1 y.2.1 y.2.2.1/\y.2.1+1<a.size/\y.2.2.1<b.size/\t+2<=y.1.size) z n.2 (λr x hr=>wpS_pure ⟨W,r,rfl,hr⟩) λZ=>?_
    refine un6 (J:=λout ia ib _ _=>Lo S R a b out ia ib/\ia+1<a.size/\ib<b.size/\t+2<=out.size) z Z λout ia ib ac bc v=>?_
    dsimp only
    refine wpS_bind (aea ?_)
    refine wpS_bind (wpS_mono (Q:=λ(z:Option (Array Keyed) × Array Keyed × Nat × Nat × Nat × Nat × Nat) st'=>Eqv st st'/\((∃ r,z.1=some r/\Fin2 R a b r)\/(z.1=none/\Lo S R a b z.2.1 z.2.2.1 z.2.2.2.1/\z.2.2.1+1<a.size/\z.2.2.2.1<b.size/\t+2<=z.2.1.size))) ?_ ?_)
    ·refine wpS_forRange (λi (z:Option (Array Keyed) × Array Keyed × Nat × Nat × Nat × Nat × Nat) st'=>Eqv st st'/\z.1=none/\Lo S R a b z.2.1 z.2.2.1 z.2.2.2.1/\z.2.2.1+1<a.size/\z.2.2.2.1<b.size/\t+2<=z.2.1.size) ?_ (λz o n=>⟨n.1,.inr n.2⟩) ⟨W,rfl,v⟩
     intro i z o _ hi n
     have q:=n.1
     refine un7 (J:=λout ia ib _ _ _=>Lo S R a b out ia ib/\ia+1<a.size/\ib<b.size/\t+2<=out.size) z n.2 λout ia ib mg ac bc v=>?_
     have l:=v.1
     have H:=v.2.1
     have d:=v.2.2.1
     have hsz:=v.2.2.2
     dsimp only
     refine' jpn (M:=M) (A:=A) (E:=E) (s:=s) (st:=o) (β:=Nat) (P:=λ_=>True) (prog:=?prog) (λU=>?use) (λa5 _=>?pf)
     case use =>
      refine aar (λhm=>?_) (λhm=>?_)
      ·generalize mg-1=m
       exact U m trivial
      ·exact U mg trivial
     refine wpS_bind (wpS_mono (Q:=λ_ N=>Eqv o N) (wpS_modify ⟨rfl,rfl,rfl,rfl⟩) λ_ N G=>?_)
     replace G:=q.trans G
     refine wpS_bind (aa1 (x:=b[ib]) (aA4 d) ?_)
     refine wpS_bind (agw C (O ib d) T.ha (by lia) (by rw[aF1 (by simp)];exact adc T.sa) (by lia) (G.k.trans hk) λk a8 h1 h2=>?_)
     rw[aF1 (by simp),List.drop_drop] at h2
     dsimp only
     refine' jpn2 (M:=M) (A:=A) (E:=E) (s:=s) (st:=N) (P:=λj c=>Lo S R a b j c ib/\c+1<a.size/\(∀ x∈a.toList.drop c,R x b[ib]=false)/\t+2<=j.size) (prog:=?prog2) (λU=>?use2) (λj c h5=>?pf2)
     case use2 =>
      have u:∀ x∈a.toList.drop (ia+k),R x b[ib]=false:=λx w=>C.asy _ _ (O ib d) (T.ha x (aC4 w)) (h2 x w)
      refine aar (λk0=>?_) (λk0=>?_)
      ·have F:Lo S R a b (out++a.extract ia (ia+k)) (ia+k) ib:=l.runA (by lia) λx w y I=>by
        rw[abr d] at I
        have hd:Srt R (b[ib]::b.toList.drop (ib+1)):=by rw[← abr d];exact adc T.sb
        have sy:S y:=T.hb y (aC4 (i:=ib) (by rw[abr d];exact I))
        exact C.tr _ _ _ (T.ha x (aC4 (aC0 w))) (O ib d) sy (h1 x w) (ae3 C hd (O ib d) y I)
       refine aar (λD=>wpS_pure ⟨G,.inl ⟨_,rfl,F.lastA T (aG3.mp D)⟩⟩) (λD=>?_)
       refine aar (λe4=>wpS_pure ⟨G,.inl ⟨_,rfl,F.doneA (.inr (aG3.mp e4))⟩⟩) (λe4=>?_)
       have X:Lo S R a b (out++a.extract ia (ia+k)) (ia+k) ib/\ia+k+1<a.size/\(∀ x∈a.toList.drop (ia+k),R x b[ib]=false)/\t+2<=(out++a.extract ia (ia+k)).size:=by
        have Y:ia+k+1 ≠ a.size:=λq=>D (aG3.mpr q)
        have a6:ia+k ≠ a.size:=λq=>e4 (aG3.mpr q)
        exact⟨F,by lia,u,by rw[Array.size_append];lia⟩
       revert X
       clear D e4 F u
       generalize out++a.extract ia (ia+k)=j
       generalize ia+k=c
       intro X
       exact U j c X
      ·have:k=0:=by lia
       rw[this] at u
       exact U out ia ⟨l,H,u,hsz⟩
     have l3:=h5.1
     have a1:=h5.2.1
     have a2:=h5.2.2.1
     have a3:=h5.2.2.2
     have f:c<a.size:=Nat.lt_of_succ_lt a1
     refine wpS_bind (aa1 (x:=b[ib]) (aA4 d) ?_)
     have l4:=l3.pushB C T d a2
     refine aar (λe5=>wpS_pure ⟨G,.inl ⟨_,rfl,l4.doneA (.inl (aG3.mp e5))⟩⟩) (λe5=>?_)
     replace e5:ib+1 ≠ b.size:=λq=>e5 (aG3.mpr q)
     refine wpS_bind (aa1 (x:=a[c]) (aA4 f) ?_)
     refine wpS_bind (aib C (L c f) T.hb (by lia) (by rw[aF1 (by simp)];exact adc T.sb) (by lia) (G.k.trans hk) λK a4 h3 h4=>?_)
     rw[aF1 (by simp),List.drop_drop] at h4
     dsimp only
     refine' jpn2 (M:=M) (A:=A) (E:=E) (s:=s) (st:=N) (P:=λp B=>Lo S R a b p c B/\B<b.size/\(∀ y∈b.toList.drop B,R y a[c]=false)/\t+2<=p.size) (prog:=?prog3) (λU=>?use3) (λp B h6=>?pf3)
     case use3 =>
      refine aar (λk0=>?_) (λk0=>?_)
      ·have hd:Srt R (a[c]::a.toList.drop (c+1)):=by rw[← abr f];exact adc T.sa
       have l5:Lo S R a b (j.push b[ib]++b.extract (ib+1) (ib+1+K)) c (ib+1+K):=l4.runB (by lia) λx w y I=>by
        rw[abr f] at I
        have sy:S y:=T.ha y (aC4 (i:=c) (by rw[abr f];exact I))
        have sx:S x:=T.hb x (aC4 (aC0 w))
        exact C.tr _ _ _ sx (L c f) sy (C.asy _ _ sx (L c f) (h3 x w)) (ae3 C hd (L c f) y I)
       refine aar (λe6=>wpS_pure ⟨G,.inl ⟨_,rfl,l5.doneA (.inl (aG3.mp e6))⟩⟩) (λe6=>?_)
       have X:Lo S R a b (j.push b[ib]++b.extract (ib+1) (ib+1+K)) c (ib+1+K)/\ib+1+K<b.size/\(∀ y∈b.toList.drop (ib+1+K),R y a[c]=false)/\t+2<=(j.push b[ib]++b.extract (ib+1) (ib+1+K)).size:=by
        have b1:ib+1+K ≠ b.size:=λq=>e6 (aG3.mpr q)
        exact⟨l5,by lia,h4,by rw[Array.size_append,aH9];lia⟩
       revert X
       clear e6 l5 hd
       generalize j.push b[ib]++b.extract (ib+1) (ib+1+K)=p
       generalize ib+1+K=B
       intro X
       exact U p B X
      ·have:K=0:=by lia
       rw[this] at h4
       exact U (j.push b[ib]) (ib+1) ⟨l4,by lia,h4,by rw[aH9];lia⟩
     refine wpS_bind (aa1 (x:=a[c]) (aA4 f) ?_)
     have l7:=h6.1.pushA f h6.2.2.1
     refine aar (λe7=>wpS_pure ⟨G,.inl ⟨_,rfl,l7.lastA T (aG3.mp e7)⟩⟩) (λe7=>?_)
     have hf:c+1+1<a.size/\B<b.size/\t+2<=(p.push a[c]).size:=by
      have a7:c+1+1 ≠ a.size:=λq=>e7 (aG3.mpr q)
      have h7:=h6.2.2.2
      exact⟨by lia,h6.2.1,by rw[aH9];lia⟩
     exact aar (λ_=>wpS_pure ⟨G,.inr ⟨rfl,l7,hf⟩⟩) (λ_=>wpS_pure ⟨G,rfl,l7,hf⟩)
    ·intro z o n
     have W:=n.1
     refine unR (J:=λy:Array Keyed × Nat × Nat × Nat × Nat × Nat=>Lo S R a b y.1 y.2.1 y.2.2.1/\y.2.1+1<a.size/\y.2.2.1<b.size/\t+2<=y.1.size) z n.2 (λr x hr=>wpS_pure ⟨W,r,rfl,hr⟩) λZ=>?_
     refine un7 (J:=λout ia ib _ _ _=>Lo S R a b out ia ib/\ia+1<a.size/\ib<b.size/\t+2<=out.size) z Z λout ia ib mg ac bc v=>?_
     dsimp only
     refine wpS_bind (wpS_modify ?_)
     exact wpS_pure ⟨W.trans ⟨rfl,rfl,rfl,rfl⟩,rfl,v⟩
  ·intro z o n
   exfalso
   have h1:=n.2.2.1.len
   have h2:=n.2.2.2
   have:a.size+b.size<=max 0 (a.size+b.size):=by lia
   lia
 ·intro z o n
  have W:=n.1
  exact unR (J:=λ_=>False) z (.inl n.2) (λr x hr=>wpS_pure (h r o W hr)) λZ=>Z.2.elim
end
structure MidH(R:Keyed->Keyed->Bool)(L a b tl:List Keyed):Prop where
 perm:(a++b++tl).Perm L
 so:Srt R tl
 le:∀ x∈a++b,∀ y∈tl,R y x=false
 sa:Srt R a
 sb:Srt R b
section
theorem MidH.takeA(m:MidH R L (a++p) b tl)(h:∀ x∈b,∀ y∈p,R y x=false):MidH R L a b (p++tl):=by
 have sp:=aC9.mp m.sa
 refine⟨List.Perm.trans ?_ m.perm,aC9.mpr ⟨sp.2.1,m.so,λx c y d=>m.le x (aC7 _ (aB3 _ c)) y d⟩,λx c y d=>?_,sp.1,m.sb⟩
 ·rw[← aB4,aB4 a p b,aB4 a b p]
  exact List.Perm.append_right tl (List.Perm.append_left a List.perm_append_comm)
 ·rcases aA7.mp d with d|d
  ·rcases aA7.mp c with c|c
   ·exact sp.2.2 x c y d
   ·exact h x c y d
  ·refine m.le x ?_ y d
   rcases aA7.mp c with c|c
   ·exact aC7 _ (aC7 _ c)
   ·exact aB3 _ c
theorem MidH.takeB(m:MidH R L a (b++p) tl)(h:∀ x∈a,∀ y∈p,R y x=false):MidH R L a b (p++tl):=by
 have sp:=aC9.mp m.sb
 refine⟨by have:=m.perm;simp only[aB4] at this ⊢;exact this,aC9.mpr ⟨sp.2.1,m.so,λx c y d=>m.le x (aB3 _ (aB3 _ c)) y d⟩,λx c y d=>?_,m.sa,sp.1⟩
 rcases aA7.mp d with d|d
 ·rcases aA7.mp c with c|c
  ·exact h x c y d
  ·exact sp.2.2 x c y d
 ·refine m.le x ?_ y d
  rcases aA7.mp c with c|c
  ·exact aC7 _ c
  ·exact aB3 _ (aC7 _ c)
theorem MidH.done(m:MidH R L a b tl)(h:a=[]\/b=[]):(a++b++tl).Perm L/\Srt R (a++b++tl):=by
 refine⟨m.perm,aC9.mpr ⟨?_,m.so,m.le⟩⟩
 rcases h with h|h
 ·subst h;exact m.sb
 ·subst h;rw[aF0];exact m.sa
theorem MidH.first(m:MidH R L a b tl)(h:∀ y∈b,∀ x∈a,R x y=false):(b++a++tl).Perm L/\Srt R (b++a++tl):=by
 refine⟨List.Perm.trans (List.Perm.append_right tl List.perm_append_comm) m.perm,aC9.mpr ⟨aC9.mpr ⟨m.sb,m.sa,h⟩,m.so,λx c y d=>m.le x ?_ y d⟩⟩
 rcases aA7.mp c with c|c
 ·exact aB3 _ c
 ·exact aC7 _ c
end
theorem aco{a:Array Keyed}{i:Nat}(c:0<i)(h:i<=a.size):a.toList.take i=a.toList.take (i-1)++[a[i-1]'(by lia)]:=by
 obtain⟨j,rfl⟩:∃ j,i=j+1:=⟨i-1,by lia⟩
 rw[List.take_succ]
 have b:j<a.size:=by lia
 simp[b]
theorem al5(a:Array Keyed)(k:Nat):(a.extract 0 k).toList=a.toList.take k:=by
 rw[Array.toList_extract];simp[List.extract]
theorem amt(a:Array Keyed)(k n:Nat):(a.extract k n).toList=(a.toList.take n).drop k:=by
 rw[Array.toList_extract];simp[List.extract,List.drop_take]
section
structure Hi(S:Keyed->Prop)(R:Keyed->Keyed->Bool)(a b out:Array Keyed)(na nb:Nat):Prop where
 mid:MidH R (a.toList++b.toList) (a.toList.take na) (b.toList.take nb) out.toList.reverse
 na:na<=a.size
 nb:nb<=b.size
theorem Hi.len{a b out:Array Keyed}{na nb:Nat}(l:Hi S R a b out na nb):out.size+na+nb=a.size+b.size:=by
 have:=l.mid.perm.length_eq
 have c:=l.na
 have d:=l.nb
 simp at this
 lia
theorem Hi.doneA{a b out:Array Keyed}{na nb:Nat}(l:Hi S R a b out na nb)(h:na=0\/nb=0):Fin2 R a b (a.extract 0 na++b.extract 0 nb++out.reverse):=by
 have:=l.mid.done (by
  rcases h with h|h
  ·left;rw[h];simp
  ·right;rw[h];simp)
 unfold Fin2
 rw[aG6,aG6,al5,al5,Array.toList_reverse]
 exact this
theorem Hi.firstB{a b out:Array Keyed}{na nb:Nat}(T:Two S R a b)(l:Hi S R a b out na nb)(h:nb=1):Fin2 R a b (b.extract 0 nb++a.extract 0 na++out.reverse):=by
 subst h
 have:=l.mid.first (by
  intro y c x f
  rw[aco (by decide) l.nb] at c
  have d:y=b[0]'T.b0:=by simpa using c
  exact T.first x (aC0 f) y (by rw[d];exact aA4 _))
 unfold Fin2
 rw[aG6,aG6,al5,al5,Array.toList_reverse]
 exact this
theorem acf(h:Srt R l):Srt R (l.take i):=List.Pairwise.sublist (List.take_sublist i l) h
theorem aek(C:Cmp M A E s κ S R)(h:Srt R (l++[x]))(b:S x):∀ y∈l++[x],R x y=false:=by
 intro y a
 rcases aA7.mp a with a|a
 ·exact(aC9.mp h).2.2 y a x (by simp)
 ·have:y=x:=by simpa using a
  rw[this];exact C.irr b
theorem Hi.pushA{a b out:Array Keyed}{na nb:Nat}(l:Hi S R a b out na nb)(c:0<na)(h:∀ x∈b.toList.take nb,R (a[na-1]'(by have:=l.na;lia)) x=false):Hi S R a b (out.push (a[na-1]'(by have:=l.na;lia))) (na-1) nb:=by
 refine⟨?_,by have:=l.na;lia,l.nb⟩
 have m:=l.mid
 rw[aco c l.na] at m
 rw[Array.toList_push,List.reverse_append]
 exact m.takeA (p:=[_]) (λx f y d=>by
  rw[aC2.mp d];exact h x f)
theorem Hi.pushB{a b out:Array Keyed}{na nb:Nat}(l:Hi S R a b out na nb)(c:0<nb)(h:∀ x∈a.toList.take na,R (b[nb-1]'(by have:=l.nb;lia)) x=false):Hi S R a b (out.push (b[nb-1]'(by have:=l.nb;lia))) na (nb-1):=by
 refine⟨?_,l.na,by have:=l.nb;lia⟩
 have m:=l.mid
 rw[aco c l.nb] at m
 rw[Array.toList_push,List.reverse_append]
 exact m.takeB (p:=[_]) (λx f y d=>by
  rw[aC2.mp d];exact h x f)
theorem Hi.runA{a b out:Array Keyed}{na nb k:Nat}(l:Hi S R a b out na nb)(d:k<=na)(h:∀ x∈b.toList.take nb,∀ y∈(a.toList.take na).drop k,R y x=false):Hi S R a b (out++(a.extract k na).reverse) k nb:=by
 refine⟨?_,by have:=l.na;lia,l.nb⟩
 have m:=l.mid
 rw[← aC1 k (a.toList.take na)] at m
 rw[aG6,Array.toList_reverse,amt,List.reverse_append,List.reverse_reverse]
 have c:=m.takeA h
 rw[List.take_take,Nat.min_eq_left d] at c
 exact c
theorem Hi.runB{a b out:Array Keyed}{na nb k:Nat}(l:Hi S R a b out na nb)(d:k<=nb)(h:∀ x∈a.toList.take na,∀ y∈(b.toList.take nb).drop k,R y x=false):Hi S R a b (out++(b.extract k nb).reverse) na k:=by
 refine⟨?_,l.na,by have:=l.nb;lia⟩
 have m:=l.mid
 rw[← aC1 k (b.toList.take nb)] at m
 rw[aG6,Array.toList_reverse,amt,List.reverse_append,List.reverse_reverse]
 have c:=m.takeB h
 rw[List.take_take,Nat.min_eq_left d] at c
 exact c
theorem aq7 (C:Cmp M A E s κ S R) {a b:Array Keyed} (T:Two S R a b) {Q:Array Keyed->SortSt->Prop} {st:SortSt} (hk:kindOf st = κ)
  (h:∀ m st',Eqv st st'->Fin2 R a b m->Q m st'):wpS M A E s (au2 a b) Q st:=by
 have I:∀ i (h:i<a.size),S a[i]:=λi h=>T.ha _ (by simp)
 have N:∀ i (h:i<b.size),S b[i]:=λi h=>T.hb _ (by simp)
 have b0:=T.b0
 have a0:=T.a0
 have la:a.size-1<a.size:=by lia
 refine wpS_bind (aea ?_)
 refine wpS_bind (aa1 (x:=a[a.size-1]'la) (aA4 la) ?_)
 have l1:Hi S R a b #[a[a.size-1]'la] (a.size-1) b.size:=by
  have l0:Hi S R a b #[] a.size b.size:=⟨⟨by simp[aF1],List.Pairwise.nil,λx j y hy=>by simp at hy,acf T.sa,acf T.sb⟩,aA6 _,aA6 _⟩
  exact l0.pushA a0 λx j=>T.last x (aC0 j) _ (aA4 la)
 refine aar (λe1=>wpS_pure (h _ _ (Eqv.refl _) (l1.doneA (.inl (aG3.mp e1))))) (λe1=>?_)
 refine aar (λe2=>wpS_pure (h _ _ (Eqv.refl _) (l1.firstB T (aG3.mp e2)))) (λe2=>?_)
 replace e1:a.size-1 ≠ 0:=λq=>e1 (aG3.mpr q)
 replace e2:b.size ≠ 1:=λq=>e2 (aG3.mpr q)
 refine wpS_bind (wpS_get ?_)
 have a6:∀{na nb:Nat}(D:0<na)(K:na<=a.size)(Y:0<nb)(O:nb<=b.size),R (b[nb-1]'(by lia)) (a[na-1]'(by lia))=true->∀ x∈b.toList.take nb,R (a[na-1]'(by lia)) x=false:=λ{na nb} D K Y O er x j=>by
  have sx:S x:=T.hb x (aC0 j)
  have hs:Srt R (b.toList.take (nb-1)++[b[nb-1]'(by lia)]):=by rw[← aco Y O];exact acf T.sb
  rw[aco Y O] at j
  exact C.tr _ _ _ sx (N _ _) (I _ _) (aek C hs (N _ _) x j) (C.asy _ _ (N _ _) (I _ _) er)
 have a4:∀{na nb:Nat}(D:0<na)(K:na<=a.size)(Y:0<nb)(O:nb<=b.size),R (b[nb-1]'(by lia)) (a[na-1]'(by lia))=false->∀ x∈a.toList.take na,R (b[nb-1]'(by lia)) x=false:=λ{na nb} D K Y O er x j=>by
  have sx:S x:=T.ha x (aC0 j)
  have hs:Srt R (a.toList.take (na-1)++[a[na-1]'(by lia)]):=by rw[← aco D K];exact acf T.sa
  rw[aco D K] at j
  exact C.tr _ _ _ sx (I _ _) (N _ _) (aek C hs (I _ _) x j) er
 refine wpS_bind (wpS_mono (Q:=λ(z:Option (Array Keyed) × Nat × Nat × Array Keyed × Nat) st'=>Eqv st st'/\∃ r,z.1=some r/\Fin2 R a b r) ?_ ?_)
 ·refine wpS_forRange (λt (z:Option (Array Keyed) × Nat × Nat × Array Keyed × Nat) st'=>Eqv st st'/\z.1=none/\Hi S R a b z.2.2.2.1 z.2.1 z.2.2.1/\0<z.2.1/\1<z.2.2.1/\t+1<=z.2.2.2.1.size) ?_ ?_ ⟨Eqv.refl _,rfl,l1,by dsimp only;lia,by dsimp only;lia,by simp⟩
  ·intro t z b6 _ ht f
   have q1:=f.1
   refine un5 (J:=λna nb out _=>Hi S R a b out na nb/\0<na/\1<nb/\t+1<=out.size) z f.2 λna nb out mg o=>?_
   dsimp only
   refine wpS_bind (wpS_mono (Q:=λ(z:Option (Array Keyed) × Nat × Nat × Array Keyed × Nat × Nat) st'=>Eqv st st'/\((∃ r,z.1=some r/\Fin2 R a b r)\/(z.1=none/\Hi S R a b z.2.2.2.1 z.2.1 z.2.2.1/\0<z.2.1/\1<z.2.2.1/\t+2<=z.2.2.2.1.size))) ?_ ?_)
   ·refine wpS_forRange (λi (z:Option (Array Keyed) × Nat × Nat × Array Keyed × Nat × Nat) st'=>Eqv st st'/\z.1=none/\Hi S R a b z.2.2.2.1 z.2.1 z.2.2.1/\0<z.2.1/\1<z.2.2.1/\t+1+min i 1<=z.2.2.2.1.size) ?_ ?_ ⟨q1,rfl,o.1,o.2.1,o.2.2.1,o.2.2.2⟩
    ·intro i z g _ hi f
     have q:=f.1
     refine un6 (J:=λna nb out _ _=>Hi S R a b out na nb/\0<na/\1<nb/\t+1+min i 1<=out.size) z f.2 λna nb out ac bc o=>?_
     have l:=o.1
     have p:=o.2.1
     have a3:=o.2.2.1
     have hsz:=o.2.2.2
     have ia:na-1<a.size:=by have:=l.na;lia
     have ib:nb-1<b.size:=by have:=l.nb;lia
     refine wpS_bind (aa1 (x:=b[nb-1]) (aA4 ib) ?_)
     refine wpS_bind (aa1 (x:=a[na-1]) (aA4 ia) ?_)
     refine wpS_bind (C.ask _ _ (N _ ib) (I _ ia) _ _ (q.k.trans hk) ?_)
     dsimp only
     refine aar (λer=>?_) (λer=>?_)
     ·refine wpS_bind (aa1 (x:=a[na-1]) (aA4 ia) ?_)
      have G:=l.pushA p (a6 p l.na (by lia) l.nb er)
      refine aar (λw=>wpS_pure ⟨q,.inl ⟨_,rfl,G.doneA (.inl (aG3.mp w))⟩⟩) (λw=>?_)
      have hf:0<na-1/\1<nb/\t+2<=(out.push a[na-1]).size:=by
       have a2:na-1 ≠ 0:=λq=>w (aG3.mpr q)
       rw[aH9];lia
      exact aar (λ_=>wpS_pure ⟨q,.inr ⟨rfl,G,hf⟩⟩) (λ_=>wpS_pure ⟨q,rfl,G,hf.1,a3,aD0 (by lia) hf.2.2⟩)
     ·refine wpS_bind (aa1 (x:=b[nb-1]) (aA4 ib) ?_)
      have G:=l.pushB (by lia) (a4 p l.na (by lia) l.nb (eq_false_of_ne_true er))
      refine aar (λw=>wpS_pure ⟨q,.inl ⟨_,rfl,G.firstB T (aG3.mp w)⟩⟩) (λw=>?_)
      have hf:1<nb-1/\t+2<=(out.push b[nb-1]).size:=by
       have a2:nb-1 ≠ 1:=λq=>w (aG3.mpr q)
       rw[aH9];lia
      exact aar (λ_=>wpS_pure ⟨q,.inr ⟨rfl,G,p,hf⟩⟩) (λ_=>wpS_pure ⟨q,rfl,G,p,hf.1,aD0 (by lia) hf.2⟩)
    ·exact λz g f=>⟨f.1,.inr ⟨f.2.1,f.2.2.1,f.2.2.2.1,f.2.2.2.2.1,aD0 (by lia) f.2.2.2.2.2⟩⟩
   ·intro z g f
    have Z:=f.1
    refine unR (J:=λy:Nat × Nat × Array Keyed × Nat × Nat=>Hi S R a b y.2.2.1 y.1 y.2.1/\0<y.1/\1<y.2.1/\t+2<=y.2.2.1.size) z f.2 (λr x hr=>wpS_pure ⟨Z,r,rfl,hr⟩) λhN=>?_
    refine un6 (J:=λna nb out _ _=>Hi S R a b out na nb/\0<na/\1<nb/\t+2<=out.size) z hN λna nb out ac bc o=>?_
    dsimp only
    refine wpS_bind (aea ?_)
    refine wpS_bind (wpS_mono (Q:=λ(z:Option (Array Keyed) × Nat × Nat × Array Keyed × Nat × Nat × Nat) st'=>Eqv st st'/\((∃ r,z.1=some r/\Fin2 R a b r)\/(z.1=none/\Hi S R a b z.2.2.2.1 z.2.1 z.2.2.1/\0<z.2.1/\1<z.2.2.1/\t+2<=z.2.2.2.1.size))) ?_ ?_)
    ·refine wpS_forRange (λi (z:Option (Array Keyed) × Nat × Nat × Array Keyed × Nat × Nat × Nat) st'=>Eqv st st'/\z.1=none/\Hi S R a b z.2.2.2.1 z.2.1 z.2.2.1/\0<z.2.1/\1<z.2.2.1/\t+2<=z.2.2.2.1.size) ?_ (λz g f=>⟨f.1,.inr f.2⟩) ⟨Z,rfl,o⟩
     intro i z g _ hi f
     have q:=f.1
     refine un7 (J:=λna nb out _ _ _=>Hi S R a b out na nb/\0<na/\1<nb/\t+2<=out.size) z f.2 λna nb out mg ac bc o=>?_
     have l:=o.1
     have p:=o.2.1
     have a3:=o.2.2.1
     have hsz:=o.2.2.2
     have b4:=l.na
     have X:=l.nb
     have ib:nb-1<b.size:=by lia
     dsimp only
     refine' jpn (M:=M) (A:=A) (E:=E) (s:=s) (st:=g) (β:=Nat) (P:=λ_=>True) (prog:=?prog) (λU=>?use) (λb5 _=>?pf)
     case use =>
      refine aar (λhm=>?_) (λhm=>?_)
      ·generalize mg-1=m
       exact U m trivial
      ·exact U mg trivial
     refine wpS_bind (wpS_mono (Q:=λ_ L=>Eqv g L) (wpS_modify ⟨rfl,rfl,rfl,rfl⟩) λ_ L B=>?_)
     replace B:=q.trans B
     refine wpS_bind (aa1 (x:=b[nb-1]) (aA4 ib) ?_)
     refine wpS_bind (agw C (N _ ib) T.ha (by lia) (by rw[List.drop_zero];exact acf T.sa) (by lia) (B.k.trans hk) λk a8 D K=>?_)
     rw[List.drop_zero] at D K
     dsimp only
     generalize hac:na-k=ac2
     refine' jpn2 (M:=M) (A:=A) (E:=E) (s:=s) (st:=L) (P:=λd c=>Hi S R a b d c nb/\0<c/\(∀ x∈a.toList.take c,R b[nb-1] x=false)/\t+2<=d.size) (prog:=?prog2) (λU=>?use2) (λd c h5=>?pf2)
     case use2 =>
      refine aar (λk0=>?_) (λk0=>?_)
      ·have b1:Srt R (b.toList.take (nb-1)++[b[nb-1]]):=by rw[← aco (by lia) X];exact acf T.sb
       have G:Hi S R a b (out++(a.extract k na).reverse) k nb:=l.runA a8 λx j y hy=>by
        have sx:S x:=T.hb x (aC0 j)
        have sy:S y:=T.ha y (aC0 (aC4 hy))
        rw[aco (by lia) X] at j
        exact C.tr _ _ _ sx (N _ ib) sy (aek C b1 (N _ ib) x j) (C.asy _ _ (N _ ib) sy (K y hy))
       refine aar (λw=>wpS_pure ⟨B,.inl ⟨_,rfl,G.doneA (.inl (aG3.mp w))⟩⟩) (λw=>?_)
       have hP:Hi S R a b (out++(a.extract k na).reverse) k nb/\0<k/\(∀ x∈a.toList.take k,R b[nb-1] x=false)/\t+2<=(out++(a.extract k na).reverse).size:=by
        have a2:k ≠ 0:=λq=>w (aG3.mpr q)
        exact⟨G,by lia,D,by rw[Array.size_append];lia⟩
       revert hP
       clear w G
       generalize out++(a.extract k na).reverse=d
       generalize k=c
       intro hP
       exact U d c hP
      ·have:k=na:=by lia
       rw[this] at D
       exact U out na ⟨l,p,D,hsz⟩
     have l3:=h5.1
     have H:=h5.2.1
     have a9:=h5.2.2.1
     have b3:=h5.2.2.2
     have F:=l3.na
     have ia:c-1<a.size:=by lia
     refine wpS_bind (aa1 (x:=b[nb-1]) (aA4 ib) ?_)
     have l4:=l3.pushB (by lia) a9
     refine aar (λe5=>wpS_pure ⟨B,.inl ⟨_,rfl,l4.firstB T (aG3.mp e5)⟩⟩) (λe5=>?_)
     replace e5:nb-1 ≠ 1:=λq=>e5 (aG3.mpr q)
     refine wpS_bind (aa1 (x:=a[c-1]) (aA4 ia) ?_)
     refine wpS_bind (aib C (I _ ia) T.hb (by lia) (by rw[List.drop_zero];exact acf T.sb) (by lia) (B.k.trans hk) λv a5 Y O=>?_)
     rw[List.drop_zero] at Y O
     dsimp only
     generalize hbc:nb-1-v=bc2
     refine' jpn2 (M:=M) (A:=A) (E:=E) (s:=s) (st:=L) (P:=λn u=>Hi S R a b n c u/\1<u/\(∀ x∈b.toList.take u,R a[c-1] x=false)/\t+2<=n.size) (prog:=?prog3) (λU=>?use3) (λn u h6=>?pf3)
     case use3 =>
      have a1:∀ x∈b.toList.take v,R a[c-1] x=false:=λx j=>C.asy _ _ (T.hb x (aC0 j)) (I _ ia) (Y x j)
      refine aar (λk0=>?_) (λk0=>?_)
      ·have b2:Srt R (a.toList.take (c-1)++[a[c-1]]):=by rw[← aco H F];exact acf T.sa
       have l5:Hi S R a b (d.push b[nb-1]++(b.extract v (nb-1)).reverse) c v:=l4.runB a5 λx j y hy=>by
        have sx:S x:=T.ha x (aC0 j)
        have sy:S y:=T.hb y (aC0 (aC4 hy))
        rw[aco H F] at j
        exact C.tr _ _ _ sx (I _ ia) sy (aek C b2 (I _ ia) x j) (O y hy)
       refine aar (λe6=>wpS_pure ⟨B,.inl ⟨_,rfl,l5.firstB T (aG3.mp e6)⟩⟩) (λe6=>?_)
       refine aar (λW=>wpS_pure ⟨B,.inl ⟨_,rfl,l5.doneA (.inr (aG3.mp W))⟩⟩) (λW=>?_)
       have hP:Hi S R a b (d.push b[nb-1]++(b.extract v (nb-1)).reverse) c v/\1<v/\(∀ x∈b.toList.take v,R a[c-1] x=false)/\t+2<=(d.push b[nb-1]++(b.extract v (nb-1)).reverse).size:=by
        have b7:v ≠ 1:=λq=>e6 (aG3.mpr q)
        have a7:v ≠ 0:=λq=>W (aG3.mpr q)
        exact⟨l5,by lia,a1,by rw[Array.size_append,aH9];lia⟩
       revert hP
       clear e6 W l5
       generalize d.push b[nb-1]++(b.extract v (nb-1)).reverse=n
       generalize v=u
       intro hP
       exact U n u hP
      ·have:v=nb-1:=by lia
       rw[this] at a1
       exact U (d.push b[nb-1]) (nb-1) ⟨l4,by lia,a1,by rw[aH9];lia⟩
     refine wpS_bind (aa1 (x:=a[c-1]) (aA4 ia) ?_)
     have l7:=h6.1.pushA H h6.2.2.1
     refine aar (λW=>wpS_pure ⟨B,.inl ⟨_,rfl,l7.doneA (.inl (aG3.mp W))⟩⟩) (λW=>?_)
     have hf:0<c-1/\1<u/\t+2<=(n.push a[c-1]).size:=by
      have a7:c-1 ≠ 0:=λq=>W (aG3.mpr q)
      have h7:=h6.2.2.2
      exact⟨by lia,h6.2.1,by rw[aH9];lia⟩
     exact aar (λ_=>wpS_pure ⟨B,.inr ⟨rfl,l7,hf⟩⟩) (λ_=>wpS_pure ⟨B,rfl,l7,hf⟩)
    ·intro z g f
     have Z:=f.1
     refine unR (J:=λy:Nat × Nat × Array Keyed × Nat × Nat × Nat=>Hi S R a b y.2.2.1 y.1 y.2.1/\0<y.1/\1<y.2.1/\t+2<=y.2.2.1.size) z f.2 (λr x hr=>wpS_pure ⟨Z,r,rfl,hr⟩) λhN=>?_
     refine un7 (J:=λna nb out _ _ _=>Hi S R a b out na nb/\0<na/\1<nb/\t+2<=out.size) z hN λna nb out mg ac bc o=>?_
     dsimp only
     refine wpS_bind (wpS_modify ?_)
     exact wpS_pure ⟨Z.trans ⟨rfl,rfl,rfl,rfl⟩,rfl,o⟩
  ·intro z g f
   exfalso
   have D:=f.2.2.1.len
   have K:=f.2.2.2
   have:a.size+b.size<=max 0 (a.size+b.size):=by lia
   lia
 ·intro z g f
  have Z:=f.1
  exact unR (J:=λ_=>False) z (.inl f.2) (λr x hr=>wpS_pure (h r g Z hr)) λhN=>hN.2.elim
end
theorem akt(base:Nat):∀(b v u w:List Keyed)(j:Nat)(xs:Array Keyed),xs.toList=u++v++w->v.length=b.length->u.length=base+j ->
  ((b.zipIdx j).foldl (λa x=>match x with|(p,j)=>a.setIfInBounds (base+j) p) xs).toList=u++b++w
 | [],v,u,w,j,xs,h1,h2,h3=>by
  have:v=[]:=aH2 h2
  subst this
  exact h1
 | m::b,v,u,w,j,xs,h1,h2,h3=>by
  cases v with
  |nil=>cases h2
  | cons y v =>
   rw[List.zipIdx_cons,List.foldl_cons]
   have c:=akt base b v (u++[m]) w (j+1) (xs.setIfInBounds (base+j) m) (by
    rw[Array.toList_setIfInBounds,h1,← h3]
    simp[List.set_append]) (by simpa using h2) (by simp[h3];lia)
   rw[c]
   simp
section
theorem aya{σ:Type}{st st' : σ}{Q:PUnit->σ->Prop}(h:Q ⟨⟩ st'):wpS M A E s (set st':StateT σ Sem PUnit) Q st:=by
 unfold wpS
 rw[StateT.run_set]
 exact aJ3 ⟨rfl,h⟩
theorem aq8(C:Cmp M A E s κ S R){st:SortSt}{i pw pw2:Nat}{pre a b g:List Keyed}(D:(arrOf st).toList=pre++a++b++g)(Z:∀ x∈(arrOf st).toList,S x)
  (a2:(pendingOf st)[i]?=some (pre.length,a.length,pw)) (a9:(pendingOf st)[i+1]?=some (pre.length+a.length,b.length,pw2)) (na:a ≠ []) (nb:b ≠ []) (P:Srt R a) (O:Srt R b) (hk:kindOf st = κ) (hf:failedOf st=none)
  {Q:Bool->SortSt->Prop}
  (h:∀ st' m,kindOf st' = κ->failedOf st'=none->pendingOf st'=((pendingOf st).setIfInBounds i (pre.length,a.length+b.length,pw)).eraseIdxIfInBounds (i+1)->(arrOf st').toList=pre++m++g->m.Perm (a++b)->Srt R m->Q true st') :
  wpS M A E s (ams i) Q st:=by
 have la:0<a.length:=aF9.mpr na
 have lb:0<b.length:=aF9.mpr nb
 have H:∀ x∈a,S x:=λx c=>Z x (by rw[D];simp[c])
 have K:∀ x∈b,S x:=λx c=>Z x (by rw[D];simp[c])
 have lx:(arrOf st).size=pre.length+a.length+b.length+g.length:=by
  have:=congrArg List.length D
  simp at this
  lia
 have v:((arrOf st).toList.drop pre.length).take a.length=a:=by rw[D];simp[aB4]
 have w:((arrOf st).toList.drop (pre.length+a.length)).take b.length=b:=by
  rw[show pre.length+a.length=(pre++a).length by simp,D,aB4 (pre++a),List.drop_left,List.take_left]
 refine wpS_bind (wpS_get ?_)
 rw[a2,a9]
 refine wpS_bind (wpS_mono (Q:=λ_ o=>kindOf o = κ/\failedOf o=none/\arrOf o=arrOf st/\pendingOf o=((pendingOf st).setIfInBounds i (pre.length,a.length+b.length,pw)).eraseIdxIfInBounds (i+1)) (aya ⟨hk,hf,rfl,rfl⟩) λ_ o ⟨k1,f1,a1,p1⟩=>?_)
 obtain⟨b0,bt,eb⟩:∃ b0 bt,b=b0::bt:=by cases b with|nil=>exact absurd rfl nb|cons x r=>exact⟨x,r,rfl⟩
 have a4:(arrOf st)[pre.length+a.length]?=some b0:=by
  rw[← aD6,D,eb]
  simp[List.getElem?_append]
 have u:S b0:=K b0 (by rw[eb];simp)
 have B:∀ y∈b,R y b0=false:=λy d=>by rw[eb] at d O;exact ae3 C O u y d
 -- nothing is laid together: the two stand in order already
 have plain:(∀ x∈a,∀ y∈b,R y x=false)->∀ st',Eqv o st'->Q true st':=λhc st' q=>by
  refine h st' (a++b) (q.k.trans k1) (q.f.trans f1) (q.p.trans p1) ?_ (List.Perm.refl _) (aC9.mpr ⟨P,O,hc⟩)
  rw[q.a,a1,D]
  simp[aB4]
 refine wpS_bind (aa1 a4 ?_)
 refine wpS_bind (agw C u Z (by lia) (by rw[v];exact P) la k1 λk a5 h1 h2=>?_)
 rw[v] at h2
 have F:∀ x∈a.take k,R b0 x=false:=λx c=>h1 x (by
  have:((arrOf st).toList.drop pre.length).take k=a.take k:=by rw[← v,List.take_take,Nat.min_eq_left a5]
  rw[this];exact c)
 dsimp only
 refine aar (λe=>?_) (λe=>?_)
 ·have e':a.length-k=0:=by simpa using e
  refine wpS_pure (plain (λx c y d=>?_) o (Eqv.refl _))
  have:a.take k=a:=aF1 (by lia)
  rw[this] at F
  exact C.tr x b0 y (H x c) u (K y d) (F x c) (B y d)
 ·have e':a.length-k ≠ 0:=by simpa using e
  -- the last of a
  have N:pre.length+k+(a.length-k)-1=pre.length+(a.length-1):=by lia
  have n:a.length-1<a.length:=by lia
  have a8:(arrOf st)[pre.length+k+(a.length-k)-1]?=some (a[a.length-1]'n):=by
   rw[← aD6,D,N]
   simp[List.getElem?_append,n,aB4]
  have Sl:S (a[a.length-1]'n):=H _ (aF2 n)
  have t:a=a.take (a.length-1)++[a[a.length-1]'n]:=by
   have:=List.take_succ (l:=a) (i:=a.length-1)
   rw[show a.length-1+1=a.length by lia,aG8] at this
   simpa[n] using this
  have I:∀ x∈a,R (a[a.length-1]'n) x=false:=λx c=>by
   have hs:Srt R (a.take (a.length-1)++[a[a.length-1]'n]):=by rw[← t];exact P
   exact aek C hs Sl x (by rw[← t];exact c)
  refine wpS_bind (aa1 a8 ?_)
  refine wpS_bind (aib C Sl Z (by lia) (by rw[w];exact O) (by lia) k1 λj a3 h3 h4=>?_)
  rw[w] at h4
  have U:((arrOf st).toList.drop (pre.length+a.length)).take j=b.take j:=by rw[← w,List.take_take,Nat.min_eq_left a3]
  rw[U] at h3
  dsimp only
  refine aar (λe2=>?_) (λe2=>?_)
  ·have W:j=0:=by simpa using e2
   subst W
   refine wpS_pure (plain (λx c y d=>?_) o (Eqv.refl _))
   exact C.tr x _ y (H x c) Sl (K y d) (I x c) (h4 y (by simpa using d))
  ·have W:j ≠ 0:=by simpa using e2
   have ex:((arrOf st).extract (pre.length+k) (pre.length+a.length)).toList=a.drop k:=by
    rw[amt,D]
    simp[aB4,List.take_append,List.drop_append]
   have L:((arrOf st).extract (pre.length+a.length) (pre.length+a.length+j)).toList=b.take j:=by
    rw[ajx,U]
   generalize hX:(arrOf st).extract (pre.length+k) (pre.length+a.length)=X at ex
   generalize hY:(arrOf st).extract (pre.length+a.length) (pre.length+a.length+j)=Y at L
   have sX:X.size=a.length-k:=by have:=congrArg List.length ex;simpa using this
   have sY:Y.size=j:=by have:=congrArg List.length L;simp at this;lia
   have T:Two S R X Y:=by
    refine⟨λx c=>H x (aC4 (by rw[← ex];exact c)),λx c=>K x (aC0 (by rw[← L];exact c)),by rw[ex];exact adc P,by rw[L];exact acf O,by lia,by lia,λx c y d=>?_,λy d x c=>?_⟩
    ·rw[← aD6,L,eb] at d
     have:y=b0:=by
      obtain⟨j',rfl⟩:∃ j',j=j'+1:=⟨j-1,by lia⟩
      simpa using d.symm
     rw[this]
     rw[ex] at c
     exact C.asy _ _ u (H x (aC4 c)) (h2 x c)
    ·rw[← aD6,ex,sX] at c
     rw[aI2,show k+(a.length-k-1)=a.length-1 by lia,aA0 n] at c
     cases c
     rw[L] at d
     exact C.asy _ _ (K y (aC0 d)) Sl (h3 y d)
   have fin:∀(m:Array Keyed)(st':SortSt),Eqv o st'->Fin2 R X Y m->wpS M A E s (do
     modify λ(z:SortSt)=>setArr z (List.foldl (λa x=>match x with|(p,j)=>a.setIfInBounds (pre.length+k+j) p) (arrOf z) m.toList.zipIdx)
     let z ← get
     pure (failedOf z).isNone) Q st':=by
    intro m st' q ⟨G,ms⟩
    rw[ex,L] at G
    refine wpS_bind (wpS_modify ?_)
    refine wpS_bind (wpS_get ?_)
    refine wpS_pure ?_
    show Q (failedOf st').isNone _
    rw[q.f,f1]
    have lm:m.toList.length=(a.drop k).length+(b.take j).length:=by rw[G.length_eq,aB1]
    have J:∀ z∈m.toList,z∈a.drop k\/z∈b.take j:=λz hz=>aA7.mp (G.mem_iff.mp hz)
    refine h _ (a.take k++m.toList++b.drop j) (q.k.trans k1) (q.f.trans f1) (q.p.trans p1) ?_ ?_ ?_
    ·show(List.foldl _ (arrOf st') m.toList.zipIdx).toList=_
     have base:(arrOf st').toList=(pre++a.take k)++(a.drop k++b.take j)++(b.drop j++g):=by
      rw[q.a,a1,D]
      have t1:=aC1 k a
      have t2:=aC1 j b
      calc pre++a++b++g=pre++(a.take k++a.drop k)++(b.take j++b.drop j)++g:=by rw[t1,t2]
       _=_:=by simp only[aB4]
     have:=akt (pre.length+k) m.toList (a.drop k++b.take j) (pre++a.take k) (b.drop j++g) 0 (arrOf st') base (by rw[aB1,lm]) (by rw[aB1,aH0];lia)
     rw[this]
     simp only[aB4]
    ·have t1:=aC1 k a
     have t2:=aC1 j b
     calc (a.take k++m.toList++b.drop j).Perm (a.take k++(a.drop k++b.take j)++b.drop j):=List.Perm.append_right _ (List.Perm.append_left _ G)
      _ = a++b:=by
       simp only[aB4]
       rw[t2,← aB4,t1]
    ·have a7:Srt R (a.take k++a.drop k):=by rw[aC1];exact P
     have a6:Srt R (b.take j++b.drop j):=by rw[aC1];exact O
     have ca:=(aC9.mp a7).2.2
     have cb:=(aC9.mp a6).2.2
     refine aC9.mpr ⟨aC9.mpr ⟨acf P,ms,λx c y d=>?_⟩,adc O,λx c y d=>?_⟩
     ·rcases J y d with d|d
      ·exact ca x c y d
      ·exact C.tr x b0 y (H x (aC0 c)) u (K y (aC0 d)) (F x c) (B y (aC0 d))
     ·have Sy:=K y (aC4 d)
      rcases aA7.mp c with c|c
      ·exact C.tr x b0 y (H x (aC0 c)) u Sy (F x c) (B y (aC4 d))
      ·rcases J x c with c|c
       ·exact C.tr x _ y (H x (aC4 c)) Sl Sy (I x (aC4 c)) (h4 y d)
       ·exact cb x c y d
   refine aar (λe3=>?_) (λe3=>?_)
   ·exact wpS_bind (aq6 C T k1 λm st' q fm=>fin m st' q fm)
   ·exact wpS_bind (aq7 C T k1 λm st' q fm=>fin m st' q fm)
end
def e(xs:Array Keyed)(k:Nat):Keyed:=(xs[k]?).getD (.none,.none)
theorem aiz(h:k<xs.size):xs[k]?=some (e xs k):=by
 unfold e;rw[aA4 h];rfl
def Asc(R:Keyed->Keyed->Bool)(xs:Array Keyed)(l h:Nat):Prop:=∀ i j,l<=i->i<=j->j<h->R (e xs j) (e xs i)=false
def Des(R:Keyed->Keyed->Bool)(xs:Array Keyed)(l h:Nat):Prop:=∀ i j,l<=i->i<=j->j<h->R (e xs i) (e xs j)=false
structure Bs(κ:SortKind)(p0:Array (Nat × Nat × Nat))(a0:Array Keyed)(lo:Nat)(st:SortSt):Prop where
 k:kindOf st = κ
 f:failedOf st=none
 p:pendingOf st=p0
 perm:(arrOf st).toList.Perm a0.toList
 pre:∀ k,k<lo->(arrOf st)[k]?=a0[k]?
theorem au4(hs:src<xs.size)(hd:d<=src)(k:Nat):e (bubble xs src d) k=if k=src-d then e xs src else if src-d<k/\k<=src then e xs (k-1) else e xs k:=by
 unfold e
 rw[getElem?_bubble hs d hd]
 repeat' split
 all_goals rfl
theorem adu(a:j<=xs.size)(k:Nat):e (mirror xs i j ((j-i) / 2)) k=if i<=k/\k<j then e xs (i+j-1-k) else e xs k:=by
 unfold e
 rw[getElem?_mirror_all a]
 split <;> rfl
section
variable{M:Model}{A:Around}{E:Value->Shared->Prop}{s:Shared}{κ:SortKind}{S:Keyed->Prop}{R:Keyed->Keyed->Bool}{p0:Array (Nat × Nat × Nat)}{a0:Array Keyed}{lo:Nat}
theorem Bs.size{st:SortSt}(B:Bs κ p0 a0 lo st):(arrOf st).size=a0.size:=by
 have:=B.perm.length_eq
 simpa using this
theorem Bs.sat{st:SortSt}(B:Bs κ p0 a0 lo st)(b:∀ x∈a0.toList,S x){k:Nat}(a:k<a0.size):S (e (arrOf st) k):=by
 have h:=aiz (xs:=arrOf st) (k:=k) (by rw[B.size];exact a)
 refine b _ (B.perm.mem_iff.mp ?_)
 rw[← aD6] at h
 exact aA2 h
theorem agx(C:Cmp M A E s κ S R)(b:∀ x∈a0.toList,S x){st:SortSt}(B:Bs κ p0 a0 lo st){i j:Nat}(hi:i<a0.size)(a:j<a0.size){Q:Option Bool->SortSt->Prop}(h:Q (some (R (e (arrOf st) i) (e (arrOf st) j))) st) :
  wpS M A E s (ltAt' i j) Q st:=by
 rw[ltAt'_eq]
 refine wpS_bind (wpS_get ?_)
 refine wpS_bind (aa1 (aiz (by rw[B.size];exact hi)) ?_)
 refine wpS_bind (aa1 (aiz (by rw[B.size];exact a)) ?_)
 exact C.ask _ _ (B.sat b hi) (B.sat b a) _ _ B.k h
theorem au5(C:Cmp M A E s κ S R)(b:∀ k,k<=h->S (e xs k))(f:l<h)(a:Asc R xs l h)(n:R (e xs h) (e xs (h-1))=false):Asc R xs l (h+1):=by
 intro i j c d g
 by_cases hj:j=h
 ·subst hj
  by_cases hi:i=j
  ·subst hi;exact C.irr (b _ (aA6 _))
  ·exact C.tr _ (e xs (j-1)) _ (b _ (by lia)) (b _ (by lia)) (b _ (by lia)) (a i (j-1) c (by lia) (by lia)) n
 ·exact a i j c d (by lia)
theorem af7(C:Cmp M A E s κ S R)(b:∀ k,k<=h->S (e xs k))(f:l<h)(a:Des R xs l h)(n:R (e xs (h-1)) (e xs h)=false):Des R xs l (h+1):=by
 intro i j c d g
 by_cases hj:j=h
 ·subst hj
  by_cases hi:i=j
  ·subst hi;exact C.irr (b _ (aA6 _))
  ·exact C.tr _ (e xs (j-1)) _ (b _ (by lia)) (b _ (by lia)) (b _ (by lia)) n (a i (j-1) c (by lia) (by lia))
 ·exact a i j c d (by lia)
theorem Bs.set{st:SortSt}(B:Bs κ p0 a0 lo st){xs:Array Keyed}(c:xs.Perm (arrOf st))(b:∀ k,k<lo->xs[k]?=(arrOf st)[k]?):Bs κ p0 a0 lo (setArr st xs) :=
 ⟨B.k,B.f,B.p,c.toList.trans B.perm,λk a=>(b k a).trans (B.pre k a)⟩
theorem aq9 (C:Cmp M A E s κ S R) (G:∀ x∈a0.toList,S x) {st:SortSt} (B:Bs κ p0 a0 lo st) {n ok:Nat} (hn:lo+n<=a0.size) (hok:ok<=n) (O:1<=n) (hs:Asc R (arrOf st) lo (lo+ok)) {Q:Bool->SortSt->Prop}
  (h:∀ st',Bs κ p0 a0 lo st'->Asc R (arrOf st') lo (lo+n)->Q true st'):wpS M A E s (au3 lo n ok) Q st:=by
 refine wpS_bind (wpS_mono (Q:=λ(z:Option Bool × Unit) st'=>z.1=none/\Bs κ p0 a0 lo st'/\Asc R (arrOf st') lo (lo+n)) ?_ ?_)
 ·refine wpS_forRange (λk (z:Option Bool × Unit) st'=>z.1=none/\Bs κ p0 a0 lo st'/\Asc R (arrOf st') lo (lo+k)) ?_ ?_ ⟨rfl,B,λi j f g v=>?_⟩
  ·rintro k ⟨o,_⟩ b N L ⟨rfl,u,as⟩
   have d:∀ j,j<lo+n->S (e (arrOf b) j):=λj D=>u.sat G (by lia)
   refine wpS_bind (wpS_mono (Q:=λ(z:Option Bool × Nat × Nat) st'=>st'=b/\z.1=none/\z.2.1<=k/\(∀ i,i<z.2.1->R (e (arrOf b) (lo+k)) (e (arrOf b) (lo+i))=false)/\(∀ i,z.2.1<=i->i<k->R (e (arrOf b) (lo+k)) (e (arrOf b) (lo+i))=true)) ?_ ?_)
   ·refine wpS_forRange (λt (z:Option Bool × Nat × Nat) st'=>st'=b/\z.1=none/\z.2.1<=z.2.2/\z.2.2<=k/\z.2.2-z.2.1+t<=k/\(∀ i,i<z.2.1->R (e (arrOf b) (lo+k)) (e (arrOf b) (lo+i))=false)/\(∀ i,z.2.2<=i->i<k->R (e (arrOf b) (lo+k)) (e (arrOf b) (lo+i))=true)) ?_ ?_
     ⟨rfl,rfl,Nat.zero_le _,Nat.le_refl _,by dsimp only;lia,λi hi=>absurd hi (Nat.not_lt_zero _),λi f g=>by dsimp only at f;lia⟩
    ·rintro t ⟨o,l,r⟩ a _ P ⟨rfl,c,f,g,v,q,p⟩
     dsimp only at c f g v q p ⊢
     subst c
     refine aar (λF=>?_) (λF=>?_)
     ·have:l=r:=by lia
      subst this
      exact wpS_pure ⟨rfl,rfl,g,q,p⟩
     ·have hm:(l+r) / 2<r:=by lia
      have y:l<=(l+r) / 2:=by lia
      refine wpS_bind (agx C G u (by lia) (by lia) ?_)
      dsimp only
      cases er:R (e (arrOf a) (lo+k)) (e (arrOf a) (lo+(l+r) / 2)) with
      | true =>
       rw[aF5 rfl]
       refine wpS_pure ⟨rfl,rfl,y,by dsimp only;lia,by dsimp only;lia,q,λi i1 w=>?_⟩
       dsimp only at i1
       cases e2:R (e (arrOf a) (lo+k)) (e (arrOf a) (lo+i)) with
       |true=>rfl
       | false =>
        have:=C.tr _ _ _ (d _ (by lia)) (d _ (by lia)) (d _ (by lia)) (as (lo+(l+r) / 2) (lo+i) (by lia) (by lia) (by lia)) e2
        rw[this] at er;cases er
      | false =>
       rw[aF6 (by decide)]
       refine wpS_pure ⟨rfl,rfl,by dsimp only;lia,g,by dsimp only;lia,λi i1=>?_,p⟩
       dsimp only at i1
       exact C.tr _ _ _ (d _ (by lia)) (d _ (by lia)) (d _ (by lia)) (as (lo+i) (lo+(l+r) / 2) (by lia) (by lia) (by lia)) er
    ·rintro⟨o,l,r⟩ a ⟨rfl,c,f,g,v,q,p⟩
     dsimp only at c f g v q p ⊢
     have : l = r := by have:k ≤ max 0 k := by lia
                        lia
     subst this
     exact⟨rfl,c,g,q,p⟩
   ·rintro⟨o,l,r⟩ a ⟨rfl,c,f,q,p⟩
    dsimp only at c f q p ⊢
    subst c
    dsimp only
    have hsz:lo+k<(arrOf a).size:=by rw[u.size];lia
    have hd:(lo+k)-(lo+l)=k-l:=by lia
    refine wpS_bind (wpS_modify ?_)
    have I:∀ j,e (bubble (arrOf a) (lo+k) (lo+k-(lo+l))) j=if j=lo+l then e (arrOf a) (lo+k) else if lo+l<j/\j<=lo+k then e (arrOf a) (j-1) else e (arrOf a) j:=λj=>by
     rw[au4 hsz (by lia),show lo+k-(lo+k-(lo+l))=lo+l by lia]
    refine wpS_pure ⟨rfl,u.set (bubble_perm _ _ _) (λj D=>?_),λi j i1 w J=>?_⟩
    ·show(bubble (arrOf a) (lo+k) (lo+k-(lo+l)))[j]?=_
     rw[getElem?_bubble hsz _ (by lia),aF6 (by lia),aF6 (by lia)]
    ·show R (e (bubble (arrOf a) (lo+k) (lo+k-(lo+l))) j) (e (bubble (arrOf a) (lo+k) (lo+k-(lo+l))) i)=false
     rw[I,I]
     have K:∀ j,j<lo+n->S (e (arrOf a) j):=d
     by_cases j1:j=lo+l
     ·rw[aF5 j1]
      by_cases i4:i=lo+l
      ·rw[aF5 i4];exact C.irr (d _ (by lia))
      ·rw[aF6 i4,aF6 (by lia)]
       have:=q (i-lo) (by lia)
       rw[show lo+(i-lo)=i by lia] at this
       exact this
     ·rw[aF6 j1]
      by_cases j2:lo+l<j/\j<=lo+k
      ·rw[aF5 j2]
       have H:=p (j-1-lo) (by lia) (by lia)
       rw[show lo+(j-1-lo)=j-1 by lia] at H
       by_cases i4:i=lo+l
       ·rw[aF5 i4];exact C.asy _ _ (d _ (by lia)) (d _ (by lia)) H
       ·rw[aF6 i4]
        by_cases i5:lo+l<i/\i<=lo+k
        ·rw[aF5 i5];exact as (i-1) (j-1) (by lia) (by lia) (by lia)
        ·rw[aF6 i5];exact as i (j-1) (by lia) (by lia) (by lia)
      ·rw[aF6 j2,aF6 (by lia),aF6 (by lia)]
       exact as i j (by lia) (by lia) (by lia)
  ·rintro⟨o,_⟩ b ⟨c,u,as⟩
   exact⟨c,u,λi j i1 w J=>as i j i1 w (by lia)⟩
  ·by_cases D:j<lo+ok
   ·exact hs i j f g D
   ·have:i=j:=by lia
    subst this
    exact C.irr (B.sat G (by lia))
 ·rintro⟨o,_⟩ b ⟨c,u,as⟩
  dsimp only at c ⊢
  subst c
  exact wpS_pure (h b u as)
end
def Eqb(R:Keyed->Keyed->Bool)(xs:Array Keyed)(l h:Nat):Prop:=∀ i j,l<=i->i<h->l<=j->j<h->R (e xs i) (e xs j)=false
section
variable{M:Model}{A:Around}{E:Value->Shared->Prop}{s:Shared}{κ:SortKind}{S:Keyed->Prop}{R:Keyed->Keyed->Bool}{p0:Array (Nat × Nat × Nat)}{a0:Array Keyed}{lo:Nat}
theorem apq{α:Type}{prog:StateT SortSt Sem α}{P:SortSt->Prop}{Q : α->SortSt->Prop}{G:Prop}(use:(∀ st,P st->wpS M A E s prog Q st)->G)(a:∀ st,P st->wpS M A E s prog Q st):G:=use a
theorem amu(C:Cmp M A E s κ S R)(f:∀ x∈a0.toList,S x){st:SortSt}(B:Bs κ p0 a0 lo st){a nrem:Nat}(i:1<=a)(g:a<=nrem)(hn:lo+nrem<=a0.size)(as:Asc R (arrOf st) lo (lo+a)){Q:Option (Option Nat) × Nat->SortSt->Prop}
  (h:∀ n,a<=n->n<=nrem->Asc R (arrOf st) lo (lo+n)->(n<nrem->R (e (arrOf st) (lo+n)) (e (arrOf st) (lo+n-1))=true)->Q (none,n) st) :
  wpS M A E s (forIn [a:nrem] ((none,a):Option (Option Nat) × Nat) (λ(_:Nat) z=>ltAt' (lo+z.2) (lo+z.2-1) >>= λx=>match x with
   |some smaller=>if smaller=true then pure (ForInStep.done (none,z.2)) else pure (ForInStep.yield (none,z.2+1))
   |_=>pure (ForInStep.done (some none,z.2)))) Q st:=by
 refine wpS_forRange (λt (z:Option (Option Nat) × Nat) st'=>st'=st/\z=(none,t)/\Asc R (arrOf st) lo (lo+t)) ?_ ?_ ⟨rfl,rfl,as⟩
 ·rintro t ⟨o,n⟩ c t1 l ⟨rfl,d,b⟩
  cases d
  dsimp only
  refine wpS_bind (agx C f B (by lia) (by lia) ?_)
  dsimp only
  cases er:R (e (arrOf c) (lo+t)) (e (arrOf c) (lo+t-1)) with
  | true =>
   rw[aF5 rfl]
   exact wpS_pure (h t t1 (by lia) b λ_=>er)
  | false =>
   rw[aF6 (by decide)]
   exact wpS_pure ⟨rfl,rfl,au5 C (h:=lo+t) (λk j=>B.sat f (by lia)) (by lia) b er⟩
 ·rintro⟨o,n⟩ c ⟨rfl,d,b⟩
  cases d
  rw[show max a nrem=nrem by lia] at b ⊢
  exact h nrem g (aA6 _) b λz=>absurd z (aG4 _)
theorem au6(C:Cmp M A E s κ S R){st:SortSt}(B:Bs κ p0 a0 lo st){n:Nat}(hn:lo+n<=a0.size)(a:Des R (arrOf st) lo (lo+n)) :
  Bs κ p0 a0 lo (setArr st (mirror (arrOf st) lo (lo+n) ((lo+n-lo) / 2)))/\Asc R (mirror (arrOf st) lo (lo+n) ((lo+n-lo) / 2)) lo (lo+n):=by
 have hz:lo+n<=(arrOf st).size:=by rw[B.size];exact hn
 refine⟨B.set (mirror_perm _ _ _ _) (λk b=>by rw[getElem?_mirror_all hz,aF6 (by lia)]),λi j c d f=>?_⟩
 rw[adu hz,adu hz,aF5 (by lia),aF5 (by lia)]
 exact a _ _ (by lia) (by lia) (by lia)
theorem ajy(C:Cmp M A E s κ S R)(d:∀ x∈a0.toList,S x){st:SortSt}(B:Bs κ p0 a0 lo st){l h m:Nat}(g:lo<=l)(hh:h<=a0.size)(hm:h<=m)(b:m<=a0.size)(a:Des R (arrOf st) lo m)(eq:Eqb R (arrOf st) l h) :
  Bs κ p0 a0 lo (setArr st (mirror (arrOf st) l h ((h-l) / 2)))/\Des R (mirror (arrOf st) l h ((h-l) / 2)) lo m:=by
 have hz:h<=(arrOf st).size:=by rw[B.size];exact hh
 refine⟨B.set (mirror_perm _ _ _ _) (λk c=>by rw[getElem?_mirror_all hz,aF6 (by lia)]),λi j f o p=>?_⟩
 rw[adu hz,adu hz]
 have n:∀ k,k<m->S (e (arrOf st) k):=λk c=>B.sat d (by lia)
 by_cases c1:l<=i/\i<h
 ·rw[aF5 c1]
  by_cases c2:l<=j/\j<h
  ·rw[aF5 c2]
   exact eq _ _ (by lia) (by lia) (by lia) (by lia)
  ·rw[aF6 c2]
   exact a _ _ (by lia) (by lia) (by lia)
 ·rw[aF6 c1]
  by_cases c2:l<=j/\j<h
  ·rw[aF5 c2]
   exact a _ _ (by lia) (by lia) (by lia)
  ·rw[aF6 c2]
   exact a _ _ (by lia) (by lia) (by lia)
theorem as0 (C:Cmp M A E s κ S R) (p:∀ x∈a0.toList,S x) {st:SortSt} (B:Bs κ p0 a0 lo st) {nrem:Nat} (h1:1<=nrem) (hn:lo+nrem<=a0.size) {Q:Option Nat->SortSt->Prop}
  (h:∀ st' n,Bs κ p0 a0 lo st'->1<=n->n<=nrem->Asc R (arrOf st') lo (lo+n)->Q (some n) st'):wpS M A E s (ax9 lo nrem) Q st:=by
 refine wpS_bind (amu C p B (aA6 1) h1 hn (λi j i1 r W=>?_) λn n1 n2 as br=>?_)
 ·have:i=j:=by lia
  subst this
  exact C.irr (B.sat p (by lia))
 dsimp only
 refine aar (λen=>wpS_pure (h st n B n1 n2 as)) (λen=>?_)
 have a4:n ≠ nrem:=by simpa using en
 have Y:n<nrem:=by lia
 have I:=br Y
 refine apq (M:=M) (A:=A) (E:=E) (s:=s) (α:=Option Nat) (Q:=Q) (P:=λu=>Bs κ p0 a0 lo u/\Des R (arrOf u) lo (lo+n)/\R (e (arrOf u) (lo+n)) (e (arrOf u) (lo+n-1))=true) (prog:=?prog) (λL=>?use) (λu ⟨K,Z,T⟩=>?pf)
 case use =>
  refine aar (λg1=>?_) (λg1=>?_)
  ·refine wpS_bind (agx C p B (by lia) (by lia) ?_)
   dsimp only
   cases er:R (e (arrOf st) lo) (e (arrOf st) (lo+n-1)) with
   |true=>rw[aF5 rfl];exact wpS_pure (h st n B n1 n2 as)
   | false =>
    rw[aF6 (by decide)]
    -- all of them are equal
    have c:∀ k,k<lo+n->S (e (arrOf st) k):=λk J=>B.sat p (by lia)
    have all:Eqb R (arrOf st) lo (lo+n):=λi j i1 r y w=>by
     -- j<=last<=first<=i
     have a1:=as j (lo+n-1) y (by lia) (by lia)
     have a2:=as lo i (aA6 _) i1 r
     exact C.tr _ _ _ (c j w) (c lo (by lia)) (c i r) (C.tr _ _ _ (c j w) (c (lo+n-1) (by lia)) (c lo (by lia)) a1 er) a2
    have Z:Des R (arrOf st) lo (lo+n):=λi j i1 r W=>all i j i1 (by lia) (by lia) W
    have hz:lo+n<=(arrOf st).size:=by rw[B.size];lia
    obtain⟨q,a⟩:=ajy C p B (aA6 lo) (show lo+n<=a0.size by lia) (aA6 _) (by lia) Z all
    refine wpS_bind (wpS_modify ?_)
    refine L _ ⟨q,a,?_⟩
    show R (e (mirror (arrOf st) lo (lo+n) ((lo+n-lo) / 2)) (lo+n)) (e (mirror (arrOf st) lo (lo+n) ((lo+n-lo) / 2)) (lo+n-1))=true
    rw[adu hz,adu hz,aF6 (by lia),aF5 (by lia)]
    rw[show lo+(lo+n)-1-(lo+n-1)=lo by lia]
    cases e2:R (e (arrOf st) (lo+n)) (e (arrOf st) lo) with
    |true=>rfl
    | false =>
     have:=C.tr _ _ _ (c (lo+n-1) (by lia)) (c lo (by lia)) (B.sat p (show lo+n<a0.size by lia)) er e2
     rw[this] at I;cases I
  ·have:n=1:=by lia
   subst this
   refine L st ⟨B,λi j i1 r W=>?_,I⟩
   have:i=j:=by lia
   subst this
   exact C.irr (B.sat p (by lia))
 case pf =>
  -- the falling part
  refine wpS_bind (aea ?_)
  refine wpS_bind (wpS_mono (Q:=λ(z:Option (Option Nat) × Nat × Nat) st'=>z.1=none/\Bs κ p0 a0 lo st'/\z.2.1<=nrem/\z.2.2+1<=z.2.1/\Des R (arrOf st') lo (lo+z.2.1)/\Eqb R (arrOf st') (lo+z.2.1-(z.2.2+1)) (lo+z.2.1)) ?_ ?_)
  ·refine wpS_forRange (λt (z:Option (Option Nat) × Nat × Nat) st'=>z.1=none/\z.2.1=t/\Bs κ p0 a0 lo st'/\z.2.2+1<=z.2.1/\Des R (arrOf st') lo (lo+z.2.1)/\Eqb R (arrOf st') (lo+z.2.1-(z.2.2+1)) (lo+z.2.1)) ?_ ?_ ⟨rfl,rfl,K,by dsimp only;lia,?_,λi j i1 r y w=>?_⟩
   ·rintro t ⟨o,m,b⟩ f t1 t2 ⟨D,O,q,G,a,d⟩
    dsimp only at D O G a d ⊢
    subst D O
    have c:∀ k,k<a0.size->S (e (arrOf f) k):=λk J=>q.sat p J
    refine wpS_bind (agx C p q (by lia) (by lia) ?_)
    dsimp only
    cases er:R (e (arrOf f) (lo+m)) (e (arrOf f) (lo+m-1)) with
    | true =>
     rw[aF5 rfl]
     refine aar (λg=>?_) (λg=>?_)
     ·have hz:lo+m<=(arrOf f).size:=by rw[q.size];lia
      obtain⟨H,v⟩:=ajy C p q (l:=lo+m-(b+1)) (h:=lo+m) (by lia) (by lia) (aA6 _) (by lia) a d
      have N:∀ k,e (mirror (arrOf f) (lo+m-(b+1)) (lo+m) ((lo+m-(lo+m-(b+1))) / 2)) k=if lo+m-(b+1)<=k/\k<lo+m then e (arrOf f) (lo+m-(b+1)+(lo+m)-1-k) else e (arrOf f) k:=λk=>adu hz k
      refine wpS_bind (wpS_modify ?_)
      refine wpS_pure ⟨rfl,rfl,H,by dsimp only;lia,?_,λi j i1 r y w=>?_⟩
      ·show Des R (mirror (arrOf f) (lo+m-(b+1)) (lo+m) ((lo+m-(lo+m-(b+1))) / 2)) lo (lo+(m+1))
       refine af7 C (h:=lo+m) (λk J=>H.sat p (by lia)) (by lia) v ?_
       rw[N,N,aF5 (by lia),aF6 (by lia)]
       rw[show lo+m-(b+1)+(lo+m)-1-(lo+m-1)=lo+m-(b+1) by lia]
       exact C.tr _ _ _ (c _ (by lia)) (c (lo+m-1) (by lia)) (c _ (by lia)) (C.asy _ _ (c _ (by lia)) (c _ (by lia)) er) (a _ _ (by lia) (by lia) (by lia))
      ·dsimp only at i1 r y w
       have:i=j:=by lia
       subst this
       exact C.irr (H.sat p (by lia))
     ·have:b=0:=by lia
      subst this
      refine wpS_pure ⟨rfl,rfl,q,by dsimp only;lia,af7 C (h:=lo+m) (λk J=>c k (by lia)) (by lia) a (C.asy _ _ (c _ (by lia)) (c _ (by lia)) er),λi j i1 r y w=>?_⟩
      dsimp only at i1 r y w
      have:i=j:=by lia
      subst this
      exact C.irr (c _ (by lia))
    | false =>
     rw[aF6 (by decide)]
     refine wpS_bind (agx C p q (by lia) (by lia) ?_)
     dsimp only
     cases er2:R (e (arrOf f) (lo+m-1)) (e (arrOf f) (lo+m)) with
     | true =>
      rw[aF5 rfl]
      exact wpS_pure ⟨rfl,q,by dsimp only;lia,G,a,d⟩
     | false =>
      rw[aF6 (by decide)]
      refine wpS_pure ⟨rfl,rfl,q,by dsimp only;lia,af7 C (h:=lo+m) (λk J=>c k (by lia)) (by lia) a er2,λi j i1 r y w=>?_⟩
      dsimp only at i1 r y w
      by_cases ci:i=lo+m
      ·by_cases cj:j=lo+m
       ·rw[ci,cj];exact C.irr (c _ (by lia))
       ·rw[ci]
        exact C.tr _ _ _ (c j (by lia)) (c (lo+m-1) (by lia)) (c _ (by lia)) (d (lo+m-1) j (by lia) (by lia) (by lia) (by lia)) er
      ·by_cases cj:j=lo+m
       ·rw[cj]
        exact C.tr _ _ _ (c _ (by lia)) (c (lo+m-1) (by lia)) (c i (by lia)) er2 (d i (lo+m-1) (by lia) (by lia) (by lia) (by lia))
       ·exact d i j (by lia) (by lia) (by lia) (by lia)
   ·rintro⟨o,m,b⟩ f ⟨D,O,q,G,a,d⟩
    dsimp only at D O G a d ⊢
    exact⟨D,q,by lia,G,a,d⟩
   ·exact af7 C (h:=lo+n) (λk J=>K.sat p (by lia)) (by lia) Z (C.asy _ _ (K.sat p (by lia)) (K.sat p (by lia)) T)
   ·dsimp only at i1 r y w
    have:i=j:=by lia
    subst this
    exact C.irr (K.sat p (by lia))
  ·rintro⟨o,m,b⟩ f ⟨D,q,hm,G,a,d⟩
   dsimp only at D hm G a d ⊢
   subst D
   dsimp only
   refine apq (M:=M) (A:=A) (E:=E) (s:=s) (α:=Option Nat) (Q:=Q) (P:=λF=>Bs κ p0 a0 lo F/\Des R (arrOf F) lo (lo+m)) (prog:=?prog2) (λL=>?use2) (λF ⟨H,v⟩=>?pf2)
   case use2 =>
    refine aar (λg=>?_) (λg=>?_)
    ·obtain⟨H,v⟩:=ajy C p q (l:=lo+m-(b+1)) (h:=lo+m) (by lia) (by lia) (aA6 _) (by lia) a d
     refine wpS_bind (wpS_modify ?_)
     exact L _ ⟨H,v⟩
    ·exact L _ ⟨q,a⟩
   case pf2 =>
    obtain⟨B5,a3⟩:=au6 C H (n:=m) (by lia) v
    refine wpS_bind (wpS_modify ?_)
    refine wpS_bind (amu C p B5 (by lia) hm hn a3 λn' a5 X U _=>?_)
    exact wpS_pure (h _ n' B5 (by lia) X U)
end
def flat(rs:List (List Keyed × Nat)):List Keyed:=(rs.map (·.1)).flatten
def pend:Nat->List (List Keyed × Nat)->List (Nat × Nat × Nat)
 |_,[]=>[]
 |k,(r,pw)::t=>(k,r.length,pw)::pend (k+r.length) t
theorem aic:flat []=[]:=rfl
theorem ab3(r:List Keyed × Nat)(t:List (List Keyed × Nat)):flat (r::t)=r.1++flat t:=rfl
theorem abt(p q:List (List Keyed × Nat)):flat (p++q)=flat p++flat q:=by simp[flat]
theorem acg:∀(k:Nat)(p q:List (List Keyed × Nat)),pend k (p++q)=pend k p++pend (k+(flat p).length) q
 |k,[],q=>by simp[pend,aic]
 | k,(r,pw)::t,q=>by
  simp only[List.cons_append,pend,ab3,aB1,List.cons.injEq,true_and]
  rw[acg (k+r.length) t q,Nat.add_assoc]
theorem aef:∀(k:Nat)(p:List (List Keyed × Nat)),(pend k p).length=p.length
 |_,[]=>rfl
 |k,(r,pw)::t=>by simp[pend,aef _ t]
section
structure Rn(κ:SortKind)(R:Keyed->Keyed->Bool)(a0:Array Keyed)(rs:List (List Keyed × Nat))(rest:List Keyed)(st:SortSt):Prop where
 k:kindOf st = κ
 f:failedOf st=none
 arr:(arrOf st).toList=flat rs++rest
 pn:(pendingOf st).toList=pend 0 rs
 ok:∀ r∈rs,r.1 ≠ []/\Srt R r.1
 perm:(arrOf st).toList.Perm a0.toList
theorem ayb{α:Type}(a c:List α)(x b y : α):((a++x::y::c).set a.length b).eraseIdx (a.length+1)=a++b::c:=by
 rw[List.set_append_right _ _ (aA6 _),aI6,List.set_cons_zero,List.eraseIdx_append_of_length_le (by lia)]
 rw[show a.length+1-a.length=1 by lia]
 rfl
theorem ai0(C:Cmp M A E s κ S R)(G:∀ x∈a0.toList,S x){st:SortSt}{rs:List (List Keyed × Nat)}{rest:List Keyed}(N:Rn κ R a0 rs rest st){i:Nat}(hi:i+1<rs.length){Q:Bool->SortSt->Prop}
  (h:∀ st' l,Rn κ R a0 l rest st'->l.length+1=rs.length->(flat l).length=(flat rs).length->Q true st'):wpS M A E s (ams i) Q st:=by
 obtain⟨p,a,pw,b,pw2,q,e,y⟩:∃ p a pw b pw2 q,rs=p++(a,pw)::(b,pw2)::q/\p.length=i:=by
  have w:rs=rs.take i++rs.drop i:=(aC1 i rs).symm
  have hd:rs.drop i=rs[i]::rs[i+1]::rs.drop (i+2):=by
   rw[List.drop_eq_getElem_cons (by lia),List.drop_eq_getElem_cons hi]
  exact⟨rs.take i,rs[i].1,rs[i].2,rs[i+1].1,rs[i+1].2,rs.drop (i+2),by rw[← hd];exact w,by simp;lia⟩
 subst y
 have d:=N.ok (a,pw) (by rw[e];simp)
 have g:=N.ok (b,pw2) (by rw[e];simp)
 have n:(pendingOf st).toList=pend 0 p++((flat p).length,a.length,pw)::((flat p).length+a.length,b.length,pw2)::pend ((flat p).length+a.length+b.length) q:=by
  rw[N.pn,e,acg];simp[pend]
 have c:(pend 0 p).length=p.length:=aef 0 p
 have j:(arrOf st).toList=flat p++a++b++(flat q++rest):=by
  rw[N.arr,e,abt,ab3,ab3];simp[aB4]
 refine aq8 C (i:=p.length) (pw:=pw) (pw2:=pw2) j (λx F=>G x (N.perm.mem_iff.mp F)) ?_ ?_ d.1 g.1 d.2 g.2 N.k N.f λst' m D B t o pm u=>?_
 ·rw[← aD6,n,aC8 (by lia),c,aI6];rfl
 ·rw[← aD6,n,aC8 (by lia),c,show p.length+1-p.length=1 by lia];rfl
 ·refine h st' (p++(m,pw)::q) ⟨D,B,?_,?_,λr hr=>?_,?_⟩ (by rw[e];simp;lia) ?_
  ·rw[o,abt,ab3];simp[aB4]
  ·rw[t,Array.toList_eraseIdxIfInBounds,Array.toList_setIfInBounds,n,← c,ayb,acg]
   simp[pend,pm.length_eq,Nat.add_assoc]
  ·rcases aA7.mp hr with hr|hr
   ·exact N.ok r (by rw[e];simp[hr])
   ·rcases aA9.mp hr with rfl|hr
    ·refine⟨?_,u⟩
     intro z
     have:=pm.length_eq
     have v:m=[]:=z
     rw[v] at this
     have:=aF9.mpr d.1
     simp at *
     lia
    ·exact N.ok r (by rw[e];simp[hr])
  ·rw[o]
   refine List.Perm.trans ?_ N.perm
   rw[j]
   have:(flat p++a++b++(flat q++rest))=flat p++(a++b)++(flat q++rest):=by simp[aB4]
   rw[this]
   exact(pm.append_left (flat p)).append_right _
  ·rw[e,abt,abt,ab3,ab3,ab3]
   simp[pm.length_eq]
   lia
theorem Rn.run{rs:List (List Keyed × Nat)}{rest:List Keyed}{st st':SortSt}{n:Nat}(N:Rn κ R a0 rs rest st)(B:Bs κ (pendingOf st) (arrOf st) (flat rs).length st')(u:1<=n)(hn:(flat rs).length+n<=(arrOf st).size)(as:Asc R (arrOf st') (flat rs).length ((flat rs).length+n)) :
  ∃ r a,r.length=n/\r ≠ []/\Srt R r/\Rn κ R a0 rs (r++a) st':=by
 have hsz:=B.size
 have b:(arrOf st').toList.take (flat rs).length=flat rs:=by
  have o:(arrOf st').toList.take (flat rs).length=(arrOf st).toList.take (flat rs).length:=by
   apply aG2
   intro k
   rw[List.getElem?_take,List.getElem?_take]
   split
   ·rename_i c
    have:=B.pre k c
    simpa using this
   ·rfl
  rw[o,N.arr,List.take_left]
 refine⟨((arrOf st').toList.drop (flat rs).length).take n,((arrOf st').toList.drop (flat rs).length).drop n,?_,?_,?_,B.k,B.f,?_,?_,N.ok,B.perm.trans N.perm⟩
 ·simp;lia
 ·intro z
  have:=congrArg List.length z
  simp at this
  lia
 ·unfold Srt
  rw[aG7]
  intro i j hi g l
  have d:j<n:=by simp at g;lia
  have get:∀ k,k<n->∀(c:k<(((arrOf st').toList.drop (flat rs).length).take n).length),(((arrOf st').toList.drop (flat rs).length).take n)[k]=e (arrOf st') ((flat rs).length+k):=by
   intro k c t
   rw[List.getElem_take,List.getElem_drop]
   have s:=aiz (xs:=arrOf st') (k:=(flat rs).length+k) (by lia)
   have q:(flat rs).length+k<(arrOf st').toList.length:=by simp;lia
   have h:(arrOf st').toList[(flat rs).length+k]?=some (e (arrOf st') ((flat rs).length+k)):=by simpa using s
   rw[aA0 q] at h
   exact aC6 h
  rw[get i (by lia) hi,get j d g]
  exact as _ _ (by lia) (by lia) (by lia)
 ·rw[aC1]
  conv=>lhs;rw[← aC1 (flat rs).length (arrOf st').toList,b]
 ·rw[B.p];exact N.pn
theorem Rn.bs{rs:List (List Keyed × Nat)}{rest:List Keyed}{st:SortSt}(N:Rn κ R a0 rs rest st):Bs κ (pendingOf st) (arrOf st) (flat rs).length st:=⟨N.k,N.f,rfl,List.Perm.refl _,λ_ _=>rfl⟩
theorem Rn.size{rs:List (List Keyed × Nat)}{rest:List Keyed}{st:SortSt}(N:Rn κ R a0 rs rest st):(arrOf st).size=a0.size:=by
 have:=N.perm.length_eq;simpa using this
theorem Rn.len{rs:List (List Keyed × Nat)}{rest:List Keyed}{st:SortSt}(N:Rn κ R a0 rs rest st):(flat rs).length+rest.length=a0.size:=by
 have:=congrArg List.length N.arr
 have a:=N.size
 simp at this
 lia
theorem au7(h:∀ r∈rs,r.1 ≠ []):rs.length<=(flat rs).length:=by
 induction rs with
 |nil=>simp[flat]
 | cons r t ih =>
  rw[ab3,aB1,aE6]
  have:=ih λq a=>h q (aB5 _ a)
  have:=aF9.mpr (h r aB8)
  lia
theorem amv{α:Type}(f : α->α):∀(l:List α)(x : α),(l++[x]).modify l.length f=l++[f x]
 |[],x=>rfl
 | y::l,x=>by
  show(y::(l++[x])).modify (l.length+1) f=_
  rw[List.modify_succ_cons,amv f l x];rfl
theorem aot{α:Type}(arr:Array α)(f : α->α){l:List α}{x : α}(h:arr.toList=l++[x]):(arr.modify (arr.size-1) f).toList=l++[f x]:=by
 have hs:arr.size=l.length+1:=by have:=congrArg List.length h;simpa using this
 rw[Array.toList_modify,h,hs,show l.length+1-1=l.length by lia]
 exact amv f l x
theorem ayc{α:Type}(arr:Array α){l:List α}{x : α}(h:arr.toList=l++[x]):arr.back?=some x:=by
 have hs:arr.size=l.length+1:=by have:=congrArg List.length h;simpa using this
 rw[Array.back?_eq_getElem?,← aD6,h,hs]
 simp
theorem apr:∀(rs:List (List Keyed × Nat)),rs ≠ []->∃ p x,rs=p++[x]
 |rs,h=>⟨rs.dropLast,rs.getLast h,(List.dropLast_concat_getLast h).symm⟩
theorem Rn.push{rs:List (List Keyed × Nat)}{r rest:List Keyed}{st st':SortSt}(N:Rn κ R a0 rs (r++rest) st)(c:r ≠ [])(hs:Srt R r)(k:kindOf st'=kindOf st)(f:failedOf st'=failedOf st)(a:arrOf st'=arrOf st)
  (p:pendingOf st'=(pendingOf st).push ((flat rs).length,r.length,0)):Rn κ R a0 (rs++[(r,0)]) rest st':=by
 refine⟨k.trans N.k,f.trans N.f,?_,?_,λq b=>?_,by rw[a];exact N.perm⟩
 ·rw[a,N.arr,abt];simp[flat,aB4]
 ·rw[p,Array.toList_push,N.pn,acg];simp[pend]
 ·rcases aA7.mp b with b|b
  ·exact N.ok q b
  ·have:q=(r,0):=by simpa using b
   subst this;exact⟨c,hs⟩
theorem Rn.pow{rs:List (List Keyed × Nat)}{rest:List Keyed}{st st':SortSt}{pw:Nat}(N:Rn κ R a0 rs rest st)(hz:rs ≠ [])(k:kindOf st'=kindOf st)(f:failedOf st'=failedOf st)(a:arrOf st'=arrOf st)
  (p:pendingOf st'=(pendingOf st).modify ((pendingOf st).size-1) λx=>(x.1,x.2.1,pw)):∃ d,Rn κ R a0 d rest st'/\(flat d).length=(flat rs).length:=by
 obtain⟨q,⟨b,c⟩,e⟩:=apr rs hz
 subst e
 have h:(pendingOf st).toList=pend 0 q++[((flat q).length,b.length,c)]:=by rw[N.pn,acg];simp[pend]
 refine⟨q++[(b,pw)],⟨k.trans N.k,f.trans N.f,?_,?_,λx g=>?_,by rw[a];exact N.perm⟩,by simp[abt,ab3,aic]⟩
 ·rw[a,N.arr];simp[abt,ab3,aic]
 ·rw[p,aot _ _ h,acg];simp[pend]
 ·rcases aA7.mp g with g|g
  ·exact N.ok x (by simp[g])
  ·have:x=(b,pw):=by simpa using g
   subst this
   exact N.ok (b,c) (by simp)
theorem a1e [Decidable c]  (a:x+1<z) (b:y+1<z):(if c then x else y)+1<z:=by
 split
 ·exact a
 ·exact b
theorem Rn.powK{rs:List (List Keyed × Nat)}{rest:List Keyed}{st st':SortSt}{pw:Nat}{G:SortSt->Prop}(N:Rn κ R a0 rs rest st)(hz:rs ≠ [])(h:∀ b,Rn κ R a0 b rest st'->(flat b).length=(flat rs).length->G st')(k:kindOf st'=kindOf st)(f:failedOf st'=failedOf st)(a:arrOf st'=arrOf st)
  (p:pendingOf st'=(pendingOf st).modify ((pendingOf st).size-1) λx=>(x.1,x.2.1,pw)):G st':=by
 obtain⟨b,c,d⟩:=N.pow hz k f a p
 exact h b c d
theorem ayd (C:Cmp M A E s κ S R) (Y:∀ x∈a0.toList,S x) {st:SortSt} (h0:arrOf st=a0) (hk:kindOf st = κ) (hf:failedOf st=none) (hp:pendingOf st = #[]) {Q:Unit->SortSt->Prop}
  (h:∀ st',failedOf st'=none->(arrOf st').toList.Perm a0.toList->Srt R (arrOf st').toList->Q () st'):wpS M A E s a3f Q st:=by
 have p:(arrOf st).size=a0.size:=by rw[h0]
 refine wpS_bind (wpS_get ?_)
 dsimp only
 refine wpS_bind (wpS_mono (Q:=λ(c:Option Unit × Nat) u=>c.1=none/\∃ rs,Rn κ R a0 rs [] u) ?_ ?_)
 ·refine wpS_forRange (λi (c:Option Unit × Nat) u=>c.1=none/\∃ rs rest,Rn κ R a0 rs rest u/\c.2=(flat rs).length/\i<=c.2) ?_ ?_ ⟨rfl,[],a0.toList,⟨hk,hf,by rw[h0];rfl,by rw[hp];rfl,λr hr=>(by cases hr),by rw[h0]⟩,rfl,aA6 _⟩
  ·rintro i ⟨c1,lo⟩ u _ hi ⟨F,rs,rest,N,X,D⟩
   dsimp only at F X D ⊢
   subst F X
   have T:=N.len
   have b1:i<a0.size:=by rw[← p];exact hi
   refine aar (λa7=>?_) (λa4=>?_)
   ·have a8:a0.size<=(flat rs).length:=by rw[← p];exact a7
    refine wpS_pure ⟨rfl,rs,?_⟩
    have:rest=[]:=aH2 (by lia)
    subst this
    exact N
   ·have a9:(flat rs).length<a0.size:=by
     have:¬ (flat rs).length ≥ (arrOf st).size:=a4
     lia
    refine wpS_bind (as0 C (λx hx=>Y x (N.perm.mem_iff.mp hx)) N.bs (nrem:=(arrOf st).size-(flat rs).length) (by lia) (by rw[N.size];lia) λb2 n B2 n1 n2 L=>?_)
    dsimp only
    have w:=N.size
    refine aar (λl=>?g1) (λl=>?g2)
    case' g1 =>
     refine wpS_bind (aea ?_)
     generalize hmr:min (_:Nat) _=nn
     refine wpS_bind (aq9 C (λx hx=>Y x (N.perm.mem_iff.mp hx)) B2 (n:=nn) (ok:=n) ?_ ?_ ?_ L λb4 B3 a1=>?_)
     ·have:nn<=(arrOf st).size-(flat rs).length:=by rw[← hmr];exact Nat.min_le_left _ _
      rw[w];lia
     ·rw[← hmr];exact Nat.le_min.mpr ⟨n2,aG5 l⟩
     ·have:n<=nn:=by rw[← hmr];exact Nat.le_min.mpr ⟨n2,aG5 l⟩
      lia
     rw[aF6 (by decide)]
     have K:1<=nn:=by
      have:n<=nn:=by rw[← hmr];exact Nat.le_min.mpr ⟨n2,aG5 l⟩
      lia
     have b0:nn<=(arrOf st).size-(flat rs).length:=by rw[← hmr];exact Nat.min_le_left _ _
     obtain⟨r,g,hr,B,H,P⟩:=N.run B3 K (by rw[w];lia) a1
     clear hmr
     subst hr
    case' g2 =>
     obtain⟨r,g,hr,B,H,P⟩:=N.run B2 n1 (by rw[w];lia) L
     clear l
     subst hr
    all_goals
     refine wpS_bind (wpS_get ?_)
     rcases Classical.em (rs=[]) with hz|hz
     ·have y:=P.pn
      rw[hz] at y
      have hb:=Array.back?_eq_none_iff.mpr (Array.toList_eq_nil_iff.mp y)
      rw[hb]
      dsimp only
      refine wpS_bind (wpS_modify (wpS_pure ⟨rfl,rs++[(r,0)],g,P.push B H rfl rfl rfl rfl,?_,?_⟩))
      ·rw[abt,aB1];simp[flat]
      ·have:=aF9.mpr B
       show i+1<=(flat rs).length+r.length
       lia
     ·obtain⟨q,⟨b,O⟩,eq⟩:=apr rs hz
      have y:=P.pn
      rw[eq,acg,show pend (0+(flat q).length) [(b,O)]=[((flat q).length,b.length,O)] by simp[pend]] at y
      have hb:=ayc _ y
      rw[hb]
      dsimp only
      refine wpS_bind (wpS_mono (Q:=λ(c:Option Unit × Unit) d=>c.1=none/\∃ a,Rn κ R a0 a (r++g) d/\a ≠ []/\(flat a).length=(flat rs).length) ?_ ?_)
      ·refine wpS_forRange (λ_ (c:Option Unit × Unit) d=>c.1=none/\∃ a,Rn κ R a0 a (r++g) d/\a ≠ []/\(flat a).length=(flat rs).length) ?_ (λc d h4=>h4) ⟨rfl,rs,P,hz,rfl⟩
       rintro i4 ⟨Z,W⟩ d _ _ ⟨v,a,o,z4,t⟩
       dsimp only at v
       subst v
       refine wpS_bind (wpS_get ?_)
       have U:(pendingOf d).size=a.length:=by
        have:=congrArg List.length o.pn
        rw[aef] at this
        simpa using this
       by_cases J:(pendingOf d).size > 1
       ·rw[aF5 J]
        obtain⟨x4,a3⟩:∃ x4,(pendingOf d)[(pendingOf d).size-2]?=some x4:=⟨_,aA4 (by lia)⟩
        obtain⟨y1,y2,y3⟩:=x4
        rw[a3]
        dsimp only
        refine aar (λ_=>wpS_pure ⟨rfl,a,o,z4,t⟩) (λ_=>?_)
        rw[U]
        refine wpS_bind (ai0 C Y o (i:=a.length-2) (by lia) λa2 I N5 l5 f5=>?_)
        rw[aF6 (by decide)]
        refine wpS_pure ⟨rfl,I,N5,?_,by lia⟩
        rintro rfl
        simp at l5
        lia
       ·rw[aF6 J]
        exact wpS_pure ⟨rfl,a,o,z4,t⟩
      ·rintro⟨Z,W⟩ d ⟨v,a,o,z4,t⟩
       dsimp only at v ⊢
       subst v
       dsimp only
       refine wpS_bind (wpS_modify ?_)
       refine o.powK (G:=λz=>wpS M A E s _ _ z) z4 (λa5 N6 l6=>?_) rfl rfl rfl rfl
       refine wpS_bind (wpS_modify (wpS_pure ⟨rfl,a5++[(r,0)],g,N6.push B H rfl rfl rfl ?_,?_,?_⟩))
       ·rw[l6,t]
       ·rw[abt,aB1,l6,t];simp[flat]
       ·have:=aF9.mpr B
        show i+1<=(flat rs).length+r.length
        lia
  ·rintro⟨c1,lo⟩ u ⟨F,rs,rest,N,X,D⟩
   dsimp only at F X D ⊢
   refine⟨F,rs,?_⟩
   have T:=N.len
   have a6:(arrOf st).size<=lo:=aD0 (Nat.le_max_right 0 _) D
   have:rest=[]:=aH2 (by rw[p] at a6;lia)
   subst this
   exact N
 ·rintro⟨c1,lo⟩ u ⟨F,rs,N⟩
  dsimp only at F ⊢
  subst F
  dsimp only
  refine wpS_bind (wpS_mono (Q:=λ(c:Option Unit × Unit) d=>c.1=none/\∃ a,Rn κ R a0 a [] d/\a.length<=1) ?_ ?_)
  ·refine wpS_forRange (λj (c:Option Unit × Unit) d=>c.1=none/\∃ a,Rn κ R a0 a [] d/\(a.length<=1\/a.length+j<=a0.size)) ?_ ?_ ⟨rfl,rs,N,.inr ?_⟩
   ·rintro j ⟨Z,W⟩ d _ _ ⟨v,a,o,t⟩
    dsimp only at v
    subst v
    refine wpS_bind (wpS_get ?_)
    have U:(pendingOf d).size=a.length:=by
     have:=congrArg List.length o.pn
     rw[aef] at this
     simpa using this
    refine aar (λJ=>wpS_pure ⟨rfl,a,o,?_⟩) (λJ=>?_)
    ·have:(pendingOf d).size<=1:=J
     lia
    ·have b3:¬ (pendingOf d).size<=1:=J
     refine wpS_bind (ai0 C Y o (i:=_) ?_ λa2 I N5 l5 f5=>?_)
     ·refine a1e ?_ ?_
      ·show(pendingOf d).size-2-1+1<a.length
       lia
      ·show(pendingOf d).size-2+1<a.length
       lia
     rw[aF6 (by decide)]
     exact wpS_pure ⟨rfl,I,N5,by lia⟩
   ·rintro⟨Z,W⟩ d ⟨v,a,o,t⟩
    refine⟨v,a,o,?_⟩
    rcases t with t|t
    ·exact t
    ·have:(arrOf st).size<=max 0 (arrOf st).size:=Nat.le_max_right _ _
     have h3:a.length+max 0 (arrOf st).size<=a0.size:=t
     lia
   ·have:=au7 λr hr=>(N.ok r hr).1
    have:=N.len
    lia
  ·rintro⟨Z,W⟩ d ⟨v,a,o,t⟩
   dsimp only at v ⊢
   subst v
   dsimp only
   refine wpS_pure (h d o.f o.perm ?_)
   rw[o.arr]
   match a,t with
   |[],_=>exact List.Pairwise.nil
   |[x],_=>simpa[flat] using (o.ok x (by simp)).2
end
end TS
namespace L2
open PySem PySem.Spec PyProof.Rows
mutual
inductive Rep(H:Hp):V->PyData->Prop
 |non:Rep H .non .none
 |bl (b:Bool):Rep H (.bl b) (.bool b)
 |int (i:Int):Rep H (.int i) (.int i)
 |str (x:Str):Rep H (.str x) (.str x)
 |lst {a:Addr} {xs:List V} {ds:List PyData}:H a=some (.lst xs)->Reps H xs ds->Rep H (.ref a) (.list ds)
 |tup {a:Addr} {xs:List V} {ds:List PyData}:H a=some (.tup xs)->Reps H xs ds->Rep H (.ref a) (.tuple ds)
inductive Reps(H:Hp):List V->List PyData->Prop
 |nil:Reps H [] []
 |cons {v:V} {vs:List V} {d:PyData} {ds:List PyData}:Rep H v d->Reps H vs ds->Reps H (v::vs) (d::ds)
end
mutual
theorem Rep.same(s:Same H H'):∀{v:V}{d:PyData},Rep H v d->Rep H' v d
 |_,_,.non=>.non
 |_,_,.bl b=>.bl b
 |_,_,.int i=>.int i
 |_,_,.str x=>.str x
 |_,_,.lst h r=>.lst (s _ _ h) (Reps.same s r)
 |_,_,.tup h r=>.tup (s _ _ h) (Reps.same s r)
theorem Reps.same(s:Same H H'):∀{vs:List V}{ds:List PyData},Reps H vs ds->Reps H' vs ds
 |_,_,.nil=>.nil
 |_,_,.cons r t=>.cons (Rep.same s r) (Reps.same s t)
end
section
variable{X:Cx}{pins:List (Addr × Obj)}{σ:St}{H:Hp}{s:Shared}
mutual
theorem Rep.reads(I:Inv X pins σ H s):∀{v:V}{d:PyData}{u:Value},Rep H v d->RelV v u->∃ as,Reads s.heap u d as
 |_,_,_,.non,r=>by cases r;exact⟨_,.none⟩
 |_,_,_,.bl b,r=>by cases r;exact⟨_,.bool b⟩
 |_,_,_,.int i,r=>by obtain⟨t,rfl⟩:=r;exact⟨_,.int i t⟩
 |_,_,_,.str x,r=>by obtain⟨t,rfl⟩:=r;exact⟨_,.str x t⟩
 | _,_,_,.lst (a:=a) (xs:=xs) h q,r=>by
  cases r
  obtain⟨_,its,n,g,e⟩:=(show ObjOk X.prog X.w H s.heap a (.lst xs) from I.hok a _ h)
  obtain⟨as,f⟩:=Reps.reads I q g
  exact⟨_,.list e rfl rfl (by simpa using f)⟩
 | _,_,_,.tup (a:=a) (xs:=xs) h q,r=>by
  cases r
  obtain⟨_,its,g,o,e,c,n,j⟩:=(show ObjOk X.prog X.w H s.heap a (.tup xs) from I.hok a _ h)
  obtain⟨as,f⟩:=Reps.reads I q g
  exact⟨_,.tuple e c j (by simpa using f)⟩
theorem Reps.reads(I:Inv X pins σ H s):∀{vs:List V}{ds:List PyData}{us:List Value},Reps H vs ds->Vals vs us->∃ as,ReadsAll s.heap us ds as
 |_,_,_,.nil,.nil=>⟨_,.nil⟩
 | _,_,_,.cons r t,.cons q qs=>by
  obtain⟨as,a⟩:=Rep.reads I r q
  obtain⟨bs,rb⟩:=Reps.reads I t qs
  exact⟨_,.cons a rb⟩
end
end
mutual
def aap:PyData->Bool
 | .none | .int _=>true
 | .list xs | .tuple xs=>plainDs xs
 |_=>false
def plainDs:List PyData->Bool
 |[]=>true
 |x::xs=>aap x && plainDs xs
end
mutual
theorem abx:∀(d:PyData),aap d=true->d.canLay0=true
 | .none,_=>by simp[PyData.canLay0]
 | .int _,_=>by simp[PyData.canLay0]
 | .list xs,h=>by simp only[PyData.canLay0];exact plain_lays xs (by simpa[aap] using h)
 | .tuple xs,h=>by simp only[PyData.canLay0];exact plain_lays xs (by simpa[aap] using h)
 | .bool _,h=>by simp[aap] at h
 | .str _,h=>by simp[aap] at h
 | .dict _,h=>by simp[aap] at h
theorem plain_lays:∀(ds:List PyData),plainDs ds=true->PyData.canLayAll0 ds=true
 |[],_=>by simp[PyData.canLayAll0]
 | x::xs,h=>by
  have h':aap x=true/\plainDs xs=true:=by simpa[plainDs] using h
  simp only[PyData.canLayAll0,abx x h'.1,plain_lays xs h'.2,Bool.and_self]
end
mutual
theorem agy:∀(d e:PyData),aap d=true->aap e=true->(PyData.eqv d e=true ↔ d=e)
 | .none,e,_,h=>by cases e <;> simp_all [aap,PyData.eqv]
 | .int i,e,_,h=>by cases e <;> simp_all [aap,PyData.eqv]
 | .list xs,e,g,h=>by
  cases e with
  |list ys=>simp only[PyData.eqv,PyData.list.injEq];exact eqvAll_plain xs ys (by simpa[aap] using g) (by simpa[aap] using h)
  |_=>simp_all [aap,PyData.eqv]
 | .tuple xs,e,g,h=>by
  cases e with
  |tuple ys=>simp only[PyData.eqv,PyData.tuple.injEq];exact eqvAll_plain xs ys (by simpa[aap] using g) (by simpa[aap] using h)
  |_=>simp_all [aap,PyData.eqv]
 | .bool _,_,h,_=>by simp[aap] at h
 | .str _,_,h,_=>by simp[aap] at h
 | .dict _,_,h,_=>by simp[aap] at h
theorem eqvAll_plain:∀(ds es:List PyData),plainDs ds=true->plainDs es=true->(PyData.eqvAll ds es=true ↔ ds=es)
 |[],[],_,_=>by simp[PyData.eqvAll]
 |[],_::_,_,_=>by simp[PyData.eqvAll]
 |_::_,[],_,_=>by simp[PyData.eqvAll]
 | x::xs,y::ys,g,h=>by
  have g':aap x=true/\plainDs xs=true:=by simpa[plainDs] using g
  have h':aap y=true/\plainDs ys=true:=by simpa[plainDs] using h
  simp only[PyData.eqvAll,aH1,List.cons.injEq,agy x y g'.1 h'.1,eqvAll_plain xs ys g'.2 h'.2]
end
theorem afr(ds:List PyData):plainDs ds=true ↔ ∀ d∈ds,aap d=true:=by
 induction ds with
 |nil=>simp[plainDs]
 |cons d ds ih=>simp[plainDs,ih]
def rEqD:R2:=λx y H Q=>∃ d e,Rep H x d/\Rep H y e/\aap d=true/\aap e=true/\d.depth<=60/\Q (.bl (PyData.eqv d e)) H
def rNeD:R2:=λx y H Q=>∃ d e,Rep H x d/\Rep H y e/\aap d=true/\aap e=true/\d.depth<=60/\Q (.bl (!PyData.eqv d e)) H
section
variable{X:Cx}
theorem a1f(i:X.A.units+64<cLine):OpR X (compareOp .Eq) rEqD:=by
 intro pins s σ H x y v u Q I b f h
 obtain⟨d,e,g,re,hd,c,hz,q⟩:=h
 obtain⟨as,a⟩:=g.reads I b
 obtain⟨bs,rb⟩:=re.reads I f
 refine SeqAt.compareEq_reads a rb (abx _ hd) (abx _ c) ?_ ⟨.bl _,H,I,rfl,q⟩
 have:=Nat.min_le_left d.depth e.depth
 lia
theorem amw(i:X.A.units+64<cLine):OpR X (compareOp .NotEq) rNeD:=by
 intro pins s σ H x y v u Q I b f h
 obtain⟨d,e,g,re,hd,c,hz,q⟩:=h
 obtain⟨as,a⟩:=g.reads I b
 obtain⟨bs,rb⟩:=re.reads I f
 refine SeqAt.compareNe_reads a rb (abx _ hd) (abx _ c) ?_ ⟨.bl _,H,I,rfl,q⟩
 have:=Nat.min_le_left d.depth e.depth
 lia
def rInD(neg:Bool):R2:=λx y H Q=>∃ d es,Rep H x d/\(Rep H y (.list es)\/Rep H y (.tuple es))/\aap d=true/\plainDs es=true/\d.depth<=60/\Q (.bl (if neg then !es.any (λz=>PyData.eqv z d) else es.any (λz=>PyData.eqv z d))) H
theorem amx(i:X.A.units+64<cLine):OpR X (compareOp .In) (rInD false):=by
 intro pins s σ H x y v u Q I f c h
 obtain⟨d,es,g,re,hd,b,hz,q⟩:=h
 obtain⟨as,a⟩:=g.reads I f
 have hm:=Nat.min_le_right (PyData.depthAll es) d.depth
 rcases re with re|re
 ·obtain⟨bs,rb⟩:=re.reads I c
  exact SeqAt.in_list_reads rb a (plain_lays _ b) (abx _ hd) (by lia) ⟨.bl _,H,I,rfl,q⟩
 ·obtain⟨bs,rb⟩:=re.reads I c
  exact SeqAt.in_tuple_reads rb a (plain_lays _ b) (abx _ hd) (by lia) ⟨.bl _,H,I,rfl,q⟩
theorem adx(i:X.A.units+64<cLine):OpR X (compareOp .NotIn) (rInD true):=by
 intro pins s σ H x y v u Q I f c h
 obtain⟨d,es,g,re,hd,b,hz,q⟩:=h
 obtain⟨as,a⟩:=g.reads I f
 have hm:=Nat.min_le_right (PyData.depthAll es) d.depth
 rcases re with re|re
 ·obtain⟨bs,rb⟩:=re.reads I c
  exact SeqAt.notIn_list_reads rb a (plain_lays _ b) (abx _ hd) (by lia) ⟨.bl _,H,I,rfl,q⟩
 ·obtain⟨bs,rb⟩:=re.reads I c
  exact SeqAt.notIn_tuple_reads rb a (plain_lays _ b) (abx _ hd) (by lia) ⟨.bl _,H,I,rfl,q⟩
def rIsi(K:Frag):List V->Hp->VK->Prop:=λxs H Q=>∃(x:V)(T:String)(t:Value)(b:Bool),xs=[x,.ty T]/\TyOf K H x t/\kitOne K t (.type T)=some b/\Q (.bl b) H
theorem af8:abi X (.builtin "isinstance") (rIsi X.K):=by
 intro pins s σ H xs us Q I r h
 obtain⟨x,T,t,b,rfl,ty,e,q⟩:=h
 obtain⟨u,c,rfl,d,a⟩:=al1 r
 cases a
 exact ash I d ty e λf=>⟨.bl b,H,I.tok _,rfl,q⟩
end
end L2
namespace HT
open PySem PyProof.Rows
section
open PySem.SeqAt
open PySem.AutoSeq1 (wpAny_loadPart')
open PySem.MeetsSeq PySem.MeetsSeq2 PySem.MeetsSeq3
end
section
variable{prog:Program}{w:World}{A:Around}{E:Value->Shared->Prop}{s:Shared}
theorem aku(h:t ≠ it):∀(n i:Nat)(s:Shared)(Q:List Value->Shared->Prop),s.heap.IsListIter it t i->s.heap.IsList t items->i+n<=items.size ->
  (∀ h',h'.IsListIter it t (i+n)->Heap.SameBut it s.heap h'->Q ((items.toList.drop i).take n) { s with heap:=h' })->wpAny (model prog w) A (draw (.ref it) n) Q E s
 | 0,i,s,Q,hit,_,_,hQ=>by
  show wpAny _ _ (pure []) Q E s
  exact aJ3 (by simpa using hQ s.heap hit (Heap.SameBut.refl ..))
 | n+1,i,s,Q,hit,ht,hle,hQ=>by
  have f:i<items.size:=by lia
  show wpAny _ _ (pyNext (.ref it) >>= _) Q E s
  refine aJ2 (wpAny_pyNext_list_item hit ht (x:=items[i]) (by simp[f]) λj c a=>?_)
  refine aJ2 (aJ8 (aku h n (i+1) _ _ c (ht.extBut a.extBut h) (by lia) λg b d=>aJ3 ?_))
  have hd:items.toList.drop i=items[i]::items.toList.drop (i+1):=by simp[List.drop_eq_getElem_cons,f]
  have:=hQ g (by rw[show i+(n+1)=i+1+n by lia];exact b) (a.trans d)
  rw[hd,List.take_succ_cons] at this
  exact this
theorem aid(hh:A.handled=none)(j:s.heap.IsList t items)
  (n:∀ h',Heap.ExtBut s.heap.objs.size s.heap h'->Q items.toList { s with heap:=h' }):wpAny (model prog w) A (unpackItems (.ref t) items.size none) Q E s:=by
 have h:t ≠ s.heap.objs.size:=by obtain⟨o,p,_⟩:=j;exact aB6 (aJ5 p)
 unfold unpackItems
 refine aJ2 ?_
 ·unfold notIterableAtAll
  refine aJ2 (wpAny_specialOf j.typeIs slot_list_iter.lookup ?_)
  refine aJ3 ?_
  simp only[Bool.false_eq_true,if_false]
  refine aJ2 (aJ8 (aK7 j ?_))
  refine aJ2 (aJ8 (aku h items.size 0 _ _ ⟨_,aJ6 _ rfl,rfl,rfl⟩ (j.push _) (by lia) λl c a=>?_))
  have g:List.take items.size (List.drop 0 items.toList)=items.toList:=by
   rw[List.drop_zero];exact aF1 (by simp)
  rw[g]
  rw[aF6 (by simp)]
  have f:l.IsList t items:=(j.push _).extBut a.extBut h
  refine aJ2 (aJ8 (wpAny_pyNext_list_end hh c f (by simp) λi d=>?_))
  simp only[Option.isSome_none,Bool.false_eq_true,if_false]
  refine aJ3 (n i λb o hb e=>d b o hb (a.extBut b o hb (aJ4 _ e)))
theorem assign_Tuple_list{x1}(hh:A.handled=none)(c:s.heap.IsList t items)
  (hn:(assignEach a env).length=items.size) (b:(assignEach a env).findIdx? (·.1)=none)
  (h:∀ h',Heap.ExtBut s.heap.objs.size s.heap h'->wpAny (model prog w) A (assignInOrder ((assignEach a env).map (·.2)) items.toList) Q E { s with heap:=h' }) :
  wpAny (model prog w) A (assign (.Tuple a x1 pos) env (.ref t)) Q E s:=by
 rw[assign_Tuple]
 refine aJ2 (wpAny_standAt ?_)
 unfold unpack
 rw[hn,b]
 exact aJ2 (aJ8 (aid hh c h))
end
end HT
namespace L2
open PySem PySem.Spec PyProof.Rows
section
variable{X:Cx}
def gLst(K:Frag)(n:Nat)(t:TGs):TG:=λv σ H Q=>∃ a xs,v=.ref a/\SqL K H a xs/\xs.length=n/\t xs σ H Q
theorem as4(w:X.calm=true)(h:PGs X es t)
  (hn:(assignEach es X.env).length=n:=by rfl) (c:(assignEach es X.env).findIdx? (·.1)=none:=by rfl):PG X (.Tuple es k pos) (gLst X.K n t):=by
 intro pins s σ H v u Q I r d
 obtain⟨a,xs,g,p,i,d⟩:=d
 subst g
 cases r
 obtain⟨its,f,l,hz⟩:=I.list p
 refine HT.assign_Tuple_list (I.ok.hd w) l.isList (by simp[hn,← i,f.length]) c λh' q=>?_
 have j:Inv X pins σ H { s with heap:=h' }:=I.kept (t':=s.toks) λb o e=>q b o (aB6 (aJ5 e)) e
 exact h pins _ σ H xs _ Q j (by simpa using f) d
def amy(K:Frag):List V->Hp->VK->Prop:=λxs H Q=>∃(a:Addr)(ns:List Int),xs=[.ref a]/\SqL K H a (ns.map V.int)/\ns.length<64/\∀(ns':List Int)(p:Addr),ns'.Perm ns->ns'.Pairwise (·<=·)->H p=none->Q (.ref p) (upd H p (.lst (ns'.map V.int)))
theorem ara:abi X (.builtin "sorted") (amy X.K):=by
 intro pins s σ H xs us Q I r h
 obtain⟨a,ns,rfl,ha,f,q⟩:=h
 obtain⟨u,rfl,t⟩:=adi r
 cases t
 obtain⟨its,l,p,hz⟩:=I.list ha
 have i1:IntsAre its.toArray.toList ns:=ab1 l
 have g:IntsAre its ns:=by simpa using i1
 refine sorted_ints (vs:=its) p.isList g (by rw[g.length];exact f) λout d b1 i n=>?_
 obtain⟨e,j⟩:=sortedAll_at s.heap its out
 have c:H (s.heap.objs.size+1)=none:=I.hok.fresh (Nat.le_succ _)
 refine⟨.ref (s.heap.objs.size+1),_,I.laid (t':=s.toks) (o:=.lst (d.map V.int)) (λb v q=>sortedAll_old q) (Nat.le_succ _) ?_,rfl,q d _ i n c⟩
 refine⟨?_,out.toList,e,afc b1,by rw[j]⟩
 rw[aA3,i.length_eq]
 exact aG5 (afd (by lia))
end
end L2
namespace HT
open PySem PyProof.Rows
theorem ajz (val:Nat->Int):∀ k,argBest (λi j=>decide (val i > val j)) k<=k/\∀ i,i<=k->val i<=val (argBest (λi j=>decide (val i > val j)) k)
 | 0 => ⟨Nat.le_refl _, fun i hi => by have:i=0 := by lia
                                       subst this;exact Int.le_refl _⟩
 | k+1=>by
  obtain⟨b,a⟩:=ajz val k
  unfold argBest
  by_cases hc:val (k+1) > val (argBest (λi j=>decide (val i > val j)) k)
  ·rw[aF5 (aD8 hc)]
   refine⟨aA6 _,λi hi=>?_⟩
   by_cases e:i=k+1
   ·subst e;exact Int.le_refl _
   ·have:=a i (by lia)
    exact Int.le_trans this (Int.le_of_lt hc)
  ·rw[aF6 (by simpa using hc)]
   refine⟨by lia,λi hi=>?_⟩
   by_cases e:i=k+1
   ·subst e;lia
   ·exact a i (by lia)
theorem aj0 (val:Nat->Int):∀ k,argBest (λi j=>decide (val i<val j)) k<=k/\∀ i,i<=k->val (argBest (λi j=>decide (val i<val j)) k)<=val i
 | 0 => ⟨Nat.le_refl _, fun i hi => by have:i=0 := by lia
                                       subst this;exact Int.le_refl _⟩
 | k+1=>by
  obtain⟨b,a⟩:=aj0 val k
  unfold argBest
  by_cases hc:val (k+1)<val (argBest (λi j=>decide (val i<val j)) k)
  ·rw[aF5 (aD8 hc)]
   refine⟨aA6 _,λi hi=>?_⟩
   by_cases e:i=k+1
   ·subst e;exact Int.le_refl _
   ·have:=a i (by lia)
    exact Int.le_trans (Int.le_of_lt hc) this
  ·rw[aF6 (by simpa using hc)]
   refine⟨by lia,λi hi=>?_⟩
   by_cases e:i=k+1
   ·subst e;lia
   ·exact a i (by lia)
def val(ns:List Int)(i:Nat):Int:=(ns[i]?).getD 0
theorem ael(hi:IntsAre us ns)(i:Nat)(v:Value)(h:us.toArray[i]?=some v):∃ t,v=.int (val ns i) t:=by
 induction hi generalizing i with
 |nil=>simp at h
 | cons n t r ih =>
  cases i with
  |zero=>simp at h;subst h;exact⟨t,by simp[val]⟩
  | succ i =>
   obtain⟨t',e⟩:=ih i (by simpa using h)
   exact⟨t',by simpa[val] using e⟩
theorem ahm(h:i<ns.length):val ns i∈ns:=by
 unfold val
 rw[aA0 h]
 exact aF2 h
theorem ai1(h:x∈ns):∃ i,i<ns.length/\val ns i=x:=by
 obtain⟨i,hi,e⟩:=aH6.mp h
 exact⟨i,hi,by unfold val;rw[aA0 hi];exact e⟩
section
variable{prog:Program}{w:World}{A:Around}{E:Value->Shared->Prop}{s:Shared}
theorem max_list(hh:A.handled=none)(d:s.heap.IsList l us.toArray)(hi:IntsAre us ns)(c:ns ≠ [])
  (h:∀ m t h' f,m∈ns->(∀ x∈ns,x<=m)->(∀ b o,s.heap.get? b=some o->h'.get? b=some o)->Q (.int m t) { s with heap:=h',toks:=f }) :
  wpAny (model prog w) A (call (.builtin "max") [.ref l]) Q E s:=by
 have a:l<s.heap.objs.size:=by obtain⟨_,e,_⟩:=d;exact aJ5 e
 have hz:us.length=ns.length:=hi.length
 have u:0<ns.length:=aF9.mpr c
 refine call_max_walk (aK7 d ?_)
 refine⟨_,[s.heap.objs.size,l],_,_,_,_,_,rfl,Walks.list (A:=A.in1) hh _ l (aB6 a) us.toArray,⟨⟨_,aJ6 _ rfl,rfl,rfl⟩,d.push _⟩,λb hb=>?_,by simp;lia,CmpOf.ints_gt (val ns) (λi v=>ael hi i v),λv h' f p q=>?_⟩
 ·show b<(s.heap.push _).objs.size
  rw[aK4]
  rcases aA9.mp hb with rfl|hb
  ·exact aI7 _
  ·rcases aA9.mp hb with rfl|hb
   ·exact aF8 a
   ·cases hb
 ·obtain⟨t,e⟩:=ael hi _ _ p
  obtain⟨b1,g⟩:=ajz (val ns) (us.toArray.size-1)
  have hs:us.toArray.size=ns.length:=by simp[hz]
  rw[hs] at b1 g
  subst e
  refine h _ t h' f (ahm (by rw[hs];lia)) (λx r=>?_) λb o e=>?_
  ·obtain⟨i,n,e⟩:=ai1 r
   have:=g i (by lia)
   rw[e] at this
   rw[hs]
   exact this
  ·refine q b o (λhm=>?_) (aJ4 _ e)
   rcases aA9.mp hm with j|hm
   ·exact absurd (j ▸ aJ5 e) (aG4 _)
   ·cases hm
theorem min_list(hh:A.handled=none)(d:s.heap.IsList l us.toArray)(hi:IntsAre us ns)(c:ns ≠ [])
  (h:∀ m t h' f,m∈ns->(∀ x∈ns,m<=x)->(∀ b o,s.heap.get? b=some o->h'.get? b=some o)->Q (.int m t) { s with heap:=h',toks:=f }) :
  wpAny (model prog w) A (call (.builtin "min") [.ref l]) Q E s:=by
 have a:l<s.heap.objs.size:=by obtain⟨_,e,_⟩:=d;exact aJ5 e
 have hz:us.length=ns.length:=hi.length
 have u:0<ns.length:=aF9.mpr c
 refine call_min_walk (aK7 d ?_)
 refine⟨_,[s.heap.objs.size,l],_,_,_,_,_,rfl,Walks.list (A:=A.in1) hh _ l (aB6 a) us.toArray,⟨⟨_,aJ6 _ rfl,rfl,rfl⟩,d.push _⟩,λb hb=>?_,by simp;lia,CmpOf.ints_lt (val ns) (λi v=>ael hi i v),λv h' f p q=>?_⟩
 ·show b<(s.heap.push _).objs.size
  rw[aK4]
  rcases aA9.mp hb with rfl|hb
  ·exact aI7 _
  ·rcases aA9.mp hb with rfl|hb
   ·exact aF8 a
   ·cases hb
 ·obtain⟨t,e⟩:=ael hi _ _ p
  obtain⟨b1,g⟩:=aj0 (val ns) (us.toArray.size-1)
  have hs:us.toArray.size=ns.length:=by simp[hz]
  rw[hs] at b1 g
  subst e
  refine h _ t h' f (ahm (by rw[hs];lia)) (λx r=>?_) λb o e=>?_
  ·obtain⟨i,n,e⟩:=ai1 r
   have:=g i (by lia)
   rw[e] at this
   rw[hs]
   exact this
  ·refine q b o (λhm=>?_) (aJ4 _ e)
   rcases aA9.mp hm with j|hm
   ·exact absurd (j ▸ aJ5 e) (aG4 _)
   ·cases hm
theorem max_tup{l:Addr}{us:List Value}{ns:List Int}{Q:Value->Shared->Prop}(hh:A.handled=none)(g:s.heap.IsTuple l us.toArray)(hi:IntsAre us ns)(f:ns ≠ [])
  (h:∀ m t h' d,m∈ns->(∀ x∈ns,x<=m)->(∀ b o,s.heap.get? b=some o->h'.get? b=some o)->Q (.int m t) { s with heap:=h',toks:=d }) :
  wpAny (model prog w) A.in1 (pyIter (.ref l)) (λit a=>∃ I fp j n P St bt,it=.ref I/\Walks prog w A.in1 I fp j n P St/\St 0 a.heap/\(∀ b∈fp,b<a.heap.objs.size)/\0<n/\CmpOf prog w A.in1 .Gt P bt /\
   ∀ v h' d,P (argBest bt (n-1)) v->(∀ b o,b ∉ j->a.heap.get? b=some o->h'.get? b=some o)->Q v { a with heap:=h',toks:=d }) E s:=by
 have c:l<s.heap.objs.size:=by obtain⟨_,e,_⟩:=g;exact aJ5 e
 have hz:us.length=ns.length:=hi.length
 have B:0<ns.length:=aF9.mpr f
 refine wpAny_pyIter_tuple g ?_
 refine⟨_,[s.heap.objs.size,l],[_],_,_,_,_,rfl,Walks.tuple (A:=A.in1) hh _ l (aB6 c) us.toArray,⟨⟨_,aJ6 _ rfl,rfl,rfl⟩,g.push _⟩,λb hb=>?_,by simp;lia,CmpOf.ints_gt (val ns) (λi v=>ael hi i v),λv h' d u y=>?_⟩
 ·show b<(s.heap.push _).objs.size
  rw[aK4]
  rcases aA9.mp hb with rfl|hb
  ·exact aI7 _
  ·rcases aA9.mp hb with rfl|hb
   ·exact aF8 c
   ·cases hb
 ·obtain⟨t,e⟩:=ael hi _ _ u
  obtain⟨b1,p⟩:=ajz (val ns) (us.toArray.size-1)
  have hs:us.toArray.size=ns.length:=by simp[hz]
  rw[hs] at b1 p
  subst e
  refine h _ t h' d (ahm (by rw[hs];lia)) (λx z=>?_) λb o e=>?_
  ·obtain⟨i,r,e⟩:=ai1 z
   have:=p i (by lia)
   rw[e] at this
   rw[hs]
   exact this
  ·refine y b o (λhm=>?_) (aJ4 _ e)
   rcases aA9.mp hm with q|hm
   ·exact absurd (q ▸ aJ5 e) (aG4 _)
   ·cases hm
theorem min_tup{l:Addr}{us:List Value}{ns:List Int}{Q:Value->Shared->Prop}(hh:A.handled=none)(g:s.heap.IsTuple l us.toArray)(hi:IntsAre us ns)(f:ns ≠ [])
  (h:∀ m t h' d,m∈ns->(∀ x∈ns,m<=x)->(∀ b o,s.heap.get? b=some o->h'.get? b=some o)->Q (.int m t) { s with heap:=h',toks:=d }) :
  wpAny (model prog w) A.in1 (pyIter (.ref l)) (λit a=>∃ I fp j n P St bt,it=.ref I/\Walks prog w A.in1 I fp j n P St/\St 0 a.heap/\(∀ b∈fp,b<a.heap.objs.size)/\0<n/\CmpOf prog w A.in1 .Lt P bt /\
   ∀ v h' d,P (argBest bt (n-1)) v->(∀ b o,b ∉ j->a.heap.get? b=some o->h'.get? b=some o)->Q v { a with heap:=h',toks:=d }) E s:=by
 have c:l<s.heap.objs.size:=by obtain⟨_,e,_⟩:=g;exact aJ5 e
 have hz:us.length=ns.length:=hi.length
 have B:0<ns.length:=aF9.mpr f
 refine wpAny_pyIter_tuple g ?_
 refine⟨_,[s.heap.objs.size,l],[_],_,_,_,_,rfl,Walks.tuple (A:=A.in1) hh _ l (aB6 c) us.toArray,⟨⟨_,aJ6 _ rfl,rfl,rfl⟩,g.push _⟩,λb hb=>?_,by simp;lia,CmpOf.ints_lt (val ns) (λi v=>ael hi i v),λv h' d u y=>?_⟩
 ·show b<(s.heap.push _).objs.size
  rw[aK4]
  rcases aA9.mp hb with rfl|hb
  ·exact aI7 _
  ·rcases aA9.mp hb with rfl|hb
   ·exact aF8 c
   ·cases hb
 ·obtain⟨t,e⟩:=ael hi _ _ u
  obtain⟨b1,p⟩:=aj0 (val ns) (us.toArray.size-1)
  have hs:us.toArray.size=ns.length:=by simp[hz]
  rw[hs] at b1 p
  subst e
  refine h _ t h' d (ahm (by rw[hs];lia)) (λx z=>?_) λb o e=>?_
  ·obtain⟨i,r,e⟩:=ai1 z
   have:=p i (by lia)
   rw[e] at this
   rw[hs]
   exact this
  ·refine y b o (λhm=>?_) (aJ4 _ e)
   rcases aA9.mp hm with q|hm
   ·exact absurd (q ▸ aJ5 e) (aG4 _)
   ·cases hm
end
end HT
namespace L2
open PySem PySem.Spec PyProof.Rows
section
variable{X:Cx}
def ad4(ns:List Int)(m:Int):Prop:=m∈ns/\∀ x∈ns,x<=m
def arb(ns:List Int)(m:Int):Prop:=m∈ns/\∀ x∈ns,m<=x
def afh(K:Frag):List V->Hp->VK->Prop:=λxs H Q=>∃(a:Addr)(ns:List Int),xs=[.ref a]/\(SqL K H a (ns.map V.int)\/SqT K H a (ns.map V.int))/\ns ≠ []/\∀ m,ad4 ns m->Q (.int m) H
def arc(K:Frag):List V->Hp->VK->Prop:=λxs H Q=>∃(a:Addr)(ns:List Int),xs=[.ref a]/\(SqL K H a (ns.map V.int)\/SqT K H a (ns.map V.int))/\ns ≠ []/\∀ m,arb ns m->Q (.int m) H
theorem ab4(i:X.calm=true):abi X (.builtin "max") (afh X.K):=by
 intro pins s σ H xs us Q I r h
 obtain⟨a,ns,rfl,ha,b,q⟩:=h
 obtain⟨u,rfl,j⟩:=adi r
 cases j
 rcases ha with ha|ha
 ·obtain⟨its,c,f,_⟩:=I.list ha
  have i1:IntsAre its.toArray.toList ns:=ab1 c
  exact HT.max_list (I.ok.hd i) f.isList (by simpa using i1) b λm t h' l g d kp=>⟨.int m,H,I.kept kp,⟨_,rfl⟩,q m ⟨g,d⟩⟩
 ·obtain⟨its,c,f,_⟩:=I.tuple ha
  have i1:IntsAre its.toArray.toList ns:=ab1 c
  refine call_max_walk (HT.max_tup (I.ok.hd i) f (by simpa using i1) b λm t h' l g d kp=>⟨.int m,H,I.kept kp,⟨_,rfl⟩,q m ⟨g,d⟩⟩)
theorem akv(i:X.calm=true):abi X (.builtin "min") (arc X.K):=by
 intro pins s σ H xs us Q I r h
 obtain⟨a,ns,rfl,ha,b,q⟩:=h
 obtain⟨u,rfl,j⟩:=adi r
 cases j
 rcases ha with ha|ha
 ·obtain⟨its,c,f,_⟩:=I.list ha
  have i1:IntsAre its.toArray.toList ns:=ab1 c
  exact HT.min_list (I.ok.hd i) f.isList (by simpa using i1) b λm t h' l g d kp=>⟨.int m,H,I.kept kp,⟨_,rfl⟩,q m ⟨g,d⟩⟩
 ·obtain⟨its,c,f,_⟩:=I.tuple ha
  have i1:IntsAre its.toArray.toList ns:=ab1 c
  refine call_min_walk (HT.min_tup (I.ok.hd i) f (by simpa using i1) b λm t h' l g d kp=>⟨.int m,H,I.kept kp,⟨_,rfl⟩,q m ⟨g,d⟩⟩)
end
def tTru(K:Frag)(ta:TE):TT:=λσ H Q=>ta σ H λx H'=>∃ k,TruV K x H' k/\Q k H'
def rIsN:R2:=λx y H Q=>y=.non/\Q (.bl (decide (x=.non))) H
section
variable{X:Cx}{a:Expr}{ta:TE}
theorem a1g(ha:PE X a ta)(b:∀ whole,isTrue a X.env whole=(do let v ← whole;standAt a.pos;holding [v] (truthy v)):=by intro _;rfl):PT X a (tTru X.K ta):=aur ha b
def aca(K:Frag):R2:=λx y H Q=>rIxL K x y H Q\/rIxT K x y H Q
theorem aal:IxR X (aca X.K):=ix_list.or a0x
theorem aye{i j n:Int}{d a:Nat}{c p2 pos:Pos}(h:i ^ j.toNat=n)(b:CPow i j):PE X (.BinOp (.Constant (.int i) d c) .Pow (.Constant (.int j) a p2) pos) (tC (.int n)):=by
 intro pins s σ H Q I q
 subst h
 exact aax a0s aae aae pins s σ H Q I ⟨i,j,rfl,rfl,b,q⟩
theorem ahn:OpR X (compareOp .Is) rIsN:=a0t
end
section
variable{σ:St}{H:Hp}{D:Ends}{K:Frag}
theorem af9(ha:H a=some (.lst xs))(b:atI xs i=some v)(h:Q v H):aca K (.ref a) (.int i) H Q:=.inl (a07 ha b h)
theorem amz(ha:H a=some (.tup xs))(b:atI xs i=some v)(h:Q v H):aca K (.ref a) (.int i) H Q:=.inr (a08 ha b h)
theorem au8(ha:SqL K H a xs)(b:atI xs i=some v)(h:Q v H):aca K (.ref a) (.int i) H Q:=.inl (a1a ha b h)
theorem acv{A B:Prop}(h:A):if true=true then A else B:=by rw[aF5 rfl];exact h
theorem acp{A B:Prop}(h:B):if false=true then A else B:=by rw[aF6 aB0];exact h
theorem aho{A B:Prop}(h:B):if (!true)=true then A else B:=by rw[aF6 (by decide)];exact h
theorem ahp{A B:Prop}(h:A):if (!false)=true then A else B:=by rw[aF5 (by decide)];exact h
theorem au9{c:Prop} [Decidable c] {A B:Prop} (a:c) (h:B):if (!decide c)=true then A else B:=by rw[aD8 a];exact aho h
theorem ava{c:Prop} [Decidable c] {A B:Prop} (a:¬ c) (h:A):if (!decide c)=true then A else B:=by rw[aD7 a];exact ahp h
theorem aie:kitOne K (.type "NoneType") (.type "int")=some false:=by first|rfl|decide
theorem ah1:kitOne K (.type "NoneType") (.type "bool")=some false:=by first|rfl|decide
theorem agz:kitOne K (.type "NoneType") (.type "tuple")=some false:=by first|rfl|decide
theorem ah2:kitOne K (.type "NoneType") (.type "list")=some false:=by first|rfl|decide
theorem aif:kitOne K (.type "NoneType") (.type "str")=some false:=by first|rfl|decide
theorem ah3:kitOne K (.type "NoneType") (.type "dict")=some false:=by first|rfl|decide
theorem am0:kitOne K (.type "bool") (.type "int")=some true:=by first|rfl|decide
theorem alf:kitOne K (.type "bool") (.type "bool")=some true:=by first|rfl|decide
theorem aj1:kitOne K (.type "bool") (.type "tuple")=some false:=by first|rfl|decide
theorem alg:kitOne K (.type "bool") (.type "list")=some false:=by first|rfl|decide
theorem am1:kitOne K (.type "bool") (.type "str")=some false:=by first|rfl|decide
theorem alh:kitOne K (.type "bool") (.type "dict")=some false:=by first|rfl|decide
theorem aou:kitOne K (.type "int") (.type "int")=some true:=by first|rfl|decide
theorem am2:kitOne K (.type "int") (.type "bool")=some false:=by first|rfl|decide
theorem ali:kitOne K (.type "int") (.type "tuple")=some false:=by first|rfl|decide
theorem am3:kitOne K (.type "int") (.type "list")=some false:=by first|rfl|decide
theorem aov:kitOne K (.type "int") (.type "str")=some false:=by first|rfl|decide
theorem am4:kitOne K (.type "int") (.type "dict")=some false:=by first|rfl|decide
theorem aow:kitOne K (.type "str") (.type "int")=some false:=by first|rfl|decide
theorem am5:kitOne K (.type "str") (.type "bool")=some false:=by first|rfl|decide
theorem alj:kitOne K (.type "str") (.type "tuple")=some false:=by first|rfl|decide
theorem am6:kitOne K (.type "str") (.type "list")=some false:=by first|rfl|decide
theorem aox:kitOne K (.type "str") (.type "str")=some true:=by first|rfl|decide
theorem am7:kitOne K (.type "str") (.type "dict")=some false:=by first|rfl|decide
theorem am8:kitOne K (.type "list") (.type "int")=some false:=by first|rfl|decide
theorem alk:kitOne K (.type "list") (.type "bool")=some false:=by first|rfl|decide
theorem aj2:kitOne K (.type "list") (.type "tuple")=some false:=by first|rfl|decide
theorem alm:kitOne K (.type "list") (.type "list")=some true:=by first|rfl|decide
theorem am9:kitOne K (.type "list") (.type "str")=some false:=by first|rfl|decide
theorem aln:kitOne K (.type "list") (.type "dict")=some false:=by first|rfl|decide
theorem alo:kitOne K (.type "tuple") (.type "int")=some false:=by first|rfl|decide
theorem aj3:kitOne K (.type "tuple") (.type "bool")=some false:=by first|rfl|decide
theorem ai2:kitOne K (.type "tuple") (.type "tuple")=some true:=by first|rfl|decide
theorem aj4:kitOne K (.type "tuple") (.type "list")=some false:=by first|rfl|decide
theorem alp:kitOne K (.type "tuple") (.type "str")=some false:=by first|rfl|decide
theorem aj5:kitOne K (.type "tuple") (.type "dict")=some false:=by first|rfl|decide
theorem ana:kitOne K (.type "dict") (.type "int")=some false:=by first|rfl|decide
theorem alq:kitOne K (.type "dict") (.type "bool")=some false:=by first|rfl|decide
theorem aj6:kitOne K (.type "dict") (.type "tuple")=some false:=by first|rfl|decide
theorem alr:kitOne K (.type "dict") (.type "list")=some false:=by first|rfl|decide
theorem anb:kitOne K (.type "dict") (.type "str")=some false:=by first|rfl|decide
theorem als:kitOne K (.type "dict") (.type "dict")=some true:=by first|rfl|decide
end
end L2
namespace L2
open PySem
section
variable{σ:St}{H:Hp}{K:Frag}
theorem ab6(a:H p=none):Same H (upd H p o):=λb u e=>by rw[aah (aau e a)];exact e
theorem Same.at(s:Same H H')(h:H b=some o):H' b=some o:=s b o h
end
section
variable{σ:St}{H:Hp}{K:Frag}
end
end L2
namespace Gr
inductive Walk(T:Int->Int->Prop)(u:Int):Nat->Int->Prop
 |refl:Walk T u 0 u
 |step {k:Nat} {v w:Int}:Walk T u k v->T v w->Walk T u (k+1) w
def Dist(T:Int->Int->Prop)(u v:Int)(d:Nat):Prop:=Walk T u d v/\∀ k,Walk T u k v->d<=k
theorem Dist.uniq(h:Dist T u v d)(g:Dist T u v e):d=e:=Nat.le_antisymm (h.2 _ g.1) (g.2 _ h.1)
theorem Dist.self(T:Int->Int->Prop)(u:Int):Dist T u u 0:=⟨.refl,λ_ _=>aG0 _⟩
theorem Dist.of_walk(h:Walk T u k v):∃ d,d<=k/\Dist T u v d:=by
 induction k using Nat.strongRecOn with
 | ind k ih =>
  by_cases hx:∃ j,j<k/\Walk T u j v
  ·obtain⟨j,a,w⟩:=hx
   obtain⟨d,hd,e⟩:=ih j a w
   exact⟨d,by lia,e⟩
  ·refine⟨k,aA6 _,h,λj w=>?_⟩
   by_cases a:j<k
   ·exact absurd ⟨j,a,w⟩ hx
   ·lia
theorem Dist.pred(h:Dist T u w (d+1)):∃ v,T v w/\Dist T u v d:=by
 obtain⟨b,hm⟩:=h
 cases b with
 | step hv ht =>
  rename_i v
  refine⟨v,ht,hv,λk a=>?_⟩
  have:=hm (k+1) (.step a ht)
  lia
theorem Dist.next(h:Dist T u v d)(t:T v w):∃ e,e<=d+1/\Dist T u w e:=Dist.of_walk (.step h.1 t)
structure Bfs(T:Int->Int->Prop)(a:Int)(line:List Int)(ds:List Nat)(at_:Nat):Prop where
 len:ds.length=line.length
 fst:line[0]?=some a
 nd:line.Nodup
 le:at_<=line.length
 dist:∀(i:Nat) v d,line[i]?=some v->ds[i]?=some d->Dist T a v d
 mono:∀(i j:Nat) d e,i<=j->ds[i]?=some d->ds[j]?=some e->d<=e
 near:∀(i j:Nat) d e,at_<=i->ds[i]?=some d->ds[j]?=some e->e<=d+1
 done:∀(i:Nat) v w,i<at_->line[i]?=some v->T v w->w∈line
end Gr
namespace L2
open PySem PySem.Spec PyProof.Rows
section
variable{σ:St}{H:Hp}{D:Ends}{K:Frag}
end
theorem few_places:∀(n:Nat)(l:List Int),l.Nodup->(∀ v∈l,0<=v/\v<(n:Int))->l.length<=n
 | 0,l,_,h=>by
  cases l with
  |nil=>simp
  |cons v r=>have:=h v (by simp);lia
 | n+1,l,hn,h=>by
  have c:=few_places n (l.erase (n:Int)) (hn.erase _) λv a=>by
   have hm:=List.mem_of_mem_erase a
   have hb:=h v hm
   have b:v ≠ (n:Int):=by
    rintro rfl
    exact absurd a (List.Nodup.not_mem_erase hn)
   lia
  have d:l.length<=(l.erase (n:Int)).length+1:=by
   rw[List.length_erase]
   split <;> lia
  lia
end L2
namespace L2
open PySem
end L2
namespace HT
open PySem PyProof.Rows
section
variable{prog:Program}{w:World}{A:Around}{E:Value->Shared->Prop}{s:Shared}
end
end HT
namespace L2
open PySem PySem.Spec PyProof.Rows
section
variable{X:Cx}
end
section
variable{X:Cx}{pins:List (Addr × Obj)}{σ:St}{H:Hp}{s:Shared}{A:Around}{E:Value->Shared->Prop}{Q:Value->Shared->Prop}{b:Bool}
end
section
variable{X:Cx}
end
mutual
def ltv:PyData->PyData->Bool
 | .int a,.int b=>decide (a<b)
 | .tuple xs,.tuple ys=>ltvs xs ys
 |_,_=>false
def ltvs:List PyData->List PyData->Bool
 |[],[]=>false
 |[],_::_=>true
 |_::_,[]=>false
 |x::xs,y::ys=>if PyData.eqv x y then ltvs xs ys else ltv x y
end
mutual
def cmpD:PyData->PyData->Bool
 | .int _,.int _=>true
 | .tuple xs,.tuple ys=>cmpDs xs ys
 |_,_=>false
def cmpDs:List PyData->List PyData->Bool
 |x::xs,y::ys=>cmpD x y && cmpDs xs ys
 |_,_=>true
end
end L2
namespace HT
open PySem PyProof.Rows L2
def LtAt(A:Around)(s:Shared)(y x:Value)(b:Bool):Prop :=
 ∀(prog:Program)(w:World)(E:Value->Shared->Prop)(Q:Value->Shared->Prop),Q (.bool b) s->wpAny (model prog w) A (richCompare .Lt y x) Q E s
section
open PySem.SeqAt
open PySem.AutoSeq1 (wpAny_loadPart')
open PySem.MeetsSeq PySem.MeetsSeq2 PySem.MeetsSeq3
inductive Its(A:Around)(s:Shared):List Value->List Value->Bool->Prop
 |nn:Its A s [] [] false
 |nc {x:Value} {ys:List Value}:Its A s [] (x::ys) true
 |cn {x:Value} {xs:List Value}:Its A s (x::xs) [] false
 |eq {x y:Value} {xs ys:List Value} {b:Bool}:EqAt A s x y true->Its A s xs ys b->Its A s (x::xs) (y::ys) b
 |ne {x y:Value} {xs ys:List Value} {b:Bool}:EqAt A s x y false->LtAt A s x y b->Its A s (x::xs) (y::ys) b
theorem anc(l b:Addr)(items a:Array Value)(n F:Nat)(C p:Option Addr)(sl q:Array (Option Value))(r:Bool) :
  Meets (Builtin.«tuple.__lt__» ⟨[.ref l,.ref b],[]⟩)
   (λA R s=>s.heap.get? l=some { cls:=.type "tuple",dict:=C,data:=.seq items n,slots:=sl }/\s.heap.get? b=some { cls:=.type "tuple",dict:=p,data:=.seq a F,slots:=q } /\
    Its A.in1 s items.toList a.toList r/\R (.ok (.ret (.bool r))) s) :=
 .of_wp λprog w A R s h=>by
  obtain⟨z,g,d,B,os⟩:=s;obtain⟨D,hb,hi,h⟩:=h
  have G:=AutoSeq1.sub_tuple_tuple
  wp_walk using wpAny_loadPart' D,wpAny_loadPart' hb,wpAny_forIn_list _ (λrest b s'=>b.1=none/\s'=⟨z,g,d,B,os⟩/\∃(vs ws:List Value),rest=vs.zip ws /\
   vs.length+a.size=ws.length+items.size/\Its A.in1 ⟨z,g,d,B,os⟩ vs ws r) _
  case turn =>
   rintro⟨y,x⟩ rest b s' ⟨j,rfl,vs,ws,hz,c,t⟩
   cases t with
   |nn=>cases hz
   |nc=>cases hz
   |cn=>cases hz
   | eq he hI' =>
    rw[List.zip_cons_cons] at hz
    injection hz with i f
    injection i with o v
    subst o v
    simp only[aE6] at c
    refine aJ2 (he prog w _ _ ?_)
    wp_walk
    exact⟨rfl,rfl,_,_,f,by lia,hI'⟩
   | ne he hlt =>
    rw[List.zip_cons_cons] at hz
    injection hz with i f
    injection i with o v
    subst o v
    refine aJ2 (he prog w _ _ ?_)
    have u:=hlt prog w
    wp_walk using u
    exact⟨_,rfl,by simpa using h⟩
  case fin =>
   rintro⟨b1,H⟩ s' ⟨j,rfl,vs,ws,hz,c,t⟩
   simp only at j
   subst j
   have E:r=decide (items.size<a.size):=by
    cases t with
    | nn =>
     simp only[aJ0] at c
     exact(aD7 (by lia)).symm
    | nc =>
     simp only[aJ0,aE6] at c
     exact(aD8 (by lia)).symm
    | cn =>
     simp only[aJ0,aE6] at c
     exact(aD7 (by lia)).symm
    |eq=>cases hz
    |ne=>cases hz
   rw[E] at h
   wp_walk
   exact⟨_,rfl,by simpa[Builtin.Tuple.tupleCompareSizes] using h⟩
  case h =>
   exact⟨rfl,rfl,items.toList,a.toList,rfl,by simp;lia,hi⟩
end
section
variable{A:Around}{s:Shared}
theorem LtAt.tup{l b:Addr}{o f:Obj}{items a:Array Value}{n u:Nat}{r:Bool}(p:s.heap.get? l=some o)(t:o.cls=.type "tuple")(hd:o.data=.seq items n)(hb:s.heap.get? b=some f)(d:f.cls=.type "tuple")(c:f.data=.seq a u)
  (y:A.units<cLine) (hi:Its A.in1 s items.toList a.toList r):LtAt A s (.ref l) (.ref b) r:=by
 intro prog w E Q q
 obtain⟨cls,v,data,sl⟩:=o
 obtain⟨j,g,i,h⟩:=f
 simp only at t hd d c
 subst t hd d c
 exact richCompare_meets_room (op:=.Lt) ⟨_,p,rfl⟩ ⟨_,hb,rfl⟩ PySem.F.slot_tuple_lt PySem.F.entry_tuple_lt (PySem.F.args_tuple_lt_2 _ _) (anc l b items a n u v g sl h r)
  ⟨p,hb,hi,show Value.bool r ≠ Value.notImplemented/\Q (.bool r) s from⟨(λx=>nomatch x),q⟩⟩ y
mutual
theorem ai3:∀(c d:PyData)(A:Around)(s:Shared)(a b:Value)(as bs:List Addr),Reads s.heap a c as->Reads s.heap b d bs->cmpD c d=true->aap c=true->aap d=true ->
  A.units+c.depth<cLine->LtAt A s a b (ltv c d)
 | .int i,.int j,A,s,_,_,_,_,.int _ t,.int _ u,_,_,_,_=>λprog w E Q q=>amj A s i t j u prog w E Q (by simpa[ltv] using q)
 | .tuple xs,.tuple ys,A,s,_,_,_,_,.tuple h1 h2 h3 h4,.tuple k1 k2 k3 k4,hc,pa,pb,hu=>by
  have f:A.units+(PyData.depthAll xs+1)<cLine:=hu
  have e:ltv (.tuple xs) (.tuple ys)=ltvs xs ys:=by simp[ltv]
  rw[e]
  exact LtAt.tup h1 h2 h3 k1 k2 k3 (by lia) (its_reads xs ys A.in1 s _ _ _ _ h4 k4 (by simpa[cmpD] using hc) (by simpa[aap] using pa) (by simpa[aap] using pb) (by show A.units+1+_<_;lia))
 | .int _,.none,_,_,_,_,_,_,_,_,hc,_,_,_=>by simp[cmpD] at hc
 | .int _,.bool _,_,_,_,_,_,_,_,_,hc,_,_,_=>by simp[cmpD] at hc
 | .int _,.str _,_,_,_,_,_,_,_,_,hc,_,_,_=>by simp[cmpD] at hc
 | .int _,.list _,_,_,_,_,_,_,_,_,hc,_,_,_=>by simp[cmpD] at hc
 | .int _,.tuple _,_,_,_,_,_,_,_,_,hc,_,_,_=>by simp[cmpD] at hc
 | .int _,.dict _,_,_,_,_,_,_,_,_,hc,_,_,_=>by simp[cmpD] at hc
 | .tuple _,.none,_,_,_,_,_,_,_,_,hc,_,_,_=>by simp[cmpD] at hc
 | .tuple _,.bool _,_,_,_,_,_,_,_,_,hc,_,_,_=>by simp[cmpD] at hc
 | .tuple _,.str _,_,_,_,_,_,_,_,_,hc,_,_,_=>by simp[cmpD] at hc
 | .tuple _,.list _,_,_,_,_,_,_,_,_,hc,_,_,_=>by simp[cmpD] at hc
 | .tuple _,.int _,_,_,_,_,_,_,_,_,hc,_,_,_=>by simp[cmpD] at hc
 | .tuple _,.dict _,_,_,_,_,_,_,_,_,hc,_,_,_=>by simp[cmpD] at hc
 | .none,_,_,_,_,_,_,_,_,_,hc,_,_,_=>by simp[cmpD] at hc
 | .bool _,_,_,_,_,_,_,_,_,_,hc,_,_,_=>by simp[cmpD] at hc
 | .str _,_,_,_,_,_,_,_,_,_,hc,_,_,_=>by simp[cmpD] at hc
 | .list _,_,_,_,_,_,_,_,_,_,hc,_,_,_=>by simp[cmpD] at hc
 | .dict _,_,_,_,_,_,_,_,_,_,hc,_,_,_=>by simp[cmpD] at hc
theorem its_reads:∀(xs ys:List PyData)(A:Around)(s:Shared)(vs ws:List Value)(as bs:List Addr),ReadsAll s.heap vs xs as->ReadsAll s.heap ws ys bs->cmpDs xs ys=true->plainDs xs=true->plainDs ys=true ->
  A.units+PyData.depthAll xs<cLine->Its A s vs ws (ltvs xs ys)
 |[],[],_,_,_,_,_,_,.nil,.nil,_,_,_,_=>by simp only[ltvs];exact .nn
 |[],_::_,_,_,_,_,_,_,.nil,.cons _ _,_,_,_,_=>by simp only[ltvs];exact .nc
 |_::_,[],_,_,_,_,_,_,.cons _ _,.nil,_,_,_,_=>by simp only[ltvs];exact .cn
 | x::xs,y::ys,A,s,_,_,_,_,.cons r1 r2,.cons q1 q2,hc,pa,pb,hu=>by
  have c:cmpD x y=true/\cmpDs xs ys=true:=by simpa[cmpDs] using hc
  have b:aap x=true/\plainDs xs=true:=by simpa[plainDs] using pa
  have a:aap y=true/\plainDs ys=true:=by simpa[plainDs] using pb
  have hd:PyData.depthAll (x::xs)=max x.depth (PyData.depthAll xs):=by simp[PyData.depthAll]
  have f:=Nat.min_le_left x.depth y.depth
  have d:=SeqAt.eqAt_reads x y A s _ _ _ _ r1 q1 (abx _ b.1) (abx _ a.1) (by lia)
  cases hq:PyData.eqv x y with
  | true =>
   rw[hq] at d
   have e:ltvs (x::xs) (y::ys)=ltvs xs ys:=by simp[ltvs,hq]
   rw[e]
   exact .eq d (its_reads xs ys A s _ _ _ _ r2 q2 c.2 b.2 a.2 (by lia))
  | false =>
   rw[hq] at d
   have e:ltvs (x::xs) (y::ys)=ltv x y:=by simp[ltvs,hq]
   rw[e]
   exact .ne d (ai3 x y A s _ _ _ _ r1 q1 c.1 b.1 a.1 (by lia))
end
end
end HT
namespace L2
open PySem PySem.Spec PyProof.Rows
section
variable{X:Cx}
end
end L2
namespace L2
open PySem
end L2
namespace TS
open PySem PyProof.Rows HT
theorem aps:∀ x y:List Int,HT.lexLt x y=true->HT.lexLt y x=false
 |[],[],h=>by simp[HT.lexLt] at h
 |[],_::_,_=>rfl
 |_::_,[],h=>by simp[HT.lexLt] at h
 | a::x,b::y,h=>by
  rw[aet] at h ⊢
  by_cases e:a=b
  ·subst e
   rw[aF5 rfl] at h ⊢
   exact aps x y h
  ·rw[aF6 e] at h
   rw[aF6 (λz=>e z.symm)]
   have:=of_decide_eq_true h
   exact aD7 (by lia)
theorem as6:∀ x y z:List Int,HT.lexLt y x=false->HT.lexLt z y=false->HT.lexLt z x=false
 |_,[],[],h,_=>h
 |[],[],_::_,_,_=>rfl
 |_::_,[],_::_,h,_=>by simp[HT.lexLt] at h
 |_,_::_,[],_,h=>by simp[HT.lexLt] at h
 |[],_::_,_::_,_,_=>rfl
 | a::x,b::y,c::z,h,g=>by
  rw[aet] at h g ⊢
  by_cases e:b=a
  ·subst e
   rw[aF5 rfl] at h
   by_cases e2:c=b
   ·subst e2
    rw[aF5 rfl] at g ⊢
    exact as6 x y z h g
   ·rw[aF6 e2] at g ⊢
    exact g
  ·rw[aF6 e] at h
   have h':=of_decide_eq_false h
   by_cases e2:c=b
   ·subst e2
    rw[aF6 e]
    exact h
   ·rw[aF6 e2] at g
    have g':=of_decide_eq_false g
    rw[aF6 (by lia)]
    exact aD7 (by lia)
def TI(h:Heap)(a:Addr)(ns:List Int):Prop:=∃ o xs n,h.get? a=some o/\o.cls=.type "tuple"/\o.data=.seq xs n/\IntsAre xs.toList ns
def kfV(kf:Addr->List Int):Value->List Int
 | .ref a=>kf a
 |_=>[]
section
variable{prog:Program}{w:World}{A:Around}{E:Value->Shared->Prop}{s:Shared}
theorem ah6:∀{xs ys:List Value}{ns c:List Int}(i:Nat),IntsAre xs ns->IntsAre ys c->(ns.length<c.length->fin=true)->(c.length<=ns.length->fin=false)->Q (HT.lexLt ns c) s ->
  PySem.W.KatLex prog w A true fin Q (xs.zip ys) i s
 | _,_,_,_,i,.nil,.nil,_,h2,q=>by
  rw[h2 (aA6 _)];exact q
 | _,_,_,_,i,.nil,.cons b u r,h1,_,q=>by
  rw[h1 (by simp)];exact q
 | _,_,_,_,i,.cons a t r,.nil,_,h2,q=>by
  rw[List.zip_nil_right,h2 (by simp)];exact q
 | _,_,_,_,i,.cons a t r,.cons b u r2,h1,h2,q=>by
  rw[List.zip_cons_cons]
  refine PySem.W.kat_cons (SeqAt.EqAt.int_int a t b u prog w _ _ ?_)
  rw[aet] at q
  by_cases e:a=b
  ·subst e
   rw[aF5 rfl] at q
   rw[show(a == a)=true by simp]
   exact PySem.W.kat_yes (ah6 (i+1) r r2 (λz=>h1 (by simpa using z)) (λz=>h2 (by simpa using z)) q)
  ·rw[aF6 e] at q
   rw[show(a == b)=false by simpa using e]
   refine PySem.W.kat_no ?_
   by_cases hi:i=0
   ·subst hi
    exact oneLt_int q
   ·rw[show(true && i == 0)=false by simpa using hi]
    exact PySem.W.kat_one _ _ (PyProof.Rows.lt_int q)
def tS(h:Heap)(kf:Addr->List Int)(x:Keyed):Prop:=x.1=x.2/\∃ a,x.1=.ref a/\TI h a (kf a)
def tR(kf:Addr->List Int)(x y:Keyed):Bool:=HT.lexLt (kfV kf x.1) (kfV kf y.1)
theorem cmp_tups(h:Addr->List Int):Cmp (model prog w) A E s (tuples' true) (tS s.heap h) (tR h):=by
 refine⟨λx y B l Q st v q=>?_,λx y _ _=>aps _ _,λx y z _ _ _=>as6 _ _ _⟩
 obtain⟨F,C⟩:=x
 obtain⟨H,G⟩:=y
 obtain⟨_,a,i,o,xs,n,t,I,u,g⟩:=B
 obtain⟨_,b,j,o',ys,J,r,D,p,f⟩:=l
 dsimp only at i j
 subst i j
 rw[lt'_eq]
 refine wpS_bind (wpS_get ?_)
 rw[v]
 refine wpS_bind (wpS_lift (wpAny_attempt (PySem.W.kat_lt t u r p (ah6 0 g f (λz=>?_) (λz=>?_) ⟨rfl,?_⟩))))
 ·have c:=g.length;have d:=f.length
  simp at c d
  exact aD8 (by lia)
 ·have c:=g.length;have d:=f.length
  simp at c d
  exact aD7 (by lia)
 ·exact wpS_pure q
theorem ard{vs:List Value}{ps:List Keyed}(h:ps.Perm (vs.zip vs)):(∀ p∈ps,p.1=p.2/\p.1∈vs)/\(ps.map (·.2)).Perm vs:=by
 refine⟨λp b=>mem_zip_self (h.mem_iff.mp b),?_⟩
 have a:=h.map (λp=>p.2)
 have e:(vs.zip vs).map (λp=>p.2)=vs:=List.map_snd_zip (aA6 _)
 rwa [e] at a
theorem list_sort_any(j:s.heap.get? a=some (seqObj "list" vs.toArray n))(c:vs.length<=sizeLine)
  (l:2<=vs.length->∀ h',(∀ b o,b ≠ a->s.heap.get? b=some o->h'.get? b=some o)->∃ κ S R,(∀(Q:SortKind->Shared->Prop),Q κ { s with heap:=h' }->wpAny (model prog w) A (keyKind' vs.toArray) Q E { s with heap:=h' })/\Cmp (model prog w) A E { s with heap:=h' } κ S R/\(∀ v∈vs,S (v,v)) /\
   ∀ out:List Value,out.Perm vs->out.Pairwise (λx y=>R (y,y) (x,x)=false)->P (.done (.ret .none)) { s with heap:=sortedHeap s.heap a vs out.toArray })
  (D:vs.length<2->P (.done (.ret .none)) { s with heap:=sortedHeap s.heap a vs vs.toArray }) :
  wpAny (model prog w) A (Builtin.«list.sort» ⟨[.ref a],[]⟩) P E s:=by
 rw[list_sort_plain]
 have ha:a<s.heap.objs.size:=aJ5 j
 refine aJ2 (listItems_at j rfl ?_)
 refine aJ2 (listUpdate_at j rfl ?_ (by rw[aB2];exact c) (aG0 _))
 obtain⟨q,g⟩:∃ q,(s.heap.update a (Obj.mapSeq λ_=>#[])).get? a=some (seqObj "list" #[] q):=⟨_,get?_update_seq j (λ_=>#[])⟩
 refine aJ2 (seqEpoch_at g rfl ?_)
 refine aJ2 (wpAny_newTuple ?_ (by show vs.length<=_;exact c))
 refine aJ2 (wpAny_newList ?_ (aG0 _))
 refine aJ8 ?_
 have d:(((s.heap.update a (Obj.mapSeq λ_=>#[])).push (seqObj "tuple" vs.toArray 0)).push (seqObj "list" #[] 0)).get? a=some (seqObj "list" #[] q):=by
  rw[Heap.get?_push_ne _ _ _ (by rw[size_push',Heap.size_update];exact aB6 (aF8 ha)),Heap.get?_push_ne _ _ _ (by rw[Heap.size_update];exact aB6 ha)]
  exact g
 show wpAny (model prog w) A _ P E { s with heap:=((s.heap.update a (Obj.mapSeq λ_=>#[])).push (seqObj "tuple" vs.toArray 0)).push (seqObj "list" #[] 0) }
 dsimp only
 have hsz:vs.toArray.size=vs.length:=by simp
 have kp:∀ b o,b ≠ a->s.heap.get? b=some o->(((s.heap.update a (Obj.mapSeq λ_=>#[])).push (seqObj "tuple" vs.toArray 0)).push (seqObj "list" #[] 0)).get? b=some o:=λb o hb e=>by
  refine aJ4 _ (aJ4 _ ?_)
  rw[Heap.get?_update_ne _ _ _ _ hb];exact e
 by_cases h2:vs.toArray.size<2
 ·rw[aF5 h2,aF5 h2]
  refine aJ2 (aJ3 ?_)
  rw[StateT.run_pure]
  refine aJ2 (aJ3 ?_)
  dsimp only
  have r:(arrOf (SortSt.mk' general' (vs.toArray.zip vs.toArray) #[] 7 none)).map (·.2)=vs.toArray:=by
   show(vs.toArray.zip vs.toArray).map (·.2)=vs.toArray
   apply Array.toList_inj.mp
   rw[Array.toList_map,Array.toList_zip]
   exact List.map_snd_zip (aA6 _)
  rw[r]
  refine aJ2 (seqEpoch_at d rfl ?_)
  refine aJ2 (listUpdate_at d rfl ?_ (aG0 _) (by rw[aB2];exact Nat.le_succ_of_le c))
  simp only[bne_self_eq_false,Bool.false_eq_true,if_false]
  exact aJ3 (D (by lia))
 ·rw[aF6 h2,aF6 h2]
  obtain⟨κ,S,R,J,C,K,i⟩:=l (by lia) _ kp
  refine aJ2 (J _ ?_)
  refine aJ2 (aK1 (ayd C (a0:=vs.toArray.zip vs.toArray) (st:=SortSt.mk' κ (vs.toArray.zip vs.toArray) #[] 7 none) (Q:=λ_ st'=>failedOf st'=none/\(arrOf st').toList.Perm (vs.zip vs)/\Srt R (arrOf st').toList) (λx t=>?_) rfl rfl rfl rfl λst' I F s'=>⟨I,by simpa using F,s'⟩) ?_ λ_ _ e=>e)
  ·have:x∈vs.zip vs:=by simpa using t
   obtain⟨f,h⟩:=mem_zip_self this
   obtain⟨G,B⟩:=x
   dsimp only at f h
   subst f
   exact K _ h
  rintro⟨⟨⟩,st'⟩ s' ⟨rfl,hf,H,hs⟩
  dsimp only
  obtain⟨f,h⟩:=ard H
  have r:(arrOf st').map (·.2)=(((arrOf st').toList.map (·.2)).toArray):=by
   apply Array.toList_inj.mp
   simp
  rw[r]
  have p:((arrOf st').toList.map (·.2)).length=vs.length:=h.length_eq
  refine aJ2 (seqEpoch_at d rfl ?_)
  refine aJ2 (listUpdate_at d rfl ?_ (aG0 _) (by rw[aB2,p];exact Nat.le_succ_of_le c))
  rw[hf]
  simp only[bne_self_eq_false,Bool.false_eq_true,if_false]
  refine aJ3 (i _ h ?_)
  rw[aG1]
  refine aI0 ?_ hs
  intro x y t z hr
  have ex:=(f x t).1
  have u:=(f y z).1
  obtain⟨G,B⟩:=x
  obtain⟨M,L⟩:=y
  dsimp only at ex u
  subst ex u
  exact hr
theorem sorted_any(p:s.heap.IsList l vs.toArray)(c:vs.length<=sizeLine)
  (g:2<=vs.length->∀ h',(∀ b o,s.heap.get? b=some o->h'.get? b=some o)->∃ κ S R,(∀(Q:SortKind->Shared->Prop),Q κ { s with heap:=h' }->wpAny (model prog w) A.in1.in1 (keyKind' vs.toArray) Q E { s with heap:=h' })/\Cmp (model prog w) A.in1.in1 E { s with heap:=h' } κ S R/\(∀ v∈vs,S (v,v)) /\
   ∀ out:List Value,out.Perm vs->out.Pairwise (λx y=>R (y,y) (x,x)=false)->Q (.ref (s.heap.objs.size+1)) { s with heap:=sortedAll s.heap vs out.toArray })
  (j:vs.length<2->Q (.ref (s.heap.objs.size+1)) { s with heap:=sortedAll s.heap vs vs.toArray }) :
  wpAny (model prog w) A (call (.builtin "sorted") [.ref l]) Q E s:=by
 refine Calls.call_function_entry kind_sorted plain_sorted entry_sorted (args_sorted1 _) ?_
 unfold Builtin.«sorted»
 refine aJ2 (m:=checkCount "sorted" 1 1 _) (aJ3 ?_)
 refine aJ2 (collect_list p ?_ c)
 refine aJ2 (wpAny_newList ?_ c)
 have hsz:((s.heap.push (seqObj "list" #[] 0)).update s.heap.objs.size (Obj.mapSeq (· ++ vs.toArray))).objs.size=s.heap.objs.size+1:=by
  rw[Heap.size_update,size_push']
 have d:(((s.heap.push (seqObj "list" #[] 0)).update s.heap.objs.size (Obj.mapSeq (· ++ vs.toArray))).push (seqObj "list" vs.toArray 0)).get? (s.heap.objs.size+1)=some (seqObj "list" vs.toArray 0):=by
  rw[← hsz];exact aJ6 _ rfl
 have keep:∀ b o,s.heap.get? b=some o->(((s.heap.push (seqObj "list" #[] 0)).update s.heap.objs.size (Obj.mapSeq (· ++ vs.toArray))).push (seqObj "list" vs.toArray 0)).get? b=some o:=λb o q=>by
  have a:b<s.heap.objs.size:=aJ5 q
  rw[Heap.get?_push_ne _ _ _ (by rw[hsz];exact aB6 (aF8 a)),Heap.get?_update_ne _ _ _ _ (aB6 a),Heap.get?_push_ne _ _ _ (aB6 a)]
  exact q
 show wpAny _ _ _ _ _ { s with heap:=((s.heap.push (seqObj "list" #[] 0)).update s.heap.objs.size (Obj.mapSeq (· ++ vs.toArray))).push (seqObj "list" vs.toArray 0) }
 rw[hsz]
 refine aJ2 (aJ8 (aK5 slot_list_sort ⟨_,d,rfl⟩ entry_list_sort ?body (args_list_sort _)))
 case body =>
  refine list_sort_any (s:={ s with heap:=((s.heap.push (seqObj "list" #[] 0)).update s.heap.objs.size (Obj.mapSeq (· ++ vs.toArray))).push (seqObj "list" vs.toArray 0) }) d c (λh h' kp=>?_) λa=>?_
  ·obtain⟨κ,S,R,r,C,t,f⟩:=g h h' λb o e=>kp b o (aB6 (aF8 (aJ5 e))) (keep b o e)
   exact⟨κ,S,R,r,C,t,λout i n=>⟨_,rfl,aJ3 ⟨_,rfl,f out i n⟩⟩⟩
  ·exact⟨_,rfl,aJ3 ⟨_,rfl,j a⟩⟩
end
end TS
namespace L2
open PySem PySem.Spec PyProof.Rows
def toI:V->Int
 | .int i=>i
 |_=>0
def kH(H:Hp):V->List Int
 | .ref t=>match H t with
  |some (.tup xs)=>xs.map toI
  |_=>[]
 |_=>[]
theorem ayf(ns:List Int):(ns.map V.int).map toI=ns:=by
 rw[aE0]
 have:(toI ∘ V.int)=id:=by funext i;rfl
 rw[this,List.map_id]
theorem ai4(h:H t=some (.tup (ns.map V.int))):kH H (.ref t)=ns:=by
 simp only[kH,h];exact ayf ns
def TupI(H:Hp)(v:V):Prop:=∃ t ns,v=.ref t/\H t=some (.tup (ns.map V.int))/\ns ≠ []
def adj:Value->V
 | .ref a=>.ref a
 |_=>.non
theorem ag0:∀{us:List Value},(∀ u∈us,∃ a,u=.ref a)->Vals (us.map adj) us
 |[],_=>.nil
 | u::us,h=>by
  obtain⟨a,e⟩:=h u aB8
  subst e
  exact .cons rfl (ag0 λv b=>h v (aB5 _ b))
theorem akw:∀{vs:List V}{us:List Value},Vals vs us->(∀ v∈vs,TupI H v)->(∀ u∈us,∃ a,u=.ref a)/\us.map adj=vs
 |_,_,.nil,_=>⟨λu d=>(by cases d),rfl⟩
 | v::vs,u::us,.cons r t,h=>by
  obtain⟨a,ns,rfl,_,_⟩:=h v aB8
  cases r
  obtain⟨f,g⟩:=akw t λv c=>h v (aB5 _ c)
  refine⟨λx b=>?_,by rw[aD1,g];rfl⟩
  rcases aA9.mp b with rfl|b
  ·exact⟨_,rfl⟩
  ·exact f x b
section
variable{X:Cx}
def ai5(K:Frag):List V->Hp->VK->Prop:=λxs H Q=>∃(a:Addr)(vs:List V),xs=[.ref a]/\SqL K H a vs/\(∀ v∈vs,TupI H v) /\
 ∀(vs':List V)(p:Addr),vs'.Perm vs->vs'.Pairwise (λx y=>HT.lexLt (kH H y) (kH H x)=false)->H p=none->Q (.ref p) (upd H p (.lst vs'))
theorem aig(I:Inv X pins σ H s)(kp:∀ b o,s.heap.get? b=some o->h'.get? b=some o):∀{vs:List V}{us:List Value},Vals vs us->(∀ v∈vs,TupI H v) ->
  (∃ fs,PySem.W.KatTups h' us fs/\fs.length=us.length/\∀ f∈fs,∃ i t,f=.int i t)/\∀ u∈us,∃ a,u=.ref a/\TS.TI h' a (kH H (.ref a))
 |_,_,.nil,_=>⟨⟨[],trivial,rfl,λf hf=>by cases hf⟩,λu F=>by cases F⟩
 | v::vs,u::us,.cons r t,h=>by
  obtain⟨a,ns,rfl,e,c⟩:=h v aB8
  cases r
  obtain⟨⟨fs,k1,D,E⟩,B⟩:=aig I kp t λv C=>h v (aB5 _ C)
  obtain⟨_,its,A,o,p,y,n,q⟩:=(show ObjOk X.prog X.w H s.heap a (.tup (ns.map V.int)) from I.hok a _ e)
  have hi:IntsAre its ns:=by simpa using (ab1 A:IntsAre its.toArray.toList ns)
  have hT:TS.TI h' a (kH H (.ref a)):=⟨o,its.toArray,n,kp _ _ p,y,q,by rw[ai4 e];simpa using hi⟩
  obtain⟨f,hf,i,j,z⟩:∃ f,its.toArray[0]?=some f/\∃ i t,f=.int i t:=by
   cases hi with
   |nil=>exact absurd rfl c
   |cons i j _=>exact⟨_,by simp,i,j,rfl⟩
  refine⟨⟨f::fs,PySem.W.KatTups.cons (kp _ _ p) y q hf k1,by simp[D],λg d=>?_⟩,λx l=>?_⟩
  ·rcases aA9.mp d with rfl|d
   ·exact⟨i,j,z⟩
   ·exact E g d
  ·rcases aA9.mp l with rfl|l
   ·exact⟨a,rfl,hT⟩
   ·exact B x l
theorem ane{α:Type}{R : α->α->Prop}:∀{l:List α},l.length<2->l.Pairwise R
 |[],_=>List.Pairwise.nil
 |[_],_=>List.pairwise_singleton _ _
 |_::_::_,h=>absurd h (by simp)
theorem aga:abi X (.builtin "sorted") (ai5 X.K):=by
 intro pins s σ H xs us Q I r h
 obtain⟨a,vs,rfl,ha,hT,q⟩:=h
 obtain⟨u,rfl,D⟩:=adi r
 cases D
 obtain⟨its,l,A,hz⟩:=I.list ha
 obtain⟨b1,E⟩:=akw l hT
 have c:its.length<=sizeLine:=by rw[← l.length];exact hz
 have d:H (s.heap.objs.size+1)=none:=I.hok.fresh (Nat.le_succ _)
 have fin:∀ out:List Value,out.Perm its->(out.map adj).Pairwise (λx y=>HT.lexLt (kH H y) (kH H x)=false)->EP X pins σ Q (.ref (s.heap.objs.size+1)) { s with heap:=sortedAll s.heap its out.toArray }:=by
  intro out f hs
  obtain⟨e,z⟩:=sortedAll_at s.heap its out.toArray
  have g:Vals (out.map adj) out:=ag0 λu J=>b1 u (f.mem_iff.mp J)
  refine⟨.ref (s.heap.objs.size+1),_,I.laid (t':=s.toks) (o:=.lst (out.map adj)) (λb P q=>sortedAll_old q) (Nat.le_succ _) ?_,rfl,q _ _ ?_ hs d⟩
  ·refine⟨by rw[aA3,f.length_eq];exact c,out,e,g,by rw[z]⟩
  ·rw[← E];exact f.map adj
 refine TS.sorted_any A.isList c (λB h' kp=>?_) λn=>?_
 ·obtain⟨⟨fs,k1,R,G⟩,w⟩:=aig I kp l hT
  have j:(Value.type "int" != Value.type "tuple")=true:=by rfl
  refine⟨tuples' true,TS.tS h' (λa=>kH H (.ref a)),TS.tR (λa=>kH H (.ref a)),λN F=>?_,TS.cmp_tups (s:={ s with heap:=h' }) (λa=>kH H (.ref a)),λv g=>?_,λout f hs=>fin out f ?_⟩
  ·refine PySem.W.kat_kind (T:=.type "int") (s:={ s with heap:=h' }) k1 (by lia) (λv g=>?_) (by rfl) ?_
   ·obtain⟨i,t,rfl⟩:=G v g
    exact .now
   ·rw[j];exact F
  ·obtain⟨a,e,C⟩:=w v g
   exact⟨rfl,a,e,C⟩
  ·rw[aG1]
   refine aI0 ?_ hs
   intro x y L p hr
   obtain⟨M,rfl⟩:=b1 x (f.mem_iff.mp L)
   obtain⟨O,rfl⟩:=b1 y (f.mem_iff.mp p)
   exact hr
 ·refine fin its (List.Perm.refl _) ?_
  exact ane (by rw[aA3];exact n)
end
end L2
namespace HT
open PySem PySem.Spec PyProof.Rows L2
section
variable{prog:Program}{w:World}{A:Around}{kw:List (Str × Value)}{R:Result->Shared->Prop}{I S:Addr}{fp wr:List Addr}{n:Nat}{P:Nat->Value->Prop}{St:Nat->Heap->Prop}{Hd:Heap->Prop}
theorem as7(W:Walks prog w A.in1 I fp wr n P St)(bt:Nat->Nat->Bool)
  (D:∀ i j T X (s:Shared) (Q:Value->Shared->Prop) (E:Value->Shared->Prop),Hd s.heap->P i T->P j X->Q (.bool (bt i j)) s->wpAny (model prog w) A.in1 (richCompare .Lt T X) Q E s)
  (hd:∀ h h':Heap,Hd h->(∀ b o,b ∉ wr->b ≠ S->h.get? b=some o->h'.get? b=some o)->Hd h') (G:S ∉ fp) :
  ∀(k j:Nat)(s:Shared)(r:Value)(c:Nat),n-(j+1)=k->j+1<=n->St (j+1) s.heap->Hd s.heap->P (argBest bt j) r ->
  s.heap.get? S=some { cls:=.type "list",dict:=none,data:=.seq #[r,r] c,slots:=#[] } ->
  (∀ v h' M,P (argBest bt (n-1)) v->(∀ b o,b ∉ wr->b ≠ S->s.heap.get? b=some o->h'.get? b=some o)->R (.ok (.ret v)) { s with heap:=h',toks:=M }) ->
  codeAny (model prog w) A (.builtin "min.loop" ⟨[.ref I,.none,.ref S],kw⟩) R s:=by
 have H:S ∉ wr:=λh=>G (W.sub _ h)
 have q:(toString "min" ++ toString ".loop" : String) = "min.loop":=by decide
 intro k
 induction k with
 | zero =>
  intro j s r c Z Y C hh t K L
  have J:j+1=n:=by lia
  apply aK9 F.entry_min_loop
  rw[aK3 F.plain_min_loop (⟨[.ref I,.none,.ref S],kw⟩:Args)]
  show wpAny (model prog w) A.in1 (seqItems? (.ref S) >>= _) _ _ s
  apply aJ2;apply wpAny_seqItems K rfl
  show wpAny (model prog w) A.in1 (tryCatch (pyNext (.ref I)) _ >>= _) _ _ s
  apply aJ2;apply wpAny_tryCatch
  refine W.done s _ _ (J ▸ C) (λh' M f=>?_)
  have l:=f S _ H K
  show wpAny (model prog w) A.in1 (updateSeq S (λ_=>#[]) >>= _) _ _ _
  apply aJ2
  refine(wpAny_updateSeq l rfl (aJ2 (wpAny_letGo (aJ3 ?_))))
  exact L r _ M (by rw[← J];exact t) (λb o a d e=>(aK0 _ _ (Ne.symm d)).trans (f b o a e))
 | succ k ih =>
  intro j s r c Z Y C hh t K L
  have z:j+1<n:=by lia
  apply aK9 F.entry_min_loop
  rw[aK3 F.plain_min_loop (⟨[.ref I,.none,.ref S],kw⟩:Args)]
  show wpAny (model prog w) A.in1 (seqItems? (.ref S) >>= _) _ _ s
  apply aJ2;apply wpAny_seqItems K rfl
  show wpAny (model prog w) A.in1 (tryCatch (pyNext (.ref I)) _ >>= _) _ _ s
  apply aJ2;apply wpAny_tryCatch
  refine W.item (j+1) s _ _ z C (λv h' M U u f=>?_)
  have l:=f S _ H K
  have B:Hd h':=hd _ _ hh λb o a _ e=>f b o a e
  show wpAny (model prog w) A.in1 (tryCatch (holding [v,v] (richCompare .Lt v r >>= _)) _ >>= _) _ _ _
  apply aJ2;apply wpAny_tryCatch;apply aJ8;apply aJ2
  refine D (j+1) (argBest bt j) v r _ _ _ B U t ?_
  apply aJ2;apply aJ8;apply aK6
  apply aJ2;apply wpAny_letGo;apply aJ3
  cases hb:bt (j+1) (argBest bt j) with
  | true =>
   simp only[if_true]
   apply aJ2
   refine(wpAny_updateSeq l rfl (aJ2 (wpAny_letGo ?_)))
   rw[q]
   refine aJ3 ⟨plainId_quiet F.plain_min_loop _,?_⟩
   refine ih (j+1) _ v _ (by lia) z (W.frame _ _ _ u λb O o e=>?_) (hd _ _ B λb o a d e=>(aK0 _ _ (Ne.symm d)).trans e) (by simp only[argBest,hb,if_true];exact U) (aK8 _ l rfl) (λN y p x g=>?_)
   ·exact(aK0 _ _ (λh:S=b=>G (h ▸ O))).trans e
   ·exact(L N y p x λb o a d e=>g b o a d ((aK0 _ _ (Ne.symm d)).trans (f b o a e)))
  | false =>
   simp only[Bool.false_eq_true,if_false]
   apply aJ2;apply wpAny_letGo
   rw[q]
   refine aJ3 ⟨plainId_quiet F.plain_min_loop _,?_⟩
   refine ih (j+1) _ r c (by lia) z u B (by simp only[argBest,hb,Bool.false_eq_true,if_false];exact t) l (λN y p x g=>?_)
   exact(L N y p x λb o a d e=>g b o a d (f b o a e))
theorem arf(W:Walks prog w A.in1 I fp wr n P St)(bt:Nat->Nat->Bool)
  (q:∀ i j J K (s:Shared) (Q:Value->Shared->Prop) (E:Value->Shared->Prop),Hd s.heap->P i J->P j K->Q (.bool (bt i j)) s->wpAny (model prog w) A.in1 (richCompare .Lt J K) Q E s)
  (hd:∀ h h':Heap,Hd h->(∀ b o,b ∉ wr->b ≠ S->h.get? b=some o->h'.get? b=some o)->Hd h') (g:S ∉ fp)   (y:St 0 s.heap) (hh:Hd s.heap)
  (L:s.heap.get? S=some { cls:=.type "list",dict:=none,data:=.seq #[] c,slots:=#[] })
  (N:n=0->kw=([("default",.none)]:List (Str × Value))/\∀ h' p,(∀ b o,b ∉ wr->b ≠ S->s.heap.get? b=some o->h'.get? b=some o)->R (.ok (.ret .none)) { s with heap:=h',toks:=p })
  (U:0<n->∀ v h' p,P (argBest bt (n-1)) v->(∀ b o,b ∉ wr->b ≠ S->s.heap.get? b=some o->h'.get? b=some o)->R (.ok (.ret v)) { s with heap:=h',toks:=p }) :
  codeAny (model prog w) A (.builtin "min.loop" ⟨[.ref I,.none,.ref S],kw⟩) R s:=by
 have C:S ∉ wr:=λh=>g (W.sub _ h)
 have l:(toString "min" ++ toString ".loop" : String) = "min.loop":=by decide
 apply aK9 F.entry_min_loop
 rw[aK3 F.plain_min_loop (⟨[.ref I,.none,.ref S],kw⟩:Args)]
 show wpAny (model prog w) A.in1 (seqItems? (.ref S) >>= _) _ _ s
 apply aJ2;apply wpAny_seqItems L rfl
 show wpAny (model prog w) A.in1 (tryCatch (pyNext (.ref I)) _ >>= _) _ _ s
 apply aJ2;apply wpAny_tryCatch
 by_cases hn:0<n
 ·refine W.item 0 s _ _ hn y (λv h' p T u d=>?_)
  have t:=d S _ C L
  have G:Hd h':=hd _ _ hh λb o a _ e=>d b o a e
  show wpAny (model prog w) A.in1 (updateSeq S (λ_=>#[v,v]) >>= _) _ _ _
  apply aJ2
  refine(wpAny_updateSeq t rfl ?_)
  rw[l]
  refine aJ3 ⟨plainId_quiet F.plain_min_loop _,?_⟩
  refine as7 (Hd:=Hd) W bt q hd g _ 0 _ v _ rfl hn (W.frame _ _ _ u λb D o e=>?_) (hd _ _ G λb o a f e=>(aK0 _ _ (Ne.symm f)).trans e) T (aK8 _ t rfl) (λO B x z r=>?_)
  ·exact(aK0 _ _ (λh:S=b=>g (h ▸ D))).trans e
  ·exact(U hn O B x z λb o a f e=>r b o a f ((aK0 _ _ (Ne.symm f)).trans (d b o a e)))
 ·have M:n=0:=by lia
  obtain⟨rfl,H⟩:=N M
  refine W.done s _ _ (by rw[M];exact y) (λh' p d=>?_)
  show wpAny (model prog w) A.in1 (rule _ >>= _) _ _ _
  refine aJ2 (wpAny_rule (aJ3 ?_))
  exact H h' p λb o a _ e=>d b o a e
end
section
variable{prog:Program}{w:World}{A:Around}{E:Value->Shared->Prop}{s:Shared}
theorem ayg{id:String}{b:Builtin}{args:List Value}{a:List (Str × Value)}{Q:Value->Shared->Prop}(d:builtinKind id=none)(g:plainId id=true)(hb:entryFor table id=some b)(ha:argsOk id ⟨args,a⟩)
  (c:wpAny (model prog w) A.in1 (b ⟨args,a⟩) (λfin s'=>match fin with
   | .done f=>(match (Except.ok f:Result) with | .ok (.ret v)=>Q v s' | .ok _=>False | .error e=>E e s') | .again c'=>c'.quiet=true/\codeAny (model prog w) A c' (λr s'=>match r with | .ok (.ret v)=>Q v s' | .ok _=>False | .error e=>E e s') s') E s) :
  wpAny (model prog w) A (call (.builtin id) args a) Q E s:=by
 apply wpAny_call;apply codeAny_call_builtin g hb
 simp only[checkBuiltinCall,d]
 cases hsig:Manifest.signature? id with
 |none=>exact aJ3 c
 | some sig =>
  have h:Bind.checkArgs id sig ⟨args,a⟩=pure ():=by simp only[argsOk,hsig] at ha;exact ha
  simp only[h]
  exact aJ3 c
theorem as8(a:Value):argsOk "min" ⟨[a],[("default",.none)]⟩:=by unfold argsOk;kernel_rfl
theorem as9(a:Value):argsOk "min" ⟨[a],[]⟩:=by unfold argsOk;kernel_rfl
def btD(ds:List PyData)(i j:Nat):Bool:=ltv (ds.getD i .none) (ds.getD j .none)
theorem min_dft(u:x=[]\/x=([("default",.none)]:List (Str × Value)))(hh:A.handled=none)(y:s.heap.IsList l us.toArray)(hr:∀(i:Nat) v,us[i]?=some v->∃ d as,ds[i]?=some d/\Reads s.heap v d as)
  (Z:∀ d∈ds,∀ e∈ds,cmpD d e=true) (G:∀ d∈ds,aap d=true) (Y:∀ d∈ds,A.in1.units+d.depth<cLine)
  (C:us=[]->x=([("default",.none)]:List (Str × Value))/\∀ h' n,(∀ b o,s.heap.get? b=some o->h'.get? b=some o)->Q .none { s with heap:=h',toks:=n })
  (N:∀ v h' n,us[argBest (btD ds) (us.length-1)]?=some v->(∀ b o,s.heap.get? b=some o->h'.get? b=some o)->Q v { s with heap:=h',toks:=n }) :
  wpAny (model prog w) A (call (.builtin "min") [.ref l] x) Q E s:=by
 have q:l<s.heap.objs.size:=by obtain⟨_,e,_⟩:=y;exact aJ5 e
 have f:(toString "min" ++ toString ".loop" : String) = "min.loop":=by decide
 refine ayg F.kind_min F.plain_min F.entry_min (by rcases u with rfl|rfl;exact as9 _;exact as8 _) ?_
 have g:codeAny (model prog w) A (.builtin "min.loop" ⟨[.ref s.heap.objs.size,.none,.ref (s.heap.push { cls:=.type "list_iterator",data:=.fields #[.ref l,.int 0 0] }).objs.size],x⟩) (λr s'=>match r with | .ok (.ret v)=>Q v s' | .ok _=>False | .error e=>E e s') { s with heap:=(s.heap.push { cls:=.type "list_iterator",data:=.fields #[.ref l,.int 0 0] }).push { cls:=.type "list",dict:=none,data:=.seq #[] 0,slots:=#[] } }:=by
  have W:=Walks.list (prog:=prog) (w:=w) (A:=A.in1) hh s.heap.objs.size l (aB6 q) us.toArray
  have a:s.heap.objs.size<(s.heap.push { cls:=.type "list_iterator",data:=.fields #[.ref l,.int 0 0] }).objs.size:=by rw[aK4];exact aI7 _
  refine arf (Hd:=λh=>∀ b o,s.heap.get? b=some o->h.get? b=some o) W (btD ds) (c:=0) ?_ ?_ ?_ ?_ ?_ ?_ ?_ ?_
  ·intro i j H J s' O E' z hi T X
   obtain⟨D,R,I,S⟩:=hr i H (by simpa using hi)
   obtain⟨L,aj,K,P⟩:=hr j J (by simpa using T)
   have B:=aA2 I
   have M:=aA2 K
   refine ai3 D L A.in1 s' H J R aj (PyProof.Rows.Reads.keeps z S) (PyProof.Rows.Reads.keeps z P) (Z _ B _ M) (G _ B) (G _ M) (Y _ B) prog w E' O ?_
   have:btD ds i j=ltv D L:=by simp[btD,List.getD,I,K]
   rw[← this];exact X
  ·intro h h' z t b o e
   have hb:=aJ5 e
   refine t b o (λhm=>?_) (λhm=>?_) (z b o e)
   ·have:b=s.heap.objs.size:=by simpa using hm
    rw[this] at hb;exact aG4 _ hb
   ·rw[hm] at hb;exact aG4 _ (Nat.lt_trans a hb)
  ·intro hm
   rcases aA9.mp hm with e|hm
   ·exact aG4 _ (e ▸ a)
   ·have e:=aC2.mp hm
    exact aG4 _ (Nat.lt_trans q (e ▸ a))
  ·exact⟨⟨_,aJ4 _ (aJ6 _ rfl),rfl,rfl⟩,(y.push _).push _⟩
  ·exact λb o e=>aJ4 _ (aJ4 _ e)
  ·exact aJ6 _ rfl
  ·intro hn
   have p:us=[]:=by
    have:us.length=0:=by simpa using hn
    exact aJ1.mp this
   refine⟨(C p).1,λh' n t=>(C p).2 h' n λb o e=>?_⟩
   have hb:=aJ5 e
   refine t b o (λhm=>?_) (λhm=>?_) (aJ4 _ (aJ4 _ e))
   ·have:b=s.heap.objs.size:=by simpa using hm
    rw[this] at hb;exact aG4 _ hb
   ·rw[hm] at hb;exact aG4 _ (Nat.lt_trans a hb)
  ·intro hn v h' n U t
   refine N v h' n (by simpa using U) λb o e=>?_
   have hb:=aJ5 e
   refine t b o (λhm=>?_) (λhm=>?_) (aJ4 _ (aJ4 _ e))
   ·have:b=s.heap.objs.size:=by simpa using hm
    rw[this] at hb;exact aG4 _ hb
   ·rw[hm] at hb;exact aG4 _ (Nat.lt_trans a hb)
 rcases u with rfl|rfl
 ·show wpAny _ A.in1 (Builtin.Builtins.bindParams "min" ["key","default"] 0 ⟨[],[]⟩ >>= _) _ _ s
  refine aJ2 (wpAny_of_eq (show Builtin.Builtins.bindParams "min" ["key","default"] 0 ⟨[],[]⟩=pure [none,none] from rfl) ?_)
  apply aJ2;apply aJ3
  apply aJ2
  refine aK7 y ?_
  refine(aJ2 (aK2 ?_))
  rw[f]
  exact aJ3 ⟨plainId_quiet F.plain_min_loop _,g⟩
 ·show wpAny _ A.in1 (Builtin.Builtins.bindParams "min" ["key","default"] 0 ⟨[],[("default",.none)]⟩ >>= _) _ _ s
  refine aJ2 (wpAny_of_eq (show Builtin.Builtins.bindParams "min" ["key","default"] 0 ⟨[],[("default",.none)]⟩=pure [none,some .none] from rfl) ?_)
  apply aJ2;apply aJ3
  apply aJ2
  refine aK7 y ?_
  refine(aJ2 (aK2 ?_))
  rw[f]
  exact aJ3 ⟨plainId_quiet F.plain_min_loop _,g⟩
end
end HT
namespace L2
open PySem PySem.Spec PyProof.Rows
def arh(K:Frag):List V->Hp->VK->Prop:=λxs H Q=>∃(a:Addr)(vs:List V)(ds:List PyData),xs=[.ref a]/\SqL K H a vs/\vs.length=ds.length/\(∀(i:Nat) v d,vs[i]?=some v->ds[i]?=some d->Rep H v d)/\(∀ d∈ds,∀ e∈ds,cmpD d e=true)/\(∀ d∈ds,aap d=true/\d.depth<=60) /\
 (vs=[]->Q .non H)/\∀ v,vs[argBest (HT.btD ds) (vs.length-1)]?=some v->Q v H
section
variable{X:Cx}{x:Str}{p pos kpos:Pos}{e en:Expr}{t:TA}
theorem ayh(hu:X.A.units+64<cLine)(W:X.calm=true)(O:Gl X "min")(hm:X.mg "min" = none)(ha:PA X [e] t)(q:PE X en (tC .non))
  (c:bootBuiltins "min" = some (.builtin "min"):=by decide +kernel)
  (L:backTo pos (starEach [e] X.env)=(false,eval e X.env)::backTo pos (starEach [] X.env):=by rfl)
  (x:(backTo pos (starEach [e] X.env)).any (·.1)=false:=by rfl) :
  PE X (.Call (.Name "min" p) [e] [⟨some "default",en,kpos⟩] pos) (tCB (arh X.K) t):=by
 intro pins s σ H Q I h
 refine wpAny_Call_Name_kw (adm I O hm c ?_ (by decide) (by decide))
 refine PyProof.Rows.callWith_kw (thn (ha pos pins s σ H _ I h) λus s1 ⟨vs,E,S,M,F⟩=>?_) L x
 refine thn (axy (nm:=some "default") (kpos:=kpos) q a0w pos pins s1 σ E (λB H2=>B=[.non]/\H2=E) S ⟨rfl,rfl⟩) λws s2 ⟨B,H2,o,N,P,G⟩=>?_
 subst P G
 obtain⟨a,xs,ds,rfl,Y,D,l,j,b,z,w⟩:=F
 obtain⟨u,rfl,T⟩:=adi M
 cases T
 obtain⟨u2,rfl,y⟩:=adi N
 cases y
 show wpAny _ X.A (call (.builtin "min") [.ref a] [("default",.none)]) _ _ s2
 obtain⟨its,r,R,_⟩:=o.list Y
 have f:its.length=xs.length:=r.length.symm
 refine HT.min_dft (.inr rfl) (us:=its) (ds:=ds) (o.ok.hd W) (by simpa using R.isList) (λi v c=>?_) j (λd hd=>(b d hd).1) (λd hd=>?_) (λZ=>⟨rfl,λh' U kp=>?_⟩) λv h' U c kp=>?_
 ·have hi:i<xs.length:=by rw[← f];exact(aA1.mp c).1
  have ex:xs[i]?=some xs[i]:=aA0 hi
  have C:ds[i]?=some (ds[i]'(by lia)):=aA0 (by lia)
  obtain⟨u,n,g⟩:=r.get ex
  rw[c] at n
  cases n
  obtain⟨as,J⟩:=(l i _ _ ex C).reads o g
  exact⟨_,as,C,J⟩
 ·have:=(b d hd).2
  show X.A.units+1+d.depth<cLine
  lia
 ·exact⟨.non,H2,o.kept kp,rfl,z (by have:=congrArg List.length Z;exact aJ1.mp (by rw[← f];simpa using this))⟩
 ·rw[f] at c
  have hi:argBest (HT.btD ds) (xs.length-1)<xs.length:=by have:=(aA1.mp c).1;lia
  have ex:xs[argBest (HT.btD ds) (xs.length-1)]?=some xs[argBest (HT.btD ds) (xs.length-1)]:=aA0 hi
  obtain⟨u,n,g⟩:=r.get ex
  rw[c] at n
  cases n
  exact⟨_,H2,o.kept kp,g,w _ ex⟩
end
end L2
namespace HT
open PySem PySem.Spec PyProof.Rows
section
variable{prog:Program}{w:World}{A:Around}{E:Value->Shared->Prop}{s:Shared}
end
end HT
namespace L2
open PySem PySem.Spec PyProof.Rows
section
variable{X:Cx}
end
end L2
namespace VL
open PySem PySem.Spec L2
def kD:Key->PyData
 | .inl i=>.int i
 | .inr x=>.str x
mutual
inductive Rp(G:Hp):V->PyData->Prop
 |non:Rp G .non .none
 |bl (b:Bool):Rp G (.bl b) (.bool b)
 |int (i:Int):Rp G (.int i) (.int i)
 |str (x:Str):Rp G (.str x) (.str x)
 |lst {a:Addr} {xs:List V} {ds:List PyData}:G a=some (.lst xs)->Rps G xs ds->Rp G (.ref a) (.list ds)
 |tup {a:Addr} {xs:List V} {ds:List PyData}:G a=some (.tup xs)->Rps G xs ds->Rp G (.ref a) (.tuple ds)
 |dk {a:Addr} {kvs:List (Key × V)} {es:List (Key × PyData)} {ds:List (PyData × PyData)}:G a=some (.dK kvs)->RpK G kvs es->ds=es.map (λp=>(kD p.1,p.2))->Rp G (.ref a) (.dict ds)
 |dt {a:Addr} {kvs:List (List Key × V)} {es:List (List Key × PyData)} {ds:List (PyData × PyData)}:G a=some (.dT kvs)->RpT G kvs es->ds=es.map (λp=>(.tuple (p.1.map kD),p.2))->Rp G (.ref a) (.dict ds)
inductive Rps(G:Hp):List V->List PyData->Prop
 |nil:Rps G [] []
 |cons {v:V} {vs:List V} {d:PyData} {ds:List PyData}:Rp G v d->Rps G vs ds->Rps G (v::vs) (d::ds)
inductive RpK(G:Hp):List (Key × V)->List (Key × PyData)->Prop
 |nil:RpK G [] []
 |cons {k:Key} {v:V} {d:PyData} {r:List (Key × V)} {s:List (Key × PyData)}:Rp G v d->RpK G r s->RpK G ((k,v)::r) ((k,d)::s)
inductive RpT(G:Hp):List (List Key × V)->List (List Key × PyData)->Prop
 |nil:RpT G [] []
 |cons {k:List Key} {v:V} {d:PyData} {r:List (List Key × V)} {s:List (List Key × PyData)}:Rp G v d->RpT G r s->RpT G ((k,v)::r) ((k,d)::s)
end
mutual
theorem Rp.same(s:Same G G'):∀{v:V}{d:PyData},Rp G v d->Rp G' v d
 |_,_,.non=>.non
 |_,_,.bl b=>.bl b
 |_,_,.int i=>.int i
 |_,_,.str x=>.str x
 |_,_,.lst h r=>.lst (s _ _ h) (Rps.same s r)
 |_,_,.tup h r=>.tup (s _ _ h) (Rps.same s r)
 |_,_,.dk h r e=>.dk (s _ _ h) (RpK.same s r) e
 |_,_,.dt h r e=>.dt (s _ _ h) (RpT.same s r) e
theorem Rps.same(s:Same G G'):∀{vs:List V}{ds:List PyData},Rps G vs ds->Rps G' vs ds
 |_,_,.nil=>.nil
 |_,_,.cons r t=>.cons (Rp.same s r) (Rps.same s t)
theorem RpK.same(s:Same G G'):∀{vs:List (Key × V)}{ds:List (Key × PyData)},RpK G vs ds->RpK G' vs ds
 |_,_,.nil=>.nil
 |_,_,.cons r t=>.cons (Rp.same s r) (RpK.same s t)
theorem RpT.same(s:Same G G'):∀{vs:List (List Key × V)}{ds:List (List Key × PyData)},RpT G vs ds->RpT G' vs ds
 |_,_,.nil=>.nil
 |_,_,.cons r t=>.cons (Rp.same s r) (RpT.same s t)
end
theorem Rps.length:∀{vs:List V}{ds:List PyData},Rps G vs ds->vs.length=ds.length
 |_,_,.nil=>rfl
 |_,_,.cons _ t=>by simp[Rps.length t]
theorem Rps.get:∀{vs:List V}{ds:List PyData}{i:Nat}{d:PyData},Rps G vs ds->ds[i]?=some d->∃ v,vs[i]?=some v/\Rp G v d
 |_,_,_,_,.nil,e=>by simp at e
 |_,_,0,_,.cons r _,e=>by simp at e;subst e;exact⟨_,rfl,r⟩
 | _,_,i+1,d,.cons _ t,e=>by
  obtain⟨u,a,b⟩:=Rps.get (i:=i) (d:=d) t (by simpa using e)
  exact⟨u,by simpa using a,b⟩
theorem Rps.append:∀{vs ws:List V}{ds es:List PyData},Rps G vs ds->Rps G ws es->Rps G (vs++ws) (ds++es)
 |_,_,_,_,.nil,s=>s
 |_,_,_,_,.cons r t,s=>.cons r (Rps.append t s)
theorem Rps.set(h:Rp G v d):∀{vs:List V}{ds:List PyData}(i:Nat),Rps G vs ds->Rps G (vs.set i v) (ds.set i d)
 |_,_,_,.nil=>.nil
 |_,_,0,.cons _ t=>.cons h t
 |_,_,i+1,.cons r t=>.cons r (Rps.set h i t)
theorem Rps.erase:∀{vs:List V}{ds:List PyData}(i:Nat),Rps G vs ds->Rps G (vs.eraseIdx i) (ds.eraseIdx i)
 |_,_,_,.nil=>.nil
 |_,_,0,.cons _ t=>t
 |_,_,i+1,.cons r t=>.cons r (Rps.erase i t)
theorem Rps.take:∀{vs:List V}{ds:List PyData}(i:Nat),Rps G vs ds->Rps G (vs.take i) (ds.take i)
 |_,_,0,_=>.nil
 |_,_,_+1,.nil=>.nil
 |_,_,i+1,.cons r t=>.cons r (Rps.take i t)
theorem Rps.rep(h:Rps G vs ds):∀(k:Nat),Rps G (List.replicate k vs).flatten (List.replicate k ds).flatten
 |0=>.nil
 | k+1=>by
  rw[aH3,aH3,List.flatten_cons,List.flatten_cons]
  exact h.append (Rps.rep h k)
theorem Rps.ints:∀(ns:List Int),Rps G (ns.map V.int) (ns.map PyData.int)
 |[]=>.nil
 |n::ns=>.cons (.int n) (Rps.ints ns)
theorem Rps.ints_inv:∀{ns:List Int}{vs:List V},Rps G vs (ns.map PyData.int)->vs=ns.map V.int
 |[],_,.nil=>rfl
 | n::ns,_,.cons r t=>by
  cases r
  rw[Rps.ints_inv t];rfl
mutual
theorem Rp.rep:∀{v:V}{d:PyData},Rp G v d->aap d=true->Rep G v d
 |_,_,.non,_=>.non
 |_,_,.bl b,_=>.bl b
 |_,_,.int i,_=>.int i
 |_,_,.str x,_=>.str x
 |_,_,.lst h r,p=>.lst h (Rps.reps r (by simpa[aap] using p))
 |_,_,.tup h r,p=>.tup h (Rps.reps r (by simpa[aap] using p))
 |_,_,.dk h r e,p=>by simp[aap] at p
 |_,_,.dt h r e,p=>by simp[aap] at p
theorem Rps.reps:∀{vs:List V}{ds:List PyData},Rps G vs ds->plainDs ds=true->Reps G vs ds
 |_,_,.nil,_=>.nil
 | _,_,.cons r t,p=>by
  simp only[plainDs,aH1] at p
  exact .cons (Rp.rep r p.1) (Rps.reps t p.2)
end
structure Own where
 P:Hp->Hp->V->(Addr->Prop)->Prop
 mono:∀{G H G' H':Hp}{v:V}{F:Addr->Prop},P G H v F->Same G G'->(∀ a o,F a->H a=some o->H' a=some o)->P G' H' v F
 dom:∀{G H:Hp}{v:V}{F:Addr->Prop},P G H v F->∀ a,F a->∃ o,H a=some o
inductive Sl where
 |st (d:PyData)|own (A:Own)|io (A:Own)|scr (ns:List Int)
abbrev En:=List (Option Sl)
structure Bs where
 K:Frag
 G:Hp
 H:Hp
 R:Hp
 S:St
 F:Nat->Addr->Prop
def SlOk(B:Bs)(G H:Hp)(i:Nat)(v:V)(F:Addr->Prop):Sl->Prop
 | .st d=>Rp G v d/\∀ a,¬ F a
 | .own A=>A.P G H v F/\∀ a,F a->B.H a=none
 | .io A=>A.P G H v F/\(∀ a,F a->B.F i a\/B.H a=none)/\B.S[i]?=some (some v)
 | .scr ns=>(∃ a,v=.ref a/\SqL B.K G a (ns.map V.int))/\∀ a,¬ F a
def FT(G H:Hp):Prop:=∀(a:Addr)(ks:List Key),H a=some (.tup (ks.map kV))->G a=some (.tup (ks.map kV))
structure VI(B:Bs)(G H:Hp)(σ:St)(env:En)(F:Nat->Addr->Prop):Prop where
 gh:Same G H
 g0:Same B.G G
 gn:∀ a o,G a=some o->B.G a=some o\/B.H a=none
 rs:Same B.R H
 rb:Same B.R B.H
 bh:∀ a o,B.H a=some o->∃ o',H a=some o'
 fg:∀ i a,F i a->G a=none
 fr:∀ i a,F i a->B.R a=none
 fd:∀ i j a,F i a->F j a->i=j
 fo:∀ i a,F i a->∃ o,H a=some o
 sl:∀ i s,env[i]?=some (some s)->∃ v,σ[i]?=some (some v)/\SlOk B G H i v (F i) s
 ln : σ.length=env.length
 ft:FT G H
def RsOk(G H:Hp)(v:V)(F:Addr->Prop):Sl->Prop
 | .st d=>Rp G v d/\∀ a,¬ F a
 | .own A=>A.P G H v F
 |_=>False
structure RsX(B:Bs)(G H:Hp)(v:V)(Fv:Addr->Prop)(s:Sl)(F:Nat->Addr->Prop):Prop where
 ok:RsOk G H v Fv s
 fb:∀ a,Fv a->B.H a=none
 fg:∀ a,Fv a->G a=none
 fo:∀ a,Fv a->∃ o,H a=some o
 fd:∀ j a,Fv a->¬ F j a
structure Out(G H:Hp)(v:V)(G' H':Hp)(s:Sl)(Fv:Addr->Prop):Prop where
 gg:Same G G'
 gh:Same G' H'
 hh:Same H H'
 gn:∀ a o,G' a=some o->G a=some o\/H a=none
 fn:∀ a,Fv a->H a=none
 fg:∀ a,Fv a->G' a=none
 fo:∀ a,Fv a->∃ o,H' a=some o
 ok:RsOk G' H' v Fv s
 ft:FT G H->FT G' H'
theorem ari{α:Type}{o:Option α}(h:o ≠ none):∃ x,o=some x:=by
 cases o with
 |none=>exact absurd rfl h
 |some x=>exact⟨x,rfl⟩
theorem SlOk.mono(h:SlOk B G H i v F s)(g:Same G G')(hh:∀ a o,F a->H a=some o->H' a=some o):SlOk B G' H' i v F s:=by
 cases s with
 |st d=>exact⟨h.1.same g,h.2⟩
 |own A=>exact⟨A.mono h.1 g hh,h.2⟩
 |io A=>exact⟨A.mono h.1 g hh,h.2⟩
 | scr ns =>
  obtain⟨⟨a,e,q⟩,n⟩:=h
  exact⟨⟨a,e,g.seq q⟩,n⟩
section
variable{B:Bs}{G H G' H':Hp}{σ:St}{env:En}{F:Nat->Addr->Prop}{v:V}{s:Sl}{Fv:Addr->Prop}
theorem VI.no_r(I:VI B G H σ env F)(h:H a=none):B.R a=none:=by
 cases e:B.R a with
 |none=>rfl
 |some o=>rw[I.rs a o e] at h;cases h
theorem VI.no_b(I:VI B G H σ env F)(h:H a=none):B.H a=none:=by
 cases e:B.H a with
 |none=>rfl
 |some o=>obtain⟨o',b⟩:=I.bh a o e;rw[b] at h;cases h
theorem VI.no_g(I:VI B G H σ env F)(h:H a=none):G a=none:=by
 cases e:G a with
 |none=>rfl
 |some o=>rw[I.gh a o e] at h;cases h
theorem VI.no_f(I:VI B G H σ env F)(h:H a=none)(i:Nat):¬ F i a:=λz=>by
 obtain⟨o,e⟩:=I.fo i a z;rw[e] at h;cases h
theorem VI.grow(I:VI B G H σ env F)(gg:Same G G')(gh:Same G' H')(hh:Same H H')(gn:∀ a o,G' a=some o->G a=some o\/H a=none)(ft:FT G' H'):VI B G' H' σ env F where
 gh:=gh
 g0:=I.g0.trans gg
 gn:=λa o e=>by
  rcases gn a o e with e|e
  ·exact I.gn a o e
  ·exact .inr (I.no_b e)
 rs:=I.rs.trans hh
 rb:=I.rb
 bh:=λa o e=>by obtain⟨o',b⟩:=I.bh a o e;exact⟨o',hh _ _ b⟩
 fg:=λi a z=>by
  cases e:G' a with
  |none=>rfl
  | some o =>
   rcases gn a o e with e|e
   ·rw[I.fg i a z] at e;cases e
   ·exact absurd z (I.no_f e i)
 fr:=I.fr
 fd:=I.fd
 fo:=λi a z=>by obtain⟨o,e⟩:=I.fo i a z;exact⟨o,hh _ _ e⟩
 sl:=λi s e=>by
  obtain⟨v,c,d⟩:=I.sl i s e
  exact⟨v,c,d.mono gg λa o _ q=>hh _ _ q⟩
 ln:=I.ln
 ft:=ft
theorem VI.out(I:VI B G H σ env F)(o:Out G H v G' H' s Fv):VI B G' H' σ env F/\RsX B G' H' v Fv s F :=
 ⟨I.grow o.gg o.gh o.hh o.gn (o.ft I.ft),o.ok,λa z=>I.no_b (o.fn a z),o.fg,o.fo,λj a z y=>I.no_f (o.fn a z) j y⟩
theorem VI.b_r(I:VI B G H σ env F)(h:B.H a=none):B.R a=none:=by
 cases e:B.R a with
 |none=>rfl
 |some o=>rw[I.rb a o e] at h;cases h
def putF(F:Nat->Addr->Prop)(i:Nat)(Fv:Addr->Prop):Nat->Addr->Prop:=λj a=>if j=i then Fv a else F j a
theorem putF_same:putF F i Fv i a ↔ Fv a:=by unfold putF;rw[aF5 rfl]
theorem afz:putF F i Fv i=Fv:=by funext a;unfold putF;rw[aF5 rfl]
theorem abb(h:j ≠ i):putF F i Fv j=F j:=by funext a;unfold putF;rw[aF6 h]
theorem VI.slot(I:VI B G H σ env F)(i:Nat)(o:Option V)(os:Option Sl)(fg:∀ a,Fv a->G a=none)(fr:∀ a,Fv a->B.R a=none)(fo:∀ a,Fv a->∃ o,H a=some o)(fd:∀ j a,j ≠ i->Fv a->¬ F j a)
  (ok:∀ s,os=some s->∃ v,o=some v/\SlOk B G H i v Fv s):VI B G H (σ.set i o) (env.set i os) (putF F i Fv) where
 gh:=I.gh
 g0:=I.g0
 gn:=I.gn
 rs:=I.rs
 rb:=I.rb
 bh:=I.bh
 fg:=λj a z=>by
  by_cases h:j=i
  ·subst h;exact fg a (putF_same.mp z)
  ·rw[abb h] at z;exact I.fg j a z
 fr:=λj a z=>by
  by_cases h:j=i
  ·subst h;exact fr a (putF_same.mp z)
  ·rw[abb h] at z;exact I.fr j a z
 fd:=λj k a y z=>by
  by_cases h:j=i
  ·by_cases g:k=i
   ·rw[h,g]
   ·subst h;rw[abb g] at z;exact absurd z (fd k a g (putF_same.mp y))
  ·by_cases g:k=i
   ·subst g;rw[abb h] at y;exact absurd y (fd j a h (putF_same.mp z))
   ·rw[abb h] at y;rw[abb g] at z;exact I.fd j k a y z
 fo:=λj a z=>by
  by_cases h:j=i
  ·subst h;exact fo a (putF_same.mp z)
  ·rw[abb h] at z;exact I.fo j a z
 sl:=λj t e=>by
  by_cases h:j=i
  ·subst h
   rw[aD2,aF5 rfl] at e
   by_cases hl:j<env.length
   ·rw[aF5 hl] at e
    obtain⟨v,b,q⟩:=ok t (aC6 e)
    refine⟨v,by rw[aD2,aF5 rfl,aF5 (by rw[I.ln];exact hl),b],?_⟩
    rw[afz];exact q
   ·rw[aF6 hl] at e;cases e
  ·rw[aD2,aF6 (λz=>h z.symm)] at e
   obtain⟨v,b,q⟩:=I.sl j t e
   refine⟨v,by rw[aD2,aF6 (λz=>h z.symm)];exact b,?_⟩
   rw[abb h];exact q
 ln:=by simp[I.ln]
 ft:=I.ft
theorem VI.store(I:VI B G H σ env F)(r:RsX B G H v Fv s F)(i:Nat):VI B G H (σ.set i (some v)) (env.set i (some s)) (putF F i Fv):=by
 refine I.slot i (some v) (some s) r.fg (λa z=>I.b_r (r.fb a z)) r.fo (λj a _ z=>r.fd j a z) λt e=>?_
 cases e
 refine⟨v,rfl,?_⟩
 have:=r.ok
 cases s with
 |st d=>exact this
 |own A=>exact⟨this,r.fb⟩
 |io A=>exact this.elim
 |scr ns=>exact this.elim
theorem VI.drop(I:VI B G H σ env F)(i:Nat):VI B G H σ (env.set i none) (putF F i λ_=>False):=by
 have:=I.slot (Fv:=λ_=>False) i ((σ[i]?).getD none) none (λa z=>z.elim) (λa z=>z.elim) (λa z=>z.elim) (λj a _ z=>z.elim) (λs e=>by cases e)
 rwa [show σ.set i ((σ[i]?).getD none) = σ from ?_] at this
 apply aG2
 intro j
 rw[aD2]
 by_cases h:i=j
 ·subst h
  rw[aF5 rfl]
  by_cases hl:i<σ.length
  ·rw[aF5 hl,aA0 hl];rfl
  ·rw[aF6 hl,aF7.mpr (by lia)]
 ·rw[aF6 h]
theorem VI.change{A:Own}(I:VI B G H σ env F)(i:Nat){H2:Hp}{F2:Addr->Prop}{os os':Sl}(e:env[i]?=some (some os))(g : σ[i]?=some (some v))
  (keep:∀ a o,¬ F i a->H a=some o->H2 a=some o) (n:∀ a o,H a=some o->∃ o',H2 a=some o') (c:∀ a,F2 a->(F i a\/H a=none)/\∃ o,H2 a=some o) (p:A.P G H2 v F2) (O:FT G H2)
  (hs:(os'=.own A/\∃ f,os=.own f)\/(os'=.io A/\∃ f,os=.io f)):VI B G H2 σ (env.set i (some os')) (putF F i F2):=by
 obtain⟨R,d,q⟩:=I.sl i os e
 rw[g] at d;cases d
 have l:∀ j a,j ≠ i->F j a->¬ F i a:=λj a b y z=>b (I.fd j i a y z)
 have E:∀ a,F2 a->G a=none:=λa z=>by
  rcases(c a z).1 with y|y
  ·exact I.fg i a y
  ·exact I.no_g y
 have J:VI B G H2 σ (env.set i none) (putF F i λ_=>False):=by
  have D:=I.drop i
  refine⟨λa o x=>keep a o (λz=>by rw[I.fg i a z] at x;cases x) (I.gh a o x),D.g0,D.gn,λa o x=>keep a o (λz=>by rw[I.fr i a z] at x;cases x) (I.rs a o x),D.rb,λa o x=>?_,D.fg,D.fr,D.fd,λj a z=>?_,λj s x=>?_,D.ln,O⟩
  ·obtain⟨o',w⟩:=I.bh a o x
   exact n a o' w
  ·obtain⟨o,x⟩:=D.fo j a z
   exact n a o x
  ·obtain⟨u,C,M⟩:=D.sl j s x
   refine⟨u,C,M.mono (Same.refl G) λa o z y=>?_⟩
   by_cases b:j=i
   ·subst b;exact(putF_same.mp z).elim
   ·rw[abb b] at z
    exact keep a o (l j a b z) y
 have r:=J.slot (Fv:=F2) i (some v) (some os') E (λa z=>by
   rcases(c a z).1 with y|y
   ·exact I.fr i a y
   ·exact I.no_r y) (λa z=>(c a z).2) (λj a b z y=>by
   rw[abb b] at y
   rcases(c a z).1 with x|x
   ·exact l j a b y x
   ·exact I.no_f x j y) λt Q=>by
   cases Q
   refine⟨v,rfl,?_⟩
   rcases hs with ⟨rfl,f,rfl⟩|⟨rfl,f,rfl⟩
   ·refine⟨p,λa z=>?_⟩
    rcases(c a z).1 with y|y
    ·exact q.2 a y
    ·exact I.no_b y
   ·refine⟨p,λa z=>?_,q.2.2⟩
    rcases(c a z).1 with y|y
    ·exact q.2.1 a y
    ·exact .inr (I.no_b y)
 have K : σ.set i (some v) = σ:=by
  apply aG2
  intro j
  rw[aD2]
  by_cases h:i=j
  ·subst h
   rw[aF5 rfl,g,aF5 (aA1.mp g).1]
  ·rw[aF6 h]
 have N:(env.set i none).set i (some os')=env.set i (some os'):=by simp
 have L:putF (putF F i λ_=>False) i F2=putF F i F2:=by
  funext j a
  by_cases h:j=i
  ·subst h;rw[afz,afz]
  ·rw[abb h,abb h,abb h]
 rw[K,N,L] at r
 exact r
end
open Classical in
def jn(G H:Hp)(F:Addr->Prop):Hp:=λa=>if F a then H a else G a
theorem ahq(h:F a):jn G H F a=H a:=aF5 h
theorem al6(h:¬ F a):jn G H F a=G a:=aF6 h
theorem abm(h:∀ a,F a->G a=none):Same G (jn G H F):=λa o e=>by
 rw[al6 (λz=>by rw[h a z] at e;cases e)];exact e
theorem al7(h:Same G H):Same (jn G H F) H:=λa o e=>by
 by_cases z:F a
 ·rw[ahq z] at e;exact e
 ·rw[al6 z] at e;exact h a o e
def Frz(A:Own)(d:PyData):Prop:=∀(G H:Hp)(v:V)(F:Addr->Prop),A.P G H v F->(∀ a,F a->G a=none)->Same G H->Rp (jn G H F) v d
def FQ:Sl->(PyData->Prop)->Prop
 | .st d,R=>R d
 | .own A,R=>∃ d,Frz A d/\R d
 |_,_=>False
def OL(ds:List PyData):Own where
 P:=λG H v F=>∃ a vs,v=.ref a/\H a=some (.lst vs)/\Rps G vs ds/\∀ b,F b ↔ b=a
 mono:=λ⟨a,vs,e,h,r,f⟩ g hh=>⟨a,vs,e,hh a _ ((f a).mpr rfl) h,r.same g,f⟩
 dom:=λ⟨a,vs,e,h,r,f⟩ b z=>by rw[(f b).mp z];exact⟨_,h⟩
def OD(es:List (Key × PyData)):Own where
 P:=λG H v F=>∃ a kvs,v=.ref a/\H a=some (.dK kvs)/\RpK G kvs es/\∀ b,F b ↔ b=a
 mono:=λ⟨a,vs,e,h,r,f⟩ g hh=>⟨a,vs,e,hh a _ ((f a).mpr rfl) h,r.same g,f⟩
 dom:=λ⟨a,vs,e,h,r,f⟩ b z=>by rw[(f b).mp z];exact⟨_,h⟩
theorem abf:Frz (OL ds) (.list ds):=λG H v F ⟨a,vs,e,h,r,f⟩ n g=>by
 subst e
 exact .lst (by rw[ahq ((f a).mpr rfl)];exact h) (r.same (abm n))
theorem agb(h:R d):FQ (.st d) R:=h
theorem afi(h:R (.list ds)):FQ (.own (OL ds)) R:=⟨_,abf,h⟩
section
variable{B:Bs}{G H G' H':Hp}{σ:St}{env:En}{F:Nat->Addr->Prop}{v:V}{s:Sl}{Fv:Addr->Prop}
theorem VI.freeze(I:VI B G H σ env F)(fb:∀ a,Fv a->B.H a=none)(fd:∀ j a,Fv a->¬ F j a)(fg:∀ a,Fv a->G a=none):VI B (jn G H Fv) H σ env F where
 gh:=al7 I.gh
 g0:=I.g0.trans (abm fg)
 gn:=λa o e=>by
  by_cases z:Fv a
  ·exact .inr (fb a z)
  ·rw[al6 z] at e;exact I.gn a o e
 rs:=I.rs
 rb:=I.rb
 bh:=I.bh
 fg:=λi a z=>by
  rw[al6 (λy=>fd i a y z)];exact I.fg i a z
 fr:=I.fr
 fd:=I.fd
 fo:=I.fo
 sl:=λi s e=>by
  obtain⟨v,b,c⟩:=I.sl i s e
  exact⟨v,b,c.mono (abm fg) λa o _ q=>q⟩
 ln:=I.ln
 ft:=λa ks e=>abm fg _ _ (I.ft a ks e)
theorem VI.frz{A:Own}{d:PyData}{i:Nat}(I:VI B G H σ env F)(e:env[i]?=some (some (.own A)))(f:Frz A d) :
  ∃ v,σ[i]?=some (some v)/\Rp (jn G H (F i)) v d/\Same G (jn G H (F i))/\VI B (jn G H (F i)) H σ (env.set i (some (.st d))) (putF F i λ_=>False):=by
 obtain⟨v,b,q⟩:=I.sl i _ e
 have hr:=f G H v (F i) q.1 (I.fg i) I.gh
 refine⟨v,b,hr,abm (I.fg i),?_⟩
 have D:=(I.drop i).freeze (Fv:=F i) q.2 (λj a z y=>by
  by_cases h:j=i
  ·subst h;exact(putF_same.mp y).elim
  ·rw[abb h] at y;exact h (I.fd j i a y z)) (I.fg i)
 have J:=D.slot (Fv:=λ_=>False) i (some v) (some (.st d)) (λa z=>z.elim) (λa z=>z.elim) (λa z=>z.elim) (λj a _ z=>z.elim) (λt l=>by cases l;exact⟨v,rfl,hr,λa z=>z⟩)
 have c : σ.set i (some v) = σ:=by
  apply aG2
  intro j
  rw[aD2]
  by_cases h:i=j
  ·subst h
   rw[aF5 rfl,b,aF5 (aA1.mp b).1]
  ·rw[aF6 h]
 have g:putF (putF F i λ_=>False) i (λ_=>False)=putF F i λ_=>False:=by
  funext j a
  by_cases h:j=i
  ·subst h;rw[afz,afz]
  ·rw[abb h,abb h]
 rw[c,g,List.set_set] at J
 exact J
theorem Out.refl(g:Same G H)(r:Rp G v d):Out G H v G H (.st d) (λ_=>False):=⟨Same.refl _,g,Same.refl _,λa o e=>.inl e,λa z=>z.elim,λa z=>z.elim,λa z=>z.elim,⟨r,λa z=>z⟩,λt=>t⟩
theorem ayi(g:Same G H)(h:H p=none):Same (upd G p o) (upd H p o):=λa u e=>by
 by_cases z:a=p
 ·subst z;rw[aam] at e ⊢;exact e
 ·rw[aah z] at e ⊢;exact g a u e
theorem acu(g:Same G H)(h:H p=none):G p=none:=by
 cases e:G p with
 |none=>rfl
 |some o=>rw[g p o e] at h;cases h
theorem Out.newT{p:Addr}{xs:List V}{ds:List PyData}(g:Same G H)(h:H p=none)(r:Rps G xs ds):Out G H (.ref p) (upd G p (.tup xs)) (upd H p (.tup xs)) (.st (.tuple ds)) (λ_=>False) where
 gg:=ab6 (acu g h)
 gh:=ayi g h
 hh:=ab6 h
 gn:=λa o e=>by
  by_cases z:a=p
  ·subst z;exact .inr h
  ·rw[aah z] at e;exact .inl e
 fn:=λa z=>z.elim
 fg:=λa z=>z.elim
 fo:=λa z=>z.elim
 ok:=⟨.tup aam (r.same (ab6 (acu g h))),λa z=>z⟩
 ft:=λt a ks e=>by
  by_cases z:a=p
  ·subst z;rw[aam] at e ⊢;exact e
  ·rw[aah z] at e ⊢;exact t a ks e
theorem Out.newO{p:Addr}{o:HO}{A:Own}(g:Same G H)(h:H p=none)(b:∀ xs,o ≠ .tup xs)(r:A.P G (upd H p o) (.ref p) (· = p)):Out G H (.ref p) G (upd H p o) (.own A) (· = p) where
 gg:=Same.refl _
 gh:=g.trans (ab6 h)
 hh:=ab6 h
 gn:=λa o e=>.inl e
 fn:=λa z=>by rw[z];exact h
 fg:=λa z=>by rw[z];exact acu g h
 fo:=λa z=>by rw[z];exact⟨_,aam⟩
 ok:=r
 ft:=λt a ks e=>by
  by_cases z:a=p
  ·subst z;rw[aam] at e;exact absurd (aC6 e) (b _)
  ·rw[aah z] at e;exact t a ks e
theorem Out.newL(g:Same G H)(h:H p=none)(r:Rps G xs ds):Out G H (.ref p) G (upd H p (.lst xs)) (.own (OL ds)) (· = p) :=
 .newO g h (λ_ z=>nomatch z) ⟨p,xs,rfl,aam,r,λb=>Iff.rfl⟩
theorem Out.newD(g:Same G H)(h:H p=none)(r:RpK G xs ds):Out G H (.ref p) G (upd H p (.dK xs)) (.own (OD ds)) (· = p) :=
 .newO g h (λ_ z=>nomatch z) ⟨p,xs,rfl,aam,r,λb=>Iff.rfl⟩
end
def EvO(B:Bs)(te:TE)(env:En)(Q':Sl->En->Prop):Prop:=∀(σ:St)(G H:Hp)(F:Nat->Addr->Prop)(Q:VK),VI B G H σ env F ->
 (∀ v G' H' F' Fv s env',VI B G' H' σ env' F'->Same G G'->RsX B G' H' v Fv s F'->Q' s env'->Q v H')->te σ H Q
def Ev(B:Bs)(te:TE)(env:En)(Q':PyData->En->Prop):Prop:=∀(σ:St)(G H:Hp)(F:Nat->Addr->Prop)(Q:VK),VI B G H σ env F ->
 (∀ v G' H' F' d env',VI B G' H' σ env' F'->Same G G'->Rp G' v d->Q' d env'->Q v H')->te σ H Q
def EvT(B:Bs)(tt:TT)(env:En)(Q':Bool->En->Prop):Prop:=∀(σ:St)(G H:Hp)(F:Nat->Addr->Prop)(Q:Bool->Hp->Prop),VI B G H σ env F ->
 (∀ b G' H' F' env',VI B G' H' σ env' F'->Same G G'->Q' b env'->Q b H')->tt σ H Q
def EvA(B:Bs)(ta:TA)(env:En)(Q':List PyData->En->Prop):Prop:=∀(σ:St)(G H:Hp)(F:Nat->Addr->Prop)(Q:List V->Hp->Prop),VI B G H σ env F ->
 (∀ vs G' H' F' ds env',VI B G' H' σ env' F'->Same G G'->Rps G' vs ds->Q' ds env'->Q vs H')->ta σ H Q
structure ItOk(G:Hp)(J:It)(ds:List PyData):Prop where
 go:∀ i G' H',Same G G'->Same G' H'->i<ds.length->J.go i H'
 stop:∀ i G' H',Same G G'->Same G' H'->i=ds.length->J.stop i H'
 yld:∀ i G' H' x H'' d,Same G G'->Same G' H'->FT G' H'->ds[i]?=some d->J.yld i H' x H''->∃ G'',Out G' H' x G'' H'' (.st d) (λ_=>False)
def EvI(B:Bs)(ti:TI)(env:En)(Q':List PyData->En->Prop):Prop:=∀(σ:St)(G H:Hp)(F:Nat->Addr->Prop)(R:It->Hp->Prop),VI B G H σ env F ->
 (∀ J G' H' F' ds env',VI B G' H' σ env' F'->Same G G'->ItOk G' J ds->Q' ds env'->R J H')->ti σ H R
def EvG(B:Bs)(g:TG)(s:Sl)(env:En)(Q':En->Prop):Prop:=∀(σ:St)(G H:Hp)(F:Nat->Addr->Prop)(v:V)(Fv:Addr->Prop)(Q:St->Hp->Prop),VI B G H σ env F->RsX B G H v Fv s F ->
 (∀ σ' G' H' F' env',VI B G' H' σ' env' F'->Same G G'->Q' env'->Q σ' H')->g v σ H Q
def EvGs(B:Bs)(g:TGs)(ds:List PyData)(env:En)(Q':En->Prop):Prop:=∀(σ:St)(G H:Hp)(F:Nat->Addr->Prop)(vs:List V)(Q:St->Hp->Prop),VI B G H σ env F->Rps G vs ds ->
 (∀ σ' G' H' F' env',VI B G' H' σ' env' F'->Same G G'->Q' env'->Q σ' H')->g vs σ H Q
structure VEnds where
 nx:En->Prop
 rt:Sl->En->Prop
 bk:En->Prop:=λ_=>False
 ct:En->Prop:=λ_=>False
structure RelE(B:Bs)(G:Hp)(D:Ends)(D':VEnds):Prop where
 nx:∀ σ G' H F env,VI B G' H σ env F->Same G G'->D'.nx env->D.nx σ H
 rt:∀ σ G' H F env v Fv s,VI B G' H σ env F->Same G G'->RsX B G' H v Fv s F->D'.rt s env->D.rt v H
 bk:∀ σ G' H F env,VI B G' H σ env F->Same G G'->D'.bk env->D.bk σ H
 ct:∀ σ G' H F env,VI B G' H σ env F->Same G G'->D'.ct env->D.ct σ H
def EvS(B:Bs)(ts:TS)(D':VEnds)(env:En):Prop:=∀(σ:St)(G H:Hp)(F:Nat->Addr->Prop)(D:Ends),VI B G H σ env F->RelE B G D D'->ts D σ H
theorem RelE.later(r:RelE B G D D')(g:Same G G'):RelE B G' D D' :=
 ⟨λσ a H F env I q=>r.nx σ a H F env I (g.trans q),λσ a H F env v Fv s I q=>r.rt σ a H F env v Fv s I (g.trans q),λσ a H F env I q=>r.bk σ a H F env I (g.trans q),λσ a H F env I q=>r.ct σ a H F env I (g.trans q)⟩
section
variable{B:Bs}{env:En}{Q':PyData->En->Prop}{QO:Sl->En->Prop}{QT:Bool->En->Prop}{QA:List PyData->En->Prop}{te ta tb:TE}
theorem adp(r:Rp G v d):RsX B G H v (λ_=>False) (.st d) F:=⟨⟨r,λa z=>z⟩,λa z=>z.elim,λa z=>z.elim,λa z=>z.elim,λj a z=>z.elim⟩
theorem aby(h:Ev B te env λd e=>QO (.st d) e):EvO B te env QO:=λσ G H F Q I k =>
 h σ G H F Q I λv G' H' F' d a b g r q=>k v G' H' F' _ (.st d) a b g (adp r) q
theorem acb(h:EvO B te env λs e=>FQ s λd=>Q' d e):Ev B te env Q':=λσ G H F Q I k =>
 h σ G H F Q I λv G' H' F' Fv s a b g r q=>by
  cases s with
  |st d=>exact k v G' H' F' d a b g r.ok.1 q
  | own A =>
   obtain⟨d,f,q⟩:=q
   exact k v _ H' F' d a (b.freeze r.fb r.fd r.fg) (g.trans (abm r.fg)) (f G' H' v Fv r.ok r.fg b.gh) q
  |io A=>exact q.elim
  |scr ns=>exact q.elim
theorem a1h(e:env[i]?=some (some (.st d)))(q:Q' d env):Ev B (tVar i) env Q':=λσ G H F Q I k=>by
 obtain⟨v,a,r⟩:=I.sl i _ e
 exact⟨v,a,k v G H F d env I (Same.refl _) r.1 q⟩
theorem ayj(e:env[i]?=some (some (.own A)))(f:Frz A d)(q:Q' d (env.set i (some (.st d)))):Ev B (tVar i) env Q':=λσ G H F Q I k=>by
 obtain⟨v,a,r,g,J⟩:=I.frz e f
 exact⟨v,a,k v _ H _ d _ J g r q⟩
theorem avb(e:env[i]?=some (some (.own A)))(q:QO (.own A) (env.set i none)):EvO B (tVar i) env QO:=λσ G H F Q I k=>by
 obtain⟨v,b,r⟩:=I.sl i _ e
 refine⟨v,b,k v G H _ (F i) (.own A) _ (I.drop i) (Same.refl _) ⟨r.1,r.2,I.fg i,I.fo i,λj a z y=>?_⟩ q⟩
 by_cases h:j=i
 ·subst h;exact putF_same.mp y
 ·rw[abb h] at y;exact h (I.fd j i a y z)
theorem a1i(q:Q' (.int i) env):Ev B (tC (.int i)) env Q':=λσ G H F Q I k=>k _ G H F _ env I (Same.refl _) (.int i) q
theorem a3g(q:Q' (.bool b) env):Ev B (tC (.bl b)) env Q':=λσ G H F Q I k=>k _ G H F _ env I (Same.refl _) (.bl b) q
theorem a1j(q:Q' .none env):Ev B (tC .non) env Q':=λσ G H F Q I k=>k _ G H F _ env I (Same.refl _) .non q
def Op2(r:R2)(x y:PyData)(R:Sl->Prop):Prop:=∀(G H:Hp)(vx vy:V)(Q:VK),Same G H->Rp G vx x->Rp G vy y->(∀ v G' H' s Fv,Out G H v G' H' s Fv->R s->Q v H')->r vx vy H Q
def Op1(r:V->Hp->VK->Prop)(x:PyData)(R:Sl->Prop):Prop:=∀(G H:Hp)(vx:V)(Q:VK),Same G H->Rp G vx x->(∀ v G' H' s Fv,Out G H v G' H' s Fv->R s->Q v H')->r vx H Q
def OpA(r:List V->Hp->VK->Prop)(ds:List PyData)(R:Sl->Prop):Prop:=∀(G H:Hp)(vs:List V)(Q:VK),Same G H->Rps G vs ds->(∀ v G' H' s Fv,Out G H v G' H' s Fv->R s->Q v H')->r vs H Q
theorem anf(h:Ev B ta env λx d=>Ev B tb d λy a=>Op2 r x y λs=>QO s a):EvO B (tOp r ta tb) env QO:=λσ G H F Q I k =>
 h σ G H F _ I λj C A z x d w i p f=>f σ C A z _ w λl q H2 F2 y a b c t n =>
  n q H2 j l Q b.gh (p.same c) t λv u H3 s Fv o g=>k v u H3 F2 Fv s a (b.out o).1 (i.trans (c.trans o.gg)) (b.out o).2 g
theorem a3h(h:Ev B ta env λx a=>Ev B tb a λy b=>Op2 r x y λs=>FQ s λd=>Q' d b):Ev B (tOp r ta tb) env Q':=acb (anf h)
theorem a1k(h:Ev B ta env λx a=>Op1 r x λs=>QO s a):EvO B (tUn r ta) env QO:=λσ G H F Q I k =>
 h σ G H F _ I λg p n l x a b f i c=>c p n g Q b.gh i λv j H3 s Fv o d=>k v j H3 l Fv s a (b.out o).1 (f.trans o.gg) (b.out o).2 d
theorem a3i(h:Ev B ta env λx a=>Op1 r x λs=>FQ s λd=>Q' d a):Ev B (tUn r ta) env Q':=acb (a1k h)
theorem apt(q:QA [] env):EvA B tNil env QA:=λσ G H F Q I k=>k [] G H F [] env I (Same.refl _) .nil q
theorem avc(h:Ev B ta env λx c=>EvA B tr c λxs a=>QA (x::xs) a):EvA B (abe ta tr) env QA:=λσ G H F Q I k =>
 h σ G H F _ I λs r q o x c n f i d=>d σ r q o _ n λvs j H2 F2 ds a p b l g=>k _ j H2 F2 _ a p (f.trans b) (.cons (i.same b) l) g
theorem ata(h:EvA B t env λds a=>OpA r ds λs=>QO s a):EvO B (tCB r t) env QO:=λσ G H F Q I k =>
 h σ G H F _ I λvs n l j ds a b f g c=>c n l vs Q b.gh g λv i H3 s Fv o d=>k v i H3 j Fv s a (b.out o).1 (f.trans o.gg) (b.out o).2 d
theorem a3j(h:EvA B t env λds a=>OpA r ds λs=>FQ s λd=>Q' d a):Ev B (tCB r t) env Q':=acb (ata h)
theorem apu(h:EvA B t env λds a=>ds.length<=1000/\QO (.st (.tuple ds)) a):EvO B (tTup t) env QO:=λσ G H F Q I k =>
 h σ G H F _ I λvs l j i ds a b f d c=>⟨by rw[d.length];exact aG5 (afd c.1),λp g=>by
  have o:=Out.newT b.gh g d
  exact k _ _ _ i _ _ a (b.out o).1 (f.trans o.gg) (b.out o).2 c.2⟩
theorem a1l(h:EvA B t env λds a=>ds.length<=1000/\Q' (.tuple ds) a):Ev B (tTup t) env Q':=acb (apu h)
theorem apv(h:EvA B t env λds a=>ds.length<=1000/\QO (.own (OL ds)) a):EvO B (tLst t) env QO:=λσ G H F Q I k =>
 h σ G H F _ I λvs l j i ds a b f d c=>⟨by rw[d.length];exact aG5 (afd c.1),λp g=>by
  have o:=Out.newL b.gh g d
  exact k _ _ _ i _ _ a (b.out o).1 (f.trans o.gg) (b.out o).2 c.2⟩
theorem a1m(h:EvA B t env λds a=>ds.length<=1000/\Q' (.list ds) a):Ev B (tLst t) env Q':=acb (apv λσ G H F Q I k=>h σ G H F Q I λvs G' H' F' ds a b g r q=>k vs G' H' F' ds a b g r ⟨q.1,afi q.2⟩)
theorem aih(h:Ev B te env λx a=>∃ b,x=.bool b/\QT b a):EvT B (aw6 te) env QT:=λσ G H F Q I k =>
 h σ G H F _ I λv l j i x a g c f d=>by
  obtain⟨b,e,q⟩:=d
  subst e
  cases f
  exact⟨b,rfl,k b l j i a g c q⟩
theorem a3k(h:Ev B te env λx a=>∃ b,x=.bool b/\QT b a):EvT B (tB te) env QT:=aih h
theorem x_bl{b:Bool}{R:Bool->Prop}(h:R b):∃ c,PyData.bool b=.bool c/\R c:=⟨b,rfl,h⟩
theorem ayk(h:EvT B t env λc a=>if c=true then EvT B u a QT else QT false a):EvT B (tAnd t u) env QT:=λσ G H F Q I k =>
 h σ G H F _ I λb j i g a f d q=>by
  cases b with
  |true=>rw[aF5 rfl] at q ⊢;exact q σ j i g Q f λc p H2 F2 o r l n=>k c p H2 F2 o r (d.trans l) n
  |false=>rw[aF6 aB0] at q ⊢;exact k false j i g a f d q
theorem a1n(h:EvT B t env λc a=>if c=true then QT true a else EvT B u a QT):EvT B (tOr t u) env QT:=λσ G H F Q I k =>
 h σ G H F _ I λb j i g a f d q=>by
  cases b with
  |false=>rw[aF6 aB0] at q ⊢;exact q σ j i g Q f λc p H2 F2 o r l n=>k c p H2 F2 o r (d.trans l) n
  |true=>rw[aF5 rfl] at q ⊢;exact k true j i g a f d q
theorem apw(h:EvT B t env λc a=>QT (!c) a):EvT B (tNot t) env QT:=λσ G H F Q I k =>
 h σ G H F _ I λb g f j a i d q=>k (!b) g f j a i d q
theorem aew(q:QT true env):EvT B tYes env QT:=λσ G H F Q I k=>k true G H F env I (Same.refl _) q
def TruD:PyData->Bool->Prop
 | .bool b,k=>k=b
 | .list ds,k=>k = !ds.isEmpty
 |_,_=>False
theorem ayl(h:Ev B te env λx a=>∃ b,TruD x b/\QT b a):EvT B (tTru K te) env QT:=λσ G H F Q I k =>
 h σ G H F _ I λv j i g x a d f o n=>by
  obtain⟨b,e,q⟩:=n
  cases o with
  |bl c=>cases e;exact⟨_,rfl,k _ j i g a d f q⟩
  | lst ha rs =>
   refine⟨b,.inl ⟨_,SqL.of (d.gh _ _ ha),?_⟩,k _ j i g a d f q⟩
   have l:b = !_:=e
   rw[l]
   cases rs <;> rfl
  |_=>exact e.elim
theorem aym(h:Ev B ta env λx a=>∃ b,x=.bool b/\if b=true then Ev B tb a Q' else Q' (.bool false) a):Ev B (aqu ta tb) env Q':=λσ G H F Q I k =>
 h σ G H F _ I λv j i g x a f c p o=>by
  obtain⟨b,e,q⟩:=o
  subst e
  cases p
  refine⟨b,rfl,?_⟩
  cases b with
  |true=>rw[aF5 rfl] at q ⊢;exact q σ j i g Q f λv s H2 F2 d r u l t n=>k v s H2 F2 d r u (c.trans l) t n
  |false=>rw[aF6 aB0] at q ⊢;exact k _ j i g _ a f c (.bl false) q
theorem ayn(h:Ev B ta env λx a=>∃ b,x=.bool b/\Q' (.bool (!b)) a):Ev B (aqv ta) env Q':=λσ G H F Q I k =>
 h σ G H F _ I λv l j i x a g c f d=>by
  obtain⟨b,e,q⟩:=d
  subst e
  cases f
  exact⟨b,rfl,k _ l j i _ a g c (.bl _) q⟩
theorem avd(h:Ev B ta env λx D=>Ev B tb D λy c=>Op2 r x y λs=>∃ b,s=.st (.bool b)/\if b=true then Ev B N c λz e3=>Op2 M y z λs'=>FQ s' λd=>Q' d e3 else Q' (.bool false) c):Ev B (amg r M ta tb N) env Q':=λσ G H F Q I k =>
 h σ G H F _ I λY G1 H1 F1 x D I1 C r1 U=>U σ G1 H1 F1 _ I1 λE G2 H2 F2 y c P i K q2 =>
  q2 G2 H2 Y E _ P.gh (r1.same i) K λv L H3 s Fv o z_=>by
   obtain⟨b,es,a⟩:=z_
   have w:=(P.out o).1
   have j:=o.ok
   subst es
   obtain⟨j,_⟩:=j
   cases j
   refine⟨b,rfl,?_⟩
   cases b with
   |false=>rw[aF6 aB0] at a ⊢;exact k _ L H3 F2 _ c w (C.trans (i.trans o.gg)) (.bl _) a
   | true =>
    rw[aF5 rfl] at a ⊢
    refine a σ L H3 F2 _ w λW G4 H4 u z S O R X q4=>q4 G4 H4 E W Q O.gh (K.same (o.gg.trans R)) X λp T t Z l n g=>?_
    have J:=O.out n
    have gg:=C.trans (i.trans (o.gg.trans (R.trans n.gg)))
    cases Z with
    |st d=>exact k p T t u d S J.1 gg n.ok.1 g
    | own A =>
     obtain⟨d,f,q⟩:=g
     exact k p _ t u d S (J.1.freeze J.2.fb J.2.fd J.2.fg) (gg.trans (abm J.2.fg)) (f T t p l J.2.ok J.2.fg J.1.gh) q
    |io A=>exact g.elim
    |scr ns=>exact g.elim
end
section
variable{B:Bs}{env:En}{D':VEnds}{t u tb:TS}{te:TE}{g:TG}{c:TT}{QE:En->Prop}
theorem apx(h:EvS B t { D' with nx:=λe=>EvS B u D' e } env):EvS B (tSeq t u) D' env:=λσ G H F D I r =>
 h σ G H F { D with nx:=u D } I ⟨λσ G' H F env a g q=>q σ G' H F D a (r.later g),r.rt,r.bk,r.ct⟩
theorem ave(h:D'.nx env):EvS B awz D' env:=λσ G H F D I r=>r.nx σ G H F env I (Same.refl _) h
theorem ayo(h:EvO B te env λs e=>EvG B g s e D'.nx):EvS B (tAsg te g) D' env:=λσ G H F D I r =>
 h σ G H F _ I λv t q o Fv s u n f d b=>b σ t q o v Fv D.nx n d λa l H2 F2 j p c i=>r.nx a l H2 F2 j p (f.trans c) i
theorem aa4(h:QE (env.set i (some s))):EvG B (aa0 i) s env QE:=λσ G H F v Fv Q I x k=>k _ G H _ _ (I.store x i) (Same.refl _) h
theorem agc(h:QE env):EvGs B gNil [] env QE:=λσ G H F vs Q I x k=>by cases x;exact⟨rfl,k σ G H F env I (Same.refl _) h⟩
theorem ade(h:EvG B g (.st d) env λe=>EvGs B gs ds e QE):EvGs B (abz g gs) (d::ds) env QE:=λσ G H F vs Q I x k=>by
 cases x with
 | cons r rs =>
  refine⟨_,_,rfl,h σ G H F _ _ _ I (adp r) λb t s p u o c f=>f b t s p _ Q o (rs.same c) λa n H2 F2 l q i j=>k a n H2 F2 l q (c.trans i) j⟩
theorem ahr(a:ds.length=n)(h:EvGs B gs ds env QE):EvG B (gTup K n gs) (.st (.tuple ds)) env QE:=λσ G H F v Fv Q I x k=>by
 obtain⟨r,_⟩:=x.ok
 cases r with
 |tup ha rs=>exact⟨_,_,rfl,SqT.of (I.gh _ _ ha),by rw[rs.length,a],h σ G H F _ Q I rs k⟩
theorem apy(h:EvO B te env λs e=>D'.rt s e):EvS B (tRet te) D' env:=λσ G H F D I r =>
 h σ G H F _ I λv j i g Fv s d f c b a=>r.rt σ j i g d v Fv s f c b a
theorem avf(h:EvO B te env λ_ e=>D'.nx e):EvS B (aw0 te) D' env:=λσ G H F D I r =>
 h σ G H F _ I λv i g f Fv s c d b j a=>r.nx σ i g f c d b a
theorem atb(h:EvT B c env λb e=>if b=true then EvS B t D' e else EvS B u D' e):EvS B (tIfS c t u) D' env:=λσ G H F D I r =>
 h σ G H F _ I λb f d i j g a q=>by
  cases b with
  |true=>rw[aF5 rfl] at q ⊢;exact q σ f d i D g (r.later a)
  |false=>rw[aF6 aB0] at q ⊢;exact q σ f d i D g (r.later a)
def ForV(B:Bs)(g:TG)(tb:TS)(D':VEnds)(ds:List PyData)(e1:En):Prop:=∃ J:Nat->En->Prop,J 0 e1/\(∀ i d e,ds[i]?=some d->J i e->EvG B g (.st d) e λe2=>EvS B tb { D' with nx:=J (i+1),ct:=J (i+1),bk:=D'.nx } e2)/\∀ e,J ds.length e->D'.nx e
theorem ayp(h:EvI B K env λds v=>ForV B g tb D' ds v):EvS B (tFor K g tb) D' env:=λσ G H F D I r =>
 h σ G H F _ I λJ C H1 F1 ds v Z u it R=>by
  obtain⟨N,j0,P,S⟩:=R
  refine⟨λi m σ H=>m=ds.length-i/\i<=ds.length/\∃ f F2 n,VI B f H σ n F2/\Same C f/\N i n,⟨ds.length,by simp,aG0 _,C,F1,v,Z,Same.refl _,j0⟩,?_⟩
  rintro i m σ H ⟨rfl,hi,f,F2,n,p,q,E⟩
  by_cases hlt:i<ds.length
  ·refine .inr ⟨it.go i f H q p.gh hlt,λσ H=>∃ t U M,VI B t H σ M U/\Same C t/\N (i+1) M,λT H' h'=>⟨ds.length-(i+1),by lia,rfl,hlt,h'⟩,λx H' y=>?_⟩
   obtain⟨t,o⟩:=it.yld i f H x H' _ q p.gh p.ft (aA0 hlt) y
   have L:=p.out o
   refine P i _ n (aA0 hlt) E σ t H' F2 x _ _ L.1 L.2 λw X W O e4 I4 g4 q4=>?_
   have gg:=q.trans (o.gg.trans g4)
   refine q4 w X W O _ I4 ⟨λa l s d c b j A=>⟨l,d,c,b,gg.trans j,A⟩,λa l s d c Y z Q b j=>r.rt a l s d c Y z Q b (u.trans (gg.trans j)),λa l s d c b j=>r.nx a l s d c b (u.trans (gg.trans j)),λa l s d c b j A=>⟨l,d,c,b,gg.trans j,A⟩⟩
  ·have e:i=ds.length:=by lia
   subst e
   exact .inl ⟨it.stop _ f H q p.gh rfl,r.nx σ f H F2 n p (u.trans q) (S n E)⟩
theorem afj(J:Nat->En->Prop)(u:∃ m,J m env)(h:∀ m e,J m e->EvT B c e λb z=>if b=true then EvS B tb { D' with nx:=λf=>∃ d,d<m/\J d f,ct:=λf=>∃ d,d<m/\J d f,bk:=D'.nx } z else D'.nx z):EvS B (asa c tb) D' env:=λσ G H F D I r=>by
 obtain⟨T,u⟩:=u
 refine⟨λm σ H=>∃ q F2 f,VI B q H σ f F2/\Same G q/\J m f,⟨T,G,F,env,I,Same.refl _,u⟩,?_⟩
 rintro m σ H ⟨q,F2,f,R,K,E⟩
 refine h m f E σ q H F2 _ R λb C H3 A N y L p=>?_
 have gg:=K.trans L
 cases b with
 |false=>rw[aF6 aB0] at p ⊢;exact r.nx σ C H3 A N y gg p
 | true =>
  rw[aF5 rfl] at p ⊢
  refine⟨λσ H=>∃ s v t,VI B s H σ t v/\Same G s/\∃ d,d<m/\J d t,λO H' ⟨s,v,t,Q,S,d,hm,U⟩=>⟨d,hm,s,v,t,Q,S,U⟩,?_⟩
  exact p σ C H3 A _ y ⟨λa n o j i g l x=>⟨n,j,i,g,gg.trans l,x⟩,λa n o j i P w M g l=>r.rt a n o j i P w M g (gg.trans l),λa n o j i g l=>r.nx a n o j i g (gg.trans l),λa n o j i g l x=>⟨n,j,i,g,gg.trans l,x⟩⟩
variable{QI:List PyData->En->Prop}
theorem avg(h:Ev B te env λd e=>∃ ds,d=.list ds/\QI ds e):EvI B (aw2 K te) env QI:=λσ G H F R I k =>
 h σ G H F _ I λv t s r d l b j p o=>by
  obtain⟨ds,n,c⟩:=o
  subst n
  cases p with
  | @lst a vs ds ha rs =>
   refine⟨a,rfl,⟨vs,SqL.of (b.gh _ _ ha)⟩,k _ t s r ds l b j ⟨λi G' H' g h hi=>?_,λi G' H' g h hi=>?_,λi G' H' x H'' d g h ft hd y=>?_⟩ c⟩
   ·have:i<vs.length:=by rw[rs.length];exact hi
    exact⟨vs,vs[i],SqL.of (h _ _ (g _ _ ha)),aA0 this⟩
   ·exact⟨vs,SqL.of (h _ _ (g _ _ ha)),by rw[rs.length];exact Nat.le_of_eq hi.symm⟩
   ·obtain⟨e,y⟩:=y
    subst e
    obtain⟨v,q,f⟩:=rs.get hd
    have:=y vs (SqL.of (h _ _ (g _ _ ha)))
    rw[q] at this
    cases this
    exact⟨G',Out.refl h (f.same g)⟩
theorem a1o{ds:List PyData}{R:List PyData->Prop}(h:R ds):∃ xs,PyData.list ds=.list xs/\R xs:=⟨ds,rfl,h⟩
def rngD(lo:Int)(n:Nat):List PyData:=(List.range n).map λ(i:Nat)=>.int (lo+(i:Int))
theorem acz:(rngD lo n).length=n:=by simp[rngD]
theorem agd(h:(rngD lo n)[i]?=some d):i<n/\d=.int (lo+(i:Int)):=by
 unfold rngD at h
 rw[aA5] at h
 have hi:i<n:=by
  have:=(aA1 (l:=(List.range n).map λ(i:Nat)=>PyData.int (lo+(i:Int)))).mp (by rw[aA5];exact h)
  obtain⟨q,_⟩:=this
  simpa using q
 rw[aA0 (by simpa using hi)] at h
 simp at h
 exact⟨hi,h.symm⟩
theorem atc:ItOk G (Itr lo n) (rngD lo n):=by
 refine⟨λi G' H' g h hi=>?_,λi G' H' g h hi=>?_,λi G' H' x H'' d g h ft hd y=>?_⟩
 ·rw[acz] at hi;exact hi
 ·rw[acz] at hi;exact Nat.le_of_eq hi.symm
 ·obtain⟨e,y⟩:=y
  subst e y
  rw[(agd hd).2]
  exact⟨G',Out.refl h (.int _)⟩
def al8(ds:List PyData)(R:List PyData->Prop):Prop:=∃ j:Int,ds=[.int j]/\-(2 ^ 62)<=j/\j<2 ^ 62/\R (rngD 0 j.toNat)
def al9(ds:List PyData)(R:List PyData->Prop):Prop:=∃ i j:Int,ds=[.int i,.int j]/\(-(2 ^ 62)<=i/\i<2 ^ 62/\-(2 ^ 62)<=j/\j<2 ^ 62)/\R (rngD i (j-i).toNat)
theorem avh(h:EvA B a env λds e=>al8 ds λxs=>QI xs e):EvI B (aw3 a) env QI:=λσ G H F R I k =>
 h σ G H F _ I λvs q p n ds d l c i g=>by
  obtain⟨j,f,b1,o,b⟩:=g
  subst f
  obtain rfl:vs=[V.int j]:=Rps.ints_inv (ns:=[j]) i
  exact⟨j,rfl,b1,o,k _ q p n _ d l c atc b⟩
theorem avi(h:EvA B a env λds e=>al9 ds λxs=>QI xs e):EvI B (aw4 a) env QI:=λσ G H F R I k =>
 h σ G H F _ I λvs q p o ds d n c l g=>by
  obtain⟨i,j,f,b1,b⟩:=g
  subst f
  obtain rfl:vs=[V.int i,V.int j]:=Rps.ints_inv (ns:=[i,j]) l
  exact⟨i,j,rfl,b1,k _ q p o _ d n c atc b⟩
theorem a1p(a : -4611686018427387904<=j)(b:j<4611686018427387904)(h:R (rngD 0 j.toNat)):al8 [.int j] R:=⟨j,rfl,by lia,by lia,h⟩
theorem a1q(c : -4611686018427387904<=a/\a<4611686018427387904/\-4611686018427387904<=b/\b<4611686018427387904)(h:R (rngD a (b-a).toNat)):al9 [.int a,.int b] R:=⟨a,b,rfl,by lia,h⟩
theorem aii(J:Nat->En->Prop)(a:J 0 env)(hs:∀ i e,i<n->J i e->EvG B g (.st (.int (lo+(i:Int)))) e λb=>EvS B tb { D' with nx:=J (i+1),ct:=J (i+1),bk:=D'.nx } b)(hd:∀ e,J n e->D'.nx e):ForV B g tb D' (rngD lo n) env :=
 ⟨J,a,λi d e h j=>by obtain⟨hi,rfl⟩:=agd h;exact hs i e hi j,λe j=>hd e (by rw[acz] at j;exact j)⟩
theorem ae4{α:Type}{f : α->PyData}{xs:List α}(J:Nat->En->Prop)(a:J 0 env)(hs:∀ i x e,xs[i]?=some x->J i e->EvG B g (.st (f x)) e λb=>EvS B tb { D' with nx:=J (i+1),ct:=J (i+1),bk:=D'.nx } b)(hd:∀ e,J xs.length e->D'.nx e):ForV B g tb D' (xs.map f) env :=
 ⟨J,a,λi d e h j=>by
  rw[aA5] at h
  cases hx:xs[i]? with
  |none=>rw[hx] at h;cases h
  |some x=>rw[hx] at h;cases h;exact hs i x e hx j,λe j=>hd e (by rw[aA3] at j;exact j)⟩
end
theorem avj(h:∀ c:TS,c=b->EvS B a { D' with nx:=λe=>EvS B c D' e } env):EvS B (tSeq a b) D' env:=apx (h b rfl)
theorem apz(e:c=b)(h:EvS B b D' env):EvS B c D' env:=by rw[e];exact h
@[elab_as_elim] theorem exS1 {c:Type} {σ:Type} {f : c->σ} {p : c->Prop} {a : σ->Prop} (s : σ) (h:∃ b,s=f b/\p b) (k:∀ b,p b->a (f b)):a s:=by
 obtain⟨b,e,h⟩:=h
 rw[e];exact k _ h
@[elab_as_elim] theorem exS2 {d:Type} {g:Type} {σ:Type} {f : d->g->σ} {p : d->g->Prop} {a : σ->Prop} (s : σ) (h:∃ b c,s=f b c/\p b c) (k:∀ b c,p b c->a (f b c)):a s:=by
 obtain⟨b,c,e,h⟩:=h
 rw[e];exact k _ _ h
@[elab_as_elim] theorem exE2 {d:Type} {g:Type} {σ:Type} {f : d->g->σ} {a : σ->Prop} (s : σ) (h:∃ b c,s=f b c) (k:∀ b c,a (f b c)):a s:=by
 obtain⟨b,c,e⟩:=h
 rw[e];exact k _ _
@[elab_as_elim] theorem exS3 {g:Type} {j:Type} {i:Type} {σ:Type} {f : g->j->i->σ} {p : g->j->i->Prop} {a : σ->Prop} (s : σ) (h:∃ c d b,s=f c d b/\p c d b) (k:∀ c d b,p c d b->a (f c d b)):a s:=by
 obtain⟨c,d,b,e,h⟩:=h
 rw[e];exact k _ _ _ h
@[elab_as_elim] theorem exE3 {g:Type} {j:Type} {i:Type} {σ:Type} {f : g->j->i->σ} {a : σ->Prop} (s : σ) (h:∃ c d b,s=f c d b) (k:∀ c d b,a (f c d b)):a s:=by
 obtain⟨c,d,b,e⟩:=h
 rw[e];exact k _ _ _
@[elab_as_elim] theorem exS4 {i:Type} {l:Type} {j:Type} {n:Type} {σ:Type} {f : i->l->j->n->σ} {p : i->l->j->n->Prop} {a : σ->Prop} (s : σ) (h:∃ d g c b,s=f d g c b/\p d g c b) (k:∀ d g c b,p d g c b->a (f d g c b)):a s:=by
 obtain⟨d,g,c,b,e,h⟩:=h
 rw[e];exact k _ _ _ _ h
@[elab_as_elim] theorem exS5 {q:Type} {n:Type} {l:Type} {o:Type} {j:Type} {σ:Type} {f : q->n->l->o->j->σ} {p : q->n->l->o->j->Prop} {a : σ->Prop} (s : σ) (h:∃ g b d c i,s=f g b d c i/\p g b d c i) (k:∀ g b d c i,p g b d c i->a (f g b d c i)):a s:=by
 obtain⟨g,b,d,c,i,e,h⟩:=h
 rw[e];exact k _ _ _ _ _ h
@[elab_as_elim] theorem exS6 {q:Type} {n:Type} {r:Type} {o:Type} {l:Type} {t:Type} {σ:Type} {f : q->n->r->o->l->t->σ} {p : q->n->r->o->l->t->Prop} {a : σ->Prop} (s : σ) (h:∃ i d c b j g,s=f i d c b j g/\p i d c b j g) (k:∀ i d c b j g,p i d c b j g->a (f i d c b j g)):a s:=by
 obtain⟨i,d,c,b,j,g,e,h⟩:=h
 rw[e];exact k _ _ _ _ _ _ h
theorem big(h:n<=1000000):n<sizeLine:=aE4 h (by decide)
section
variable{B B1:Bs}{G H G' H':Hp}{σ σI:St}{env envI:En}{F F':Nat->Addr->Prop}{v:V}{s:Sl}{Fv:Addr->Prop}{inv:Nat->Option Nat}
open Classical in
def ac1(H:Hp)(F:Nat->Addr->Prop)(inv:Nat->Option Nat):Hp:=λa=>if ∃ i j,inv i=some j/\F i a then none else H a
theorem age(h:inv i=some j)(f:F i a):ac1 H F inv a=none:=aF5 ⟨i,j,h,f⟩
theorem aij(h:∀ i j,inv i=some j->¬ F i a):ac1 H F inv a=H a:=aF6 λ⟨i,j,x,y⟩=>h i j x y
theorem ad5:Same (ac1 H F inv) H:=λa o e=>by
 unfold ac1 at e
 split at e
 ·cases e
 ·exact e
theorem VI.enter(I:VI B G H σ env F)(inj:∀ i b j,inv i=some j->inv b=some j->i=b)(ln : σI.length=envI.length)
  (sl:∀ j s,envI[j]?=some (some s)->∃ v,σI[j]?=some (some v)/\((∃ d,s=.st d/\Rp G v d/\∀ i,inv i ≠ some j)\/(∃ ns a,s=.scr ns/\v=.ref a/\SqL B.K G a (ns.map V.int)/\∀ i,inv i ≠ some j) ∨
   ∃ i A,inv i=some j/\s=.io A/\σ[i]?=some (some v)/\(env[i]?=some (some (.own A))\/env[i]?=some (some (.io A))))) :
  VI ⟨B.K,G,H,ac1 H F inv,σI,λj a=>∃ i,inv i=some j/\F i a⟩ G H σI envI (λj a=>∃ i,inv i=some j/\F i a) where
 gh:=I.gh
 g0:=Same.refl _
 gn:=λa o e=>.inl e
 rs:=ad5
 rb:=ad5
 bh:=λa o e=>⟨o,e⟩
 fg:=λj a ⟨i,_,z⟩=>I.fg i a z
 fr:=λj a ⟨i,h,z⟩=>age h z
 fd:=λj k a ⟨i,h,z⟩ ⟨b,h',t⟩=>by
  have:=I.fd i b a z t
  subst this
  rw[h] at h';cases h';rfl
 fo:=λj a ⟨i,h,z⟩=>I.fo i a z
 sl:=λj s e=>by
  obtain⟨v,l,q⟩:=sl j s e
  refine⟨v,l,?_⟩
  rcases q with ⟨d,rfl,r,n⟩|⟨ns,a,rfl,rfl,q,n⟩|⟨i,A,hi,rfl,hs,c⟩
  ·exact⟨r,λa ⟨i,h,_⟩=>n i h⟩
  ·exact⟨⟨a,rfl,q⟩,λa ⟨i,h,_⟩=>n i h⟩
  ·refine⟨?_,λa z=>.inl z,l⟩
   have u:(λa=>∃ b,inv b=some j/\F b a)=F i:=by
    funext a
    exact propext ⟨λ⟨b,h,z⟩=>by rw[inj i b j hi h];exact z,λz=>⟨i,hi,z⟩⟩
   show A.P G H v (λa=>∃ b,inv b=some j/\F b a)
   rw[u]
   rcases c with c|c
   ·obtain⟨p,f,g⟩:=I.sl i _ c
    rw[hs] at f;cases f;exact g.1
   ·obtain⟨p,f,g⟩:=I.sl i _ c
    rw[hs] at f;cases f;exact g.1
 ln:=ln
 ft:=I.ft
theorem VI.leave(I:VI B G H σ env F)(inj:∀ i p j,inv i=some j->inv p=some j->i=p)(u:B1.G=G)(r:B1.H=H)(E:∀ a o,H a=some o->(∀ i j,inv i=some j->¬ F i a)->B1.R a=some o)
  (P:∀ i j,inv i=some j->∀ a,B1.F j a->F i a) (N:∀ i j,inv i=some j->B1.S[j]? = σ[i]?) (J:VI B1 G' H' σI envI F') (io:∀ i j,inv i=some j->∃ A',envI[j]?=some (some (.io A')))  (L:env2.length=env.length)
  (M:∀ i s,env2[i]?=some (some s)->(inv i=none/\env[i]?=some (some s))\/∃ j A A',inv i=some j/\envI[j]?=some (some (.io A'))/\((env[i]?=some (some (.own A))/\s=.own A')\/(env[i]?=some (some (.io A))/\s=.io A'))) :
  VI B G' H' σ env2 (λi a=>match inv i with|some j=>F' j a|none=>F i a):=by
 have g:∀ a o,G' a=some o->G a=some o\/H a=none:=λa o e=>by
  have:=J.gn a o e
  rw[u,r] at this;exact this
 have fi:∀ i j a,inv i=some j->F' j a->F i a\/H a=none:=λi j a hi z=>by
  obtain⟨A',e⟩:=io i j hi
  obtain⟨v,_,q⟩:=J.sl j _ e
  rcases q.2.1 a z with y|y
  ·exact .inl (P i j hi a y)
  ·rw[r] at y;exact .inr y
 have kp:∀ a o,H a=some o->(∀ i j,inv i=some j->¬ F i a)->H' a=some o:=λa o e n=>J.rs a o (E a o e n)
 refine⟨J.gh,I.g0.trans (u ▸ J.g0),λa o e=>?_,λa o e=>?_,I.rb,λa o e=>?_,λi a z=>?_,λi a z=>?_,λi k a y z=>?_,λi a z=>?_,λi t e=>?_,by rw[L];exact I.ln,J.ft⟩
 ·rcases g a o e with e|e
  ·exact I.gn a o e
  ·exact .inr (I.no_b e)
 ·refine kp a o (I.rs a o e) λi j _ z=>?_
  rw[I.fr i a z] at e;cases e
 ·obtain⟨O,c⟩:=I.bh a o e
  exact J.bh a O (by rw[r];exact c)
 ·cases hi:inv i with
  |some j=>rw[hi] at z;exact J.fg j a z
  | none =>
   rw[hi] at z
   cases e:G' a with
   |none=>rfl
   | some o =>
    rcases g a o e with e|e
    ·rw[I.fg i a z] at e;cases e
    ·exact absurd z (I.no_f e i)
 ·cases hi:inv i with
  | some j =>
   rw[hi] at z
   rcases fi i j a hi z with y|y
   ·exact I.fr i a y
   ·exact I.no_r y
  |none=>rw[hi] at z;exact I.fr i a z
 ·cases hi:inv i with
  | some j =>
   rw[hi] at y
   cases hk:inv k with
   | some l =>
    rw[hk] at z
    have:=J.fd j l a y z
    subst this
    exact inj i k j hi hk
   | none =>
    rw[hk] at z
    rcases fi i j a hi y with x|x
    ·exact I.fd i k a x z
    ·exact absurd z (I.no_f x k)
  | none =>
   rw[hi] at y
   cases hk:inv k with
   | some l =>
    rw[hk] at z
    rcases fi k l a hk z with x|x
    ·exact I.fd i k a y x
    ·exact absurd y (I.no_f x i)
   |none=>rw[hk] at z;exact I.fd i k a y z
 ·cases hi:inv i with
  |some j=>rw[hi] at z;exact J.fo j a z
  | none =>
   rw[hi] at z
   obtain⟨o,e⟩:=I.fo i a z
   exact J.bh a o (by rw[r];exact e)
 ·rcases M i t e with ⟨hi,c⟩|⟨j,A,A',hi,c,f⟩
  ·obtain⟨v,w,q⟩:=I.sl i t c
   refine⟨v,w,?_⟩
   simp only[hi]
   refine q.mono (u ▸ J.g0) λa o z y=>kp a o y λp j' d K=>?_
   have:=I.fd i p a z K
   subst this
   rw[hi] at d;cases d
  ·obtain⟨v,w,q⟩:=J.sl j _ c
   have C : σ[i]?=some (some v):=by rw[← N i j hi];exact q.2.2
   refine⟨v,C,?_⟩
   simp only[hi]
   rcases f with ⟨f,rfl⟩|⟨f,rfl⟩
   ·obtain⟨D,_,h⟩:=I.sl i _ f
    refine⟨q.1,λa z=>?_⟩
    rcases fi i j a hi z with y|y
    ·exact h.2 a y
    ·exact I.no_b y
   ·obtain⟨D,b,h⟩:=I.sl i _ f
    rw[C] at b;cases b
    refine⟨q.1,λa z=>?_,h.2.2⟩
    rcases fi i j a hi z with y|y
    ·exact h.2.1 a y
    ·exact .inr (I.no_b y)
theorem RsX.leave(I:VI B G H σ env F)(b:B1.H=H)(r:RsX B1 G' H' v Fv s F'):RsX B G' H' v Fv s (λi a=>match inv i with|some j=>F' j a|none=>F i a):=by
 have hn:∀ a,Fv a->H a=none:=λa z=>b ▸ r.fb a z
 refine⟨r.ok,λa z=>I.no_b (hn a z),r.fg,r.fo,λi a z y=>?_⟩
 cases hi:inv i with
 |some j=>rw[hi] at y;exact r.fd j a z y
 |none=>rw[hi] at y;exact I.no_f (hn a z) i y
end
abbrev VP:=List Sl->(Sl->Prop)->Prop
abbrev VIo:=Own->List Sl->(Own->Sl->Prop)->Prop
def noF:Nat->Addr->Prop:=λ_ _=>False
def bsP(K:Frag)(G H:Hp)(vs:List V):Bs:=⟨K,G,H,H,vs.map some,noF⟩
def axd(K:Frag)(G:Hp):V->Sl->Prop
 |v,.st d=>Rp G v d
 |v,.scr ns=>∃ a,v=.ref a/\SqL K G a (ns.map V.int)
 |_,_=>False
inductive ArgsOk(K:Frag)(G:Hp):List V->List Sl->Prop
 |nil:ArgsOk K G [] []
 |cons {v:V} {s:Sl} {vs:List V} {ss:List Sl}:axd K G v s->ArgsOk K G vs ss->ArgsOk K G (v::vs) (s::ss)
theorem ArgsOk.length:∀{vs:List V}{ss:List Sl},ArgsOk K G vs ss->vs.length=ss.length
 |_,_,.nil=>rfl
 |_,_,.cons _ t=>by simp[ArgsOk.length t]
theorem ArgsOk.get:∀{vs:List V}{ss:List Sl}{i:Nat}{s:Sl},ArgsOk K G vs ss->ss[i]?=some s->∃ v,vs[i]?=some v/\axd K G v s
 |_,_,_,_,.nil,e=>by simp at e
 |_,_,0,_,.cons r _,e=>by simp at e;subst e;exact⟨_,rfl,r⟩
 | _,_,i+1,s,.cons _ t,e=>by
  obtain⟨u,a,b⟩:=ArgsOk.get (i:=i) (s:=s) t (by simpa using e)
  exact⟨u,by simpa using a,b⟩
theorem ArgsOk.of:∀{vs:List V}{ds:List PyData},Rps G vs ds->ArgsOk K G vs (ds.map Sl.st)
 |_,_,.nil=>.nil
 |_,_,.cons r t=>.cons r (ArgsOk.of t)
theorem ap0{α:Type}{xs:List α}{n i:Nat}{s : α}(e:(xs.map some++List.replicate n none)[i]?=some (some s)):xs[i]?=some s:=by
 by_cases h:i<xs.length
 ·rw[aC3 (by simpa using h),aA5] at e
  rw[aA0 h] at e ⊢
  simpa using e
 ·rw[aC8 (by simpa using h),aH7] at e
  split at e <;> cases e
theorem ap1{α:Type}{xs:List α}{n i:Nat}{s : α}(e:xs[i]?=some s):(xs.map some++List.replicate n none)[i]?=some (some s):=by
 have h:i<xs.length:=(aA1.mp e).1
 rw[aC3 (by simpa using h),aA5,e];rfl
def spP(K:Frag)(f:VP):Sp:=λvs H Q _=>∃ G ss Q',Same G H/\FT G H/\ArgsOk K G vs ss/\f ss Q'/\∀ s,Q' s->∀ v G' H' Fv,Out G H v G' H' s Fv->Q v H'
structure OutI(G H R:Hp)(F0:Addr->Prop)(v0:V)(A':Own)(s:Sl)(v:V)(G' H':Hp)(F' Fv:Addr->Prop):Prop where
 gg:Same G G'
 gh:Same G' H'
 ft:FT G' H'
 gn:∀ a o,G' a=some o->G a=some o\/H a=none
 rs:Same R H'
 bh:∀ a o,H a=some o->∃ o',H' a=some o'
 ap:A'.P G' H' v0 F'
 fi:∀ a,F' a->F0 a\/H a=none
 fg:∀ a,F' a->G' a=none
 ok:RsOk G' H' v Fv s
 fv:∀ a,Fv a->H a=none/\G' a=none/\(∃ o,H' a=some o)/\¬ F' a
def spI(K:Frag)(f:VIo):Sp:=λvs H Q _=>∃ v0 vr G R A ss F0 Q',vs=v0::vr/\Same G H/\FT G H/\Same R H/\A.P G H v0 F0/\(∀ a,F0 a->G a=none)/\(∀ a,F0 a->R a=none)/\ArgsOk K G vr ss /\
 f A ss Q'/\∀ A' s,Q' A' s->∀ v G' H' F' Fv,OutI G H R F0 v0 A' s v G' H' F' Fv->Q v H'
theorem aa3(h:spP K f vs H Q E)
  (hb:∀ ss b,f ss b->∀ B,B.K=K->EvS B n { nx:=λ_=>b (.st .none),rt:=λs _=>b s } (ss.map some++List.replicate (N.length-ss.length) none)):n { nx:=λ_ H'=>Q .non H',rt:=Q } (L2.start N vs) H:=by
 obtain⟨G,ss,b,gh,ft,l,hf,c⟩:=h
 have fin:∀{σ G' H' F env v Fv s},VI (bsP K G H vs) G' H' σ env F->RsX (bsP K G H vs) G' H' v Fv s F->Out G H v G' H' s Fv:=λI r =>
  ⟨I.g0,I.gh,I.rs,I.gn,r.fb,r.fg,r.fo,r.ok,λ_=>I.ft⟩
 refine hb ss _ hf (bsP K G H vs) rfl (L2.start N vs) G H noF _ ?_ ⟨λσ G' H' F env I g q=>c _ q _ _ _ _ (fin I (adp .non)),λσ G' H' F env v Fv s I g r q=>c _ q v G' H' Fv (fin I r),λ_ _ _ _ _ _ _ q=>q,λ_ _ _ _ _ _ _ q=>q⟩
 refine⟨gh,Same.refl _,λa o e=>.inl e,Same.refl _,Same.refl _,λa o e=>⟨o,e⟩,λi a z=>z.elim,λi a z=>z.elim,λi j a z=>z.elim,λi a z=>z.elim,λi s e=>?_,?_,ft⟩
 ·obtain⟨v,p,q⟩:=l.get (ap0 e)
  refine⟨v,by unfold L2.start;exact ap1 p,?_⟩
  cases s with
  |st d=>exact⟨q,λa z=>z⟩
  |scr ns=>exact⟨q,λa z=>z⟩
  |own A=>exact q.elim
  |io A=>exact q.elim
 ·unfold L2.start;simp[l.length]
theorem ahs(h:spI K f vs H Q E)
  (hb:∀ A ss c,f A ss c->∀ B,B.K=K->EvS B t { nx:=λe=>∃ A',e[0]?=some (some (.io A'))/\c A' (.st .none),rt:=λs e=>∃ A',e[0]?=some (some (.io A'))/\c A' s } (some (.io A)::(ss.map some++List.replicate (N.length-(ss.length+1)) none))):t { nx:=λ_ H'=>Q .non H',rt:=Q } (L2.start N vs) H:=by
 obtain⟨v0,b,G,R,A,ss,F0,c,rfl,gh,ft,u,ap,fg,fr,n,hf,M⟩:=h
 have O:(v0::b).length=ss.length+1:=by simp[n.length]
 refine hb A ss _ hf ⟨K,G,H,R,(v0::b).map some,λi a=>i=0/\F0 a⟩ rfl (L2.start N (v0::b)) G H (λi a=>i=0/\F0 a) _ ?_ ?_
 ·refine⟨gh,Same.refl _,λa o e=>.inl e,u,u,λa o e=>⟨o,e⟩,λi a z=>fg a z.2,λi a z=>fr a z.2,λi j a z y=>by rw[z.1,y.1],λi a z=>A.dom ap a z.2,λi s e=>?_,?_,ft⟩
  ·cases i with
   | zero =>
    simp at e
    subst e
    refine⟨v0,rfl,?_,λa z=>.inl z,rfl⟩
    have:(λa=>0=0/\F0 a)=F0:=by funext a;simp
    rw[this];exact ap
   | succ i =>
    have D:(ss.map some++List.replicate (N.length-(ss.length+1)) none)[i]?=some (some s):=by simpa using e
    obtain⟨v,L,q⟩:=n.get (ap0 D)
    refine⟨v,?_,?_⟩
    ·unfold L2.start;exact ap1 (by simpa using L)
    ·cases s with
     |st d=>exact⟨q,λa z=>by cases z.1⟩
     |scr ns=>exact⟨q,λa z=>by cases z.1⟩
     |own A=>exact q.elim
     |io A=>exact q.elim
  ·unfold L2.start;simp[n.length]
 ·have fin:∀ σ G' H' F env v Fv s,VI ⟨K,G,H,R,(v0::b).map some,λi a=>i=0/\F0 a⟩ G' H' σ env F->RsX ⟨K,G,H,R,(v0::b).map some,λi a=>i=0/\F0 a⟩ G' H' v Fv s F->(∃ A',env[0]?=some (some (.io A'))/\c A' s)->Q v H':=by
   intro σ G' H' F env v Fv s I r ⟨A',e,q⟩
   obtain⟨p,w,x,J,C⟩:=I.sl 0 _ e
   have:p=v0:=by
    have l:((v0::b).map some)[0]?=some (some p):=C
    simpa using l.symm
   subst this
   exact M A' s q v G' H' (F 0) Fv ⟨I.g0,I.gh,I.ft,I.gn,I.rs,I.bh,x,λa z=>by
    rcases J a z with y|y
    ·exact .inl y.2
    ·exact .inr y,I.fg 0,r.ok,λa z=>⟨r.fb a z,r.fg a z,r.fo a z,r.fd 0 a z⟩⟩
  refine⟨λσ G' H' F env I g q=>fin σ G' H' F env .non _ (.st .none) I (adp .non) q,λσ G' H' F env v Fv s I g r q=>fin σ G' H' F env v Fv s I r q,λ_ _ _ _ _ _ _ q=>q,λ_ _ _ _ _ _ _ q=>q⟩
section
variable{B:Bs}{env:En}{Q':PyData->En->Prop}{QO:Sl->En->Prop}{K:Frag}{E:XK}
theorem akx(h:EvA B t env λds b=>f (ds.map Sl.st) λs=>QO s b):EvO B (ack (spP K f) [] E t) env QO:=λσ G H F Q I k=>by
 unfold ack
 simp only[aF0]
 exact h σ G H F _ I λvs j l i ds b a d g c=>⟨j,_,_,a.gh,a.ft,ArgsOk.of g,c,λs q v G' H' Fv o=>k v G' H' i Fv s b (a.out o).1 (d.trans o.gg) (a.out o).2 q⟩
theorem avk(h:EvA B t env λds a=>f (ds.map Sl.st) λs=>FQ s λd=>Q' d a):Ev B (ack (spP K f) [] E t) env Q':=acb (akx h)
theorem aky(e:env[i]?=some (some (.scr ns)))(n:B.K=K)(h:EvA B t env λds c=>f (.scr ns::ds.map Sl.st) λs=>QO s c):EvO B (ack (spP K f) [] E (abe (tVar i) t)) env QO:=λσ G H F Q I k=>by
 subst n
 unfold ack
 simp only[aF0]
 obtain⟨v0,p,⟨a,u,j⟩,_⟩:=I.sl i _ e
 refine⟨v0,p,h σ G H F _ I λvs w x r ds c b d l g=>⟨w,_,_,b.gh,b.ft,.cons (s:=.scr ns) ⟨a,u,d.seq j⟩ (ArgsOk.of l),g,λs q v G' H' Fv o=>k v G' H' r Fv s c (b.out o).1 (d.trans o.gg) (b.out o).2 q⟩⟩
theorem avl(e:env[i]?=some (some (.scr ns)))(b:B.K=K)(h:EvA B t env λds a=>f (.scr ns::ds.map Sl.st) λs=>FQ s λd=>Q' d a):Ev B (ack (spP K f) [] E (abe (tVar i) t)) env Q':=acb (aky e b h)
def reS:Sl->Own->Sl
 | .io _,A=>.io A
 |_,A=>.own A
theorem akz(T:∃ s,env[i]?=some (some s))(h:EvA B t env λds M=>∃ w A,M[i]?=some (some w)/\(w=.own A\/w=.io A)/\f A (ds.map Sl.st) λA' s=>QO s (M.set i (some (reS w A')))):EvO B (ack (spI K f) [] E (abe (tVar i) t)) env QO:=λσ G H F Q I k=>by
 unfold ack
 simp only[aF0]
 obtain⟨s,e⟩:=T
 obtain⟨v0,R,_⟩:=I.sl i _ e
 refine⟨v0,R,h σ G H F _ I λvs O r p ds M C U W ⟨w,A,N,hs,S⟩=>?_⟩
 obtain⟨Y,D,q⟩:=C.sl i _ N
 rw[R] at D;cases D
 have ap:A.P O r v0 (p i):=by
  rcases hs with rfl|rfl
  ·exact q.1
  ·exact q.1
 let inv:Nat->Option Nat:=λj=>if j=i then some 0 else none
 have d:inv i=some 0:=aF5 rfl
 have g:∀ j,j ≠ i->inv j=none:=λj h=>aF6 h
 have c:∀ j l,inv j=some l->j=i/\l=0:=λj l h=>by
  by_cases hj:j=i
  ·subst hj;rw[d] at h;cases h;exact⟨rfl,rfl⟩
  ·rw[g j hj] at h;cases h
 refine⟨v0,vs,O,ac1 r p inv,A,_,p i,_,rfl,C.gh,C.ft,ad5,ap,C.fg i,λa z=>age d z,ArgsOk.of W,S,λA' s q v G' H' F' Fv o=>?_⟩
 have hi:i<M.length:=(aA1.mp N).1
 have J:VI ⟨K,O,r,ac1 r p inv,[some v0],λj a=>j=0/\p i a⟩ G' H' [some v0] [some (.io A')] (λj a=>j=0/\F' a):=by
  refine⟨o.gh,o.gg,o.gn,o.rs,ad5,o.bh,λj a z=>o.fg a z.2,λj a z=>?_,λj l a y z=>by rw[y.1,z.1],λj a z=>A'.dom o.ap a z.2,λj s e=>?_,rfl,o.ft⟩
  ·rcases o.fi a z.2 with y|y
   ·exact age d y
   ·cases e:ac1 r p inv a with
    |none=>exact e
    |some u=>rw[ad5 a u e] at y;cases y
  ·cases j with
   | zero =>
    simp at e
    subst e
    refine⟨v0,rfl,?_,λa z=>?_,rfl⟩
    ·have:(λa=>0=0/\F' a)=F':=by funext a;simp
     rw[this];exact o.ap
    ·rcases o.fi a z.2 with y|y
     ·exact .inl ⟨rfl,y⟩
     ·exact .inr y
   |succ j=>simp at e
 have L:=C.leave (inv:=inv) (env2:=M.set i (some (reS w A'))) (λa b j ha hb=>by rw[(c a j ha).1,(c b j hb).1]) rfl rfl (λa u e n=>by show ac1 r p inv a=_;rw[aij n];exact e)
  (λa j ha x z=>by rw[(c a j ha).1];exact z.2) (λa j ha=>by rw[(c a j ha).1,(c a j ha).2,R];rfl) J (λa j ha=>⟨A',by rw[(c a j ha).2];rfl⟩) (by simp) λj s' e=>by
   by_cases hj:j=i
   ·subst hj
    rw[aD2,aF5 rfl,aF5 hi] at e
    cases e
    refine .inr ⟨0,A,A',d,rfl,?_⟩
    rcases hs with rfl|rfl
    ·exact .inl ⟨N,rfl⟩
    ·exact .inr ⟨N,rfl⟩
   ·rw[aD2,aF6 (λz=>hj z.symm)] at e
    exact .inl ⟨g j hj,e⟩
 have X:RsX ⟨K,O,r,ac1 r p inv,[some v0],λj a=>j=0/\p i a⟩ G' H' v Fv s (λj a=>j=0/\F' a):=⟨o.ok,λa z=>(o.fv a z).1,λa z=>(o.fv a z).2.1,λa z=>(o.fv a z).2.2.1,λj a z y=>(o.fv a z).2.2.2 y.2⟩
 exact k v G' H' _ Fv s _ L (U.trans o.gg) (X.leave (inv:=inv) C rfl) q
end
def ai6:Option Sl->Option Sl
 |some (.own A)=>some (.io A)
 |s=>s
def aaq(src:List (Option Nat))(env:En):En:=src.map λo=>match o with|some j=>ai6 ((env[j]?).getD none)|none=>none
def isIo:Option Sl->Bool
 |some (.io _)=>true
 |_=>false
def idxE(i:Nat):List (Option Nat)->Nat->Option Nat
 |[],_=>none
 |o::r,k=>if o=some i then some k else idxE i r (k+1)
def aht(src:List (Option Nat))(e:En)(i:Nat)(s:Option Sl):Option Sl :=
 match s with
 |some (.own A)=>(match idxE i src 0 with|some j=>(match e[j]? with|some (some (.io A'))=>some (.own A')|_=>none)|none=>some (.own A))
 |some (.io A)=>(match idxE i src 0 with|some j=>(match e[j]? with|some (some (.io A'))=>some (.io A')|_=>none)|none=>some (.io A))
 |s=>s
def af0(src:List (Option Nat))(e:En):Nat->En->En
 |_,[]=>[]
 |k,s::r=>aht src e k s::af0 src e (k+1) r
def ai7(src:List (Option Nat))(e1 e:En):En:=af0 src e 0 e1
theorem agf(src:List (Option Nat))(e:En):∀(k:Nat)(l:En)(i:Nat),(af0 src e k l)[i]?=(l[i]?).map (aht src e (k+i))
 |_,[],i=>by simp[af0]
 |k,s::r,0=>by simp[af0]
 | k,s::r,i+1=>by
  have:=agf src e (k+1) r i
  simp only[af0,List.getElem?_cons_succ,this]
  rw[show k+1+i=k+(i+1) by lia]
theorem afk:∀{src:List (Option Nat)}{k j:Nat},idxE i src k=some j->k<=j/\src[j-k]?=some (some i)
 |[],_,_,h=>by cases h
 | o::r,k,j,h=>by
  unfold idxE at h
  by_cases e:o=some i
  ·rw[aF5 e] at h;cases h
   exact⟨aA6 _,by simp[e]⟩
  ·rw[aF6 e] at h
   obtain⟨b,a⟩:=afk h
   refine⟨by lia,?_⟩
   rw[show j-k=(j-(k+1))+1 by lia]
   simpa using a
theorem ak0:∀{src:List (Option Nat)}{k:Nat},idxE i src k=none->∀ j:Nat,src[j]? ≠ some (some i)
 |[],_,_,j=>by simp
 | o::r,k,h,j=>by
  unfold idxE at h
  by_cases e:o=some i
  ·rw[aF5 e] at h;cases h
  ·rw[aF6 e] at h
   cases j with
   |zero=>simpa using e
   |succ j=>simpa using ak0 h j
theorem ang:∀(src:List (Option Nat)),(src.filterMap id).Nodup->∀ j j' i:Nat,src[j]?=some (some i)->src[j']?=some (some i)->j=j'
 |[],_,j,_,_,h,_=>by simp at h
 | none::r,h,j,j',i,h1,h2=>by
  cases j with
  |zero=>simp at h1
  | succ j =>
   cases j' with
   |zero=>simp at h2
   |succ j'=>rw[ang r (by simpa using h) j j' i (by simpa using h1) (by simpa using h2)]
 | some x::r,h,j,j',i,h1,h2=>by
  have h':=aI4.mp (show(x::r.filterMap id).Nodup by simpa using h)
  have nm:∀ k,r[k]?=some (some x)->False:=λk b=>h'.1 (List.mem_filterMap.mpr ⟨some x,aA2 b,rfl⟩)
  cases j with
  | zero =>
   have a:x=i:=by simpa using h1
   subst a
   cases j' with
   |zero=>rfl
   |succ j'=>exact(nm j' (by simpa using h2)).elim
  | succ j =>
   cases j' with
   | zero =>
    have a:x=i:=by simpa using h2
    subst a
    exact(nm j (by simpa using h1)).elim
   |succ j'=>rw[ang r h'.2 j j' i (by simpa using h1) (by simpa using h2)]
def ahu:Option Sl->Bool
 |some (.own _)=>true
 |_=>false
def ioLe:En->En->Prop
 |a::r,b::s=>(isIo a=isIo b/\ahu b=false)/\ioLe r s
 |[],[]=>True
 |_,_=>False
theorem anh(h:isIo x=true):∃ A,x=some (.io A):=by
 cases x with
 |none=>simp[isIo] at h
 | some y =>
  cases y with
  |io A=>exact⟨A,rfl⟩
  |_=>simp[isIo] at h
theorem ioLe.get:∀{a b:En}{j:Nat}{x:Option Sl},ioLe a b->a[j]?=some x->isIo x=true->∃ A,b[j]?=some (some (.io A))
 |[],_,_,_,_,e,_=>by simp at e
 |x::r,[],_,_,h,_,_=>h.elim
 | x::r,y::s,0,z,h,e,p=>by
  simp at e;subst e
  have:=h.1.1
  rw[p] at this
  obtain⟨A,q⟩:=anh this.symm
  exact⟨A,by simp[q]⟩
 | x::r,y::s,j+1,z,h,e,p=>by
  obtain⟨A,q⟩:=ioLe.get (j:=j) h.2 (by simpa using e) p
  exact⟨A,by simpa using q⟩
theorem ioLe.got:∀{a b:En}{j:Nat}{x:Option Sl},ioLe a b->b[j]?=some x->(isIo x=true->∃ A,a[j]?=some (some (.io A)))/\ahu x=false
 |[],[],_,_,_,e=>by simp at e
 |[],_::_,_,_,h,e=>h.elim
 |x::r,[],_,_,h,_=>h.elim
 | x::r,y::s,0,z,h,e=>by
  simp at e;subst e
  refine⟨λp=>?_,h.1.2⟩
  have:=h.1.1
  rw[p] at this
  obtain⟨A,q⟩:=anh this
  exact⟨A,by simp[q]⟩
 | x::r,y::s,j+1,z,h,e=>by
  obtain⟨p,q⟩:=ioLe.got (j:=j) (x:=z) h.2 (by simpa using e)
  exact⟨λt=>by obtain⟨A,u⟩:=p t;exact⟨A,by simpa using u⟩,q⟩
section
variable{B:Bs}{G H:Hp}{σ:St}{env:En}{F:Nat->Addr->Prop}
theorem VI.aside(I:VI B G H σ env F){p:Addr}{o:HO}(b:∀ xs,o ≠ .tup xs)(d:G p=none)(hf:∀ j,¬ F j p)(hb:B.H p=none):VI B G (upd H p o) σ env F where
 gh:=λa u e=>by rw[aah (aau e d)];exact I.gh a u e
 g0:=I.g0
 gn:=I.gn
 rs:=λa u e=>by rw[aah (aau e (I.b_r hb))];exact I.rs a u e
 rb:=I.rb
 bh:=λa u e=>by rw[aah (aau e hb)];exact I.bh a u e
 fg:=I.fg
 fr:=I.fr
 fd:=I.fd
 fo:=λj a z=>by rw[aah (λe:a=p=>hf j (e ▸ z))];exact I.fo j a z
 sl:=λi s e=>by
  obtain⟨v,c,q⟩:=I.sl i s e
  exact⟨v,c,q.mono (Same.refl _) λa u z y=>by rw[aah (λe:a=p=>hf i (e ▸ z))];exact y⟩
 ln:=I.ln
 ft:=λa ks e=>by
  by_cases z:a=p
  ·subst z;rw[aam] at e;exact absurd (aC6 e) (b _)
  ·rw[aah z] at e;exact I.ft a ks e
def LcV(K:Frag)(src:List (Option Nat))(g:TG)(tif:TT)(te:TE)(ds:List PyData)(e1:En)(R:List PyData->En->Prop):Prop:=∃ J:Nat->List PyData->En->Prop,J 0 [] (aaq src e1)/\(∀ i ys e,J i ys e->ioLe (aaq src e1) e) /\
 (∀ i d ys e,ds[i]?=some d->J i ys e->∀ B':Bs,B'.K=K->EvG B' g (.st d) e λe2=>EvT B' tif e2 λb e3=>if b=true then Ev B' te e3 λy e4=>ys.length<=999999/\J (i+1) (ys++[y]) e4 else J (i+1) ys e3)/\∀ ys e,J ds.length ys e->R ys (ai7 src e1 e)
theorem ag1{src:List (Option Nat)}{j:Nat}{s:Sl}(h:(aaq src env)[j]?=some (some s)):∃ i t,src[j]?=some (some i)/\env[i]?=some (some t)/\ai6 (some t)=some s:=by
 unfold aaq at h
 rw[aA5] at h
 cases e:src[j]? with
 |none=>rw[e] at h;cases h
 | some o =>
  rw[e] at h
  cases o with
  |none=>cases h
  | some i =>
   simp only[aI1,Option.some.injEq] at h
   cases e2:env[i]? with
   |none=>rw[e2] at h;cases h
   | some o2 =>
    rw[e2] at h
    cases o2 with
    |none=>cases h
    |some t=>exact⟨i,t,rfl,e2,h⟩
theorem ani{src:List (Option Nat)}{i j:Nat}{v:V}(h:src[j]?=some (some i))(a : σ[i]?=some (some v)):(pick src σ)[j]?=some (some v):=by
 unfold pick
 rw[aA5,h]
 simp[a]
theorem atd (nd:(src.filterMap id).Nodup) (h:EvI B wi env λds U=>LcV B.K src g b3 te ds U λys W=>QO (.own (OL ys)) W):EvO B (tLC src wi g b3 te) env QO:=λσ G H F Q I k=>by
 refine h σ G H F _ I λJ G1 H1 F1 ds U I1 g1 it ⟨Jv,j0,a8,js,jd⟩ p S=>?_
 let M:Nat->Bool:=λi=>match U[i]? with|some (some (.own _))=>true|some (some (.io _))=>true|_=>false
 let inv:Nat->Option Nat:=λi=>if M i=true then idxE i src 0 else none
 have E:∀ i j,inv i=some j->src[j]?=some (some i)/\M i=true:=λi j hi=>by
  by_cases hm:M i=true
  ·have f:idxE i src 0=some j:=by simpa[inv,hm] using hi
   have:=(afk f).2
   exact⟨by simpa using this,hm⟩
  ·simp[inv,hm] at hi
 have a2:∀ i j,src[j]?=some (some i)->M i=true->inv i=some j:=λi j hs hm=>by
  have e0:inv i=idxE i src 0:=by simp[inv,hm]
  cases e:idxE i src 0 with
  |none=>exact absurd hs (ak0 e j)
  | some j' =>
   have:=(afk e).2
   rw[e0,e,ang src nd j j' i hs (by simpa using this)]
 have inj:∀ i c j,inv i=some j->inv c=some j->i=c:=λi c j Y C=>by
  have a:=(E i j Y).1
  rw[(E c j C).1] at a
  simpa using a.symm
 have b2:∀ i,M i=true->∃ A,U[i]?=some (some (.own A))\/U[i]?=some (some (.io A)):=λi hm=>by
  cases e:U[i]? with
  |none=>simp[M,e] at hm
  | some o =>
   cases o with
   |none=>simp[M,e] at hm
   | some s =>
    cases s with
    |own A=>exact⟨A,.inl rfl⟩
    |io A=>exact⟨A,.inr rfl⟩
    |st d=>simp[M,e] at hm
    |scr ns=>simp[M,e] at hm
 have b5:∀ i ys e,Jv i ys e->∀ c j,inv c=some j->∃ A,e[j]?=some (some (.io A)):=λi ys e hj c j hi=>by
  obtain⟨hs,hm⟩:=E c j hi
  obtain⟨A,P⟩:=b2 c hm
  refine(a8 i ys e hj).get (x:=some (.io A)) ?_ rfl
  unfold aaq
  rw[aA5,hs]
  rcases P with P|P <;> simp[P,ai6]
 -- between two turns
 let Wv:Nat->List V->St->Hp->Prop:=λi ys σI H=>∃ G2 F2 e env2 yd,VI B G2 H σ env2 F2/\Same G1 G2/\H p=some (.lst ys)/\Rps G2 ys yd/\G2 p=none/\(∀ j,¬ F2 j p)/\Jv i yd e/\σI.length=e.length/\env2.length=U.length /\
  (∀ j s,e[j]?=some (some s)->∃ v,σI[j]?=some (some v)/\((∃ d,s=.st d/\Rp G2 v d/\∀ i,inv i ≠ some j)\/(∃ ns a,s=.scr ns/\v=.ref a/\SqL B.K G2 a (ns.map V.int)/\∀ i,inv i ≠ some j) ∨
   ∃ i A,inv i=some j/\s=.io A/\σ[i]?=some (some v)/\(env2[i]?=some (some (.own A))\/env2[i]?=some (some (.io A))))) /\
  (∀ i,inv i=none->env2[i]?=U[i]?)/\(∀ i j,inv i=some j->∃ A0 A,e[j]?=some (some (.io A))/\((U[i]?=some (some (.own A0))/\env2[i]?=some (some (.own A)))\/(U[i]?=some (some (.io A0))/\env2[i]?=some (some (.io A)))))
 have hb:B.H p=none:=I1.no_b S
 refine⟨λi m ys σI H=>m=ds.length-i/\i<=ds.length/\Wv i ys σI H,⟨ds.length,by simp,aG0 _,?_⟩,?_⟩
 ·refine⟨G1,F1,aaq src U,U,[],I1.aside (λ_ z=>nomatch z) (I1.no_g S) (I1.no_f S) hb,Same.refl _,aam,.nil,I1.no_g S,I1.no_f S,j0,by simp[pick,aaq],rfl,λj s e=>?_,λ_ _=>rfl,λi j hi=>?_⟩
  ·obtain⟨i,t,hs,ht,hp⟩:=ag1 e
   obtain⟨v,hv,q⟩:=I1.sl i t ht
   refine⟨v,ani hs hv,?_⟩
   cases t with
   | st d =>
    cases hp
    refine .inl ⟨d,rfl,q.1,λc f=>?_⟩
    have a:=(E c j f).1
    rw[hs] at a
    have:i=c:=by simpa using a
    subst this
    have:=(E i j f).2
    simp[M,ht] at this
   | scr ns =>
    cases hp
    obtain⟨⟨a,ea,sq⟩,_⟩:=q
    refine .inr (.inl ⟨ns,a,rfl,ea,sq,λc f=>?_⟩)
    have a:=(E c j f).1
    rw[hs] at a
    have:i=c:=by simpa using a
    subst this
    have:=(E i j f).2
    simp[M,ht] at this
   |own A=>cases hp;exact .inr (.inr ⟨i,A,a2 i j hs (by simp[M,ht]),rfl,hv,.inl ht⟩)
   |io A=>cases hp;exact .inr (.inr ⟨i,A,a2 i j hs (by simp[M,ht]),rfl,hv,.inr ht⟩)
  ·obtain⟨hs,hm⟩:=E i j hi
   obtain⟨A,P⟩:=b2 i hm
   refine⟨A,A,?_,?_⟩
   ·unfold aaq
    rw[aA5,hs]
    rcases P with P|P <;> simp[P,ai6]
   ·rcases P with P|P
    ·exact .inl ⟨P,P⟩
    ·exact .inr ⟨P,P⟩
 ·rintro i m ys σI H2 ⟨rfl,hi,G2,F2,e,env2,yd,I2,g2,a4,ry,ga,fa,jv,ln,c0,sl,un,mv⟩
  refine⟨a4,?_⟩
  by_cases hlt:i<ds.length
  ·refine .inr ⟨it.go i G2 H2 g2 I2.gh hlt,Wv (i+1),λa1 c3 H' hw=>⟨ds.length-(i+1),by lia,rfl,hlt,hw⟩,λx H3 y=>?_⟩
   obtain⟨G3,o⟩:=it.yld i G2 H2 x H3 _ g2 I2.gh I2.ft (aA0 hlt) y
   obtain⟨I3,X3⟩:=I2.out o
   have a7:=o.hh _ _ a4
   have b0:=fa
   have c2:G3 p=none:=by
    cases e':G3 p with
    |none=>rfl
    | some u =>
     rcases o.gn p u e' with q|q
     ·rw[ga] at q;cases q
     ·rw[a4] at q;cases q
   have b6:∀ j s,e[j]?=some (some s)->∃ v,σI[j]?=some (some v)/\((∃ d,s=.st d/\Rp G3 v d/\∀ i,inv i ≠ some j)\/(∃ ns a,s=.scr ns/\v=.ref a/\SqL B.K G3 a (ns.map V.int)/\∀ i,inv i ≠ some j) ∨
     ∃ i A,inv i=some j/\s=.io A/\σ[i]?=some (some v)/\(env2[i]?=some (some (.own A))\/env2[i]?=some (some (.io A)))):=λj s es=>by
    obtain⟨v,hv,q⟩:=sl j s es
    refine⟨v,hv,?_⟩
    rcases q with ⟨d,a9,r,n⟩|⟨ns,a,a9,b7,r,n⟩|q
    ·exact .inl ⟨d,a9,r.same o.gg,n⟩
    ·exact .inr (.inl ⟨ns,a,a9,b7,o.gg.seq r,n⟩)
    ·exact .inr (.inr q)
   have E3:=I3.enter (inv:=inv) (σI:=σI) (envI:=e) inj ln b6
   -- back from the turn
   have fin:∀(R:St)(G4 H4:Hp)(F4:Nat->Addr->Prop)(e4:En)(a3:List PyData)(a1:List V)(o4:HO),VI ⟨B.K,G3,H3,ac1 H3 F2 inv,σI,λj a=>∃ i,inv i=some j/\F2 i a⟩ G4 H4 R e4 F4->Jv (i+1) a3 e4->Rps G4 a1 a3 ->
     Wv (i+1) a1 R (upd H4 p (.lst a1))/\H4 p=some (.lst ys):=by
    intro R G4 H4 F4 e4 a3 a1 o4 I4 j4 r4
    have Z:=b5 (i+1) a3 e4 j4
    have b8:H4 p=some (.lst ys):=I4.rs p _ (by show ac1 H3 F2 inv p=_;rw[aij (λc _ _=>b0 c)];exact a7)
    have b4:G4 p=none:=by
     cases e':G4 p with
     |none=>rfl
     | some u =>
      rcases I4.gn p u e' with q|q
      ·change G3 p=_ at q;rw[c2] at q;cases q
      ·change H3 p=_ at q;rw[a7] at q;cases q
    -- the slots of the outer frame
    let D:En:=(List.range env2.length).map λc=>match inv c with
     |some j=>(match env2[c]?,e4[j]? with|some (some (.own _)),some (some (.io A))=>some (.own A)|some (some (.io _)),some (some (.io A))=>some (.io A)|_,_=>none)
     |none=>(env2[c]?).getD none
    have O:∀ c,c<env2.length->D[c]?=some (match inv c with
     |some j=>(match env2[c]?,e4[j]? with|some (some (.own _)),some (some (.io A))=>some (.own A)|some (some (.io _)),some (some (.io A))=>some (.io A)|_,_=>none)
     |none=>(env2[c]?).getD none):=λc hl=>by
     simp only[D,aA5]
     rw[aA0 (by simpa using hl)]
     simp
    have L:=I3.leave (inv:=inv) (env2:=D) inj rfl rfl (λa u q n=>by show ac1 H3 F2 inv a=_;rw[aij n];exact q) (λc j f a z=>by obtain⟨X,Y,C⟩:=z;rw[inj c X j f Y];exact C)
     (λc j f=>by
      obtain⟨A0,A,Y,C⟩:=mv c j f
      obtain⟨v,hv,q⟩:=sl j _ Y
      rcases q with ⟨d,q,_⟩|⟨ns,a,q,_⟩|⟨X,b9,q1,q2,q3,_⟩
      ·cases q
      ·cases q
      ·rw[inj c X j f q1]
       show σI[j]?=_
       rw[hv,q3]) I4 Z (by simp[D]) (λc s es=>by
      have hl:c<env2.length:=by
       have:=(aA1.mp es).1
       simpa[D] using this
      rw[O c hl] at es
      cases f:inv c with
      | none =>
       refine .inl ⟨rfl,?_⟩
       rw[f] at es
       simp only[Option.some.injEq] at es
       cases q:env2[c]? with
       |none=>rw[q] at es;cases es
       |some u=>rw[q] at es;simp at es;rw[es]
      | some j =>
       rw[f] at es
       obtain⟨A',T⟩:=Z c j f
       obtain⟨A0,A,Y,C⟩:=mv c j f
       simp only[T] at es
       rcases C with ⟨_,C⟩|⟨_,C⟩
       ·rw[C] at es
        simp only[Option.some.injEq] at es
        exact .inr ⟨j,A,A',rfl,T,.inl ⟨C,es.symm⟩⟩
       ·rw[C] at es
        simp only[Option.some.injEq] at es
        exact .inr ⟨j,A,A',rfl,T,.inr ⟨C,es.symm⟩⟩)
    have b1:∀ j,¬ (match inv j with|some j=>F4 j p|none=>F2 j p):=λj z=>by
     cases hj:inv j with
     |none=>rw[hj] at z;exact b0 j z
     | some l =>
      rw[hj] at z
      obtain⟨A',T⟩:=Z j l hj
      obtain⟨v,_,q⟩:=I4.sl l _ T
      rcases q.2.1 p z with ⟨X,_,q⟩|q
      ·exact b0 X q
      ·change H3 p=_ at q;rw[a7] at q;cases q
    refine⟨⟨G4,_,e4,D,a3,L.aside (λ_ z=>nomatch z) b4 b1 hb,g2.trans (o.gg.trans I4.g0),aam,r4,b4,b1,j4,I4.ln,by simp[D,c0],λj s es=>?_,λc f=>?_,λc j f=>?_⟩,b8⟩
    ·obtain⟨v,hv,q⟩:=I4.sl j s es
     refine⟨v,hv,?_⟩
     have a5:(∀ A,s ≠ .io A)->∀ c,inv c ≠ some j:=λhn c f=>by
      obtain⟨A,P⟩:=Z c j f
      rw[es] at P
      exact hn A (by simpa using P)
     cases s with
     |st d=>exact .inl ⟨d,rfl,q.1,a5 (by intro A z;cases z)⟩
     | scr ns =>
      obtain⟨⟨a,ea,sq⟩,_⟩:=q
      exact .inr (.inl ⟨ns,a,rfl,ea,sq,a5 (by intro A z;cases z)⟩)
     | own A =>
      have:=((a8 _ _ _ j4).got es).2
      simp[ahu] at this
     | io A =>
      obtain⟨A0,h0⟩:=((a8 _ _ _ j4).got es).1 rfl
      obtain⟨c,t,hs,ht,hp⟩:=ag1 h0
      have hm:M c=true:=by
       cases t with
       |own A=>simp[M,ht]
       |io A=>simp[M,ht]
       |st d=>cases hp
       |scr ns=>cases hp
      have f:=a2 c j hs hm
      obtain⟨B0,A1,Y,C⟩:=mv c j f
      have hl:c<env2.length:=by
       rcases C with ⟨_,C⟩|⟨_,C⟩ <;> exact(aA1.mp C).1
      refine .inr (.inr ⟨c,A,f,rfl,?_,?_⟩)
      ·have hS : σI[j]?=some (some v):=q.2.2
       obtain⟨v',c1,q'⟩:=sl j _ Y
       rcases q' with ⟨d,q',_⟩|⟨ns,a,q',_⟩|⟨X,b9,q1,q2,q3,_⟩
       ·cases q'
       ·cases q'
       ·rw[inj c X j f q1,q3,← c1,hS]
      ·rw[O c hl,f]
       simp only[es]
       rcases C with ⟨_,C⟩|⟨_,C⟩
       ·rw[C];exact .inl rfl
       ·rw[C];exact .inr rfl
    ·by_cases hl:c<env2.length
     ·rw[O c hl,f]
      simp only
      rw[← un c f]
      rw[aA0 hl];rfl
     ·rw[aF7.mpr (by simp[D];lia),← un c f,aF7.mpr (by lia)]
    ·obtain⟨A',T⟩:=Z c j f
     obtain⟨A0,A,Y,C⟩:=mv c j f
     have hl:c<env2.length:=by
      rcases C with ⟨_,C⟩|⟨_,C⟩ <;> exact(aA1.mp C).1
     refine⟨A0,A',T,?_⟩
     rw[O c hl,f]
     simp only[T]
     rcases C with ⟨h3,C⟩|⟨h3,C⟩
     ·rw[C];exact .inl ⟨h3,rfl⟩
     ·rw[C];exact .inr ⟨h3,rfl⟩
   have hd:ds[i]?=some ds[i]:=aA0 hlt
   refine js i _ yd e hd jv ⟨B.K,G3,H3,ac1 H3 F2 inv,σI,λj a=>∃ i,inv i=some j/\F2 i a⟩ rfl σI G3 H3 _ x _ _ E3 (adp o.ok.1) λR G4 H4 F4 e4 I4 g4 q4=>?_
   refine q4 R G4 H4 F4 _ I4 λb G5 H5 F5 e5 I5 g5 q5=>?_
   cases b with
   | false =>
    rw[aF6 aB0] at q5 ⊢
    obtain⟨w,ac⟩:=fin R G5 H5 F5 e5 yd ys (.lst ys) I5 q5 (ry.same (o.gg.trans (g4.trans g5)))
    have:upd H5 p (.lst ys)=H5:=by
     funext b
     unfold upd
     split
     ·rename_i hb';rw[hb'];exact ac.symm
     ·rfl
    rw[this] at w
    exact w
   | true =>
    rw[aF5 rfl] at q5 ⊢
    refine q5 R G5 H5 F5 _ I5 λy G6 H6 F6 d6 e6 I6 g6 r6 q6=>?_
    obtain⟨w,ac⟩:=fin R G6 H6 F6 e6 (yd++[d6]) (ys++[y]) (.lst ys) I6 q6.2 ((ry.same (o.gg.trans (g4.trans (g5.trans g6)))).append (.cons r6 .nil))
    exact⟨ac,by rw[ry.length];exact big (by have:=q6.1;lia),w⟩
  ·have ei:i=ds.length:=by lia
   subst ei
   refine .inl ⟨it.stop _ G2 H2 g2 I2.gh rfl,?_⟩
   have q:=jd yd e jv
   have eb:ai7 src U e=env2:=by
    apply aG2
    intro c
    unfold ai7
    rw[agf,Nat.zero_add]
    have N:M c=false->env2[c]?=U[c]?:=λhm=>un c (by simp[inv,hm])
    cases W:U[c]? with
    | none =>
     rw[N (by simp[M,W]),W];rfl
    | some o =>
     cases o with
     |none=>rw[N (by simp[M,W]),W];rfl
     | some t =>
      have a6:∀ A,(t=.own A\/t=.io A)->M c=true:=λA h=>by rcases h with rfl|rfl <;> simp[M,W]
      cases t with
      |st d=>rw[N (by simp[M,W]),W];rfl
      |scr ns=>rw[N (by simp[M,W]),W];rfl
      | own A =>
       have hm:=a6 A (.inl rfl)
       simp only[aI1,aht]
       cases e3:idxE c src 0 with
       | none =>
        have:inv c=none:=by simp[inv,e3]
        rw[un c this,W]
       | some j =>
        have f:inv c=some j:=by simp[inv,hm,e3]
        obtain⟨A0,A1,Y,C⟩:=mv c j f
        simp only[Y]
        rcases C with ⟨h3,C⟩|⟨h3,C⟩
        ·rw[C]
        ·rw[W] at h3;cases h3
      | io A =>
       have hm:=a6 A (.inr rfl)
       simp only[aI1,aht]
       cases e3:idxE c src 0 with
       | none =>
        have:inv c=none:=by simp[inv,e3]
        rw[un c this,W]
       | some j =>
        have f:inv c=some j:=by simp[inv,hm,e3]
        obtain⟨A0,A1,Y,C⟩:=mv c j f
        simp only[Y]
        rcases C with ⟨h3,C⟩|⟨h3,C⟩
        ·rw[W] at h3;cases h3
        ·rw[C]
   rw[eb] at q
   refine k (.ref p) G2 H2 F2 (· = p) (.own (OL yd)) env2 I2 (g1.trans g2) ⟨⟨p,ys,rfl,a4,ry,λb=>Iff.rfl⟩,λa z=>by rw[z];exact hb,λa z=>by rw[z];exact ga,λa z=>by rw[z];exact⟨_,a4⟩,λj a z=>by rw[z];exact fa j⟩ q
end
def noIo(e:En):Bool:=e.all λs=>!isIo s
theorem avm{e:En}{j:Nat}{x:Option Sl}(h:noIo e=true)(a:e[j]?=some x):isIo x=false:=by
 have:=aF4.mp h x (aA2 a)
 simpa using this
theorem ahv(h:noIo (aaq src b)=true):ai7 src b e=b:=by
 apply aG2
 intro i
 unfold ai7
 rw[agf,Nat.zero_add]
 cases e2:b[i]? with
 |none=>rfl
 | some o =>
  have a:∀ A,(o=some (.own A)\/o=some (.io A))->idxE i src 0=none:=λA c=>by
   cases e3:idxE i src 0 with
   |none=>rfl
   | some j =>
    have hs:=(afk e3).2
    have:(aaq src b)[j]?=some (some (.io A)):=by
     unfold aaq
     rw[aA5,show src[j]?=some (some i) by simpa using hs]
     rcases c with rfl|rfl <;> simp[e2,ai6]
    have:=avm h this
    simp[isIo] at this
  cases o with
  |none=>rfl
  | some t =>
   cases t with
   |st d=>rfl
   |scr ns=>rfl
   |own A=>simp only[aI1,aht,a A (.inl rfl)]
   |io A=>simp only[aI1,aht,a A (.inr rfl)]
def stO:Option PyData->Option Sl:=Option.map Sl.st
theorem isIo_stO:isIo (stO o)=false:=by cases o <;> rfl
theorem ady:ahu (stO o)=false:=by cases o <;> rfl
theorem aeg:∀ x∈aaq src a,ahu x=false:=by
 intro x b
 unfold aaq at b
 obtain⟨o,_,rfl⟩:=aB7.mp b
 cases o with
 |none=>rfl
 | some j =>
  dsimp only
  cases (a[j]?).getD none with
  |none=>rfl
  |some t=>cases t <;> rfl
theorem aem:∀{e:En},(∀ x∈e,ahu x=false)->ioLe e e
 |[],_=>True.intro
 |x::r,h=>⟨⟨rfl,h x aB8⟩,aem λy a=>h y (aB5 _ a)⟩
section
variable{B:Bs}{env:En}{g:TG}{tif:TT}{te:TE}{K:Frag}{src:List (Option Nat)}{ds:List PyData}{e1:En}{R:List PyData->En->Prop}
theorem aik(f:PyData->PyData)(p:PyData->Bool)(g:noIo (aaq src e1)=true)(B:ds.length<=999999)
  (h:∀ d∈ds,∀ a:Bs,a.K=K->EvT a tif (some (.st d)::aaq src e1) λb j=>b=p d/\j=some (.st d)::aaq src e1/\(b=true->Ev a te (some (.st d)::aaq src e1) λy n=>y=f d/\n=some (.st d)::aaq src e1))
  (z:R ((ds.filter p).map f) e1):LcV K (none::src) (aa0 0) tif te ds e1 R:=by
 have c:noIo (aaq (none::src) e1)=true:=by
  show((none::aaq src e1).all λs=>!isIo s)=true
  rw[List.all_cons]
  exact(aH1 _ _).mpr ⟨rfl,g⟩
 refine⟨λi ys e=>ys=((ds.take i).filter p).map f/\∃ o,e=stO o::aaq src e1,⟨by simp,none,rfl⟩,?_,?_,?_⟩
 ·rintro i ys e ⟨_,o,rfl⟩
  exact⟨⟨isIo_stO.symm,ady⟩,aem aeg⟩
 ·rintro i d ys e hd ⟨rfl,o,rfl⟩ a w
  have hi:i<ds.length:=(aA1.mp hd).1
  have r:ds.take (i+1)=ds.take i++[d]:=by rw[aH4,hd];rfl
  refine aa4 ?_
  show EvT a tif (some (.st d)::aaq src e1) _
  intro σ G H F Q I k
  refine h d (aA2 hd) a w σ G H F Q I λb G' H' F' j l g' ⟨hb,u,A⟩=>k b G' H' F' j l g' ?_
  subst u
  by_cases hp:b=true
  ·rw[aF5 hp]
   intro σ G H F Q I k
   refine A hp σ G H F Q I λv G' H' F' d' n l g' x ⟨t,q⟩=>k v G' H' F' d' n l g' x ?_
   subst t q
   refine⟨?_,?_,some d,rfl⟩
   ·have:=aF3 p (ds.take i)
    simp only[aA3]
    have C:(ds.take i).length<=i:=by simp;lia
    lia
   ·rw[r,List.filter_append,aE5]
    have:p d=true:=by rw[← hb];exact hp
    simp[this]
  ·rw[aF6 hp]
   refine⟨?_,some d,rfl⟩
   rw[r,List.filter_append,aE5]
   have:p d=false:=by rw[← hb];simpa using hp
   simp[this]
 ·rintro ys e ⟨rfl,o,rfl⟩
  rw[ahv c,aG8]
  exact z
theorem ai8{α:Type}(xs:List α):xs.filter (λ_=>true)=xs:=by simp
theorem ap2(f:PyData->PyData)(b:noIo (aaq src e1)=true)(g:ds.length<=999999)
  (h:∀ d∈ds,∀ a:Bs,a.K=K->Ev a te (some (.st d)::aaq src e1) λy c=>y=f d/\c=some (.st d)::aaq src e1)
  (i:R (ds.map f) e1):LcV K (none::src) (aa0 0) tYes te ds e1 R :=
 aik f (λ_=>true) b g (λd hd a j=>aew ⟨rfl,rfl,λ_=>h d hd a j⟩) (by rw[ai8];exact i)
theorem agg{C:Frag}{α:Type}{xs:List α}{fa fb : α->PyData}(f : α->PyData)(p : α->Bool)(g:noIo (aaq src e1)=true)(D:xs.length<=999999)
  (h:∀ x∈xs,∀ a:Bs,a.K=K->EvT a tif (some (.st (fa x))::some (.st (fb x))::aaq src e1) λb j=>b=p x/\j=some (.st (fa x))::some (.st (fb x))::aaq src e1/\(b=true->Ev a te (some (.st (fa x))::some (.st (fb x))::aaq src e1) λy n=>y=f x/\n=some (.st (fa x))::some (.st (fb x))::aaq src e1))
  (A:R ((xs.filter p).map f) e1):LcV K (none::none::src) (gTup C 2 (abz (aa0 0) (abz (aa0 1) gNil))) tif te (xs.map λx=>.tuple [fa x,fb x]) e1 R:=by
 have c:noIo (aaq (none::none::src) e1)=true:=by
  show((none::none::aaq src e1).all λs=>!isIo s)=true
  rw[List.all_cons,List.all_cons]
  exact(aH1 _ _).mpr ⟨rfl,(aH1 _ _).mpr ⟨rfl,g⟩⟩
 refine⟨λi ys e=>ys=((xs.take i).filter p).map f/\∃ o o',e=stO o::stO o'::aaq src e1,⟨by simp,none,none,rfl⟩,?_,?_,?_⟩
 ·rintro i ys e ⟨_,o,o',rfl⟩
  exact⟨⟨isIo_stO.symm,ady⟩,⟨isIo_stO.symm,ady⟩,aem aeg⟩
 ·rintro i d ys e hd ⟨rfl,o,o',rfl⟩ a w
  rw[aA5] at hd
  cases hx:xs[i]? with
  |none=>rw[hx] at hd;cases hd
  | some x =>
   rw[hx] at hd
   cases hd
   have hi:i<xs.length:=(aA1.mp hx).1
   have r:xs.take (i+1)=xs.take i++[x]:=by rw[aH4,hx];rfl
   refine ahr rfl (ade (aa4 (ade (aa4 (agc ?_)))))
   show EvT a tif (some (.st (fa x))::some (.st (fb x))::aaq src e1) _
   intro σ G H F Q I k
   refine h x (aA2 hx) a w σ G H F Q I λb G' H' F' j l g' ⟨hb,u,B⟩=>k b G' H' F' j l g' ?_
   subst u
   by_cases hp:b=true
   ·rw[aF5 hp]
    intro σ G H F Q I k
    refine B hp σ G H F Q I λv G' H' F' d' n l g' z ⟨t,q⟩=>k v G' H' F' d' n l g' z ?_
    subst t q
    refine⟨?_,?_,some _,some _,rfl⟩
    ·have:=aF3 p (xs.take i)
     simp only[aA3]
     have E:(xs.take i).length<=i:=by simp;lia
     lia
    ·rw[r,List.filter_append,aE5]
     have:p x=true:=by rw[← hb];exact hp
     simp[this]
   ·rw[aF6 hp]
    refine⟨?_,some _,some _,rfl⟩
    rw[r,List.filter_append,aE5]
    have:p x=false:=by rw[← hb];simpa using hp
    simp[this]
 ·rintro ys e ⟨rfl,o,o',rfl⟩
  rw[ahv c]
  simpa using A
end
section
variable{R:Sl->Prop}
theorem ayq{g:Int->Int->Int}{i j:Int}(h:R (.st (.int (g i j)))):Op2 (rI0 λi j=>.int (g i j)) (.int i) (.int j) R:=λG H d c Q gh a b k=>by
 cases a;cases b
 exact⟨i,j,rfl,rfl,k _ _ _ _ _ (Out.refl gh (.int _)) h⟩
theorem ayr{g:Int->Int->Bool}{i j:Int}(h:R (.st (.bool (g i j)))):Op2 (rI0 λi j=>.bl (g i j)) (.int i) (.int j) R:=λG H d c Q gh a b k=>by
 cases a;cases b
 exact⟨i,j,rfl,rfl,k _ _ _ _ _ (Out.refl gh (.bl _)) h⟩
theorem a1r{C:Int->Int->Prop}{g:Int->Int->Int}{i j:Int}(b:C i j)(h:R (.st (.int (g i j)))):Op2 (rI C λi j=>.int (g i j)) (.int i) (.int j) R:=λG H f d Q gh a c k=>by
 cases a;cases c
 exact⟨i,j,rfl,rfl,b,k _ _ _ _ _ (Out.refl gh (.int _)) h⟩
theorem a1s{g:Int->Int}{i:Int}(h:R (.st (.int (g i)))):Op1 (rU λi=>.int (g i)) (.int i) R:=λG H b Q gh a k=>by
 cases a
 exact⟨i,rfl,k _ _ _ _ _ (Out.refl gh (.int _)) h⟩
theorem ays(h:R (.st (.bool (decide (i=j))))):Op2 rEq (.int i) (.int j) R:=λG H d c Q gh a b k=>by
 cases a;cases b
 exact asv (k _ _ _ _ _ (Out.refl gh (.bl _)) h)
theorem ayt(h:R (.st (.bool (!decide (i=j))))):Op2 rNe (.int i) (.int j) R:=λG H d c Q gh a b k=>by
 cases a;cases b
 exact a05 (k _ _ _ _ _ (Out.refl gh (.bl _)) h)
theorem ayu(h:R (.st (.bool (decide (i=j))))):Op2 rEq (.bool i) (.bool j) R:=λG H d c Q gh a b k=>by
 cases a;cases b
 exact a06 (k _ _ _ _ _ (Out.refl gh (.bl _)) h)
theorem ayv(b:aap x=true)(a:aap y=true)(hd:x.depth<=60)(h:R (.st (.bool (PyData.eqv x y)))):Op2 rEqD x y R:=λG H g f Q gh c d k =>
 ⟨x,y,(c.rep b).same gh,(d.rep a).same gh,b,a,hd,k _ _ _ _ _ (Out.refl gh (.bl _)) h⟩
theorem ahw(b:aap x=true)(a:aap y=true)(hd:x.depth<=60)(h:R (.st (.bool (!PyData.eqv x y)))):Op2 rNeD x y R:=λG H g f Q gh c d k =>
 ⟨x,y,(c.rep b).same gh,(d.rep a).same gh,b,a,hd,k _ _ _ _ _ (Out.refl gh (.bl _)) h⟩
theorem adz(c:aap x=true)(b:plainDs es=true)(hd:x.depth<=60)(h:R (.st (.bool (if a then !es.any (λz=>PyData.eqv z x) else es.any (λz=>PyData.eqv z x))))):Op2 (rInD a) x (.list es) R:=λG H i g Q gh d f k =>
 ⟨x,es,(d.rep c).same gh,.inl ((f.rep (by simpa[aap] using b)).same gh),c,b,hd,k _ _ _ _ _ (Out.refl gh (.bl _)) h⟩
theorem avn(c:aap x=true)(b:plainDs es=true)(hd:x.depth<=60)(h:R (.st (.bool (if a then !es.any (λz=>PyData.eqv z x) else es.any (λz=>PyData.eqv z x))))):Op2 (rInD a) x (.tuple es) R:=λG H i g Q gh d f k =>
 ⟨x,es,(d.rep c).same gh,.inr ((f.rep (by simpa[aap] using b)).same gh),c,b,hd,k _ _ _ _ _ (Out.refl gh (.bl _)) h⟩
theorem Rps.at(r:Rps G vs ds)(h:atI ds i=some d):∃ v,atI vs i=some v/\Rp G v d:=by
 unfold atI at h ⊢
 rw[r.length]
 cases e:ixN ds.length i with
 |none=>rw[e] at h;cases h
 | some j =>
  rw[e] at h
  exact r.get h
theorem ayw(hd:atI ds i=some d)(h:R (.st d)):Op2 (aca K) (.list ds) (.int i) R:=λG H j g Q gh b c k=>by
 cases c
 cases b with
 | lst ha rs =>
  obtain⟨v,a,f⟩:=rs.at hd
  exact af9 (gh _ _ ha) a (k _ _ _ _ _ (Out.refl gh f) h)
theorem ayx(hd:atI ds i=some d)(h:R (.st d)):Op2 (aca K) (.tuple ds) (.int i) R:=λG H j g Q gh b c k=>by
 cases c
 cases b with
 | tup ha rs =>
  obtain⟨v,a,f⟩:=rs.at hd
  exact amz (gh _ _ ha) a (k _ _ _ _ _ (Out.refl gh f) h)
def isNone:PyData->Bool
 | .none=>true
 |_=>false
theorem ayy(r:Rp G v x):decide (v=.non)=isNone x:=by cases r <;> rfl
theorem ayz(h:R (.st (.bool (isNone x)))):Op2 rIsN x .none R:=λG H d c Q gh a b k=>by
 cases b
 refine⟨rfl,?_⟩
 rw[ayy a]
 exact k _ _ _ _ _ (Out.refl gh (.bl _)) h
theorem ay0(c:xs.length+ys.length<=1000000)(h:R (.own (OL (xs++ys)))):Op2 rCat (.list xs) (.list ys) R:=λG H g f Q gh a d k=>by
 cases a with
 | lst ha ra =>
  cases d with
  | lst hb rb =>
   refine a09 (gh _ _ ha) (gh _ _ hb) ?_ λp b=>k _ _ _ _ _ (Out.newL gh b (ra.append rb)) h
   rw[ra.length,rb.length];exact aG5 (big c)
theorem ay1(a : -(2 ^ 63)<=n)(g:n<2 ^ 63)(d:xs.length * n.toNat<=1000000)(h:R (.own (OL (List.replicate n.toNat xs).flatten))):Op2 rRep (.list xs) (.int n) R:=λG H j i Q gh b f k=>by
 cases f
 cases b with
 | lst ha ra =>
  refine⟨_,n,_,rfl,rfl,gh _ _ ha,a,g,?_,λp c=>k _ _ _ _ _ (Out.newL gh c (ra.rep _)) h⟩
  rw[ra.length];exact aG5 (big d)
theorem avo(h:R (.st (.int xs.length))):OpA (rLen K) [.list xs] R:=λG H vs Q gh rs k=>by
 cases rs with
 | cons r t =>
  cases t
  cases r with
  | lst ha ra =>
   refine apl (gh _ _ ha) ?_
   rw[ra.length]
   exact k _ _ _ _ _ (Out.refl gh (.int _)) h
theorem avp(h:R (.st (.int xs.length))):OpA (rLen K) [.tuple xs] R:=λG H vs Q gh rs k=>by
 cases rs with
 | cons r t =>
  cases t
  cases r with
  | tup ha ra =>
   refine ax6 (gh _ _ ha) ?_
   rw[ra.length]
   exact k _ _ _ _ _ (Out.refl gh (.int _)) h
theorem avq(h:R (.st (.int (if j > i then j else i)))):OpA al3 [.int i,.int j] R:=λG H vs Q gh rs k=>by
 obtain rfl:vs=[V.int i,V.int j]:=Rps.ints_inv (ns:=[i,j]) rs
 exact apm (k _ _ _ _ _ (Out.refl gh (.int _)) h)
theorem avr(h:R (.st (.int (if j<i then j else i)))):OpA al4 [.int i,.int j] R:=λG H vs Q gh rs k=>by
 obtain rfl:vs=[V.int i,V.int j]:=Rps.ints_inv (ns:=[i,j]) rs
 exact apn (k _ _ _ _ _ (Out.refl gh (.int _)) h)
theorem ach(a:ns ≠ [])(h:∀ m,ad4 ns m->R (.st (.int m))):OpA (afh K) [.list (ns.map .int)] R:=λG H vs Q gh rs k=>by
 cases rs with
 | cons r t =>
  cases t
  cases r with
  | lst ha ra =>
   have:=Rps.ints_inv ra
   subst this
   exact⟨_,ns,rfl,.inl (SqL.of (gh _ _ ha)),a,λm hm=>k _ _ _ _ _ (Out.refl gh (.int _)) (h m hm)⟩
theorem anj(a:ns ≠ [])(h:∀ m,arb ns m->R (.st (.int m))):OpA (arc K) [.list (ns.map .int)] R:=λG H vs Q gh rs k=>by
 cases rs with
 | cons r t =>
  cases t
  cases r with
  | lst ha ra =>
   have:=Rps.ints_inv ra
   subst this
   exact⟨_,ns,rfl,.inl (SqL.of (gh _ _ ha)),a,λm hm=>k _ _ _ _ _ (Out.refl gh (.int _)) (h m hm)⟩
end
section
variable{B:Bs}{env:En}{QO:Sl->En->Prop}{Q':PyData->En->Prop}{te tl th:TE}{K:Frag}
end
def agh:PyData->Bool
 | .none | .bool _ | .int _ | .str _=>true
 |_=>false
theorem aj7(r:Rp G v d)(h:agh d=true):Rp G' v d:=by
 cases r with
 |non=>exact .non
 |bl b=>exact .bl b
 |int i=>exact .int i
 |str x=>exact .str x
 |_=>simp[agh] at h
def Has(env:En)(i:Nat)(A:Own):Prop:=env[i]?=some (some (.own A))\/env[i]?=some (some (.io A))
section
variable{B:Bs}{env:En}{QO:Sl->En->Prop}{Q':PyData->En->Prop}{QT:Bool->En->Prop}{QE:En->Prop}{te ta tb tk:TE}{K:Frag}{i:Nat}
theorem VI.has(I:VI B G H σ env F)(h:Has env i A):∃ v,σ[i]?=some (some v)/\A.P G H v (F i):=by
 rcases h with h|h
 ·obtain⟨v,a,q⟩:=I.sl i _ h;exact⟨v,a,q.1⟩
 ·obtain⟨v,a,q⟩:=I.sl i _ h;exact⟨v,a,q.1⟩
theorem VI.moment(I:VI B G H σ env F)(g:Same G c)(o:Out c H v b H3 s Fv):∃ d,Same G d/\VI B d H3 σ env F:=by
 refine⟨λa=>if H a=none then b a else G a,λa u e=>?_,I.grow (λa u e=>?_) (λa u e=>?_) o.hh (λa u e=>?_) λa ks e=>?_⟩
 ·show(if H a=none then b a else G a)=some u;rw[aF6 (by rw[I.gh a u e];simp)];exact e
 ·rw[aF6 (by rw[I.gh a u e];simp)];exact e
 ·by_cases h:H a=none
  ·rw[aF5 h] at e;exact o.gh a u e
  ·rw[aF6 h] at e;exact o.hh _ _ (I.gh a u e)
 ·by_cases h:H a=none
  ·exact .inr h
  ·rw[aF6 h] at e;exact .inl e
 ·have f1:FT c H:=λa ks e=>g _ _ (I.ft a ks e)
  by_cases h:H a=none
  ·rw[aF5 h];exact o.ft f1 a ks e
  ·rw[aF6 h]
   obtain⟨u,f⟩:=ari h
   have:=o.hh _ _ f
   rw[e] at this
   exact I.ft a ks (by rw[f,← this])
theorem a1t(g:Has env i l)(h:Ev B tb env λy c=>∃ A dx,Has c i A/\Frz A dx/\Op2 r dx y λs=>∃ d,s=.st d/\agh d=true/\Q' d c):Ev B (tOp r (tVar i) tb) env Q':=λσ G H F Q I k=>by
 obtain⟨v,f,_⟩:=I.has g
 refine⟨v,f,h σ G H F _ I λu t H2 F2 y c a n x ⟨A,dx,C,q,p⟩=>?_⟩
 obtain⟨J,b,ap⟩:=a.has C
 rw[f] at b;cases b
 refine p (jn t H2 (F2 i)) H2 v u Q (al7 a.gh) (q _ _ _ _ ap (a.fg i) a.gh) (x.same (abm (a.fg i))) λw K H3 s Fv o ⟨d,es,hs,j⟩=>?_
 subst es
 obtain⟨z,E,D⟩:=a.moment (abm (a.fg i)) o
 exact k w z H3 F2 d c D (n.trans E) (aj7 o.ok.1 hs) j
theorem a1u(j:Has env i A)(b:Frz A dx)(h:OpA r [dx] λs=>∃ d,s=.st d/\agh d=true/\Q' d env):Ev B (tCB r (abe (tVar i) tNil)) env Q':=λσ G H F Q I k=>by
 obtain⟨v,c,ap⟩:=I.has j
 refine⟨v,c,h (jn G H (F i)) H [v] Q (al7 I.gh) (.cons (b _ _ _ _ ap (I.fg i) I.gh) .nil) λw n H3 s Fv o ⟨d,es,hs,a⟩=>?_⟩
 subst es
 obtain⟨f,l,g⟩:=I.moment (abm (I.fg i)) o
 exact k w f H3 F d env g l (aj7 o.ok.1 hs) a
theorem x_sc{d:PyData}{R:PyData->Prop}(a:agh d=true)(h:R d):∃ d',Sl.st d=.st d'/\agh d'=true/\R d':=⟨d,rfl,a,h⟩
theorem a1v(p:Has env i (OL l))(h:Ev B tb env λy c=>∃ ds k d,Has c i (OL ds)/\y=.int k/\atI ds k=some d/\Q' d c):Ev B (tOp (aca K) (tVar i) tb) env Q':=λσ G H F Q I k=>by
 obtain⟨v,n,_⟩:=I.has p
 refine⟨v,n,h σ G H F _ I λu t H2 F2 y c o r x ⟨ds,j,d,z,s,f,q⟩=>?_⟩
 subst s
 cases x
 obtain⟨D,b,a,vs,A,ha,rs,_⟩:=o.has z
 rw[n] at b;cases b
 subst A
 obtain⟨w,C,g⟩:=rs.at f
 exact af9 ha C (k w t H2 F2 d c o r g q)
theorem ay2(e:env[i]?=some (some (.scr ns)))(f:B.K=K)(q:Q' (.int ns.length) env):Ev B (tCB (rLen K) (abe (tVar i) tNil)) env Q':=λσ G H F Q I k=>by
 subst f
 obtain⟨v0,b,⟨a,d,c⟩,_⟩:=I.sl i _ e
 subst d
 refine⟨_,b,ax7 (I.gh.seq c) ?_⟩
 rw[aA3]
 exact k _ G H F _ env I (Same.refl _) (.int _) q
theorem a1w(e:env[i]?=some (some (.scr ns)))(p:B.K=K)(h:Ev B tb env λy c=>∃ j n,y=.int j/\atI ns j=some n/\Q' (.int n) c):Ev B (tOp (aca K) (tVar i) tb) env Q':=λσ G H F Q I k=>by
 subst p
 obtain⟨v0,r,⟨a,w,g⟩,_⟩:=I.sl i _ e
 subst w
 refine⟨_,r,h σ G H F _ I λu s H2 F2 y c f d t ⟨j,n,o,b,q⟩=>?_⟩
 subst o
 cases t
 refine au8 (f.gh.seq (d.seq g)) (v:=.int n) ?_ (k _ s H2 F2 _ c f d (.int _) q)
 unfold atI at b ⊢
 rw[aA3]
 cases e:ixN ns.length j with
 |none=>rw[e] at b;cases b
 |some l=>rw[e] at b;simp at b ⊢;exact b
theorem VI.upd1(I:VI B G H σ env F)(e:env[i]?=some (some s))(hs:s=.own A\/s=.io A)(g : σ[i]?=some (some (.ref a)))(hf:∀ b,F i b ↔ b=a)(d:A'.P G (upd H a o) (.ref a) (· = a))(f:∀ xs,o ≠ .tup xs:=by intro _ z;cases z) :
  VI B G (upd H a o) σ (env.set i (some (reS s A'))) (putF F i (· = a)):=by
 refine I.change (A:=A') i e g (λb u hb c=>by rw[aah (λz=>hb ((hf b).mpr z))];exact c) (λb u c=>?_) (λb z=>⟨.inl ((hf b).mpr z),by rw[z];exact⟨_,aam⟩⟩) d (λb ks e=>?_) ?_
 ·by_cases z:b=a
  ·rw[z];exact⟨_,aam⟩
  ·rw[aah z];exact⟨u,c⟩
 ·by_cases z:b=a
  ·subst z;rw[aam] at e;exact absurd (aC6 e) (f _)
  ·rw[aah z] at e;exact I.ft b ks e
 ·rcases hs with rfl|rfl
  ·exact .inl ⟨rfl,A,rfl⟩
  ·exact .inr ⟨rfl,A,rfl⟩
theorem ate(p:Has env i (OL l))(h:Ev B te env λy f=>∃ s ds,f[i]?=some (some s)/\(s=.own (OL ds)\/s=.io (OL ds))/\ds.length<=999999/\Q' .none (f.set i (some (reS s (OL (ds++[y])))))):Ev B (tBM K "list" afx (tVar i) (abe te tNil)) env Q':=λσ G H F Q I k=>by
 obtain⟨v,j,a,vs,A,ha,rs,_⟩:=I.has p
 subst A
 refine⟨_,j,.inl ⟨rfl,_,SqL.of ha⟩,h σ G H F _ I λu w H2 F2 y f o r x ⟨s,ds,es,hs,D,q⟩=>?_⟩
 have z:Has f i (OL ds):=by rcases hs with rfl|rfl;exact .inl es;exact .inr es
 obtain⟨C,c,E,t,g,n,d,hf⟩:=o.has z
 rw[j] at c;cases c;cases g
 refine agv n (by rw[d.length];exact big (by lia)) ?_
 exact k _ w _ _ _ _ (o.upd1 (A':=OL (ds++[y])) es hs j hf ⟨a,_,rfl,aam,d.append (.cons x .nil),λb=>Iff.rfl⟩) r .non q
theorem arj(c:Has env i (OL a))(h:Ev B te env λy b=>∃ ds,b[i]?=some (some (.own (OL ds)))/\ds.length<=999999/\Q' .none (b.set i (some (.own (OL (ds++[y])))))):Ev B (tBM K "list" afx (tVar i) (abe te tNil)) env Q' :=
 ate c λσ G H F Q I k=>h σ G H F Q I λv G' H' F' d e l g r ⟨ds,f,j,q⟩=>k v G' H' F' d e l g r ⟨_,ds,f,.inl rfl,j,q⟩
theorem avs(z:Has env i (OL r))(h:Ev B te env λy g=>∃ s ds j n d,y=.int j/\g[i]?=some (some s)/\(s=.own (OL ds)\/s=.io (OL ds))/\-(2 ^ 63)<=j/\j<2 ^ 63/\seqIndex? j ds.length=some n/\ds[n]?=some d/\Q' d (g.set i (some (reS s (OL (ds.eraseIdx n)))))):Ev B (tBM K "list" aiv (tVar i) (abe te tNil)) env Q':=λσ G H F Q I k=>by
 obtain⟨v,p,a,vs,N,ha,rs,_⟩:=I.has z
 subst N
 refine⟨_,p,.inl ⟨rfl,_,SqL.of ha⟩,h σ G H F _ I λu E H2 F2 y g x A J ⟨s,ds,j,n,d,D,es,hs,b1,L,hn,hd,q⟩=>?_⟩
 subst D
 cases J
 have M:Has g i (OL ds):=by rcases hs with rfl|rfl;exact .inl es;exact .inr es
 obtain⟨P,f,R,C,o,t,c,hf⟩:=x.has M
 rw[p] at f;cases f;cases o
 obtain⟨w,O,l⟩:=c.get hd
 refine auz t b1 L (by rw[c.length];exact hn) O ?_
 exact k _ E _ _ _ _ (x.upd1 (A':=OL (ds.eraseIdx n)) es hs p hf ⟨a,_,rfl,aam,c.erase n,λb=>Iff.rfl⟩) A l q
theorem avt(z:Has env i (OL p))(h:Ev B tk env λy g=>∃ s ds k j,y=.int k/\g[i]?=some (some s)/\(s=.own (OL ds)\/s=.io (OL ds))/\ixN ds.length k=some j/\QE (g.set i (some (reS s (OL (ds.set j d)))))):EvG B (gSub (tVar i) tk aq0) (.st d) env QE:=λσ G H F v Fv Q I x k=>by
 obtain⟨A,_⟩:=x.ok
 obtain⟨O,o,a,vs,M,ha,rs,_⟩:=I.has z
 subst M
 refine⟨_,o,h σ G H F _ I λu J H2 F2 y g w t K ⟨s,ds,n,j,D,es,hs,E,q⟩=>?_⟩
 subst D
 cases K
 have L:Has g i (OL ds):=by rcases hs with rfl|rfl;exact .inl es;exact .inr es
 obtain⟨N,c,P,C,l,r,f,hf⟩:=w.has L
 rw[o] at c;cases c;cases l
 refine apk r (by rw[f.length];exact E) ?_
 exact k _ J _ _ _ (w.upd1 (A':=OL (ds.set j d)) es hs o hf ⟨a,_,rfl,aam,f.set (A.same t) j,λb=>Iff.rfl⟩) t q
theorem ahx(i:Nat)(e:env[i]?=some (some (.own A)))(f:Frz A d)(h:EvS B t D' (env.set i (some (.st d)))):EvS B t D' env:=λσ G H F D I r=>by
 obtain⟨v,b,a,g,J⟩:=I.frz e f
 exact h σ _ H _ D J (r.later g)
end
def tyD:PyData->String
 | .none=>"NoneType" | .bool _=>"bool" | .int _=>"int" | .str _=>"str" | .list _=>"list" | .tuple _=>"tuple" | .dict _=>"dict"
def aex(T:String):Prop:=T = "int"\/T = "bool"\/T = "tuple"\/T = "list"\/T = "str"\/T = "dict"
def isiD(T:String)(d:PyData):Bool:=tyD d == T || (T == "int" && tyD d == "bool")
theorem a3l(r:Rp H v d):TyOf K H v (.type (tyD d)):=by
 cases r with
 |non=>exact .non
 |bl b=>exact .bl b
 |int i=>exact .int i
 |str x=>exact .str x
 |lst h _=>exact .lst h
 |tup h _=>exact .tup h
 |dk h _ _=>exact .dK h
 |dt h _ _=>exact .dT h
theorem a3m(h:aex T)(d:PyData):kitOne K (.type (tyD d)) (.type T)=some (isiD T d):=by
 rcases h with rfl|rfl|rfl|rfl|rfl|rfl
 ·cases d with
  |none=>exact aie
  |bool _=>exact am0
  |int _=>exact aou
  |str _=>exact aow
  |list _=>exact am8
  |tuple _=>exact alo
  |dict _=>exact ana
 ·cases d with
  |none=>exact ah1
  |bool _=>exact alf
  |int _=>exact am2
  |str _=>exact am5
  |list _=>exact alk
  |tuple _=>exact aj3
  |dict _=>exact alq
 ·cases d with
  |none=>exact agz
  |bool _=>exact aj1
  |int _=>exact ali
  |str _=>exact alj
  |list _=>exact aj2
  |tuple _=>exact ai2
  |dict _=>exact aj6
 ·cases d with
  |none=>exact ah2
  |bool _=>exact alg
  |int _=>exact am3
  |str _=>exact am6
  |list _=>exact alm
  |tuple _=>exact aj4
  |dict _=>exact alr
 ·cases d with
  |none=>exact aif
  |bool _=>exact am1
  |int _=>exact aov
  |str _=>exact aox
  |list _=>exact am9
  |tuple _=>exact alp
  |dict _=>exact anb
 ·cases d with
  |none=>exact ah3
  |bool _=>exact alh
  |int _=>exact am4
  |str _=>exact am7
  |list _=>exact aln
  |tuple _=>exact aj5
  |dict _=>exact als
section
variable{B:Bs}{env:En}{QO:Sl->En->Prop}{Q':PyData->En->Prop}{QT:Bool->En->Prop}{QE:En->Prop}{te ta tb tk:TE}{K:Frag}{i:Nat}
theorem a1x(hT:aex T)(h:Ev B te env λd e=>Q' (.bool (isiD T d)) e):Ev B (tCB (rIsi K) (abe te (abe (tC (.ty T)) tNil))) env Q':=λσ G H F Q I k =>
 h σ G H F _ I λv l j i d f a c g b=>⟨v,T,_,_,rfl,a3l (g.same a.gh),a3m hT d,k _ l j i _ f a c (.bl _) b⟩
theorem a1y:aex "int":=.inl rfl
theorem ay3:aex "bool":=.inr (.inl rfl)
theorem avu:aex "tuple":=.inr (.inr (.inl rfl))
theorem ay4:aex "list":=.inr (.inr (.inr (.inl rfl)))
theorem avv(e:env[i]?=some (some (.own A)))(q:D'.rt (.own A) (env.set i none)):EvS B (tRet (tVar i)) D' env:=apy (avb e q)
theorem a3n{n m:Nat}{P:Prop}(h:n<=m)(q:P):n<=m/\P:=⟨h,q⟩
theorem a1z{ds:List PyData}{a:En}{R:List PyData->Prop}(e:a[i]?=some (some (.own (OL ds))))(b:ds.length<=999999)(q:R ds):∃ ds,a[i]?=some (some (.own (OL ds)))/\ds.length<=999999/\R ds:=⟨ds,e,b,q⟩
theorem a3o{ds:List PyData}{d:PyData}{k:Int}{a:En}{R:PyData->Prop}(c:Has a i (OL ds))(h:atI ds k=some d)(q:R d):∃ ds b d,Has a i (OL ds)/\PyData.int k=.int b/\atI ds b=some d/\R d:=⟨ds,k,d,c,rfl,h,q⟩
theorem a3p{ns:List Int}{n k:Int}{R:Int->Prop}(h:atI ns k=some n)(q:R n):∃ j n,PyData.int k=.int j/\atI ns j=some n/\R n:=⟨k,n,rfl,h,q⟩
theorem ark{ds:List PyData}{k:Int}{j:Nat}{a:En}{R:Sl->List PyData->Nat->Prop}(e:a[i]?=some (some (.own (OL ds))))(c:ixN ds.length k=some j)(q:R (.own (OL ds)) ds j):∃ s ds b j,PyData.int k=.int b/\a[i]?=some (some s)/\(s=.own (OL ds)\/s=.io (OL ds))/\ixN ds.length b=some j/\R s ds j:=⟨_,ds,k,j,rfl,e,.inl rfl,c,q⟩
theorem a10{ds:List PyData}{k:Int}{j:Nat}{a:En}{R:Sl->List PyData->Nat->Prop}(e:a[i]?=some (some (.io (OL ds))))(c:ixN ds.length k=some j)(q:R (.io (OL ds)) ds j):∃ s ds b j,PyData.int k=.int b/\a[i]?=some (some s)/\(s=.own (OL ds)\/s=.io (OL ds))/\ixN ds.length b=some j/\R s ds j:=⟨_,ds,k,j,rfl,e,.inr rfl,c,q⟩
theorem a3q{A:Own}{dx:PyData}{a:En}{P:PyData->Prop}(b:Has a i A)(c:Frz A dx)(q:P dx):∃ A dx,Has a i A/\Frz A dx/\P dx:=⟨A,dx,b,c,q⟩
theorem x_rt{A:Own}{a:En}{R:Own->Prop}(e:a[0]?=some (some (.io A)))(q:R A):∃ A',a[0]?=some (some (.io A'))/\R A':=⟨A,e,q⟩
theorem x_st{b:Bool}{R:Bool->Prop}(h:R b):∃ c,Sl.st (.bool b)=.st (.bool c)/\R c:=⟨b,rfl,h⟩
theorem avw{ds:List PyData}{R:Bool->Prop}(h:R (!ds.isEmpty)):∃ k,TruD (.list ds) k/\R k:=⟨_,rfl,h⟩
theorem lenP(h:spP K f vs H Q E)(hf:∀ ss a,f ss a->ss.length=n):vs.length=n:=by
 obtain⟨G,ss,a,_,_,b,q,_⟩:=h
 rw[b.length];exact hf ss a q
theorem lenI(h:spI K f vs H Q E)(hf:∀ A ss a,f A ss a->ss.length+1=n):vs.length=n:=by
 obtain⟨v0,c,G,R,A,ss,F0,a,rfl,_,_,_,_,_,_,b,q,_⟩:=h
 rw[aE6,b.length];exact hf A ss a q
theorem ai9(b:env[i]?=some (some (.io A)))(h:EvA B t env λds a=>a[i]?=some (some (.io A))/\f A (ds.map Sl.st) λA' s=>QO s (a.set i (some (.io A')))):EvO B (ack (spI K f) [] E (abe (tVar i) t)) env QO :=
 akz ⟨_,b⟩ λσ G H F Q I k=>h σ G H F Q I λvs G' H' F' ds a d g r ⟨c,q⟩=>k vs G' H' F' ds a d g r ⟨_,A,c,.inr rfl,q⟩
theorem aja(b:env[i]?=some (some (.own A)))(h:EvA B t env λds a=>a[i]?=some (some (.own A))/\f A (ds.map Sl.st) λA' s=>QO s (a.set i (some (.own A')))):EvO B (ack (spI K f) [] E (abe (tVar i) t)) env QO :=
 akz ⟨_,b⟩ λσ G H F Q I k=>h σ G H F Q I λvs G' H' F' ds a d g r ⟨c,q⟩=>k vs G' H' F' ds a d g r ⟨_,A,c,.inl rfl,q⟩
theorem atf(b:env[i]?=some (some (.io A)))(h:EvA B t env λds a=>a[i]?=some (some (.io A))/\f A (ds.map Sl.st) λA' s=>FQ s λd=>Q' d (a.set i (some (.io A')))):Ev B (ack (spI K f) [] E (abe (tVar i) t)) env Q':=acb (ai9 b h)
theorem atg(b:env[i]?=some (some (.own A)))(h:EvA B t env λds a=>a[i]?=some (some (.own A))/\f A (ds.map Sl.st) λA' s=>FQ s λd=>Q' d (a.set i (some (.own A')))):Ev B (ack (spI K f) [] E (abe (tVar i) t)) env Q':=acb (aja b h)
theorem a3r(h:P)(q:Q):P/\Q:=⟨h,q⟩
theorem a3s(nd:(src.filterMap id).Nodup)(h:EvI B j env λds i=>LcV B.K src g f te ds i λys l=>Q' (.list ys) l):Ev B (tLC src j g f te) env Q':=acb (atd nd λσ G H F R I k=>h σ G H F R I λJ G' H' F' ds i o g' it ⟨n,a,b,c,d⟩=>k J G' H' F' ds i o g' it ⟨n,a,b,c,λys e q=>afi (d ys e q)⟩)
theorem a11(h:FQ s λd=>EvG B g (.st d) env QE):EvG B g s env QE:=λσ G H F v Fv Q I x k=>by
 cases s with
 |st d=>exact h σ G H F v Fv Q I x k
 | own A =>
  obtain⟨d,f,h⟩:=h
  exact h σ _ H F v _ Q (I.freeze x.fb x.fd x.fg) (adp (f G H v Fv x.ok x.fg I.gh)) λa G' H' F' b c g' q=>k a G' H' F' b c ((abm x.fg).trans g') q
 |io A=>exact h.elim
 |scr ns=>exact h.elim
end
end VL
namespace VL
open PySem L2
section
theorem a12(h:QE (x0::some s::r)):EvG B (aa0 1) s (x0::x1::r) QE:=aa4 h
theorem a13(h:QE (x0::x1::some s::r)):EvG B (aa0 2) s (x0::x1::x2::r) QE:=aa4 h
theorem a14(h:QE (x0::x1::x2::some s::r)):EvG B (aa0 3) s (x0::x1::x2::x3::r) QE:=aa4 h
theorem a15(h:QE (x0::x1::x2::x3::some s::r)):EvG B (aa0 4) s (x0::x1::x2::x3::x4::r) QE:=aa4 h
theorem a16(h:QE (x0::x1::x2::x3::x4::some s::r)):EvG B (aa0 5) s (x0::x1::x2::x3::x4::x5::r) QE:=aa4 h
theorem a17(h:QE (x0::x1::x2::x3::x4::x5::some s::r)):EvG B (aa0 6) s (x0::x1::x2::x3::x4::x5::x6::r) QE:=aa4 h
theorem a18(h:QE (x0::x1::x2::x3::x4::x5::x6::some s::r)):EvG B (aa0 7) s (x0::x1::x2::x3::x4::x5::x6::x7::r) QE:=aa4 h
theorem a19(h:QE (x0::x1::x2::x3::x4::x5::x6::x7::some s::r)):EvG B (aa0 8) s (x0::x1::x2::x3::x4::x5::x6::x7::x8::r) QE:=aa4 h
theorem a2a(h:QE (x0::x1::x2::x3::x4::x5::x6::x7::x8::some s::r)):EvG B (aa0 9) s (x0::x1::x2::x3::x4::x5::x6::x7::x8::x9::r) QE:=aa4 h
theorem ay5(h:QE (x0::x1::x2::x3::x4::x5::x6::x7::x8::x9::x10::x11::some s::r)):EvG B (aa0 12) s (x0::x1::x2::x3::x4::x5::x6::x7::x8::x9::x10::x11::x12::r) QE:=aa4 h
end
end VL
namespace Gr
structure Ring(T:Int->Int->Prop)(a:Int)(k:Nat)(far:Int->Option Nat)(edge:List Int):Prop where
 lab:∀ v d,far v=some d ↔ (Dist T a v d/\d<=k)
 edg:∀ v,v∈edge ↔ Dist T a v k
structure Mid(T:Int->Int->Prop)(k:Nat)(far0:Int->Option Nat)(edge:List Int)(done:Int->Prop)(far:Int->Option Nat)(beyond:List Int):Prop where
 old:∀ v d,far0 v=some d->far v=some d
 new:∀ v,v∈beyond ↔ (far0 v=none/\far v ≠ none)
 val:∀ v d,far0 v=none->far v=some d->d=k+1/\∃ u,u∈edge/\T u v
 dn:∀ u w,done u->T u w->far w ≠ none
def label(far:Int->Option Nat)(w:Int)(d:Nat):Int->Option Nat:=λv=>if v=w then some d else far v
theorem label_same:label far w d w=some d:=aF5 rfl
theorem label_ne(h:v ≠ w):label far w d v=far v:=aF6 h
theorem Ring.start:Ring T a 0 (label (λ_=>none) a 0) [a]:=by
 refine⟨λv d=>?_,λv=>?_⟩
 ·by_cases h:v=a
  ·subst h
   rw[label_same]
   constructor
   ·intro e;cases e;exact⟨Dist.self T v,aA6 _⟩
   ·rintro⟨h,_⟩;rw[h.uniq (Dist.self T v)]
  ·rw[label_ne h]
   constructor
   ·intro e;cases e
   ·rintro⟨b,c⟩
    have:d=0:=by lia
    subst this
    cases b.1
    exact absurd rfl h
 ·simp only[aC2]
  constructor
  ·rintro rfl;exact Dist.self T v
  ·intro h;cases h.1;rfl
theorem Mid.start:Mid T k far0 edge (λ_=>False) far0 [] :=
 ⟨λv d h=>h,λv=>⟨λh=>by simp at h,λh=>absurd h.1 h.2⟩,λv d h g=>(by rw[h] at g;cases g),λu w h=>h.elim⟩
theorem Mid.add(m:Mid T k far0 edge done far beyond)(f:u∈edge)(t:T u w)(b:far w=none):Mid T k far0 edge done (label far w (k+1)) (beyond++[w]):=by
 have a:far0 w=none:=by
  cases e:far0 w with
  |none=>rfl
  |some d=>rw[m.old w d e] at b;cases b
 refine⟨λv d h=>?_,λv=>?_,λv d h g=>?_,λx y i c=>?_⟩
 ·rw[label_ne (by rintro rfl;rw[a] at h;cases h)];exact m.old v d h
 ·by_cases hv:v=w
  ·subst hv
   simp[label_same,a]
  ·rw[label_ne hv]
   simp only[aA7,aC2,hv,or_false]
   exact m.new v
 ·by_cases hv:v=w
  ·subst hv
   rw[label_same] at g
   cases g
   exact⟨rfl,u,f,t⟩
  ·rw[label_ne hv] at g
   exact m.val v d h g
 ·by_cases hv:y=w
  ·subst hv;rw[label_same];simp
  ·rw[label_ne hv];exact m.dn x y i c
theorem Mid.did(m:Mid T k far0 edge done far beyond)(h:∀ w,T u w->far w ≠ none):Mid T k far0 edge (λx=>done x\/x=u) far beyond :=
 ⟨m.old,m.new,m.val,λx w a t=>by rcases a with a|rfl;exact m.dn x w a t;exact h w t⟩
theorem Mid.imp{a:Int->Prop}(m:Mid T k far0 edge done far beyond)(h:∀ u,a u->done u):Mid T k far0 edge a far beyond :=
 ⟨m.old,m.new,m.val,λx w b t=>m.dn x w (h x b) t⟩
theorem Ring.next(r:Ring T a k far0 edge)(m:Mid T k far0 edge done far beyond)(hd:∀ u∈edge,done u):Ring T a (k+1) far beyond:=by
 have g:∀ v,far0 v=none->far v ≠ none->Dist T a v (k+1):=λv f b=>by
  cases e:far v with
  |none=>exact absurd e b
  | some d =>
   obtain⟨rfl,u,l,t⟩:=m.val v d f e
   obtain⟨j,p,h⟩:=((r.edg u).mp l).next t
   by_cases i:j<=k
   ·rw[(r.lab v j).mpr ⟨h,i⟩] at f;cases f
   ·have:j=k+1:=by lia
    rw[← this];exact h
 have c:∀ v,Dist T a v (k+1)->far0 v=none/\far v ≠ none:=λv h=>by
  refine⟨?_,?_⟩
  ·cases e:far0 v with
   |none=>rfl
   | some d =>
    obtain⟨b,o⟩:=(r.lab v d).mp e
    have:=b.uniq h
    lia
  ·obtain⟨u,t,l⟩:=h.pred
   exact m.dn u v (hd u ((r.edg u).mpr l)) t
 refine⟨λv d=>?_,λv=>⟨λh=>?_,λh=>(m.new v).mpr (c v h)⟩⟩
 ·constructor
  ·intro e
   cases e0:far0 v with
   | some d0 =>
    rw[m.old v d0 e0] at e
    cases e
    obtain⟨b,o⟩:=(r.lab v d).mp e0
    exact⟨b,by lia⟩
   | none =>
    have i:=(m.val v d e0 e).1
    subst i
    exact⟨g v e0 (by rw[e];simp),aA6 _⟩
  ·rintro⟨h,i⟩
   by_cases hd':d<=k
   ·exact m.old v d ((r.lab v d).mpr ⟨h,hd'⟩)
   ·have n:d=k+1:=by lia
    subst n
    obtain⟨f,b⟩:=c v h
    cases e:far v with
    |none=>exact absurd e b
    |some d=>rw[(m.val v d f e).1]
 ·obtain⟨f,b⟩:=(m.new v).mp h
  exact g v f b
theorem Dist.down:∀{d:Nat},Dist T a v d->∀ j,j<=d->∃ u,Dist T a u j
 |0,h,j,hj=>⟨v,by rw[show j=0 by lia];exact h⟩
 | d+1,h,j,hj=>by
  by_cases e:j=d+1
  ·rw[e];exact⟨v,h⟩
  ·obtain⟨u,_,b⟩:=h.pred
   exact Dist.down b j (by lia)
def farO(T:Int->Int->Prop)(a v:Int):Option Nat:=open Classical in if h:∃ d,Dist T a v d then some (Classical.choose h) else none
theorem farO_some:farO T a v=some d ↔ Dist T a v d:=by
 unfold farO
 constructor
 ·intro h
  split at h
  ·rename_i b
   cases h
   exact Classical.choose_spec b
  ·cases h
 ·intro h
  have b:∃ d,Dist T a v d:=⟨d,h⟩
  rw[dif_pos b,(Classical.choose_spec b).uniq h]
theorem farO_none:farO T a v=none ↔ ∀ d,¬ Dist T a v d:=by
 constructor
 ·intro h d hd
  rw[farO_some.mpr hd] at h;cases h
 ·intro h
  cases e:farO T a v with
  |none=>rfl
  |some d=>exact absurd (farO_some.mp e) (h d)
theorem ap3(h:∀ d,o=some d ↔ Dist T a v d):o=farO T a v:=by
 cases o with
 |some d=>exact(farO_some.mpr ((h d).mp rfl)).symm
 |none=>exact(farO_none.mpr λd hd=>by cases (h d).mpr hd).symm
theorem Ring.fin(r:Ring T a k far0 [])(v:Int):far0 v=farO T a v:=by
 refine ap3 λd=>?_
 rw[r.lab]
 refine⟨λh=>h.1,λh=>⟨h,?_⟩⟩
 apply aD5
 intro c
 obtain⟨u,b⟩:=h.down k (by lia)
 have:=(r.edg u).mpr b
 simp at this
theorem Walk.app(h:Walk T u i v)(g:Walk T v j w):Walk T u (i+j) w:=by
 induction g with
 |refl=>exact h
 |step _ t ih=>exact .step ih t
theorem Walk.rev(hs:∀ u v,T u v->T v u)(h:Walk T u i v):Walk T v i u:=by
 induction h with
 |refl=>exact .refl
 | @step j x y _ t ih =>
  have:=(Walk.step (T:=T) (u:=y) .refl (hs _ _ t)).app ih
  rw[Nat.add_comm] at this
  exact this
theorem Dist.rev(hs:∀ u v,T u v->T v u)(h:Dist T u v d):Dist T v u d:=⟨h.1.rev hs,λk w=>h.2 k (w.rev hs)⟩
theorem farO_comm(hs:∀ u v,T u v->T v u)(u v:Int):farO T u v=farO T v u:=ap3 λd=>by
 rw[farO_some];exact⟨λh=>h.rev hs,λh=>h.rev hs⟩
theorem farO_self:farO T a a=some 0:=farO_some.mpr (Dist.self T a)
theorem Dist.lt{n:Nat}(hT:∀ u v,T u v->0<=v/\v<(n:Int))(ha:0<=a/\a<(n:Int)){v:Int}{d:Nat}(h:Dist T a v d):d<n:=by
 -- the places of a shortest way are unlike
 have i:∀ d v,Dist T a v d->∃ l:List Int,l.length=d+1/\l.Nodup/\∀ x∈l,(0<=x/\x<(n:Int))/\∃ j,j<=d/\Dist T a x j:=by
  intro d
  induction d with
  | zero =>
   intro v h
   have:v=a:=by cases h.1;rfl
   subst this
   exact⟨[v],rfl,by simp,λx b=>by simp at b;subst b;exact⟨ha,0,aA6 _,h⟩⟩
  | succ d ih =>
   intro v h
   obtain⟨u,t,w⟩:=h.pred
   obtain⟨l,g,c,f⟩:=ih u w
   refine⟨v::l,by simp[g],aI4.mpr ⟨λhm=>?_,c⟩,λx b=>?_⟩
   ·obtain⟨_,j,s,hd⟩:=f v hm
    have:=hd.uniq h
    lia
   ·rcases aA9.mp b with rfl|b
    ·exact⟨hT _ _ t,d+1,aA6 _,h⟩
    ·obtain⟨q,j,s,hd⟩:=f x b
     exact⟨q,j,by lia,hd⟩
 obtain⟨l,g,c,f⟩:=i d v h
 have few:∀(n:Nat)(l:List Int),l.Nodup->(∀ v∈l,0<=v/\v<(n:Int))->l.length<=n:=by
  intro n
  induction n with
  | zero =>
   intro l _ h
   cases l with
   |nil=>simp
   |cons v r=>have:=h v (by simp);lia
  | succ n ih =>
   intro l hn h
   have g:=ih (l.erase (n:Int)) (hn.erase _) λv o=>by
    have hm:=List.mem_of_mem_erase o
    have hb:=h v hm
    have p:v ≠ (n:Int):=by
     rintro rfl
     exact absurd o (List.Nodup.not_mem_erase hn)
    lia
   have c:l.length<=(l.erase (n:Int)).length+1:=by
    rw[List.length_erase]
    split <;> lia
   lia
 have:=few n l c λx b=>(f x b).1
 lia
end Gr
namespace VL
open PySem PySem.Spec L2
theorem nodup_ix{α:Type}{xs:List α}(h:xs.Nodup){i j:Nat}(hi:i<xs.length)(a:j<xs.length)(e:xs[i]=xs[j]):i=j:=by
 have p:=aG7.mp h
 rcases Nat.lt_trichotomy i j with q|q|q
 ·exact absurd e (p i j hi a q)
 ·exact q
 ·exact absurd e.symm (p j i a hi q)
def OLL(dss:List (List PyData)):Own where
 P:=λG H v F=>∃(a:Addr)(as:List Addr),v=.ref a/\H a=some (.lst (as.map V.ref))/\as.Nodup/\a ∉ as/\as.length=dss.length/\(∀(i:Nat) b ds,as[i]?=some b->dss[i]?=some ds->∃ vs,H b=some (.lst vs)/\Rps G vs ds)/\∀ b,F b ↔ b=a\/b∈as
 mono:=λ⟨a,as,e,h,n1,n2,l,r,f⟩ g hh=>⟨a,as,e,hh a _ ((f a).mpr (.inl rfl)) h,n1,n2,l,λi b ds hb hd=>by
  obtain⟨vs,h1,h2⟩:=r i b ds hb hd
  exact⟨vs,hh b _ ((f b).mpr (.inr (aA2 hb))) h1,h2.same g⟩,f⟩
 dom:=λ⟨a,as,e,h,n1,n2,l,r,f⟩ b z=>by
  rcases(f b).mp z with rfl|z
  ·exact⟨_,h⟩
  ·obtain⟨i,hi,e⟩:=aH6.mp z
   have hb:as[i]?=some b:=by rw[aA0 hi,e]
   obtain⟨vs,h1,_⟩:=r i b _ hb (aA0 (by rw[← l];exact hi))
   exact⟨_,h1⟩
theorem ank:∀{vs:List V}{ds:List PyData},vs.length=ds.length->(∀(i:Nat) v d,vs[i]?=some v->ds[i]?=some d->Rp G v d)->Rps G vs ds
 |[],[],_,_=>.nil
 |[],_::_,h,_=>by simp at h
 |_::_,[],h,_=>by simp at h
 |v::vs,d::ds,h,k=>.cons (k 0 v d rfl rfl) (ank (by simpa using h) λi v d a b=>k (i+1) v d (by simpa using a) (by simpa using b))
theorem ahy:Frz (OLL c) (.list (c.map .list)):=λG H v F ⟨a,as,e,h,q,s,l,r,f⟩ n g=>by
 subst e
 refine .lst (by rw[ahq ((f a).mpr (.inl rfl))];exact h) (ank (by simp[l]) λi u d j hd=>?_)
 rw[aA5] at j hd
 cases hb:as[i]? with
 |none=>rw[hb] at j;cases j
 | some b =>
  cases hds:c[i]? with
  |none=>rw[hds] at hd;cases hd
  | some ds =>
   rw[hb] at j;rw[hds] at hd
   cases j;cases hd
   obtain⟨vs,o,p⟩:=r i b ds hb hds
   exact .lst (by rw[ahq ((f b).mpr (.inr (aA2 hb)))];exact o) (p.same (abm n))
section
theorem a2b(h:R (.list (a.map .list))):FQ (.own (OLL a)) R:=⟨_,ahy,h⟩
theorem ay6(h:EvI B Z env λds P=>ds.length<=1000000/\QO (.own (OLL (List.replicate ds.length []))) P):EvO B (tLC src Z (aa0 j) tYes (tLst tNil)) env QO:=λσ G H F Q I k=>by
 refine h σ G H F _ I λJ N K F1 ds P s g1 it ⟨a2,q⟩ c d=>?_
 let W:Nat->List V->Hp->Prop:=λn ys H=>∃(as:List Addr)(g:Hp),ys=as.map V.ref/\as.length=n/\as.Nodup/\c ∉ as/\(∀ b∈as,K b=none/\g b=none/\H b=some (.lst []))/\H c=some (.lst ys)/\g c=none/\Same N g/\Same g H/\Same K H/\(∀ a o,g a=some o->N a=some o\/K a=none)/\FT g H
 refine⟨λn m ys σI H=>m=ds.length-n/\n<=ds.length/\W n ys H,⟨ds.length,by simp,aG0 _,[],N,rfl,rfl,List.nodup_nil,by simp,λb hb=>by simp at hb,aam,s.no_g d,Same.refl _,s.gh.trans (ab6 d),ab6 d,λa o e=>.inl e,λa ks e=>?_⟩,?_⟩
 ·by_cases z:a=c
  ·subst z;rw[aam] at e;cases e
  ·rw[aah z] at e;exact s.ft a ks e
 rintro n m ys σI H2 ⟨rfl,hn,as,g,rfl,U,nd,na,all,f,X,v,r,l,E,t⟩
 refine⟨f,?_⟩
 by_cases hlt:n<ds.length
 ·refine .inr ⟨it.go n g H2 v r hlt,λC T H'=>W (n+1) C H',λC T H' hw=>⟨ds.length-(n+1),by lia,rfl,hlt,hw⟩,λx H3 y=>?_⟩
  obtain⟨L,o⟩:=it.yld n g H2 x H3 _ v r t (aA0 hlt) y
  refine apj (asw (acv (a04 (asu ⟨by decide,λp A=>?_⟩))))
  have n2:H2 p=none:=acu o.hh A
  have Y:K p=none:=acu l n2
  have M:p ≠ c:=(aau (o.hh _ _ f) A).symm
  have D:p ∉ as:=λz=>by
   have:=o.hh _ _ (all p z).2.2
   rw[this] at A;cases A
  refine⟨by rw[aah M.symm];exact o.hh _ _ f,by rw[aA3,U];exact big (by lia),as++[p],L,by simp,by simp[U],?_,?_,λb hb=>?_,aam,?_,v.trans o.gg,λa u e=>?_,λa u e=>?_,λa u e=>?_,λa ks e=>?_⟩
  ·rw[aE7]
   exact⟨nd,by simp,λx hx y hy=>by simp at hy;subst hy;intro e;subst e;exact D hx⟩
  ·intro z
   rcases aA7.mp z with z|z
   ·exact na z
   ·exact M (aC2.mp z).symm
  ·have gb:∀ b,g b=none->(∃ u,H2 b=some u)->L b=none:=λb O z_=>by
    obtain⟨u,S⟩:=z_
    cases e:L b with
    |none=>rfl
    | some w =>
     rcases o.gn b w e with e|e
     ·rw[O] at e;cases e
     ·rw[S] at e;cases e
   rcases aA7.mp hb with hb|hb
   ·obtain⟨O,S,h3⟩:=all b hb
    refine⟨O,gb b S ⟨_,h3⟩,?_⟩
    rw[aah (λz:b=c=>na (by rw[← z];exact hb)),aah (λz:b=p=>D (by rw[← z];exact hb))]
    exact o.hh _ _ h3
   ·have e:b=p:=by simpa using hb
    subst e
    exact⟨Y,acu o.gh A,by rw[aah M,aam]⟩
  ·cases e:L c with
   |none=>rfl
   | some w =>
    rcases o.gn c w e with e|e
    ·rw[X] at e;cases e
    ·rw[f] at e;cases e
  ·have ap:a ≠ p:=aau (o.gh a u e) A
   have R:a ≠ c:=by
    rintro rfl
    rcases o.gn _ u e with e|e
    ·rw[X] at e;cases e
    ·rw[f] at e;cases e
   rw[aah R,aah ap];exact o.gh a u e
  ·have ap:a ≠ p:=aau e Y
   have R:a ≠ c:=aau e d
   rw[aah R,aah ap];exact o.hh _ _ (l a u e)
  ·rcases o.gn a u e with e|e
   ·exact E a u e
   ·exact .inr (acu l e)
  ·by_cases z:a=c
   ·subst z;rw[aam] at e;cases e
   ·rw[aah z] at e
    by_cases y:a=p
    ·subst y;rw[aam] at e;cases e
    ·rw[aah y] at e;exact o.ft t a ks e
 ·have e:n=ds.length:=by lia
  subst e
  refine .inl ⟨it.stop _ g H2 v r rfl,?_⟩
  have I2:=s.grow v r l E t
  refine k (.ref c) g H2 F1 (λb=>b=c\/b∈as) (.own (OLL (List.replicate ds.length []))) P I2 (g1.trans v) ⟨⟨c,as,rfl,f,nd,na,by simp[U],λi b a1 hb hd=>?_,λb=>Iff.rfl⟩,λb z=>?_,λb z=>?_,λb z=>?_,λj b z y=>?_⟩ q
  ·rw[aH7] at hd
   split at hd
   ·cases hd;exact⟨[],(all b (aA2 hb)).2.2,.nil⟩
   ·cases hd
  ·rcases z with rfl|z
   ·exact s.no_b d
   ·exact s.no_b (all b z).1
  ·rcases z with rfl|z
   ·exact X
   ·exact(all b z).2.1
  ·rcases z with rfl|z
   ·exact⟨_,f⟩
   ·exact⟨_,(all b z).2.2⟩
  ·rcases z with rfl|z
   ·exact s.no_f d j y
   ·exact s.no_f (all b z).1 j y
theorem ajb(e:env[i]?=some (some (.own (OLL d))))(R:env[l]?=some (some (.st (.int k))))(U:env[j]?=some (some (.st y)))
  (hk:ixN d.length k=some n) (hd:d[n]?=some ds) (hl:ds.length<=999999) (q:Q' .none (env.set i (some (.own (OLL (d.set n (ds++[y]))))))):Ev B (tBM K "list" afx (tOp (aca K) (tVar i) (tVar l)) (abe (tVar j) tNil)) env Q':=λσ G H F Q I O=>by
 obtain⟨v,L,⟨a,as,rfl,h,M,N,ln,r,f⟩,_⟩:=I.sl i _ e
 obtain⟨vk,C,rk,_⟩:=I.sl l _ R
 obtain⟨vy,t,W,_⟩:=I.sl j _ U
 cases rk
 have hn:n<d.length:=(aA1.mp hd).1
 have hb:as[n]?=some (as[n]'(by lia)):=aA0 _
 generalize as[n]'(by lia)=b at hb
 have s:b∈as:=aA2 hb
 obtain⟨vs,D,E⟩:=r n b ds hb hd
 have x:atI (as.map V.ref) k=some (.ref b):=by
  unfold atI
  rw[aA3,ln,hk]
  simp[hb]
 refine⟨_,L,_,C,af9 h x ⟨.inl ⟨rfl,_,SqL.of D⟩,_,t,agv D (by rw[E.length];exact big (by lia)) ?_⟩⟩
 have w:a ≠ b:=λz=>N (z ▸ s)
 have J:=I.change (A:=OLL (d.set n (ds++[y]))) (H2:=upd H b (.lst (vs++[vy]))) (F2:=F i) (os':=.own (OLL (d.set n (ds++[y])))) i e L (λc o p u=>by rw[aah (λz:c=b=>p ((f c).mpr (.inr (by rw[z];exact s))))];exact u)
  (λc o u=>by
   by_cases z:c=b
   ·rw[z];exact⟨_,aam⟩
   ·rw[aah z];exact⟨o,u⟩)
  (λc z=>⟨.inl z,by
   by_cases y:c=b
   ·rw[y];exact⟨_,aam⟩
   ·rw[aah y];exact I.fo i c z⟩) ?_ (λc ks e=>by
   by_cases z:c=b
   ·subst z;rw[aam] at e;cases e
   ·rw[aah z] at e;exact I.ft c ks e) (.inl ⟨rfl,_,rfl⟩)
 ·exact O _ G _ _ _ _ J (Same.refl _) .non q
 ·refine⟨a,as,rfl,by rw[aah w];exact h,M,N,by simp[ln],λm c es p g=>?_,f⟩
  by_cases hm:m=n
  ·subst hm
   rw[hb] at p;cases p
   rw[aD2,aF5 rfl,aF5 hn] at g
   cases g
   exact⟨_,aam,E.append (.cons W .nil)⟩
  ·rw[aD2,aF6 (λz=>hm z.symm)] at g
   obtain⟨us,Y,X⟩:=r m c es p g
   refine⟨us,?_,X⟩
   rw[aah]
   ·exact Y
   ·rintro rfl
    have i1:=(aA1.mp hb)
    have T:=(aA1.mp p)
    obtain⟨P,S⟩:=i1
    obtain⟨l2,Z⟩:=T
    exact hm (nodup_ix M l2 P (Z.trans S.symm))
def exO{α:Type}(f : α->Own):Own where
 P:=λG H v F=>∃ x,(f x).P G H v F
 mono:=λ⟨x,h⟩ g hh=>⟨x,(f x).mono h g hh⟩
 dom:=λ⟨x,h⟩=>(f x).dom h
theorem VI.weakO(I:VI B G H σ env F)(e:env[i]?=some (some (.own A)))(h:∀ G H v F,A.P G H v F->A'.P G H v F):VI B G H σ (env.set i (some (.own A'))) F:=by
 refine⟨I.gh,I.g0,I.gn,I.rs,I.rb,I.bh,I.fg,I.fr,I.fd,I.fo,λj s es=>?_,by simp[I.ln],I.ft⟩
 by_cases hj:j=i
 ·subst hj
  rw[aD2,aF5 rfl,aF5 (aA1.mp e).1] at es
  cases es
  obtain⟨v,a,q⟩:=I.sl j _ e
  exact⟨v,a,h _ _ _ _ q.1,q.2⟩
 ·rw[aD2,aF6 (λz=>hj z.symm)] at es
  exact I.sl j s es
end
@[reducible] def prD (p:Int × Int):PyData:=.tuple [.int p.1,.int p.2]
@[reducible] def webD (n:Int) (es:List (Int × Int)):PyData:=.tuple [.int n,.list (es.map prD)]
def Tied(es:List (Int × Int))(u v:Int):Prop:=(u,v)∈es\/(v,u)∈es
theorem Tied.symm(h:Tied es u v):Tied es v u:=h.elim .inr .inl
def InN(n:Int)(es:List (Int × Int)):Prop:=∀ p∈es,0<=p.1/\p.1<n/\0<=p.2/\p.2<n
theorem Tied.in(hi:InN n es)(h:Tied es u v):(0<=u/\u<n)/\0<=v/\v<n:=by
 rcases h with h|h
 ·have:=hi _ h;exact⟨⟨this.1,this.2.1⟩,this.2.2⟩
 ·have:=hi _ h;exact⟨⟨this.2.2.1,this.2.2.2⟩,this.1,this.2.1⟩
theorem Tied.snoc{es:List (Int × Int)}{i:Nat}{a b:Int}(h:es[i]?=some (a,b))(u v:Int):Tied (es.take (i+1)) u v ↔ (Tied (es.take i) u v\/(u=a/\v=b))\/(u=b/\v=a):=by
 have e:es.take (i+1)=es.take i++[(a,b)]:=by rw[aH4,h];rfl
 unfold Tied
 rw[e]
 simp only[aA7,aC2,Prod.mk.injEq]
 constructor
 ·rintro((h|⟨rfl,rfl⟩)|(h|⟨rfl,rfl⟩))
  ·exact .inl (.inl (.inl h))
  ·exact .inl (.inr ⟨rfl,rfl⟩)
  ·exact .inl (.inl (.inr h))
  ·exact .inr ⟨rfl,rfl⟩
 ·rintro(((h|h)|⟨rfl,rfl⟩)|⟨rfl,rfl⟩)
  ·exact .inl (.inl h)
  ·exact .inr (.inl h)
  ·exact .inl (.inr ⟨rfl,rfl⟩)
  ·exact .inr (.inr ⟨rfl,rfl⟩)
def TiedL(n:Int)(T:Int->Int->Prop)(tl:List (List Int)):Prop:=(tl.length:Int)=n/\∀(i:Nat) ws,tl[i]?=some ws->∀ w,w∈ws ↔ T i w
def oD:Option Nat->PyData
 |none=>.none
 |some d=>.int d
def lab(n:Nat)(far:Int->Option Nat):List PyData:=(List.range n).map λ(i:Nat)=>oD (far (i:Int))
theorem adk:(lab n far).length=n:=by simp[lab]
theorem aey(h:i<n):(lab n far)[i]?=some (oD (far i)):=by
 unfold lab
 rw[aA5,aA0 (by simpa using h)]
 simp
theorem ag2{n:Nat}{far:Int->Option Nat}{v:Int}(a:0<=v)(h:v<n):atI (lab n far) v=some (oD (far v)):=by
 have:=ahj (xs:=lab n far) (j:=v.toNat) (aey (by lia))
 rwa [show((v.toNat:Nat):Int)=v by lia] at this
theorem ajc{n:Nat}{v:Int}(a:0<=v)(h:v<n):ixN n v=some v.toNat:=by
 unfold ixN;rw[aF5 a,aF5 h]
theorem ap4{n:Nat}{far:Int->Option Nat}{v:Int}{d:Nat}(a:0<=v)(h:v<n):(lab n far).set v.toNat (.int d)=lab n (Gr.label far v d):=by
 apply aG2
 intro i
 rw[aD2]
 by_cases e:v.toNat=i
 ·rw[aF5 e,aF5 (by rw[adk];lia),aey (by lia)]
  have:(i:Int)=v:=by lia
  rw[this,Gr.label_same];rfl
 ·rw[aF6 e]
  by_cases hi:i<n
  ·rw[aey hi,aey hi,Gr.label_ne (by lia)]
  ·rw[aF7.mpr (by rw[adk];lia),aF7.mpr (by rw[adk];lia)]
theorem ath{n:Nat}{f g:Int->Option Nat}(h:∀ v,0<=v->v<(n:Int)->f v=g v):lab n f=lab n g:=by
 unfold lab
 apply aE9
 intro i hi
 rw[h i (by lia) (by have:=aB9.mp hi;lia)]
theorem ay7:isNone (oD o)=o.isNone:=by cases o <;> rfl
theorem acd{α:Type}{f : α->PyData}{xs:List α}{i:Int}{x : α}(h:atI xs i=some x):atI (xs.map f) i=some (f x):=by
 unfold atI at h ⊢
 rw[aA3]
 cases e:ixN xs.length i with
 |none=>rw[e] at h;cases h
 |some j=>rw[e] at h;simp at h ⊢;exact⟨_,h,rfl⟩
theorem acl{α:Type}{xs:List α}{i:Int}{x : α}(a:0<=i)(h:xs[i.toNat]?=some x):atI xs i=some x:=by
 have:=ahj (xs:=xs) (j:=i.toNat) h
 rwa [show((i.toNat:Nat):Int)=i by lia] at this
@[reducible] def tlD (tl:List (List Int)):List (List PyData):=tl.map λws=>ws.map .int
theorem TiedL.get{n:Int}{T:Int->Int->Prop}{tl:List (List Int)}(h:TiedL n T tl){v:Int}(b:0<=v)(c:v<n):∃ ws,tl[v.toNat]?=some ws/\∀ w,w∈ws ↔ T v w:=by
 have a:v.toNat<tl.length:=by have:=h.1;lia
 refine⟨tl[v.toNat],aA0 a,λw=>?_⟩
 rw[h.2 _ _ (aA0 a) w,show((v.toNat:Nat):Int)=v by lia]
theorem ahz{tl:List (List Int)}{i:Nat}{ws:List Int}(h:tl[i]?=some ws):(tlD tl)[i]?=some (ws.map .int):=by
 rw[aA5,h];rfl
theorem TiedL.put(h:TiedL n T tl)(f:0<=v)(g:v<n)(c:tl[v.toNat]?=some ws):TiedL n (λa b=>T a b\/(a=v/\b=q)) (tl.set v.toNat (ws++[q])):=by
 refine⟨by rw[List.length_set];exact h.1,λi us hi w=>?_⟩
 rw[aD2] at hi
 by_cases e:v.toNat=i
 ·rw[aF5 e] at hi
  have j:v.toNat<tl.length:=(aA1.mp c).1
  rw[aF5 (by lia)] at hi
  cases hi
  have d:(i:Int)=v:=by lia
  rw[aA7,aC2,h.2 i ws (by rw[← e];exact c) w,d]
  simp
 ·rw[aF6 e] at hi
  rw[h.2 i us hi w]
  exact⟨.inl,λz=>z.elim id λz=>by lia⟩
theorem ap5:(tlD tl).set i (ws.map .int)=tlD (tl.set i ws):=by
 unfold tlD;rw[List.map_set]
theorem TiedL.iff(h:TiedL n T tl)(e:∀ u v,T u v ↔ a u v):TiedL n a tl:=⟨h.1,λi ws hi w=>(h.2 i ws hi w).trans (e _ _)⟩
end VL
namespace VL
open PySem L2
def cnt(far:Int->Option Nat):Nat->Nat
 |0=>0
 |n+1=>cnt far n+(if far (n:Int)=none then 1 else 0)
theorem agq:∀{n:Nat},(w:Int) ≥ n->cnt (Gr.label far w d) n=cnt far n
 |0,_=>rfl
 | n+1,h=>by
  unfold cnt
  rw[agq (by lia),Gr.label_ne (by lia)]
theorem ak1(b:0<=w)(a:far w=none):∀{n:Nat},w<(n:Int)->cnt (Gr.label far w d) n+1=cnt far n
 |0,h=>by lia
 | n+1,h=>by
  unfold cnt
  by_cases e:w=n
  ·subst e
   rw[agq (by lia),Gr.label_same,a];simp
  ·rw[Gr.label_ne (by lia)]
   have:=ak1 b a (n:=n) (d:=d) (by lia)
   lia
theorem ay8(n:Nat):(List.replicate n [PyData.none]).flatten=lab n (λ_=>none):=by
 apply aG2
 intro i
 by_cases hi:i<n
 ·rw[aey hi]
  have:(List.replicate n [PyData.none]).flatten=List.replicate n PyData.none:=by
   clear hi
   induction n with
   |zero=>rfl
   |succ n ih=>rw[aH3,List.flatten_cons,ih,aH3];rfl
  rw[this,aH7,aF5 hi];rfl
 ·rw[aF7.mpr (by rw[aph];simp;lia),aF7.mpr (by rw[adk];lia)]
theorem aoy{α:Type}{f : α->PyData}{xs:List α}:(xs.map f).isEmpty=xs.isEmpty:=by cases xs <;> rfl
theorem aeq{xs:List Int}{j:Nat}{u w:Int}(a:xs[j]?=some u)(hm:w∈xs.take (j+1)):w∈xs.take j\/w=u:=by
 rw[aH4,a] at hm
 rcases aA7.mp hm with q|q
 ·exact .inl q
 ·exact .inr (by simpa using q)
theorem ati:plainDs (lab n far)=true:=by
 rw[afr]
 intro d hd
 obtain⟨i,_,rfl⟩:=aB7.mp hd
 cases far (i:Int) <;> rfl
theorem ay9:((lab n far).any λz=>PyData.eqv z .none)=true ↔ ∃ v:Int,0<=v/\v<n/\far v=none:=by
 rw[List.any_eq_true]
 constructor
 ·rintro⟨d,hd,e⟩
  obtain⟨i,hi,rfl⟩:=aB7.mp hd
  refine⟨i,by lia,by have:=aB9.mp hi;lia,?_⟩
  cases h:far (i:Int) with
  |none=>rfl
  |some d=>rw[h] at e;simp[oD,PyData.eqv] at e
 ·rintro⟨v,a,b,h⟩
  refine⟨oD (far v),?_,by rw[h];rfl⟩
  have:=aey (far:=far) (show v.toNat<n by lia)
  rw[show((v.toNat:Nat):Int)=v by lia] at this
  exact aA2 this
def Joined(n:Int)(es:List (Int × Int)):Prop:=∀ v,0<=v->v<n->∃ d,Gr.Dist (Tied es) 0 v d
end VL
namespace DI
open PySem PySem.W
def Raw(h:Heap)(d:Addr)(es:Array DictEntry)(ep:Nat):Prop:=∃ o,h.get? d=some o/\o.ExactDict/\o.data=.dict es ep
theorem Raw.keep(r:Raw h d es ep)(k:∀ o,h.get? d=some o->h'.get? d=some o):Raw h' d es ep:=let ⟨o,e,x⟩:=r;⟨o,k o e,x⟩
theorem Raw.ty{s:Shared}{d:Addr}{es:Array DictEntry}{ep:Nat}(r:Raw s.heap d es ep):s.TypeIs (.ref d) "dict":=let ⟨o,e,x,_⟩:=r;⟨o,e,x.1⟩
section
theorem avx(hd:(d == sysModules)=false)(r:Raw s.heap d es ep)
  (c:Q (.ref s.heap.objs.size) { s with heap:=s.heap.push { cls:=.type "dict_keyiterator",data:=.fields #[.ref d,.int 0 0,.int es.size 0,.int ep 0] } }):wpAny (model prog w) A (pyIter (.ref d)) Q E s:=by
 obtain⟨o,b,f,a⟩:=id r
 refine wpAny_pyIter_slot r.ty PySem.F.slot_dict_iter (aK5 PySem.F.slot_dict_iter r.ty PySem.F.entry_dict_iter ?body (PySem.F.args_dict_iter_1 _))
 case body =>
  unfold Builtin.«dict.__iter__»
  refine aJ2 ?slot
  case slot =>
   unfold Builtin.Dict.dictSlotNone
   refine aJ2 (wpAny_notOrdered_dict r.ty ?pl)
   case pl =>
    show wpAny _ _ (pure (Value.ref d)) _ _ s
    refine aJ3 ?rest
    case rest =>
     show wpAny _ _ (Builtin.Dict.showsAll d >>= _) _ _ s
     unfold Builtin.Dict.showsAll
     rw[aF6 (by rw[hd];exact aB0)]
     refine aJ2 (aJ3 (aJ2 (wpAny_dictEntries b a (aJ2 (wpAny_dictEpoch b a (aJ2 (aK2 (aJ3 ⟨_,rfl,"dict_keyiterator",_,⟨_,aJ6 _ rfl,rfl⟩,PySem.F.slot_dict_keyiterator_next.lookup,?fin⟩))))))))
     case fin=>simpa[rawInt] using c
theorem avy (a:s.heap.IsKeyIter it d i es.size ep) (r:Raw s.heap d es ep) (hi:i<es.size)
  (t:∀ h',h'.IsKeyIter it d (i+1) es.size ep->Heap.SameBut it s.heap h'->Q (some es[i].key) { s with heap:=h' }):wpAny (model prog w) A (pyNext (.ref it)) Q E s:=by
 obtain⟨o,q,v,hd⟩:=id a
 obtain⟨od,n,u,p⟩:=r
 unfold pyNext
 refine aJ2 (wpAny_attempt (wpAny_callSpecial?_slot (name:=Str.ofString "__next__") a.typeIs PySem.F.slot_dict_keyiterator_next (aK5 PySem.F.slot_dict_keyiterator_next a.typeIs PySem.F.entry_dict_keyiterator_next ?b (PySem.F.args_dict_keyiterator_next_1 _))))
 case b =>
  refine aJ2 (aJ3 (aJ2 (aJ2 ?c)))
  case c =>
   first|refine aJ2 (wpAny_typeNameOfWhole_keyiter a.typeIs (aJ3 (aJ2 (wpAny_fieldsOf q hd ?e))))|refine aJ2 (wpAny_typeNameOf_keyiter a.typeIs (aJ3 (aJ2 (wpAny_fieldsOf q hd ?e))))
   case e =>
    simp only[show Builtin.Dict_items.ownsTuple "dict_keyiterator" = false by decide,Bool.false_eq_true,if_false]
    show wpAny _ _ (if (Value.ref d == Value.none)=true then _ else _) _ _ s;rw[aF6 (show ¬ ((Value.ref d == Value.none)=true) from aB0)]
    refine aJ2 (aJ3 (aJ2 (wpAny_dictEntries n p ?f)))
    case f =>
     rw[aF6 (by simp)];refine aJ2 (aJ3 (aJ2 (wpAny_dictEpoch n p ?g)))
     case g =>
      rw[aF6 (by simp)];refine aJ3 ?h
      case h =>
       simp only[show ¬ ((i:Int)<0) by lia,if_false,Int.toNat_natCast,aA4 hi];refine aJ2 ?j
       case j =>
        first|refine aJ2 (wpAny_typeNameOfWhole_keyiter a.typeIs (aJ3 (aJ2 (wpAny_isOneOf_keyiter a.typeIs ?k))))|refine aJ2 (wpAny_typeNameOf_keyiter a.typeIs (aJ3 (aJ2 (wpAny_isOneOf_keyiter a.typeIs ?k))))
        case k =>
         show wpAny _ _ (setField (.ref it) 1 (rawInt ((i:Int)+1)) >>= _) _ _ s;refine aJ2 (wpAny_setField q hd (by simp) ?l)
         case l =>
          have nx:(s.heap.update it (Obj.mapFields (·.setIfInBounds 1 (rawInt ((i:Int)+1))))).IsKeyIter it d (i+1) es.size ep:=⟨_,aK8 _ q (Obj.isFreed_of_fields (Obj.data_mapFields hd _)),(Obj.cls_mapFields ..).trans v,by rw[Obj.data_mapFields hd];simp[rawInt]⟩
          refine aJ2 (aJ8 (aJ2 (wpAny_isOneOf_keyiter (s:={ s with heap:=s.heap.update it (Obj.mapFields (·.setIfInBounds 1 (rawInt ((i:Int)+1)))) }) nx.typeIs ?m)))
          case m=>show wpAny _ _ (pure es[i].key) _ _ _;exact aJ3 (aJ3 ⟨_,rfl,aJ3 (t _ nx (Heap.SameBut.update ..))⟩)
theorem aza (hh:A.handled=none) (i:s.heap.IsKeyIter it d es.size es.size ep) (r:Raw s.heap d es ep) (u:∀ h',Heap.ExtBut it s.heap h'->Q none { s with heap:=h' }):wpAny (model prog w) A (pyNext (.ref it)) Q E s:=by
 obtain⟨o,t,x,hd⟩:=id i
 obtain⟨od,n,v,p⟩:=r
 unfold pyNext
 refine aJ2 (wpAny_attempt (wpAny_callSpecial?_slot (name:=Str.ofString "__next__") i.typeIs PySem.F.slot_dict_keyiterator_next (aK5 PySem.F.slot_dict_keyiterator_next i.typeIs PySem.F.entry_dict_keyiterator_next ?b (PySem.F.args_dict_keyiterator_next_1 _))))
 case b =>
  refine aJ2 (aJ3 (aJ2 (aJ2 ?c)))
  case c =>
   first|refine aJ2 (wpAny_typeNameOfWhole_keyiter i.typeIs (aJ3 (aJ2 (wpAny_fieldsOf t hd ?e))))|refine aJ2 (wpAny_typeNameOf_keyiter i.typeIs (aJ3 (aJ2 (wpAny_fieldsOf t hd ?e))))
   case e =>
    simp only[show Builtin.Dict_items.ownsTuple "dict_keyiterator" = false by decide,Bool.false_eq_true,if_false]
    show wpAny _ _ (if (Value.ref d == Value.none)=true then _ else _) _ _ s;rw[aF6 (show ¬ ((Value.ref d == Value.none)=true) from aB0)]
    refine aJ2 (aJ3 (aJ2 (wpAny_dictEntries n p ?f)))
    case f =>
     rw[aF6 (by simp)];refine aJ2 (aJ3 (aJ2 (wpAny_dictEpoch n p ?g)))
     case g =>
      rw[aF6 (by simp)];refine aJ3 ?h
      case h =>
       simp only[show ¬ ((es.size:Int)<0) by lia,if_false,Int.toNat_natCast,Array.getElem?_eq_none (aA6 es.size)];refine aJ2 ?j
       case j =>
        first|refine aJ2 (wpAny_typeNameOfWhole_keyiter i.typeIs (aJ3 ?k))|refine aJ2 (wpAny_typeNameOf_keyiter i.typeIs (aJ3 ?k))
        case k =>
         show wpAny _ _ (setField (.ref it) 0 .none >>= _) _ _ s;refine aJ2 (wpAny_setField t hd (by simp) ?l)
         case l =>
          show wpAny _ _ (newExc (.type "StopIteration") [] >>= _) _ _ _;refine aJ2 ?m
          case m =>
           simp only[newExc,newTuple];refine aJ2 (aK2 ?zz2 (by size_fits))
           case zz2 =>
            refine aJ2 (m:=firstArgMember _ _) (wpAny_of_eq (a:=Value.none) (by first|rfl|(simp only[firstArgMember];rfl)) (aK2 ?zz1 (by size_fits)))
            case zz1 =>
             simp only[raiseNew];refine aJ2 (wpAny_handled ?q)
             case q =>
              rw[show A.in1.handled=none from hh];refine aJ2 (aJ3 (wpAny_throw ?u1))
              case u1=>refine aJ2 (wpAny_isInstance (T:="StopIteration") (b:=true) ⟨_,aJ6 _ rfl,rfl⟩ isSubtype_stop ?u2);exact aJ3 (u _ (((Heap.SameBut.update ..).extBut.push _).push _))
end
theorem walks{prog:Program}{w:World}{A:Around}(hh:A.handled=none)(I d:Addr)(c:d ≠ I)(es:Array DictEntry)(ep:Nat) :
  Walks prog w A I [I,d] [I] es.size (λi v=>(es[i]?).map (·.key)=some v) (λi h=>h.IsKeyIter I d i es.size ep/\Raw h d es ep) where
 sub:=λb hb=>by simp at hb;simp[hb]
 frame:=λ_ _ _ st f=>⟨st.1.at λo e=>f I (by simp) o e,st.2.keep λo e=>f d (by simp) o e⟩
 item:=λi s Q E hi st a=>avy st.1 st.2 hi λh' nx sb=>a _ h' s.toks (by rw[aA4 hi];rfl) ⟨nx,st.2.keep λo e=>sb.extBut d o c e⟩ λb o hb e=>sb.extBut b o (λz=>hb (by simp[z])) e
 done:=λs Q E st a=>aza hh st.1 st.2 λh' g=>a h' s.toks λb o hb e=>g b o (λz=>hb (by simp[z])) e
 self:=λ_ _ _ _ st a=>wpAny_pyIter_keyiter st.1 a
end DI
namespace DI
open PySem PySem.W PyProof.Rows
section
variable{prog:Program}{w:World}{A:Around}{E:Value->Shared->Prop}{s:Shared}
theorem src(d:Addr)(es:Array DictEntry)(ep:Nat)(hd:(d == sysModules)=false):KdlSrc prog w "dict" d d es.size (λi v=>(es[i]?).map (·.key)=some v) (λh=>Raw h d es ep) where
 type:=λs r=>r.ty
 there:=λh r=>let ⟨o,e,_⟩:=r;⟨aJ5 e,aJ5 e⟩
 keep:=λh h' r k=>r.keep λo e=>k d (.inl rfl) o e
 notList:=by decide
 notTuple:=by decide
 hint:=λA E s Q r q=>kdl_hint_dict r.ty q
 iter:=λA s hh r=>⟨{ cls:=.type "dict_keyiterator",data:=.fields #[.ref d,.int 0 0,.int es.size 0,.int ep 0] },λi h=>h.IsKeyIter s.heap.objs.size d i es.size ep/\Raw h d es ep,λE Q q=>avx hd r q,
  walks hh s.heap.objs.size d (by obtain⟨o,e,_⟩:=r;exact aB6 (aJ5 e)) es ep,⟨_,aJ6 _ rfl,rfl,rfl⟩,r.keep λo e=>aJ4 _ e⟩
theorem collect_src(K:KdlSrc prog w T r d n P j)(hh:A.handled=none)(hok:j s.heap)(hn:n<=sizeLine)
  (q:∀ h' i (f:Array Value),(∀ b o,s.heap.get? b=some o->h'.get? b=some o)->s.heap.objs.size<=h'.objs.size->ItemsOf P f n->Q f.toList { s with heap:=h',toks:=i }):wpAny (model prog w) A (collect (.ref r)) Q E s:=by
 unfold collect
 refine aJ2 (wpAny_runValue (aK9 PySem.F.entry_proto_collect ?a1))
 case a1 =>
  rw[aK3 PySem.F.plain_proto_collect _];show wpAny _ A.in1 (newList [] >>= λl=>again (.builtin "list.__iadd__" ⟨[l,.ref r],[]⟩)) _ _ s
  refine aJ2 (aK2 (aJ3 ⟨plainId_quiet PySem.F.plain_list_iadd _,aK9 PySem.F.entry_list_iadd ?a2⟩))
  case a2 =>
   rw[aK3 PySem.F.plain_list_iadd _];show wpAny _ A.in1 (Builtin.List.listExtendWith (.ref s.heap.objs.size) (.ref r) (.ref s.heap.objs.size)) _ _ _
   have t:(s.heap.push { cls:=.type "list",data:=.seq ([]:List Value).toArray }).get? s.heap.objs.size=some { cls:=.type "list",data:=.seq #[] 0 }:=aJ6 _ rfl
   obtain⟨t1,p⟩:=K.there _ hok
   refine kdl_extend (R:=wants (λv s'=>wpAny (model prog w) A (match v with | .ref a=>(do match (← load a).data with | .seq xs _=>pure xs.toList|_=>unsupported "internal:collect")|_=>unsupported "internal:collect") Q E s') E) (s:={ s with heap:=s.heap.push { cls:=.type "list",data:=.seq ([]:List Value).toArray } }) K hh (K.keep _ _ hok λb _ o e=>aJ4 _ e) s.heap.objs.size (Nat.ne_of_gt t1) (Nat.ne_of_gt p) _ 0 t (λh' i f c k h g=>?a3) hn
   case a3 =>
    show wpAny (model prog w) A _ Q E _
    refine aJ2 (wpAny_load h ?a4)
    case a4=>exact aJ3 (q h' i f (λb o e=>k b o (aB6 (aJ5 e)) (aJ4 _ e)) (aG5 (aJ5 h)) g)
end
end DI
namespace TS
open PySem PySem.W PyProof.Rows
section
end
end TS
namespace L2
open PySem PySem.Spec PyProof.Rows
section
theorem Inv.turnNew{t':Nat}{ch:List Addr}{T:Addr}{o:HO}(I:Inv X pins σ H s)(f:∀ b∈ch,FpOk X pins H b)(k:∀ b u,b ∉ ch->s.heap.get? b=some u->h'.get? b=some u)(hT:s.heap.objs.size<=T)(new:ObjOk X.prog X.w (upd H T o) h' T o) :
  Inv X pins σ (upd H T o) { s with heap:=h',toks:=t' }:=by
 have hn:H T=none:=I.hok.fresh hT
 have d:∀ b u,H b=some u->b ∉ ch:=λb u e z=>by rw[(f b z).1] at e;cases e
 refine I.step (g':=s.gens) (d':=s.drawn) (ch:=ch) (λb hb=>⟨(f b hb).2.2.2.1,(f b hb).2.1,(f b hb).2.2.2.2.1,(f b hb).2.2.2.2.2⟩) (λb u _ _ a e _=>k b u a e) (λb u _ _ a e _=>⟨u.slots,k b u a e⟩)
  (λb u _ e n=>by rw[aah (aB6 (aC5 (aJ5 e) hT))];exact n) (λb u a e=>⟨u,k b u a e⟩) (λb xs e=>by rw[aah (aau e hn)];exact e) (λb u v e=>by rw[aah (aau e hn)];exact e)
  (λb ps e=>⟨#[],by rw[aah (aau e hn),e];simp⟩) (λm hm=>?_) (λb u e=>?_) I.bare
 ·obtain⟨u,es,ep,g,r⟩:=hm
  exact⟨u,es,ep,k _ u (λz=>(f _ z).2.1 rfl) g,r⟩
 ·by_cases hb:b=T
  ·subst hb;rw[aam] at e;cases e;exact new
  ·rw[aah hb] at e
   refine(I.hok b u e).stay (λc v a q=>k c v ?_ q) (λc q=>by rw[aah (aau q hn)];exact q) λc xs q=>by rw[aah (aau q hn)];exact q
   rcases a with z|z
   ·rw[z];exact d b u e
   ·exact d c _ z
theorem Inv.turnedL{t':Nat}{ch:List Addr}(I:Inv X pins σ H s)(f:∀ b∈ch,FpOk X pins H b)(k:∀ b u,b ∉ ch->s.heap.get? b=some u->h'.get? b=some u):Inv X pins σ H { s with heap:=h',toks:=t' }:=by
 have d:∀ b u,H b=some u->b ∉ ch:=λb u e z=>by rw[(f b z).1] at e;cases e
 refine I.step (g':=s.gens) (d':=s.drawn) (ch:=ch) (λb hb=>⟨(f b hb).2.2.2.1,(f b hb).2.1,(f b hb).2.2.2.2.1,(f b hb).2.2.2.2.2⟩) (λb u _ _ a e _=>k b u a e) (λb u _ _ a e _=>⟨u.slots,k b u a e⟩) (λ_ _ _ _ n=>n)
  (λb u a e=>⟨u,k b u a e⟩) (λ_ _ e=>e) (λ_ _ _ e=>e) (λb ps e=>⟨#[],by rw[e];simp⟩) (λm hm=>?_) (λb u e=>?_) I.bare
 ·obtain⟨u,es,ep,g,r⟩:=hm
  exact⟨u,es,ep,k _ u (λz=>(f _ z).2.1 rfl) g,r⟩
 ·refine(I.hok b u e).stay (λc v a q=>k c v ?_ q) (λ_ q=>q) λ_ _ q=>q
  rcases a with z|z
  ·rw[z];exact d b u e
  ·exact d c _ z
end
def Ite(K:Frag)(a:Addr):It :=
 ⟨λi H=>∃ xs x,SqL K H a xs/\xs[i]?=some x,λi H x H'=>∃ p y,x=.ref p/\H p=none/\H'=upd H p (.tup [.int i,y])/\∀ xs,SqL K H a xs->xs[i]?=some y,λi H=>∃ xs,SqL K H a xs/\xs.length<=i⟩
def Itz(K:Frag)(a b:Addr):It :=
 ⟨λi H=>∃ xs ys x y,SqL K H a xs/\SqL K H b ys/\xs[i]?=some x/\ys[i]?=some y,λi H v H'=>∃ p x y,v=.ref p/\H p=none/\H'=upd H p (.tup [x,y])/\(∀ xs,SqL K H a xs->xs[i]?=some x)/\∀ ys,SqL K H b ys->ys[i]?=some y,
  λi H=>∃ xs ys,SqL K H a xs/\SqL K H b ys/\min xs.length ys.length=i⟩
theorem atj{P:Program}{w:World}{K:Frag}{f:List Expr}{k:Nat}{pos:Pos}(a e it:Addr)(Y:e ≠ it)(U:a ≠ e)(D:a ≠ it) :
  Turn P w K (.Tuple f k pos) (Ite K a) [e,it] e (λi h=>(∃ old,IsEnum h e it i old)/\h.IsListIter it a i) where
 mem:=by simp
 obj:=λi h st b hb=>by
  obtain⟨⟨old,g⟩,o,G,c,d⟩:=st
  rcases aA9.mp hb with rfl|hb
  ·exact⟨_,g,λv z=>by simp at z⟩
  ·have:b=it:=by simpa using hb
   subst this
   exact⟨o,G,λv z=>by rw[d] at z;cases z⟩
 keep:=λi h h' st q=>⟨let ⟨old,g⟩:=st.1;⟨old,q e (by simp) _ g⟩,st.2.at λo x=>q it (by simp) o x⟩
 item:=by
  intro X l R N L i pins s σ H E I hf st J
  subst l R N
  obtain⟨xs,x,B,O⟩:=J
  obtain⟨its,C,p,hz⟩:=I.list B
  obtain⟨u,Z,ru⟩:=C.get O
  have hi:i<its.toArray.size:=by simpa using (aA1.mp Z).1
  have W:=WalksT.enumerate (prog:=X.prog) (w:=X.w) (I.ok.hd L) e it a Y U D its.toArray
  refine W.item i s _ _ hi ⟨st.1,st.2,p.isList⟩ λT a1 h1 tk l hT S mid kk=>⟨_,rfl,?_⟩
  obtain⟨t,y,M,rfl⟩:=l
  have ey:y=u:=by
   have:its[i]?=some y:=by simpa using M
   rw[Z] at this;cases this;rfl
  subst ey
  have aT:=W.apart i T _ mid
  refine W.go f k pos i T { s with heap:=h1,toks:=tk } _ _ mid λh2 j k2=>?_
  have r:IsTup h2 T #[.int i t,y]:=by
   obtain⟨o,G,e2,n,e3⟩:=S
   exact⟨o,k2 T o aT G,e2,n,e3⟩
  refine⟨.ref T,upd H T (.tup [.int i,x]),I.turnNew hf (λb o hb q=>k2 b o hb (kk b o hb q)) hT ?_,rfl,⟨T,x,rfl,I.hok.fresh hT,rfl,λys M=>by rw[I.list_inj M B];exact O⟩,⟨?_,j.2.1⟩,λb hb=>?_⟩
  ·exact⟨by show(2:Nat)<=sizeLine;decide,[.int i t,y],.cons ⟨t,rfl⟩ (.cons ru .nil),r⟩
  ·obtain⟨old,q⟩:=j.1
   exact⟨old,by simpa using q⟩
  ·rw[aah]
   ·exact(hf b hb).1
   ·rintro rfl;exact aT hb
 done:=by
  intro X l R N L i pins s σ H E I hf st J
  subst l R N
  obtain⟨xs,B,O⟩:=J
  obtain⟨its,C,p,hz⟩:=I.list B
  obtain⟨⟨old,g⟩,F⟩:=st
  have hl:=C.length
  exact wpAny_pyNext_enum_end (I.ok.hd L) g F p.isList (by simp;lia) λh2 eb=>⟨rfl,I.turnedL (t':=s.toks) hf λb o hb q=>eb b o (λz=>hb (by simp[z])) q⟩
 self:=λA i s Q E st h=>by
  obtain⟨⟨old,g⟩,_⟩:=st
  exact wpAny_pyIter_enum g h
section
def axe(K:Frag)(ta:TA):TI:=λσ H R=>ta σ H λvs H1=>∃ a xs,vs=[.ref a]/\SqL K H1 a xs/\R (Ite K a) H1
theorem ap6(t:Gl X "enumerate")(hm:X.mg "enumerate" = none)(ha:PA X [a] j)(hs:starEach [a] X.env=[(false,eval a X.env)]:=by rfl):PI X (.Tuple elts k tpos) (.Call (.Name "enumerate" p) [a] [] pos) (axe X.K j):=by
 intro pins s σ H R I h
 refine Call_ (adm I t hm amr (PyProof.Rows.callWith_type1 (thn (ha pos pins s σ H _ I h) λus s1 ⟨vs,x,f,l,a,xs,r,w,q⟩=>?_) hs rfl))
 subst r
 obtain⟨u,rfl,v⟩:=adi l
 cases v
 obtain⟨its,y,pl,hz⟩:=f.list w
 refine call_enumerate_list pl.isList λz i g hsz kp=>?_
 have d:a<s1.heap.objs.size:=by obtain⟨o,n,e,_⟩:=pl;exact aJ5 e
 refine wpAny_pyIter_enum i ⟨s1.heap.objs.size+1,[s1.heap.objs.size+1,s1.heap.objs.size],_,_,x,rfl,f.kept (t':=s1.toks) kp,atj a _ _ (Nat.succ_ne_self _) (aB6 (aF8 d)) (aB6 d),⟨⟨_,i⟩,g⟩,λb hb=>?_,q⟩
 have c:s1.heap.objs.size<=b:=by
  rcases aA9.mp hb with rfl|hb
  ·exact Nat.le_succ _
  ·have:b=s1.heap.objs.size:=by simpa using hb
   exact Nat.le_of_eq this.symm
 exact f.fpOk c (f.hok.fresh c)
end
theorem avz{P:Program}{w:World}{K:Frag}{p:List Expr}{k:Nat}{pos:Pos}(z TI TO i1 f J N:Addr)(D:ZipApart z TI TO i1 f J N) :
  Turn P w K (.Tuple p k pos) (Itz K J N) [z,TI,TO,i1,f] z (λi h=>IsZip h z TI TO .none/\IsPair h TI (.ref i1) (.ref f)/\(∃ a b,IsPair h TO a b)/\h.IsListIter i1 J i/\h.IsListIter f N i) where
 mem:=by simp
 obj:=λi h st b hb=>by
  obtain⟨hz,c,⟨a,b',d⟩,⟨o1,Z,c1,d1⟩,⟨o2,e2,c2,d2⟩⟩:=st
  simp only[aA9,aI3,or_false] at hb
  rcases hb with rfl|rfl|rfl|rfl|rfl
  ·exact⟨_,hz,λv y=>by simp at y⟩
  ·exact⟨_,c,λv y=>by simp at y⟩
  ·exact⟨_,d,λv y=>by simp at y⟩
  ·exact⟨o1,Z,λv y=>by rw[d1] at y;cases y⟩
  ·exact⟨o2,e2,λv y=>by rw[d2] at y;cases y⟩
 keep:=λi h h' st q=>by
  obtain⟨hz,c,⟨a,b',d⟩,C,F⟩:=st
  exact⟨q z (by simp) _ hz,q TI (by simp) _ c,⟨a,b',q TO (by simp) _ d⟩,C.at λo x=>q i1 (by simp) o x,F.at λo x=>q f (by simp) o x⟩
 item:=by
  intro X L hw hK hc i pins s σ H E I hf st hg
  subst L hw hK
  obtain⟨xs,ys,x,y,j,l,U,hy⟩:=hg
  obtain⟨us,B,p1,_⟩:=I.list j
  obtain⟨vs,r,p2,_⟩:=I.list l
  obtain⟨u,hu,ru⟩:=B.get U
  obtain⟨v,hv,rv⟩:=r.get hy
  have hi:i<min us.toArray.size vs.toArray.size:=by
   have a1:=(aA1.mp hu).1
   have a2:=(aA1.mp hv).1
   simp;lia
  obtain⟨hz,c,d,C,F⟩:=st
  have W:=WalksT.zip2 (prog:=X.prog) (w:=X.w) (I.ok.hd hc) z TI TO i1 f J N D us.toArray vs.toArray
  refine W.item i s _ _ hi ⟨hz,c,d,C,F,p1.isList,p2.isList⟩ λT a5 h3 tk L hT M mid Y=>⟨_,rfl,?_⟩
  obtain⟨S,R,a4,a3,rfl⟩:=L
  have ex:S=u:=by
   have:us[i]?=some S:=by simpa using a4
   rw[hu] at this;cases this;rfl
  have ey:R=v:=by
   have:vs[i]?=some R:=by simpa using a3
   rw[hv] at this;cases this;rfl
  subst ex ey
  have G:=W.apart i T _ mid
  have sub:∀ b,b ∉ [z,TI,TO,i1,f]->b ∉ [z,TO,i1,f]:=λb hb y=>hb (by simp at y ⊢;rcases y with y|y|y|y <;> simp[y])
  have Tt:T ∉ [z,TI,TO,i1,f]:=λy=>by
   have:=(hf T y).1
   obtain⟨o,e,_⟩:=M
   simp only[aA9,aI3,or_false] at y
   rcases y with rfl|rfl|rfl|rfl|rfl
   ·exact G (by simp)
   ·exact absurd (aJ5 c) (Nat.not_lt.mpr hT)
   ·exact G (by simp)
   ·exact G (by simp)
   ·exact G (by simp)
  refine W.go p k pos i T { s with heap:=h3,toks:=tk } _ _ mid λh4 g k4=>?_
  have O:IsTup h4 T #[S,R]:=by
   obtain⟨o,Z,e2,n,e3⟩:=M
   exact⟨o,k4 T o G Z,e2,n,e3⟩
  refine⟨.ref T,upd H T (.tup [x,y]),I.turnNew hf (λb o hb q=>k4 b o (sub b hb) (Y b o (sub b hb) q)) hT ?_,rfl,⟨T,x,y,rfl,I.hok.fresh hT,rfl,λzs t=>by rw[I.list_inj t j];exact U,λzs t=>by rw[I.list_inj t l];exact hy⟩,⟨g.1,g.2.1,g.2.2.1,g.2.2.2.1,g.2.2.2.2.1⟩,λb hb=>?_⟩
  ·exact⟨by show(2:Nat)<=sizeLine;decide,[S,R],.cons ru (.cons rv .nil),O⟩
  ·rw[aah]
   ·exact(hf b hb).1
   ·rintro rfl;exact Tt hb
 done:=by
  intro X L hw hK hc i pins s σ H E I hf st hg
  subst L hw hK
  obtain⟨xs,ys,j,l,U⟩:=hg
  obtain⟨us,B,p1,_⟩:=I.list j
  obtain⟨vs,r,p2,_⟩:=I.list l
  obtain⟨hz,c,d,C,F⟩:=st
  have W:=WalksT.zip2 (prog:=X.prog) (w:=X.w) (I.ok.hd hc) z TI TO i1 f J N D us.toArray vs.toArray
  have ei:min us.toArray.size vs.toArray.size=i:=by
   rw[← U,B.length,r.length];simp
  have sub:∀ b,b ∉ [z,TI,TO,i1,f]->b ∉ [z,TO,i1,f]:=λb hb y=>hb (by simp at y ⊢;rcases y with y|y|y|y <;> simp[y])
  rw[← ei] at C F
  exact W.done s _ _ ⟨hz,c,d,C,F,p1.isList,p2.isList⟩ λh3 tk Y=>⟨rfl,I.turnedL (t':=tk) hf λb o hb q=>Y b o (sub b hb) q⟩
 self:=λA i s Q E st h=>wpAny_pyIter_zip st.1 h
theorem a2c{n a b:Nat}(c:a<n)(d:b<n):ZipApart (n+4) (n+2) (n+3) n (n+1) a b:=by constructor <;> (show(_:Nat) ≠ _;lia)
section
def iZip(K:Frag)(ta:TA):TI:=λσ H R=>ta σ H λvs H1=>∃ a b xs ys,vs=[.ref a,.ref b]/\SqL K H1 a xs/\SqL K H1 b ys/\R (Itz K a b) H1
theorem anl(E:Gl X "zip")(hm:X.mg "zip" = none)(ha:PA X [a,b] t)(hs:starEach [a,b] X.env=[(false,eval a X.env),(false,eval b X.env)]:=by rfl)(d:starEach [b] X.env=[(false,eval b X.env)]:=by rfl):PI X (.Tuple elts k tpos) (.Call (.Name "zip" p) [a,b] [] pos) (iZip X.K t):=by
 intro pins s σ H R I h
 refine Call_ (adm I E hm a1d (PyProof.Rows.callWith_type1 (thn (ha pos pins s σ H _ I h) λus s1 ⟨vs,G,f,A,a,b,xs,ys,B,i,j,q⟩=>?_) (by rw[hs,d]) (by rw[d];rfl)))
 subst B
 obtain⟨u,c,rfl,F,x⟩:=al1 A
 cases F
 cases x
 obtain⟨_,_,v,_⟩:=f.list i
 obtain⟨_,_,p2,_⟩:=f.list j
 have z:a<s1.heap.objs.size:=by obtain⟨o,n,e,_⟩:=v;exact aJ5 e
 have D:b<s1.heap.objs.size:=by obtain⟨o,n,e,_⟩:=p2;exact aJ5 e
 refine call_zip_2 v.isList p2.isList λJ hz r l y C hsz kp=>?_
 refine wpAny_pyIter_zip hz ⟨s1.heap.objs.size+4,[s1.heap.objs.size+4,s1.heap.objs.size+2,s1.heap.objs.size+3,s1.heap.objs.size,s1.heap.objs.size+1],_,_,G,rfl,f.kept (t':=s1.toks) kp,avz _ _ _ _ _ a b (a2c z D),⟨hz,r,⟨_,_,l⟩,y,C⟩,λc w=>?_,q⟩
 have g:s1.heap.objs.size<=c:=by
  simp only[aA9,aI3,or_false] at w
  rcases w with rfl|rfl|rfl|rfl|rfl
  ·exact Nat.le_add_right _ 4
  ·exact Nat.le_add_right _ 2
  ·exact Nat.le_add_right _ 3
  ·exact aA6 _
  ·exact Nat.le_add_right _ 1
 exact f.fpOk g (f.hok.fresh g)
end
theorem ap7:∀{xs:List V}{us:List Value},xs.length=us.length->(∀(i:Nat) v u,xs[i]?=some v->us[i]?=some u->RelV v u)->Vals xs us
 |[],[],_,_=>.nil
 |[],_::_,h,_=>by simp at h
 |_::_,[],h,_=>by simp at h
 |x::xs,u::us,h,k=>.cons (k 0 x u rfl rfl) (ap7 (by simpa using h) λi v w a b=>k (i+1) v w (by simpa using a) (by simpa using b))
theorem aoz(prog:Program)(w:World)(A:Around){bs:List Bool}{us:List Value}(r:Vals (bs.map V.bl) us):TruthOf prog w A (λi v=>us.toArray[i]?=some v) (λi=>bs.getD i false):=by
 intro i v s Q E c h
 have a:us[i]?=some v:=by simpa using c
 have hi:i<us.length:=(aA1.mp a).1
 have hb:i<bs.length:=by have:=r.length;simp at this;lia
 obtain⟨u,b,d⟩:=r.get (i:=i) (x:=.bl bs[i]) (by simp[hb])
 rw[a] at b;cases b
 cases (show v=Value.bool bs[i] from d)
 have e:bs.getD i false=bs[i]:=by simp[List.getD,hb]
 have h':Q (bs.getD i false) s:=h
 rw[e] at h'
 exact aK6 h'
section
theorem atk(bs:List Bool):((List.range bs.length).all λi=>bs.getD i false)=bs.all id:=by
 rw[aH8,aF4,aF4]
 constructor
 ·intro h b hb
  obtain⟨i,hi,e⟩:=aH6.mp hb
  have:=h i (aB9.mpr hi)
  simp[List.getD,hi,e] at this
  exact this
 ·intro h i hi
  have a:=aB9.mp hi
  have:=h bs[i] (aF2 a)
  simp[List.getD,a];exact this
def rAll(K:Frag):List V->Hp->VK->Prop:=λxs H Q=>∃(a:Addr)(bs:List Bool),xs=[.ref a]/\SqL K H a (bs.map V.bl)/\Q (.bl (bs.all id)) H
theorem ak2(i:X.calm=true):abi X (.builtin "all") (rAll X.K):=by
 intro pins s σ H xs us Q I r h
 obtain⟨a,bs,rfl,ha,q⟩:=h
 obtain⟨u,rfl,g⟩:=adi r
 cases g
 obtain⟨its,d,c,_⟩:=I.list ha
 have f:a<s.heap.objs.size:=by obtain⟨o,n,e,_⟩:=c;exact aJ5 e
 have hz:its.toArray.size=bs.length:=by have:=d.length;simp at this;simp[this]
 refine call_all_walk (aK7 c.isList ⟨_,[s.heap.objs.size,a],_,_,_,_,_,rfl,Walks.list (A:=X.A.in1) (I.ok.hd i) _ a (aB6 f) its.toArray,⟨⟨_,aJ6 _ rfl,rfl,rfl⟩,c.isList.push _⟩,aoz _ _ _ d,λj l kp=>?_⟩)
 rw[hz,atk]
 refine⟨.bl _,H,I.kept λb o e=>kp b o (λz=>?_) (aJ4 _ e),rfl,q⟩
 exact absurd (aJ5 e) (by rw[aC2.mp z];exact aG4 _)
def atm(ta:TA):TE:=λσ H Q=>ta σ H λvs H1=>∃ j:Int,vs=[.int j]/\0<=j/\j<=1000000/\∀ l,H1 l=none->Q (.ref l) (upd H1 l (.lst ((List.range j.toNat).map λ(i:Nat)=>V.int (i:Int))))
theorem av0(G:Gl X "list")(hm:X.mg "list" = none)(r:Gl X "range")(w:X.mg "range" = none)(M:X.calm=true)(ha:PA X [a] z)(hs:starEach [a] X.env=[(false,eval a X.env)]:=by rfl)
  (g:starEach [.Call (.Name "range" p2) [a] [] d] X.env=[(false,eval (.Call (.Name "range" p2) [a] [] d) X.env)]:=by rfl):PE X (.Call (.Name "list" J) [.Call (.Name "range" p2) [a] [] d] [] pos) (atm z):=by
 intro pins s σ H Q I h
 refine Call_ (adm I G hm apo (PyProof.Rows.callWith_type1 ?_ g rfl))
 rw[g]
 refine Calls.spliced_cons (Call_ (adm I r w boot_range (PyProof.Rows.callWith_type1 (thn (ha d pins s σ H _ I h) λus s1 ⟨vs,R,x,C,j,D,P,O,q⟩=>?_) hs rfl)))
 subst D
 obtain⟨u,rfl,t,rfl⟩:=adi C
 refine call_range_1 (Calls.spliced_nil ?_)
 have hr:IsRange (s1.heap.push { cls:=.type "range",data:=.fields #[.int 0 s1.toks,.int j t,.int 1 (s1.toks+1)] }) s1.heap.objs.size 0 j 1 s1.toks t (s1.toks+1):=aJ6 _ rfl
 have hn:Builtin.Range.rangeSize 0 j 1=((j.toNat:Nat):Int):=by rw[rangeSize_one];split <;> lia
 refine call_list_range (s:={ s1 with heap:=s1.heap.push { cls:=.type "range",data:=.fields #[.int 0 s1.toks,.int j t,.int 1 (s1.toks+1)] },toks:=s1.toks+1+1 }) (x.ok.hd M) hr (small_one (by lia) (by lia) (by lia) (by lia)) hn (by lia) λE K n c kp N items=>?_
 have F:∀ b o,s1.heap.get? b=some o->E.get? b=some o:=λb o e=>kp b o (aJ4 _ e)
 have f:s1.heap.objs.size<=(s1.heap.push { cls:=.type "range",data:=.fields #[.int 0 s1.toks,.int j t,.int 1 (s1.toks+1)] }).objs.size:=by rw[aK4];exact Nat.le_succ _
 refine⟨.ref _,_,x.laid (t':=K) (o:=.lst ((List.range j.toNat).map λ(i:Nat)=>V.int (i:Int))) F f ?_,rfl,q _ (x.hok.fresh f)⟩
 refine⟨by rw[aA3,aE1];exact aG5 (VL.big (by lia)),n.toList,c,?_,by simpa using N⟩
 obtain⟨A,y⟩:=items
 refine ap7 (by simp[A]) λi v u p L=>?_
 have l:n[i]?=some u:=by simpa using L
 obtain⟨t',B⟩:=y i u l
 rw[aA5] at p
 have hi:i<j.toNat:=by
  have:=(Array.getElem?_eq_some_iff.mp l).1
  lia
 rw[aA0 (by simpa using hi)] at p
 simp at p
 subst p
 exact⟨t',by rw[B];simp⟩
end
section
end
section
end
end L2
namespace VL
open PySem PySem.Spec L2
def enD(ds:List PyData):List PyData:=(List.range ds.length).map λ(i:Nat)=>.tuple [.int (i:Int),ds.getD i .none]
def zipD(xs ys:List PyData):List PyData:=(xs.zip ys).map λp=>.tuple [p.1,p.2]
theorem aeu:(enD ds).length=ds.length:=by simp[enD]
theorem ap8{ds:List PyData}{i:Nat}{d:PyData}(h:(enD ds)[i]?=some d):∃ x,ds[i]?=some x/\d=.tuple [.int (i:Int),x]:=by
 unfold enD at h
 rw[aA5] at h
 by_cases hi:i<ds.length
 ·rw[aA0 (by simpa using hi)] at h
  simp at h
  refine⟨ds[i],aA0 hi,?_⟩
  rw[← h]
  simp[hi]
 ·rw[aF7.mpr (by simp;lia)] at h;cases h
theorem av1{xs ys:List PyData}{i:Nat}{d:PyData}(h:(zipD xs ys)[i]?=some d):∃ x y,xs[i]?=some x/\ys[i]?=some y/\d=.tuple [x,y]:=by
 unfold zipD at h
 rw[aA5] at h
 cases e:(xs.zip ys)[i]? with
 |none=>rw[e] at h;cases h
 | some p =>
  rw[e] at h
  cases h
  obtain⟨a,b⟩:=List.getElem?_zip_eq_some.mp e
  exact⟨p.1,p.2,a,b,rfl⟩
theorem Out.tup2(g:Same G H)(h:H p=none)(a:Rp G x d)(b:Rp G y e):Out G H (.ref p) (upd G p (.tup [x,y])) (upd H p (.tup [x,y])) (.st (.tuple [d,e])) (λ_=>False):=Out.newT g h (.cons a (.cons b .nil))
section
theorem av2(h:EvA B ta env λvs e=>∃ ds,vs=[.list ds]/\QI (enD ds) e):EvI B (axe K ta) env QI:=λσ G H F R I k =>
 h σ G H F _ I λvs E A w ds j b f o n=>by
  obtain⟨xs,l,c⟩:=n
  subst l
  cases o with
  | cons r t =>
   cases t
   cases r with
   | @lst a us _ ha rs =>
    refine⟨a,us,rfl,SqL.of (b.gh _ _ ha),k _ E A w _ j b f ⟨λi G' H' g h hi=>?_,λi G' H' g h hi=>?_,λi G' H' x H'' d g h ft hd y=>?_⟩ c⟩
    ·have:i<us.length:=by rw[rs.length];rw[aeu] at hi;exact hi
     exact⟨us,us[i],SqL.of (h _ _ (g _ _ ha)),aA0 this⟩
    ·exact⟨us,SqL.of (h _ _ (g _ _ ha)),by rw[rs.length];rw[aeu] at hi;exact Nat.le_of_eq hi.symm⟩
    ·obtain⟨p,v,rfl,q,rfl,s⟩:=y
     obtain⟨dx,C,rfl⟩:=ap8 hd
     obtain⟨u,D,z⟩:=rs.get C
     have:=s us (SqL.of (h _ _ (g _ _ ha)))
     rw[D] at this;cases this
     exact⟨_,Out.tup2 h q (.int _) (z.same g)⟩
theorem azb(h:EvA B ta env λvs e=>∃ xs ys,vs=[.list xs,.list ys]/\QI (zipD xs ys) e):EvI B (iZip K ta) env QI:=λσ G H F R I k =>
 h σ G H F _ I λvs T P N ds c j z D C=>by
  obtain⟨xs,ys,A,o⟩:=C
  subst A
  cases D with
  | cons r t =>
   cases t with
   | cons r2 t =>
    cases t
    cases r with
    | @lst a us _ ha rs =>
     cases r2 with
     | @lst b ws _ hb rs2 =>
      have J:(zipD xs ys).length=min us.length ws.length:=by simp[zipD,rs.length,rs2.length]
      refine⟨a,b,us,ws,rfl,SqL.of (j.gh _ _ ha),SqL.of (j.gh _ _ hb),k _ T P N _ c j z ⟨λi G' H' g h hi=>?_,λi G' H' g h hi=>?_,λi G' H' x H'' d g h ft hd y=>?_⟩ o⟩
      ·have s:i<us.length:=by lia
       have L:i<ws.length:=by lia
       exact⟨us,ws,us[i],ws[i],SqL.of (h _ _ (g _ _ ha)),SqL.of (h _ _ (g _ _ hb)),aA0 s,aA0 L⟩
      ·exact⟨us,ws,SqL.of (h _ _ (g _ _ ha)),SqL.of (h _ _ (g _ _ hb)),by rw[← J];exact hi.symm⟩
      ·obtain⟨p,v,w,rfl,E,rfl,M,U⟩:=y
       obtain⟨dx,X,Q,q,rfl⟩:=av1 hd
       obtain⟨u,S,O⟩:=rs.get Q
       obtain⟨W,f,l⟩:=rs2.get q
       have c:=M us (SqL.of (h _ _ (g _ _ ha)))
       have n:=U ws (SqL.of (h _ _ (g _ _ hb)))
       rw[S] at c;cases c
       rw[f] at n;cases n
       exact⟨_,Out.tup2 h E (O.same g) (l.same g)⟩
@[reducible] def tiD (ns:List Int):PyData:=.tuple (ns.map .int)
def lexS(pss:List (List Int)):Prop:=pss.Pairwise λx y=>HT.lexLt y x=false
theorem ail(ft:FT G H):∀{vs:List V},(∀ v∈vs,TupI H v)->Rps G vs ((vs.map (kH H)).map tiD)
 |[],_=>.nil
 | v::vs,h=>by
  obtain⟨t,ns,rfl,e,_⟩:=h v aB8
  rw[aD1,aD1,ai4 e]
  have:(ns.map V.int)=(ns.map (λi=>(Sum.inl i:Key))).map kV:=by rw[aE0];rfl
  refine .cons (.tup ?_ (Rps.ints ns)) (ail ft λu a=>h u (aB5 _ a))
  rw[this];exact ft t _ (by rw[← this];exact e)
theorem afs(gh:Same G H):∀{vs:List V}{pss:List (List Int)},Rps G vs (pss.map tiD)->(∀ ns∈pss,ns ≠ [])->(∀ v∈vs,TupI H v)/\vs.map (kH H)=pss
 |_,[],.nil,_=>⟨λv b=>by simp at b,rfl⟩
 | v::vs,ns::pss,.cons r t,hn=>by
  obtain⟨i1,c⟩:=afs gh t λd hm=>hn d (aB5 _ hm)
  cases r with
  | tup h rs =>
   have:=Rps.ints_inv rs
   subst this
   have e:=gh _ _ h
   refine⟨λu a=>?_,by rw[aD1,ai4 e,c]⟩
   rcases aA9.mp a with rfl|a
   ·exact⟨_,ns,rfl,e,hn ns aB8⟩
   ·exact i1 u a
theorem atn(hn:∀ ns∈pss,ns ≠ [])(h:EvA B ta env λds e=>ds=[.list (pss.map tiD)]/\∀ b:List (List Int),b.Perm pss->lexS b->QO (.own (OL (b.map tiD))) e):EvO B (tCB (ai5 K) ta) env QO:=λσ G H F Q I k =>
 h σ G H F _ I λvs y f x ds l c j s q=>by
  obtain⟨n,g⟩:=q
  subst n
  cases s with
  | cons r t =>
   cases t
   cases r with
   | @lst a us _ ha rs =>
    obtain⟨t1,w⟩:=afs c.gh rs hn
    refine⟨a,us,rfl,SqL.of (c.gh _ _ ha),t1,λws p d hs hf=>?_⟩
    have i:∀ v∈ws,TupI f v:=λv u=>t1 v (d.mem_iff.mp u)
    have o:=Out.newL c.gh hf (ail c.ft i)
    refine k _ _ _ x _ _ l (c.out o).1 (j.trans o.gg) (c.out o).2 (g _ ?_ ?_)
    ·have:=d.map (kH f);rw[w] at this;exact this
    ·unfold lexS;rw[aG1];exact hs
end
section
theorem Rps.bools_inv:∀{bs:List Bool}{vs:List V},Rps G vs (bs.map PyData.bool)->vs=bs.map V.bl
 |[],_,.nil=>rfl
 | b::bs,_,.cons r t=>by
  cases r
  rw[Rps.bools_inv t];rfl
theorem ap9{bs:List Bool}(h:R (.st (.bool (bs.all id)))):OpA (rAll K) [.list (bs.map .bool)] R:=λG H vs Q gh rs k=>by
 cases rs with
 | cons r t =>
  cases t
  cases r with
  | lst ha ra =>
   have:=Rps.bools_inv ra
   subst this
   exact⟨_,bs,rfl,SqL.of (gh _ _ ha),k _ _ _ _ _ (Out.refl gh (.bl _)) h⟩
theorem ato(n:Nat):Rps G ((List.range n).map λ(i:Nat)=>V.int (i:Int)) (rngD 0 n):=by
 unfold rngD
 refine ank (by simp) λi v d a hd=>?_
 rw[aA5] at a hd
 cases e:(List.range n)[i]? with
 |none=>rw[e] at a;cases a
 |some m=>rw[e] at a hd;cases a;cases hd;show Rp G (.int (m:Int)) (.int (0+(m:Int)));rw[Int.zero_add];exact .int _
theorem atp(h:EvA B ta env λds e=>∃ j:Int,ds=[.int j]/\0<=j/\j<=1000000/\QO (.own (OL (rngD 0 j.toNat))) e):EvO B (atm ta) env QO:=λσ G H F Q I k =>
 h σ G H F _ I λvs t s q ds d a c n i=>by
  obtain⟨j,f,r,g,b⟩:=i
  subst f
  obtain rfl:vs=[V.int j]:=Rps.ints_inv (ns:=[j]) n
  refine⟨j,rfl,r,g,λp l=>?_⟩
  have o:=Out.newL a.gh l (ato j.toNat)
  exact k _ _ _ q _ _ d (a.out o).1 (c.trans o.gg) (a.out o).2 b
end
section
variable{κ:Type} [DecidableEq κ] {α:Type}
def valD(es:List (κ × α))(k : κ):Option α:=(es.find? λe=>decide (e.1=k)).map (·.2)
def putD(es:List (κ × α))(k : κ)(d : α):List (κ × α):=if (es.any λe=>decide (e.1=k))=true then es.map (λe=>if e.1=k then (e.1,d) else e) else es++[(k,d)]
end
theorem RpK.val:∀{kvs:List (Key × V)}{es:List (Key × PyData)},RpK G kvs es->(valD es k=none->valV kvs k=none)/\∀ d,valD es k=some d->∃ v,valV kvs k=some v/\Rp G v d
 |_,_,.nil=>⟨λ_=>rfl,λd h=>by cases h⟩
 | _,_,.cons (k:=k') r t=>by
  obtain⟨i1,a⟩:=RpK.val (k:=k) t
  by_cases e:k'=k
  ·refine⟨λh=>by simp[valD,e] at h,λd h=>?_⟩
   simp[valD,e] at h
   subst h
   exact⟨_,by simp[valV,e],r⟩
  ·refine⟨λh=>?_,λd h=>?_⟩
   ·simp[valV,e];simp[valD,e] at h
    have:=i1 (by simp[valD];exact h)
    simpa[valV] using this
   ·obtain⟨v,b,c⟩:=a d (by simpa[valD,e] using h)
    exact⟨v,by simpa[valV,e] using b,c⟩
theorem RpK.any:∀{kvs:List (Key × V)}{es:List (Key × PyData)},RpK G kvs es->(kvs.any λe=>decide (e.1=k))=es.any λe=>decide (e.1=k)
 |_,_,.nil=>rfl
 |_,_,.cons r t=>by simp[RpK.any t]
theorem RpK.map(h:Rp G v d):∀{kvs:List (Key × V)}{es:List (Key × PyData)},RpK G kvs es->RpK G (kvs.map λe=>if e.1=k then (e.1,v) else e) (es.map λe=>if e.1=k then (e.1,d) else e)
 |_,_,.nil=>.nil
 | _,_,.cons (k:=k') r t=>by
  by_cases e:k'=k
  ·simp only[aD1,e,if_true];exact .cons h (RpK.map h t)
  ·simp only[aD1,e,if_false];exact .cons r (RpK.map h t)
theorem RpK.append:∀{a b:List (Key × V)}{c d:List (Key × PyData)},RpK G a c->RpK G b d->RpK G (a++b) (c++d)
 |_,_,_,_,.nil,s=>s
 |_,_,_,_,.cons r t,s=>.cons r (RpK.append t s)
theorem RpK.put(h:Rp G v d)(r:RpK G kvs es):RpK G (putK kvs k v) (putD es k d):=by
 unfold putK putD
 rw[r.any]
 split
 ·exact r.map h
 ·exact r.append (.cons h .nil)
theorem RpK.length{G:Hp}:∀{kvs:List (Key × V)}{es:List (Key × PyData)},RpK G kvs es->kvs.length=es.length
 |_,_,.nil=>rfl
 |_,_,.cons _ t=>by simp[RpK.length t]
theorem axf(r:Rp G v (kD k)):v=kV k:=by
 cases k with
 |inl i=>cases r;rfl
 |inr x=>cases r;rfl
section
variable{B:Bs}{env:En}{QO:Sl->En->Prop}{Q':PyData->En->Prop}{D':VEnds}{i:Nat}{te ty tv td:TE}
theorem atq(h:Ev B tv env λd j=>Has j i (OD es0)/\Ev B ty j λy o=>∃ es k,o[i]?=some (some (.own (OD es)))/\y=kD k/\es.length<=999999/\D'.nx (o.set i (some (.own (OD (putD es k d)))))):EvS B (aq3 (tVar i) ty tv) D' env:=λσ G H F D I r =>
 h σ G H F _ I λv O N M d j t z J C=>by
  obtain⟨x,w⟩:=C
  obtain⟨v0,n,a,kvs,rfl,ha,rt,_⟩:=t.has x
  refine⟨_,n,w σ O N M _ t λR K H2 F2 y o u q L ⟨es,ks,f,E,Q,A⟩=>?_⟩
  subst E
  obtain⟨P,c,⟨S,s,l,p,g,hf⟩,hb⟩:=u.sl i _ f
  rw[n] at c;cases c;cases l
  have:=axf L
  subst this
  refine⟨a,_,rfl,DPut.k p (by rw[g.length];exact big (by lia)),?_⟩
  exact r.nx σ K _ _ _ (u.upd1 (A':=OD (putD es ks d)) f (.inl rfl) n hf ⟨a,_,rfl,aam,g.put (J.same q),λb=>Iff.rfl⟩) (z.trans q) A
theorem arl{es0:List (Key × PyData)}(h:Ev B ty env λy c=>∃ es k,Has c i (OD es)/\y=kD k/\Q' (.bool (!(valD es k).isSome)) c):Ev B (ahk ty (tVar i)) env Q':=λσ G H F Q I k =>
 h σ G H F _ I λu r H2 F2 y c f j s n=>by
  obtain⟨es,b,t,o,q⟩:=n
  subst o
  obtain⟨v,p,a,kvs,rfl,ha,rt,_⟩:=f.has t
  have:=axf s
  subst this
  refine⟨_,p,a,_,rfl,DGet.k ha,?_⟩
  have e:(valV kvs b).isSome=(valD es b).isSome:=by
   obtain⟨i1,l⟩:=rt.val (k:=b)
   cases hd:valD es b with
   |none=>rw[i1 hd];rfl
   |some d=>obtain⟨v,g,_⟩:=l d hd;rw[g];rfl
  rw[e]
  exact k _ r H2 F2 _ c f j (.bl _) q
end
section
variable{B:Bs}{env:En}{QO:Sl->En->Prop}{Q':PyData->En->Prop}{QE:En->Prop}{D':VEnds}{K:Frag}{i:Nat}{ta:TA}
theorem azc(a:ds.length=n)(h:EvGs B gs ds env QE):EvG B (gLst K n gs) (.st (.list ds)) env QE:=λσ G H F v Fv Q I x k=>by
 obtain⟨r,_⟩:=x.ok
 cases r with
 |lst ha rs=>exact⟨_,_,rfl,SqL.of (I.gh _ _ ha),by rw[rs.length,a],h σ G H F _ Q I rs k⟩
theorem atr(h:EvA B ta env λds e=>∃ ns:List Int,ds=[.list (ns.map .int)]/\ns.length<64/\∀ b:List Int,b.Perm ns->b.Pairwise (·<=·)->QO (.own (OL (b.map .int))) e):EvO B (tCB (amy K) ta) env QO:=λσ G H F Q I k =>
 h σ G H F _ I λvs v u s ds g c f q j=>by
  obtain⟨ns,i,l,d⟩:=j
  subst i
  cases q with
  | cons r t =>
   cases t
   cases r with
   | @lst a us _ ha rs =>
    have:=Rps.ints_inv rs
    subst this
    refine⟨a,ns,rfl,SqL.of (c.gh _ _ ha),l,λb p n hs hf=>?_⟩
    have o:=Out.newL c.gh hf (Rps.ints b)
    exact k _ _ _ s _ _ g (c.out o).1 (f.trans o.gg) (c.out o).2 (d _ n hs)
theorem x_en{ds:List PyData}{R:List PyData->Prop}(h:R ds):∃ xs,[PyData.list ds]=[.list xs]/\R xs:=⟨ds,rfl,h⟩
theorem a3t{xs ys:List PyData}{R:List PyData->List PyData->Prop}(h:R xs ys):∃ us vs,[PyData.list xs,.list ys]=[.list us,.list vs]/\R us vs:=⟨xs,ys,rfl,h⟩
theorem azd{j:Int}{R:Int->Prop}(a:0<=j)(b:j<=1000000)(h:R j):∃ i:Int,[PyData.int j]=[.int i]/\0<=i/\i<=1000000/\R i:=⟨j,rfl,a,b,h⟩
theorem x_dK{es:List (Key × PyData)}{a:Int}{b:En}{R:List (Key × PyData)->Key->Prop}(e:b[i]?=some (some (.own (OD es))))(c:es.length<=999999)(q:R es (.inl a)):∃ es k,b[i]?=some (some (.own (OD es)))/\PyData.int a=kD k/\es.length<=999999/\R es k:=⟨es,_,e,rfl,c,q⟩
theorem x_dN{es:List (Key × PyData)}{a:Int}{b:En}{R:List (Key × PyData)->Key->Prop}(e:Has b i (OD es))(q:R es (.inl a)):∃ es k,Has b i (OD es)/\PyData.int a=kD k/\R es k:=⟨es,_,e,rfl,q⟩
end
def ltP(p q:Int × Int):Prop:=p.1<q.1\/(p.1=q.1/\p.2<q.2)
@[reducible] def p2 (p:Int × Int):List Int:=[p.1,p.2]
theorem lex2(p q:Int × Int):HT.lexLt (p2 p) (p2 q)=true ↔ ltP p q:=by
 obtain⟨a,b⟩:=p
 obtain⟨c,d⟩:=q
 simp[p2,HT.lexLt,ltP]
 split <;> lia
theorem arm(h:a.Perm (ps.map p2)):∃ qs:List (Int × Int),a=qs.map p2/\qs.Perm ps:=by
 refine⟨a.map λl=>(l.getD 0 0,l.getD 1 0),?_,?_⟩
 ·rw[aE0]
  symm
  conv=>rhs;rw[← List.map_id a]
  apply aE9
  intro l b
  obtain⟨p,_,rfl⟩:=aB7.mp (h.mem_iff.mp b)
  rfl
 ·have:=h.map λl=>(l.getD 0 0,l.getD 1 0)
  rw[aE0] at this
  have e:((λl:List Int=>(l.getD 0 0,l.getD 1 0)) ∘ p2)=id:=by funext p;rfl
  rw[e,List.map_id] at this
  exact this
def Rise(es:List (Int × Int)):Prop:=es.Pairwise ltP
theorem af1(p:Int × Int):¬ ltP p p:=by unfold ltP;lia
theorem aze(p q:Int × Int):ltP p q\/p=q\/ltP q p:=by
 obtain⟨a,b⟩:=p
 obtain⟨c,d⟩:=q
 unfold ltP
 simp only[Prod.mk.injEq]
 lia
theorem anm(h:ltP p q)(g:ltP q r):ltP p r:=by unfold ltP at *;lia
theorem aqa(b:qs.Perm ps)(hn:ps.Nodup)(hs:lexS (qs.map p2)):Rise qs:=by
 have a:qs.Nodup:=b.nodup_iff.mpr hn
 unfold lexS at hs
 rw[aG1] at hs
 unfold Rise
 refine(List.Pairwise.and hs a).imp λ{p q} h=>?_
 have c:¬ ltP q p:=λz=>by rw[(lex2 q p).mpr z] at h;exact absurd h.1 (by simp)
 rcases aze p q with z|z|z
 ·exact z
 ·exact absurd z h.2
 ·exact absurd z c
theorem Rise.nodup(h:Rise es):es.Nodup:=h.imp λ{p q} z (e:p=q)=>af1 q (by rw[e] at z;exact z)
theorem Rise.eq:∀{as bs:List (Int × Int)},Rise as->Rise bs->(∀ p,p∈as ↔ p∈bs)->as=bs
 |[],[],_,_,_=>rfl
 |[],b::_,_,_,h=>by have:=(h b).mpr aB8;simp at this
 |a::_,[],_,_,h=>by have:=(h a).mp aB8;simp at this
 | a::as,b::bs,ha,hb,h=>by
  obtain⟨d,i⟩:=aI5.mp ha
  obtain⟨c,g⟩:=aI5.mp hb
  have e:a=b:=by
   rcases aA9.mp ((h a).mp aB8) with e|e
   ·exact e
   ·rcases aA9.mp ((h b).mpr aB8) with f|f
    ·exact f.symm
    ·exact absurd (anm (d b f) (c a e)) (af1 a)
  subst e
  have:=Rise.eq i g λp=>by
   have j:=h p
   simp only[aA9] at j
   constructor
   ·intro m
    rcases j.mp (.inr m) with e|e
    ·subst e;exact absurd (d p m) (af1 p)
    ·exact e
   ·intro m
    rcases j.mpr (.inr m) with e|e
    ·subst e;exact absurd (c p m) (af1 p)
    ·exact e
  rw[this]
structure WebOk(n:Int)(es:List (Int × Int)):Prop where
 lo:1<=n
 hi:n<=60
 inn:∀ p∈es,0<=p.1/\p.1<p.2/\p.2<n
 rise:Rise es
theorem ak3{n:Nat}{es:List (Int × Int)}(hn:es.Nodup)(hi:∀ p∈es,0<=p.1/\p.1<(n:Int)/\0<=p.2/\p.2<(n:Int)):es.length<=n * n:=by
 have g:(es.map λ(p:Int × Int)=>p.1 * (n:Int)+p.2).Nodup:=by
  unfold List.Nodup
  rw[aG1]
  refine aI0 ?_ hn
  intro p q d j c e
  have a:=hi p d
  have b:=hi q j
  apply c
  have f:p.1=q.1:=by
   rcases Int.lt_trichotomy p.1 q.1 with z|z|z
   ·have:(p.1+1) * n<=q.1 * n:=Int.mul_le_mul_of_nonneg_right (by lia) (by lia)
    rw[Int.add_mul] at this;lia
   ·exact z
   ·have:(q.1+1) * n<=p.1 * n:=Int.mul_le_mul_of_nonneg_right (by lia) (by lia)
    rw[Int.add_mul] at this;lia
  rw[f] at e
  exact Prod.ext f (by lia)
 have:=L2.few_places (n * n) _ g λv i=>by
  obtain⟨p,d,rfl⟩:=aB7.mp i
  have a:=hi p d
  have l:0<=p.1 * (n:Int):=Int.mul_nonneg a.1 (by lia)
  have h:(p.1+1) * (n:Int)<=n * n:=Int.mul_le_mul_of_nonneg_right (by lia) (by lia)
  rw[Int.add_mul] at h
  push_cast
  lia
 simpa using this
theorem WebOk.len{n:Int}{es:List (Int × Int)}(h:WebOk n es):es.length<=3600:=by
 have:=ak3 (n:=n.toNat) h.rise.nodup λp b=>by have:=h.inn p b;have:=h.lo;lia
 have a:n.toNat<=60:=by have:=h.hi;lia
 exact aD0 this (Nat.mul_le_mul a a)
def kE(ps:List (Int × Int)):List (List Key × PyData):=ps.map λp=>([Sum.inl p.1,Sum.inl p.2],.bool true)
def addP(ps:List (Int × Int))(p:Int × Int):List (Int × Int):=if p∈ps then ps else ps++[p]
theorem ajd(ps:List (Int × Int)):(ps.map p2).map tiD=ps.map prD:=by rw[aE0];rfl
theorem axg{ps:List (Int × Int)}:∀ ns∈ps.map p2,ns ≠ []:=λns h=>by
 obtain⟨p,_,rfl⟩:=aB7.mp h
 simp
section
theorem afl(h:EvA B ta env λds e=>ds=[.list (ps.map prD)]/\∀ qs:List (Int × Int),qs.Perm ps->lexS (qs.map p2)->QO (.own (OL (qs.map prD))) e):EvO B (tCB (ai5 K) ta) env QO :=
 atn (pss:=ps.map p2) axg λσ G H F Q I k=>h σ G H F Q I λvs G' H' F' ds e d g r ⟨b,q⟩=>k vs G' H' F' ds e d g r ⟨by rw[ajd];exact b,λa c hs=>by
  obtain⟨qs,rfl,f⟩:=arm c
  rw[ajd];exact q qs f hs⟩
end
def OW(d:PyData)(ds:List PyData):Own where
 P:=λG H v F=>∃ t l u vs,v=.ref t/\H t=some (.tup [u,.ref l])/\Rp G u d/\H l=some (.lst vs)/\Rps G vs ds/\∀ b,F b ↔ b=t\/b=l
 mono:=λ⟨t,l,u,vs,e,h1,r1,h2,r2,f⟩ g hh=>⟨t,l,u,vs,e,hh t _ ((f t).mpr (.inl rfl)) h1,r1.same g,hh l _ ((f l).mpr (.inr rfl)) h2,r2.same g,f⟩
 dom:=λ⟨t,l,u,vs,e,h1,r1,h2,r2,f⟩ b z=>by
  rcases(f b).mp z with rfl|rfl
  ·exact⟨_,h1⟩
  ·exact⟨_,h2⟩
theorem ag3:Frz (OW d ds) (.tuple [d,.list ds]):=λG H v F ⟨t,l,u,vs,e,a,c,h,b,f⟩ n g=>by
 subst e
 exact .tup (by rw[ahq ((f t).mpr (.inl rfl))];exact a) (.cons (c.same (abm n)) (.cons (.lst (by rw[ahq ((f l).mpr (.inr rfl))];exact h) (b.same (abm n))) .nil))
theorem aje(h:R (.tuple [d,.list ds])):FQ (.own (OW d ds)) R:=⟨_,ag3,h⟩
section
variable{B:Bs}{env:En}{QO:Sl->En->Prop}{Q':PyData->En->Prop}{K:Frag}{i j:Nat}{ta te:TE}
theorem ann{u:V}{l:Addr}{ks:List Key}:HO.tup [u,.ref l] ≠ .tup (ks.map kV):=by
 intro z
 injection z with z
 match ks,z with
 |[],z=>cases z
 |[_],z=>cases z
 | [_,k],z =>
  simp at z
  cases k <;> simp[kV] at z
 |_::_::_::_,z=>simp at z
theorem av3(L:env[j]?=some (some (.own (OL s))))(h:Ev B ta env λd g=>∃ ds,g[j]?=some (some (.own (OL ds)))/\QO (.own (OW d ds)) (g.set j none)):EvO B (tTup (abe ta (abe (tVar j) tNil))) env QO:=λσ G H F Q I k =>
 h σ G H F _ I λv t E r d g c u y x=>by
  obtain⟨ds,C,q⟩:=x
  obtain⟨w,K,⟨l,vs,rfl,n,rs,hf⟩,hb⟩:=c.sl j _ C
  refine⟨_,K,⟨by show(2:Nat)<=sizeLine;decide,λp f=>?_⟩⟩
  have i:r j l:=(hf l).mpr rfl
  have pl:p ≠ l:=(aau n f).symm
  have D:=c.drop j
  have A:∀ m a,(a=p\/a=l)->¬ putF r j (λ_=>False) m a:=λm a ha z=>by
   by_cases hm:m=j
   ·subst hm;exact putF_same.mp z
   ·rw[abb hm] at z
    rcases ha with rfl|rfl
    ·exact c.no_f f m z
    ·exact hm (c.fd m j a z i)
  have J:VI B t (upd E p (.tup [v,.ref l])) σ (g.set j none) (putF r j λ_=>False):=D.grow (Same.refl _) (c.gh.trans (ab6 f)) (ab6 f) (λa o e=>.inl e) λa ks e=>by
   by_cases z:a=p
   ·subst z;rw[aam] at e;exact absurd (aC6 e) ann
   ·rw[aah z] at e;exact c.ft a ks e
  refine k _ t _ _ (λa=>a=p\/a=l) (.own (OW d ds)) _ J u ⟨⟨p,l,v,vs,rfl,aam,y,by rw[aah pl.symm];exact n,rs,λb=>Iff.rfl⟩,λa z=>?_,λa z=>?_,λa z=>?_,λm a z=>A m a z⟩ q
  ·rcases z with rfl|rfl
   ·exact c.no_b f
   ·exact hb a i
  ·rcases z with rfl|rfl
   ·exact c.no_g f
   ·exact c.fg j a i
  ·rcases z with rfl|rfl
   ·exact⟨_,aam⟩
   ·exact⟨_,by rw[aah pl.symm];exact n⟩
theorem x_ow{ds:List PyData}{a:En}{R:List PyData->Prop}(e:a[j]?=some (some (.own (OL ds))))(q:R ds):∃ ds,a[j]?=some (some (.own (OL ds)))/\R ds:=⟨ds,e,q⟩
end
section
theorem aro(f:env[i]?=some (some (.own (OD a))))(h:Ev B tv env λd b=>Has b i (OD a)/\Ev B ty b λy c=>∃ es k,c[i]?=some (some (.own (OD es)))/\y=kD k/\es.length<=999999/\D'.nx (c.set i (some (.own (OD (putD es k d)))))):EvS B (aq3 (tVar i) ty tv) D' env:=atq h
theorem ao0(c:Has env i (OD a))(h:Ev B ty env λy b=>∃ es k,Has b i (OD es)/\y=kD k/\Q' (.bool (!(valD es k).isSome)) b):Ev B (ahk ty (tVar i)) env Q':=arl (es0:=[]) h
end
section
theorem aqb(h:R (.st (.bool (HT.lexLt (p2 p) (p2 q))))):Op2 (rLtT K) (prD p) (prD q) R:=λG H g f Q gh c d k=>by
 cases c with
 | tup ha ra =>
  cases d with
  | tup hb rb =>
   have a:=Rps.ints_inv (ns:=p2 p) ra
   have b:=Rps.ints_inv (ns:=p2 q) rb
   subst a b
   exact⟨_,_,p2 p,p2 q,rfl,rfl,SqT.of (gh _ _ ha),SqT.of (gh _ _ hb),k _ _ _ _ _ (Out.refl gh (.bl _)) h⟩
end
theorem ad0(p:Int × Int):aap (prD p)=true:=rfl
theorem ajf(ps:List (Int × Int)):plainDs (ps.map prD)=true:=by
 rw[afr]
 intro d hd
 obtain⟨p,_,rfl⟩:=aB7.mp hd
 rfl
theorem aj8(p q:Int × Int):PyData.eqv (prD p) (prD q)=decide (p=q):=by
 rw[aH8,agy _ _ rfl rfl,decide_eq_true_iff]
 constructor
 ·intro h
  simp[prD] at h
  exact Prod.ext h.1 h.2
 ·rintro rfl;rfl
theorem aqc(ps:List (Int × Int))(q:Int × Int):((ps.map prD).any λz=>PyData.eqv z (prD q))=decide (q∈ps):=by
 rw[aH8,List.any_eq_true,decide_eq_true_iff]
 constructor
 ·rintro⟨d,hd,e⟩
  obtain⟨p,a,rfl⟩:=aB7.mp hd
  rw[aj8] at e
  rw[← of_decide_eq_true e];exact a
 ·intro h
  exact⟨prD q,aB7.mpr ⟨q,h,rfl⟩,by rw[aj8];exact aD8 rfl⟩
theorem ao1(h:∀ d∈ds,d.depth<=m):PyData.depthAll ds<=m:=by
 induction ds with
 |nil=>simp[PyData.depthAll]
 | cons d ds ih =>
  simp only[PyData.depthAll]
  exact Nat.max_le.mpr ⟨h d aB8,ih λe a=>h e (aB5 _ a)⟩
theorem afm(p:Int × Int):(prD p).depth<=1:=by simp[prD,PyData.depth,PyData.depthAll]
theorem av4(h:aap d=true):PyData.eqv d d=true:=(agy d d h h).mpr rfl
end VL
namespace VL
theorem ano{α:Type}(R : α->α->Prop)(tr:∀{a b c},R a b->R b c->R a c){xs:List α}:xs.Pairwise R ↔ ∀ i (h:i+1<xs.length),R (xs[i]'(by lia)) xs[i+1]:=by
 constructor
 ·intro h i hi
  exact aG7.mp h i (i+1) (by lia) hi (by lia)
 ·intro h
  rw[aG7]
  intro i j hi d f
  induction j with
  |zero=>lia
  | succ j ih =>
   by_cases e:i=j
   ·subst e;exact h i d
   ·exact tr (ih (by lia) (by lia)) (h j d)
end VL
namespace VL
open PySem PySem.Spec L2
section
theorem av5(w:Has env i x)(h:EvA B t env λds g=>∃ A d,Has g i A/\Frz A d/\f (.st d::ds.map Sl.st) λs=>∃ d',s=.st d'/\agh d'=true/\Q' d' g):Ev B (ack (spP K f) [] E (abe (tVar i) t)) env Q':=λσ G H F Q I k=>by
 unfold ack
 simp only[aF0]
 obtain⟨v,l,_⟩:=I.has w
 refine⟨v,l,h σ G H F _ I λvs N p n ds g b y C ⟨A,d,L,z,r⟩=>?_⟩
 obtain⟨O,c,ap⟩:=b.has L
 rw[l] at c;cases c
 have j:=abm (H:=p) (b.fg i)
 refine⟨jn N p (n i),_,_,al7 b.gh,λa ks e=>j _ _ (b.ft a ks e),.cons (s:=.st d) (z _ _ _ _ ap (b.fg i) b.gh) (ArgsOk.of (C.same j)),r,λs q u G' H' Fv o=>?_⟩
 obtain⟨d',rfl,hs,q⟩:=q
 obtain⟨D,M,J⟩:=b.moment j o
 exact k u D H' n d' g J (y.trans M) (aj7 o.ok.1 hs) q
end
end VL
namespace VL
open PySem L2
theorem a3u(h:EvS B t D' e):EvS B t D' e:=h
theorem a3v(h:EvG B g s e Q):EvG B g s e Q:=h
theorem a2d(h:EvGs B g s e Q):EvGs B g s e Q:=h
theorem g_Ev(h:Ev B t e Q):Ev B t e Q:=h
theorem a3w(h:EvO B t e Q):EvO B t e Q:=h
theorem a3x(h:EvT B t e Q):EvT B t e Q:=h
theorem a3y(h:EvA B t e Q):EvA B t e Q:=h
theorem a3z(h:EvI B t e Q):EvI B t e Q:=h
theorem a30(h:Op2 r x y R):Op2 r x y R:=h
theorem a31(h:Op1 r x R):Op1 r x R:=h
theorem a32(h:OpA r x R):OpA r x R:=h
theorem g_FQ(h:FQ s R):FQ s R:=h
theorem azf(h:al8 ds R):al8 ds R:=h
theorem azg(h:al9 ds R):al9 ds R:=h
structure PsOk(n:Int)(ps:List (Int × Int)):Prop where
 nd:ps.Nodup
 inn:∀ p∈ps,0<=p.1/\p.1<p.2/\p.2<n
def Tr(n:Int)(ps:List (Int × Int)):Prop:=∀ k,1<=k->k<n->∃ h,0<=h/\h<k/\(h,k)∈ps
def Conn(n:Int)(T:Int->Int->Prop):Prop:=∀ u v,0<=u->u<n->0<=v->v<n->∃ k,Gr.Walk T u k v
theorem Tr.conn(h:Tr n ps):Conn n (Tied ps):=by
 have d:∀(m:Nat)(v:Int),v=m->v<n->∃ k,Gr.Walk (Tied ps) 0 k v:=by
  intro m
  induction m using Nat.strongRecOn with
  | ind m ih =>
   intro v l hn
   by_cases h0:m=0
   ·subst h0;have:v=0:=by lia
    subst this;exact⟨0,.refl⟩
   ·obtain⟨x,a,b,c⟩:=h v (by lia) hn
    obtain⟨k,w⟩:=ih x.toNat (by lia) x (by lia) (by lia)
    exact⟨k+1,.step w (.inl c)⟩
 intro u v i g v0 f
 obtain⟨k,w⟩:=d u.toNat u (by lia) g
 obtain⟨j,x⟩:=d v.toNat v (by lia) f
 exact⟨k+j,(w.rev λ_ _ t=>t.symm).app x⟩
theorem Conn.joined(h:Conn n (Tied es))(b:0<n):Joined n es:=λv v0 a=>by
 obtain⟨k,w⟩:=h 0 v (by lia) (by lia) v0 a
 obtain⟨d,_,hd⟩:=Gr.Dist.of_walk w
 exact⟨d,hd⟩
theorem Joined.conn(h:Joined n es):Conn n (Tied es):=λu v f a v0 b=>by
 obtain⟨d,hd⟩:=h u f a
 obtain⟨e,c⟩:=h v v0 b
 exact⟨d+e,(hd.1.rev λ_ _ t=>t.symm).app c.1⟩
theorem Conn.mono(h:Conn n T)(g:∀ u v,T u v->a u v):Conn n a:=λu v d b v0 c=>by
 obtain⟨k,w⟩:=h u v d b v0 c
 exact⟨k,w.rec .refl λ_ t f=>.step f (g _ _ t)⟩
def Order(n:Int)(row:List Int):Prop:=row.Perm ((List.range n.toNat).map λ(i:Nat)=>(i:Int))
theorem Order.len{n:Int}{a:List Int}(h:Order n a):a.length=n.toNat:=by have:=h.length_eq;simpa using this
theorem Order.nodup(h:Order n c):c.Nodup:=by
 refine h.nodup_iff.mpr ?_
 unfold List.Nodup
 rw[aG1]
 exact List.nodup_range.imp λ{a b} d e=>d (by lia)
theorem Order.mem{n:Int}{a:List Int}(h:Order n a){v:Int}:v∈a ↔ 0<=v/\v<n:=by
 rw[h.mem_iff,aB7]
 constructor
 ·rintro⟨i,hi,rfl⟩
  have:=aB9.mp hi
  lia
 ·rintro⟨b,c⟩
  exact⟨v.toNat,aB9.mpr (by lia),by lia⟩
theorem Order.get{n:Int}{b:List Int}(h:Order n b){a:Int}(c:0<=a)(f:a<n):∃ x,b[a.toNat]?=some x/\atI b a=some x/\0<=x/\x<n:=by
 have d:a.toNat<b.length:=by rw[h.len];lia
 have e:b[a.toNat]?=some b[a.toNat]:=aA0 d
 have:=h.mem.mp (aA2 e)
 exact⟨_,e,acl c e,this.1,this.2⟩
theorem Order.inj{n:Int}{c:List Int}(h:Order n c){a b x:Int}(a0:0<=a)(b0:0<=b)(ha:c[a.toNat]?=some x)(hb:c[b.toNat]?=some x):a=b:=by
 obtain⟨i,d⟩:=aA1.mp ha
 obtain⟨g,f⟩:=aA1.mp hb
 have:=nodup_ix h.nodup i g (d.trans f.symm)
 lia
theorem Order.id(n:Int):Order n ((List.range n.toNat).map λ(i:Nat)=>(i:Int)):=List.Perm.refl _
def aa8(row:List Int)(a:Int):Int:=row.getD a.toNat 0
def reP(row:List Int)(p:Int × Int):Int × Int:=if aa8 row p.1<aa8 row p.2 then (aa8 row p.1,aa8 row p.2) else (aa8 row p.2,aa8 row p.1)
theorem Order.at(h:Order n b)(c:0<=a)(d:a<n):b[a.toNat]?=some (aa8 b a)/\0<=aa8 b a/\aa8 b a<n:=by
 obtain⟨x,e,_,f,g⟩:=h.get c d
 have:aa8 b a=x:=by unfold aa8;rw[aD4,e];rfl
 rw[this];exact⟨e,f,g⟩
theorem Order.atI{n:Int}{b:List Int}(h:Order n b){a:Int}(c:0<=a)(d:a<n):L2.atI b a=some (aa8 b a):=acl c (h.at c d).1
theorem Order.ne(h:Order n c)(a0:0<=a)(a1:a<n)(b0:0<=b)(b1:b<n)(d:a ≠ b):aa8 c a ≠ aa8 c b:=λe=>by
 have f:=(h.at a0 a1).1
 have g:=(h.at b0 b1).1
 rw[e] at f
 exact d (h.inj a0 b0 f g)
theorem PsOk.re(h:PsOk n ps)(o:Order n c):PsOk n (ps.map (reP c)):=by
 have inn:∀ p∈ps,0<=(reP c p).1/\(reP c p).1<(reP c p).2/\(reP c p).2<n:=λp d=>by
  obtain⟨p0,v,p2⟩:=h.inn p d
  have a:=o.at p0 (by lia)
  have b:=o.at (a:=p.2) (by lia) p2
  have ne:=o.ne p0 (by lia) (by lia) p2 (by lia)
  unfold reP
  split <;> dsimp only <;> lia
 refine⟨?_,λq g=>by obtain⟨p,d,rfl⟩:=aB7.mp g;exact inn p d⟩
 unfold List.Nodup
 rw[aG1]
 refine aI0 ?_ h.nd
 intro p q d g f e
 apply f
 obtain⟨p0,v,p2⟩:=h.inn p d
 obtain⟨u,w,r⟩:=h.inn q g
 have inj:∀ a b,0<=a->a<n->0<=b->b<n->aa8 c a=aa8 c b->a=b:=λa b a0 a1 b0 b1 e=>by
  apply aD5
  intro i
  exact o.ne a0 a1 b0 b1 i e
 have l:=inj p.1 q.1 p0 (by lia) u (by lia)
 have t:=inj p.2 q.2 (by lia) p2 (by lia) r
 have s:=inj p.1 q.2 p0 (by lia) (by lia) r
 have j:=inj p.2 q.1 (by lia) p2 u (by lia)
 unfold reP at e
 split at e <;> split at e <;> simp only[Prod.mk.injEq] at e
 ·exact Prod.ext (l e.1) (t e.2)
 ·have:=s e.1;have:=j e.2;lia
 ·have:=j e.1;have:=s e.2;lia
 ·exact Prod.ext (l e.2) (t e.1)
theorem Tied.re(h:Tied ps u v):Tied (ps.map (reP c)) (aa8 c u) (aa8 c v):=by
 have d:∀ a b,(a,b)∈ps->Tied (ps.map (reP c)) (aa8 c a) (aa8 c b):=λa b hm=>by
  have:=List.mem_map_of_mem (f:=reP c) hm
  unfold reP at this
  dsimp only at this
  split at this
  ·exact .inl this
  ·exact .inr this
 rcases h with h|h
 ·exact d u v h
 ·exact(d v u h).symm
theorem Conn.re(h:Conn n (Tied ps))(o:Order n d):Conn n (Tied (ps.map (reP d))):=λu v j l v0 g=>by
 have c:∀ x,0<=x->x<n->∃ a,0<=a/\a<n/\aa8 d a=x:=λx q f=>by
  obtain⟨i,hi,e⟩:=aH6.mp (o.mem.mpr ⟨q,f⟩)
  refine⟨i,by lia,by rw[o.len] at hi;lia,?_⟩
  unfold aa8
  simp[hi,e]
 obtain⟨a,a0,a1,rfl⟩:=c u j l
 obtain⟨b,b0,b1,rfl⟩:=c v v0 g
 obtain⟨k,w⟩:=h a b a0 a1 b0 b1
 exact⟨k,w.rec .refl λ_ t p=>.step p t.re⟩
theorem Tied.perm(h:qs.Perm ps) :Tied qs u v ↔ Tied ps u v:=by unfold Tied;rw[h.mem_iff,h.mem_iff]
theorem av6(b:1<=n)(c:n<=60)(h:PsOk n ps)(a:qs.Perm ps)(hs:lexS (qs.map p2)):WebOk n qs:=⟨b,c,λp hm=>h.inn p (a.mem_iff.mp hm),aqa a h.nd hs⟩
theorem ajg{α:Type}:∀{l:List α}{k:Nat}{x : α},l[k]?=some x->(x::l.eraseIdx k).Perm l
 |[],_,_,h=>by simp at h
 |a::l,0,x,h=>by simp at h;subst h;exact List.Perm.refl _
 | a::l,k+1,x,h=>by
  have b:=ajg (l:=l) (k:=k) (x:=x) (by simpa using h)
  exact(List.Perm.swap a x _).trans (b.cons a)
theorem arp(h:Order n (a++left))(b:left[k]?=some x):Order n ((a++[x])++left.eraseIdx k):=by
 refine List.Perm.trans ?_ h
 rw[aB4]
 refine List.Perm.append_left a ?_
 exact ajg b
section
end
theorem azh(n:Nat):rngD 0 n=((List.range n).map λ(i:Nat)=>(i:Int)).map PyData.int:=by simp[rngD]
theorem abc(f:Frz A d)(h:EvG B g (.st d) env b):EvG B g (.own A) env b:=λσ G H F v Fv Q I x k =>
 h σ _ H F v _ Q (I.freeze x.fb x.fd x.fg) (adp (f G H v Fv x.ok x.fg I.gh)) λa G' H' F' c i g' q=>k a G' H' F' c i ((abm x.fg).trans g') q
theorem cutR{R X:Prop}(h:R->X)(r:R):X:=h r
end VL
namespace VL
open PySem PySem.Spec L2
def ae5(e:En):Prop:=∀(j:Nat)(s:Sl),e[j]?=some (some s)->(∃ d,s=.st d)\/∃ ns:List Int,s=.scr ns
def Sls(K:Frag)(G:Hp)(σ:St)(e:En):Prop:=∀(j:Nat)(s:Sl),e[j]?=some (some s)->∃ v,σ[j]?=some (some v)/\((∃ d,s=.st d/\Rp G v d)\/∃(ns:List Int)(a:Addr),s=.scr ns/\v=.ref a/\SqL K G a (ns.map V.int))
theorem Sls.same(h:Sls K G σ e)(g:Same G G'):Sls K G' σ e:=λj s es=>by
 obtain⟨v,c,q⟩:=h j s es
 refine⟨v,c,?_⟩
 rcases q with ⟨d,b,r⟩|⟨ns,a,b,f,r⟩
 ·exact .inl ⟨d,b,r.same g⟩
 ·exact .inr ⟨ns,a,b,f,g.seq r⟩
def bsC(K:Frag)(G H:Hp)(σ:St):Bs:=⟨K,G,H,H,σ,noF⟩
theorem ak4(gh:Same G H)(ft:FT G H)(ln : σ.length=e.length)(sl:Sls K G σ e):VI (bsC K G H σ) G H σ e noF:=by
 refine⟨gh,Same.refl _,λa o e=>.inl e,Same.refl _,Same.refl _,λa o e=>⟨o,e⟩,λi a z=>z.elim,λi a z=>z.elim,λi j a z=>z.elim,λi a z=>z.elim,λi s es=>?_,ln,ft⟩
 obtain⟨v,c,q⟩:=sl i s es
 refine⟨v,c,?_⟩
 rcases q with ⟨d,b,r⟩|⟨ns,a,b,f,r⟩
 ·subst b;exact⟨r,λa z=>z⟩
 ·subst b;exact⟨⟨a,f,r⟩,λa z=>z⟩
theorem ajh(I:VI B G H σ e F)(c:ae5 e)(f:B.K=K:=by rfl):Sls K G σ e:=λj s es=>by
 subst f
 obtain⟨v,g,q⟩:=I.sl j s es
 refine⟨v,g,?_⟩
 rcases c j s es with ⟨d,rfl⟩|⟨ns,rfl⟩
 ·exact .inl ⟨d,rfl,q.1⟩
 ·obtain⟨⟨a,h,b⟩,_⟩:=q
  exact .inr ⟨ns,a,rfl,h,b⟩
def LcV2(K:Frag)(src:List (Option Nat))(g:TG)(tif:TT)(wi2:TI)(g2:TG)(tif2:TT)(te:TE)(ds:List PyData)(e1:En)(R:List PyData->Prop):Prop:=∃ J:Nat->List PyData->En->Prop,J 0 [] (aaq src e1)/\(∀ i ys e,J i ys e->ae5 e) /\
 (∀ i d ys e,ds[i]?=some d->J i ys e->∀ B':Bs,B'.K=K->EvG B' g (.st d) e λe2=>EvT B' tif e2 λb e3=>if b=true then EvI B' wi2 e3 λds2 e4=>∃ J2:Nat->List PyData->En->Prop,J2 0 ys e4/\(∀ j ys e,J2 j ys e->ae5 e) /\
  (∀ j d2 ys2 e,ds2[j]?=some d2->J2 j ys2 e->∀ B2:Bs,B2.K=K->EvG B2 g2 (.st d2) e λe5=>EvT B2 tif2 e5 λb e6=>if b=true then Ev B2 te e6 λy e7=>ys2.length<=999999/\J2 (j+1) (ys2++[y]) e7 else J2 (j+1) ys2 e6)/\(∀ ys2 e,J2 ds2.length ys2 e->J (i+1) ys2 e) else J (i+1) ys e3)/\∀ ys e,J ds.length ys e->R ys
section
theorem aqd(h:EvI B wi env λds r=>LcV2 B.K src g a6 b4 g2 N te ds r λys=>QO (.own (OL ys)) r):EvO B (tLC2 src wi g a6 b4 g2 N te) env QO:=λσ G H F Q I k=>by
 refine h σ G H F _ I λJ G1 H1 L ds r Z g1 it ⟨Jv,j0,jc,js,jd⟩ c l=>?_
 have fa:∀ j,¬ L j c:=Z.no_f l
 have hb:B.H c=none:=Z.no_b l
 -- between two turns
 let Wv:(List PyData->En->Prop)->List V->St->Hp->Prop:=λJ ys σI H=>∃ f e D,VI B f H σ r L/\Same G1 f/\H c=some (.lst ys)/\Rps f ys D/\f c=none/\J D e/\σI.length=e.length/\Sls B.K f σI e
 -- out of a frame within
 have leave:∀{n H3:Hp}{σI:St}{ys:List V},VI B n H3 σ r L->n c=none->H3 c=some (.lst ys)->∀{R U:Hp}{w:St}{F4:Nat->Addr->Prop}{e4:En},VI (bsC B.K n H3 σI) R U w e4 F4->VI B R U σ r L/\R c=none/\U c=some (.lst ys):=by
  intro n H3 σI ys T X ac R U w F4 e4 E
  refine⟨T.grow E.g0 E.gh E.rs E.gn E.ft,?_,E.rs _ _ ac⟩
  cases e':R c with
  |none=>rfl
  | some u =>
   rcases E.gn c u e' with q|q
   ·change n c=_ at q;rw[X] at q;cases q
   ·change H3 c=_ at q;rw[ac] at q;cases q
 have step:∀{f H2:Hp}{ys:List V}{x:V}{n H3:Hp}{d:PyData},VI B f H2 σ r L->f c=none->H2 c=some (.lst ys)->Out f H2 x n H3 (.st d) (λ_=>False)->VI B n H3 σ r L/\n c=none/\H3 c=some (.lst ys):=by
  intro f H2 ys x n H3 d M X ac o
  refine⟨(M.out o).1,?_,o.hh _ _ ac⟩
  cases e':n c with
  |none=>rfl
  | some u =>
   rcases o.gn c u e' with q|q
   ·rw[X] at q;cases q
   ·rw[ac] at q;cases q
 refine⟨λi m ys σI H=>m=ds.length-i/\i<=ds.length/\Wv (Jv i) ys σI H,⟨ds.length,by simp,aG0 _,?_⟩,?_⟩
 ·refine⟨G1,aaq src r,[],Z.aside (λ_ z=>nomatch z) (Z.no_g l) fa hb,Same.refl _,aam,.nil,Z.no_g l,j0,by simp[pick,aaq],λj s e=>?_⟩
  obtain⟨i,t,hs,ht,hp⟩:=ag1 e
  obtain⟨v,hv,q⟩:=Z.sl i t ht
  refine⟨v,ani hs hv,?_⟩
  cases t with
  |st d=>cases hp;exact .inl ⟨d,rfl,q.1⟩
  | scr ns =>
   cases hp
   obtain⟨⟨a,ea,sq⟩,_⟩:=q
   exact .inr ⟨ns,a,rfl,ea,sq⟩
  |own A=>cases hp;rcases jc _ _ _ j0 j _ e with ⟨d,z⟩|⟨ns,z⟩ <;> cases z
  |io A=>cases hp;rcases jc _ _ _ j0 j _ e with ⟨d,z⟩|⟨ns,z⟩ <;> cases z
 ·rintro i m ys σI H2 ⟨rfl,hi,f,e,D,M,C,S,ry,X,jv,ln,sl⟩
  by_cases hlt:i<ds.length
  ·refine .inr ⟨it.go i f H2 C M.gh hlt,Wv (Jv (i+1)),λb9 b8 H' hw=>⟨ds.length-(i+1),by lia,rfl,hlt,hw⟩,λx H3 y=>?_⟩
   obtain⟨n,o⟩:=it.yld i f H2 x H3 _ C M.gh M.ft (aA0 hlt) y
   obtain⟨T,b3,a2⟩:=step M X S o
   have E3:=ak4 (K:=B.K) T.gh T.ft ln (sl.same o.gg)
   refine js i _ D e (aA0 hlt) jv (bsC B.K n H3 σI) rfl σI n H3 _ x _ _ E3 (adp o.ok.1) λw R U F4 e4 E g4 q4=>?_
   refine q4 w R U F4 _ E λb G5 H5 F5 e5 I5 g5 q5=>?_
   have a1:=ry.same (o.gg.trans (g4.trans g5))
   have s5:=C.trans (o.gg.trans (g4.trans g5))
   cases b with
   | false =>
    rw[aF6 aB0] at q5 ⊢
    obtain⟨K5,b5,c1⟩:=leave T b3 a2 I5
    exact⟨G5,e5,D,K5,s5,c1,a1,b5,q5,I5.ln,ajh I5 (jc _ _ _ q5)⟩
   | true =>
    rw[aF5 rfl] at q5 ⊢
    refine q5 w G5 H5 F5 _ I5 λJ2 G6 H6 F6 p e6 I6 g6 O ⟨Jw,w0,wc,ws,wd⟩=>?_
    obtain⟨K6,b6,c0⟩:=leave T b3 a2 I6
    have s6:=s5.trans g6
    let Wi:Nat->List V->St->Hp->Prop:=λj ys σI H=>∃ f e D,VI B f H σ r L/\Same G6 f/\H c=some (.lst ys)/\Rps f ys D/\f c=none/\Jw j D e/\σI.length=e.length/\Sls B.K f σI e
    refine⟨λj m ys σI H=>m=p.length-j/\j<=p.length/\Wi j ys σI H,⟨p.length,by simp,aG0 _,G6,e6,D,K6,Same.refl _,c0,a1.same g6,b6,w0,I6.ln,ajh I6 (wc _ _ _ w0)⟩,?_⟩
    rintro j m zs b1 H7 ⟨rfl,hj,G7,e7,zd,W,Y,P,rz,b2,jw,a9,a8⟩
    refine⟨P,?_⟩
    by_cases hlt2:j<p.length
    ·refine .inr ⟨O.go j G7 H7 Y W.gh hlt2,Wi (j+1),λb9 b8 H' hw=>⟨p.length-(j+1),by lia,rfl,hlt2,hw⟩,λx2 H8 y2=>?_⟩
     obtain⟨G8,o2⟩:=O.yld j G7 H7 x2 H8 _ Y W.gh W.ft (aA0 hlt2) y2
     obtain⟨I8,a7,a5⟩:=step W b2 P o2
     have E8:=ak4 (K:=B.K) I8.gh I8.ft a9 (a8.same o2.gg)
     refine ws j _ zd e7 (aA0 hlt2) jw (bsC B.K G8 H8 b1) rfl b1 G8 H8 _ x2 _ _ E8 (adp o2.ok.1) λb0 G9 H9 F9 e9 I9 g9 q9=>?_
     refine q9 b0 G9 H9 F9 _ I9 λb GA HA FA eA IA gA qA=>?_
     cases b with
     | false =>
      rw[aF6 aB0] at qA ⊢
      obtain⟨KA,b7,c2⟩:=leave I8 a7 a5 IA
      have sA:=o2.gg.trans (g9.trans gA)
      exact⟨GA,eA,zd,KA,Y.trans sA,c2,rz.same sA,b7,qA,IA.ln,ajh IA (wc _ _ _ qA)⟩
     | true =>
      rw[aF5 rfl] at qA ⊢
      refine qA b0 GA HA FA _ IA λyv GB HB FB dB eB IB gB rB ⟨lB,qB⟩=>?_
      obtain⟨KB,a4,c3⟩:=leave I8 a7 a5 IB
      have sB:=o2.gg.trans (g9.trans (gA.trans gB))
      have a3:=rz.same sB
      refine⟨c3,by rw[a3.length];exact aE4 lB (by decide),GB,eB,zd++[dB],KB.aside (λ_ z=>nomatch z) a4 fa hb,Y.trans sB,aam,a3.append (.cons rB .nil),a4,qB,IB.ln,ajh IB (wc _ _ _ qB)⟩
    ·have ej:j=p.length:=by lia
     subst ej
     refine .inl ⟨O.stop _ G7 H7 Y W.gh rfl,G7,e7,zd,W,s6.trans Y,P,rz,b2,wd _ _ jw,a9,a8⟩
  ·have ei:i=ds.length:=by lia
   subst ei
   refine .inl ⟨it.stop _ f H2 C M.gh rfl,?_⟩
   refine k (.ref c) f H2 L (· = c) (.own (OL D)) r M (g1.trans C) ⟨⟨c,ys,rfl,S,ry,λb=>Iff.rfl⟩,λa z=>by rw[z];exact hb,λa z=>by rw[z];exact X,λa z=>by rw[z];exact⟨_,S⟩,λj a z=>by rw[z];exact fa j⟩ (jd _ _ jv)
end
theorem ab5(h:ae5 e):ae5 (stO o::e):=λj s es=>by
 cases j with
 | zero =>
  cases o with
  |none=>simp[stO] at es
  | some d =>
   have:s=.st d:=by simpa[stO] using es.symm
   exact .inl ⟨d,this⟩
 |succ j=>exact h j s (by simpa using es)
section
theorem a2e(h:EvI B n env λds l=>LcV2 B.K src g i j o f te ds l λys=>Q' (.list ys) l):Ev B (tLC2 src n g i j o f te) env Q':=acb (aqd λσ G H F R I k=>h σ G H F R I λJ v u t ds l s p it ⟨r,a,b,c,d⟩=>k J v u t ds l s p it ⟨r,a,b,c,λys e q=>afi (d ys e q)⟩)
end
def a2f(e:En):Bool:=e.all λo=>match o with|some (.own _)=>false|some (.io _)=>false|_=>true
theorem ats(h:a2f e=true):ae5 e:=λj s es=>by
 have:=aF4.mp h (some s) (aA2 es)
 cases s with
 |st d=>exact .inl ⟨d,rfl⟩
 |scr ns=>exact .inr ⟨ns,rfl⟩
 |own A=>simp at this
 |io A=>simp at this
end VL
namespace VL
open PySem PySem.Spec L2 PyProof.Rows
theorem aj9:∀{vs:List V}{ds:List PyData}{i:Nat}{v:V}{d:PyData},Rps G vs ds->vs[i]?=some v->ds[i]?=some d->Rp G v d
 |_,_,0,_,_,.cons r _,e1,e2=>by simp at e1 e2;subst e1 e2;exact r
 |_,_,i+1,_,_,.cons _ t,e1,e2=>aj9 t (i:=i) (by simpa using e1) (by simpa using e2)
theorem av7{K:Frag}{ds:List PyData}{R:Sl->Prop}(l:∀ d∈ds,∀ e∈ds,cmpD d e=true)(g:∀ d∈ds,aap d=true/\d.depth<=60)(h:ds=[]->R (.st .none))(j:∀ d,ds[argBest (HT.btD ds) (ds.length-1)]?=some d->R (.st d)):OpA (arh K) [.list ds] R:=λG H vs Q gh rs k=>by
 cases rs with
 | cons r t =>
  cases t
  cases r with
  | @lst a xs ds ha ra =>
   have f:=ra.length
   refine⟨a,xs,ds,rfl,SqL.of (gh _ _ ha),f,λi v d c b=>((aj9 ra c b).rep (g d (aA2 b)).1).same gh,l,g,λe=>?_,λv c=>?_⟩
   ·exact k _ _ _ _ _ (Out.refl gh .non) (h (aJ1.mp (by rw[← f,e];rfl)))
   ·rw[f] at c
    have hi:=(aA1.mp c).1
    have b:ds[argBest (HT.btD ds) (ds.length-1)]?=some (ds[argBest (HT.btD ds) (ds.length-1)]'(by lia)):=aA0 (by lia)
    exact k _ _ _ _ _ (Out.refl gh (aj9 ra c b)) (j _ b)
theorem aqe:∀(m:Nat),argBest bt m<=m
 |0=>aA6 _
 | m+1=>by
  have:=aqe (bt:=bt) m
  simp only[argBest]
  split <;> lia
theorem aqf{bt:Nat->Nat->Bool}{n:Nat}(a:∀ i,i<n->bt i i=false)(tr:∀ i j k,i<n->j<n->k<n->bt i j=true->bt j k=true->bt i k=true):∀(m:Nat),m<n->∀ i,i<=m->bt i (argBest bt m)=false
 | 0,hm,i,hi=>by
  have:i=0:=by lia
  subst this;exact a 0 hm
 | m+1,hm,i,hi=>by
  have b:=aqf a tr m (by lia)
  have hb:=aqe (bt:=bt) m
  simp only[argBest]
  by_cases h:bt (m+1) (argBest bt m)=true
  ·rw[aF5 h]
   by_cases hi':i=m+1
   ·subst hi';exact a _ hm
   ·cases e:bt i (m+1) with
    |false=>rfl
    | true =>
     have:=tr i (m+1) (argBest bt m) (by lia) hm (by lia) e h
     rw[b i (by lia)] at this;cases this
  ·rw[aF6 h]
   by_cases hi':i=m+1
   ·subst hi';simpa using h
   ·exact b i (by lia)
abbrev Z3:=Int × (Int × Int)
@[reducible] def z3D (z:Z3):PyData:=.tuple [.int z.1,prD z.2]
def lt3(y z:Z3):Prop:=y.1<z.1\/(y.1=z.1/\ltP y.2 z.2)
theorem azi(z:Z3):¬ lt3 z z:=by
 rintro(h|⟨_,h⟩)
 ·lia
 ·exact af1 _ h
theorem a2g(h:lt3 x y)(g:lt3 y z):lt3 x z:=by
 rcases h with h|⟨h,h'⟩ <;> rcases g with g|⟨g,g'⟩
 ·exact .inl (by lia)
 ·exact .inl (by lia)
 ·exact .inl (by lia)
 ·exact .inr ⟨by lia,anm h' g'⟩
theorem a2h(y z:Z3):ltv (z3D y) (z3D z)=true ↔ lt3 y z:=by
 obtain⟨a,b,c⟩:=y
 obtain⟨d,e,f⟩:=z
 simp only[z3D,prD,ltv,ltvs,PyData.eqv,lt3,ltP]
 by_cases h1:a=d <;> by_cases h2:b=e <;> by_cases h3:c=f <;> simp[h1,h2,h3,ltv,ltvs,PyData.eqv,PyData.eqvAll] <;> lia
theorem z3_ok{a:List Z3}:(∀ d∈a.map z3D,∀ e∈a.map z3D,cmpD d e=true)/\∀ d∈a.map z3D,aap d=true/\d.depth<=60:=by
 refine⟨λd hd e b=>?_,λd hd=>?_⟩
 ·obtain⟨y,_,rfl⟩:=aB7.mp hd
  obtain⟨z,_,rfl⟩:=aB7.mp b
  simp[cmpD,cmpDs]
 ·obtain⟨y,_,rfl⟩:=aB7.mp hd
  exact⟨rfl,by simp[PyData.depth,PyData.depthAll]⟩
theorem azj{c:List Z3}{d:PyData}(f:(c.map z3D)[argBest (HT.btD (c.map z3D)) ((c.map z3D).length-1)]?=some d):∃ z∈c,d=z3D z/\∀ y∈c,¬ lt3 y z:=by
 have h:∀ i j,i<c.length->j<c.length->(HT.btD (c.map z3D) i j=true ↔ lt3 (c.getD i (0,0,0)) (c.getD j (0,0,0))):=λi j hi o=>by
  rw[← a2h]
  unfold HT.btD
  rw[aD4,aD4,aD4,aD4,aA5,aA5,aA0 hi,aA0 o]
  simp
 rw[aA3] at f
 generalize hk:argBest (HT.btD (c.map z3D)) (c.length-1)=b at f
 rw[aA5] at f
 cases ez:c[b]? with
 |none=>rw[ez] at f;cases f
 | some z =>
  rw[ez] at f
  cases f
  have hb:=(aA1.mp ez).1
  refine⟨z,aA2 ez,rfl,λy q p=>?_⟩
  obtain⟨i,hi,r⟩:=aH6.mp q
  have g:=aqf (bt:=HT.btD (c.map z3D)) (n:=c.length) (λi hi=>by
    cases e:HT.btD (c.map z3D) i i with
    |false=>rfl
    |true=>exact absurd ((h i i hi hi).mp e) (azi _)) (λi j k hi o l a b=>(h i k hi l).mpr (a2g ((h i j hi o).mp a) ((h j k o l).mp b))) (c.length-1) (by lia) i (by lia)
  rw[hk] at g
  have:HT.btD (c.map z3D) i b=true:=(h i b hi hb).mpr (by
   rw[aD4,aD4,ez,aA0 hi]
   simpa[r] using p)
  rw[g] at this;cases this
theorem av8{K:Frag}{a:List Z3}{R:Sl->Prop}(b:a=[]->R (.st .none))(f:∀ z∈a,(∀ y∈a,¬ lt3 y z)->R (.st (z3D z))):OpA (arh K) [.list (a.map z3D)] R :=
 av7 z3_ok.1 z3_ok.2 (λe=>b (by simpa using e)) λd c=>by
  obtain⟨z,hz,rfl,hm⟩:=azj c
  exact f z hz hm
end VL
namespace VL
open PySem PySem.Spec L2
section
end
section
end
section
end
end VL
namespace L2
open PySem PySem.Spec PyProof.Rows
def isV(k:Int):Value->Bool
 | .int a _=>decide (a=k)
 |_=>false
theorem anp{ns:List Int}{us:List Value}(r:Vals (ns.map V.int) us)(k:Int):∀ i (h:i<us.length) (h':i<ns.length),isV k us[i]=decide (ns[i]=k):=by
 induction ns generalizing us with
 |nil=>intro i h h';simp at h'
 | cons n ns ih =>
  rw[aD1] at r
  cases r with
  | cons r1 r2 =>
   obtain⟨t,e⟩:=r1
   subst e
   intro i h h'
   cases i with
   |zero=>rfl
   |succ i=>exact ih r2 i (by simpa using h) (by simpa using h')
theorem arq{ns:List Int}{us:List Value}(r:Vals (ns.map V.int) us)(k:Int)(t:Tok):∀ y∈us,MeetsSeq.EqGives y (.int k t) (isV k y):=by
 induction ns generalizing us with
 |nil=>rw[List.map_nil] at r;cases r;intro y a;simp at a
 | cons n ns ih =>
  rw[aD1] at r
  cases r with
  | cons r1 r2 =>
   obtain⟨u,e⟩:=r1
   subst e
   intro y a
   rcases aA9.mp a with rfl|a
   ·exact MeetsSeq.EqGives.int n k u t
   ·exact ih r2 y a
section
def aji:V->List V->Hp->VK->Prop:=λx vs H Q=>∃(l:Addr)(ns:List Int)(k:Int)(j:Nat),x=.ref l/\vs=[.int k]/\H l=some (.lst (ns.map V.int))/\ns[j]?=some k/\(∀ m,m<j->ns[m]? ≠ some k)/\Q (.int j) H
theorem ae6:MtM X "list.index" aji:=by
 intro pins s σ H x vs v us Q I i o h
 obtain⟨l,ns,k,j,rfl,rfl,A,w,c,q⟩:=h
 cases i
 obtain⟨u,rfl,B⟩:=o.one
 obtain⟨t,rfl⟩:=B
 obtain⟨z,its,n,r,p,e⟩:=I.lstM A
 rw[aA3] at p z
 obtain⟨d,b⟩:=aA1.mp w
 have hz:sizeLine<2 ^ 62:=by decide
 refine call_meets F.slot_list_index ⟨_,e,rfl⟩ F.entry_list_index (F.args_list_index_2 _ _)
  (MeetsSeq.list_index l its.toArray n (.int k t) (isV k) (λy g=>arq r k t y (by simpa using g)) j (by rw[aB2];lia) (by lia) ?_ (λm hm f=>?_)) ⟨e,?_⟩
 ·rw[List.getElem_toArray,anp r k j (by lia) d,aD8 b]
 ·have a:m<ns.length:=by lia
  rw[List.getElem_toArray,anp r k m (by lia) a]
  exact aD7 λe=>c m f (by rw[aA0 a,e])
 ·exact⟨.int j,H,I.tok _,⟨_,rfl⟩,q⟩
end
end L2
namespace VL
open PySem PySem.Spec L2
section
theorem av9(h:Ev B tl env λx g=>∃ ns:List Int,x=.list (ns.map .int)/\Ev B te g λy b=>∃(k:Int)(j:Nat),y=.int k/\ns[j]?=some k/\(∀ m,m<j->ns[m]? ≠ some k)/\Q' (.int j) b):Ev B (tBM K "list" aji tl (abe te tNil)) env Q':=λσ G H F Q I k =>
 h σ G H F _ I λv L J E d g i p w s=>by
  obtain⟨ns,r,n⟩:=s
  subst r
  cases w with
  | @lst a vs _ ha rs =>
   have z:vs=ns.map V.int:=rs.ints_inv
   subst z
   refine⟨.inl ⟨rfl,_,SqL.of (i.gh _ _ ha)⟩,n σ L J E _ i λu C H2 F2 y b l f D ⟨c,j,t,o,A,q⟩=>?_⟩
   subst t
   cases D
   exact⟨a,ns,c,j,rfl,rfl,l.gh _ _ (f _ _ ha),o,A,k _ C H2 F2 _ b l (p.trans f) (.int _) q⟩
end
structure But(n:Int)(es rem:List (Int × Int)):Prop where
 rise:Rise es
 inn:∀ p∈es,0<=p.1/\p.1<p.2/\p.2<n
 all:∀ p:Int × Int,0<=p.1->p.1<p.2->p.2<n->p∈es\/p∈rem
end VL
namespace SS
open PySem
theorem aka{l:List Nat}(hr:l.Pairwise (· < ·)){i j:Nat}(b:i<=j)(a:j<l.length):l[i]'(by lia)<=l[j]:=by
 by_cases e:i=j
 ·subst e;exact aA6 _
 ·exact aG5 (aG7.mp hr i j (by lia) a (by lia))
theorem aim(xs:Array Nat)(j:Nat)(hr:xs.toList.Pairwise (· < ·)):∀(a lo hi:Nat),hi-lo<=a->lo<=hi->hi<=xs.size->(∀ i (h:i<xs.toList.length),i<lo->xs.toList[i]<j)->(∀ i (h:i<xs.toList.length),hi<=i->j<=xs.toList[i]) ->
  SetTable.below.go xs j a lo hi<=xs.size/\(∀ i (h:i<xs.toList.length),i<SetTable.below.go xs j a lo hi->xs.toList[i]<j)/\(∀ i (h:i<xs.toList.length),SetTable.below.go xs j a lo hi<=i->j<=xs.toList[i])
 | 0,lo,hi,h1,h2,h3,h4,h5=>by
  unfold SetTable.below.go
  have:lo=hi:=by lia
  subst this
  exact⟨h3,h4,h5⟩
 | a+1,lo,hi,h1,h2,h3,h4,h5=>by
  unfold SetTable.below.go
  by_cases hl:lo<hi
  ·rw[aF5 hl]
   have hm:(lo+hi) / 2<xs.size:=by lia
   have c:(lo+hi) / 2<xs.toList.length:=by simpa using hm
   have d:xs.getD ((lo+hi) / 2) j=xs.toList[(lo+hi) / 2]:=by simp[Array.getD,hm]
   dsimp only
   rw[d]
   split
   ·rename_i hlt
    refine aim xs j hr a _ hi (by lia) (by lia) h3 (λi h b=>?_) h5
    exact aE4 (aka hr (by lia) c) hlt
   ·rename_i hge
    refine aim xs j hr a lo _ (by lia) (by lia) (by lia) h4 (λi h b=>?_)
    exact aD0 (by lia) (aka hr b h)
  ·rw[aF6 hl]
   have:lo=hi:=by lia
   subst this
   exact⟨h3,h4,h5⟩
theorem below_ok(xs:Array Nat)(j:Nat)(hr:xs.toList.Pairwise (· < ·)) :
  SetTable.below xs j<=xs.size/\(∀ i (h:i<xs.toList.length),i<SetTable.below xs j->xs.toList[i]<j)/\(∀ i (h:i<xs.toList.length),SetTable.below xs j<=i->j<=xs.toList[i]) :=
 aim xs j hr _ 0 _ (by lia) (by lia) (aA6 _) (λi h hi=>by lia) (λi h hi=>by simp at h;lia)
theorem ars(xs:Array Nat)(hr:xs.toList.Pairwise (· < ·))(i:Nat)(hi:i<xs.toList.length):SetTable.below xs (xs.toList[i] + 1)=i+1:=by
 obtain⟨f,c,d⟩:=below_ok xs (xs.toList[i] + 1) hr
 rcases Nat.lt_trichotomy (SetTable.below xs (xs.toList[i] + 1)) (i+1) with h|h|h
 ·have:=d i hi (by lia);lia
 ·exact h
 ·have hs:i+1<xs.toList.length:=by simp;lia
  have a:=c (i+1) hs (by lia)
  have b:=aG7.mp hr i (i+1) hi hs (by lia)
  lia
theorem art(xs:Array Nat)(hr:xs.toList.Pairwise (· < ·)):SetTable.below xs 0=0:=by
 obtain⟨b,a,c⟩:=below_ok xs 0 hr
 rcases Nat.eq_zero_or_pos (SetTable.below xs 0) with h|h
 ·exact h
 ·have:=a 0 (by simp;lia) (by lia);lia
theorem put_rise(hr:xs.toList.Pairwise (· < ·))(hn:xs[SetTable.below xs j]? ≠ some j):(SetTable.insertAt xs (SetTable.below xs j) j).toList.Pairwise (· < ·):=by
 obtain⟨h,c,d⟩:=below_ok xs j hr
 rw[SetTable.toList_insertAt]
 generalize SetTable.below xs j=p at h c d hn ⊢
 rw[← aD6] at hn
 generalize xs.toList=l at hr c d hn ⊢
 have lo:∀ x∈l.take p,x<j:=λx f=>by
  obtain⟨i,hi,e⟩:=List.mem_take_iff_getElem.mp f
  rw[← e];exact c i (by lia) (by lia)
 have up:∀ x∈l.drop p,j<x:=λx f=>by
  obtain⟨i,hi,e⟩:=List.mem_drop_iff_getElem.mp f
  have g:p<l.length:=by lia
  have ne:l[p] ≠ j:=λe=>hn (by rw[aA0 g,e])
  have a:=d p g (aA6 _)
  have b:=aka hr (show p<=p+i by lia) (by lia:p+i<l.length)
  have n:l[p+i]=x:=by rw[← e]
  lia
 rw[aC9]
 refine⟨hr.sublist (List.take_sublist _ _),aI5.mpr ⟨up,hr.sublist (List.drop_sublist _ _)⟩,λa ha b hb=>?_⟩
 rcases aA9.mp hb with rfl|hb
 ·exact lo a ha
 ·exact Nat.lt_trans (lo a ha) (up b hb)
structure TbI(bt:Bool)(t:SetTable):Prop where
 led:bt=false->t.led=true
 dum:t.dummies = #[]
 ris:t.plain=true->t.place.toList.Pairwise (· < ·)
theorem TbI.fresh(bt:Bool)(f m:Nat):TbI bt (.fresh f m (!bt)):=⟨λh=>by subst h;rfl,rfl,λ_=>List.Pairwise.nil⟩
theorem has_nil(j:Nat):SetTable.has #[] j=false:=by unfold SetTable.has;simp
theorem TbI.put{bt:Bool}{t:SetTable}(x:TbI bt t){j:Nat}(hs:t.slot j=.empty):TbI bt (t.put j).1:=by
 refine⟨x.led,?_,λh=>?_⟩
 ·show(if SetTable.has t.dummies j=true then _ else t.dummies) = #[]
  rw[x.dum,has_nil];rfl
 ·show(SetTable.insertAt t.place (SetTable.below t.place j) j).toList.Pairwise (· < ·)
  refine put_rise (x.ris h) λe=>?_
  unfold SetTable.slot at hs
  dsimp only at hs
  rw[e] at hs
  simp at hs
theorem live_rise(owner:Array (Option Nat))(m:Nat):(((List.range m).filterMap λj=>(owner.getD j none).map (j,·)).map (·.1)).Pairwise (· < ·):=by
 rw[aG1,List.pairwise_filterMap]
 refine List.pairwise_lt_range.imp ?_
 intro a b f p d q c
 cases h1:owner.getD a none with
 |none=>rw[h1] at d;cases d
 | some i =>
  cases h2:owner.getD b none with
  |none=>rw[h2] at c;cases c
  |some k=>rw[h1] at d;rw[h2] at c;cases d;cases c;exact f
theorem ak5{α:Type}(next:Nat->Nat):∀(n k:Nat)(left:List α)(out:Array α),left.length=n->(pickOrder.go next n k left out).toList.Perm (out.toList++left)
 | 0,k,left,out,h=>by
  unfold pickOrder.go
  rw[aH2 h];simp
 | n+1,k,left,out,h=>by
  unfold pickOrder.go
  have a:next k % left.length<left.length:=Nat.mod_lt _ (by lia)
  rw[aA0 a]
  dsimp only
  refine(ak5 next n (k+1) _ _ (by rw[List.length_eraseIdx];split <;> lia)).trans ?_
  rw[Array.toList_push,aB4]
  refine List.Perm.append_left _ ?_
  have e:left=left.take (next k % left.length)++left[next k % left.length]::left.drop (next k % left.length+1):=by
   rw[← List.drop_eq_getElem_cons a,aC1]
  rw[List.eraseIdx_eq_take_drop_succ]
  refine List.Perm.trans ?_ (List.Perm.of_eq e.symm)
  rw[List.singleton_append]
  exact List.perm_middle.symm
theorem akb{α:Type}(next:Nat->Nat)(xs:Array α):(pickOrder next xs).toList.Perm xs.toList:=by
 unfold pickOrder
 simpa using ak5 next xs.size 0 xs.toList #[] (by simp)
end SS
namespace SS
open PySem PySem.W PyProof.Rows
section
def bt(w:World):Bool:=w.params.followText "set-order"
def kE(e:Int × Value):Int:=match e.2 with | .int k _=>k|_=>0
def a33(prog:Program)(w:World)(e:Int × Value):Prop:=e.1=(intKind prog w).hash (kE e)/\∃ t,e.2=.int (kE e) t
def SetR(prog:Program)(w:World)(a:Addr)(es:Array (Int × Value))(ep:Nat)(t:SetTable)(h:Heap):Prop :=
 ∃ o,h.get? a=some o/\o.ExactSet/\o.data=.set es ep t/\t.fits es.size=true/\TbI (bt w) t
def SetI(prog:Program)(w:World)(a:Addr)(L:List Int)(h:Heap):Prop:=∃ es ep t,SetR prog w a es ep t h/\(∀ e∈es.toList,a33 prog w e)/\(es.toList.map kE).Perm L
theorem SetR.at(x:SetR prog w a es ep t h)(k:∀ o,h.get? a=some o->h'.get? a=some o):SetR prog w a es ep t h':=let ⟨o,e,r⟩:=x;⟨o,k o e,r⟩
theorem SetR.put(x:SetR prog w a es ep t h)(hf:t'.fits es'.size=true)(hT:TbI (bt w) t'):SetR prog w a es' (ep+1) t' (h.update a (Obj.putSet es' t')):=by
 obtain⟨o,c,d,hd,_⟩:=x
 have b:(h.update a (Obj.putSet es' t')).get? a=some { o with data:=.set es' (ep+1) t' }:=by
  have:=aK8 (Obj.putSet es' t') c (by rw[putSet_of es' t' hd];rfl)
  rw[putSet_of es' t' hd] at this;exact this
 exact⟨_,b,d,rfl,hf,hT⟩
end
end SS
namespace SH
open PySem PySem.SetTable
def it:Nat->Nat->Nat
 |0,x=>x
 |n+1,x=>it n (5 * x+1)
theorem ajj:∀(a b x:Nat),it (a+b) x=it b (it a x)
 |0,b,x=>by rw[Nat.zero_add];rfl
 |a+1,b,x=>by rw[Nat.add_right_comm];exact ajj a b (5 * x+1)
theorem a2i(m:Nat):∃ c d:Nat,∀ x,it (2 ^ m) x=(1+2 ^ (m+2) * c) * x+2 ^ m * (2 * d+1):=by
 induction m with
 |zero=>exact⟨1,0,λx=>by show 5 * x+1=_;lia⟩
 | succ m ih =>
  obtain⟨c,d,h⟩:=ih
  refine⟨c+2 ^ (m+1) * (c * c),d+2 ^ m * c * (2 * d+1),λx=>?_⟩
  rw[show 2 ^ (m+1)=2 ^ m+2 ^ m by rw[Nat.pow_succ];lia,ajj,h,h]
  have a:2 ^ (m+2)=4 * 2 ^ m:=by rw[Nat.pow_add];lia
  have b:2 ^ (m+1+2)=8 * 2 ^ m:=by rw[Nat.pow_add,Nat.pow_succ];lia
  rw[a,b]
  generalize 2 ^ m=P
  grind
theorem a2j(m:Nat)(x j:Nat):∃ r,r<2 ^ m/\it r x % 2 ^ m=j % 2 ^ m:=by
 induction m with
 |zero=>exact⟨0,by decide,by rw[Nat.pow_zero,Nat.mod_one,Nat.mod_one]⟩
 | succ m ih =>
  obtain⟨r,hr,e⟩:=ih
  obtain⟨c,d,h⟩:=a2i m
  have l:0<2 ^ m:=Nat.pow_pos (by decide)
  have g:2 ^ (m+1)=2 ^ m * 2:=Nat.pow_succ ..
  have i:2 ^ (m+2)=2 ^ m * 4:=by rw[Nat.pow_add]
  rw[g]
  have n:=Nat.mod_mul (x:=it r x) (a:=2 ^ m) (b:=2)
  have f:=Nat.mod_mul (x:=j) (a:=2 ^ m) (b:=2)
  by_cases hq:it r x / 2 ^ m % 2=j / 2 ^ m % 2
  ·exact⟨r,by lia,by rw[n,f,e,hq]⟩
  ·refine⟨r+2 ^ m,by lia,?_⟩
   rw[ajj,h,i]
   have o:(1+2 ^ m * 4 * c) * it r x+2 ^ m * (2 * d+1)=it r x+2 ^ m * (4 * (c * it r x)+2 * d+1):=by
    generalize 2 ^ m=P
    grind
   rw[o,Nat.mod_mul,f,Nat.add_mul_mod_self_left,e,Nat.add_mul_div_left _ _ l]
   have:(it r x / 2 ^ m+(4 * (c * it r x)+2 * d+1)) % 2=j / 2 ^ m % 2:=by
    generalize c * it r x=z
    lia
   rw[this]
theorem azk(r x:Nat):it (r+1) x=5 * it r x+1:=by rw[ajj];rfl
def adv(mask:Nat)(p:Probe):Probe:=if p.more > 0 then { p with j:=p.j+1,more:=p.more-1 } else { p with j:=(leap mask p.i p.perturb).1,more:=runEnd mask (leap mask p.i p.perturb).1-(leap mask p.i p.perturb).1,i:=(leap mask p.i p.perturb).1,perturb:=(leap mask p.i p.perturb).2 }
def pr0(mask:Nat)(h:Int):Probe:={ j:=bits h % (mask+1),more:=runEnd mask (bits h % (mask+1))-bits h % (mask+1),i:=bits h % (mask+1),perturb:=bits h,dummy:=none }
def pr(mask:Nat)(h:Int):Nat->Probe
 |0=>pr0 mask h
 |k+1=>adv mask (pr mask h k)
theorem anq(mask:Nat)(h:Int):∀ k,(pr mask h k).dummy=none
 |0=>rfl
 | k+1=>by
  have:=anq mask h k
  show(adv mask (pr mask h k)).dummy=none
  unfold adv
  split <;> exact this
def lp(mask:Nat)(h:Int):Nat->Nat × Nat
 |0=>(bits h % (mask+1),bits h)
 |n+1=>leap mask (lp mask h n).1 (lp mask h n).2
def pAt(mask:Nat)(q:Nat × Nat)(a:Nat):Probe:={ j:=q.1+a,more:=runEnd mask q.1-q.1-a,i:=q.1,perturb:=q.2,dummy:=none }
theorem a2k(mask i:Nat):runEnd mask i-i<=9:=by unfold runEnd;split <;> lia
theorem anr{mask:Nat}{h:Int}{s:Nat}{q:Nat × Nat}(e:pr mask h s=pAt mask q 0):∀ a,a<=runEnd mask q.1-q.1->pr mask h (s+a)=pAt mask q a
 |0,_=>e
 | a+1,ha=>by
  have b:=anr e a (by lia)
  show adv mask (pr mask h (s+a))=_
  rw[b]
  unfold adv pAt
  rw[aF5 (by show runEnd mask q.1-q.1-a > 0;lia)]
  show Probe.mk _ _ _ _ _=Probe.mk _ _ _ _ _
  congr 1
theorem azl{mask:Nat}{h:Int}{s:Nat}{q:Nat × Nat}(e:pr mask h s=pAt mask q 0):pr mask h (s+(runEnd mask q.1-q.1)+1)=pAt mask (leap mask q.1 q.2) 0:=by
 have:=anr e _ (aA6 _)
 show adv mask (pr mask h (s+_))=_
 rw[this]
 unfold adv pAt
 rw[aF6 (by show ¬ (runEnd mask q.1-q.1-(runEnd mask q.1-q.1) > 0);lia)]
 rfl
def sp(mask:Nat)(h:Int):Nat->Nat
 |0=>0
 |n+1=>sp mask h n+(runEnd mask (lp mask h n).1-(lp mask h n).1)+1
theorem axi(mask:Nat)(h:Int):∀ n,sp mask h n<=10 * n
 |0=>aA6 _
 | n+1=>by
  have:=axi mask h n
  have:=a2k mask (lp mask h n).1
  unfold sp
  lia
theorem aru(mask:Nat)(h:Int):∀ n,pr mask h (sp mask h n)=pAt mask (lp mask h n) 0
 |0=>rfl
 |n+1=>azl (aru mask h n)
theorem aqg(mask:Nat)(h:Int):∀ n,(lp mask h n).2=bits h / 32 ^ n
 |0=>by show bits h=_;rw[Nat.pow_zero,Nat.div_one]
 | n+1=>by
  show(lp mask h n).2 / 32=_
  rw[aqg mask h n,Nat.div_div_eq_div_mul,Nat.pow_succ]
theorem azm(h:Int):bits h<2 ^ 64:=by
 unfold bits
 have a:=Int.emod_nonneg h (show(2 ^ 64:Int) ≠ 0 by decide)
 have b:=Int.emod_lt_of_pos h (show(0:Int)<2 ^ 64 by decide)
 lia
theorem azn(mask:Nat)(h:Int)(r:Nat):(lp mask h (13+r)).2=0:=by
 rw[aqg]
 apply Nat.div_eq_of_lt
 refine aC5 (azm h) ?_
 rw[Nat.pow_add]
 exact aD0 (show 2 ^ 64<=32 ^ 13 by decide) (Nat.le_mul_of_pos_right _ (Nat.pow_pos (by decide)))
theorem axj(mask:Nat)(h:Int):∀ r,(lp mask h (13+r)).1 % (mask+1)=it r (lp mask h 13).1 % (mask+1)
 |0=>rfl
 | r+1=>by
  show((lp mask h (13+r)).1 * 5+1+(lp mask h (13+r)).2 / 32) % (mask+1) % (mask+1)=_
  rw[azn,azk,Nat.mod_mod,show 0 / 32=0 from rfl,Nat.add_zero,Nat.add_mod,Nat.mul_mod,axj mask h r,← Nat.mul_mod,← Nat.add_mod,Nat.mul_comm]
theorem axk(mask:Nat)(h:Int):∀ n,(lp mask h n).1<mask+1
 |0=>Nat.mod_lt _ (Nat.succ_pos _)
 |n+1=>Nat.mod_lt _ (Nat.succ_pos _)
theorem atu{mask m:Nat}(hm:mask+1=2 ^ m)(h:Int)(j:Nat)(b:j<=mask):∃ n,n<mask+14/\(lp mask h n).1=j:=by
 obtain⟨r,hr,e⟩:=a2j m (lp mask h 13).1 j
 refine⟨13+r,by lia,?_⟩
 have a:=axj mask h r
 rw[hm,e,← hm,Nat.mod_eq_of_lt (axk mask h _),Nat.mod_eq_of_lt (show j<mask+1 by lia)] at a
 exact a
theorem a2l{mask m:Nat}(hm:mask+1=2 ^ m)(h:Int)(j:Nat)(a:j<=mask):∃ k,k<10 * turns mask/\(pr mask h k).j=j:=by
 obtain⟨n,hn,e⟩:=atu hm h j a
 refine⟨sp mask h n,?_,by rw[aru];exact e⟩
 have:=axi mask h n
 unfold turns
 lia
structure TOk(t:SetTable):Prop where
 ris:t.place.toList.Pairwise (· < ·)
 dum:t.dummies = #[]
 le:∀ j∈t.place.toList,j<=t.mask
 two:∃ m,t.mask+1=2 ^ m
 room:t.place.size<=t.mask
theorem aen(x:TOk t) :t.slot j=.live i ↔ t.place.toList[i]?=some j:=by
 have hb:=SS.below_ok t.place j x.ris
 unfold slot
 dsimp only
 rw[x.dum,SS.has_nil]
 constructor
 ·intro h
  split at h
  ·rename_i e
   cases h
   have e:=eq_of_beq e
   rw[aD6]
   exact e
  ·cases h
 ·intro h
  obtain⟨hi,e⟩:=aA1.mp h
  have b:below t.place j=i:=by
   rcases Nat.lt_trichotomy (below t.place j) i with a|a|a
   ·have c:=hb.2.2 (below t.place j) (by lia) (aA6 _)
    have d:=aG7.mp x.ris (below t.place j) i (by lia) hi a
    lia
   ·exact a
   ·have:=hb.2.1 i hi a
    lia
  rw[b,aF5 (by rw[← aD6,h];exact beq_self_eq_true _)]
theorem ajk(x:TOk t)(j:Nat):t.slot j=.empty\/∃ i,t.slot j=.live i:=by
 unfold slot
 dsimp only
 rw[x.dum,SS.has_nil]
 split
 ·exact .inr ⟨_,rfl⟩
 ·exact .inl rfl
theorem ad6(x:TOk t) :t.slot j=.empty ↔ j ∉ t.place.toList:=by
 constructor
 ·intro h hm
  obtain⟨i,hi⟩:=aD3 hm
  rw[(aen x).mpr hi] at h
  cases h
 ·intro h
  rcases ajk x j with e|⟨i,e⟩
  ·exact e
  ·exact absurd (aA2 ((aen x).mp e)) h
theorem atv(x:TOk t):∃ j,j<=t.mask/\t.slot j=.empty:=by
 apply aD5
 intro hn
 have a:∀ j∈List.range (t.mask+1),j∈t.place.toList:=λj b=>by
  have b:=aB9.mp b
  apply aD5
  intro h
  exact hn ⟨j,by lia,(ad6 x).mpr h⟩
 have:=aE8 List.nodup_range a
 rw[aE1,aA8] at this
 have:=x.room
 lia
theorem ans(x:TOk t)  :∀(c k:Nat),(∃ k1,k<=k1/\k1<k+c/\t.slot (pr t.mask h k1).j=.empty) ->
  ∃ k1,k<=k1/\k1<k+c/\(∀ d,k<=d->d<k1->∃ i,t.slot (pr t.mask h d).j=.live i/\ha i ≠ h) /\
   ((t.slot (pr t.mask h k1).j=.empty ∧ probe.go t ha h c (pr t.mask h k)=some (.empty (pr t.mask h k1).j none)) ∨
    ∃ i,t.slot (pr t.mask h k1).j=.live i/\ha i=h/\probe.go t ha h c (pr t.mask h k)=some (.candidate (pr t.mask h k1).j i (pr t.mask h (k1+1))))
 |0,k,⟨k1,h1,h2,_⟩=>by lia
 | c+1,k,⟨k1,h1,h2,h3⟩=>by
  rcases ajk x (pr t.mask h k).j with e|⟨i,e⟩
  ·refine⟨k,aA6 _,by lia,λd a b=>by lia,.inl ⟨e,?_⟩⟩
   unfold probe.go
   rw[e,anq]
  ·by_cases hi:ha i=h
   ·refine⟨k,aA6 _,by lia,λd a b=>by lia,.inr ⟨i,e,hi,?_⟩⟩
    unfold probe.go
    rw[e]
    dsimp only
    rw[aF5 (by rw[hi];exact beq_self_eq_true _)]
    rfl
   ·have f:k+1<=k1:=by
     rcases Nat.lt_or_eq_of_le h1 with h|h
     ·exact h
     ·rw[← h,e] at h3;cases h3
    obtain⟨n,a1,q,g,l⟩:=ans x (ha:=ha) (h:=h) c (k+1) ⟨k1,f,by lia,h3⟩
    have p:probe.go t ha h (c+1) (pr t.mask h k)=probe.go t ha h c (pr t.mask h (k+1)):=by
     conv=>lhs;unfold probe.go
     rw[e]
     dsimp only
     rw[aF6 (by intro z;exact hi (eq_of_beq z))]
     rfl
    refine⟨n,by lia,by lia,λd b1 o=>?_,?_⟩
    ·rcases Nat.lt_or_eq_of_le b1 with b|b
     ·exact g d (by lia) o
     ·exact⟨i,by rw[← b];exact e,hi⟩
    ·rw[p]
     exact l
def HI(t:SetTable)(es:List (Int × Value)):Prop:=es.length=t.place.size/\∀(i:Nat)(e:Int × Value)(j:Nat),es[i]?=some e->t.place.toList[i]?=some j->∃ k,(pr t.mask e.1 k).j=j/\∀ k',k'<k->t.slot (pr t.mask e.1 k').j ≠ .empty
theorem HI.found(x:TOk t)(b:HI t es)(c:t.slot (pr t.mask h k1).j=.empty)(hi:es[i]?=some e)(hh:e.1=h):∃ k,k<k1/\t.slot (pr t.mask h k).j=.live i:=by
 have g:i<t.place.toList.length:=by rw[aA8,← b.1];exact(aA1.mp hi).1
 obtain⟨k,d,f⟩:=b.2 i e _ hi (aA0 g)
 rw[hh] at d f
 have hs:t.slot (pr t.mask h k).j=.live i:=(aen x).mpr (by rw[d];exact aA0 g)
 refine⟨k,?_,hs⟩
 rcases Nat.lt_trichotomy k k1 with a|a|a
 ·exact a
 ·subst a;rw[c] at hs;cases hs
 ·exact absurd c (f k1 a)
theorem ins_get{α:Type}(l:List α)(p:Nat)(x : α)(b:p<=l.length)(i:Nat):(l.take p++x::l.drop p)[i]?=if i<p then l[i]? else if i=p then some x else l[i-1]?:=by
 have a:(l.take p).length=p:=by rw[aH0];lia
 by_cases h1:i<p
 ·rw[aF5 h1,aC3 (by lia),List.getElem?_take,aF5 h1]
 ·rw[aF6 h1,aC8 (by lia),a]
  by_cases h2:i=p
  ·rw[aF5 h2,h2,aI6];rfl
  ·rw[aF6 h2]
   obtain⟨d,hd⟩:∃ d,i-p=d+1:=⟨i-p-1,by lia⟩
   rw[hd,List.getElem?_cons_succ,aI2,show p+d=i-1 by lia]
theorem aeo(t:SetTable)(j:Nat):(t.put j).1.place.toList=t.place.toList.take (below t.place j)++j::t.place.toList.drop (below t.place j):=SetTable.toList_insertAt ..
theorem awa(t:SetTable)(j:Nat):(t.put j).1.mask=t.mask:=rfl
theorem TOk.put(x:TOk t)(b:j<=t.mask)(c:t.slot j=.empty)(hr:t.place.size+1<=t.mask):TOk (t.put j).1:=by
 have hb:=SS.below_ok t.place j x.ris
 refine⟨?_,?_,λq a=>?_,x.two,?_⟩
 ·refine SS.put_rise x.ris λe=>?_
  exact(ad6 x).mp c (by rw[← aD6] at e;exact aA2 e)
 ·show(if has t.dummies j=true then _ else t.dummies) = #[]
  rw[x.dum,SS.has_nil];rfl
 ·rw[aeo] at a
  rcases aA7.mp a with h|h
  ·exact x.le q (aC0 h)
  ·rcases aA9.mp h with h|h
   ·rw[h];exact b
   ·exact x.le q (aC4 h)
 ·have:(t.put j).1.place.toList.length=t.place.toList.length+1:=by
   rw[aeo,aB1,aE6,aH0,aI9]
   have:=hb.1
   simp only[aA8]
   lia
  simp only[aA8] at this
  rw[this]
  exact hr
theorem HI.put(x:TOk t)(l:HI t es)(u:j<=t.mask)(hr:t.place.size+1<=t.mask)(w:(pr t.mask e.1 k1).j=j)(s:t.slot j=.empty)(v:∀ d,d<k1->t.slot (pr t.mask e.1 d).j ≠ .empty) :
  HI (t.put j).1 (es.take (below t.place j)++e::es.drop (below t.place j)):=by
 have hb:=SS.below_ok t.place j x.ris
 have p:=x.put u s hr
 have r:es.length=t.place.toList.length:=by rw[aA8];exact l.1
 have n:below t.place j<=t.place.toList.length:=by rw[aA8];exact hb.1
 have b:∀ q,t.slot q ≠ .empty->(t.put j).1.slot q ≠ .empty:=λq y z=>by
  rw[ad6 p] at z
  refine y ((ad6 x).mpr λhm=>z ?_)
  rw[aeo]
  rw[← aC1 (below t.place j) t.place.toList] at hm
  rcases aA7.mp hm with h|h
  ·exact aC7 _ h
  ·exact aB3 _ (aB5 _ h)
 refine⟨?_,λi o j' hi a=>?_⟩
 ·have f:(t.put j).1.place.toList.length=es.length+1:=by
   rw[aeo,aB1,aE6,aH0,aI9]
   lia
  rw[← aA8,f,aB1,aE6,aH0,aI9]
  lia
 ·rw[aeo,ins_get _ _ _ n] at a
  rw[ins_get _ _ _ (by lia)] at hi
  rw[awa]
  by_cases f:i<below t.place j
  ·rw[aF5 f] at hi a
   obtain⟨k,a1,g⟩:=l.2 i o j' hi a
   exact⟨k,a1,λd c=>b _ (g d c)⟩
  ·rw[aF6 f] at hi a
   by_cases h2:i=below t.place j
   ·rw[aF5 h2] at hi a
    cases hi
    cases a
    exact⟨k1,w,λd c=>b _ (v d c)⟩
   ·rw[aF6 h2] at hi a
    obtain⟨k,a1,g⟩:=l.2 (i-1) o j' hi a
    exact⟨k,a1,λd c=>b _ (g d c)⟩
def ow(owner:Array (Option Nat))(j:Nat):Option Nat:=owner.getD j none
theorem arv(f:Nat->Bool):∀(n:Nat),(∃ k,(List.range n).find? f=some k/\k<n/\f k=true/\∀ a,a<k->f a=false)\/((List.range n).find? f=none/\∀ a,a<n->f a=false):=λn=>by
 cases h:(List.range n).find? f with
 | none =>
  refine .inr ⟨rfl,λa b=>?_⟩
  have:=List.find?_eq_none.mp h a (aB9.mpr b)
  simpa using this
 | some k =>
  refine .inl ⟨k,rfl,aB9.mp (List.mem_of_find?_eq_some h),List.find?_some h,λa b=>?_⟩
  rw[List.find?_range_eq_some] at h
  have:=h.2.2 a b
  simpa using this
theorem aqh{mask:Nat}{owner:Array (Option Nat)}(hsz:owner.size=mask+1){h:Int}{ne l:Nat}(i:(lp mask h ne).1=l)(g:ow owner l=none)(f:l<=mask):∀(b n:Nat),n+b > ne->n<=ne->(∀ s',s'<sp mask h n->ow owner (pr mask h s').j ≠ none) ->
  ∃ s,layClean.free mask owner b (lp mask h n).1 (lp mask h n).2=some (pr mask h s).j/\ow owner (pr mask h s).j=none/\(pr mask h s).j<=mask/\∀ s',s'<s->ow owner (pr mask h s').j ≠ none
 |0,n,h1,h2,_=>by lia
 | b+1,n,h1,h2,hall=>by
  have y:=axk mask h n
  have v:runEnd mask (lp mask h n).1<=mask/\(lp mask h n).1<=runEnd mask (lp mask h n).1:=by unfold runEnd;split <;> lia
  have r:∀ j,j<=mask->owner.getD j (some 0)=ow owner j:=λj B=>by
   unfold ow
   simp[Array.getD,hsz,show j<mask+1 by lia]
  have d:∀ a,a<=runEnd mask (lp mask h n).1-(lp mask h n).1->(pr mask h (sp mask h n+a)).j=(lp mask h n).1+a:=λa ha=>by rw[anr (aru mask h n) a ha];rfl
  have c:∀ K,K<=runEnd mask (lp mask h n).1-(lp mask h n).1+1->(∀ o,o<K->(owner.getD ((lp mask h n).1+o) (some 0)).isNone=false)->∀ s',s'<sp mask h n+K->ow owner (pr mask h s').j ≠ none:=λK A hf s' t=>by
   by_cases hs:s'<sp mask h n
   ·exact hall s' hs
   ·obtain⟨a,rfl⟩:∃ a,s'=sp mask h n+a:=⟨s'-sp mask h n,by lia⟩
    rw[d a (by lia),← r _ (by lia)]
    intro z
    have:=hf a (by lia)
    rw[z] at this
    cases this
  unfold layClean.free
  rcases arv (λk=>(owner.getD ((lp mask h n).1+k) (some 0)).isNone) (runEnd mask (lp mask h n).1+1-(lp mask h n).1) with ⟨k,e,C,q,p⟩|⟨e,hf⟩
  ·rw[e]
   refine⟨sp mask h n+k,by rw[d k (by lia)],?_,by rw[d k (by lia)];lia,c k (by lia) p⟩
   rw[d k (by lia),← r _ (by lia)]
   simpa using q
  ·rw[e]
   have u:n ≠ ne:=λz=>by
    subst z
    have:=hf 0 (by lia)
    rw[Nat.add_zero,i,r l f,g] at this
    cases this
   have x:=aqh hsz i g f b (n+1) (by lia) (by lia) (λs' t=>c _ (aA6 _) (λo w=>hf o (by lia)) s' (by
    have:sp mask h (n+1)=sp mask h n+(runEnd mask (lp mask h n).1-(lp mask h n).1)+1:=rfl
    lia))
   exact x
structure Lay(mask:Nat)(hs:List Int)(owner:Array (Option Nat)):Prop where
 sz:owner.size=mask+1
 at':∀ k h,hs[k]?=some h->∃ s,(pr mask h s).j<=mask/\ow owner (pr mask h s).j=some k/\∀ s',s'<s->ow owner (pr mask h s').j ≠ none
 un:∀ j k,ow owner j=some k->k<hs.length
 inj:∀ j j' k,ow owner j=some k->ow owner j'=some k->j=j'
theorem a2m(h:owner.size<=j):ow owner j=none:=by
 unfold ow
 simp[Array.getD,show ¬ (j<owner.size) by lia]
theorem Lay.start(mask:Nat):Lay mask [] (Array.replicate (mask+1) none):=by
 have hn:∀ j,ow (Array.replicate (mask+1) none) j=none:=λj=>by
  unfold ow
  simp only[Array.getD]
  split
  ·simp
  ·rfl
 exact⟨by simp,λk h a=>by simp at a,λj k e=>(by rw[hn] at e;cases e),λj j' k e=>(by rw[hn] at e;cases e)⟩
theorem Lay.gap{mask:Nat}{hs:List Int}{owner:Array (Option Nat)}(x:Lay mask hs owner)(n:hs.length<=mask):∃ j,j<=mask/\ow owner j=none:=by
 apply aD5
 intro hn
 have c:∀ j,j<=mask->∃ k,ow owner j=some k:=λj h=>by
  cases e:ow owner j with
  |some k=>exact⟨k,rfl⟩
  |none=>exact absurd ⟨j,h,e⟩ hn
 have g:((List.range (mask+1)).map λj=>(ow owner j).getD 0).Nodup:=by
  rw[List.Nodup,aG1]
  refine aI0 (λ{a b} ha hb i=>?_) List.nodup_range
  obtain⟨k,f⟩:=c a (by have:=aB9.mp ha;lia)
  obtain⟨l,d⟩:=c b (by have:=aB9.mp hb;lia)
  rw[f,d]
  intro e
  have e:k=l:=e
  subst e
  exact i (x.inj a b k f d)
 have:=aE8 (l₂:=List.range hs.length) g λk f=>by
  obtain⟨j,h,rfl⟩:=aB7.mp f
  obtain⟨k,e⟩:=c j (by have:=aB9.mp h;lia)
  rw[e]
  exact aB9.mpr (x.un j k e)
 rw[aA3,aE1,aE1] at this
 lia
theorem ag4(a:j<owner.size):ow (owner.setIfInBounds j o) q=if q=j then o else ow owner q:=by
 unfold ow
 simp only[Array.getD,Array.size_setIfInBounds]
 by_cases e:q=j
 ·subst e
  simp[a]
 ·rw[aF6 e]
  split
  ·rename_i hq
   simp[Array.getElem_setIfInBounds,hq,Ne.symm e]
  ·rfl
theorem Lay.next{mask m:Nat}(hm:mask+1=2 ^ m){hs:List Int}{owner:Array (Option Nat)}(x:Lay mask hs owner)(v:hs.length<=mask)(h:Int) :
  ∃ j,layClean.free mask owner (turns mask) (bits h % (mask+1)) (bits h)=some j/\Lay mask (hs++[h]) (owner.setIfInBounds j (some hs.length)):=by
 obtain⟨r,f,o⟩:=x.gap v
 obtain⟨ne,t,B⟩:=atu hm h r f
 obtain⟨s,p,w,u,A⟩:=aqh x.sz B o f (turns mask) 0 (by unfold turns;lia) (aG0 _) (λs' c=>by cases c)
 have a:(pr mask h s).j<owner.size:=by rw[x.sz];lia
 have b:∀ q,ow owner q ≠ none->ow (owner.setIfInBounds (pr mask h s).j (some hs.length)) q ≠ none:=λq y=>by
  rw[ag4 a]
  split
  ·simp
  ·exact y
 refine⟨_,p,⟨by rw[Array.size_setIfInBounds];exact x.sz,λk h' i=>?_,λj k e=>?_,λj j' k e d=>?_⟩⟩
 ·by_cases hkl:k<hs.length
  ·rw[aC3 hkl] at i
   obtain⟨s2,a1,l,n⟩:=x.at' k h' i
   refine⟨s2,a1,?_,λs' c=>b _ (n s' c)⟩
   rw[ag4 a,aF6 (λz=>by rw[z,w] at l;cases l)]
   exact l
  ·have g:=(aA1.mp i).1
   rw[aB1] at g
   simp at g
   have:k=hs.length:=by lia
   subst this
   rw[aC8 (aA6 _),aI6] at i
   cases i
   exact⟨s,u,by rw[ag4 a,aF5 rfl],λs' c=>b _ (A s' c)⟩
 ·rw[ag4 a] at e
  rw[aB1]
  split at e
  ·cases e;simp
  ·have:=x.un j k e;lia
 ·rw[ag4 a] at e d
  split at e
  ·rename_i h1
   cases e
   split at d
   ·rename_i h2;rw[h1,h2]
   ·have:=x.un j' _ d;lia
  ·split at d
   ·cases d
    have:=x.un j _ e;lia
   ·exact x.inj j j' k e d
theorem ant{mask m:Nat}(hm:mask+1=2 ^ m):∀(rest pre:List Int)(owner:Array (Option Nat)),Lay mask pre owner->pre.length+rest.length<=mask+1 ->
  ∃ a,rest.foldl (λ(b:Option (Array (Option Nat) × Nat)) h=>do
   let (owner,k) ← b
   let j ← layClean.free mask owner (turns mask) (bits h % (mask+1)) (bits h)
   pure (owner.setIfInBounds j (some k),k+1)) (some (owner,pre.length))=some (a,pre.length+rest.length)/\Lay mask (pre++rest) a
 |[],pre,owner,x,_=>⟨owner,rfl,by rw[aF0];exact x⟩
 | h::rest,pre,owner,x,hl=>by
  rw[aE6] at hl
  obtain⟨j,e,y⟩:=x.next hm (by lia) h
  obtain⟨o',a1,c⟩:=ant hm rest (pre++[h]) _ y (by rw[aB1,List.length_singleton];lia)
  refine⟨o',?_,by rw[aB4] at c;exact c⟩
  rw[aB1,List.length_singleton] at a1
  rw[List.foldl_cons,aE6]
  have d:(do
   let (owner,k) ← (some (owner,pre.length):Option (Array (Option Nat) × Nat))
   let j ← layClean.free mask owner (turns mask) (bits h % (mask+1)) (bits h)
   pure (owner.setIfInBounds j (some k),k+1))=some (owner.setIfInBounds j (some pre.length),pre.length+1):=by
   show(layClean.free mask owner (turns mask) (bits h % (mask+1)) (bits h) >>= λj=>pure (owner.setIfInBounds j (some pre.length),pre.length+1))=_
   rw[e]
   rfl
  rw[d,a1]
  congr 2
  lia
theorem a2n{mask m:Nat}(hm:mask+1=2 ^ m)(hs:Array Int)(b:hs.size<=mask+1):∃ owner,layClean mask hs=some owner/\Lay mask hs.toList owner:=by
 obtain⟨o,e,x⟩:=ant hm hs.toList [] _ (Lay.start mask) (by simpa using b)
 refine⟨o,?_,by simpa using x⟩
 unfold layClean
 rw[← Array.foldl_toList]
 have c:hs.toList.foldl (λ(a:Option (Array (Option Nat) × Nat)) h=>do
   let (owner,k) ← a
   let j ← layClean.free mask owner (turns mask) (bits h % (mask+1)) (bits h)
   pure (owner.setIfInBounds j (some k),k+1)) (some (Array.replicate (mask+1) none,0))=_:=e
 rw[c]
 rfl
def live(owner:Array (Option Nat))(mask:Nat):List (Nat × Nat):=(List.range (mask+1)).filterMap λj=>(owner.getD j none).map (j,·)
theorem live_mem{owner:Array (Option Nat)}{mask j k:Nat}:(j,k)∈live owner mask ↔ j<=mask/\ow owner j=some k:=by
 unfold live ow
 rw[List.mem_filterMap]
 constructor
 ·rintro⟨j',a,e⟩
  have a:=aB9.mp a
  cases h:owner.getD j' none with
  |none=>rw[h] at e;cases e
  |some k'=>rw[h] at e;cases e;exact⟨by lia,h⟩
 ·rintro⟨a,e⟩
  exact⟨j,aB9.mpr (by lia),by rw[e];rfl⟩
theorem azo{mask:Nat}{hs:List Int}{owner:Array (Option Nat)}(x:Lay mask hs owner):((live owner mask).map (·.2)).Nodup:=by
 rw[List.Nodup,aG1]
 have d:((live owner mask).map (·.1)).Pairwise (· < ·):=SS.live_rise owner (mask+1)
 rw[aG1] at d
 refine aI0 (λ{a b} ha hb c e=>?_) d
 obtain⟨j,k⟩:=a
 obtain⟨j',f⟩:=b
 have e:k=f:=e
 subst e
 have:=x.inj j j' k (live_mem.mp ha).2 (live_mem.mp hb).2
 have c:j<j':=c
 lia
theorem atw{mask:Nat}{hs:List Int}{owner:Array (Option Nat)}(x:Lay mask hs owner):((live owner mask).map (·.2)).Perm (List.range hs.length):=by
 refine(List.perm_ext_iff_of_nodup (azo x) List.nodup_range).mpr λk=>?_
 rw[aB7,aB9]
 constructor
 ·rintro⟨⟨j,b⟩,h,rfl⟩
  exact x.un j _ (live_mem.mp h).2
 ·intro h
  obtain⟨s,a1,a,_⟩:=x.at' k _ (aA0 h)
  exact⟨((pr mask hs[k] s).j,k),live_mem.mpr ⟨a1,a⟩,rfl⟩
theorem ak6{α:Type}(xs:List α)(d : α):∀(l:List Nat),(∀ k∈l,k<xs.length)->l.filterMap (xs[·]?)=l.map λk=>xs.getD k d
 |[],_=>rfl
 | k::l,h=>by
  have a:=h k aB8
  rw[List.filterMap_cons,aA0 a,aD1,ak6 xs d l λq b=>h q (aB5 _ b),aD4,aA0 a]
  rfl
theorem azp{mask m finger moves:Nat}{led plain:Bool}(hm:mask+1=2 ^ m)(es:Array (Int × Value))(F:es.size<=mask) :
  ∃ t a es',laid mask finger moves led plain (es.map (·.1))=some (t,a)/\a.filterMap (es[·]?)=es'/\es'.size=es.size/\es'.toList.Perm es.toList/\TOk t/\HI t es'.toList/\t.mask=mask/\t.place.size=es.size/\t.led=led/\t.plain=plain:=by
 obtain⟨owner,e,x⟩:=a2n hm (es.map (·.1)) (by simp;lia)
 have d:(es.map (·.1)).toList.length=es.size:=by simp
 have u:=atw x
 rw[d] at u
 have g:(live owner mask).length=es.size:=by have:=u.length_eq;simpa using this
 have l:=ak6 es.toList (0,Value.none) ((live owner mask).map (·.2)) λk n=>by rw[aA8];exact aB9.mp (u.mem_iff.mp n)
 have c:((((live owner mask).map (·.2)).toArray).filterMap (es[·]?)).toList=((live owner mask).map (·.2)).map λk=>es.toList.getD k (0,.none):=by
  rw[← l]
  simp
 have r:(((live owner mask).map (·.1)).toArray).toList=(live owner mask).map (·.1):=by simp
 have y:TOk { mask,place:=((live owner mask).map (·.1)).toArray,dummies:=#[],finger,led,moves,plain }:=by
  refine⟨by show(((live owner mask).map (·.1)).toArray).toList.Pairwise _;rw[r];exact SS.live_rise owner (mask+1),rfl,λj b=>?_,⟨m,hm⟩,?_⟩
  ·have b:j∈(live owner mask).map (·.1):=by simpa using b
   obtain⟨⟨j',k⟩,h,rfl⟩:=aB7.mp b
   exact(live_mem.mp h).1
  ·simp only[aB2,aA3]
   lia
 refine⟨_,_,_,by unfold laid;rw[e];rfl,rfl,?_,?_,y,⟨?_,λi q j hi b=>?_⟩,rfl,?_,rfl,rfl⟩
 ·rw[← aA8]
  refine Eq.trans (congrArg List.length c) ?_
  rw[aA3,aA3]
  exact g
 ·refine(List.Perm.of_eq c).trans ?_
  have D:es.toList=(List.range es.size).map λk=>es.toList.getD k (0,.none):=by
   refine aG2 λk=>?_
   rw[aA5]
   by_cases n:k<es.size
   ·rw[aD9 n,aA0 (by rw[aA8];exact n),aI1,aD4,aA0 (by rw[aA8];exact n)]
    rfl
   ·rw[aE3 (by rw[aA8];lia),aE3 (by rw[aE1];lia)]
    rfl
  refine(u.map _).trans ?_
  rw[← D]
 ·refine Eq.trans (congrArg List.length c) ?_
  rw[aA3,aA3]
  simp
 ·have hi:=(congrArg (·[i]?) c).symm.trans hi
  have b:((live owner mask).map (·.1))[i]?=some j:=by simpa using b
  rw[aE0,aA5] at hi
  rw[aA5] at b
  cases hli:(live owner mask)[i]? with
  |none=>rw[hli] at b;cases b
  | some p =>
   obtain⟨j',k⟩:=p
   rw[hli] at hi b
   cases b
   have f:=live_mem.mp (aA2 hli)
   have o:k<es.size:=by have:=x.un _ _ f.2;rwa [d] at this
   have E:q=es.toList.getD k (0,.none):=by simpa using hi.symm
   have hh:(es.map (·.1)).toList[k]?=some q.1:=by
    rw[E,Array.toList_map,aA5,aA0 (by rw[aA8];exact o),aD4,aA0 (by rw[aA8];exact o)]
    rfl
   obtain⟨s,a1,B,A⟩:=x.at' k _ hh
   refine⟨s,x.inj _ _ k B f.2,λs' w z=>?_⟩
   have hn:=A s' w
   cases ho:ow owner (pr mask q.1 s').j with
   |none=>exact hn ho
   | some k' =>
    have v:(pr mask q.1 s').j<=mask:=by
     apply aD5
     intro C
     rw[a2m (by rw[x.sz];lia)] at ho
     cases ho
    refine(ad6 y).mp z ?_
    show _∈(((live owner mask).map (·.1)).toArray).toList
    rw[r]
    exact aB7.mpr ⟨_,live_mem.mpr ⟨v,ho⟩,rfl⟩
 ·simp only[aB2,aA3]
  exact g
theorem anu(n:Nat):∀(c a:Nat),n<2 ^ (a+c)->∃ b,sizeAbove.go n c (2 ^ a)=2 ^ b/\n<2 ^ b/\a<=b/\(2 ^ b=2 ^ a\/2 ^ b<=2 * n)
 |0,a,h=>⟨a,rfl,by simpa using h,aA6 _,.inl rfl⟩
 | c+1,a,h=>by
  unfold sizeAbove.go
  by_cases hs:2 ^ a<=n
  ·rw[aF5 hs,← Nat.pow_succ]
   obtain⟨b,f,g,i,d⟩:=anu n c (a+1) (by rw[show a+1+c=a+(c+1) by lia];exact h)
   refine⟨b,f,g,by lia,.inr ?_⟩
   rcases d with d|d
   ·rw[d,Nat.pow_succ];lia
   ·exact d
  ·rw[aF6 hs]
   exact⟨a,rfl,by lia,aA6 _,.inl rfl⟩
theorem awb(h:n<=100000):∃ m,sizeAbove n=2 ^ m/\n<2 ^ m/\3<=m/\(2 ^ m=8\/2 ^ m<=2 * n):=by
 obtain⟨b,a,d,f,c⟩:=anu n 64 3 (aE4 h (by decide))
 exact⟨b,a,d,f,c⟩
theorem atx(h:2 ^ m<=2 * n)(hn:n<8192):2 ^ m<=8192:=by
 apply aD5
 intro b
 have:13<m:=(Nat.pow_lt_pow_iff_right (a:=2) (by decide)).mp (by show 2 ^ 13<2 ^ m;lia)
 have:=Nat.pow_le_pow_right (n:=2) (by decide) (show 14<=m by lia)
 lia
end SH
namespace SH
open PySem PySem.W PyProof.Rows
section
abbrev TK(prog:Program)(w:World):=tupleKind (intKind prog w)
theorem ah7(d:(TK prog w).is s.heap ks a)(h:Q false s):wpAny (model prog w) A (ofAClassStatement 8 (.ref a)) Q E s:=by
 have hT:=IsTupleKey.typeIs d
 obtain⟨o,items,n,g,_,hd,hi⟩:=d
 unfold ofAClassStatement
 refine aJ2 (wpAny_typeOf hT ?_)
 show wpAny _ _ (pure true >>= _) _ _ s
 refine aJ2 (aJ3 ?_)
 simp only[Bool.not_true,Bool.false_eq_true,if_false]
 refine aJ2 (wpAny_seqItems g hd ?_)
 refine aJ2 ?_
 show wpAny _ _ (forIn items _ _) _ _ s
 rw[← Array.forIn_toList]
 refine wpAny_forIn_list _ (λrest r s'=>r.1=none/\s'=s/\∀ v∈rest,carriedByValue v=true) _ ?_ ?_ _ _ ⟨rfl,rfl,hi.byValue⟩
 ·rintro v rest r s' ⟨hr,rfl,b⟩
  have f:=b v aB8
  have e:ofAClassStatement 7 v=pure false:=by
   cases v <;> first|(simp[carriedByValue] at f;done)|(unfold ofAClassStatement;rfl)
  rw[e]
  refine aJ2 (aJ3 ?_)
  simp only[Bool.false_eq_true,if_false]
  exact aJ3 ⟨rfl,rfl,λu c=>b u (aB5 _ c)⟩
 ·rintro⟨i,j⟩ s' ⟨hr,rfl,_⟩
  simp only at hr
  subst hr
  exact aJ3 h
theorem arw(h:ItemsAre (intKind prog w) ks vs):∀ v∈vs,∃ i t,v=.int i t:=by
 induction h with
 |nil=>intro v a;cases a
 | cons h1 _ ih =>
  intro v a
  rcases aA9.mp a with rfl|a
  ·obtain⟨t,rfl⟩:=Value.isInt_shape h1
   exact⟨_,t,rfl⟩
  ·exact ih v a
theorem ao2(d:(TK prog w).is s.heap ks a)(h:Q true s):wpAny (model prog w) A (hashByValue 8 (.ref a)) Q E s:=by
 have hT:=IsTupleKey.typeIs d
 obtain⟨o,items,n,f,_,hd,hi⟩:=d
 unfold hashByValue
 refine aJ2 (wpAny_specialOf hT F.slot_tuple_hash.lookup ?_)
 show wpAny _ _ (seqItems? (.ref a) >>= _) _ _ s
 refine aJ2 (wpAny_seqItems f hd ?_)
 refine aJ2 ?_
 show wpAny _ _ (forIn items _ _) _ _ s
 rw[← Array.forIn_toList]
 refine wpAny_forIn_list _ (λrest r s'=>r.1=none/\s'=s/\∀ v∈rest,∃ i t,v=Value.int i t) _ ?_ ?_ _ _ ⟨rfl,rfl,arw hi⟩
 ·rintro v rest r s' ⟨hr,rfl,b⟩
  obtain⟨i,t,rfl⟩:=b v aB8
  have e:hashByValue 7 (.int i t)=pure true:=by unfold hashByValue;rfl
  rw[e]
  refine aJ2 (aJ3 ?_)
  simp only[Bool.not_true,Bool.false_eq_true,if_false]
  exact aJ3 ⟨rfl,rfl,λu c=>b u (aB5 _ c)⟩
 ·rintro⟨g,j⟩ s' ⟨hr,rfl,_⟩
  simp only at hr
  subst hr
  exact aJ3 h
theorem a2o{i:List Int}{b0:Addr}{stored:List Value}{Q:Bool->Shared->Prop}(g:(TK prog w).is s.heap i b0)(f:∀ v∈stored,∃ k b,v=.ref b/\(TK prog w).is s.heap k b)(h:Q false s):wpAny (model prog w) A (searchCouldBeSeen (.ref b0) stored) Q E s:=by
 unfold searchCouldBeSeen
 refine aJ2 ?_
 refine wpAny_forIn_list _ (λrest r s'=>r.1=none/\s'=s/\∀ v∈rest,∃ k b,v=.ref b/\(TK prog w).is s.heap k b) _ ?_ ?_ _ _ ⟨rfl,rfl,f⟩
 ·rintro v rest r s' ⟨hr,rfl,c⟩
  obtain⟨k,b,rfl,hb⟩:=c v aB8
  have a:∀ u∈rest,∃ k b,u=Value.ref b/\(TK prog w).is s'.heap k b:=λu d=>c u (aB5 _ d)
  dsimp only
  split
  ·exact aJ3 ⟨rfl,rfl,a⟩
  ·refine aJ2 ((TK prog w).quiet g ?_)
   simp only[Bool.not_true,Bool.false_eq_true,if_false]
   refine aJ2 ((TK prog w).quiet hb ?_)
   simp only[Bool.not_true,Bool.false_eq_true,if_false]
   refine aJ2 (ah7 g ?_)
   simp only[Bool.false_eq_true,if_false]
   refine aJ2 (ah7 hb ?_)
   simp only[Bool.false_eq_true,if_false]
   exact aJ3 ⟨rfl,rfl,a⟩
 ·rintro⟨j,l⟩ s' ⟨hr,rfl,_⟩
  simp only at hr
  subst hr
  exact aJ3 h
theorem a34(mask:Nat)(h:Int):∀ k,(pr mask h k).j+(pr mask h k).more<=mask:=λk=>by
 have run:∀ i,i<mask+1->i+(SetTable.runEnd mask i-i)<=mask:=λi hi=>by unfold SetTable.runEnd;split <;> lia
 induction k with
 |zero=>exact run _ (Nat.mod_lt _ (Nat.succ_pos _))
 | succ k ih =>
  show(adv mask (pr mask h k)).j+(adv mask (pr mask h k)).more<=mask
  unfold adv
  split
  ·dsimp only;lia
  ·exact run _ (Nat.mod_lt _ (Nat.succ_pos _))
structure ST(prog:Program)(w:World)(U:Addr->Prop)(a:Addr)(es:Array (Int × Value))(ep:Nat)(t:SetTable)(ks:List (List Int))(h:Heap):Prop where
 r:SS.SetR prog w a es ep t h
 ok:TOk t
 hi:HI t es.toList
 pl:t.plain=true
 msk:7<=t.mask/\t.mask<=8191
 len:ks.length=es.size
 gd:∀(i:Nat) e k,es.toList[i]?=some e->ks[i]?=some k->∃ b,e=((TK prog w).hash k,.ref b)/\(TK prog w).is h k b/\U b
 nd:ks.Nodup
theorem ST.stored(x:ST prog w U a es ep t ks h)(c:e∈es.toList):∃ k b,e=((TK prog w).hash k,.ref b)/\(TK prog w).is h k b/\U b:=by
 obtain⟨i,hi⟩:=aD3 c
 have f:i<ks.length:=by rw[x.len,← aA8];exact(aA1.mp hi).1
 obtain⟨b,d,g⟩:=x.gd i e _ hi (aA0 f)
 exact⟨_,b,d,g⟩
theorem ao3(hu:(TK prog w).room A)(x:ST prog w U a es ep t ks s.heap)(R:(TK prog w).is s.heap n b0)
  (h1:n∈ks->Q (.there none) s) (h2:n ∉ ks->∀ k1,(pr t.mask ((TK prog w).hash n) k1).j<=t.mask->t.slot (pr t.mask ((TK prog w).hash n) k1).j=.empty->(∀ l,l<k1->t.slot (pr t.mask ((TK prog w).hash n) l).j ≠ .empty)->Q (.free (pr t.mask ((TK prog w).hash n) k1).j false) s) :
  ∀(d D:Nat)(g:Option SetTable.Probe),d+D > 10 * SetTable.turns t.mask->g.getD (t.probeStart ((TK prog w).hash n))=pr t.mask ((TK prog w).hash n) D->(∀ l,l<D->∃ i,t.slot (pr t.mask ((TK prog w).hash n) l).j=.live i/\ks[i]? ≠ some n) ->
   wpAny (model prog w) A (setSearchFrom a (.ref b0) ((TK prog w).hash n) true d g) Q E s:=by
 obtain⟨o,ho,hx,hd,hf,hT⟩:=id x.r
 generalize hhx:(TK prog w).hash n=hx0 at *
 obtain⟨je,W,B⟩:=atv x.ok
 obtain⟨m,hm⟩:=x.ok.two
 obtain⟨P,a8,F⟩:=a2l hm hx0 je W
 have T:t.gaveWay=false:=by
  unfold SetTable.gaveWay
  have:m ≠ 0:=λz=>by rw[z] at hm;have:=x.msk.1;simp at hm;lia
  obtain⟨m',rfl⟩:=Nat.exists_eq_succ_of_ne_zero this
  rw[Nat.pow_succ] at hm
  have:t.mask % 2=1:=by lia
  rw[this];rfl
 intro d
 induction d with
 | zero =>
  intro D g S _ p
  exfalso
  obtain⟨i,hi,_⟩:=p P (by lia)
  rw[F,B] at hi
  cases hi
 | succ d ih =>
  intro D g S a7 p
  have Y:D<=P:=by
   apply aD5
   intro hc
   obtain⟨i,hi,_⟩:=p P (by lia)
   rw[F,B] at hi
   cases hi
  unfold setSearchFrom
  refine aJ2 (wpAny_setState_of ho hd hf ?_)
  dsimp only
  rw[T]
  simp only[Bool.false_eq_true,if_false]
  rw[a7]
  obtain⟨k1,a1,a2,a3,a4⟩:=ans x.ok (ha:=λi=>(es[i]?.map (·.1)).getD 0) (h:=hx0) (10 * SetTable.turns t.mask) D ⟨P,Y,by lia,by rw[F];exact B⟩
  have c:∀ l,l<k1->∃ i,t.slot (pr t.mask hx0 l).j=.live i/\ks[i]? ≠ some n:=λl C=>by
   by_cases hkk:l<D
   ·exact p l hkk
   ·obtain⟨i,hi,I⟩:=a3 l (by lia) C
    refine⟨i,hi,λa6=>?_⟩
    have J:=(aen x.ok).mp hi
    have f:i<es.toList.length:=by rw[x.hi.1,← aA8];exact(aA1.mp J).1
    obtain⟨b,L,_⟩:=x.gd i _ _ (aA0 f) a6
    apply I
    rw[← aD6,aA0 f,L]
    exact hhx
  generalize hp:t.probe _ hx0 (pr t.mask hx0 D)=pp
  rcases a4 with ⟨e,G⟩|⟨i,e,a9,G⟩
  ·have H:pp=some (.empty (pr t.mask hx0 k1).j none):=hp.symm.trans G
   subst H
   dsimp only
   refine aJ3 (h2 (λhm=>?_) k1 ?_ e λl C z=>?_)
   ·obtain⟨i,hi⟩:=aD3 hm
    have f:i<es.toList.length:=by rw[aA8,← x.len];exact(aA1.mp hi).1
    obtain⟨b,L,_⟩:=x.gd i _ _ (aA0 f) hi
    obtain⟨k,R,hs⟩:=x.hi.found x.ok e (aA0 f) (by rw[L];exact hhx)
    obtain⟨K,N,I⟩:=c k R
    rw[hs] at N
    cases N
    exact I hi
   ·exact aD0 (Nat.le_add_right _ _) (a34 t.mask hx0 k1)
   ·obtain⟨i,hi,_⟩:=c l C
    rw[z] at hi
    cases hi
  ·have H:pp=some (.candidate (pr t.mask hx0 k1).j i (pr t.mask hx0 (k1+1))):=hp.symm.trans G
   subst H
   have J:=(aen x.ok).mp e
   have f:i<es.toList.length:=by rw[x.hi.1,← aA8];exact(aA1.mp J).1
   have u:i<ks.length:=by rw[x.len,← aA8];exact f
   obtain⟨b,L,e2⟩:=x.gd i _ _ (aA0 f) (aA0 u)
   have M:es[i]?=some ((TK prog w).hash ks[i],.ref b):=by rw[← aD6,aA0 f,L]
   have rest:wpAny (model prog w) A (do
     let some (_,y):=es[i]?|unsupported "internal:set-entry"
     let equal ← holding [y] (eqBool y (.ref b0))
     let (es',_,t') ← setState a
     if true && equal then return .there none
     let some same:=t'.sameMemory t.moves t.mask|unsupported "set.changed-during-lookup:is-the-new-block-at-the-old-address"
     let still ← match (if same then t'.slot (pr t.mask hx0 k1).j else .empty) with
      | .live K=>match es'[K]? with
       |some (_,y')=>do pure (if ← isSame y' y then some K else none)
       |none=>pure none
      |_=>pure none
     match still with
     |none=>rule "set.search.anew";setSearchFrom a (.ref b0) hx0 true d none
     |some K=>if equal then return .there (some K) else setSearchFrom a (.ref b0) hx0 true d (some (pr t.mask hx0 (k1+1)))) Q E s:=by
    rw[M]
    dsimp only
    refine aJ2 (aJ8 ((TK prog w).eqBool hu e2.1 R ?_))
    refine aJ2 (wpAny_setState_of ho hd hf ?_)
    dsimp only
    by_cases heq:ks[i]=n
    ·rw[aD8 heq]
     simp only[Bool.and_self,if_true]
     exact aJ3 (h1 (by rw[← heq];exact aF2 u))
    ·rw[aD7 heq]
     simp only[Bool.and_false,Bool.false_eq_true,if_false]
     have a5:t.sameMemory t.moves t.mask=some true:=by
      unfold SetTable.sameMemory
      rw[aF5 (beq_self_eq_true _)]
     rw[a5]
     dsimp only
     rw[aF5 rfl,e]
     dsimp only
     rw[M]
     dsimp only
     refine aJ2 (wpAny_isSame_ref_self ?_)
     refine aJ2 (aJ3 ?_)
     rw[aF5 rfl]
     dsimp only
     refine ih (k1+1) (some _) (by lia) rfl λl C=>?_
     rcases Nat.lt_or_eq_of_le (Nat.le_of_lt_succ C) with X|O
     ·exact c l X
     ·refine⟨i,by rw[O];exact e,λz=>heq ?_⟩
      rw[aA0 u] at z
      exact aC6 z
   dsimp only
   cases hled:t.led with
   | true =>
    simp only[Bool.not_true,Bool.false_eq_true,if_false]
    exact rest
   | false =>
    simp only[Bool.not_false,if_true]
    refine aJ2 (a2o R (λv hv=>?_) ?_)
    ·obtain⟨q,Z,rfl⟩:=aB7.mp hv
     have Z:q∈es.toList:=by
      have:=Array.mem_toList_iff.mp Z
      exact Array.mem_toList_iff.mpr (Array.mem_filter.mp this).1
     obtain⟨k,b,rfl,hb⟩:=x.stored Z
     exact⟨k,b,rfl,hb.1⟩
    ·simp only[Bool.false_eq_true,if_false]
     exact rest
theorem ST.at(x:ST prog w U a es ep t ks h)(k:∀ o,h.get? a=some o->h'.get? a=some o)(j:∀ b ks,U b->(TK prog w).is h ks b->(TK prog w).is h' ks b):ST prog w U a es ep t ks h' :=
 ⟨x.r.at k,x.ok,x.hi,x.pl,x.msk,x.len,λi e q d g=>let ⟨b,f,c⟩:=x.gd i e q d g;⟨b,f,j b q c.2 c.1,c.2⟩,x.nd⟩
def SetT(prog:Program)(w:World)(U:Addr->Prop)(a:Addr)(L:List (List Int))(h:Heap):Prop:=∃ es ep t ks,ST prog w U a es ep t ks h/\t.place.size * 5<t.mask * 3/\ks.Perm L
theorem anv(hs:Heap.SameBut a h h')(i:(TK prog w).is h ks b)(f:h.get? a=some o)(j:o.ExactSet):(TK prog w).is h' ks b:=by
 obtain⟨g,items,n,d,c,r⟩:=i
 refine⟨g,items,n,?_,c,r⟩
 rw[hs.2 b λz=>?_]
 ·exact d
 ·subst z
  rw[f] at d
  cases d
  rw[j.1] at c
  exact absurd c (by decide)
theorem aqi(x:TOk t)(h:t.place.size=n):t.fits n=true:=by
 unfold SetTable.fits SetTable.fill
 rw[x.dum,h,beq_self_eq_true,Bool.true_and,decide_eq_true_eq]
 have:=x.room
 show n+0<=t.mask
 lia
theorem anw{α:Type}(l:List α)(x : α)(p:Nat):(l.take p++x::l.drop p).Perm (x::l):=by
 have h:=List.perm_middle (a:=x) (l₁:=l.take p) (l₂:=l.drop p)
 rw[aC1] at h
 exact h
theorem awc(x:ST prog w U a es ep t ks s.heap)(hz:es.size<=2040)(R:1<=es.size)
  (h:∀ h',Heap.SameBut a s.heap h'->∀ es' G t' v,ST prog w U a es' G t' v h'->t'.place.size * 5<t'.mask * 3->v.Perm ks->Q () { s with heap:=h' }):wpAny (model prog w) A (setRelay a (SetTable.grown es.size)) Q E s:=by
 obtain⟨o,M,hx,hd,hf,hT⟩:=id x.r
 have P:SetTable.grown es.size=es.size * 4:=by unfold SetTable.grown;rw[aF6 (by lia)]
 rw[P]
 obtain⟨m,T,a2,H,N⟩:=awb (n:=es.size * 4) (by lia)
 have h8:8<=2 ^ m:=Nat.pow_le_pow_right (n:=2) (by decide) H
 have a1:2 ^ m<=8192:=by
  rcases N with h|h
  ·lia
  ·exact atx h (by lia)
 unfold setRelay
 refine aJ2 (wpAny_setState_of M hd hf ?_)
 dsimp only
 rw[T,aF6 (by rw[sizeLine_eq];lia)]
 obtain⟨l,d,c,e1,e2,I,W,g,F,a3,J,el,L⟩:=azp (mask:=2 ^ m-1) (m:=m) (finger:=t.finger) (moves:=t.movedTo (2 ^ m-1)) (led:=t.led) (plain:=t.plain) (by lia) es (by lia)
 have er:t.relaid (es.map (·.1)) (es.size * 4)=some (l,d):=by
  unfold SetTable.relaid
  rw[T]
  exact e1
 rw[er]
 refine aJ2 ?_
 show wpAny _ _ (do
  let es':=d.filterMap (es[·]?)
  if es'.size != es.size then unsupported "internal:set-table-lost-an-element"
  pure (es',l)) _ _ _
 rw[e2]
 dsimp only
 rw[aF6 (by rw[I];simp)]
 refine aJ3 ?_
 dsimp only
 refine wpAny_storeSet_of M hd ?_ (by rw[I,sizeLine_eq];lia)
 have sb:=Heap.SameBut.update s.heap a (Obj.putSet c l)
 have r2:=x.r.put (es':=c) (t':=l) (aqi g (by rw[I];exact J)) ⟨λhb=>by rw[el];exact hT.led hb,g.dum,λ_=>g.ris⟩
 have X:∀ q b,(TK prog w).is s.heap q b->(TK prog w).is (s.heap.update a (Obj.putSet c l)) q b:=λq b hq=>anv sb hq M hx
 have y:∃ f:Int × Value->List Int,∀ e∈es.toList,∃ b,e=((TK prog w).hash (f e),.ref b)/\(TK prog w).is s.heap (f e) b/\U b:=by
  have:=Classical.skolem (p:=λ(e:Int × Value)(k:List Int)=>e∈es.toList->∃ b,e=((TK prog w).hash k,Value.ref b)/\(TK prog w).is s.heap k b/\U b)
  exact this.mp λe=>by
   by_cases he:e∈es.toList
   ·obtain⟨k,b,R,h2⟩:=x.stored he
    exact⟨k,λ_=>⟨b,R,h2⟩⟩
   ·exact⟨[],λz=>absurd z he⟩
 obtain⟨f,u⟩:=y
 have O:ks=es.toList.map f:=by
  refine aG2 λi=>?_
  rw[aA5]
  by_cases hi:i<ks.length
  ·have j:i<es.toList.length:=by rw[aA8,← x.len];exact hi
   rw[aA0 hi,aA0 j,aI1]
   obtain⟨b,D,C⟩:=x.gd i _ _ (aA0 j) (aA0 hi)
   obtain⟨b',Z,g4⟩:=u _ (aF2 j)
   have K:Value.ref b=.ref b':=(Prod.ext_iff.mp (D.symm.trans Z)).2
   cases K
   rw[(TK prog w).inj C.1 g4.1]
  ·rw[aE3 (by lia),aE3 (by rw[aA8,← x.len];lia)]
   rfl
 have B:(c.toList.map f).Perm ks:=by rw[O];exact W.map f
 refine h _ sb c _ l (c.toList.map f) ⟨r2,g,F,by rw[L];exact x.pl,by lia,by rw[aA3,aA8],λi e k D C=>?_,B.nodup_iff.mpr x.nd⟩ (by lia) B
 rw[aA5,D] at C
 cases C
 obtain⟨b,Y,S⟩:=u e (W.mem_iff.mp (aA2 D))
 exact⟨b,Y,X _ b S.1,S.2⟩
theorem aty(hu:(TK prog w).room A)(x:SetT prog w U a L s.heap)(Z:(TK prog w).is s.heap d b0)(hU:U b0)(hb:L.length+1<=2040)
  (h:∀ b h',Heap.SameBut a s.heap h'->SetT prog w U a (if d∈L then L else L++[d]) h'->Q b { s with heap:=h' }):wpAny (model prog w) A (setAddHashed a (.ref b0) ((TK prog w).hash d)) Q E s:=by
 obtain⟨es,ep,t,ks,x,a7,G⟩:=x
 obtain⟨o,O,hx,hd,hf,hT⟩:=id x.r
 have hsz:es.size=L.length:=by rw[← G.length_eq,x.len]
 have a8:t.place.size=es.size:=by have:=x.hi.1;rw[aA8] at this;lia
 unfold setAddHashed setAddHashedIn
 refine aJ8 (aJ2 (wpAny_setState_of O hd hf ?_))
 dsimp only
 have R:byScan (.ref b0) es=false:=rfl
 rw[R]
 simp only[Bool.false_eq_true,if_false]
 unfold setSearch
 refine aJ2 (ao3 hu x Z (λhm=>?_) (λhm k1 X N a5=>?_) 100000 0 none ?_ rfl λk' a2=>absurd a2 (Nat.not_lt_zero _))
 ·refine aJ3 ?_
  have e:s={ s with heap:=s.heap }:=by cases s;rfl
  have:=h false s.heap (Heap.SameBut.refl a s.heap) (by rw[aF5 (G.mem_iff.mp hm)];exact⟨es,ep,t,ks,x,a7,G⟩)
  rw[e];exact this
 ·have K:d ∉ L:=λz=>hm (G.mem_iff.mpr z)
  have l:t.place.size+1<=t.mask:=by have:=x.msk.1;lia
  obtain⟨j,J⟩:∃ j,j=(pr t.mask ((TK prog w).hash d) k1).j:=⟨_,rfl⟩
  rw[← J] at X N ⊢
  dsimp only
  refine aJ2 (wpAny_setState_of O hd hf ?_)
  dsimp only
  have p:(t.put j).1.plain=true:=x.pl
  rw[aF5 p]
  refine aJ2 (ao2 Z ?_)
  rw[aF5 rfl]
  have a9:=(SS.below_ok t.place j x.ok.ris).1
  obtain⟨c,u⟩:∃ c,c=SetTable.insertAt es (t.put j).2 ((TK prog w).hash d,Value.ref b0):=⟨_,rfl⟩
  have f:c.toList=es.toList.take (SetTable.below t.place j)++((TK prog w).hash d,Value.ref b0)::es.toList.drop (SetTable.below t.place j):=by rw[u];exact SetTable.toList_insertAt ..
  have g:c.size=es.size+1:=by
   rw[← aA8,f,aB1,aE6,aH0,aI9,aA8]
   lia
  have y:=x.ok.put X N l
  have I:HI (t.put j).1 c.toList:=by
   rw[f]
   exact x.hi.put x.ok X l (e:=((TK prog w).hash d,Value.ref b0)) (k1:=k1) J.symm N a5
  have H:(t.put j).1.place.size=c.size:=by have:=I.1;rw[aA8] at this;exact this.symm
  have B:(t.put j).1.fits c.size=true:=aqi y H
  rw[← u]
  refine aJ2 (wpAny_storeSet_of O hd ?_ (by rw[g];rw[sizeLine_eq];lia))
  have r1:=x.r.put (es':=c) (t':=(t.put j).1) B (hT.put N)
  have C:=Heap.SameBut.update s.heap a (Obj.putSet c (t.put j).1)
  have P:∀ q b,(TK prog w).is s.heap q b->(TK prog w).is (s.heap.update a (Obj.putSet c (t.put j).1)) q b:=λq b hq=>anv C hq O hx
  have x1:ST prog w U a c (ep+1) (t.put j).1 (ks.take (SetTable.below t.place j)++d::ks.drop (SetTable.below t.place j)) (s.heap.update a (Obj.putSet c (t.put j).1)):=by
   have a6:SetTable.below t.place j<=ks.length:=by rw[x.len];lia
   have S:SetTable.below t.place j<=es.toList.length:=by rw[aA8];lia
   refine⟨r1,y,I,p,x.msk,?_,λi e k n v=>?_,?_⟩
   ·rw[aB1,aE6,aH0,aI9,g,← x.len]
    lia
   ·rw[f,ins_get _ _ _ S] at n
    rw[ins_get _ _ _ a6] at v
    by_cases c1:i<SetTable.below t.place j
    ·rw[aF5 c1] at n v
     obtain⟨b,T,F⟩:=x.gd i e k n v
     exact⟨b,T,P k b F.1,F.2⟩
    ·rw[aF6 c1] at n v
     by_cases c2:i=SetTable.below t.place j
     ·rw[aF5 c2] at n v
      cases n
      cases v
      exact⟨b0,rfl,P d b0 Z,hU⟩
     ·rw[aF6 c2] at n v
      obtain⟨b,T,F⟩:=x.gd (i-1) e k n v
      exact⟨b,T,P k b F.1,F.2⟩
   ·refine(anw ks d _).nodup_iff.mpr (aI4.mpr ⟨hm,x.nd⟩)
  have M:(ks.take (SetTable.below t.place j)++d::ks.drop (SetTable.below t.place j)).Perm (L++[d]):=(anw ks d _).trans ((G.cons d).trans (List.perm_append_singleton d L).symm)
  by_cases hfull:(t.put j).1.tooFull=true
  ·rw[aF5 (by rw[hfull];rfl)]
   rw[← g]
   refine aJ2 (awc (s:={ s with heap:=s.heap.update a (Obj.putSet c (t.put j).1) }) x1 (by lia) (by lia) λh' Y a3 a4 t2 a1 x2 D W=>?_)
   refine aJ3 (h true h' (C.trans Y) ?_)
   rw[aF6 K]
   exact⟨a3,a4,t2,a1,x2,D,W.trans M⟩
  ·rw[aF6 (by intro z;exact hfull (by simpa using z))]
   refine aJ3 ?_
   refine h true _ C ?_
   rw[aF6 K]
   refine⟨c,ep+1,_,_,x1,?_,M⟩
   unfold SetTable.tooFull SetTable.fill at hfull
   rw[y.dum] at hfull
   simp at hfull
   lia
 ·have:=x.msk.2
  unfold SetTable.turns
  lia
end
end SH
namespace SS
open PySem PySem.W PyProof.Rows
section
def ab8(w:World):Obj:={ cls:=.type "set",dict:=none,data:=.set #[] 0 (.fresh 0 0 (!bt w)) }
theorem awd(a:Value)(h:Q₁ (.ref s.heap.objs.size) { s with heap:=s.heap.push (ab8 w) }) :
  codeAny (model prog w) A (.call (.builtin "set.__new__") ⟨[.type "set",a],[]⟩) (wants Q₁ E) s:=by
 refine codeAny_of_tree ?_
 show wpAny _ A.in1 (do checkBuiltinCall "set.__new__" ⟨[.type "set",a],[]⟩;again (.builtin "set.__new__" ⟨[.type "set",a],[]⟩)) _ _ s
 refine aJ2 (wpAny_of_eq (PySem.F.newCall_set_1 a) (aJ3 ⟨plainId_quiet PySem.F.plain_set_new _,aK9 PySem.F.entry_set_new ?_⟩))
 rw[aK3 PySem.F.plain_set_new _]
 unfold Builtin.«set.__new__» Builtin.Frozenset.newClass
 have b:=sub_set_self
 obtain⟨f,g,d,c,os⟩:=s
 dsimp only
 wp_walk
 refine wpAny_askSetting (aJ3 ?_)
 dsimp only
 simp only[newObj]
 refine aJ2 (wpAny_alloc (aJ3 ?_))
 exact aJ3 h
section
end
end
end SS
namespace SH
open PySem PySem.W PyProof.Rows SS
section
variable{prog:Program}{w:World}{A:Around}{E:Value->Shared->Prop}{s:Shared}{U:Addr->Prop}
theorem azq(h:Heap):SetT prog w U h.objs.size [] (h.push (ab8 w)):=by
 have tok:TOk (SetTable.fresh 0 0 (!bt w)):=⟨List.Pairwise.nil,rfl,λj a=>(nomatch a),⟨3,rfl⟩,aG0 _⟩
 have hi:HI (SetTable.fresh 0 0 (!bt w)) ([]:List (Int × Value)):=⟨rfl,λi e j hi=>(nomatch hi)⟩
 exact⟨#[],0,_,[],⟨⟨_,aJ6 _ rfl,⟨rfl,rfl,rfl⟩,rfl,rfl,TbI.fresh _ _ _⟩,tok,hi,rfl,⟨aA6 7,show(7:Nat)<=8191 by decide⟩,rfl,λi e k hi=>(nomatch hi),List.nodup_nil⟩,show(0:Nat) * 5<7 * 3 by decide,.refl _⟩
section
variable{R:Result->Shared->Prop}{I:Addr}{fp wr:List Addr}{n:Nat}{P:Nat->Value->Prop}{St:Nat->Heap->Prop}
theorem a35(W:Walks prog w A.in1 I fp wr n P St)(S:Addr)(G:S ∉ fp)(hu:(TK prog w).room A.in1)(X:Heap)(val:Nat->List Int)(tup:Nat->Addr)(H:∀ i v,P i v->v=.ref (tup i))(hU:∀ i,i<n->U (tup i))(a5:∀ b,U b->b ≠ S/\b ∉ wr)(hb:n+1<=2040)
  (g:∀ h',(∀ b o,b ≠ S->b ∉ wr->X.get? b=some o->h'.get? b=some o)->∀ i,i<n->(TK prog w).is h' (val i) (tup i)) :
  ∀(k i:Nat)(s:Shared)(L:List (List Int)),n-i=k->i<=n->St i s.heap->(∀ b o,b ≠ S->b ∉ wr->X.get? b=some o->s.heap.get? b=some o)->SetT prog w U S L s.heap->L.Nodup->L.length<=i->(∀ x,x∈L ↔ ∃ j,j<i/\val j=x) ->
   (∀ h' K D,(∀ b o,b ≠ S->b ∉ wr->s.heap.get? b=some o->h'.get? b=some o)->SetT prog w U S D h'->D.Nodup->D.length<=n->(∀ x,x∈D ↔ ∃ j,j<n/\val j=x)->R (.ok (.ret .none)) { s with heap:=h',toks:=K }) ->
   codeAny (model prog w) A (.builtin "set.update.loop" ⟨[.ref S,.ref I],[]⟩) R s:=by
 have a1:S ∉ wr:=λh=>G (W.sub _ h)
 have mv:∀{h h':Heap}{L:List (List Int)},SetT prog w U S L h->(∀ b o,b ∉ wr->h.get? b=some o->h'.get? b=some o)->SetT prog w U S L h':=λ{h h' L} x hm=>by
  obtain⟨es,ep,t,ks,x,r⟩:=x
  exact⟨es,ep,t,ks,x.at (λo e=>hm S o a1 e) (λb ks hb ⟨o,items,m,e,q⟩=>⟨o,items,m,hm b o (a5 b hb).2 e,q⟩),r⟩
 intro k
 induction k with
 | zero =>
  intro i s L T hi C Q hS f l c hR
  have a2:i=n:=by lia
  subst a2
  refine aK9 PyProof.Rows.F.entry_set_update_loop ?_
  rw[aK3 PyProof.Rows.F.plain_set_update_loop _]
  show wpAny _ A.in1 (pyNext (.ref I) >>= _) _ _ s
  refine aJ2 (W.done s _ _ C λh' K T=>?_)
  show wpAny _ A.in1 (ret Value.none) _ _ _
  exact aJ3 (hR h' K L (λb o _ hb e=>T b o hb e) (mv hS T) f l c)
 | succ k ih =>
  intro i s L T hi C Q hS f l c hR
  have d:i<n:=by lia
  refine aK9 PyProof.Rows.F.entry_set_update_loop ?_
  rw[aK3 PyProof.Rows.F.plain_set_update_loop _]
  show wpAny _ A.in1 (pyNext (.ref I) >>= _) _ _ s
  refine aJ2 (W.item i s _ _ d C λv E K hP M p=>?_)
  have ev:=H i v hP
  subst ev
  have a3:SetT prog w U S L E:=mv hS p
  have u:∀ b o,b ≠ S->b ∉ wr->X.get? b=some o->E.get? b=some o:=λb o b1 y e=>p b o y (Q b o b1 y e)
  show wpAny _ A.in1 (holding [Value.ref (tup i)] (setAdd S (.ref (tup i))) >>= _) _ _ _
  refine aJ2 (aJ8 ?_)
  unfold setAdd
  refine aJ8 ?_
  refine aJ2 ((TK prog w).pyHash hu (g E u i d) ?_)
  refine aty (s:={ s with heap:=E,toks:=K+(TK prog w).draws (val i) }) hu a3 (g E u i d) (hU i d) (by lia) λb h' B Z=>?_
  refine aJ3 ⟨plainId_quiet PyProof.Rows.F.plain_set_update_loop _,ih (i+1) _ _ (by lia) d (W.frame _ E _ M λb hb o e=>?_) (λb o b1 y e=>?_) Z ?_ ?_ ?_ λa4 N D J O n1 n2 n3=>?_⟩
  ·rw[B.2 b (λh:b=S=>G (by rw[← h];exact hb))];exact e
  ·show h'.get? b=some o
   rw[B.2 b b1];exact u b o b1 y e
  ·split
   ·exact f
   ·rename_i hm
    rw[aE7]
    refine⟨f,by simp,λa ha b hb=>?_⟩
    rw[aC2] at hb;subst hb
    exact λz=>hm (z ▸ ha)
  ·split
   ·lia
   ·rw[aB1,List.length_singleton];lia
  ·intro x
   have Y:x∈(if val i∈L then L else L++[val i]) ↔ x∈L\/x=val i:=by
    split
    ·rename_i hm;exact⟨.inl,λh=>h.elim id λe=>e ▸ hm⟩
    ·simp
   rw[Y,c x]
   constructor
   ·rintro(⟨j,a,b⟩|rfl)
    ·exact⟨j,by lia,b⟩
    ·exact⟨i,by lia,rfl⟩
   ·rintro⟨j,a,b⟩
    by_cases e:j=i
    ·subst e;exact .inr b.symm
    ·exact .inl ⟨j,by lia,b⟩
  ·refine hR a4 N D (λb o b1 y e=>J b o b1 y ?_) O n1 n2 n3
   show h'.get? b=some o
   rw[B.2 b b1]
   exact p b o y e
end
theorem call_setT{U:Addr->Prop}{l:Addr}{items:Array Value}{n:Nat}{val:Nat->List Int}{tup:Nat->Addr}{Q:Value->Shared->Prop}
  (hh:A.handled=none) (hu:(TK prog w).room A.in1.in1.in1) (hl:s.heap.IsList l items) (hP:∀(i:Nat)(v:Value),items[i]?=some v->v=Value.ref (tup i)) (hi:∀ i,i<items.size->(TK prog w).is s.heap (val i) (tup i)) (hU:∀ i,i<items.size->U (tup i)) (M:∀ b,U b->b<s.heap.objs.size) (hb:items.size+1<=2040)
  (h:∀(h':Heap)(y:Nat)(L:List (List Int)),SetT prog w U s.heap.objs.size L h'->L.Nodup->L.length<=items.size->(∀ x,x∈L ↔ ∃ j,j<items.size/\val j=x) ->
   (∀ b o,s.heap.get? b=some o->h'.get? b=some o)->Q (.ref s.heap.objs.size) { s with heap:=h',toks:=y }) :
  wpAny (model prog w) A (call (.type "set") [.ref l]) Q E s:=by
 obtain⟨c,tl,a3⟩:=PySem.F.called_set.mro
 have a1:=PySem.F.called_set.made
 have a4:=PySem.F.called_set.sub
 refine wpAny_call (codeAny_of_tree ?_)
 show wpAny _ _ (callAny (.type "set") _) _ _ _
 refine aJ3 ⟨Code.quiet_builtin _ (by decide +kernel),aK9 PySem.F.entry_type_call ?_⟩
 rw[Around.under_plain (weight_type_call_type "set" [.ref l] []) rfl]
 have h1:=PySem.F.called_set.notType
 have h2:=PySem.F.called_set.canCreate
 have a7:=PySem.F.typeCall_set_1 (.ref l)
 repeat (any_goals (first|assumption|wp_step))
 refine aJ7 (awd (.ref l) (E:=E) (Q₁:=λobj g=>obj=.ref s.heap.objs.size/\g={ s with heap:=s.heap.push (ab8 w) }) ⟨rfl,rfl⟩) λr g hr=>?_
 cases r with
 |error e=>exact hr
 | ok fl =>
  cases fl with
  | ret obj =>
   obtain⟨rfl,rfl⟩:=hr
   have hS:(s.heap.push (ab8 w)).get? s.heap.objs.size=some (ab8 w):=aJ6 _ rfl
   have hT:Shared.TypeIs { s with heap:=s.heap.push (ab8 w) } (.ref s.heap.objs.size) "set":=⟨_,hS,rfl⟩
   have a9:=PySem.F.called_set.init.lookup
   have b1:=PySem.F.called_set.init.bind (.ref s.heap.objs.size)
   repeat (any_goals (first|assumption|wp_step))
   refine aJ7 (codeAny_call_builtin (R:=wants (λr f=>r=.none/\∃ h' y L,f={ s with heap:=h',toks:=y }/\SetT prog w U s.heap.objs.size L h'/\L.Nodup/\L.length<=items.size/\(∀ x,x∈L ↔ ∃ j,j<items.size/\val j=x) /\
     (∀ b o,s.heap.get? b=some o->h'.get? b=some o)) E) PySem.F.called_set.init.plain PySem.F.entry_set_init (check_set_init_1 hT ?_)) λC f a=>?_
   ·obtain⟨ol,I,J,nl,z⟩:=hl
    obtain⟨a2,u,W,d⟩:=ol
    simp only at J z
    subst J;subst z
    have H:(s.heap.push (ab8 w)).get? l=some { cls:=.type "list",dict:=u,data:=.seq items nl,slots:=d }:=aJ4 _ I
    have a5:=PySem.F.sub_list_set
    have a6:=PySem.F.sub_list_frozenset
    have b0:(Value.type "list" == Value.type "dict")=false:=by decide
    have B:(s.heap.push (ab8 w)).IsList l items:=⟨_,H,rfl,nl,rfl⟩
    unfold Builtin.«set.__init__» noKeywords Builtin.Frozenset.updateFrom
    generalize hPI:pyIter=PI
    unfold ab8 at *
    wp_walk
    subst hPI
    refine aK7 B ?_
    refine aJ2 (wpAny_runValue ?_)
    have K:l<s.heap.objs.size:=aJ5 I
    have Y:A.in1.in1.in1.handled=none:=by simp[hh]
    have D:l ≠ (s.heap.push (ab8 w)).objs.size:=by
     rw[aK4];exact aB6 (aF8 K)
    have X:s.heap.objs.size ∉ [(s.heap.push (ab8 w)).objs.size,l]:=by
     rw[aK4];simp only[aA9,aC2,aI3,or_false,not_or]
     exact⟨aB6 (aI7 _),Nat.ne_of_gt K⟩
    have a8:∀ i,i<items.size->tup i<s.heap.objs.size:=λi h=>let ⟨_,_,_,e,_⟩:=hi i h;aJ5 e
    refine a35 (U:=U) (Walks.list Y _ l D items) s.heap.objs.size X hu s.heap val tup hP hU (λb hb=>⟨aB6 (M b hb),by rw[aC2,aK4];exact aB6 (aF8 (M b hb))⟩) hb
     (λh' kp i h=>let ⟨o,its,m,e,q⟩:=hi i h;⟨o,its,m,kp _ o (aB6 (aJ5 e)) (by rw[aC2,aK4];exact aB6 (aF8 (aJ5 e))) e,q⟩)
     (items.size-0) 0 _ [] (by lia) (aG0 _)
     ⟨⟨_,aJ6 _ rfl,rfl,rfl⟩,(B.push _)⟩ (λb o _ _ e=>aJ4 _ (aJ4 _ e)) (let ⟨es,ep,t,ks,x,r⟩:=azq s.heap;⟨es,ep,t,ks,x.at (λo e=>aJ4 _ e) (λb ks hb ⟨o,its,m,e,q⟩=>⟨o,its,m,aJ4 _ e,q⟩),r⟩) List.nodup_nil (aA6 _) (λx=>by simp) λh' y L hk p O T Z=>?_
    show wpAny _ _ _ _ _ _
    refine aJ3 ?_
    show wpAny _ _ (ret Value.none) _ _ _
    refine aJ3 ⟨rfl,h',y,L,rfl,p,O,T,Z,λb o e=>?_⟩
    have G:=aJ5 e
    have N:b ≠ s.heap.objs.size:=aB6 G
    have P:b ≠ (s.heap.push (ab8 w)).objs.size:=by
     rw[aK4];exact aB6 (aF8 G)
    exact hk b o N (by rw[aC2];exact P) (aJ4 _ (aJ4 _ e))
   ·cases C with
    |error e=>exact a
    | ok fl₂ =>
     cases fl₂ with
     | ret r =>
      obtain⟨rfl,h',y,L,rfl,p,O,T,Z,S⟩:=a
      repeat (any_goals (first|assumption|wp_step))
      exact h _ _ _ p O T Z S
     |_=>exact a.elim
  |_=>exact hr.elim
end
end SH
namespace SS
open PySem PySem.W PyProof.Rows
theorem slot_it_next:Slot "set_iterator" "__next__" "set_iterator.__next__" :=
 .of (owner:="set_iterator") (n:="__next__") (by rw[typeLookup_type,builtinLookup_eq_fast];kernel_rfl) (by decide +kernel) (by decide +kernel) (by decide +kernel)
  (by first|exact .inl (by decide +kernel)|exact .inr (by decide +kernel)) (by rw[isSubtype_type];kernel_rfl)
theorem ag5:Slot "set_iterator" "__iter__" "set_iterator.__iter__" :=
 .of (owner:="set_iterator") (n:="__iter__") (by rw[typeLookup_type,builtinLookup_eq_fast];kernel_rfl) (by decide +kernel) (by decide +kernel) (by decide +kernel)
  (by first|exact .inl (by decide +kernel)|exact .inr (by decide +kernel)) (by rw[isSubtype_type];kernel_rfl)
theorem anx:Manifest.owners.lookup (String.ofList ['r','o','t','a','r','e','t','i','_','t','e','s'].reverse)=some Manifest.sig_set_iterator:=by kernel_rfl
theorem anz(a:Value):argsOk "set_iterator.__next__" ⟨[a],[]⟩:=by
 unfold argsOk;rw[signature?_of (id:="set_iterator.__next__") (n:=['_','_','t','x','e','n','_','_']) (o:=['r','o','t','a','r','e','t','i','_','t','e','s']) (by kernel_rfl) anx];kernel_rfl
theorem an0(a:Value):argsOk "set_iterator.__iter__" ⟨[a],[]⟩:=by
 unfold argsOk;rw[signature?_of (id:="set_iterator.__iter__") (n:=['_','_','r','e','t','i','_','_']) (o:=['r','o','t','a','r','e','t','i','_','t','e','s']) (by kernel_rfl) anx];kernel_rfl
theorem alt:entryFor table "set_iterator.__next__" = some Builtin.«set_iterator.__next__»:=entryFor_of_tree (by kernel_rfl)
theorem alu:entryFor table "set_iterator.__iter__" = some Builtin.«dict_keyiterator.__iter__»:=entryFor_alias (id':="dict_keyiterator.__iter__") (by kernel_rfl) rfl (by decide +kernel) (by kernel_rfl)
theorem akc:entryFor table "set.__iter__" = some Builtin.«frozenset.__iter__»:=entryFor_alias (id':="frozenset.__iter__") (by kernel_rfl) rfl (by decide +kernel) (by kernel_rfl)
section
variable{prog:Program}{w:World}{A:Around}{E:Value->Shared->Prop}{s:Shared}{a I:Addr}{es:Array (Int × Value)}{ep:Nat}{t:SetTable}
def IsIt(h:Heap)(I:Addr)(vs:Array Value):Prop:=∃ o,h.get? I=some o/\o.cls=.type "set_iterator"/\o.data=.fields vs
theorem IsIt.ty(x:IsIt s.heap I vs):s.TypeIs (.ref I) "set_iterator":=let ⟨o,e,c,_⟩:=x;⟨o,e,c⟩
theorem IsIt.at(x:IsIt h I vs)(k:∀ o,h.get? I=some o->h'.get? I=some o):IsIt h' I vs:=let ⟨o,e,r⟩:=x;⟨o,k o e,r⟩
theorem SetR.ty(x:SetR prog w a es ep t s.heap):s.TypeIs (.ref a) "set":=let ⟨o,e,c,_⟩:=x;⟨o,e,c.1⟩
theorem aeb(x:SetR prog w a es ep t s.heap)(h:Q (es,ep,t) s):wpAny (model prog w) A (setState a) Q E s:=let ⟨_,b,_,hd,hf,_⟩:=x;wpAny_setState_of b hd hf h
theorem agi(x:SetR prog w a es ep t s.heap)(h:Q es s):wpAny (model prog w) A (setEntries a) Q E s:=by
 unfold setEntries;exact aJ2 (aeb x (aJ3 h))
theorem an1(x:SetR prog w a es ep t s.heap)(h:Q ep s):wpAny (model prog w) A (setEpoch a) Q E s:=by
 unfold setEpoch;exact aJ2 (aeb x (aJ3 h))
theorem akd(h:Q (bt w) s):wpAny (model prog w) A setsByText Q E s:=by
 unfold setsByText;exact aJ2 (wpAny_askSetting (aJ3 h))
theorem atz(hn:0<n)(h:∀ i d,i<n->Q i { s with drawn:=d }):wpAny M A (choose src n) Q E s:=fun Γ p _=>by
 unfold choose
 rw[Sem.wp_choose]
 exact⟨by lia,h _ _ (Nat.mod_lt _ hn)⟩
theorem aqj{α:Type} :∀(n:Nat)(xs:List α)(s:Shared)(Q:List α->Shared->Prop),xs.length=n->(∀ ys d,ys.Perm xs->Q ys { s with drawn:=d })->wpAny M A (drawOrder n xs) Q E s
 | 0,xs,s,Q,hn,h=>by
  unfold drawOrder
  rw[aH2 hn] at h
  exact aJ3 (h [] s.drawn (List.Perm.refl _))
 |n+1,[],s,Q,hn,h=>by cases hn
 | n+1,x::xs,s,Q,hn,h=>by
  unfold drawOrder
  refine aJ2 (atz (by simp) λi d hi=>?_)
  rw[aA0 hi]
  dsimp only
  refine aJ2 (aqj n _ _ _ (by rw[List.length_eraseIdx];split <;> lia) λys d' a=>aJ3 ?_)
  refine h _ d' ?_
  have e:(x::xs)=(x::xs).take i++(x::xs)[i]::(x::xs).drop (i+1):=by
   rw[← List.drop_eq_getElem_cons hi,aC1]
  refine(a.cons _).trans ?_
  rw[List.eraseIdx_eq_take_drop_succ]
  refine List.Perm.trans ?_ (List.Perm.of_eq e.symm)
  exact List.perm_middle.symm
def dr(w:World)(es:Array (Int × Value))(t:SetTable):Bool:=!bt w && (!t.plain && decide (es.size > 1))
def itO(f:Value)(a:Addr)(n ep:Nat):Obj:={ cls:=.type "set_iterator",data:=.fields #[f,rawInt (0:Nat),.ref a,rawInt n,rawInt ep] }
def tuO(pl:List Nat):Obj:={ cls:=.type "tuple",data:=.seq (pl.map λ(i:Nat)=>rawInt i).toArray }
theorem azr(x:SetR prog w a es ep t s.heap)(hz:es.size<=sizeLine)
  (c:dr w es t=false->Q (.ref s.heap.objs.size) { s with heap:=s.heap.push (itO (rawInt (0:Nat)) a es.size ep) })
  (f:dr w es t=true->∀ pl d,pl.Perm (List.range es.size)->Q (.ref (s.heap.objs.size+1)) { s with heap:=(s.heap.push (tuO pl)).push (itO (.ref s.heap.objs.size) a es.size ep),drawn:=d }):wpAny (model prog w) A (pyIter (.ref a)) Q E s:=by
 refine wpAny_pyIter_slot x.ty PySem.F.slot_set_iter (aK5 PySem.F.slot_set_iter x.ty akc ?body (PySem.F.args_set_iter_1 _))
 unfold Builtin.«frozenset.__iter__»
 show wpAny _ _ (Builtin.Frozenset.sizeOf a >>= _) _ _ s
 unfold Builtin.Frozenset.sizeOf
 refine aJ2 (aJ2 (agi x (aJ3 ?_)))
 unfold setDrawn
 refine aJ2 (aJ2 (aeb x (aJ2 (akd (aJ3 ?_)))))
 show wpAny _ _ (if dr w es t=true then _ else _) _ _ s
 cases hd:dr w es t
 ·rw[aF6 (by decide)]
  refine aJ2 (aJ3 (aJ2 (an1 x ?_)))
  unfold newFields
  refine aJ2 (aK2 (aJ3 ⟨_,rfl,"set_iterator",_,⟨_,aJ6 _ rfl,rfl⟩,slot_it_next.lookup,c hd⟩))
 ·rw[aF5 rfl]
  refine aJ2 (aqj es.size (List.range es.size) s _ (by simp) λpl d b=>?_)
  refine aJ2 (wpAny_newTuple ?_ (by rw[aA3,b.length_eq,aE1];exact hz))
  refine aJ2 (an1 (x.at λo e=>aJ4 _ e) ?_)
  unfold newFields
  refine aJ2 (aK2 (aJ3 ⟨_,rfl,"set_iterator",_,⟨_,aJ6 _ rfl,rfl⟩,slot_it_next.lookup,?_⟩))
  have:=f hd pl d b
  simp only[aK4]
  exact this
end
section
variable{prog:Program}{w:World}{A:Around}{E:Value->Shared->Prop}{s:Shared}{a I:Addr}{es:Array (Int × Value)}{ep:Nat}{t:SetTable}
def ord(w:World)(a:Addr)(es:Array (Int × Value))(ep:Nat):List (Int × Value):=if bt w=true then (pickOrder (w.params.setOrder a ep) es).toList else es.toList
theorem ord_perm:(ord w a es ep).Perm es.toList:=by
 unfold ord;split
 ·exact akb _ _
 ·exact List.Perm.refl _
def sl(t:SetTable):Nat->Nat
 |0=>0
 |i+1=>t.place.getD i 0+1
theorem arx(x:SetR prog w a es ep t s.heap)(hb:bt w=false)(hd:dr w es t=false):t.place.toList.Pairwise (· < ·):=by
 obtain⟨o,_,_,_,hf,hT⟩:=x
 unfold dr at hd
 rw[hb] at hd
 cases hp:t.plain with
 |true=>exact hT.ris hp
 | false =>
  rw[hp] at hd
  have c:es.size<=1:=by simpa using hd
  have b:t.place.toList.length<=1:=by
   simp only[SetTable.fits,aH1,aG3] at hf
   rw[aA8];lia
  match hl:t.place.toList with
  |[]=>exact .nil
  |[y]=>exact List.pairwise_singleton _ _
  |y::z::r=>rw[hl] at b;simp at b
theorem azs(x:SetR prog w a es ep t s.heap)(hd:dr w es t=false)(hs:bt w=false->slot=sl t i)(hi:i<=es.size)
  (n:∀ e nx,(ord w a es ep)[i]?=some e->(bt w=false->nx=sl t (i+1))->Q (some (e.2,nx)) s) (p:i=es.size->Q none s):wpAny (model prog w) A (setNext a slot i ep) Q E s:=by
 unfold setNext
 refine aJ2 (aeb x ?_)
 dsimp only
 refine aJ2 (akd ?_)
 cases hb:bt w with
 | true =>
  rw[aF5 rfl]
  rw[aF6 (by simp)]
  refine aJ2 ?_
  unfold setWalk
  refine aJ2 (aeb x ?_)
  dsimp only
  refine aJ2 (akd ?_)
  rw[hb,aF5 rfl]
  refine aJ2 (wpAny_askSetting (aJ3 (aJ3 ?_)))
  show Q ((pickOrder (w.params.setOrder a ep) es)[i]?.map λe=>(e.2,slot)) s
  have d:ord w a es ep=(pickOrder (w.params.setOrder a ep) es).toList:=by unfold ord;rw[hb,aF5 rfl]
  rw[← aD6,← d]
  cases he:(ord w a es ep)[i]? with
  | none =>
   refine p ?_
   have:=aF7.mp he
   rw[ord_perm.length_eq,aA8] at this
   lia
  |some e=>exact n e slot he λz=>by rw[hb] at z;cases z
 | false =>
  rw[aF6 (by decide)]
  have b:=arx x hb hd
  obtain⟨o,y,B,v,hf,hT⟩:=id x
  have u:t.place.size=es.size:=by
   simp only[SetTable.fits,aH1,aG3] at hf;exact hf.1
  have l:SetTable.below t.place slot=i:=by
   rw[hs hb]
   cases i with
   |zero=>exact art _ b
   | succ j =>
    have q:j<t.place.toList.length:=by rw[aA8];lia
    have e:t.place.getD j 0=t.place.toList[j]:=by simp[Array.getD,show j<t.place.size by lia]
    show SetTable.below t.place (t.place.getD j 0+1)=j+1
    rw[e];exact ars _ b j q
  refine aJ2 (aJ3 ?_)
  have f:(!t.plain && decide (es.size > 1))=false:=by unfold dr at hd;rw[hb] at hd;exact hd
  show wpAny _ _ (if (!t.plain && decide (es.size > 1))=true then _ else _) _ _ s
  rw[f,aF6 (by decide)]
  refine aJ2 ?_
  show wpAny _ _ (if (!t.led && !es.isEmpty)=true then _ else _) _ _ s
  rw[hT.led hb]
  rw[aF6 (by simp)]
  refine aJ3 ?_
  rw[l]
  have d:ord w a es ep=es.toList:=by unfold ord;rw[hb,aF6 (by decide)]
  rcases Nat.lt_or_ge i es.size with g|h
  ·have c:es[i]?=some es[i]:=aA4 g
   have r:t.place[i]?=some t.place[i]:=aA4 (by lia)
   rw[c,r]
   refine aJ3 (n es[i] _ (by rw[d,aD6];exact c) λ_=>?_)
   show t.place[i] + 1=t.place.getD i 0+1
   simp[Array.getD,show i<t.place.size by lia]
  ·have c:es[i]?=none:=Array.getElem?_eq_none_iff.mpr h
   rw[c]
   exact aJ3 (p (by lia))
theorem upd2{h:Heap}{f x b n e:Value}{i:Value}(a:IsIt h I #[f,i,x,n,e])(j:Nat)(v:Value)(vs:Array Value)(c : #[f,i,x,n,e].setIfInBounds j v=vs):IsIt (h.update I (Obj.mapFields (·.setIfInBounds j v))) I vs:=by
 obtain⟨o,d,g,hd⟩:=a
 exact⟨_,aK8 _ d (Obj.isFreed_of_fields (Obj.data_mapFields hd _)),(Obj.cls_mapFields ..).trans g,by rw[Obj.data_mapFields hd,c]⟩
theorem aec(a:IsIt s.heap I vs)(hi:i<vs.size)(h:Q () { s with heap:=s.heap.update I (Obj.mapFields (·.setIfInBounds i x)) }):wpAny (model prog w) A (setField (.ref I) i x) Q E s:=by
 obtain⟨o,b,c,hd⟩:=a
 exact wpAny_setField b hd hi h
theorem aqk(a:IsIt s.heap I vs)
  (h:wpAny (model prog w) A.in1 (Builtin.«set_iterator.__next__» ⟨[.ref I],[]⟩) (λfin s'=>∃ v,fin=.done (.ret v)/\Q (some v) s') (λe s'=>wpAny (model prog w) A (do if ← isInstance e (.type "StopIteration") then pure none else throw e) Q E s') s) :
  wpAny (model prog w) A (pyNext (.ref I)) Q E s:=by
 unfold pyNext
 refine aJ2 (wpAny_attempt (wpAny_callSpecial?_slot (name:=Str.ofString "__next__") a.ty slot_it_next (aK5 slot_it_next a.ty alt ?b (anz _))))
 case b =>
  refine aK1 h ?_ ?_
  ·rintro fin s' ⟨v,rfl,q⟩
   exact⟨v,rfl,aJ3 q⟩
  ·intro e s' q;exact q
theorem aql{Q:Option Value->Shared->Prop}{F:Type}{c:F->Shared->Prop}(hh:A.handled=none)(h:∀ h',(∀ b o,s.heap.get? b=some o->h'.get? b=some o)->Q none { s with heap:=h' }) :
  wpAny (model prog w) A.in1 (newExc (.type "StopIteration") [] >>= λe=>(raiseNew e:Sem F)) c (λe s'=>wpAny (model prog w) A (do if ← isInstance e (.type "StopIteration") then pure none else throw e) Q E s') s:=by
 refine aJ2 ?_
 simp only[newExc,newTuple];refine aJ2 (aK2 ?_ (by size_fits))
 refine aJ2 (m:=firstArgMember _ _) (wpAny_of_eq (a:=Value.none) (by first|rfl|(simp only[firstArgMember];rfl)) (aK2 ?_ (by size_fits)))
 simp only[raiseNew];refine aJ2 (wpAny_handled ?_)
 rw[show A.in1.handled=none from hh];refine aJ2 (aJ3 (wpAny_throw ?_))
 refine aJ2 (wpAny_isInstance (T:="StopIteration") (b:=true) ⟨_,aJ6 _ rfl,rfl⟩ isSubtype_stop ?_)
 exact aJ3 (h _ λb o e=>aJ4 _ (aJ4 _ e))
theorem aqm{slot i:Nat}{Q:Option Value->Shared->Prop}(hh:A.handled=none)(l:a ≠ I)(c:IsIt s.heap I #[rawInt slot,rawInt i,.ref a,rawInt es.size,rawInt ep])(x:SetR prog w a es ep t s.heap)(hd:dr w es t=false)(hs:bt w=false->slot=sl t i)(hi:i<=es.size)
  (h:∀ e (nx:Nat) h',(ord w a es ep)[i]?=some e->(bt w=false->nx=sl t (i+1))->IsIt h' I #[rawInt nx,rawInt ((i+1:Nat):Int),.ref a,rawInt es.size,rawInt ep]->(∀ b o,b ≠ I->s.heap.get? b=some o->h'.get? b=some o)->Q (some e.2) { s with heap:=h' })
  (n:i=es.size->∀ h',(∀ b o,b ≠ I->s.heap.get? b=some o->h'.get? b=some o)->Q none { s with heap:=h' }):wpAny (model prog w) A (pyNext (.ref I)) Q E s:=by
 refine aqk c ?_
 obtain⟨o,p,q,g⟩:=id c
 unfold Builtin.«set_iterator.__next__»
 refine aJ2 (aJ3 (aJ2 (wpAny_fieldsOf p g ?_)))
 show wpAny _ _ (setEntries a >>= _) _ _ s
 refine aJ2 (agi x ?_)
 rw[aF6 (by simp)]
 show wpAny _ _ (setNext a slot i ep >>= _) _ _ s
 refine aJ2 (azs x hd hs hi (λe nx j hn=>?_) λhz=>?_)
 ·dsimp only
  refine aJ2 (aec c (by simp) ?_)
  have d:=upd2 (b:=.none) c 0 (rawInt nx) #[rawInt nx,rawInt i,.ref a,rawInt es.size,rawInt ep] rfl
  refine aJ2 (aec (s:={ s with heap:=_ }) d (by simp) ?_)
  have f:=upd2 (b:=.none) d 1 (rawInt ((i+1:Nat):Int)) #[rawInt nx,rawInt ((i+1:Nat):Int),.ref a,rawInt es.size,rawInt ep] rfl
  refine aJ3 ⟨_,rfl,h e nx _ j hn f λb o hb e=>?_⟩
  exact(aK0 _ _ (Ne.symm hb)).trans ((aK0 _ _ (Ne.symm hb)).trans e)
 ·dsimp only
  refine aJ2 (aec c (by simp) ?_)
  refine aql (s:={ s with heap:=s.heap.update I _ }) hh λh' k=>n hz h' λb o hb e=>k b o ((aK0 _ _ (Ne.symm hb)).trans e)
theorem aqn(a:IsIt s.heap I vs)(h:Q (.ref I) s):wpAny (model prog w) A (pyIter (.ref I)) Q E s:=by
 refine wpAny_pyIter_slot a.ty ag5 (aK5 ag5 a.ty alu ?_ (an0 _))
 show wpAny _ _ (ret (.ref I)) _ _ s
 exact aJ3 ⟨_,rfl,"set_iterator",_,a.ty,slot_it_next.lookup,h⟩
theorem walks(hh:A.handled=none)(d:a ≠ I)(hd:dr w es t=false):Walks prog w A I [I,a] [I] es.size (λi v=>((ord w a es ep).map (·.2))[i]?=some v)
  (λi h=>∃ slot:Nat,IsIt h I #[rawInt slot,rawInt i,.ref a,rawInt es.size,rawInt ep]/\SetR prog w a es ep t h/\(bt w=false->slot=sl t i)) where
 sub:=λb hb=>by simp at hb;simp[hb]
 frame:=λ_ _ _ st p=>let ⟨slot,c,f,j⟩:=st;⟨slot,c.at λo e=>p I (by simp) o e,f.at λo e=>p a (by simp) o e,j⟩
 item:=λi s Q E hi st l=>by
  obtain⟨slot,c,f,j⟩:=st
  refine aqm hh d c f hd j (aG5 hi) (λe nx h' n hn g k=>?_) λhz=>by lia
  exact l _ h' s.toks (by rw[aA5,n];rfl) ⟨nx,g,f.at λo e=>k a o d e,hn⟩ λb o hb e=>k b o (λz=>hb (by simp[z])) e
 done:=λs Q E st l=>by
  obtain⟨slot,c,f,j⟩:=st
  refine aqm hh d c f hd j (aA6 _) (λe nx h' n hn g k=>?_) λhz h' k=>l h' s.toks λb o hb e=>k b o (λz=>hb (by simp[z])) e
  have:=(aA1.mp n).1
  rw[ord_perm.length_eq,aA8] at this
  lia
 self:=λ_ _ _ _ st l=>let ⟨_,c,_,_⟩:=st;aqn c l
theorem axl{i:Nat}{tu:Addr}{pl:List Nat}{Q:Option Value->Shared->Prop}(hh:A.handled=none)(c:IsIt s.heap I #[.ref tu,rawInt i,.ref a,rawInt es.size,rawInt ep])(hT:s.heap.get? tu=some (tuO pl))(x:SetR prog w a es ep t s.heap)(h:pl.Perm (List.range es.size))(hi:i<=es.size)
  (q:∀ e h' j,pl[i]?=some j->es[j]?=some e->IsIt h' I #[.ref tu,rawInt ((i+1:Nat):Int),.ref a,rawInt es.size,rawInt ep]->(∀ b o,b ≠ I->s.heap.get? b=some o->h'.get? b=some o)->Q (some e.2) { s with heap:=h' })
  (r:i=es.size->∀ h',(∀ b o,b ≠ I->s.heap.get? b=some o->h'.get? b=some o)->Q none { s with heap:=h' }):wpAny (model prog w) A (pyNext (.ref I)) Q E s:=by
 refine aqk c ?_
 obtain⟨o,y,B,g⟩:=id c
 unfold Builtin.«set_iterator.__next__»
 refine aJ2 (aJ3 (aJ2 (wpAny_fieldsOf y g ?_)))
 show wpAny _ _ (setEntries a >>= _) _ _ s
 refine aJ2 (agi x ?_)
 rw[aF6 (by simp)]
 show wpAny _ _ (seqItems? (.ref tu) >>= _) _ _ s
 refine aJ2 (wpAny_seqItems hT rfl ?_)
 dsimp only
 have p:pl.length=es.size:=by rw[h.length_eq,aE1]
 have z:(rawInt (i:Int))=.int i 0:=rfl
 rcases Nat.lt_or_ge i es.size with u|v
 ·have l:pl[i]?=some pl[i]:=aA0 (by lia)
  have f:(pl.map λ(i:Nat)=>rawInt i).toArray[(i:Int).toNat]?=some (rawInt pl[i]):=by
   rw[Int.toNat_natCast,List.getElem?_toArray,aA5,l];rfl
  rw[f]
  have hm:pl[i]<es.size:=aB9.mp (h.mem_iff.mp (aF2 _))
  have n:es[pl[i]]?=some es[pl[i]]:=aA4 hm
  show wpAny _ _ (setNextDrawn a pl[i] ep >>= _) _ _ s
  unfold setNextDrawn
  refine aJ2 (aJ2 (aeb x ?_))
  dsimp only
  rw[aF6 (by simp),n]
  refine aJ3 ?_
  refine aJ2 (aec c (by simp) ?_)
  have d:=upd2 (b:=.none) c 1 (rawInt ((i+1:Nat):Int)) #[.ref tu,rawInt ((i+1:Nat):Int),.ref a,rawInt es.size,rawInt ep] rfl
  exact aJ3 ⟨_,rfl,q _ _ _ l n d λb o hb e=>(aK0 _ _ (Ne.symm hb)).trans e⟩
 ·have f:(pl.map λ(i:Nat)=>rawInt i).toArray[(i:Int).toNat]?=none:=by
   rw[Int.toNat_natCast,List.getElem?_toArray,aA5,aF7.mpr (by lia)];rfl
  rw[f]
  dsimp only
  refine aJ2 (aec c (by simp) ?_)
  have d:=upd2 (b:=.none) c 0 (rawInt 0) #[rawInt 0,rawInt i,.ref a,rawInt es.size,rawInt ep] rfl
  refine aJ2 (aec (s:={ s with heap:=_ }) d (by simp) ?_)
  refine aql (s:={ s with heap:=(s.heap.update I _).update I _ }) hh λh' k=>r (by lia) h' λb o hb e=>k b o ((aK0 _ _ (Ne.symm hb)).trans ((aK0 _ _ (Ne.symm hb)).trans e))
def ordD(es:Array (Int × Value))(pl:List Nat):List Value:=pl.map λj=>(es.toList.map (·.2)).getD j .none
theorem at7(b:pl.Perm (List.range es.size)):(ordD es pl).Perm (es.toList.map (·.2)):=by
 refine(b.map _).trans (List.Perm.of_eq ?_)
 refine List.ext_getElem (by simp) λi a c=>?_
 have:i<es.size:=by simpa using a
 simp[aD4,this]
theorem a2p{tu:Addr}{pl:List Nat}(hh:A.handled=none)(p:a ≠ I)(n:tu ≠ I)(q:pl.Perm (List.range es.size)):Walks prog w A I [I,a,tu] [I] es.size (λi v=>(ordD es pl)[i]?=some v)
  (λi h=>IsIt h I #[.ref tu,rawInt i,.ref a,rawInt es.size,rawInt ep]/\SetR prog w a es ep t h/\h.get? tu=some (tuO pl)) where
 sub:=λb hb=>by simp at hb;simp[hb]
 frame:=λ_ _ _ st u=>let ⟨f,c,d⟩:=st;⟨f.at λo e=>u I (by simp) o e,c.at λo e=>u a (by simp) o e,u tu (by simp) _ d⟩
 item:=λi s Q E hi st l=>by
  obtain⟨f,c,d⟩:=st
  refine axl hh f d c q (aG5 hi) (λe h' j r x g k=>?_) λhz=>by lia
  refine l _ h' s.toks ?_ ⟨g,c.at λo e=>k a o p e,k tu _ n d⟩ λb o hb e=>k b o (λz=>hb (by simp[z])) e
  unfold ordD
  rw[aA5,r]
  simp[aD4,x]
 done:=λs Q E st l=>by
  obtain⟨f,c,d⟩:=st
  refine axl hh f d c q (aA6 _) (λe h' j r x g k=>?_) λhz h' k=>l h' s.toks λb o hb e=>k b o (λz=>hb (by simp[z])) e
  have:=(aA1.mp r).1
  rw[q.length_eq,aE1] at this
  lia
 self:=λ_ _ _ _ st l=>aqn st.1 l
end
section
theorem azt(hT:s.TypeIs (.ref a) "set")(h:Q false s):wpAny (model prog w) A (Builtin.List.listLengthHint (.ref a)) Q E s:=by
 unfold Builtin.List.listLengthHint
 refine aJ2 (wpAny_specialOf hT PySem.F.slot_set_len.lookup ?_)
 generalize hid:("set.__len__" : String)=id0
 wp_delta
 rw[show splitId id0=some ("set","__len__") from by subst hid;decide +kernel]
 subst hid
 refine aJ2 (wpAny_isInstance (T:="set") (b:=true) hT sub_set_self ?_)
 refine wpAny_ite_split (λc=>absurd c (by decide)) (λ_=>?_)
 refine wpAny_ite_split (λ_=>?_) (λc=>absurd (by decide +kernel) c)
 refine aJ2 (wpAny_typeOf hT ?_)
 exact aJ3 h
theorem awe{a:List Value}{b:Array Value}(h:ItemsOf (λi v=>a[i]?=some v) b a.length):b.toList=a:=by
 obtain⟨c,f⟩:=h
 refine List.ext_getElem (by simpa using c) λi a1 d=>?_
 have:=f i b.toList[i] (by rw[← aD6];exact aA0 a1)
 exact(aC6 ((aA0 d).symm.trans this)).symm
theorem a2q(hh:A.handled=none)(x:SetR prog w a es ep t s.heap)(hz:es.size<=sizeLine)(S:Addr)(G:S ≠ a)(res:Value)(B:Nat)(X:s.heap.get? S=some { cls:=.type "list",data:=.seq #[] B })
  (hR:∀ h' O d K c,(∀ b o,b ≠ S->s.heap.get? b=some o->h'.get? b=some o)->h'.get? S=some { cls:=.type "list",dict:=none,data:=.seq K c,slots:=#[] }->K.toList.Perm (es.toList.map (·.2))->R (.ok (.ret res)) { s with heap:=h',toks:=O,drawn:=d }) :
  wpAny (model prog w) A.in1 (Builtin.List.listExtendWith (.ref S) (.ref a) res)
   (λfin s'=>match fin with | .done f=>R (.ok f) s' | .again E=>E.quiet=true/\codeAny (model prog w) A E R s') (λe s'=>R (.error e) s') s:=by
 have J:∀(I:Addr)(fp:List Addr)(St:Nat->Heap->Prop)(g:List Value)(d:Drawn)(h:Heap)(p:Nat)(O:Nat),Walks prog w A.in1 I fp [I] es.size (λi v=>g[i]?=some v) St->S ∉ fp->s.heap.objs.size<=I->g.Perm (es.toList.map (·.2))->St 0 h->(∀ b o,b ≠ S->s.heap.get? b=some o->h.get? b=some o) ->
   h.get? S=some { cls:=.type "list",data:=.seq #[] p }->codeAny (model prog w) A (.builtin "list.extend.loop" ⟨[.ref S,.ref I,res],[]⟩) R { s with heap:=h,toks:=O,drawn:=d }:=by
  intro I fp St g d h p O W q N z Q H j
  refine codeAny_extend_loopS W.toS hz S q res es.size 0 _ #[] p rfl (aG0 _) Q j (ItemsOf.nil _) λs' M E hm P y=>?_
  have hl:es.size=g.length:=by rw[z.length_eq,aA3,aA8]
  rw[hl] at y
  rw[Moved.eq_with hm]
  refine hR s'.heap s'.toks d M E (λb o hb e=>hm.heap b o (λl=>?_) (H b o hb e)) P (by rw[awe y];exact z)
  rcases aA9.mp l with Z|l
  ·exact hb Z
  ·rw[aC2] at l
   subst l
   exact absurd (aJ5 e) (Nat.not_lt.mpr N)
 have n:=aJ5 X
 have C:a<s.heap.objs.size:=let ⟨_,e,_⟩:=x;aJ5 e
 unfold Builtin.List.listExtendWith
 refine aJ2 (wpAny_typeOf (T:="set") x.ty ?_)
 have Y:Builtin.List.listSameRef (.ref S) (.ref a)=false:=by simp[Builtin.List.listSameRef,G]
 have h2:(Value.type "set" == Value.type "list")=false:=by decide
 have h3:(Value.type "set" == Value.type "tuple")=false:=by decide
 simp only[Y,h2,h3,Bool.or_false,Bool.false_eq_true,if_false]
 have r:∀(U:Bool)(I:Addr)(fp:List Addr)(St:Nat->Heap->Prop)(g:List Value)(d:Drawn)(h:Heap),Walks prog w A.in1 I fp [I] es.size (λi v=>g[i]?=some v) St->S ∉ fp->s.heap.objs.size<=I->g.Perm (es.toList.map (·.2))->St 0 h->(∀ b o,s.heap.get? b=some o->h.get? b=some o)->
   wpAny (model prog w) A.in1 (holding [.ref I] (Builtin.List.listLengthHint (.ref a)) >>= λroom=>if (room || U)=true then (rule "list.extend.makes-room" >>= λ_=>Builtin.List.listTouch (.ref S) >>= λ_=>again (.builtin "list.extend.loop" ⟨[.ref S,.ref I,res],[]⟩)) else again (.builtin "list.extend.loop" ⟨[.ref S,.ref I,res],[]⟩)) (λfin s'=>match fin with | .done f=>R (.ok f) s' | .again E=>E.quiet=true/\codeAny (model prog w) A E R s') (λe s'=>R (.error e) s') { s with heap:=h,drawn:=d }:=by
  intro U I fp St g d h W q N z st H
  have j:=H _ _ X
  refine aJ2 (aJ8 (azt (s:={ s with heap:=h,drawn:=d }) (SetR.ty (s:={ s with heap:=h,drawn:=d }) (x.at λo e=>H a o e)) ?_))
  refine wpAny_ite_split (λ_=>?_) (λ_=>aJ3 ⟨plainId_quiet PySem.F.plain_extend_loop _,J I fp St g d h B _ W q N z st (λb o _ e=>H b o e) j⟩)
  refine aJ2 (wpAny_rule ?_)
  refine aJ2 ?_
  show wpAny _ _ (updateSeq S (·.push .none) >>= λ_=>updateSeq S (·.pop)) _ _ _
  refine aJ2 (wpAny_updateSeq j rfl ?_)
  have u:=aK8 (Obj.mapSeq (·.push Value.none)) j rfl
  refine wpAny_updateSeq (hz:=by seq_fits) u rfl ?_
  have D:=aK8 (Obj.mapSeq (·.pop)) u rfl
  refine aJ3 ⟨plainId_quiet PySem.F.plain_extend_loop _,J I fp St g d _ _ _ W q N z ?_ (λb o hb e=>?_) D⟩
  ·refine W.frame 0 _ _ st λb hb o e=>?_
   have L:b ≠ S:=λh=>q (h ▸ hb)
   exact(aK0 _ _ (Ne.symm L)).trans ((aK0 _ _ (Ne.symm L)).trans e)
  ·exact(aK0 _ _ (Ne.symm hb)).trans ((aK0 _ _ (Ne.symm hb)).trans (H b o e))
 refine aJ2 (azr x hz (λhd=>?_) λhd pl d z=>?_)
 ·exact r _ s.heap.objs.size _ _ ((ord w a es ep).map (·.2)) s.drawn _ (walks (A:=A.in1) (prog:=prog) (w:=w) (t:=t) (ep:=ep) hh (aB6 C) hd) (by simp only[aA9,aI3,or_false,not_or];exact⟨aB6 n,G⟩) (aA6 _) (ord_perm.map _)
   ⟨0,⟨_,aJ6 _ rfl,rfl,rfl⟩,x.at λo e=>aJ4 _ e,λ_=>rfl⟩ λb o e=>aJ4 _ e
 ·refine r _ (s.heap.objs.size+1) _ _ (ordD es pl) d _ (a2p (A:=A.in1) (prog:=prog) (w:=w) (t:=t) (ep:=ep) (tu:=s.heap.objs.size) hh (aB6 (aF8 C)) (aB6 (aI7 _)) z) (by simp only[aA9,aI3,or_false,not_or];exact⟨aB6 (aF8 n),G,aB6 n⟩) (Nat.le_succ _) (at7 z)
   ⟨⟨itO (.ref s.heap.objs.size) a es.size ep,?_,rfl,rfl⟩,x.at λo e=>aJ4 _ (aJ4 _ e),aJ4 _ (aJ6 _ rfl)⟩ λb o e=>aJ4 _ (aJ4 _ e)
  have:=aJ6 (s.heap.push (tuO pl)) (o:=itO (.ref s.heap.objs.size) a es.size ep) rfl
  rw[aK4] at this
  exact this
theorem ao4(hh:A.handled=none)(x:SetR prog w a es ep t s.heap)(hz:es.size<=sizeLine)
  (n:∀ h' j d (vs:List Value),(∀ b o,s.heap.get? b=some o->h'.get? b=some o)->s.heap.objs.size<=h'.objs.size->vs.Perm (es.toList.map (·.2))->Q vs { s with heap:=h',toks:=j,drawn:=d }):wpAny (model prog w) A (collect (.ref a)) Q E s:=by
 unfold collect
 refine aJ2 (wpAny_runValue (aK9 PySem.F.entry_proto_collect ?a1))
 case a1 =>
  rw[aK3 PySem.F.plain_proto_collect _];show wpAny _ A.in1 (newList [] >>= λl=>again (.builtin "list.__iadd__" ⟨[l,.ref a],[]⟩)) _ _ s
  refine aJ2 (aK2 (aJ3 ⟨plainId_quiet PySem.F.plain_list_iadd _,aK9 PySem.F.entry_list_iadd ?a2⟩))
  case a2 =>
   rw[aK3 PySem.F.plain_list_iadd _];show wpAny _ A.in1 (Builtin.List.listExtendWith (.ref s.heap.objs.size) (.ref a) (.ref s.heap.objs.size)) _ _ _
   have p:(s.heap.push { cls:=.type "list",data:=.seq ([]:List Value).toArray }).get? s.heap.objs.size=some { cls:=.type "list",data:=.seq #[] 0 }:=aJ6 _ rfl
   have g:a<s.heap.objs.size:=let ⟨_,e,_⟩:=x;aJ5 e
   refine a2q (R:=wants (λv s'=>wpAny (model prog w) A (match v with | .ref a=>(do match (← load a).data with | .seq xs _=>pure xs.toList|_=>unsupported "internal:collect")|_=>unsupported "internal:collect") Q E s') E) (s:={ s with heap:=s.heap.push { cls:=.type "list",data:=.seq ([]:List Value).toArray } }) hh (x.at λo e=>aJ4 _ e) hz s.heap.objs.size (Nat.ne_of_gt g) _ 0 p (λh' j d i c k h f=>?a3)
   case a3 =>
    show wpAny (model prog w) A _ Q E _
    refine aJ2 (wpAny_load h ?a4)
    case a4=>exact aJ3 (n h' j d i.toList (λb o e=>k b o (aB6 (aJ5 e)) (aJ4 _ e)) (aG5 (aJ5 h)) f)
end
end SS
namespace SH
open PySem PySem.W PyProof.Rows SS
section
def SetB(prog:Program)(w:World)(a:Addr)(bs:List Addr)(h:Heap):Prop:=∃ es ep t,SetR prog w a es ep t h/\(es.toList.map (·.2)).Perm (bs.map Value.ref)
theorem sorted_setT(hh:A.handled=none)(x:SetB prog w a bs s.heap)(hb:bs.length<=4000)
  (z:∀ vs:List Value,vs.Perm (bs.map Value.ref)->2<=vs.length->∀ h' f d,(∀ b o,s.heap.get? b=some o->h'.get? b=some o)->∃ κ S R,(∀(Q:SortKind->Shared->Prop),Q κ { s with heap:=h',toks:=f,drawn:=d }->wpAny (model prog w) A.in1.in1 (keyKind' vs.toArray) Q E { s with heap:=h',toks:=f,drawn:=d })/\TS.Cmp (model prog w) A.in1.in1 E { s with heap:=h',toks:=f,drawn:=d } κ S R/\(∀ v∈vs,S (v,v)) /\
   ∀(out:List Value) p c e,out.Perm vs->out.Pairwise (λx y=>R (y,y) (x,x)=false)->(∀ b o,s.heap.get? b=some o->c.get? b=some o)->s.heap.objs.size<=p->c.get? p=some (seqObj "list" out.toArray e)->Q (.ref p) { s with heap:=c,toks:=f,drawn:=d })
  (I:∀(vs:List Value) p c e f d,vs.Perm (bs.map Value.ref)->vs.length<2->(∀ b o,s.heap.get? b=some o->c.get? b=some o)->s.heap.objs.size<=p->c.get? p=some (seqObj "list" vs.toArray e)->Q (.ref p) { s with heap:=c,toks:=f,drawn:=d }) :
  wpAny (model prog w) A (call (.builtin "sorted") [.ref a]) Q E s:=by
 obtain⟨es,ep,t,x,G⟩:=x
 have hsz:es.size=bs.length:=by have:=G.length_eq;simpa using this
 have i:es.size<=sizeLine:=by rw[sizeLine_eq];lia
 refine Calls.call_function_entry kind_sorted plain_sorted entry_sorted (args_sorted1 _) ?_
 unfold Builtin.«sorted»
 refine aJ2 (m:=checkCount "sorted" 1 1 _) (aJ3 (aJ2 (ao4 (A:=A.in1) hh x i λg f d vs kp hs L=>?_)))
 have j:=L.trans G
 have r:vs.length=bs.length:=by rw[j.length_eq,aA3]
 have u:vs.length<=sizeLine:=by rw[r,sizeLine_eq];lia
 refine aJ2 (wpAny_newList ?_ u)
 have h:(g.push (seqObj "list" vs.toArray 0)).get? g.objs.size=some (seqObj "list" vs.toArray 0):=aJ6 _ rfl
 have keep:∀ b o,s.heap.get? b=some o->(g.push (seqObj "list" vs.toArray 0)).get? b=some o:=λb o e=>aJ4 _ (kp b o e)
 have fin:∀ out:List Value,(∀ b o,s.heap.get? b=some o->(sortedHeap (g.push (seqObj "list" vs.toArray 0)) g.objs.size vs out.toArray).get? b=some o):=λout b o q=>by
  have lt:=aJ5 (kp b o q)
  rw[sortedHeap_old (aB6 lt) (by rw[size_push'];exact aF8 lt)]
  exact keep b o q
 refine aJ2 (aJ8 (aK5 slot_list_sort ⟨_,h,rfl⟩ entry_list_sort ?body (args_list_sort _)))
 case body =>
  refine TS.list_sort_any (s:={ s with heap:=g.push (seqObj "list" vs.toArray 0),toks:=f,drawn:=d }) h u (λF h' J=>?_) λD=>?_
  ·obtain⟨κ,S,R,M,C,N,l⟩:=z vs j F h' f d λb o e=>J b o (aB6 (aJ5 (kp b o e))) (keep b o e)
   refine⟨κ,S,R,M,C,N,λout H K=>⟨_,rfl,aJ3 ⟨_,rfl,?_⟩⟩⟩
   obtain⟨e,B⟩:=sortedHeap_at (vs:=vs) (out:=out.toArray) (n:=0) h
   exact l out _ _ e H K (fin out) hs B
  ·refine⟨_,rfl,aJ3 ⟨_,rfl,?_⟩⟩
   obtain⟨e,B⟩:=sortedHeap_at (vs:=vs) (out:=vs.toArray) (n:=0) h
   exact I vs _ _ e f d j D (fin vs) hs B
end
end SH
namespace SS
open PySem PySem.W PyProof.Rows
section
end
end SS
namespace L2
open PySem PySem.W PyProof.Rows
section
theorem Inv.drawn'(I:Inv X pins σ H s)(d:Drawn):Inv X pins σ H { s with drawn:=d }:=⟨I.ok,I.os,I.bare,I.base,I.loc,I.cell,I.free,I.freeC,I.pin,I.hok,I.len⟩
end
end L2
namespace VL
open PySem PySem.Spec L2
section
end
end VL
namespace L2
open PySem PySem.W PyProof.Rows
def axm(P:Program)(w:World)(K:Frag):List V->Hp->VK->Prop:=λxs H Q=>∃(a:Addr)(ts:List Addr)(ps:List (List Int)),xs=[.ref a]/\SqL K H a (ts.map V.ref)/\ts.length=ps.length/\ps.length<=2030 /\
 (∀(i:Nat) t k,ts[i]?=some t->ps[i]?=some k->H t=some (.tup (k.map V.int))) /\
 ∀(bs:List Addr)(L:List (List Int))(p:Addr),bs.length=L.length->L.length<=ps.length->(∀(i:Nat) b k,bs[i]?=some b->L[i]?=some k->H b=some (.tup (k.map V.int)))->L.Nodup->(∀ x,x∈L ↔ x∈ps)->H p=none->Q (.ref p) (upd H p (.ext (SH.SetB P w p bs)))
def aqo(P:Program)(w:World):List V->Hp->VK->Prop:=λxs H Q=>∃(a:Addr)(bs:List Addr),xs=[.ref a]/\H a=some (.ext (SH.SetB P w a bs))/\bs.length<=4000/\(∀ b∈bs,TupI H (.ref b)) /\
 ∀(vs':List V)(p:Addr),vs'.Perm (bs.map V.ref)->vs'.Pairwise (λx y=>HT.lexLt (kH H y) (kH H x)=false)->H p=none->Q (.ref p) (upd H p (.lst vs'))
section
theorem an2:∀{its:List Value}{k:List Int},IntsAre its k->ItemsAre (intKind P w) k its
 |_,_,.nil=>.nil
 |_,_,.cons i tk h=>.cons (intKind_is _ _ _ _) (an2 h)
theorem axn(ok:HOk P w H h)(e:H t=some (.tup (k.map V.int))):(SH.TK P w).is h k t:=by
 obtain⟨_,its,d,o,a,b,n,c⟩:=(show ObjOk P w H h t (.tup (k.map V.int)) from ok t _ e)
 refine⟨o,its.toArray,n,a,b,c,?_⟩
 have hi:IntsAre its k:=by simpa using (ab1 d:IntsAre its.toArray.toList k)
 show ItemsAre (intKind P w) k its.toArray.toList
 rw[List.toList_toArray]
 exact an2 hi
theorem call_setT(hc:X.calm=true)(J:X.A.units+64<cLine):abi X (.type "set") (axm X.prog X.w X.K):=by
 intro pins s σ H xs us Q I r h
 obtain⟨a,c,ps,rfl,ha,hl,hz,Y,q⟩:=h
 obtain⟨u,rfl,S⟩:=adi r
 cases S
 obtain⟨its,T,p1,_⟩:=I.list ha
 have B:its.length=c.length:=by have:=T.length;rw[aA3] at this;lia
 have hsz:its.toArray.size=c.length:=by simp[B]
 have O:∀{i},i<c.length->c[i]?=some (c.getD i 0):=λ{i} hi=>by rw[aD4,aA0 hi];rfl
 have W:∀{i},i<c.length->ps[i]?=some (ps.getD i []):=λ{i} hi=>by rw[aD4,aA0 (show i<ps.length by lia)];rfl
 have G:∀ i,i<c.length->H (c.getD i 0)=some (.tup ((ps.getD i []).map V.int)):=λi hi=>Y i _ _ (O hi) (W hi)
 refine SH.call_setT (n:=0) (U:=λb=>b∈c) (items:=its.toArray) (val:=λi=>ps.getD i []) (tup:=λi=>c.getD i 0) (I.ok.hd hc) (by show X.A.units+1+1+1<cLine;lia) p1.isList (λi v F=>?_) (λi hi=>axn I.hok (G i (by lia))) (λi hi=>aA2 (O (by lia))) (λb hb=>?_) (by lia) λh' tk L hS nd nl hm kp=>?_
 ·have F:its[i]?=some v:=by simpa using F
  have hi:=(aA1.mp F).1
  have g:(c.map V.ref)[i]?=some (.ref (c.getD i 0)):=by rw[aA5,O (by lia)];rfl
  obtain⟨u,J,S⟩:=T.get g
  rw[F] at J
  cases J
  exact S
 ·obtain⟨i,hi⟩:=aD3 hb
  have l:=(aA1.mp hi).1
  have:=G i l
  rw[aD4,hi] at this
  exact ObjOk.lt (I.hok _ _ this)
 ·obtain⟨es,ep,t,ks,x,_,D⟩:=hS
  have f:∀(i:Nat)(e:Int × Value) k,es.toList[i]?=some e->ks[i]?=some k->∃ b,e.2=.ref b/\H b=some (.tup (k.map V.int)):=λi e k d E=>by
   obtain⟨b,g,N,e3⟩:=x.gd i e k d E
   refine⟨b,by rw[g],?_⟩
   obtain⟨j,p⟩:=aD3 e3
   have z:=(aA1.mp p).1
   have hb:=G j z
   rw[aD4,p] at hb
   have hb:H b=some (.tup ((ps.getD j []).map V.int)):=hb
   have h3:=axn (I.hok.kept kp) hb
   rw[(SH.TK X.prog X.w).inj N h3]
   exact hb
  have R:∃ bs:List Addr,es.toList.map (·.2)=bs.map Value.ref/\bs.length=ks.length/\∀(i:Nat) b k,bs[i]?=some b->ks[i]?=some k->H b=some (.tup (k.map V.int)):=by
   refine⟨es.toList.map λe=>match e.2 with | .ref b=>b|_=>0,?_,?_,λi b k d E=>?_⟩
   ·rw[aE0]
    refine aE9 λe C=>?_
    obtain⟨i,hi⟩:=aD3 C
    have l:i<ks.length:=by rw[x.len,← aA8];exact(aA1.mp hi).1
    obtain⟨b,g,_⟩:=f i e _ hi (aA0 l)
    simp only[Function.comp,g]
   ·rw[aA3,x.len,aA8]
   ·rw[aA5] at d
    cases C:es.toList[i]? with
    |none=>rw[C] at d;cases d
    | some e =>
     rw[C] at d
     obtain⟨b',g,N⟩:=f i e k C E
     rw[aI1,g] at d
     cases d
     exact N
  obtain⟨bs,b1,b2,Z⟩:=R
  have P:=I.hok.fresh (a:=s.heap.objs.size) (aA6 _)
  have M:SH.SetB X.prog X.w s.heap.objs.size bs h':=⟨es,ep,t,x.r,by rw[b1]⟩
  refine⟨.ref s.heap.objs.size,_,I.laid (t':=tk) (o:=.ext (SH.SetB X.prog X.w s.heap.objs.size bs)) kp (aA6 _) ⟨M,?_,λd E ⟨es,ep,t,y,r⟩ k=>⟨es,ep,t,y.at k,r⟩⟩,rfl,q bs ks _ b2 ?_ Z x.nd (λy=>?_) P⟩
  ·obtain⟨o,e,_⟩:=x.r
   exact⟨o,e⟩
  ·rw[D.length_eq];lia
  ·rw[D.mem_iff,hm]
   constructor
   ·rintro⟨j,p,e⟩
    rw[← e]
    exact aA2 (W (by lia))
   ·intro hy
    obtain⟨j,p⟩:=aD3 hy
    have z:=(aA1.mp p).1
    exact⟨j,by lia,by rw[aD4,p];rfl⟩
theorem ao5(hc:X.calm=true):abi X (.builtin "sorted") (aqo X.prog X.w):=by
 intro pins s σ H xs us Q I r h
 obtain⟨a,bs,rfl,ha,hz,hT,q⟩:=h
 obtain⟨u,rfl,Z⟩:=adi r
 cases Z
 obtain⟨hS,_,_⟩:=(show ObjOk X.prog X.w H s.heap a (.ext (SH.SetB X.prog X.w a bs)) from I.hok a _ ha)
 have f:∀{us:List Value},us.Perm (bs.map Value.ref)->∀ u∈us,∃ b,u=.ref b/\b∈bs:=λ{us} g u B=>by
  obtain⟨b,hb,rfl⟩:=aB7.mp (g.mem_iff.mp B)
  exact⟨b,rfl,hb⟩
 have l:∀{us:List Value},us.Perm (bs.map Value.ref)->Vals (us.map adj) us/\(∀ v∈us.map adj,TupI H v)/\(us.map adj).Perm (bs.map V.ref):=λ{us} g=>by
  refine⟨ag0 λu B=>let ⟨b,e,_⟩:=f g u B;⟨b,e⟩,λv C=>?_,?_⟩
  ·obtain⟨u,B,rfl⟩:=aB7.mp C
   obtain⟨b,rfl,hb⟩:=f g u B
   exact hT b hb
  ·have:=g.map adj
   rw[aE0] at this
   exact this
 have fin:∀(us out:List Value) p c e n d,us.Perm (bs.map Value.ref)->out.Perm us->(out.map adj).Pairwise (λx y=>HT.lexLt (kH H y) (kH H x)=false)->(∀ b o,s.heap.get? b=some o->c.get? b=some o)->s.heap.objs.size<=p->c.get? p=some (seqObj "list" out.toArray e)->EP X pins σ Q (.ref p) { s with heap:=c,toks:=n,drawn:=d }:=by
  intro us out p c e n d g z hs kp j A
  obtain⟨D,K,G⟩:=l (z.trans g)
  have M:out.length=bs.length:=by rw[(z.trans g).length_eq,aA3]
  have J:=I.laid (t':=n) (o:=.lst (out.map adj)) kp j (show ObjOk X.prog X.w _ c p (.lst (out.map adj)) from⟨by rw[aA3,M,sizeLine_eq];lia,out,e,D,by rw[A]⟩)
  exact⟨.ref p,_,J.drawn' d,rfl,q _ _ G hs (I.hok.fresh j)⟩
 refine SH.sorted_setT (I.ok.hd hc) hS hz (λvs g N h' n d kp=>?_) λvs p c e n d g F kp j A=>?_
 ·obtain⟨D,K,G⟩:=l g
  obtain⟨⟨fs,k1,k2,R⟩,Y⟩:=aig I kp D K
  have E:(Value.type "int" != Value.type "tuple")=true:=by rfl
  refine⟨tuples' true,TS.tS h' (λa=>kH H (.ref a)),TS.tR (λa=>kH H (.ref a)),λQ' P=>?_,TS.cmp_tups (s:={ s with heap:=h',toks:=n,drawn:=d }) (λa=>kH H (.ref a)),λv C=>?_,λout p c e z hs U j A=>fin vs out p c e n d g z ?_ U j A⟩
  ·refine PySem.W.kat_kind (T:=.type "int") (s:={ s with heap:=h',toks:=n,drawn:=d }) k1 (by lia) (λv C=>?_) (by rfl) ?_
   ·obtain⟨i,t,rfl⟩:=R v C
    exact .now
   ·rw[E];exact P
  ·obtain⟨a,e,O⟩:=Y v C
   exact⟨rfl,a,e,O⟩
  ·rw[aG1]
   refine aI0 ?_ hs
   intro x y S L hr
   obtain⟨ax,rfl,_⟩:=f (z.trans g) x S
   obtain⟨ay,rfl,_⟩:=f (z.trans g) y L
   exact hr
 ·exact fin vs vs p c e n d g (List.Perm.refl _) (ane (by rw[aA3];exact F)) kp j A
end
end L2
namespace VL
open PySem PySem.Spec L2
section
theorem ary(h:EvA B ta env λds e=>∃ ps:List (Int × Int),ds=[.list (ps.map prD)]/\ps.length<=2030/\∀ qs:List (Int × Int),qs.Nodup->(∀ x,x∈qs ↔ x∈ps)->lexS (qs.map p2)->QO (.own (OL (qs.map prD))) e):EvO B (tCB (aqo P w) (abe (tCB (axm P w K) ta) tNil)) env QO:=λσ G H F Q I k =>
 h σ G H F _ I λvs G1 f F1 ds e1 u g1 r1 z_=>by
  obtain⟨ps,ed,hl,q1⟩:=z_
  subst ed
  cases r1 with
  | cons r t =>
   cases t
   cases r with
   | @lst a us _ ha rs =>
    rw[← ajd] at rs
    obtain⟨t1,t2⟩:=afs u.gh rs axg
    have Z:us.length=ps.length:=by have:=congrArg List.length t2;simpa using this
    obtain⟨s,R⟩:∃ s:List Addr,us=s.map V.ref:=⟨us.map λv=>match v with | .ref b=>b|_=>0,by
     rw[aE0]
     conv=>lhs;rw[← List.map_id us]
     refine aE9 λv hv=>?_
     obtain⟨b,_,rfl,_⟩:=t1 v hv
     rfl⟩
    subst R
    have O:s.length=ps.length:=by simpa using Z
    have hk:∀(i:Nat) t q,s[i]?=some t->(ps.map p2)[i]?=some q->f t=some (.tup (q.map V.int)):=λi t q T W=>by
     have h3:(s.map V.ref)[i]?=some (.ref t):=by rw[aA5,T];rfl
     obtain⟨b,ns,e,hb,_⟩:=t1 _ (aA2 h3)
     cases e
     have h4:((s.map V.ref).map (kH f))[i]?=some (kH f (.ref t)):=by rw[aA5,h3];rfl
     rw[t2,W,ai4 hb] at h4
     cases h4
     exact hb
    refine⟨a,s,ps.map p2,rfl,SqL.of (u.gh _ _ ha),by rw[aA3];exact O,by rw[aA3];exact hl,hk,λbs L p a2 U a1 nd hm hf=>?_⟩
    rw[aA3] at U
    have J:=u.aside (p:=p) (o:=.ext (SH.SetB P w p bs)) (λ_ z=>nomatch z) (u.no_g hf) (λj z=>u.no_f hf j z) (u.no_b hf)
    have A:∀(i:Nat) b q,bs[i]?=some b->L[i]?=some q->upd f p (.ext (SH.SetB P w p bs)) b=some (.tup (q.map V.int)):=λi b q T W=>by
     have:=a1 i b q T W
     rw[aah (aau this hf)]
     exact this
    have n:∀ q∈L,∃ x∈ps,q=p2 x:=λq S=>by
     obtain⟨x,M,e⟩:=aB7.mp ((hm q).mp S)
     exact⟨x,M,e.symm⟩
    have D:∀ b∈bs,TupI (upd f p (.ext (SH.SetB P w p bs))) (.ref b):=λb hb=>by
     obtain⟨i,hi⟩:=aD3 hb
     have C:i<L.length:=by rw[← a2];exact(aA1.mp hi).1
     refine⟨b,L[i],rfl,A i b _ hi (aA0 C),?_⟩
     obtain⟨x,_,e⟩:=n _ (aF2 C)
     rw[e]
     simp
    have a3:(bs.map V.ref).map (kH (upd f p (.ext (SH.SetB P w p bs))))=L:=by
     refine aG2 λi=>?_
     rw[aA5,aA5]
     by_cases hi:i<bs.length
     ·rw[aA0 hi,aA0 (show i<L.length by lia),aI1,aI1,ai4 (A i _ _ (aA0 hi) (aA0 (by lia)))]
     ·rw[aE3 (by lia),aE3 (show L.length<=i by lia)]
      rfl
    refine⟨p,bs,rfl,aam,by lia,D,λws p' hp hs X=>?_⟩
    have tw:∀ v∈ws,TupI (upd f p (.ext (SH.SetB P w p bs))) v:=λv hv=>by
     obtain⟨b,hb,rfl⟩:=aB7.mp (hp.mem_iff.mp hv)
     exact D b hb
    have o:=Out.newL J.gh X (ail J.ft tw)
    have g:(ws.map (kH (upd f p (.ext (SH.SetB P w p bs))))).Perm L:=by
     have:=hp.map (kH (upd f p (.ext (SH.SetB P w p bs))))
     rw[a3] at this
     exact this
    obtain⟨qs,E⟩:∃ qs:List (Int × Int),ws.map (kH (upd f p (.ext (SH.SetB P w p bs))))=qs.map p2:=⟨(ws.map (kH (upd f p (.ext (SH.SetB P w p bs))))).map λl=>(l.getD 0 0,l.getD 1 0),by
     rw[aE0]
     conv=>lhs;rw[← List.map_id (ws.map (kH (upd f p (.ext (SH.SetB P w p bs)))))]
     refine aE9 λq S=>?_
     obtain⟨x,_,rfl⟩:=n q (g.mem_iff.mp S)
     rfl⟩
    rw[E] at g o
    rw[ajd] at o
    have N:∀ x y:Int × Int,p2 x=p2 y->x=y:=λx y e=>by
     obtain⟨a,b⟩:=x
     obtain⟨c,d⟩:=y
     simp[p2] at e
     rw[e.1,e.2]
    refine k _ _ _ F1 _ _ e1 (J.out o).1 (g1.trans o.gg) (J.out o).2 (q1 qs ?_ (λx=>?_) ?_)
    ·have:=g.nodup_iff.mpr nd
     rw[List.Nodup,aG1] at this
     exact this.imp λ{x y} h e=>h (by rw[e])
    ·constructor
     ·intro M
      obtain⟨y,Y,e⟩:=n _ (g.mem_iff.mp (List.mem_map_of_mem M))
      rw[N x y e]
      exact Y
     ·intro M
      obtain⟨y,Y,e⟩:=aB7.mp (g.mem_iff.mpr ((hm (p2 x)).mpr (List.mem_map_of_mem M)))
      rw[← N y x e]
      exact Y
    ·rw[← E]
     unfold lexS
     rw[aG1]
     exact hs
end
end VL
namespace PopT
open PySem PyProof.Rows
section
variable{prog:Program}{w:World}{K:Type} [DecidableEq K] {knd:HeapKind prog w K} {A:Around} {E:Value->Shared->Prop} {s:Shared}
end
end PopT
namespace L2
open PySem PySem.Spec PySem.W PyProof.Rows
section
end
section
end
end L2
namespace DNe
open PySem PyProof.Rows
end DNe
namespace L2
open PySem PySem.Spec PySem.W PyProof.Rows
end L2
namespace DictL
open PySem PyProof.Rows
section
variable{prog:Program}{w:World}{A:Around}{R:Result->Shared->Prop}{I:Addr}{fp wr:List Addr}{n:Nat}{P:Nat->Value->Prop}{St:Nat->Heap->Prop}{K:Type} [DecidableEq K] {knd:KeyKind prog w K}
end
section
end
section
variable{prog:Program}{w:World}{A:Around}{E:Value->Shared->Prop}{s:Shared}{K:Type} [DecidableEq K] {knd:KeyKind prog w K}
end
end DictL
namespace DNe
open PySem PyProof.Rows
section
end
end DNe
namespace L2
open PySem PySem.Spec PySem.W PyProof.Rows
end L2
namespace VL
open PySem PySem.Spec L2
section
end
end VL
namespace L2
open PySem PySem.W PyProof.Rows
section
variable{K:Type} [DecidableEq K]
end
section
end
end L2
namespace VL
open PySem PySem.Spec L2
section
end
end VL
namespace L2
open PySem PySem.W PyProof.Rows
section
end
section
end
end L2
namespace VL
open PySem PySem.Spec L2
section
def a4d(es:List (Int × List PyData))(k:Int):List PyData:=((es.find? λp=>decide (p.1=k)).map (·.2)).getD []
end
section
end
theorem afn{α:Type}{K:Frag}{src:List (Option Nat)}{a:En}{te:TE}{c:TT}{R:List PyData->En->Prop}{xs:List α}{f : α->PyData}(g : α->PyData)(p : α->Bool)(n:noIo (aaq src a)=true)(J:xs.length<=999999)
  (h:∀ x∈xs,∀ j:Bs,j.K=K->EvT j c (some (.st (f x))::aaq src a) λb q=>b=p x/\q=some (.st (f x))::aaq src a/\(b=true->Ev j te (some (.st (f x))::aaq src a) λy t=>y=g x/\t=some (.st (f x))::aaq src a))
  (D:R ((xs.filter p).map g) a):LcV K (none::src) (aa0 0) c te (xs.map f) a R:=by
 have l:noIo (aaq (none::src) a)=true:=by
  show((none::aaq src a).all λs=>!isIo s)=true
  rw[List.all_cons]
  exact(aH1 _ _).mpr ⟨rfl,n⟩
 refine⟨λi ys e=>ys=((xs.take i).filter p).map g/\∃ o,e=stO o::aaq src a,⟨by simp,none,rfl⟩,?_,?_,?_⟩
 ·rintro i ys e ⟨_,o,rfl⟩
  exact⟨⟨isIo_stO.symm,ady⟩,aem aeg⟩
 ·rintro i d ys e hd ⟨rfl,o,rfl⟩ j B
  rw[aA5] at hd
  cases hx:xs[i]? with
  |none=>rw[hx] at hd;cases hd
  |some x =>
  rw[hx] at hd
  cases hd
  have hi:i<xs.length:=(aA1.mp hx).1
  have w:xs.take (i+1)=xs.take i++[x]:=by rw[aH4,hx];rfl
  refine aa4 ?_
  show EvT j c (some (.st (f x))::aaq src a) _
  intro σ G H F Q I k
  refine h x (aA2 hx) j B σ G H F Q I λb G' H' F' q r g' ⟨hb,A,E⟩=>k b G' H' F' q r g' ?_
  subst A
  by_cases hp:b=true
  ·rw[aF5 hp]
   intro σ G H F Q I k
   refine E hp σ G H F Q I λv G' H' F' d' t r g' C ⟨z,u⟩=>k v G' H' F' d' t r g' C ?_
   subst z u
   refine⟨?_,?_,some _,rfl⟩
   ·have:=aF3 p (xs.take i)
    simp only[aA3]
    have L:(xs.take i).length<=i:=by simp;lia
    lia
   ·rw[w,List.filter_append,aE5]
    have:p x=true:=by rw[← hb];exact hp
    simp[this]
  ·rw[aF6 hp]
   refine⟨?_,some _,rfl⟩
   rw[w,List.filter_append,aE5]
   have:p x=false:=by rw[← hb];simpa using hp
   simp[this]
 ·rintro ys e ⟨rfl,o,rfl⟩
  rw[ahv l,aA3,aG8]
  exact D
section
theorem awf(h:Ev B t env λd r=>EvO B n r λs i=>∃ ds,s=.own (OL ds)/\QO (.own (OW d ds)) i):EvO B (tTup (abe t (abe n tNil))) env QO:=λσ G H F Q I k =>
 h σ G H F _ I λv M L K d r E y C D=>D σ M L K _ E λw u H2 F2 Fv s i f j x A=>by
  obtain⟨ds,es,q⟩:=A
  subst es
  obtain⟨l,vs,rfl,g,rs,hf⟩:=x.ok
  refine⟨show(2:Nat)<=sizeLine by rw[sizeLine_eq];decide,λp c=>?_⟩
  have pl:p ≠ l:=(aau g c).symm
  have J:VI B u (upd H2 p (.tup [v,.ref l])) σ i F2:=f.grow (Same.refl _) (f.gh.trans (ab6 c)) (ab6 c) (λa o e=>.inl e) λa ks e=>by
   by_cases z:a=p
   ·subst z;rw[aam] at e;exact absurd (aC6 e) ann
   ·rw[aah z] at e;exact f.ft a ks e
  refine k _ u _ _ (λa=>a=p\/a=l) (.own (OW d ds)) _ J (y.trans j) ⟨⟨p,l,v,vs,rfl,aam,C.same j,by rw[aah pl.symm];exact g,rs,λb=>Iff.rfl⟩,λa z=>?_,λa z=>?_,λa z=>?_,λm a z=>?_⟩ q
  ·rcases z with rfl|rfl
   ·exact f.no_b c
   ·exact x.fb a ((hf a).mpr rfl)
  ·rcases z with rfl|rfl
   ·exact f.no_g c
   ·exact x.fg a ((hf a).mpr rfl)
  ·rcases z with rfl|rfl
   ·exact⟨_,aam⟩
   ·exact⟨_,by rw[aah pl.symm];exact g⟩
  ·rcases z with rfl|rfl
   ·exact f.no_f c m
   ·exact x.fd m a ((hf a).mpr rfl)
end
end VL
namespace L2
open PySem PySem.W PyProof.Rows
section
end
end L2
namespace VL
open PySem PySem.Spec L2
section
end
theorem arz{α β:Type}{K K1 K2:Frag}{src:List (Option Nat)}{c:En}{w:TI}{l:TT}{te:TE}{R:List PyData->Prop}{xs:List α}{fa fb : α->PyData}(g : α->List β)(s fd : α->β->PyData)(f : α->β->PyData)(q : α->β->Bool)(T:ae5 (aaq src c))
  (hl:(xs.flatMap λx=>((g x).filter (q x)).map (f x)).length<=999999)
  (h1:∀ x∈xs,∀ r:Bs,r.K=K->∀ o o',EvI r w (some (.st (fa x))::some (.st (fb x))::stO o::stO o'::aaq src c) λt D=>t=(g x).map (λy=>.tuple [s x y,fd x y])/\D=some (.st (fa x))::some (.st (fb x))::stO o::stO o'::aaq src c)
  (h2:∀ x∈xs,∀ y∈g x,∀ r:Bs,r.K=K->EvT r l (some (.st (fa x))::some (.st (fb x))::some (.st (s x y))::some (.st (fd x y))::aaq src c) λb Z=>b=q x y/\Z=some (.st (fa x))::some (.st (fb x))::some (.st (s x y))::some (.st (fd x y))::aaq src c/\(b=true->Ev r te (some (.st (fa x))::some (.st (fb x))::some (.st (s x y))::some (.st (fd x y))::aaq src c) λz e7=>z=f x y/\e7=some (.st (fa x))::some (.st (fb x))::some (.st (s x y))::some (.st (fd x y))::aaq src c))
  (hR:R (xs.flatMap λx=>((g x).filter (q x)).map (f x))):LcV2 K (none::none::none::none::src) (gTup K1 2 (abz (aa0 0) (abz (aa0 1) gNil))) tYes w (gTup K2 2 (abz (aa0 2) (abz (aa0 3) gNil))) l te (xs.map λx=>.tuple [fa x,fb x]) c R:=by
 refine⟨λi ys e=>ys=(xs.take i).flatMap (λx=>((g x).filter (q x)).map (f x))/\∃ o o' p a,e=stO o::stO o'::stO p::stO a::aaq src c,⟨by simp,none,none,none,none,rfl⟩,?_,?_,?_⟩
 ·rintro i ys e ⟨_,o,o',p,a,rfl⟩
  exact ab5 (ab5 (ab5 (ab5 T)))
 ·rintro i d ys e hd ⟨rfl,o,o',p,a,rfl⟩ r hB
  rw[aA5] at hd
  cases hx:xs[i]? with
  |none=>rw[hx] at hd;cases hd
  | some x =>
   rw[hx] at hd
   cases hd
   have B:=aA2 hx
   have U:xs.take (i+1)=xs.take i++[x]:=by rw[aH4,hx];rfl
   have P:((xs.take (i+1)).flatMap (λx=>((g x).filter (q x)).map (f x))).length<=999999:=by
    refine aD0 ?_ hl
    conv=>rhs;rw[← aC1 (i+1) xs,List.flatMap_append,aB1]
    exact Nat.le_add_right _ _
   refine ahr rfl (ade (aa4 (ade (aa4 (agc (aew ?_))))))
   rw[aF5 rfl]
   show EvI r w (some (.st (fa x))::some (.st (fb x))::stO p::stO a::aaq src c) _
   intro σ G H F Q I k
   refine h1 x B r hB p a σ G H F Q I λJ G' H' F' t D C g' S ⟨N,u⟩=>k J G' H' F' t D C g' S ?_
   subst N u
   refine⟨λj n e=>n=(xs.take i).flatMap (λx=>((g x).filter (q x)).map (f x))++(((g x).take j).filter (q x)).map (f x)/\∃ p a,e=some (.st (fa x))::some (.st (fb x))::stO p::stO a::aaq src c,⟨by simp,p,a,rfl⟩,?_,?_,?_⟩
   ·rintro j n e ⟨_,p,a,rfl⟩
    exact ab5 (o:=some (fa x)) (ab5 (o:=some (fb x)) (ab5 (ab5 T)))
   ·rintro j d2 n e h ⟨rfl,p,a,rfl⟩ W E
    rw[aA5] at h
    cases hy:(g x)[j]? with
    |none=>rw[hy] at h;cases h
    | some y =>
     rw[hy] at h
     cases h
     have A:(g x).take (j+1)=(g x).take j++[y]:=by rw[aH4,hy];rfl
     refine ahr rfl (ade (aa4 (ade (aa4 (agc ?_)))))
     show EvT W l (some (.st (fa x))::some (.st (fb x))::some (.st (s x y))::some (.st (fd x y))::aaq src c) _
     intro σ G H F Q I k
     refine h2 x B y (aA2 hy) W E σ G H F Q I λb G' H' F' e3 C g' ⟨hb,he,Y⟩=>k b G' H' F' e3 C g' ?_
     subst he
     by_cases hp:b=true
     ·rw[aF5 hp]
      intro σ G H F Q I k
      refine Y hp σ G H F Q I λv G' H' F' d' D C g' X ⟨O,u⟩=>k v G' H' F' d' D C g' X ?_
      subst O u
      have L:q x y=true:=by rw[← hb];exact hp
      refine⟨?_,?_,some (s x y),some (fd x y),rfl⟩
      ·refine aD0 ?_ P
       rw[U,List.flatMap_append,aB1,aB1]
       refine Nat.add_le_add_left ?_ _
       simp only[List.flatMap_cons,List.flatMap_nil,aF0,aA3]
       exact(List.Sublist.filter (q x) (List.take_sublist j (g x))).length_le
      ·rw[A,List.filter_append,aE5,← aB4]
       simp[L]
     ·rw[aF6 hp]
      have M:q x y=false:=by rw[← hb];simpa using hp
      refine⟨?_,some (s x y),some (fd x y),rfl⟩
      rw[A,List.filter_append,aE5]
      simp[M]
   ·rintro n e ⟨rfl,p,a,rfl⟩
    refine⟨?_,some (fa x),some (fb x),p,a,rfl⟩
    rw[U,List.flatMap_append]
    simp
 ·rintro ys e ⟨rfl,o,o',p,a,rfl⟩
  rw[aA3,aG8]
  exact hR
end VL
namespace VL
open PySem L2
theorem ain(h:Conn n (Tied es)):∃ fs:List (Int × Int),fs.Nodup/\(∀ p∈fs,p∈es)/\(fs.length:Int)=(n-1).toNat:=by
 have b:∀ i:Nat,∃ p:Int × Int,(i:Int)+1<n->p∈es/\∃(u:Int)(d:Nat),(p=(u,(i:Int)+1)\/p=((i:Int)+1,u))/\Gr.Dist (Tied es) 0 u d/\Gr.Dist (Tied es) 0 ((i:Int)+1) (d+1):=by
  intro i
  by_cases hi:(i:Int)+1<n
  ·obtain⟨k,w⟩:=h 0 ((i:Int)+1) (by lia) (by lia) (by lia) hi
   obtain⟨d,_,hd⟩:=Gr.Dist.of_walk w
   cases d with
   | zero =>
    have hz:=hd.1
    generalize s:(i:Int)+1=v at hz
    cases hz
    lia
   | succ d =>
    obtain⟨u,o,r⟩:=hd.pred
    rcases o with o|o
    ·exact⟨_,λ_=>⟨o,u,d,.inl rfl,r,hd⟩⟩
    ·exact⟨_,λ_=>⟨o,u,d,.inr rfl,r,hd⟩⟩
  ·exact⟨(0,0),λq=>absurd q hi⟩
 obtain⟨f,hf⟩:∃ f:Nat->Int × Int,∀ i:Nat,(i:Int)+1<n->f i∈es/\∃(u:Int)(d:Nat),(f i=(u,(i:Int)+1)\/f i=((i:Int)+1,u))/\Gr.Dist (Tied es) 0 u d/\Gr.Dist (Tied es) 0 ((i:Int)+1) (d+1):=⟨λi=>Classical.choose (b i),λi=>Classical.choose_spec (b i)⟩
 refine⟨(List.range (n-1).toNat).map f,?_,λp y=>?_,by simp⟩
 ·unfold List.Nodup
  rw[aG1]
  refine aI0 ?_ List.nodup_range
  intro i j hi z t e
  have A:=aB9.mp hi
  have x:=aB9.mp z
  obtain⟨_,u,d,a,r,hd⟩:=hf i (by lia)
  obtain⟨_,v,c,g,s,B⟩:=hf j (by lia)
  rw[e] at a
  have l:u=(j:Int)+1/\v=(i:Int)+1:=by
   rcases a with a|a <;> rcases g with g|g <;> rw[a] at g <;> simp only[Prod.mk.injEq] at g <;> lia
  rw[l.1] at r
  rw[l.2] at s
  have:=r.uniq B
  have:=s.uniq hd
  lia
 ·obtain⟨i,hi,rfl⟩:=aB7.mp y
  exact(hf i (by have:=aB9.mp hi;lia)).1
def aat(es:List (Int × Int))(t:Int × Int):List (Int × Int):=es.filter λp=>!decide (p=t)
theorem lessE_mem:p∈aat es t ↔ p∈es/\p ≠ t:=by simp[aat]
theorem ag6(h:(a,b)∈es)(x y:Int):Tied es x y ↔ Tied (aat es (a,b)) x y\/(x=a/\y=b)\/(x=b/\y=a):=by
 unfold Tied
 rw[lessE_mem,lessE_mem]
 constructor
 ·rintro(q|q)
  ·by_cases e:(x,y)=(a,b)
   ·exact .inr (.inl (by simpa using e))
   ·exact .inl (.inl ⟨q,e⟩)
  ·by_cases e:(y,x)=(a,b)
   ·simp only[Prod.mk.injEq] at e
    exact .inr (.inr ⟨e.2,e.1⟩)
   ·exact .inl (.inr ⟨q,e⟩)
 ·rintro((q|q)|⟨rfl,rfl⟩|⟨rfl,rfl⟩)
  ·exact .inl q.1
  ·exact .inr q.1
  ·exact .inl h
  ·exact .inr h
theorem aev(hn:1<=n)(r:(es.length:Int)=n-1)(o:Conn n (Tied es))(h:(a,b)∈es)(k:Nat):¬ Gr.Walk (Tied (aat es (a,b))) a k b:=λg=>by
 have hs:∀ u v,Tied (aat es (a,b)) u v->Tied (aat es (a,b)) v u:=λ_ _ t=>t.symm
 have d:Conn n (Tied (aat es (a,b))):=λu v i l v0 f=>by
  obtain⟨j,w⟩:=o u v i l v0 f
  clear v0 f
  induction w with
  |refl=>exact⟨0,.refl⟩
  | step _ t ih =>
   obtain⟨m,w⟩:=ih
   rcases(ag6 h _ _).mp t with t|⟨rfl,rfl⟩|⟨rfl,rfl⟩
   ·exact⟨_,.step w t⟩
   ·exact⟨_,w.app g⟩
   ·exact⟨_,w.app (g.rev hs)⟩
 obtain⟨fs,nd,sub,len⟩:=ain d
 have:=aE8 (l₁:=(a,b)::fs) (l₂:=es) (aI4.mpr ⟨λq=>(lessE_mem.mp (sub _ q)).2 rfl,nd⟩) λp c=>by
  rcases aA9.mp c with rfl|c
  ·exact h
  ·exact(lessE_mem.mp (sub _ c)).1
 simp only[aE6] at this
 lia
section
theorem ak7(hs:∀ u v,T' u v->T' v u)(hT:∀ x y,T x y ↔ T' x y\/(x=a/\y=b)\/(x=b/\y=a))(hn:∀ k,¬ Gr.Walk T' a k b)(d:Gr.Walk T' a i u)(w:Gr.Walk T u k v):((∃ j,Gr.Walk T' a j v)->∃ m,m<=k/\Gr.Walk T' u m v)/\((¬ ∃ j,Gr.Walk T' a j v)->∃ m,m+1<=k/\Gr.Walk T' u m a):=by
 induction w with
 |refl=>exact⟨λ_=>⟨0,aA6 _,.refl⟩,λh=>absurd ⟨i,d⟩ h⟩
 | @step k x y _ t ih =>
  rcases(hT _ _).mp t with t|⟨rfl,rfl⟩|⟨rfl,rfl⟩
  ·constructor
   ·rintro⟨j,c⟩
    obtain⟨m,hm,q⟩:=ih.1 ⟨_,c.step (hs _ _ t)⟩
    exact⟨m+1,by lia,q.step t⟩
   ·intro c
    obtain⟨m,hm,q⟩:=ih.2 λ⟨j,f⟩=>c ⟨_,f.step t⟩
    exact⟨m,by lia,q⟩
  ·refine⟨λ⟨j,c⟩=>absurd c (hn j),λ_=>?_⟩
   obtain⟨m,hm,q⟩:=ih.1 ⟨0,.refl⟩
   exact⟨m,by lia,q⟩
  ·refine⟨λ_=>?_,λc=>absurd ⟨0,.refl⟩ c⟩
   obtain⟨m,hm,q⟩:=ih.2 λ⟨j,c⟩=>hn j c
   exact⟨m,by lia,q⟩
theorem ag7(hs:∀ u v,T' u v->T' v u)(hT:∀ x y,T x y ↔ T' x y\/(x=a/\y=b)\/(x=b/\y=a))(hn:∀ k,¬ Gr.Walk T' a k b)(g:Gr.Walk T' a i u)(c:Gr.Walk T' a j v)(h:Gr.Dist T u v d):Gr.Dist T' u v d:=by
 have up:∀{k:Nat}{y:Int},Gr.Walk T' u k y->Gr.Walk T u k y:=λw=>w.rec .refl λ_ t f=>.step f ((hT _ _).mpr (.inl t))
 obtain⟨m,hm,q⟩:=(ak7 hs hT hn g h.1).1 ⟨j,c⟩
 have:m=d:=Nat.le_antisymm hm (h.2 m (up q))
 subst this
 exact⟨q,λk w=>h.2 k (up w)⟩
theorem adf(hs:∀ u v,T' u v->T' v u)(hT:∀ x y,T x y ↔ T' x y\/(x=a/\y=b)\/(x=b/\y=a))(hn:∀ k,¬ Gr.Walk T' a k b)(g:Gr.Walk T' a i u)(ha:Gr.Dist T u a d)(hb:Gr.Dist T u b e):d<e:=by
 have up:∀{k:Nat}{y:Int},Gr.Walk T' u k y->Gr.Walk T u k y:=λw=>w.rec .refl λ_ t f=>.step f ((hT _ _).mpr (.inl t))
 obtain⟨m,hm,q⟩:=(ak7 hs hT hn g hb.1).2 λ⟨j,c⟩=>hn j c
 have:=ha.2 m (up q)
 lia
theorem ag8(hT:∀ x y,T x y ↔ T' x y\/(x=a/\y=b)\/(x=b/\y=a))(w:Gr.Walk T a k u):(∃ i,Gr.Walk T' a i u)\/∃ i,Gr.Walk T' b i u:=by
 induction w with
 |refl=>exact .inl ⟨0,.refl⟩
 | step _ t ih =>
  rcases(hT _ _).mp t with t|⟨rfl,rfl⟩|⟨rfl,rfl⟩
  ·rcases ih with ⟨i,q⟩|⟨i,q⟩
   ·exact .inl ⟨_,q.step t⟩
   ·exact .inr ⟨_,q.step t⟩
  ·exact .inr ⟨0,.refl⟩
  ·exact .inl ⟨0,.refl⟩
end
structure WayTo(T:Int->Int->Prop)(a b:Int)(d:Nat)(ws:List Int):Prop where
 len:ws.length=d+1
 fst:ws[0]?=some a
 far:∀(i:Nat) x,ws[i]?=some x->Gr.Dist T b x (d-i)
 tie:∀(i:Nat) x y,ws[i]?=some x->ws[i+1]?=some y->T x y
theorem WayTo.walk(h:WayTo T a b d c):∀(j:Nat) x,c[j]?=some x->Gr.Walk T a j x
 |0,x,e=>by rw[h.fst] at e;cases e;exact .refl
 | j+1,x,e=>by
  have g:=(aA1.mp e).1
  obtain⟨y,f⟩:∃ y,c[j]?=some y:=⟨_,aA0 (by lia)⟩
  exact .step (h.walk j y f) (h.tie j y x f e)
end VL
namespace VL
open PySem PySem.Spec L2
section
end
end VL
namespace HT
open PySem PySem.Spec PySem.Calls PyProof.Rows PySem.W
section
theorem unpack_star(v:s.heap.IsList l items)(hh:A.handled=none)(hi:i<=items.size)(hz:items.size<=sizeLine)
  (h:∀ h' B,Heap.ExtBut s.heap.objs.size s.heap h'->Q (items.toList.take i++[.ref h'.objs.size]) { s with heap:=h'.push { cls:=.type "list",data:=.seq (items.toList.drop i).toArray },toks:=B }):wpAny (model prog w) A (unpackItems (.ref l) (i+1) (some i)) Q E s:=by
 have r:l ≠ s.heap.objs.size:=by obtain⟨o,G,_⟩:=v;exact aB6 (aJ5 G)
 unfold unpackItems
 refine aJ2 ?_
 unfold notIterableAtAll
 refine aJ2 (wpAny_specialOf v.typeIs slot_list_iter.lookup ?_)
 refine aJ3 ?_
 simp only[Bool.false_eq_true,if_false]
 refine aJ2 (aJ8 (aK7 v ?_))
 refine aJ2 (aJ8 (kun_draw r i 0 _ _ ⟨_,aJ6 _ rfl,rfl,rfl⟩ (v.push _) (by lia) λq a f=>?_))
 have g:q.IsList l items:=(v.push _).extBut f.extBut r
 rw[Nat.zero_add] at a
 have c:=a
 obtain⟨H,C,_⟩:=c
 have n:=g
 obtain⟨I,z,_⟩:=n
 rw[List.drop_zero]
 have y:(items.toList.take i).length=i:=by rw[aH0,aA8];lia
 rw[aF6 (show ¬ ((items.toList.take i).length<i) by rw[y];lia)]
 refine aJ2 (aJ8 (kun_collect (s:={ s with heap:=q }) (T:="list_iterator") (.inr (.inr (.inl rfl))) (Walks.list (A:=A.in1) hh s.heap.objs.size l r items) (λj u st=>st.1.typeIs) (k:=i) (by lia) ⟨a,g⟩ (aJ5 C) (aJ5 z) (λp B F=>?_) hz))
 have x:(items.toList.drop i).length=items.size-i:=by rw[aI9,aA8]
 have t:(items.toList.drop i).length-(i+1-1-i)=(items.toList.drop i).length:=by lia
 show wpAny _ _ (if (items.toList.drop i).length<i+1-1-i then _ else _) _ _ _
 rw[aF6 (by lia)]
 show wpAny _ _ (newList ((items.toList.drop i).take ((items.toList.drop i).length-(i+1-1-i))) >>= λd=>pure (items.toList.take i++[d]++(items.toList.drop i).drop ((items.toList.drop i).length-(i+1-1-i)))) _ _ _
 rw[t,aG8,List.drop_length]
 have D:Heap.ExtBut s.heap.objs.size s.heap p:=λb o hb e=>F b o hb (f.extBut b o hb (aJ4 _ e))
 refine aJ2 (wpAny_newList ?_ (by rw[x];lia))
 refine aJ3 ?_
 rw[aF0]
 exact h p B D
end
end HT
namespace L2
open PySem PySem.Spec PyProof.Rows
section
def axo(K:Frag)(g1 g2:TG):TG:=λv σ H Q=>∃ a x xs,v=.ref a/\SqL K H a (x::xs)/\∀ p,H p=none->g1 x σ (upd H p (.lst xs)) λσ1 H1=>g2 (.ref p) σ1 H1 Q
theorem azu(L:X.calm=true)(y:PG X c p)(C:PG X d n)
  (hn:(assignEach [c,.Starred d sp] X.env).length=1+1:=by rfl) (j:(assignEach [c,.Starred d sp] X.env).findIdx? (·.1)=some 1:=by rfl) (hm:(assignEach [c,.Starred d sp] X.env).map (·.2)=[assign c X.env,assign d X.env]:=by rfl) :
  PG X (.Tuple [c,.Starred d sp] k pos) (axo X.K p n):=by
 intro pins s σ H v u Q I r l
 obtain⟨a,x,xs,N,E,l⟩:=l
 subst N
 cases r
 obtain⟨its,A,D,hz⟩:=I.list E
 cases A with
 | @cons _ v0 _ vr r0 rr =>
  rw[assign_Tuple]
  refine aJ2 (wpAny_standAt ?_)
  unfold unpack
  rw[hn,j,hm]
  have w:=rr.length
  have f:(v0::vr).length<=sizeLine:=by simp at hz ⊢;lia
  refine aJ2 (aJ8 (HT.unpack_star D.isList (I.ok.hd L) (by simp) (by simpa using f) λh' h G=>?_))
  have q:Inv X pins σ H { s with heap:=h',toks:=h }:=I.kept (t':=h) λb o e=>G b o (aB6 (aJ5 e)) e
  have hf:H h'.objs.size=none:=q.hok.fresh (aA6 _)
  have M:=q.laid (t':=h) (o:=.lst xs) (h':=h'.push { cls:=.type "list",data:=.seq vr.toArray }) (λb u e=>aJ4 _ e) (aA6 h'.objs.size) ⟨by simp at f;lia,vr,0,rr,aJ6 _ rfl⟩
  show wpAny _ _ (assignInOrder [assign c X.env,assign d X.env] [v0,.ref h'.objs.size]) _ _ _
  refine assignInOrder_cons (thn (y pins _ σ _ _ _ _ M r0 (l _ hf)) λ_ s1 ⟨i,J,z,t⟩=>?_)
  refine assignInOrder_cons (thn (C pins s1 i J _ _ _ z (show RelV (.ref h'.objs.size) (.ref h'.objs.size) from rfl) t) λ_ s2 ⟨g,H2,F,B⟩=>?_)
  exact assignInOrder_nil ⟨g,H2,F,B⟩
end
end L2
namespace VL
open PySem PySem.Spec L2
section
theorem awg(h:EvG B c (.own (OL ds)) (env.set i (some (.st d))) QE):EvG B (axo K (aa0 i) c) (.st (.list (d::ds))) env QE:=λσ G H F v Fv Q I x k=>by
 obtain⟨r,_⟩:=x.ok
 cases r with
 | lst ha rs =>
  cases rs with
  | cons r0 rr =>
   refine⟨_,_,_,rfl,SqL.of (I.gh _ _ ha),λp g=>?_⟩
   have o:=Out.newL I.gh g rr
   have l:=(I.out o).1
   have b:=(I.out o).2
   have f:=l.store (adp r0) i
   refine h _ _ _ _ _ _ _ f ⟨b.ok,b.fb,b.fg,b.fo,λj a z y=>?_⟩ k
   by_cases hj:j=i
   ·subst hj;exact(putF_same.mp y).elim
   ·rw[abb hj] at y;exact b.fd j a z y
end
section
theorem azv(g:env[i]?=some (some (.own (OL c))))(h:∃ ds d,c=ds++[d]/\Q' d (env.set i (some (.own (OL ds))))):Ev B (tBM0 K "list" rPop (tVar i)) env Q':=λσ G H F Q I k=>by
 obtain⟨ds,d,rfl,q⟩:=h
 obtain⟨v,j,⟨a,vs,o,ha,rs,hf⟩,hb⟩:=I.sl i _ g
 subst o
 have l:=rs.length
 rw[aB1,List.length_singleton] at l
 obtain⟨w,p,f⟩:=rs.get (i:=ds.length) (d:=d) (by rw[aC8 (aA6 _),aI6];rfl)
 have n:Rps G vs.dropLast ds:=by
  have:=rs.take ds.length
  rw[List.take_append_of_le_length (aA6 _),aG8] at this
  rwa [List.dropLast_eq_take,show vs.length-1=ds.length by lia]
 refine⟨_,j,.inl ⟨rfl,_,SqL.of ha⟩,a,vs,w,rfl,rfl,ha,by rw[show vs.length-1=ds.length by lia];exact p,?_⟩
 exact k _ G _ _ _ _ (I.upd1 (A':=OL ds) g (.inl rfl) j hf ⟨a,_,rfl,aam,n,λb=>Iff.rfl⟩) (Same.refl _) f q
theorem at9(e:env[i]?=some (some (.st (.tuple (.int k::ds)))))(q:f (.own (OD [(.inl k,.bool true)])) env):EvO B (axb [(tOp (aca K) (tVar i) (tC (.int 0)),tC (.bl true))]) env f:=λσ G H F Q I g p d=>by
 obtain⟨v,j,r⟩:=I.sl i _ e
 obtain⟨r,_⟩:=r
 cases r with
 | @tup a xs _ ha ra =>
  cases ra with
  | cons r1 _ =>
   cases r1
   have c:a ≠ p:=λz=>by
    have:=I.gh _ _ ha
    rw[z,d] at this
    cases this
   refine⟨_,j,amz (by rw[aah c];exact I.gh _ _ ha) (by unfold atI ixN;rw[aF5 (by lia),aF5 (by simp)];rfl) ?_⟩
   refine⟨aam,[(.inl k,.bl true)],rfl,by simp,?_⟩
   have o:=Out.newD (ds:=[(.inl k,.bool true)]) (xs:=[(.inl k,.bl true)]) I.gh d (.cons (.bl true) .nil)
   have h:upd (upd H p (.dK [])) p (.dK (aej [] [(Sum.inl k,V.bl true)]))=upd H p (.dK [(.inl k,.bl true)]):=by
    funext b
    unfold upd
    split <;> rfl
   rw[h]
   exact g _ _ _ F _ _ env (I.out o).1 o.gg (I.out o).2 q
end
end VL
namespace HT
open PySem PyProof.Rows
section
open PySem.SeqAt
open PySem.AutoSeq1 (wpAny_loadPart')
open PySem.MeetsSeq PySem.MeetsSeq2 PySem.MeetsSeq3
end
section
end
end HT
namespace HT
open PySem PySem.Spec PyProof.Rows
section
end
end HT
namespace L2
open PySem PySem.Spec PyProof.Rows
section
end
end L2
namespace VL
open PySem PySem.Spec L2
end VL
namespace L2
open PySem PySem.Spec PyProof.Rows
section
end
section
end
end L2
namespace VL
open PySem PySem.Spec L2
def aua(es more:List (Key × PyData)):List (Key × PyData):=more.foldl (λacc p=>putD acc p.1 p.2) es
section
end
end VL
namespace L2
open PySem PySem.W PyProof.Rows
section
theorem ak8:∀{es:List DictEntry}{vs:List (Key × Value)}{kvs:List (Key × V)}{ns:List Int},Pairs (abg P w) es vs->KV kvs vs->kvs.map (·.1)=ns.map Sum.inl->IntsAre (es.map (·.key)) ns
 |_,_,_,[],.nil,_,_=>.nil
 |_,_,_,_::_,.nil,.nil,h=>by simp at h
 |_,_,_,[],.cons _ _ _,.cons _ _,h=>by simp at h
 | _,_,_,n::ns,.cons hk _ t,.cons r rt,h=>by
  simp only[aD1,List.cons.injEq] at h
  have f:=ak8 t rt h.2
  rcases abh hk with ⟨i,c,b,d⟩|⟨x,c,b,d⟩
  ·rw[aD1,d]
   have:i=n:=by
    have a:=r.1
    rw[h.1,b] at a
    cases a
    rfl
   subst this
   exact .cons i c f
  ·have a:=r.1
   rw[h.1,b] at a
   cases a
def aqp:List V->Hp->VK->Prop:=λxs H Q=>∃(a:Addr)(kvs:List (Key × V))(ns:List Int),xs=[.ref a]/\H a=some (.dK kvs)/\kvs.map (·.1)=ns.map Sum.inl/\ns.length<64/\∀(ns':List Int)(p:Addr),ns'.Perm ns->ns'.Pairwise (·<=·)->H p=none->Q (.ref p) (upd H p (.lst (ns'.map V.int)))
end
section
theorem ao6(O:X.calm=true):abi X (.builtin "sorted") aqp:=by
 intro pins s σ H xs us Q I r h
 obtain⟨a,kvs,ns,rfl,ha,M,D,q⟩:=h
 obtain⟨u,rfl,N⟩:=adi r
 cases N
 obtain⟨z,hd,vs,t,o,es,ep,F,L,J,P,C,R⟩:=aq2 I.hok ha
 have w:IntsAre (es.toList.map (·.key)) ns:=ak8 C t M
 have hsz:es.size=ns.length:=by have:=w.length;simpa using this
 have c:es.size<=sizeLine:=by rw[sizeLine_eq];lia
 refine Calls.call_function_entry kind_sorted plain_sorted entry_sorted (args_sorted1 _) ?_
 unfold Builtin.«sorted»
 refine aJ2 (m:=checkCount "sorted" 1 1 _) (aJ3 (aJ2 (DI.collect_src (A:=X.A.in1) (DI.src a es ep hd) (I.ok.hd O) ⟨o,F,L,J⟩ c λg x d kp hs items=>?_)))
 have j:d.toList=es.toList.map (·.key):=by
  obtain⟨i1,G⟩:=items
  refine aG2 λi=>?_
  by_cases hi:i<es.size
  ·have p:d[i]?=some d[i]:=aA4 (by lia)
   have K:(es[i]?).map (·.key)=some d[i]:=G i _ p
   rw[aD6,p,← K,aA5,aD6]
  ·rw[aF7.mpr (by simp;lia),aF7.mpr (by simp;lia)]
 rw[j]
 refine aJ2 (wpAny_newList ?_ (by rw[aA3,aA8];exact c))
 have f:(g.push (seqObj "list" (es.toList.map (·.key)).toArray 0)).get? g.objs.size=some (seqObj "list" (es.toList.map (·.key)).toArray 0):=aJ6 _ rfl
 refine aJ2 (aJ8 (aK5 slot_list_sort ⟨_,f,rfl⟩ entry_list_sort (list_sort_tree (s:={ s with heap:=g.push (seqObj "list" (es.toList.map (·.key)).toArray 0),toks:=x }) f w (by simp;lia) λout l a1 v y=>⟨_,rfl,?_⟩) (args_list_sort _)))
 obtain⟨e,E⟩:=sortedHeap_at (vs:=es.toList.map (·.key)) (out:=out) (n:=0) f
 have B:∀ b o,s.heap.get? b=some o->(sortedHeap (g.push (seqObj "list" (es.toList.map (·.key)).toArray 0)) g.objs.size (es.toList.map (·.key)) out).get? b=some o:=λb o q=>by
  have lt:=aJ5 (kp b o q)
  rw[sortedHeap_old (aB6 lt) (by rw[size_push'];exact aF8 lt)]
  exact aJ4 _ (kp b o q)
 refine aJ3 ⟨_,rfl,.ref g.objs.size,_,I.laid (t':=x) (o:=.lst (l.map V.int)) B hs ⟨by rw[aA3,v.length_eq,sizeLine_eq];lia,out.toList,e,afc a1,by rw[Array.toArray_toList];exact E⟩,rfl,q l _ v y (I.hok.fresh hs)⟩
end
end L2
namespace VL
open PySem PySem.Spec L2
section
theorem an3:∀{kvs:List (Key × V)}{es:List (Key × PyData)},RpK G kvs es->kvs.map (·.1)=es.map (·.1)
 |_,_,.nil=>rfl
 |_,_,.cons _ t=>by rw[aD1,aD1,an3 t]
theorem ar0(l:env[i]?=some (some (.own (OD es))))(j:es.map (·.1)=ns.map Sum.inl)(g:ns.length<64)(q:∀ b:List Int,b.Perm ns->b.Pairwise (·<=·)->QO (.own (OL (b.map .int))) env):EvO B (tCB aqp (abe (tVar i) tNil)) env QO:=λσ G H F Q I k=>by
 obtain⟨v,h,⟨a,kvs,rfl,ha,d,fa⟩,_⟩:=I.sl i _ l
 have c:kvs.map (·.1)=ns.map Sum.inl:=by rw[← j];exact an3 d
 refine⟨_,h,a,kvs,ns,rfl,ha,c,g,λb p f hs hf=>?_⟩
 have o:=Out.newL I.gh hf (Rps.ints (G:=G) b)
 exact k _ _ _ F _ _ env (I.out o).1 o.gg (I.out o).2 (q b f hs)
end
section
end
end VL
namespace L2
open PySem PySem.W PyProof.Rows
def axp:R2:=λx y H Q=>∃ b c,x=.bl b/\y=.bl c/\Q (.bl (!decide (b=c))) H
section
theorem aqq:OpR X (compareOp .IsNot) axp:=by
 intro pins s σ H x y v u Q I a d h
 obtain⟨b,c,rfl,rfl,q⟩:=h
 cases a
 cases d
 refine wpAny_isNot_plain rfl (aa2 I q ?_)
 cases b <;> cases c <;> rfl
end
end L2
namespace VL
open PySem PySem.Spec L2
theorem an4(h:R (.st (.bool (!decide (b=c))))):Op2 axp (.bool b) (.bool c) R:=λG H g f Q gh a d k=>by
 cases a
 cases d
 exact⟨b,c,rfl,rfl,k _ _ _ _ _ (Out.refl gh (.bl _)) h⟩
section
end
end VL
namespace L2
open PySem PySem.Spec PyProof.Rows PySem.W
def LamH(P:Addr)(H H':Hp):Prop:=H'=H\/∃ c,H c=none/\H'=upd H c (.own P)
section
end
def LamAt(K:Frag)(mg:Str->Option Value):Prop:=∃ f c P,mg lamN=some (.ref f)/\tabIn K lamN=some (c,P)/\codeHdIn K c P=true/\∀ oc od fd sl,K.lookup f=some ⟨oc,od,.func fd,sl⟩->fd.code=.ref c
theorem tabs0_none{K:Frag}{h:Heap}(e:tabIn K lamN=none):afy K h:=λc P q=>by rw[e] at q;cases q
end L2
namespace L2
open PySem PySem.W
theorem tab_no(a:nsIn K mainGlobals lamN=some none):tabIn K lamN=none:=by
 unfold tabIn
 rw[a]
end L2
namespace G
open PySem L2 VL
def top(i:Nat):Stmt:=PySem.Challenge.pw_fewties_k50_whole_trees_parted_as_webs.main.body.getD i (.Pass ⟨0,0,0,0⟩)
abbrev s_is_whole:Stmt:=top 8
abbrev s_is_between:Stmt:=top 9
abbrev s_need_number:Stmt:=top 10
abbrev s_is_place:Stmt:=top 11
abbrev s_is_tie:Stmt:=top 12
abbrev s_are_ties:Stmt:=top 13
abbrev s_is_rising:Stmt:=top 14
abbrev s_tied_places:Stmt:=top 15
abbrev s_far_from:Stmt:=top 16
abbrev s_need_place:Stmt:=top 17
abbrev s_all_far:Stmt:=top 18
abbrev s_is_joined:Stmt:=top 19
abbrev s_short_way:Stmt:=top 20
abbrev s_need_joined:Stmt:=top 22
abbrev s_far_rows:Stmt:=top 23
abbrev s_most_far:Stmt:=top 24
abbrev s_farthest_two:Stmt:=top 25
abbrev s_middles:Stmt:=top 26
abbrev s_is_tree:Stmt:=top 28
abbrev s_need_tree:Stmt:=top 29
abbrev s_far_way:Stmt:=top 30
abbrev s_far_ends:Stmt:=top 31
abbrev s_parting_tie:Stmt:=top 32
abbrev s_parted_far:Stmt:=top 33
abbrev s_with_ties:Stmt:=top 35
abbrev s_hubs_for:Stmt:=top 38
abbrev s_hub_ties:Stmt:=top 39
abbrev s_law_cell:Stmt:=top 41
abbrev s_law_store:Stmt:=top 42
abbrev s_law_take:Stmt:=top 43
abbrev s_law_tree_ties:Stmt:=top 44
abbrev s_law_renumbered:Stmt:=top 45
abbrev s_law_tree:Stmt:=top 46
abbrev s_law_side:Stmt:=top 47
abbrev s_law_part:Stmt:=top 48
abbrev s_law_parts:Stmt:=top 49
abbrev s_law_farther:Stmt:=top 50
abbrev s_law_parted_right:Stmt:=top 51
abbrev s_law_joined_right:Stmt:=top 52
abbrev s_law_ends_right:Stmt:=top 53
abbrev s_law_hub_right:Stmt:=top 54
abbrev s_law:Stmt:=top 55
structure Txt(K:Frag)(mg:Str->Option Value):Prop where
 b_ValueError:mg "ValueError" = none
 b_all:mg "all" = none
 b_max:mg "max" = none
 b_min:mg "min" = none
 b_sorted:mg "sorted" = none
 b_range:mg "range" = none
 b_list:mg "list" = none
 b_isinstance:mg "isinstance" = none
 b_int:mg "int" = none
 b_len:mg "len" = none
 b_set:mg "set" = none
 b_bool:mg "bool" = none
 b_tuple:mg "tuple" = none
 b_enumerate:mg "enumerate" = none
 b_zip:mg "zip" = none
 v_MOST_HUB_TIES:∃ t,mg "MOST_HUB_TIES" = some (.int 20 t)
 d_is_whole:∃ f fd,DefAt K mg "is_whole" s_is_whole ["thing"] f fd
 d_is_between:∃ f fd,DefAt K mg "is_between" s_is_between ["least","most","thing"] f fd
 d_need_number:∃ f fd,DefAt K mg "need_number" s_need_number ["least","most","thing"] f fd
 d_is_place:∃ f fd,DefAt K mg "is_place" s_is_place ["n","thing"] f fd
 d_is_tie:∃ f fd,DefAt K mg "is_tie" s_is_tie ["n","thing"] f fd
 d_are_ties:∃ f fd,DefAt K mg "are_ties" s_are_ties ["n","thing"] f fd
 d_is_rising:∃ f fd,DefAt K mg "is_rising" s_is_rising ["things"] f fd
 d_tied_places:∃ f fd,DefAt K mg "tied_places" s_tied_places ["web"] f fd
 d_far_from:∃ f fd,DefAt K mg "far_from" s_far_from ["tied","start"] f fd
 d_need_place:∃ f fd,DefAt K mg "need_place" s_need_place ["web","thing"] f fd
 d_all_far:∃ f fd,DefAt K mg "all_far" s_all_far ["web","a"] f fd
 d_is_joined:∃ f fd,DefAt K mg "is_joined" s_is_joined ["web"] f fd
 d_short_way:∃ f fd,DefAt K mg "short_way" s_short_way ["web","a","b"] f fd
 d_need_joined:∃ f fd,DefAt K mg "need_joined" s_need_joined ["web"] f fd
 d_far_rows:∃ f fd,DefAt K mg "far_rows" s_far_rows ["web"] f fd
 d_most_far:∃ f fd,DefAt K mg "most_far" s_most_far ["rows"] f fd
 d_farthest_two:∃ f fd,DefAt K mg "farthest_two" s_farthest_two ["web"] f fd
 d_middles:∃ f fd,DefAt K mg "middles" s_middles ["web"] f fd
 d_is_tree:∃ f fd,DefAt K mg "is_tree" s_is_tree ["web"] f fd
 d_need_tree:∃ f fd,DefAt K mg "need_tree" s_need_tree ["web"] f fd
 d_far_way:∃ f fd,DefAt K mg "far_way" s_far_way ["web"] f fd
 d_far_ends:∃ f fd,DefAt K mg "far_ends" s_far_ends ["web"] f fd
 d_parting_tie:∃ f fd,DefAt K mg "parting_tie" s_parting_tie ["web"] f fd
 d_parted_far:∃ f fd,DefAt K mg "parted_far" s_parted_far ["rows","tie"] f fd
 d_with_ties:∃ f fd,DefAt K mg "with_ties" s_with_ties ["web","ties"] f fd
 d_hubs_for:∃ f fd,DefAt K mg "hubs_for" s_hubs_for ["web","k"] f fd
 d_hub_ties:∃ f fd,DefAt K mg "hub_ties" s_hub_ties ["web","k"] f fd
 d_law_cell:∃ f fd,DefAt K mg "_law_cell" s_law_cell ["script","k"] f fd
 d_law_store:∃ f fd,DefAt K mg "_law_store" s_law_store ["cell"] f fd
 d_law_take:∃ f fd,DefAt K mg "_law_take" s_law_take ["store","many"] f fd
 d_law_tree_ties:∃ f fd,DefAt K mg "_law_tree_ties" s_law_tree_ties ["store","n","kind"] f fd
 d_law_renumbered:∃ f fd,DefAt K mg "_law_renumbered" s_law_renumbered ["store","n","ties"] f fd
 d_law_tree:∃ f fd,DefAt K mg "_law_tree" s_law_tree ["store"] f fd
 d_law_side:∃ f fd,DefAt K mg "_law_side" s_law_side ["web","tie"] f fd
 d_law_part:∃ f fd,DefAt K mg "_law_part" s_law_part ["web","places"] f fd
 d_law_parts:∃ f fd,DefAt K mg "_law_parts" s_law_parts ["web","tie"] f fd
 d_law_farther:∃ f fd,DefAt K mg "_law_farther" s_law_farther ["web","tie"] f fd
 d_law_parted_right:∃ f fd,DefAt K mg "_law_parted_right" s_law_parted_right ["store","web"] f fd
 d_law_joined_right:∃ f fd,DefAt K mg "_law_joined_right" s_law_joined_right ["store","web"] f fd
 d_law_ends_right:∃ f fd,DefAt K mg "_law_ends_right" s_law_ends_right ["web"] f fd
 d_law_hub_right:∃ f fd,DefAt K mg "_law_hub_right" s_law_hub_right ["web","k"] f fd
 d_law:∃ f fd,DefAt K mg "law" s_law ["script"] f fd
local macro_rules | `(tactic| row_cond sc) => `(tactic| exact ⟨rfl,rfl,rfl,by decide +kernel,rfl,by decide +kernel,by decide +kernel⟩)
local macro_rules | `(tactic| row_cond gn) => `(tactic| first | (with_reducible first | refine evg_n0 ?_ | refine a12 ?_ | refine a13 ?_ | refine a14 ?_ | refine a15 ?_ | refine a16 ?_ | refine a17 ?_ | refine a18 ?_ | refine a19 ?_ | refine a2a ?_ | refine evg_n10 ?_ | refine evg_n11 ?_ | refine ay5 ?_ | refine evg_n13 ?_ | refine evg_n14 ?_ | refine evg_n15 ?_ | refine evg_n16 ?_ | refine evg_n17 ?_ | refine evg_n18 ?_ | refine evg_n19 ?_ | refine evg_n20 ?_ | refine evg_n21 ?_ | refine evg_n22 ?_ | refine evg_n23 ?_ | refine evg_n24 ?_ | refine evg_n25 ?_) | ((with_reducible refine aa4 ?_); dsimp only [List.set_cons_zero, List.set_cons_succ]))
local macro_rules | `(tactic| row_cond dc) => `(tactic| first | assumption | lia | (with_reducible rfl))
local macro_rules | `(tactic| row_cond ar) => `(tactic| first | assumption | (refine ⟨?_, ?_, ?_⟩ <;> decide) | (constructor <;> first | assumption | lia) | (show (0 : Int) < _; first | assumption | lia) | (left; constructor <;> first | assumption | lia) | (right; constructor <;> first | assumption | lia))
local macro_rules | `(tactic| row_cond hs) => `(tactic| first | exact Or.inl rfl | exact Or.inr rfl)
local macro_rules | `(tactic| row_cond fz) => `(tactic| first | exact abf | exact frz_OD | exact frz_OT | exact ag3 | exact ahy | assumption)
local macro_rules | `(tactic| row_cond le) => `(tactic| first | exact Nat.le_of_ble_eq_true rfl | assumption | lia | (simp only [List.length_append, List.length_map, List.length_cons, List.length_nil, List.length_set, List.length_replicate]; lia))
local macro_rules | `(tactic| row_cond ia) => `(tactic| first | assumption | exact at0 | exact at1 | exact at2 | exact rfl)
local macro_rules | `(tactic| row_cond ty) => `(tactic| first | exact a1y | exact ay3 | exact avu | exact ay4 | exact ty_str | exact ty_dict)
local macro_rules | `(tactic| row_cond sEvS) => `(tactic| first | (with_reducible refine avj (fun c_ hc_ => ?_)) | (with_reducible first | refine ayo ?_ | refine atb ?_ | refine avf ?_) | ((with_reducible refine' avv ?h0 ?_); (case h0 => exact rfl)) | (with_reducible first | refine apy ?_ | refine ayp ?_ | refine ave ?_) | ((with_reducible refine' aro ?h0 ?_); (case h0 => exact rfl)) | ((with_reducible refine' apz ?h0 ?_); (case h0 => assumption)))
local macro_rules | `(tactic| row_cond sEvG) => `(tactic| first | row_cond gn | ((with_reducible refine' ahr ?h0 ?_); (case h0 => exact rfl)) | ((with_reducible refine' avt ?h0 ?_); (case h0 => row_cond hs)) | ((with_reducible refine' azc ?h0 ?_); (case h0 => exact rfl)) | (with_reducible refine a11 ?_))
local macro_rules | `(tactic| row_cond sEvGs) => `(tactic| first | (with_reducible first | refine ade ?_ | refine agc ?_))
local macro_rules | `(tactic| row_cond sEv) => `(tactic| first | ((with_reducible refine' a1h ?h0 ?_); (case h0 => exact rfl)) | (with_reducible refine a1i ?_) | ((with_reducible refine' a1v ?h0 ?_); (case h0 => row_cond hs)) | ((with_reducible refine' a1w ?h0 ?h1 ?_); (case h0 => exact rfl); (case h1 => assumption)) | ((with_reducible refine' a1t ?h0 ?_); (case h0 => row_cond hs)) | (with_reducible refine a3h ?_) | ((with_reducible refine' ay2 ?h0 ?h1 ?_); (case h0 => exact rfl); (case h1 => assumption)) | ((with_reducible refine' a1x ?h0 ?_); (case h0 => row_cond ty)) | ((with_reducible refine' a1u ?h0 ?h1 ?_); (case h0 => row_cond hs); (case h1 => row_cond fz)) | ((with_reducible refine' atf ?h0 ?_); (case h0 => exact rfl)) | ((with_reducible refine' atg ?h0 ?_); (case h0 => exact rfl)) | ((with_reducible refine' avl ?h0 ?h1 ?_); (case h0 => exact rfl); (case h1 => assumption)) | (with_reducible refine avk ?_) | ((with_reducible refine' ayj ?h0 ?h1 ?_); (case h0 => exact rfl); (case h1 => row_cond fz); dsimp only [List.set_cons_zero, List.set_cons_succ]) | (with_reducible first | refine a1l ?_ | refine a1m ?_ | refine a3g ?_ | refine a1j ?_ | refine a3i ?_ | refine aym ?_ | refine ayn ?_ | refine avd ?_ | refine acb (te:=tCB (ai5 _) _) ?_ | refine acb (te:=tCB (amy _) _) ?_ | refine a3j ?_) | ((with_reducible refine' arj ?h0 ?_); (case h0 => row_cond hs)) | ((with_reducible refine' avs ?h0 ?_); (case h0 => row_cond hs)) | ((with_reducible refine' ao0 ?h0 ?_); (case h0 => row_cond hs)) | (with_reducible refine ev_listR ?_) | ((with_reducible refine' a3s ?h0 ?_); (case h0 => decide)) | (with_reducible first | refine a2e ?_ | refine av9 ?_))
local macro_rules | `(tactic| row_cond sEvO) => `(tactic| first | (with_reducible first | refine anf (r:=rCat) ?_ | refine anf (r:=rRep) ?_ | refine aby (te:=tOp _ _ _) ?_ | refine aby (te:=tVar _) ?_ | refine aby (te:=tC _) ?_ | refine apv ?_) | ((with_reducible refine' av3 ?h0 ?_); (case h0 => exact rfl)) | (with_reducible refine apu ?_) | ((with_reducible refine' ai9 ?h0 ?_); (case h0 => exact rfl)) | ((with_reducible refine' aja ?h0 ?_); (case h0 => exact rfl)) | ((with_reducible refine' aky ?h0 ?h1 ?_); (case h0 => exact rfl); (case h1 => assumption)) | (with_reducible first | refine akx ?_ | refine ay6 ?_) | ((with_reducible refine' atd ?h0 ?_); (case h0 => decide)) | (with_reducible first | refine aqd ?_) | (with_reducible first | refine atp ?_ | refine aby (te:=tUn _ _) ?_ | refine aby (te:=aqu _ _) ?_ | refine aby (te:=aqv _) ?_ | refine aby (te:=amg _ _ _ _ _) ?_ | refine aby (te:=ahk _ _) ?_ | refine aby (te:=tCB (rLen _) _) ?_ | refine aby (te:=tCB (rIsi _) _) ?_ | refine aby (te:=tCB al3 _) ?_ | refine aby (te:=tCB al4 _) ?_ | refine aby (te:=tCB (afh _) _) ?_ | refine aby (te:=tCB (arc _) _) ?_ | refine aby (te:=tCB (rAll _) _) ?_ | refine aby (te:=tBM _ _ _ _ _) ?_))
local macro_rules | `(tactic| row_cond sEvT) => `(tactic| first | (with_reducible first | refine aih ?_ | refine a3k ?_ | refine ayk ?_ | refine a1n ?_ | refine apw ?_ | refine aew ?_) | (with_reducible refine ayl ?_))
local macro_rules | `(tactic| row_cond sEvA) => `(tactic| first | (with_reducible first | refine avc ?_ | refine apt ?_))
local macro_rules | `(tactic| row_cond sEvI) => `(tactic| first | (with_reducible first | refine avh ?_ | refine avi ?_ | refine evi_down ?_ | refine avg ?_ | refine av2 ?_ | refine azb ?_) | (with_reducible refine evi_tup ?_))
local macro_rules | `(tactic| row_cond sOp2) => `(tactic| first | (with_reducible first | refine ayq ?_ | refine ayr ?_) | ((with_reducible refine' a1r ?h0 ?_); (case h0 => row_cond ar)) | (with_reducible first | refine ays ?_ | refine ayt ?_) | ((with_reducible refine' ayw ?h0 ?_); (case h0 => row_cond ia)) | ((with_reducible refine' ayx ?h0 ?_); (case h0 => row_cond ia)) | (with_reducible first | refine ayu ?_ | refine ayz ?_) | ((with_reducible refine' ay0 ?h0 ?_); (case h0 => row_cond le)))
local macro_rules | `(tactic| row_cond sOp1) => `(tactic| first | (with_reducible refine a1s ?_))
local macro_rules | `(tactic| row_cond sOpA) => `(tactic| first | (with_reducible first | refine avo ?_ | refine avp ?_ | refine avq ?_ | refine avr ?_))
local macro_rules | `(tactic| row_cond sFQ) => `(tactic| first | (with_reducible first | refine agb ?_ | refine afi ?_ | refine aje ?_))
local macro_rules | `(tactic| row_cond sRngA1) => `(tactic| first | ((with_reducible refine' a1p ?h0 ?h1 ?_); (case h0 => lia); (case h1 => lia)))
local macro_rules | `(tactic| row_cond sRngA2) => `(tactic| first | ((with_reducible refine' a1q ?h0 ?_); (case h0 => lia)))
local macro_rules | `(tactic| row_cond sRest) => `(tactic| first | (with_reducible first | refine x_bl ?_ | refine x_st ?_ | refine a1o ?_) | ((with_reducible refine' a3o ?h0 ?h1 ?_); (case h0 => row_cond hs); (case h1 => row_cond ia)) | ((with_reducible refine' a3p ?h0 ?_); (case h0 => row_cond ia)) | ((with_reducible refine' a3q ?h0 ?h1 ?_); (case h0 => row_cond hs); (case h1 => row_cond fz)) | ((with_reducible refine' x_sc ?h0 ?_); (case h0 => exact rfl)) | ((with_reducible refine' a3n ?h0 ?_); (case h0 => row_cond le)) | (with_reducible first | refine acv ?_ | refine acp ?_ | refine aho ?_ | refine ahp ?_) | ((with_reducible refine' aju ?h0 ?_); (case h0 => row_cond dc)) | ((with_reducible refine' ajv ?h0 ?_); (case h0 => row_cond dc)) | ((with_reducible refine' au9 ?h0 ?_); (case h0 => row_cond dc)) | ((with_reducible refine' ava ?h0 ?_); (case h0 => row_cond dc)) | ((with_reducible refine' a3r ?h0 ?_); (case h0 => first | exact rfl | row_cond hs)) | ((with_reducible refine' x_rt ?h0 ?_); (case h0 => exact rfl)) | ((with_reducible refine' a1z ?h0 ?h1 ?_); (case h0 => exact rfl); (case h1 => row_cond le); dsimp only [List.set_cons_zero, List.set_cons_succ]) | ((with_reducible refine' ark ?h0 ?h1 ?_); (case h0 => exact rfl); (case h1 => first | exact ixN0 | exact ixN1 | exact ixN2 | assumption); dsimp only [List.set_cons_zero, List.set_cons_succ, reS]) | ((with_reducible refine' a10 ?h0 ?h1 ?_); (case h0 => exact rfl); (case h1 => first | exact ixN0 | exact ixN1 | exact ixN2 | assumption); dsimp only [List.set_cons_zero, List.set_cons_succ, reS]) | (with_reducible first | refine avw ?_) | ((with_reducible refine' x_dK ?h0 ?h1 ?_); (case h0 => exact rfl); (case h1 => row_cond le); dsimp only [List.set_cons_zero, List.set_cons_succ]) | ((with_reducible refine' x_dN ?h0 ?_); (case h0 => row_cond hs)) | (with_reducible first | refine x_en ?_ | refine a3t ?_) | ((with_reducible refine' azd ?h0 ?h1 ?_); (case h0 => lia); (case h1 => lia)) | ((with_reducible refine' x_ow ?h0 ?_); (case h0 => exact rfl); dsimp only [List.set_cons_zero, List.set_cons_succ]))
local macro_rules | `(tactic| row_cond st) => `(tactic| first | ((with_reducible refine a3u ?_); row_cond sEvS) | ((with_reducible refine a3v ?_); row_cond sEvG) | ((with_reducible refine a2d ?_); row_cond sEvGs) | ((with_reducible refine g_Ev ?_); row_cond sEv) | ((with_reducible refine a3w ?_); row_cond sEvO) | ((with_reducible refine a3x ?_); row_cond sEvT) | ((with_reducible refine a3y ?_); row_cond sEvA) | ((with_reducible refine a3z ?_); row_cond sEvI) | ((with_reducible refine g_EvOp ?_); row_cond sEvOp) | ((with_reducible refine a30 ?_); row_cond sOp2) | ((with_reducible refine a31 ?_); row_cond sOp1) | ((with_reducible refine a32 ?_); row_cond sOpA) | ((with_reducible refine g_FQ ?_); row_cond sFQ) | ((with_reducible refine azf ?_); row_cond sRngA1) | ((with_reducible refine azg ?_); row_cond sRngA2) | row_cond sRest)
local macro_rules | `(tactic| row_cond go) => `(tactic| repeat row_cond st)
local macro_rules | `(tactic| row_cond hnx) => `(tactic| first | assumption | (apply Ne.symm; assumption) | exact aau (by assumption) (by assumption) | exact (aau (by assumption) (by assumption)).symm)
local macro_rules | `(tactic| row_cond hhp) => `(tactic| first | assumption | exact aam | (rw [aah (by row_cond hnx)]; row_cond hhp) | ((refine' Same.at ?ss ?hh); (case ss => assumption); (case hh => row_cond hhp)))
local macro_rules | `(tactic| row_cond hix) => `(tactic| first | assumption | exact at0 | exact at1 | exact at2)
local macro_rules | `(tactic| row_cond hst) => `(tactic| first | (with_reducible first | refine go_seq ?_ | refine go_asg ?_ | refine apj ?_ | refine go_op ?_ | refine go_c ?_ | refine go_I0 ?_ | refine go_U ?_ | refine asv ?_ | refine go_test ?_ | refine go_bl ?_ | refine go_ifS ?_ | refine go_and ?_ | refine go_ret ?_ | refine go_drop ?_ | refine go_next ?_ | refine go_cb ?_ | refine go_cons ?_ | refine asu ?_ | refine go_call ?_ | refine apm ?_ | refine apn ?_ | refine go_intB ?_ | refine go_gsub ?_ | refine go_lstW ?_ | refine go_bmL ?_ | refine go_for ?_ | refine go_lc ?_ | refine go_irng1 ?_ | refine asw ?_ | refine acv ?_ | refine acp ?_) | ((with_reducible refine' go_var ?hv ?_); (case hv => exact rfl)) | ((with_reducible refine' af9 ?ha ?hv ?_); (case ha => row_cond hhp); (case hv => row_cond hix)) | ((with_reducible refine go_I ?hc ?_); (case hc => row_cond ar)) | ((with_reducible refine' apl ?ha ?_); (case ha => row_cond hhp)) | ((with_reducible refine' apk ?ha ?hj ?_); (case ha => row_cond hhp); (case hj => first | exact ixN0 | exact ixN1 | exact ixN2)) | ((with_reducible refine' go_tyL ?ha ?_); (case ha => row_cond hhp)) | ((with_reducible refine' agv ?ha ?hl ?_); (case ha => row_cond hhp); (case hl => exact afd (by simp; lia))) | ((with_reducible refine' aju ?hc ?_); (case hc => row_cond dc)) | ((with_reducible refine' ajv ?hc ?_); (case hc => row_cond dc)) | dsimp only [List.set_cons_zero, List.set_cons_succ])
local macro_rules | `(tactic| row_cond hgo) => `(tactic| repeat row_cond hst)
def isInt:PyData->Bool
 | .int _=>true
 |_=>false
def btwD(a b:Int):PyData->Bool
 | .int i=>decide (a<=i/\i<=b)
 |_=>false
def azw:VP:=λss Q=>∃ d,ss=[.st d]/\Q (.st (.bool (isInt d)))
def aub:VP:=λss Q=>∃(a b:Int)(d:PyData),ss=[.st (.int a),.st (.int b),.st d]/\Q (.st (.bool (btwD a b d)))
def azx:VP:=λss Q=>∃(n:Int)(d:PyData),ss=[.st (.int n),.st d]/\Q (.st (.bool (btwD 0 (n-1) d)))
section
theorem sc_is_whole:FnScope ["thing"] ["thing"] (aaj s_is_whole):=by row_cond sc
theorem an5(T:Txt K mg):Can P w K mg base "is_whole" 1 ["thing"] (spP K (azw)):=by
 obtain⟨f,fd,D⟩:=T.d_is_whole
 refine D.can (D.fn.ok sc_is_whole (λvs H Q E h=>lenP h λss c q=>by obtain⟨d,rfl,k⟩:=q;rfl) (λcdv A outer s H vs Q E hr h=>?_))
 have nd:=sc_is_whole.nd
 refine⟨_,(aaf (aas (aeh (aai af8 (by rfl) T.b_isinstance ads (aaa (pv 0) (aaa (ahg (v:=.ty "int") rfl T.b_int a1b rfl) aab))) (afv (a0q (aai af8 (by rfl) T.b_isinstance ads (aaa (pv 0) (aaa (ahg (v:=.ty "bool") rfl T.b_bool ax8 rfl) aab)))))))),?_⟩
 refine aa3 h λss c q B g=>?_
 refine exS1 ss q λd a=>?_
 have k:=a
 clear a q
 show EvS B _ _ [some (.st d)]
 row_cond go
 cases d with
 |int i=>refine acv ?_; row_cond go; exact k
 |bool b=>refine acv ?_; row_cond go; exact k
 |_=>refine acp ?_;exact k
theorem sc_is_between:FnScope ["least","most","thing"] ["least","most","thing"] (aaj s_is_between):=by row_cond sc
theorem af2(T:Txt K mg):Can P w K mg base "is_between" 2 ["least","most","thing"] (spP K (aub)):=by
 obtain⟨f,fd,D⟩:=T.d_is_between
 refine D.can (D.fn.ok sc_is_between (λvs H Q E h=>lenP h λss j q=>by obtain⟨a,b,d,rfl,k⟩:=q;rfl) (λcdv A outer s H vs Q E hr h=>?_))
 have nd:=sc_is_between.nd
 refine⟨_,(aaf (aas (aeh (aad (an5 T) hr (aaa (pv 2) aab)) (afv (auq ait ait (pv 0) (pv 2) (pv 1)))))),?_⟩
 refine aa3 h λss j q B l=>?_
 refine exS3 ss q λa b d c=>?_
 have k:=c
 clear c q
 show EvS B _ _ [some (.st (.int a)),some (.st (.int b)),some (.st d)]
 row_cond go
 refine⟨d,rfl,?_⟩
 row_cond go
 cases d with
 | int i =>
  refine acv ?_
  row_cond go
  refine ado (λg=>?_) (λg=>?_)
  ·row_cond go
   have e:decide (i<=b)=btwD a b (.int i):=by
    show _=decide (a<=i/\i<=b)
    rw[aH8];simp[g]
   rw[e];exact k
  ·have e:false=btwD a b (.int i):=by
    show _=decide (a<=i/\i<=b)
    exact(aD7 (λz=>g z.1)).symm
   rw[e];exact k
 |_=>exact acp k
theorem sc_is_place:FnScope ["n","thing"] ["n","thing"] (aaj s_is_place):=by row_cond sc
theorem ae7(T:Txt K mg):Can P w K mg base "is_place" 3 ["n","thing"] (spP K (azx)):=by
 obtain⟨f,fd,D⟩:=T.d_is_place
 refine D.can (D.fn.ok sc_is_place (λvs H Q E h=>lenP h λss b q=>by obtain⟨n,d,rfl,k⟩:=q;rfl) (λcdv A outer s H vs Q E hr h=>?_))
 have nd:=sc_is_place.nd
 refine⟨_,(aaf (aas (aad (af2 T) hr (aaa aae (aaa (aax adn (pv 0) aae) (aaa (pv 1) aab)))))),?_⟩
 refine aa3 h λss b q B c=>?_
 refine exS2 ss q λn d a=>?_
 have k:=a
 clear a q
 show EvS B _ _ [some (.st (.int n)),some (.st d)]
 row_cond go
 exact⟨_,_,_,rfl,k⟩
def a2r:VP:=λss Q=>∃(n:Int)(es:List (Int × Int)),ss=[.st (webD n es)]/\0<=n/\n<=100/\InN n es/\es.length<=10000/\∀ tl,TiedL n (Tied es) tl->(∀ us∈tl,us.length<=20000)->Q (.own (OLL (tlD tl)))
theorem sc_tied_places:FnScope ["web","n","ties","tied","a","b"] ["web"] (aaj s_tied_places):=by row_cond sc
theorem ad7(T:Txt K mg):Can P w K mg base "tied_places" 1 ["web"] (spP K (a2r)):=by
 obtain⟨f,fd,D⟩:=T.d_tied_places
 refine D.can (D.fn.ok sc_tied_places (λvs H Q E h=>lenP h λss G q=>by obtain⟨n,es,rfl,J,L,p,y,k⟩:=q;rfl) (λcdv A outer s H vs Q E hr h=>?_))
 have nd:=sc_tied_places.nd
 refine⟨_,(aac (ab0 (pv 0) (abo rfl (aan (aag (i:=1) nd rfl (Or.inl rfl)) (aan (aag (i:=2) nd rfl (Or.inl rfl)) aba))))
  (aac (adb (i:=3) nd rfl (Or.inl rfl) rfl (N:=["place"]) (src:=[none]) (by exact aa9 rfl rfl rfl rfl rfl rfl) (acr rfl T.b_range (aaa (pv 1) aab)) (λ_ _ _ _=>(aag (i:=0) (show List.Nodup (["place"]:List Str) by decide +kernel) rfl (Or.inl rfl) (hf:=Or.inr rfl))) (λ_ _ _ _=>ab7) (λ_ _ _ _=>(abq aab)))
  (aac (aei aJ9 rfl (abl (pv 2)) (abo rfl (aan (aag (i:=4) nd rfl (Or.inl rfl)) (aan (aag (i:=5) nd rfl (Or.inl rfl)) aba)))
   (aac (abk (ac0 PySem.F.plainAttrs_list PySem.F.slot_list_append PySem.F.type_list_append ab2 (aak aal (pv 3) (pv 4) (λ_ _=>rfl)) (aaa (pv 5) aab)))
    (aaf (abk (ac0 PySem.F.plainAttrs_list PySem.F.slot_list_append PySem.F.type_list_append ab2 (aak aal (pv 3) (pv 5) (λ_ _=>rfl)) (aaa (pv 4) aab))))))
  (aaf (aas (pv 3)))))),?_⟩
 refine aa3 h λss G q B O=>?_
 refine exS2 ss q λn es c=>?_
 have J:=c.1
 have L:=c.2.1
 have p:=c.2.2.1
 have y:=c.2.2.2.1
 have k:=c.2.2.2.2
 clear c q
 show EvS B _ _ [some (.st (webD n es)),none,none,none,none,none]
 row_cond go
 rw[acz]
 refine⟨by lia,?_⟩
 row_cond go
 refine ae4 (λi e=>∃ x z tl,e=[some (.st (webD n es)),some (.st (.int n)),some (.st (.list (es.map prD))),some (.own (OLL (tlD tl))),x,z]/\TiedL n (Tied (es.take i)) tl/\∀ ws∈tl,ws.length<=2 * i)
  ⟨none,none,List.replicate n.toNat [],by simp[tlD],⟨by simp;lia,λi ws hi w=>?_⟩,λws M=>?_⟩ ?_ ?_
 ·rw[aH7] at hi
  split at hi
  ·cases hi;simp[Tied]
  ·cases hi
 ·have:=List.eq_of_mem_replicate M
  subst this;simp
 ·rintro i ⟨a,b⟩ e C l
  refine exS3 e l λx z tl c=>?_
  have o:=c.1
  have j:=c.2
  clear c l
  have hi:i<es.length:=(aA1.mp C).1
  obtain⟨a0,a1,b0,b1⟩:=p _ (aA2 C)
  dsimp only at a0 a1 b0 b1
  row_cond go
  obtain⟨ws,g,_⟩:=o.get a0 a1
  have I:=j ws (aA2 g)
  refine ajb (n:=a.toNat) (ds:=ws.map .int) rfl rfl rfl (by rw[aA3];exact ajc a0 (by rw[o.1];exact a1)) (ahz g) (by rw[aA3];lia) ?_
  dsimp only[List.set_cons_zero,List.set_cons_succ]
  have t:=o.put (q:=b) a0 a1 g
  rw[show ws.map PyData.int++[.int b]=(ws++[b]).map .int by simp,ap5]
  have d:∀ us∈tl.set a.toNat (ws++[b]),us.length<=2 * i+1:=λus r=>by
   rcases List.mem_or_eq_of_mem_set r with h|h
   ·have:=j us h;lia
   ·subst h;simp;lia
  generalize tl.set a.toNat (ws++[b])=tl2 at t d
  row_cond go
  obtain⟨ws,g,_⟩:=t.get b0 b1
  have I:=d ws (aA2 g)
  refine ajb (n:=b.toNat) (ds:=ws.map .int) rfl rfl rfl (by rw[aA3];exact ajc b0 (by rw[t.1];exact b1)) (ahz g) (by rw[aA3];lia) ?_
  dsimp only[List.set_cons_zero,List.set_cons_succ]
  rw[show ws.map PyData.int++[.int a]=(ws++[a]).map .int by simp,ap5]
  refine⟨_,_,_,rfl,(t.put (q:=a) b0 b1 g).iff λu v=>(Tied.snoc C u v).symm,λus r=>?_⟩
  rcases List.mem_or_eq_of_mem_set r with h|h
  ·have:=d us h;lia
  ·subst h;simp;lia
 ·rintro e l
  refine exS3 e l λx z tl c=>?_
  have o:=c.1
  have j:=c.2
  clear c l
  rw[aG8] at o
  row_cond go
  exact k tl o λus r=>by have:=j us r;lia
end
@[reducible] def tlV (tl:List (List Int)):PyData:=.list ((tlD tl).map .list)
def a36:VP:=λss Q=>∃(n a:Int)(T:Int->Int->Prop)(tl:List (List Int)),ss=[.st (tlV tl),.st (.int a)]/\n<=100/\TiedL n T tl/\(∀ u v,T u v->0<=v/\v<n)/\0<=a/\a<n/\Q (.own (OL (lab n.toNat (Gr.farO T a))))
section
theorem sc_far_from:FnScope ["tied","start","far","edge","beyond","place","other"] ["tied","start"] (aaj s_far_from):=by row_cond sc
theorem ae8(T:Txt K mg):Can P w K mg base "far_from" 1 ["tied","start"] (spP K (a36)):=by
 obtain⟨f,fd,D⟩:=T.d_far_from
 refine D.can (D.fn.ok sc_far_from (λvs H Q E h=>lenP h λss Q' q=>by obtain⟨n,a,T,tl,rfl,n1,R,hT,a0,a1,k⟩:=q;rfl) (λcdv A outer s H vs Q E hr h=>?_))
 have nd:=sc_far_from.nd
 refine ⟨_,(aac (aao (i:=2) nd rfl (Or.inl rfl) (aax a01 (abq (aaa ad1 aab)) (aai aa6 (by rfl) T.b_len abv (aaa (pv 0) aab))))
  (aac (ab0 aae (air (pv 2) (pv 1) af6))
  (aac (aao (i:=3) nd rfl (Or.inl rfl) (abq (aaa (pv 1) aab)))
  (aac (af5 aJ9 (a1g (pv 3))
   (aac (aao (i:=4) nd rfl (Or.inl rfl) (abq aab))
    (aac (aei aJ9 rfl (abl (pv 3)) (aag (i:=5) nd rfl (Or.inl rfl))
     (aaf (aei aJ9 rfl (abl (aak aal (pv 0) (pv 5) (λ_ _=>rfl))) (aag (i:=6) nd rfl (Or.inl rfl))
       (aaf (abn (aav ahn (aak aal (pv 2) (pv 6) (λ_ _=>rfl)) ad1 (aay _))
         (aac (ab0 (aax abu (aak aal (pv 2) (pv 5) (λ_ _=>rfl)) aae) (air (pv 2) (pv 6) af6))
          (aaf (abk (ac0 PySem.F.plainAttrs_list PySem.F.slot_list_append PySem.F.type_list_append ab2 (pv 4) (aaa (pv 6) aab)))))
         aa7)))))
    (aaf (aao (i:=3) nd rfl (Or.inl rfl) (pv 4))))))
  (aaf (aas (pv 2))))))),?_⟩
 refine aa3 h λss Q' q B hK=>?_
 refine exS4 ss q λn a T tl b=>?_
 have n1:=b.1
 have R:=b.2.1
 have hT:=b.2.2.1
 have a0:=b.2.2.2.1
 have a1:=b.2.2.2.2.1
 have k:=b.2.2.2.2.2
 clear b q
 show EvS B _ _ [some (.st (tlV tl)),some (.st (.int a)),none,none,none,none,none]
 have hl:tl.length=n.toNat:=by have:=R.1;lia
 row_cond go
 refine ay1 (by first|lia|(simp;done)|(simp;lia)) (by first|lia|(simp;done)|(simp;lia)) (by first|lia|(simp;done)|(simp;lia)) ?_
 simp only[aA3,hl]
 rw[show((n.toNat:Nat):Int).toNat=n.toNat by lia,ay8]
 row_cond go
 refine ark (j:=a.toNat) rfl (by rw[adk];exact ajc a0 (by lia)) ?_
 dsimp only[List.set_cons_zero,List.set_cons_succ,reS]
 rw[show(PyData.int 0)=.int ((0:Nat):Int) from rfl,ap4 a0 (by lia)]
 row_cond go
 refine ahx 3 rfl abf ?_
 dsimp only[List.set_cons_zero,List.set_cons_succ]
 refine afj (λm e=>∃ v4 L t far edge r,e=[some (.st (tlV tl)),some (.st (.int a)),some (.own (OL (lab n.toNat far))),some (.st (.list (edge.map .int))),v4,L,t]/\Gr.Ring T a r far edge/\(∀ v∈edge,0<=v/\v<n)/\m=2 * cnt far n.toNat+(if edge=[] then 0 else 1))
  ⟨_,none,none,none,_,[a],0,rfl,Gr.Ring.start,λv M=>by simp at M;subst M;exact⟨a0,a1⟩,rfl⟩ ?_
 rintro m e l
 refine exS6 e l λv4 L t far edge r b=>?_
 have O:=b.1
 have hb:=b.2.1
 have U:=b.2.2
 clear b l
 subst U
 row_cond go
 rw[aoy]
 cases hedge:edge with
 | nil =>
  subst hedge
  refine acp ?_
  row_cond go
  rw[ath (g:=Gr.farO T a) λv _ _=>O.fin v]
  exact k
 | cons e0 er =>
  refine acv ?_
  rw[← hedge]
  have Z:edge ≠ []:=by rw[hedge];simp
  row_cond go
  refine ae4 (λi e=>∃ L t c beyond,e=[some (.st (tlV tl)),some (.st (.int a)),some (.own (OL (lab n.toNat c))),some (.st (.list (edge.map .int))),some (.own (OL (beyond.map .int))),L,t]/\Gr.Mid T r far edge (λu=>u∈edge.take i) c beyond/\cnt c n.toNat+beyond.length=cnt far n.toNat/\∀ v∈beyond,0<=v/\v<n)
   ⟨L,t,far,[],rfl,Gr.Mid.start.imp λu G=>by simp at G,rfl,λv M=>by simp at M⟩ ?_ ?_
  ·rintro i p e hp l
   refine exS4 e l λL t c beyond b=>?_
   have z:=b.1
   have C:=b.2.1
   have o:=b.2.2
   clear b l
   have I:=aA2 hp
   obtain⟨p0,p1⟩:=hb p I
   obtain⟨ws,S,hw⟩:=R.get p0 p1
   have a2:atI ((tlD tl).map PyData.list) p=some (.list (ws.map .int)):=acd (f:=PyData.list) (acl p0 (ahz S))
   row_cond go
   have X:far p=some r:=(O.lab p r).mpr ⟨(O.edg p).mp I,aA6 _⟩
   refine ae4 (λj e=>∃ t c beyond,e=[some (.st (tlV tl)),some (.st (.int a)),some (.own (OL (lab n.toNat c))),some (.st (.list (edge.map .int))),some (.own (OL (beyond.map .int))),some (.st (.int p)),t]/\Gr.Mid T r far edge (λu=>u∈edge.take i) c beyond/\cnt c n.toNat+beyond.length=cnt far n.toNat/\(∀ v∈beyond,0<=v/\v<n)/\∀ x∈ws.take j,c x ≠ none)
    ⟨t,c,beyond,rfl,z,C,o,λx J=>by simp at J⟩ ?_ ?_
   ·rintro j u e G l
    refine exS3 e l λt c beyond b=>?_
    have z:=b.1
    have C:=b.2.1
    have o:=b.2.2.1
    have y:=b.2.2.2
    clear b l
    have tu:T p u:=(hw u).mp (aA2 G)
    obtain⟨N,u1⟩:=hT _ _ tu
    have a4:atI (lab n.toNat c) u=some (oD (c u)):=ag2 N (by lia)
    have a5:atI (lab n.toNat c) p=some (.int (r:Int)):=by
     rw[ag2 p0 (by lia),z.old p r X];rfl
    row_cond go
    rw[ay7]
    cases hf:c u with
    | none =>
     refine acv ?_
     row_cond go
     refine ark (j:=u.toNat) rfl (by rw[adk];exact ajc N (by lia)) ?_
     dsimp only[List.set_cons_zero,List.set_cons_succ,reS]
     rw[show(PyData.int ((r:Int)+1))=.int ((r+1:Nat):Int) by simp,ap4 N (by lia)]
     have a3:=ak1 (d:=r+1) N hf (n:=n.toNat) (by lia)
     have W:beyond.length<=cnt far n.toNat:=by lia
     have Y:∀ m,cnt far m<=m:=λm=>by
      induction m with
      |zero=>exact aA6 _
      |succ m ih=>unfold cnt;split <;> lia
     have:=Y n.toNat
     row_cond go
     refine⟨some (.st (.int u)),Gr.label c u (r+1),beyond++[u],by simp,z.add I tu hf,by simp;lia,λv M=>?_,λx J=>?_⟩
     ·rcases aA7.mp M with h|h
      ·exact o v h
      ·have:v=u:=by simpa using h
       subst this;exact⟨N,u1⟩
     ·by_cases hx2:x=u
      ·subst hx2;rw[Gr.label_same];simp
      ·rw[Gr.label_ne hx2]
       rcases aeq G J with h|h
       ·exact y x h
       ·exact absurd h hx2
    | some d =>
     refine acp ?_
     row_cond go
     refine⟨_,c,beyond,rfl,z,C,o,λx J=>?_⟩
     rcases aeq G J with h|h
     ·exact y x h
     ·subst h;rw[hf];simp
   ·rintro e l
    refine exS3 e l λt c beyond b=>?_
    have z:=b.1
    have C:=b.2.1
    have o:=b.2.2.1
    have y:=b.2.2.2
    clear b l
    rw[aG8] at y
    refine⟨_,_,c,beyond,rfl,?_,C,o⟩
    refine(z.did (u:=p) λx tx=>y x ((hw x).mpr tx)).imp λx J=>?_
    exact aeq hp J
  ·rintro e l
   refine exS4 e l λL t c beyond b=>?_
   have z:=b.1
   have C:=b.2.1
   have o:=b.2.2
   clear b l
   row_cond go
   refine⟨_,?_,_,_,_,c,beyond,r+1,rfl,O.next z λu G=>by rw[aG8];exact G,o,rfl⟩
   rw[aF6 Z]
   cases beyond with
   |nil=>rw[aF5 rfl];simp at C;lia
   |cons b0 br=>rw[aF6 (by simp)];simp at C;lia
end
def ao7:VP:=λss Q=>∃(n a:Int)(es:List (Int × Int)),ss=[.st (webD n es),.st (.int a)]/\0<=a/\a<n/\Q (.st .none)
def awh:VP:=λss Q=>∃(n a:Int)(es:List (Int × Int)),ss=[.st (webD n es),.st (.int a)]/\n<=100/\InN n es/\es.length<=10000/\0<=a/\a<n/\Q (.own (OL (lab n.toNat (Gr.farO (Tied es) a))))
def awi:VP:=λss Q=>∃(n:Int)(es:List (Int × Int)),ss=[.st (webD n es)]/\1<=n/\n<=100/\InN n es/\es.length<=10000/\∀ b:Bool,(b=true ↔ Joined n es)->Q (.st (.bool b))
section
theorem sc_need_place:FnScope ["web","thing"] ["web","thing"] (aaj s_need_place):=by row_cond sc
theorem aed(T:Txt K mg):Can P w K mg base "need_place" 4 ["web","thing"] (spP K (ao7)):=by
 obtain⟨f,fd,D⟩:=T.d_need_place
 refine D.can (D.fn.ok sc_need_place (λvs H Q E h=>lenP h λss c q=>by obtain⟨n,a,es,rfl,a0,a1,k⟩:=q;rfl) (λcdv A outer s H vs Q E hr h=>?_))
 have nd:=sc_need_place.nd
 refine⟨_,(aaf (abn (ada (ac9 (aad (ae7 T) hr (aaa (aak aal (pv 0) aae (λ_ _=>rfl)) (aaa (pv 1) aab)))))
   (aaf ad9)
   aa7)),?_⟩
 refine aa3 h λss c q B d=>?_
 refine exS3 ss q λn a es b=>?_
 have a0:=b.1
 have a1:=b.2.1
 have k:=b.2.2
 clear b q
 show EvS B _ _ [some (.st (webD n es)),some (.st (.int a))]
 row_cond go
 refine⟨_,_,rfl,?_⟩
 row_cond go
 have e:btwD 0 (n-1) (.int a)=true:=aD8 ⟨a0,by lia⟩
 rw[e]
 row_cond go
 exact k
theorem sc_all_far:FnScope ["web","a"] ["web","a"] (aaj s_all_far):=by row_cond sc
theorem ah8(T:Txt K mg):Can P w K mg base "all_far" 5 ["web","a"] (spP K (awh)):=by
 obtain⟨f,fd,D⟩:=T.d_all_far
 refine D.can (D.fn.ok sc_all_far (λvs H Q E h=>lenP h λss i q=>by obtain⟨n,a,es,rfl,g,c,d,a0,a1,k⟩:=q;rfl) (λcdv A outer s H vs Q E hr h=>?_))
 have nd:=sc_all_far.nd
 refine⟨_,(aac (abk (aad (aed T) hr (aaa (pv 0) (aaa (pv 1) aab))))
  (aaf (aas (aad (ae8 T) hr (aaa (aad (ad7 T) hr (aaa (pv 0) aab)) (aaa (pv 1) aab)))))),?_⟩
 refine aa3 h λss i q B l=>?_
 refine exS3 ss q λn a es b=>?_
 have g:=b.1
 have c:=b.2.1
 have d:=b.2.2.1
 have a0:=b.2.2.2.1
 have a1:=b.2.2.2.2.1
 have k:=b.2.2.2.2.2
 clear b q
 show EvS B _ _ [some (.st (webD n es)),some (.st (.int a))]
 row_cond go
 refine⟨n,a,es,rfl,a0,a1,?_⟩
 row_cond go
 refine⟨n,es,rfl,by lia,g,c,d,λtl j _=>?_⟩
 refine a2b ?_
 row_cond go
 exact⟨n,a,Tied es,tl,rfl,g,j,λu v h=>(h.in c).2,a0,a1,k⟩
theorem sc_is_joined:FnScope ["web"] ["web"] (aaj s_is_joined):=by row_cond sc
theorem agr(T:Txt K mg):Can P w K mg base "is_joined" 6 ["web"] (spP K (awi)):=by
 obtain⟨f,fd,D⟩:=T.d_is_joined
 refine D.can (D.fn.ok sc_is_joined (λvs H Q E h=>lenP h λss i q=>by obtain⟨n,es,rfl,l,g,c,b,k⟩:=q;rfl) (λcdv A outer s H vs Q E hr h=>?_))
 have nd:=sc_is_joined.nd
 refine⟨_,(aaf (aas (acm (adx hr.units) ad1 (aad (ah8 T) hr (aaa (pv 0) (aaa aae aab))) rfl))),?_⟩
 refine aa3 h λss i q B o=>?_
 refine exS2 ss q λn es a=>?_
 have l:=a.1
 have g:=a.2.1
 have c:=a.2.2.1
 have b:=a.2.2.2.1
 have k:=a.2.2.2.2
 clear a q
 show EvS B _ _ [some (.st (webD n es))]
 row_cond go
 refine⟨n,0,es,rfl,g,c,b,by lia,by lia,?_⟩
 row_cond go
 refine adz rfl ati (by simp[PyData.depth]) ?_
 row_cond go
 refine k _ ?_
 rw[aF5 rfl,Bool.not_eq_true',← Bool.not_eq_true,ay9]
 constructor
 ·intro h v v0 j
  cases e:Gr.farO (Tied es) 0 v with
  |some d=>exact⟨d,Gr.farO_some.mp e⟩
  |none=>exact absurd ⟨v,v0,by lia,e⟩ h
 ·rintro h ⟨v,v0,j,e⟩
  obtain⟨d,hd⟩:=h v v0 (by lia)
  exact Gr.farO_none.mp e d hd
end
def dsF(es:List (Int × Int))(u v:Int):Int:=(((Gr.farO (Tied es) u v).getD 0:Nat):Int)
def rowD(n:Nat)(r:Int->Int):List PyData:=(List.range n).map λ(i:Nat)=>.int (r (i:Int))
def matD(n:Nat)(m:Int->Int->Int):List PyData:=(List.range n).map λ(u:Nat)=>.list (rowD n (m (u:Int)))
theorem auc{n:Nat}{r:Int->Int}{x:Int}(a:0<=x)(b:x<n):atI (rowD n r) x=some (.int (r x)):=by
 have:=ahj (xs:=rowD n r) (j:=x.toNat) (v:=.int (r x)) (by
  unfold rowD
  rw[aA5,aA0 (by simp;lia)]
  simp[Int.max_eq_left a])
 rwa [show((x.toNat:Nat):Int)=x by lia] at this
theorem an6{n:Nat}{m:Int->Int->Int}{x:Int}(a:0<=x)(b:x<n):atI (matD n m) x=some (.list (rowD n (m x))):=by
 have:=ahj (xs:=matD n m) (j:=x.toNat) (v:=.list (rowD n (m x))) (by
  unfold matD
  rw[aA5,aA0 (by simp;lia)]
  simp[Int.max_eq_left a])
 rwa [show((x.toNat:Nat):Int)=x by lia] at this
theorem azy:(matD n m).length=n:=by simp[matD]
theorem ae9:rowD n r=((List.range n).map λ(i:Nat)=>r (i:Int)).map .int:=by simp[rowD]
theorem agj(f:Joined n es)(c:0<=u)(a:u<n)(v0:0<=v)(b:v<n):∃ d,Gr.farO (Tied es) u v=some d:=by
 cases e:Gr.farO (Tied es) u v with
 |some d=>exact⟨d,rfl⟩
 | none =>
  obtain⟨k,g⟩:=f.conn u v c a v0 b
  obtain⟨d,_,hd⟩:=Gr.Dist.of_walk g
  exact absurd hd (Gr.farO_none.mp e d)
theorem aqr(c:Joined n es)(b:0<=u)(a:u<n):lab n.toNat (Gr.farO (Tied es) u)=rowD n.toNat (dsF es u):=by
 unfold lab rowD
 refine aE9 λi hi=>?_
 obtain⟨d,e⟩:=agj c b a (show 0<=(i:Int) by lia) (by have:=aB9.mp hi;lia)
 simp only[dsF,e,oD,Option.getD_some]
theorem aee{α:Type}{K:Frag}{src:List (Option Nat)}{a:En}{te:TE}{R:List PyData->En->Prop}{xs:List α}{f : α->PyData}(g : α->PyData)(l:noIo (aaq src a)=true)(z:xs.length<=999999)
  (h:∀ x∈xs,∀ c:Bs,c.K=K->Ev c te (some (.st (f x))::aaq src a) λy n=>y=g x/\n=some (.st (f x))::aaq src a)
  (t:R (xs.map g) a):LcV K (none::src) (aa0 0) tYes te (xs.map f) a R:=by
 have b:noIo (aaq (none::src) a)=true:=by
  show((none::aaq src a).all λs=>!isIo s)=true
  rw[List.all_cons]
  exact(aH1 _ _).mpr ⟨rfl,l⟩
 refine⟨λi ys e=>ys=(xs.take i).map g/\∃ o,e=stO o::aaq src a,⟨by simp,none,rfl⟩,?_,?_,?_⟩
 ·rintro i ys e ⟨_,o,rfl⟩
  exact⟨⟨isIo_stO.symm,ady⟩,aem aeg⟩
 ·rintro i d ys e hd ⟨rfl,o,rfl⟩ c w
  rw[aA5] at hd
  cases hx:xs[i]? with
  |none=>rw[hx] at hd;cases hd
  | some x =>
   rw[hx] at hd
   cases hd
   have hi:i<xs.length:=(aA1.mp hx).1
   have u:xs.take (i+1)=xs.take i++[x]:=by rw[aH4,hx];rfl
   refine aa4 (aew ?_)
   rw[aF5 rfl]
   intro σ G H F Q I k
   refine h x (aA2 hx) c w σ G H F Q I λv G' H' F' d' n r g' q ⟨p,j⟩=>k v G' H' F' d' n r g' q ?_
   subst p j
   refine⟨by simp;lia,by rw[u];simp,some _,rfl⟩
 ·rintro ys e ⟨rfl,o,rfl⟩
  rw[ahv b]
  simpa using t
theorem adg(h:ad4 ns x)(g:ad4 ns y):x=y:=Int.le_antisymm (g.2 x h.1) (h.2 y g.1)
theorem af3:∀{ns:List Int},ns ≠ []->∃ x,ad4 ns x
 |[a],_=>⟨a,by simp[ad4]⟩
 | a::b::r,_=>by
  obtain⟨x,d,hm⟩:=af3 (ns:=b::r) (by simp)
  by_cases h:a<=x
  ·exact⟨x,aB5 _ d,λy c=>by
    rcases aA9.mp c with rfl|c
    ·exact h
    ·exact hm y c⟩
  ·exact⟨a,aB8,λy c=>by
    rcases aA9.mp c with rfl|c
    ·exact Int.le_refl _
    ·have:=hm y c;lia⟩
theorem ake(b:1<=n)(m:Int->Int->Int):∃ a:Nat->Int,∀ u:Nat,ad4 ((List.range n).map λ(i:Nat)=>m (u:Int) (i:Int)) (a u) :=
 ⟨λu=>Classical.choose (af3 (ns:=(List.range n).map λ(i:Nat)=>m (u:Int) (i:Int)) (by simp;lia)),λu=>Classical.choose_spec (af3 (ns:=(List.range n).map λ(i:Nat)=>m (u:Int) (i:Int)) (by simp;lia))⟩
theorem awj:zipD (rowD n r) (rowD n q)=(List.range n).map λ(i:Nat)=>.tuple [.int (r (i:Int)),.int (q (i:Int))]:=by
 unfold zipD rowD
 rw[List.zip_map',aE0]
 rfl
def an7:VP:=λss Q=>∃(n:Int)(es:List (Int × Int)),ss=[.st (webD n es)]/\1<=n/\n<=100/\InN n es/\es.length<=10000/\Joined n es/\Q (.st .none)
def aud:VP:=λss Q=>∃(n:Int)(es:List (Int × Int)),ss=[.st (webD n es)]/\1<=n/\n<=100/\InN n es/\es.length<=10000/\Joined n es/\Q (.own (OL (matD n.toNat (dsF es))))
def adl(n:Nat)(m:Int->Int->Int)(x:Int):Prop:=(∃ u v:Int,0<=u/\u<n/\0<=v/\v<n/\m u v=x)/\∀ u v:Int,0<=u->u<n->0<=v->v<n->m u v<=x
def aue:VP:=λss Q=>∃(n:Nat)(m:Int->Int->Int),ss=[.st (.list (matD n m))]/\1<=n/\n<=1000/\∀ x,adl n m x->Q (.st (.int x))
structure FreeAll(n:Int)(es fs:List (Int × Int)):Prop where
 mem:∀ p:Int × Int,p∈fs ↔ (0<=p.1/\p.1<p.2/\p.2<n/\p ∉ es)
 rise:Rise fs
section
theorem sc_need_joined:FnScope ["web"] ["web"] (aaj s_need_joined):=by row_cond sc
theorem ajl(T:Txt K mg):Can P w K mg base "need_joined" 7 ["web"] (spP K (an7)):=by
 obtain⟨f,fd,D⟩:=T.d_need_joined
 refine D.can (D.fn.ok sc_need_joined (λvs H Q E h=>lenP h λss l q=>by obtain⟨n,es,rfl,g,j,d,c,i,k⟩:=q;rfl) (λcdv A outer s H vs Q E hr h=>?_))
 have nd:=sc_need_joined.nd
 refine⟨_,(aaf (abn (ada (ac9 (aad (agr T) hr (aaa (pv 0) aab))))
   (aaf ad9)
   aa7)),?_⟩
 refine aa3 h λss l q B o=>?_
 refine exS2 ss q λn es a=>?_
 have g:=a.1
 have j:=a.2.1
 have d:=a.2.2.1
 have c:=a.2.2.2.1
 have i:=a.2.2.2.2.1
 have k:=a.2.2.2.2.2
 clear a q
 show EvS B _ _ [some (.st (webD n es))]
 row_cond go
 refine⟨n,es,rfl,g,j,d,c,λb hb=>?_⟩
 have:b=true:=hb.mpr i
 subst this
 row_cond go
 exact k
theorem sc_far_rows:FnScope ["web","tied"] ["web"] (aaj s_far_rows):=by row_cond sc
theorem adh(T:Txt K mg):Can P w K mg base "far_rows" 8 ["web"] (spP K (aud)):=by
 obtain⟨f,fd,D⟩:=T.d_far_rows
 refine D.can (D.fn.ok sc_far_rows (λvs H Q E h=>lenP h λss r q=>by obtain⟨n,es,rfl,o,d,b,c,l,k⟩:=q;rfl) (λcdv A outer s H vs Q E hr h=>?_))
 have nd:=sc_far_rows.nd
 refine⟨_,(aac (abk (aad (ajl T) hr (aaa (pv 0) aab)))
  (aac (aao (i:=1) nd rfl (Or.inr rfl) (aad (ad7 T) hr (aaa (pv 0) aab)))
  (aaf (aas (adr rfl (N:=["place","tied"]) (src:=[none,some 1]) (by exact aa9 rfl rfl rfl rfl rfl rfl) (acr rfl T.b_range (aaa (aai aa6 (by rfl) T.b_len abv (aaa (pv 1) aab)) aab)) (λ_ _ _ _=>(aag (i:=0) (show List.Nodup (["place","tied"]:List Str) by decide +kernel) rfl (Or.inl rfl) (hf:=Or.inr rfl))) (λ_ _ _ _=>ab7) (λ_ _ _ _=>(aad (ae8 T) hr (aaa (pv 1) (aaa (pv 0) aab))))))))),?_⟩
 refine aa3 h λss r q B y=>?_
 refine exS2 ss q λn es a=>?_
 have o:=a.1
 have d:=a.2.1
 have b:=a.2.2.1
 have c:=a.2.2.2.1
 have l:=a.2.2.2.2.1
 have k:=a.2.2.2.2.2
 clear a q
 show EvS B _ _ [some (.st (webD n es)),none]
 row_cond go
 refine⟨n,es,rfl,o,d,b,c,l,?_⟩
 row_cond go
 refine⟨n,es,rfl,by lia,d,b,c,λtl p _=>?_⟩
 refine abc ahy ?_
 have t:tl.length=n.toNat:=by have:=p.1;lia
 have g:((tlD tl).map PyData.list).length=n.toNat:=by simp[tlD,t]
 row_cond go
 rw[g,show(((n.toNat:Nat):Int)).toNat=n.toNat by lia]
 unfold rngD
 refine aee (λu:Nat=>.list (rowD n.toNat (dsF es (u:Int)))) rfl (by simp;lia) (λu x C z=>?_) ?_
 ·have j:(u:Int)<n:=by have:=aB9.mp x;lia
  row_cond go
  refine⟨n,0+(u:Int),Tied es,tl,rfl,d,p,λu v h=>(h.in b).2,by lia,by lia,afi ⟨?_,rfl⟩⟩
  rw[Int.zero_add,aqr l (by lia) j]
 ·row_cond go
  exact k
theorem sc_most_far:FnScope ["rows"] ["rows"] (aaj s_most_far):=by row_cond sc
theorem ag9(T:Txt K mg):Can P w K mg base "most_far" 1 ["rows"] (spP K (aue)):=by
 obtain⟨f,fd,D⟩:=T.d_most_far
 refine D.can (D.fn.ok sc_most_far (λvs H Q E h=>lenP h λss o q=>by obtain⟨n,m,rfl,g,t,k⟩:=q;rfl) (λcdv A outer s H vs Q E hr h=>?_))
 have nd:=sc_most_far.nd
 refine⟨_,(aaf (aas (aai (ab4 rfl) (by rfl) T.b_max abw (aaa (adr rfl (N:=["row"]) (src:=[none]) (by exact aa9 rfl rfl rfl rfl rfl rfl) (abl (pv 0)) (λ_ _ _ _=>(aag (i:=0) (show List.Nodup (["row"]:List Str) by decide +kernel) rfl (Or.inl rfl) (hf:=Or.inr rfl))) (λ_ _ _ _=>ab7) (λ_ _ _ _=>(aai (show abi _ (.builtin "max") (afh K) from(ab4 rfl)) (by rfl) T.b_max abw (aaa (pv 0) aab)))) aab)))),?_⟩
 refine aa3 h λss o q B C=>?_
 refine exS2 ss q λn m a=>?_
 have g:=a.1
 have t:=a.2.1
 have k:=a.2.2
 clear a q
 show EvS B _ _ [some (.st (.list (matD n m)))]
 obtain⟨c,b⟩:=ake g m
 row_cond go
 unfold matD
 refine aee (λu:Nat=>.int (c u)) rfl (by simp;lia) (λu L J F=>?_) ?_
 ·row_cond go
  rw[ae9]
  exact ach (by simp;lia) λx d=>⟨by rw[adg d (b u)],rfl⟩
 ·row_cond go
  rw[show(List.range n).map (λu:Nat=>PyData.int (c u))=((List.range n).map c).map .int by rw[aE0];rfl]
  refine ach (by simp;lia) λx d=>?_
  row_cond go
  refine k x ⟨?_,λu v z I v0 y=>?_⟩
  ·obtain⟨i,hi,e⟩:=aB7.mp d.1
   obtain⟨j,p,r⟩:=aB7.mp (b i).1
   exact⟨i,j,by lia,by have:=aB9.mp hi;lia,by lia,by have:=aB9.mp p;lia,r.trans e⟩
  ·have l:=(b u.toNat).2 (m ((u.toNat:Nat):Int) ((v.toNat:Nat):Int)) (aB7.mpr ⟨v.toNat,aB9.mpr (by lia),rfl⟩)
   have G:=d.2 (c u.toNat) (aB7.mpr ⟨u.toNat,aB9.mpr (by lia),rfl⟩)
   rw[show((u.toNat:Nat):Int)=u by lia,show((v.toNat:Nat):Int)=v by lia] at l
   lia
end
def stD(g c t:Int):List PyData:=[.int g,.int c,.int t]
def a2s:VP:=λss Q=>∃(ns:List Int)(k:Int),ss=[.scr ns,.st (.int k)]/\0<=k/\k<1048576/\∀ c,Q (.st (.int c))
def azz:VP:=λss Q=>∃ c:Int,ss=[.st (.int c)]/\∀ g t u,Q (.own (OL (stD g t u)))
def a2t:VIo:=λA ss Q=>∃ g c t many:Int,A=OL (stD g c t)/\ss=[.st (.int many)]/\0<many/\many<1073741824/\∀ r g' c' t':Int,0<=r->r<many->Q (OL (stD g' c' t')) (.st (.int r))
section
theorem sc_law_cell:FnScope ["script","k"] ["script","k"] (aaj s_law_cell):=by row_cond sc
theorem an8(T:Txt K mg):Can P w K mg base "_law_cell" 1 ["script","k"] (spP K (a2s)):=by
 obtain⟨f,fd,D⟩:=T.d_law_cell
 refine D.can (D.fn.ok sc_law_cell (λvs H Q E h=>lenP h λss i q=>by obtain⟨ns,k,rfl,d,g,b⟩:=q;rfl) (λcdv A outer s H vs Q E hr h=>?_))
 have nd:=sc_law_cell.nd
 refine⟨_,(aac (abn (aav alz (pv 1) (aai aa6 (by rfl) T.b_len abv (aaa (pv 0) aab)) (aay _))
   (aaf (aas (aak aal (pv 0) (pv 1) (λ_ _=>rfl))))
   aa7)
  (aaf (aas (aax abu (aax abu (aax ad2 (aax ad2 aae (pv 1)) (pv 1)) (aax ad2 aae (pv 1))) aae)))),?_⟩
 refine aa3 h λss i q B n=>?_
 refine exS2 ss q λns k a=>?_
 have d:=a.1
 have g:=a.2.1
 have b:=a.2.2
 clear a q
 show EvS B _ _ [some (.scr ns),some (.st (.int k))]
 row_cond go
 refine ado (λl=>?_) (λl=>?_)
 ·have c:k.toNat<ns.length:=by lia
  have j:atI ns k=some ns[k.toNat]:=acl d (aA0 c)
  row_cond go
  exact b _
 ·row_cond go
  exact b _
theorem sc_law_store:FnScope ["cell","great"] ["cell"] (aaj s_law_store):=by row_cond sc
theorem alv(T:Txt K mg):Can P w K mg base "_law_store" 1 ["cell"] (spP K (azz)):=by
 obtain⟨f,fd,D⟩:=T.d_law_store
 refine D.can (D.fn.ok sc_law_store (λvs H Q E h=>lenP h λss b q=>by obtain⟨c,rfl,k⟩:=q;rfl) (λcdv A outer s H vs Q E hr h=>?_))
 have nd:=sc_law_store.nd
 refine⟨_,(aac (aao (i:=1) nd rfl (Or.inl rfl) aae)
  (aac (abn (aav aw5 (pv 0) (aye (n:=1000000000000000000) (by decide) (by refine⟨by decide,by decide,by decide⟩)) (aay _))
   (aaf (aao (i:=1) nd rfl (Or.inl rfl) (pv 0)))
   aa7)
  (aaf (aas (abq (aaa (pv 1) (aaa (aax afw (pv 0) aae) (aaa aae aab)))))))),?_⟩
 refine aa3 h λss b q B g=>?_
 refine exS1 ss q λc a=>?_
 have k:=a
 clear a q
 show EvS B _ _ [some (.st (.int c)),none]
 row_cond go
 refine ado (λd=>?_) (λd=>?_)
 ·row_cond go
  exact k _ _ _
 ·row_cond go
  exact k _ _ _
theorem sc_law_take:FnScope ["store","many","told","one"] ["store","many"] (aaj s_law_take):=by row_cond sc
theorem alw(T:Txt K mg):Can P w K mg base "_law_take" 1 ["store","many"] (spI K (a2t)):=by
 obtain⟨f,fd,D⟩:=T.d_law_take
 refine D.can (D.fn.ok sc_law_take (λvs H Q E h=>lenI h λA ss b q=>by obtain⟨g,c,t,many,rfl,rfl,a,d,k⟩:=q;rfl) (λcdv A outer s H vs Q E hr h=>?_))
 have nd:=sc_law_take.nd
 refine⟨_,(aac (abn (aav al0 (aak aal (pv 0) aae (λ_ _=>rfl)) aae (aay _))
   (aac (aao (i:=2) nd rfl (Or.inl rfl) (aax afw (aak aal (pv 0) aae (λ_ _=>rfl)) (pv 1)))
    (aac (ab0 (aax apc (aak aal (pv 0) aae (λ_ _=>rfl)) (pv 1)) (air (pv 0) aae af6))
    (aaf (aas (pv 2)))))
   aa7)
  (aac (ab0 (aax abu (aak aal (pv 0) aae (λ_ _=>rfl)) aae) (air (pv 0) aae af6))
  (aac (aao (i:=3) nd rfl (Or.inl rfl) (aax afw (aax ad2 (aax abu (aak aal (pv 0) aae (λ_ _=>rfl)) (aax ad2 aae (aak aal (pv 0) aae (λ_ _=>rfl)))) aae) aae))
  (aac (aao (i:=3) nd rfl (Or.inl rfl) (aax afw (aax ad2 (pv 3) (pv 3)) aae))
  (aac (aao (i:=3) nd rfl (Or.inl rfl) (aax afw (aax ad2 (aax abu (pv 3) (aax ad2 aae (aak aal (pv 0) aae (λ_ _=>rfl)))) aae) aae))
  (aaf (aas (aax afw (aax apc (pv 3) aae) (pv 1))))))))),?_⟩
 refine ahs h λl ss b q B n=>?_
 obtain⟨g,c,t,many,rfl,rfl,a,d,k⟩:=q
 show EvS B _ _ [some (.io (OL (stD g c t))),some (.st (.int many)),none,none]
 unfold stD at *
 row_cond go
 refine ado (λj=>?_) (λj=>?_)
 ·row_cond go
  exact k _ _ _ _ (Int.emod_nonneg _ (by lia)) (Int.emod_lt_of_pos _ a)
 ·row_cond go
  exact k _ _ _ _ (Int.emod_nonneg _ (by lia)) (Int.emod_lt_of_pos _ a)
end
def OSt:Own:=exO λq:Int × Int × Int=>OL (stD q.1 q.2.1 q.2.2)
theorem az0(h:spI K (λA ss Q=>A=OSt/\∀ g c t,f (OL (stD g c t)) ss λA' s=>(∃ g c t,A'=OL (stD g c t))/\Q OSt s) vs H Q E):spI K f vs H Q E:=by
 obtain⟨v0,l,G,R,A,ss,F0,n,rfl,gh,ft,j,ap,fg,fr,d,⟨rfl,hf⟩,b⟩:=h
 obtain⟨⟨g,c,t⟩,ap⟩:=ap
 refine⟨v0,l,G,R,OL (stD g c t),ss,F0,_,rfl,gh,ft,j,ap,fg,fr,d,hf g c t,λA' s a v G' H' F' Fv o=>?_⟩
 obtain⟨⟨g',i,t',rfl⟩,q⟩:=a
 exact b OSt s q v G' H' F' Fv { o with ap:=⟨(g',i,t'),o.ap⟩ }
theorem awk(c:Can P w K mg base x k ps sp)(h:∀ vs H Q E,a vs H Q E->sp vs H Q E):Can P w K mg base x k ps a:=by
 obtain⟨f,fd,ok,m,kp,b⟩:=c
 exact⟨f,fd,ok.imp h,m,kp,b⟩
def az1:VIo:=λA ss Q=>∃ many:Int,A=OSt/\ss=[.st (.int many)]/\0<many/\many<1073741824/\∀ r:Int,0<=r->r<many->Q OSt (.st (.int r))
theorem az2(hf:∀ A ss a,f A ss a->b A ss a)(h:spI K f vs H Q E):spI K b vs H Q E:=by
 obtain⟨v0,i,G,R,A,ss,F0,a,rfl,gh,ft,g,ap,fg,fr,c,q,d⟩:=h
 exact⟨v0,i,G,R,A,ss,F0,a,rfl,gh,ft,g,ap,fg,fr,c,hf _ _ _ q,d⟩
theorem awl(i:Nat)(e:env[i]?=some (some (.own (OL (stD g c u)))))(q:EvS B t D' (env.set i (some (.own OSt)))):EvS B t D' env:=λσ G H F D I r=>q σ G H F D (I.weakO e λ_ _ _ _ h=>⟨(g,c,u),h⟩) r
section
theorem aaz(T:Txt K mg):Can P w K mg base "_law_take" 1 ["store","many"] (spI K (az1)) :=
 awk (alw T) λvs H Q E h=>az0 (az2 (λA ss j q=>by
  obtain⟨many,rfl,rfl,a,f,k⟩:=q
  exact⟨rfl,λg c t=>⟨g,c,t,many,rfl,rfl,a,f,λr g' i t' b d=>⟨⟨g',i,t',rfl⟩,k r b d⟩⟩⟩) h)
end
structure TreeT(n:Int)(ps:List (Int × Int)):Prop where
 len:(ps.length:Int)=n-1
 at':∀(i:Nat) p,ps[i]?=some p->0<=p.1/\p.1<p.2/\p.2=(i:Int)+1
def az3:VIo:=λA ss Q=>∃ n kind:Int,A=OSt/\ss=[.st (.int n),.st (.int kind)]/\1<=n/\n<=60/\0<=kind/\kind<4/\∀ ps,TreeT n ps->Q OSt (.own (OL (ps.map prD)))
section
theorem sc_law_tree_ties:FnScope ["store","n","kind","ties","b","a"] ["store","n","kind"] (aaj s_law_tree_ties):=by row_cond sc
theorem ah4(T:Txt K mg):Can P w K mg base "_law_tree_ties" 2 ["store","n","kind"] (spI K (az3)):=by
 obtain⟨f,fd,D⟩:=T.d_law_tree_ties
 refine D.can (D.fn.ok sc_law_tree_ties (λvs H Q E h=>lenI h λA ss N q=>by obtain⟨n,kind,rfl,rfl,S,W,R,k1,k⟩:=q;rfl) (λcdv A outer s H vs Q E hr h=>?_))
 have nd:=sc_law_tree_ties.nd
 refine⟨_,(aac (aao (i:=3) nd rfl (Or.inl rfl) (abq aab))
  (aac (aei aJ9 rfl (asc rfl T.b_range (aaa aae (aaa (pv 1) aab))) (aag (i:=4) nd rfl (Or.inl rfl))
   (aac (aao (i:=5) nd rfl (Or.inl rfl) (aak aal (abq (aaa (aad (aaz T) hr (aaa (pv 0) (aaa (pv 4) aab))) (aaa (aax adn (aax adn (pv 4) aae) (aad (aaz T) hr (aaa (pv 0) (aaa (aai (act rfl) (by rfl) T.b_min ad3 (aaa (pv 4) (aaa aae aab))) aab)))) (aaa (aad (aaz T) hr (aaa (pv 0) (aaa (aai (act rfl) (by rfl) T.b_min ad3 (aaa (pv 4) (aaa aae aab))) aab))) (aaa (aax adn (pv 4) aae) aab))))) (pv 2) (λ_ _=>rfl)))
    (aaf (abk (ac0 PySem.F.plainAttrs_list PySem.F.slot_list_append PySem.F.type_list_append ab2 (pv 3) (aaa (abp (aaa (pv 5) (aaa (pv 4) aab))) aab))))))
  (aaf (aas (pv 3))))),?_⟩
 refine ahs h λY ss N q B Z=>?_
 obtain⟨n,kind,rfl,rfl,S,W,R,k1,k⟩:=q
 show EvS B _ _ [some (.io OSt),some (.st (.int n)),some (.st (.int kind)),none,none,none]
 row_cond go
 refine aii (λi e=>∃ l v ps,e=[some (.io OSt),some (.st (.int n)),some (.st (.int kind)),some (.own (OL (List.map prD ps))),l,v]/\ps.length=i/\∀(j:Nat) p,ps[j]?=some p->0<=p.1/\p.1<p.2/\p.2=(j:Int)+1) ⟨_,_,[],rfl,rfl,λj p h=>by simp at h⟩ ?_ ?_
 ·rintro i e hi b
  refine exS3 e b λl v ps a=>?_
  have g:=a.1
  have c:=a.2
  clear a b
  have M:1+(i:Int)<n:=by lia
  row_cond go
  refine⟨1+(i:Int),rfl,rfl,by lia,by lia,λI o y=>?_⟩
  row_cond go
  refine⟨_,rfl,rfl,by split <;> lia,by split <;> lia,λJ L u=>?_⟩
  have U:J<1+(i:Int):=by split at u <;> lia
  row_cond go
  refine⟨_,rfl,rfl,by split <;> lia,by split <;> lia,λz C r=>?_⟩
  have G:z<1+(i:Int):=by split at r <;> lia
  obtain⟨x,hx,X,O⟩:∃ x:Int,atI [PyData.int I,PyData.int (1+(i:Int)-1-J),PyData.int z,PyData.int (1+(i:Int)-1)] kind=some (.int x)/\0<=x/\x<1+(i:Int):=by
   rcases(show kind=0\/kind=1\/kind=2\/kind=3 by lia) with rfl|rfl|rfl|rfl
   ·exact⟨I,rfl,o,y⟩
   ·exact⟨_,rfl,by lia,by lia⟩
   ·exact⟨z,rfl,C,G⟩
   ·exact⟨_,rfl,by lia,by lia⟩
  row_cond go
  refine⟨_,_,ps++[(x,1+(i:Int))],by rw[aE5];rfl,by rw[aB1,g];rfl,λj p d=>?_⟩
  by_cases hj:j<ps.length
  ·rw[aC3 hj] at d
   exact c j p d
  ·have t:=(aA1.mp d).1
   simp at t
   have:j=ps.length:=by lia
   subst this
   rw[aC8 (aA6 _),aI6] at d
   cases d
   exact⟨X,O,by simp only;lia⟩
 ·rintro e b
  refine exS3 e b λl v ps a=>?_
  have g:=a.1
  have c:=a.2
  clear a b
  row_cond go
  exact k ps ⟨by lia,c⟩
end
theorem ak9{α β:Type}(f : α->β):∀(l:List α)(k:Nat),(l.map f).eraseIdx k=(l.eraseIdx k).map f
 |[],_=>rfl
 |_::_,0=>rfl
 |a::l,k+1=>by simp[ak9 f l k]
theorem a2u{j:Int}{n:Nat}(b:0<=j)(a:j<n):seqIndex? j n=some j.toNat:=by unfold seqIndex?;simp;lia
theorem a2v{left:List Int}{k:Nat}{y:Int}(a:left[k]?=some y):(left.map PyData.int)[k]?=some (.int y):=by rw[aA5,a];rfl
theorem a2w(a:List Int)(p:Int × Int):PyData.tuple [.int (if aa8 a p.2<aa8 a p.1 then aa8 a p.2 else aa8 a p.1),.int (if aa8 a p.2 > aa8 a p.1 then aa8 a p.2 else aa8 a p.1)]=prD (reP a p):=by
 unfold reP prD
 split <;> split <;> first|rfl|lia|(simp only[PyData.tuple.injEq,List.cons.injEq,PyData.int.injEq,and_true];lia)
def az4:VIo:=λA ss Q=>∃(n:Int)(ps:List (Int × Int)),A=OSt/\ss=[.st (.int n),.st (.list (ps.map prD))]/\1<=n/\n<=60/\InN n ps/\ps.length<=2000 /\
 ∀(row:List Int)(qs:List (Int × Int)),Order n row->qs.Nodup->(∀ x,x∈qs ↔ x∈ps.map (reP row))->lexS (qs.map p2)->Q OSt (.own (OL (qs.map prD)))
section
theorem sc_law_renumbered:FnScope ["store","n","ties","left","numbers","found","a","b"] ["store","n","ties"] (aaj s_law_renumbered):=by row_cond sc
theorem aha(T:Txt K mg):Can P w K mg base "_law_renumbered" 2 ["store","n","ties"] (spI K (az4)):=by
 obtain⟨f,fd,D⟩:=T.d_law_renumbered
 refine D.can (D.fn.ok sc_law_renumbered (λvs H Q E h=>lenI h λA ss M q=>by obtain⟨n,ps,rfl,rfl,R,W,v,x,k⟩:=q;rfl) (λcdv A outer s H vs Q E hr h=>?_))
 have nd:=sc_law_renumbered.nd
 refine⟨_,(aac (aao (i:=3) nd rfl (Or.inr rfl) (av0 rfl T.b_list rfl T.b_range rfl (aaa (pv 1) aab)))
  (aac (adb (i:=4) nd rfl (Or.inl rfl) rfl (N:=["k","left","store"]) (src:=[none,some 3,some 0]) (by exact aa9 rfl rfl rfl rfl rfl rfl) (acr rfl T.b_range (aaa (pv 1) aab)) (λ_ _ _ _=>(aag (i:=0) (show List.Nodup (["k","left","store"]:List Str) by decide +kernel) rfl (Or.inl rfl) (hf:=Or.inr rfl))) (λ_ _ _ _=>ab7) (λ_ _ _ _=>(show PE _ _ (tBM K "list" aiv _ _) from(ac0 PySem.F.plainAttrs_list PySem.F.slot_list_pop PySem.F.type_list_pop auu (pv 1) (aaa (aad (aaz T) hr (aaa (pv 2) (aaa (aai (show abi _ (.builtin "len") (rLen K) from aa6) (by rfl) T.b_len abv (aaa (pv 1) aab)) aab))) aab)))))
  (aac (aao (i:=5) nd rfl (Or.inl rfl) (abq aab))
  (aac (aei aJ9 rfl (abl (pv 2)) (abo rfl (aan (aag (i:=6) nd rfl (Or.inl rfl)) (aan (aag (i:=7) nd rfl (Or.inl rfl)) aba)))
   (aaf (abk (ac0 PySem.F.plainAttrs_list PySem.F.slot_list_append PySem.F.type_list_append ab2 (pv 5) (aaa (abp (aaa (aai (act rfl) (by rfl) T.b_min ad3 (aaa (aak aal (pv 4) (pv 6) (λ_ _=>rfl)) (aaa (aak aal (pv 4) (pv 7) (λ_ _=>rfl)) aab))) (aaa (aai (acs rfl) (by rfl) T.b_max abw (aaa (aak aal (pv 4) (pv 6) (λ_ _=>rfl)) (aaa (aak aal (pv 4) (pv 7) (λ_ _=>rfl)) aab))) aab))) aab)))))
  (aaf (aas (aai (ao5 rfl) (by rfl) T.b_sorted adw (aaa (asj (call_setT rfl hr.units) (by rfl) T.b_set a1c (aaa (pv 5) aab)) aab)))))))),?_⟩
 refine ahs h λX ss M q B Y=>?_
 obtain⟨n,ps,rfl,rfl,R,W,v,x,k⟩:=q
 show EvS B _ _ [some (.io OSt),some (.st (.int n)),some (.st (.list (ps.map prD))),none,none,none,none,none]
 row_cond go
 refine⟨λj ys e=>∃(o:Option PyData)(b left:List Int),e=[stO o,some (.io (OL (left.map .int))),some (.io OSt)]/\ys=b.map .int/\b.length=j/\Order n (b++left),⟨none,[],(List.range n.toNat).map λ(i:Nat)=>(i:Int),by rw[← azh];rfl,rfl,rfl,Order.id n⟩,?_,?_,?_⟩
 ·rintro i ys e c
  refine exS3 e c λo b left g=>?_
  have O:=g.1
  have l:=g.2.1
  have t:=g.2.2
  clear g c
  exact⟨⟨isIo_stO.symm,ady⟩,⟨rfl,rfl⟩,⟨rfl,rfl⟩,True.intro⟩
 ·rintro i d ys e hd ⟨o,b,left,rfl,rfl,l,t⟩ U Z
  obtain⟨hi,rfl⟩:=agd hd
  have u:left.length=n.toNat-i:=by have:=t.len;simp at this;lia
  refine aa4 (aew ?_)
  rw[aF5 rfl]
  show Ev U _ [some (.st (.int (0+(i:Int)))),some (.io (OL (left.map .int))),some (.io OSt)] _
  row_cond go
  rw[aA3]
  refine⟨(left.length:Int),rfl,rfl,by lia,by lia,λr S J=>?_⟩
  obtain⟨y,I⟩:∃ y,left[r.toNat]?=some y:=⟨_,aA0 (show r.toNat<left.length by lia)⟩
  refine⟨_,left.map .int,r,r.toNat,.int y,rfl,rfl,.inr rfl,by lia,by lia,a2u S (by rw[aA3];exact J),a2v I,by rw[aA3];lia,some (.int (0+(i:Int))),b++[y],left.eraseIdx r.toNat,?_,by rw[aE5];rfl,by rw[aB1,l];rfl,arp t I⟩
  rw[ak9]
  rfl
 ·rintro ys e c
  refine exS3 e c λo b left g=>?_
  have C:=g.1
  have l:=g.2.1
  have t:=g.2.2
  clear g c
  subst C
  have u:left=[]:=by rw[acz] at l;have:=t.len;simp at this;exact aJ1.mp (by lia)
  subst u
  rw[aF0] at t
  show EvG B (aa0 4) (.own (OL (b.map .int))) [some (.io OSt),some (.st (.int n)),some (.st (.list (ps.map prD))),some (.own (OL [])),none,none,none,none] _
  refine abc abf ?_
  row_cond go
  refine ae4 (λi e=>∃ z G,e=[some (.io OSt),some (.st (.int n)),some (.st (.list (ps.map prD))),some (.own (OL [])),some (.st (.list (b.map .int))),some (.own (OL (((ps.take i).map (reP b)).map prD))),z,G]) ⟨_,_,rfl⟩ ?_ ?_
  ·rintro i p e L c
   refine exE2 e c λz G=>?_
   clear c
   have hq:=v p (aA2 L)
   have J:=acd (f:=PyData.int) (t.atI (a:=p.1) (by lia) (by lia))
   have r2:=acd (f:=PyData.int) (t.atI (a:=p.2) (by lia) (by lia))
   row_cond go
   refine⟨by simp;lia,some (.st (.int p.1)),some (.st (.int p.2)),?_⟩
   rw[a2w,← List.map_singleton (f:=prD),← aE5,← List.map_singleton (f:=reP b),← aE5,show ps.take i++[p]=ps.take (i+1) by rw[aH4,L];rfl]
  ·rintro e c
   refine exE2 e c λz G=>?_
   clear c
   rw[aG8]
   row_cond go
   refine ary ?_
   row_cond go
   refine⟨ps.map (reP b),rfl,by rw[aA3];lia,λqs nd hm hs=>?_⟩
   exact⟨_,rfl,k b qs t nd hm hs⟩
end
structure TreeW(n:Int)(es:List (Int × Int)):Prop where
 web:WebOk n es
 len:(es.length:Int)=n-1
 conn:Conn n (Tied es)
theorem TreeT.inn{n:Int}{ps:List (Int × Int)}(h:TreeT n ps):InN n ps:=λp a=>by
 obtain⟨i,hi⟩:=aD3 a
 have b:=h.at' i p hi
 have c:=(aA1.mp hi).1
 have:=h.len
 lia
theorem TreeT.ps{n:Int}{ps:List (Int × Int)}(h:TreeT n ps):PsOk n ps:=by
 refine⟨?_,λp c=>?_⟩
 ·refine aG7.mpr λi j hi b d e=>?_
  have a:=(h.at' i _ (aA0 hi)).2.2
  have f:=(h.at' j _ (aA0 b)).2.2
  rw[e] at a
  lia
 ·obtain⟨i,hi⟩:=aD3 c
  have a:=h.at' i p hi
  have f:=(aA1.mp hi).1
  have:=h.len
  lia
theorem TreeT.conn{n:Int}{ps:List (Int × Int)}(h:TreeT n ps):Conn n (Tied ps):=Tr.conn λk k1 c=>by
 have a:(k-1).toNat<ps.length:=by have:=h.len;lia
 have b:=h.at' (k-1).toNat _ (aA0 a)
 refine⟨ps[(k-1).toNat].1,b.1,by lia,?_⟩
 have:(ps[(k-1).toNat].1,k)=ps[(k-1).toNat]:=Prod.ext rfl (by simp only;lia)
 rw[this]
 exact aF2 a
theorem TreeW.of(b:1<=n)(c:n<=60)(h:PsOk n ps)(f:(ps.length:Int)=n-1)(d:Conn n (Tied ps))(a:qs.Perm ps)(hs:lexS (qs.map p2)):TreeW n qs :=
 ⟨av6 b c h a hs,by rw[a.length_eq];exact f,d.mono λu v t=>(Tied.perm a).mpr t⟩
theorem az5{n:Int}{a:List Int}{ps qs:List (Int × Int)}(h:PsOk n ps)(b:Order n a)(nd:qs.Nodup)(hm:∀ x,x∈qs ↔ x∈ps.map (reP a)):qs.Perm (ps.map (reP a)):=(List.perm_ext_iff_of_nodup nd (h.re b).nd).mpr hm
theorem TreeW.inn(h:TreeW n es):InN n es:=λp a=>by
 have:=h.web.inn p a
 lia
def a2x:VIo:=λA ss Q=>A=OSt/\ss=[]/\∀(n:Int)(es:List (Int × Int)),TreeW n es->Q OSt (.st (webD n es))
section
theorem sc_law_tree:FnScope ["store","n","ties"] ["store"] (aaj s_law_tree):=by row_cond sc
theorem an9(T:Txt K mg):Can P w K mg base "_law_tree" 3 ["store"] (spI K (a2x)):=by
 obtain⟨f,fd,D⟩:=T.d_law_tree
 refine D.can (D.fn.ok sc_law_tree (λvs H Q E h=>lenI h λA ss x q=>by obtain⟨rfl,rfl,k⟩:=q;rfl) (λcdv A outer s H vs Q E hr h=>?_))
 have nd:=sc_law_tree.nd
 refine⟨_,(aac (aao (i:=1) nd rfl (Or.inl rfl) (aak aal (abq (aaa (aax abu aae (aad (aaz T) hr (aaa (pv 0) (aaa aae aab)))) (aaa (aax abu aae (aad (aaz T) hr (aaa (pv 0) (aaa aae aab)))) (aaa (aax abu aae (aad (aaz T) hr (aaa (pv 0) (aaa aae aab)))) aab)))) (aad (aaz T) hr (aaa (pv 0) (aaa aae aab))) (λ_ _=>rfl)))
  (aac (aao (i:=2) nd rfl (Or.inl rfl) (aad (ah4 T) hr (aaa (pv 0) (aaa (pv 1) (aaa (aad (aaz T) hr (aaa (pv 0) (aaa aae aab))) aab)))))
  (aac (abn (aav al0 (aad (aaz T) hr (aaa (pv 0) (aaa aae aab))) aae (aay _))
   (aaf (aao (i:=2) nd rfl (Or.inl rfl) (aad (aha T) hr (aaa (pv 0) (aaa (pv 1) (aaa (pv 2) aab))))))
   aa7)
  (aaf (aas (abp (aaa (pv 1) (aaa (aai aga (by rfl) T.b_sorted adw (aaa (pv 2) aab)) aab)))))))),?_⟩
 refine ahs h λW ss x q B Y=>?_
 obtain⟨rfl,rfl,k⟩:=q
 show EvS B _ _ [some (.io OSt),none,none]
 row_cond go
 refine⟨6,rfl,rfl,by lia,by lia,λG v M=>?_⟩
 row_cond go
 refine⟨16,rfl,rfl,by lia,by lia,λI t F=>?_⟩
 row_cond go
 refine⟨60,rfl,rfl,by lia,by lia,λN R y=>?_⟩
 row_cond go
 refine⟨3,rfl,rfl,by lia,by lia,λb J u=>?_⟩
 obtain⟨n,hn,c,d⟩:∃ n:Int,atI [PyData.int (1+G),PyData.int (1+I),PyData.int (1+N)] b=some (.int n)/\1<=n/\n<=60:=by
  rcases(show b=0\/b=1\/b=2 by lia) with rfl|rfl|rfl <;> exact⟨_,rfl,by lia,by lia⟩
 row_cond go
 refine⟨4,rfl,rfl,by lia,by lia,λC r g=>?_⟩
 row_cond go
 refine⟨n,C,rfl,rfl,c,d,r,g,λps hT=>abc abf ?_⟩
 have p:=hT.inn
 have z:ps.length<=60:=by have:=hT.len;lia
 row_cond go
 refine⟨3,rfl,rfl,by lia,by lia,λX U S=>?_⟩
 row_cond go
 refine ado (λh=>?_) (λh=>?_)
 ·row_cond go
  refine⟨n,ps,rfl,rfl,c,d,p,by lia,λL qs o nd hm hs=>abc abf ?_⟩
  row_cond go
  refine afl (ps:=qs) ?_
  row_cond go
  intro a l j
  row_cond go
  have O:=az5 hT.ps o nd hm
  exact k n a (TreeW.of c d (hT.ps.re o) (by rw[aA3];exact hT.len) (hT.conn.re o) (l.trans O) j)
 ·row_cond go
  refine afl (ps:=ps) ?_
  row_cond go
  intro a l j
  row_cond go
  exact k n a (TreeW.of c d hT.ps hT.len hT.conn l j)
end
def kM(M:List (Int × List Int)):List (Int × List PyData):=M.map λp=>(p.1,p.2.map .int)
structure KT(T:Int->Int->Prop)(M:List (Int × List Int)):Prop where
 nd:(M.map (·.1)).Nodup
 iff:∀ k w,T k w ↔ ∃ ws,(k,ws)∈M/\w∈ws
structure KTB(T:Int->Int->Prop)(M:List (Int × List Int))(m:Nat):Prop extends KT T M where
 lenM:M.length<=m
 lenW:∀ p∈kM M,p.2.length<=m
structure FarL(far:Int->Option Nat)(line:List Int)(ds:List Nat):Prop where
 at':∀(i:Nat) v d,line[i]?=some v->ds[i]?=some d->far v=some d
 no:∀ v,v ∉ line->far v=none
section
end
def awm:VP:=λss Q=>∃(n:Int)(es:List (Int × Int)),ss=[.st (webD n es)]/\1<=n/\n<=100/\InN n es/\es.length<=10000/\∀ b:Bool,(b=true ↔ (es.length:Int)=n-1/\Joined n es)->Q (.st (.bool b))
section
theorem sc_is_tree:FnScope ["web","n","ties"] ["web"] (aaj s_is_tree):=by row_cond sc
theorem aft(T:Txt K mg):Can P w K mg base "is_tree" 7 ["web"] (spP K (awm)):=by
 obtain⟨f,fd,D⟩:=T.d_is_tree
 refine D.can (D.fn.ok sc_is_tree (λvs H Q E h=>lenP h λss l q=>by obtain⟨n,es,rfl,g,j,d,c,k⟩:=q;rfl) (λcdv A outer s H vs Q E hr h=>?_))
 have nd:=sc_is_tree.nd
 refine⟨_,(aac (ab0 (pv 0) (abo rfl (aan (aag (i:=1) nd rfl (Or.inl rfl)) (aan (aag (i:=2) nd rfl (Or.inl rfl)) aba))))
  (aaf (aas (aeh (acm afb (aai aa6 (by rfl) T.b_len abv (aaa (pv 2) aab)) (aax adn (pv 1) aae) (aay _)) (afv (aad (agr T) hr (aaa (pv 0) aab))))))),?_⟩
 refine aa3 h λss l q B o=>?_
 refine exS2 ss q λn es a=>?_
 have g:=a.1
 have j:=a.2.1
 have d:=a.2.2.1
 have c:=a.2.2.2.1
 have k:=a.2.2.2.2
 clear a q
 show EvS B _ _ [some (.st (webD n es)),none,none]
 row_cond go
 rw[aA3]
 refine ado (λh=>?_) (λh=>?_)
 ·row_cond go
  refine⟨n,es,rfl,g,j,d,c,λb hb=>?_⟩
  row_cond go
  exact k b (hb.trans ⟨λq=>⟨h,q⟩,λq=>q.2⟩)
 ·row_cond go
  exact k false ⟨λq=>(by cases q),λq=>absurd q.1 h⟩
end
def ar1:VP:=λss Q=>∃(n:Int)(es:List (Int × Int)),ss=[.st (webD n es)]/\1<=n/\n<=100/\InN n es/\es.length<=10000/\((es.length:Int)=n-1/\Joined n es)/\Q (.st .none)
def IsPt(n:Nat)(m:Int->Int->Int)(a b x:Int):Prop:=(∃ u v:Int,0<=u/\u<n/\0<=v/\v<n/\(m u a<m u b ↔ m v a<m v b)/\m u v=x)/\∀ u v:Int,0<=u->u<n->0<=v->v<n->(m u a<m u b ↔ m v a<m v b)->m u v<=x
def ao8:VP:=λss Q=>∃(n:Nat)(m:Int->Int->Int)(a b:Int),ss=[.st (.list (matD n m)),.st (prD (a,b))]/\1<=n/\n<=100/\0<=a/\a<n/\0<=b/\b<n/\∀ x,IsPt n m a b x->Q (.st (.int x))
def sdF(m:Int->Int->Int)(a b:Int)(u:Nat):Bool:=decide (m (u:Int) a<m (u:Int) b)
theorem a2z:sdF m a b u=sdF m a b v ↔ (m (u:Int) a<m (u:Int) b ↔ m (v:Int) a<m (v:Int) b):=by
 unfold sdF
 rw[aH8]
 simp
theorem az7{n:Nat}{m:Int->Int->Int}{g:Nat->Bool}:zipD (matD n m) ((List.range n).map λu=>.bool (g u))=(List.range n).map λ(u:Nat)=>.tuple [.list (rowD n (m (u:Int))),.bool (g u)]:=by
 unfold zipD matD
 rw[List.zip_map',aE0]
 rfl
theorem awn{n:Nat}{r:Int->Int}{g:Nat->Bool}:zipD (rowD n r) ((List.range n).map λu=>.bool (g u))=(List.range n).map λ(v:Nat)=>.tuple [.int (r (v:Int)),.bool (g v)]:=by
 unfold zipD rowD
 rw[List.zip_map',aE0]
 rfl
def ptF(n:Nat)(m:Int->Int->Int)(g:Nat->Bool):List Int:=(List.range n).flatMap λu=>((List.range n).filter λv=>g u == g v).map λ(v:Nat)=>m (u:Int) (v:Int)
theorem axq(n:Nat)(m:Int->Int->Int)(g:Nat->Bool):((List.range n).flatMap λu=>((List.range n).filter λv=>g u == g v).map λ(v:Nat)=>PyData.int (m (u:Int) (v:Int)))=(ptF n m g).map .int:=by
 unfold ptF
 rw[List.map_flatMap]
 congr 1
 funext x
 rw[aE0]
 rfl
theorem aoa{α:Type}{n:Nat}{f:Nat->List α}:∀(l:List Nat),(∀ u∈l,(f u).length<=n)->(l.flatMap f).length<=l.length * n
 |[],_=>by simp
 | u::l,h=>by
  have b:=h u aB8
  have c:=aoa l λv a=>h v (aB5 _ a)
  rw[List.flatMap_cons,aB1,aE6,Nat.add_mul]
  lia
theorem az8(h:n<=100)(m:Int->Int->Int)(g:Nat->Bool):(ptF n m g).length<=10000:=by
 have:=aoa (n:=n) (f:=λu=>((List.range n).filter λv=>g u == g v).map λ(v:Nat)=>m (u:Int) (v:Int)) (List.range n) λu _=>by
  rw[aA3]
  exact aD0 (aF3 _ _) (by simp)
 rw[aE1] at this
 exact aD0 this (Nat.mul_le_mul h h)
theorem ptF_mem:x∈ptF n m (sdF m a b) ↔ ∃ u v:Int,0<=u/\u<n/\0<=v/\v<n/\(m u a<m u b ↔ m v a<m v b)/\m u v=x:=by
 unfold ptF
 simp only[List.mem_flatMap,aB9,aB7,aE2,aG3,a2z]
 constructor
 ·rintro⟨u,g,v,⟨d,q⟩,rfl⟩
  exact⟨u,v,by lia,by lia,by lia,by lia,q,rfl⟩
 ·rintro⟨u,v,h,c,v0,f,q,rfl⟩
  refine⟨u.toNat,by lia,v.toNat,⟨by lia,?_⟩,?_⟩
  ·rw[show((u.toNat:Nat):Int)=u by lia,show((v.toNat:Nat):Int)=v by lia];exact q
  ·rw[show((u.toNat:Nat):Int)=u by lia,show((v.toNat:Nat):Int)=v by lia]
theorem axr(h:ad4 (ptF n m (sdF m a b)) x):IsPt n m a b x :=
 ⟨ptF_mem.mp h.1,λu v f c v0 d q=>h.2 _ (ptF_mem.mpr ⟨u,v,f,c,v0,d,q,rfl⟩)⟩
theorem auf(hn:1<=n)(m:Int->Int->Int)(a b:Int):∃ x,IsPt n m a b x:=by
 obtain⟨x,c⟩:=af3 (ns:=ptF n m (sdF m a b)) λe=>by
  have:m 0 0∈ptF n m (sdF m a b):=ptF_mem.mpr ⟨0,0,by lia,by lia,by lia,by lia,Iff.rfl,rfl⟩
  rw[e] at this
  cases this
 exact⟨x,axr c⟩
theorem akf(h:IsPt n m a b x)(g:IsPt n m a b y):x=y:=by
 obtain⟨u,v,p,r,v0,o,q,rfl⟩:=h.1
 obtain⟨s,l,f,i,c,d,j,rfl⟩:=g.1
 have t:=g.2 u v p r v0 o q
 have w:=h.2 s l f i c d j
 lia
section
theorem sc_need_tree:FnScope ["web"] ["web"] (aaj s_need_tree):=by row_cond sc
theorem aer(T:Txt K mg):Can P w K mg base "need_tree" 8 ["web"] (spP K (ar1)):=by
 obtain⟨f,fd,D⟩:=T.d_need_tree
 refine D.can (D.fn.ok sc_need_tree (λvs H Q E h=>lenP h λss l q=>by obtain⟨n,es,rfl,g,j,d,c,i,k⟩:=q;rfl) (λcdv A outer s H vs Q E hr h=>?_))
 have nd:=sc_need_tree.nd
 refine⟨_,(aaf (abn (ada (ac9 (aad (aft T) hr (aaa (pv 0) aab))))
   (aaf ad9)
   aa7)),?_⟩
 refine aa3 h λss l q B o=>?_
 refine exS2 ss q λn es a=>?_
 have g:=a.1
 have j:=a.2.1
 have d:=a.2.2.1
 have c:=a.2.2.2.1
 have i:=a.2.2.2.2.1
 have k:=a.2.2.2.2.2
 clear a q
 show EvS B _ _ [some (.st (webD n es))]
 row_cond go
 refine⟨n,es,rfl,g,j,d,c,λb hb=>?_⟩
 obtain rfl:b=true:=hb.mpr i
 row_cond go
 exact k
theorem sc_parted_far:FnScope ["rows","tie","a","b","sides"] ["rows","tie"] (aaj s_parted_far):=by row_cond sc
theorem akg(T:Txt K mg):Can P w K mg base "parted_far" 1 ["rows","tie"] (spP K (ao8)):=by
 obtain⟨f,fd,D⟩:=T.d_parted_far
 refine D.can (D.fn.ok sc_parted_far (λvs H Q E h=>lenP h λss p q=>by obtain⟨n,m,a,b,rfl,t,g,a0,a1,b0,b1,k⟩:=q;rfl) (λcdv A outer s H vs Q E hr h=>?_))
 have nd:=sc_parted_far.nd
 refine⟨_,(aac (ab0 (pv 1) (abo rfl (aan (aag (i:=2) nd rfl (Or.inr rfl)) (aan (aag (i:=3) nd rfl (Or.inr rfl)) aba))))
  (aac (aao (i:=4) nd rfl (Or.inr rfl) (adr rfl (N:=["row","a","b"]) (src:=[none,some 2,some 3]) (by exact aa9 rfl rfl rfl rfl rfl rfl) (abl (pv 0)) (λ_ _ _ _=>(aag (i:=0) (show List.Nodup (["row","a","b"]:List Str) by decide +kernel) rfl (Or.inl rfl) (hf:=Or.inr rfl))) (λ_ _ _ _=>ab7) (λ_ _ _ _=>(acm alz (aak (show IxR _ (aca K) from aal) (pv 0) (pv 1) (λ_ _=>rfl)) (aak (show IxR _ (aca K) from aal) (pv 0) (pv 2) (λ_ _=>rfl)) (aay _)))))
  (aaf (aas (aai (ab4 rfl) (by rfl) T.b_max abw (aaa (a03 rfl (N:=["row","side","far","other","sides"]) (src:=[none,none,none,none,some 4]) (by exact aa9 rfl rfl rfl rfl rfl rfl) (anl rfl T.b_zip (aaa (pv 0) (aaa (pv 4) aab))) (λ_ _ _ _=>(show PG _ _ (gTup K 2 (abz (aa0 0) (abz (aa0 1) gNil))) from(abo rfl (aan (aag (i:=0) (show List.Nodup (["row","side","far","other","sides"]:List Str) by decide +kernel) rfl (Or.inl rfl) (hf:=Or.inr rfl)) (aan (aag (i:=1) (show List.Nodup (["row","side","far","other","sides"]:List Str) by decide +kernel) rfl (Or.inl rfl) (hf:=Or.inr rfl)) aba))))) (λ_ _ _ _=>ab7) (λ_ _ _ _=>(show PI _ _ _ (iZip K _) from anl (by rfl) T.b_zip (aaa (pv 0) (aaa (pv 4) aab)))) (λ_ _ _ _=>(show PG _ _ (gTup K 2 (abz (aa0 2) (abz (aa0 3) gNil))) from(abo rfl (aan (aag (i:=2) (show List.Nodup (["row","side","far","other","sides"]:List Str) by decide +kernel) rfl (Or.inl rfl) (hf:=Or.inr rfl)) (aan (aag (i:=3) (show List.Nodup (["row","side","far","other","sides"]:List Str) by decide +kernel) rfl (Or.inl rfl) (hf:=Or.inr rfl)) aba))))) (λ_ _ _ _=>acy (aav afb (pv 1) (pv 3) (aay _))) (λ_ _ _ _=>(pv 2))) aab)))))),?_⟩
 refine aa3 h λss p q B F=>?_
 refine exS4 ss q λn m a b c=>?_
 have t:=c.1
 have g:=c.2.1
 have a0:=c.2.2.1
 have a1:=c.2.2.2.1
 have b0:=c.2.2.2.2.1
 have b1:=c.2.2.2.2.2.1
 have k:=c.2.2.2.2.2.2
 clear c q
 show EvS B _ _ [some (.st (.list (matD n m))),some (.st (prD (a,b))),none,none,none]
 row_cond go
 unfold matD
 refine aee (λu:Nat=>.bool (sdF m a b u)) rfl (by simp;lia) (λu j d l=>?_) ?_
 ·have C:=auc (r:=m (u:Int)) a0 a1
  have rb:=auc (r:=m (u:Int)) b0 b1
  row_cond go
  exact rfl
 ·row_cond go
  rw[show((List.range n).map λ(u:Nat)=>PyData.list (rowD n (m (u:Int))))=matD n m from rfl,az7]
  refine arz (xs:=List.range n) (λ_=>List.range n) (λu v=>.int (m (u:Int) (v:Int))) (λ_ v=>.bool (sdF m a b v)) (λu v=>.int (m (u:Int) (v:Int))) (λu v=>sdF m a b u == sdF m a b v) (ats rfl) ?_ ?_ ?_ ?_
  ·rw[axq,aA3]
   have:=az8 g m (sdF m a b)
   lia
  ·intro u j d l o o'
   row_cond go
   rw[awn]
   exact⟨rfl,rfl⟩
  ·intro u j v z d l
   row_cond go
   intro _
   row_cond go
   exact rfl
  ·rw[axq]
   row_cond go
   refine ach ?_ λx y=>?_
   ·intro e
    have:m 0 0∈ptF n m (sdF m a b):=ptF_mem.mpr ⟨0,0,by lia,by lia,by lia,by lia,Iff.rfl,rfl⟩
    rw[e] at this
    cases this
   ·row_cond go
    exact k x (axr y)
def IsPart(n:Int)(es:List (Int × Int))(z:Z3):Prop:=∃ xs:List Z3,(∀ t:Int × Int,t∈es->∃ x,(x,t)∈xs)/\(∀ y∈xs,y.2∈es/\IsPt n.toNat (dsF es) y.2.1 y.2.2 y.1)/\z∈xs/\∀ y∈xs,¬ lt3 y z
def a37(n:Int)(es:List (Int × Int))(D:PyData):Prop:=(es=[]/\D=.none)\/∃ z,IsPart n es z/\D=z3D z
def aug:VP:=λss Q=>∃(n:Int)(es:List (Int × Int)),ss=[.st (webD n es)]/\1<=n/\n<=100/\InN n es/\es.length<=10000/\((es.length:Int)=n-1/\Joined n es)/\∀ D,a37 n es D->Q (.st D)
theorem sc_parting_tie:FnScope ["web","rows"] ["web"] (aaj s_parting_tie):=by row_cond sc
theorem afo(T:Txt K mg):Can P w K mg base "parting_tie" 9 ["web"] (spP K (aug)):=by
 obtain⟨f,fd,D⟩:=T.d_parting_tie
 refine D.can (D.fn.ok sc_parting_tie (λvs H Q E h=>lenP h λss u q=>by obtain⟨n,es,rfl,l,p,b,c,o,k⟩:=q;rfl) (λcdv A outer s H vs Q E hr h=>?_))
 have nd:=sc_parting_tie.nd
 refine⟨_,(aac (abk (aad (aer T) hr (aaa (pv 0) aab)))
  (aac (aao (i:=1) nd rfl (Or.inr rfl) (aad (adh T) hr (aaa (pv 0) aab)))
  (aaf (aas (ayh hr.units rfl (by rfl) T.b_min (aaa (adr rfl (N:=["tie","rows"]) (src:=[none,some 1]) (by exact aa9 rfl rfl rfl rfl rfl rfl) (abl (aak aal (pv 0) aae (λ_ _=>rfl))) (λ_ _ _ _=>(aag (i:=0) (show List.Nodup (["tie","rows"]:List Str) by decide +kernel) rfl (Or.inl rfl) (hf:=Or.inr rfl))) (λ_ _ _ _=>ab7) (λ_ _ _ _=>(abp (aaa (aad (akg T) hr (aaa (pv 1) (aaa (pv 0) aab))) (aaa (pv 0) aab))))) aab) ad1))))),?_⟩
 refine aa3 h λss u q B C=>?_
 refine exS2 ss q λn es a=>?_
 have l:=a.1
 have p:=a.2.1
 have b:=a.2.2.1
 have c:=a.2.2.2.1
 have o:=a.2.2.2.2.1
 have k:=a.2.2.2.2.2
 clear a q
 show EvS B _ _ [some (.st (webD n es)),none]
 row_cond go
 refine⟨n,es,rfl,l,p,b,c,o,?_⟩
 row_cond go
 refine⟨n,es,rfl,l,p,b,c,o.2,abc abf ?_⟩
 row_cond go
 obtain⟨d,g⟩:∃ d:Int × Int->Int,∀ t,IsPt n.toNat (dsF es) t.1 t.2 (d t):=⟨λt=>Classical.choose (auf (n:=n.toNat) (by lia) (dsF es) t.1 t.2),λt=>Classical.choose_spec (auf (n:=n.toNat) (by lia) (dsF es) t.1 t.2)⟩
 refine ata ?_
 row_cond go
 refine aee (xs:=es) (λt:Int × Int=>z3D (d t,t)) rfl (by lia) (λt j G F=>?_) ?_
 ·have I:=b t j
  row_cond go
  refine⟨n.toNat,dsF es,t.1,t.2,rfl,by lia,by lia,by lia,by lia,by lia,by lia,λx v=>?_⟩
  row_cond go
  rw[akf v (g t)]
  exact⟨rfl,rfl⟩
 ·row_cond go
  rw[show es.map (λt:Int × Int=>z3D (d t,t))=(es.map λt=>((d t,t):Z3)).map z3D by rw[aE0];rfl]
  refine av8 (λe=>?_) λz hz hm=>?_
  ·row_cond go
   exact k _ (.inl ⟨List.map_eq_nil_iff.mp e,rfl⟩)
  ·row_cond go
   refine k _ (.inr ⟨z,⟨_,λt j=>⟨d t,aB7.mpr ⟨t,j,rfl⟩⟩,λy r=>?_,hz,hm⟩,rfl⟩)
   obtain⟨t,j,rfl⟩:=aB7.mp r
   exact⟨j,g t⟩
end
def auh:VP:=λss Q=>∃(a b c:Int),ss=[.st (.int a),.st (.int b),.st (.int c)]/\a<=c/\c<=b/\Q (.st .none)
section
theorem sc_need_number:FnScope ["least","most","thing"] ["least","most","thing"] (aaj s_need_number):=by row_cond sc
theorem ajm(T:Txt K mg):Can P w K mg base "need_number" 3 ["least","most","thing"] (spP K (auh)):=by
 obtain⟨f,fd,D⟩:=T.d_need_number
 refine D.can (D.fn.ok sc_need_number (λvs H Q E h=>lenP h λss i q=>by obtain⟨a,b,c,rfl,g,j,k⟩:=q;rfl) (λcdv A outer s H vs Q E hr h=>?_))
 have nd:=sc_need_number.nd
 refine⟨_,(aaf (abn (ada (ac9 (aad (af2 T) hr (aaa (pv 0) (aaa (pv 1) (aaa (pv 2) aab))))))
   (aaf ad9)
   aa7)),?_⟩
 refine aa3 h λss i q B l=>?_
 refine exS3 ss q λa b c d=>?_
 have g:=d.1
 have j:=d.2.1
 have k:=d.2.2
 clear d q
 show EvS B _ _ [some (.st (.int a)),some (.st (.int b)),some (.st (.int c))]
 row_cond go
 refine⟨a,b,.int c,rfl,?_⟩
 have:btwD a b (.int c)=true:=by simp[btwD];lia
 rw[this]
 row_cond go
 exact k
end
def abj(n:Nat)(r:Int->Int):List Int:=(List.range n).map λ(i:Nat)=>r (i:Int)
theorem agk:rowD n r=(abj n r).map .int:=ae9
theorem aob(n:Nat)(r:Int->Int):(abj n r).length=n:=by simp[abj]
theorem aez(hn:1<=n)(r:Int->Int):abj n r ≠ []:=λe=>by have:=aob n r;rw[e] at this;simp at this;lia
def mxF(n:Nat)(r:Int->Int):Int:=open Classical in if h:∃ x,ad4 (abj n r) x then Classical.choose h else 0
theorem aep(hn:1<=n)(r:Int->Int):ad4 (abj n r) (mxF n r):=by
 unfold mxF
 have h:=af3 (aez hn r)
 rw[dif_pos h]
 exact Classical.choose_spec h
theorem aoc:∀{l:List Int}{x:Int},x∈l->∃ j:Nat,l[j]?=some x/\∀ m,m<j->l[m]? ≠ some x
 | a::l,x,h=>by
  by_cases e:a=x
  ·subst e;exact⟨0,rfl,λm hm=>by lia⟩
  ·obtain⟨j,b,c⟩:=aoc (l:=l) (x:=x) (by rcases aA9.mp h with q|q;exact absurd q.symm e;exact q)
   refine⟨j+1,by simpa using b,λm hm=>?_⟩
   cases m with
   |zero=>simpa using e
   |succ m=>simpa using c m (by lia)
def ixF(n:Nat)(r:Int->Int):Nat:=open Classical in if h:∃ j:Nat,(abj n r)[j]?=some (mxF n r)/\∀ m,m<j->(abj n r)[m]? ≠ some (mxF n r) then Classical.choose h else 0
theorem ajn(hn:1<=n)(r:Int->Int):(abj n r)[ixF n r]?=some (mxF n r)/\∀ m,m<ixF n r->(abj n r)[m]? ≠ some (mxF n r):=by
 unfold ixF
 have h:=aoc (aep hn r).1
 rw[dif_pos h]
 exact Classical.choose_spec h
theorem aod(hn:1<=n)(r:Int->Int):ixF n r<n:=by
 have:=(aA1.mp (ajn hn r).1).1
 rwa [aob] at this
def nxF(m:Int->Int->Int)(r:Int->Int)(h:Int):Int->Int:=λy=>if m h y<r y then m h y else r y
def hubN(n:Nat)(m:Int->Int->Int):Nat->List Int × (Int->Int)
 |0=>([0],m 0)
 |j+1=>open Classical in if 0<mxF n (hubN n m j).2 then ((hubN n m j).1++[(ixF n (hubN n m j).2:Int)],nxF m (hubN n m j).2 (ixF n (hubN n m j).2:Int)) else hubN n m j
theorem aoe(e:hubN n m j=(hs,r))(h:0<mxF n r):hubN n m (j+1)=(hs++[(ixF n r:Int)],nxF m r (ixF n r:Int)):=by
 show(if 0<mxF n (hubN n m j).2 then _ else _)=_
 rw[e,aF5 h]
theorem aof(e:hubN n m j=(hs,r))(h:¬ 0<mxF n r):hubN n m (j+1)=(hs,r):=by
 show(if 0<mxF n (hubN n m j).2 then _ else _)=_
 rw[e,aF6 h]
theorem aog(e:hubN n m j=(hs,r))(h:¬ 0<mxF n r):∀ i,hubN n m (j+i)=(hs,r)
 |0=>e
 |i+1=>aof (aog e h i) h
def hubO(n:Int)(es:List (Int × Int))(k:Int):Own:=OW (.int (mxF n.toNat (hubN n.toNat (dsF es) k.toNat).2)) ((hubN n.toNat (dsF es) k.toNat).1.map .int)
theorem akh(e:hubN n.toNat (dsF es) k.toNat=(hs,r)):hubO n es k=OW (.int (mxF n.toNat r)) (hs.map .int):=by unfold hubO;rw[e]
def a20:VP:=λss Q=>∃(n:Int)(es:List (Int × Int))(k:Int),ss=[.st (webD n es),.st (.int k)]/\1<=n/\n<=100/\InN n es/\es.length<=10000/\Joined n es/\0<=k/\k<=20/\Q (.own (hubO n es k))
theorem awo:zipD ((abj n r).map .int) (rowD n q)=(List.range n).map λ(i:Nat)=>.tuple [.int (r (i:Int)),.int (q (i:Int))]:=by rw[← agk,awj]
theorem awp(n:Nat)(r:Int->Int):(List.range n).map (λi:Nat=>PyData.int (r (i:Int)))=(abj n r).map .int:=by unfold abj;rw[aE0];rfl
theorem az9{α:Type}(xs:List α)(x : α):atI (xs++[x]) (-1)=some x:=by
 unfold atI ixN
 rw[aF6 (by lia),aF5 (by simp;lia)]
 show(xs++[x])[(-1+((xs++[x]).length:Int)).toNat]?=some x
 rw[show(-1+((xs++[x]).length:Int)).toNat=xs.length by simp;lia,aC8 (aA6 _),aI6]
 rfl
section
theorem sc_hubs_for:FnScope ["web","k","rows","hubs","near","hub"] ["web","k"] (aaj s_hubs_for):=by row_cond sc
theorem ahb(T:Txt K mg):Can P w K mg base "hubs_for" 9 ["web","k"] (spP K (a20)):=by
 obtain⟨f,fd,D⟩:=T.d_hubs_for
 obtain⟨c,b⟩:=T.v_MOST_HUB_TIES
 refine D.can (D.fn.ok sc_hubs_for (λvs H Q E h=>lenP h λss U q=>by obtain⟨n,es,k,rfl,J,M,o,g,L,I,k1,u⟩:=q;rfl) (λcdv A outer s H vs Q E hr h=>?_))
 have nd:=sc_hubs_for.nd
 refine⟨_,(aac (aao (i:=2) nd rfl (Or.inl rfl) (aad (adh T) hr (aaa (pv 0) aab)))
  (aac (abk (aad (ajm T) hr (aaa aae (aaa (axw (v:=.int 20) rfl b ⟨_,rfl⟩) (aaa (pv 1) aab)))))
  (aac (aao (i:=3) nd rfl (Or.inl rfl) (abq (aaa aae aab)))
  (aac (aao (i:=4) nd rfl (Or.inl rfl) (aak aal (pv 2) aae (λ_ _=>rfl)))
  (aac (af5 aJ9 (PW.pt (aiq (aav ait (aai aa6 (by rfl) T.b_len abv (aaa (pv 3) aab)) (pv 1) (aay _)) (ahh (aav al0 (aai (ab4 rfl) (by rfl) T.b_max abw (aaa (pv 4) aab)) aae (aay _)))))
   (aac (aao (i:=5) nd rfl (Or.inl rfl) (ac0 PySem.F.plainAttrs_list PySem.F.slot_list_index PySem.F.type_list_index ae6 (pv 4) (aaa (aai (ab4 rfl) (by rfl) T.b_max abw (aaa (pv 4) aab)) aab)))
    (aac (abk (ac0 PySem.F.plainAttrs_list PySem.F.slot_list_append PySem.F.type_list_append ab2 (pv 3) (aaa (pv 5) aab)))
    (aaf (adb (i:=4) nd rfl (Or.inl rfl) rfl (N:=["far","other"]) (src:=[none,none]) (by exact aa9 rfl rfl rfl rfl rfl rfl) (anl rfl T.b_zip (aaa (pv 4) (aaa (aak aal (pv 2) (pv 5) (λ_ _=>rfl)) aab))) (λ_ _ _ _=>(show PG _ _ (gTup K 2 (abz (aa0 0) (abz (aa0 1) gNil))) from(abo rfl (aan (aag (i:=0) (show List.Nodup (["far","other"]:List Str) by decide +kernel) rfl (Or.inl rfl) (hf:=Or.inr rfl)) (aan (aag (i:=1) (show List.Nodup (["far","other"]:List Str) by decide +kernel) rfl (Or.inl rfl) (hf:=Or.inr rfl)) aba))))) (λ_ _ _ _=>ab7) (λ_ _ _ _=>(aai (act rfl) (by rfl) T.b_min ad3 (aaa (pv 0) (aaa (pv 1) aab)))))))))
  (aaf (aas (abp (aaa (aai (ab4 rfl) (by rfl) T.b_max abw (aaa (pv 4) aab)) (aaa (pv 3) aab)))))))))),?_⟩
 refine aa3 h λss U q B Z=>?_
 refine exS3 ss q λn es k a=>?_
 have J:=a.1
 have M:=a.2.1
 have o:=a.2.2.1
 have g:=a.2.2.2.1
 have L:=a.2.2.2.2.1
 have I:=a.2.2.2.2.2.1
 have k1:=a.2.2.2.2.2.2.1
 have u:=a.2.2.2.2.2.2.2
 clear a q
 show EvS B _ _ [some (.st (webD n es)),some (.st (.int k)),none,none,none,none]
 have hn:1<=n.toNat:=by lia
 have S:=an6 (n:=n.toNat) (m:=dsF es) (x:=0) (by lia) (by lia)
 row_cond go
 refine⟨n,es,rfl,J,M,o,g,L,abc abf ?_⟩
 row_cond go
 refine⟨0,20,k,rfl,I,k1,?_⟩
 row_cond go
 rw[agk]
 refine afj (λO e=>∃ y j hs r,e=[some (.st (webD n es)),some (.st (.int k)),some (.st (.list (matD n.toNat (dsF es)))),some (.own (OL (List.map PyData.int hs))),some (.st (.list ((abj n.toNat r).map .int))),y]/\hubN n.toNat (dsF es) j=(hs,r)/\hs.length=j+1/\(j:Int)<=k/\O=k.toNat-j) ⟨_,_,0,[0],dsF es 0,rfl,rfl,rfl,by lia,rfl⟩ ?_
 rintro O e l
 refine exS4 e l λy j hs r a=>?_
 have z:=a.1
 have W:=a.2.1
 have hj:=a.2.2.1
 have C:=a.2.2.2
 clear a l
 subst C
 have d:=aep hn r
 have p:=ajn hn r
 have Y:=aod hn r
 have X:=an6 (n:=n.toNat) (m:=dsF es) (x:=(ixF n.toNat r:Int)) (by lia) (by lia)
 row_cond go
 rw[aA3]
 refine' cutR (R:=hubN n.toNat (dsF es) k.toNat=(hs,r)->EvS B ?c1 ?d1 [some (.st (webD n es)),some (.st (.int k)),some (.st (.list (matD n.toNat (dsF es)))),some (.own (OL (List.map PyData.int hs))),some (.st (.list ((abj n.toNat r).map .int))),y]) (λR=>?K1) ?K2
 case K1 =>
  refine ado (λh=>?_) (λh=>?_)
  ·row_cond go
   refine ach (aez hn r) λx t=>?_
   obtain rfl:=adg t d
   row_cond go
   refine ado (λh=>?_) (λh=>?_)
   ·row_cond go
    refine⟨abj n.toNat r,rfl,?_⟩
    row_cond go
    refine ach (aez hn r) λx t=>?_
    obtain rfl:=adg t d
    refine⟨mxF n.toNat r,ixF n.toNat r,rfl,p.1,p.2,?_⟩
    row_cond go
    rw[awo]
    refine agg (xs:=List.range n.toNat) (fa:=λi:Nat=>.int (r (i:Int))) (fb:=λi:Nat=>.int (dsF es (ixF n.toNat r:Int) (i:Int))) (λi:Nat=>.int (nxF (dsF es) r (ixF n.toNat r:Int) (i:Int))) (λ_=>true) rfl (by simp;lia) (λi hi B' hB=>?_) ?_
    ·refine aew ⟨rfl,rfl,λ_=>?_⟩
     row_cond go
     exact rfl
    ·rw[ai8,awp]
     refine abc abf ?_
     row_cond go
     exact⟨k.toNat-(j+1),by lia,_,j+1,hs++[(ixF n.toNat r:Int)],nxF (dsF es) r (ixF n.toNat r:Int),by rw[aE5];rfl,aoe z h,by simp[W],by lia,rfl⟩
   ·exact R (by have:=aog z h (k.toNat-j);rwa [show j+(k.toNat-j)=k.toNat by lia] at this)
  ·refine acp ?_
   exact R (by rw[show k.toNat=j by lia];exact z)
 case K2 =>
  intro G
  row_cond go
  refine ach (aez hn r) λx t=>?_
  obtain rfl:=adg t d
  refine⟨_,rfl,?_⟩
  rw[akh G] at u
  exact u
end
structure FarOk(n:Int)(es:List (Int × Int))(x a b:Int):Prop where
 top:adl n.toNat (dsF es) x
 a0:0<=a
 a1:a<n
 b0:0<=b
 b1:b<n
 eq:dsF es a b=x
 fst:∀ u v:Int,0<=u->u<n->0<=v->v<n->dsF es u v=x->a<u\/(a=u/\b<=v)
def ar2:VP:=λss Q=>∃(n:Int)(es:List (Int × Int)),ss=[.st (webD n es)]/\1<=n/\n<=100/\InN n es/\es.length<=10000/\Joined n es/\∀ x a b,FarOk n es x a b->Q (.st (.tuple [.int x,.int a,.int b]))
theorem aoh{ns:List Int}{k:Int}(h:k∈ns):∃ j:Nat,ns[j]?=some k/\∀ m:Nat,m<j->ns[m]? ≠ some k:=by
 induction ns with
 |nil=>simp at h
 | cons n ns ih =>
  by_cases e:n=k
  ·exact⟨0,by rw[e];rfl,λm hm=>by lia⟩
  ·obtain⟨j,a,b⟩:=ih ((aA9.mp h).resolve_left λz=>e z.symm)
   refine⟨j+1,a,λm hm=>?_⟩
   cases m with
   |zero=>simpa using e
   |succ m=>exact b m (by lia)
section
theorem sc_farthest_two:FnScope ["web","rows","far","a"] ["web"] (aaj s_farthest_two):=by row_cond sc
theorem aa5(T:Txt K mg):Can P w K mg base "farthest_two" 9 ["web"] (spP K (ar2)):=by
 obtain⟨f,fd,D⟩:=T.d_farthest_two
 refine D.can (D.fn.ok sc_farthest_two (λvs H Q E h=>lenP h λss Q' q=>by obtain⟨n,es,rfl,W,n1,p,l,Y,k⟩:=q;rfl) (λcdv A outer s H vs Q E hr h=>?_))
 have nd:=sc_farthest_two.nd
 refine⟨_,(aac (aao (i:=1) nd rfl (Or.inl rfl) (aad (adh T) hr (aaa (pv 0) aab)))
  (aac (aao (i:=2) nd rfl (Or.inl rfl) (aad (ag9 T) hr (aaa (pv 1) aab)))
  (aac (aao (i:=3) nd rfl (Or.inl rfl) (ac0 PySem.F.plainAttrs_list PySem.F.slot_list_index PySem.F.type_list_index ae6 (adr rfl (N:=["row"]) (src:=[none]) (by exact aa9 rfl rfl rfl rfl rfl rfl) (abl (pv 1)) (λ_ _ _ _=>(aag (i:=0) (show List.Nodup (["row"]:List Str) by decide +kernel) rfl (Or.inl rfl) (hf:=Or.inr rfl))) (λ_ _ _ _=>ab7) (λ_ _ _ _=>(aai (show abi _ (.builtin "max") (afh K) from(ab4 rfl)) (by rfl) T.b_max abw (aaa (pv 0) aab)))) (aaa (pv 2) aab)))
  (aaf (aas (abp (aaa (pv 2) (aaa (pv 3) (aaa (ac0 PySem.F.plainAttrs_list PySem.F.slot_list_index PySem.F.type_list_index ae6 (aak aal (pv 1) (pv 3) (λ_ _=>rfl)) (aaa (pv 2) aab)) aab))))))))),?_⟩
 refine aa3 h λss Q' q B hK=>?_
 refine exS2 ss q λn es c=>?_
 have W:=c.1
 have n1:=c.2.1
 have p:=c.2.2.1
 have l:=c.2.2.2.1
 have Y:=c.2.2.2.2.1
 have k:=c.2.2.2.2.2
 clear c q
 show EvS B _ _ [some (.st (webD n es)),none,none,none]
 have hn:1<=n.toNat:=by lia
 obtain⟨y,d⟩:=ake hn (dsF es)
 row_cond go
 refine⟨n,es,rfl,W,n1,p,l,Y,abc abf ?_⟩
 row_cond go
 refine⟨n.toNat,dsF es,rfl,hn,by lia,λx r=>?_⟩
 have G:x∈(List.range n.toNat).map y:=by
  obtain⟨⟨u,v,J,X,v0,v1,e⟩,g⟩:=r
  refine aB7.mpr ⟨u.toNat,aB9.mpr (by lia),?_⟩
  have C:=(d u.toNat).2 (dsF es ((u.toNat:Nat):Int) ((v.toNat:Nat):Int)) (aB7.mpr ⟨v.toNat,aB9.mpr (by lia),rfl⟩)
  rw[show((u.toNat:Nat):Int)=u by lia,show((v.toNat:Nat):Int)=v by lia,e] at C
  obtain⟨j,L,O⟩:=aB7.mp (d u.toNat).1
  have:=g u j J X (by lia) (by have:=aB9.mp L;lia)
  rw[show((u.toNat:Nat):Int)=u by lia] at O
  lia
 obtain⟨a,ha,t⟩:=aoh G
 have I:a<n.toNat:=by have:=(aA1.mp ha).1;simpa using this
 have z:y a=x:=by
  rw[aA5,aD9 I] at ha
  simpa using ha
 have R:x∈(List.range n.toNat).map λ(i:Nat)=>dsF es (a:Int) (i:Int):=by rw[← z];exact(d a).1
 obtain⟨b,hb,o⟩:=aoh R
 have U:b<n.toNat:=by have:=(aA1.mp hb).1;simpa using this
 have S:dsF es (a:Int) (b:Int)=x:=by
  rw[aA5,aD9 U] at hb
  simpa using hb
 have Z:atI (matD n.toNat (dsF es)) (a:Int)=some (.list (rowD n.toNat (dsF es (a:Int)))):=an6 (by lia) (by lia)
 row_cond go
 unfold matD
 refine aee (λu:Nat=>.int (y u)) rfl (by simp;lia) (λu hu B' hB=>?_) ?_
 ·row_cond go
  rw[ae9]
  exact ach (by simp;lia) λx r=>⟨by rw[adg r (d u)],rfl⟩
 ·refine⟨(List.range n.toNat).map y,by rw[aE0];rfl,?_⟩
  row_cond go
  refine⟨x,a,rfl,ha,t,?_⟩
  row_cond go
  refine⟨(List.range n.toNat).map λ(i:Nat)=>dsF es (a:Int) (i:Int),by rw[ae9],?_⟩
  row_cond go
  refine⟨x,b,rfl,hb,o,?_⟩
  row_cond go
  refine k x a b ⟨r,by lia,by lia,by lia,by lia,S,λu v J X v0 v1 e=>?_⟩
  have hu:(a:Int)<=u:=by
   apply aD5
   intro M
   refine t u.toNat (by lia) ?_
   rw[aA5,aD9 (by lia)]
   have C:=(d u.toNat).2 (dsF es ((u.toNat:Nat):Int) ((v.toNat:Nat):Int)) (aB7.mpr ⟨v.toNat,aB9.mpr (by lia),rfl⟩)
   rw[show((u.toNat:Nat):Int)=u by lia,show((v.toNat:Nat):Int)=v by lia,e] at C
   obtain⟨j,L,O⟩:=aB7.mp (d u.toNat).1
   have:=r.2 u j J (by lia) (by lia) (by have:=aB9.mp L;lia)
   rw[show((u.toNat:Nat):Int)=u by lia] at O
   simp only[aI1,Option.some.injEq]
   lia
  by_cases hau:(a:Int)<u
  ·exact .inl hau
  ·refine .inr ⟨by lia,?_⟩
   apply aD5
   intro M
   refine o v.toNat (by lia) ?_
   rw[aA5,aD9 (by lia)]
   simp only[aI1,Option.some.injEq]
   rw[show((v.toNat:Nat):Int)=v by lia,show(a:Int)=u by lia]
   exact e
end
def a0a:VP:=λss Q=>∃(n a b:Int)(es:List (Int × Int))(d:Nat),ss=[.st (webD n es),.st (.int a),.st (.int b)]/\n<=100/\InN n es/\es.length<=10000/\0<=a/\a<n/\0<=b/\b<n/\Gr.Dist (Tied es) b a d/\∀ ws,WayTo (Tied es) a b d ws->Q (.own (OL (ws.map .int)))
structure WayAt(T:Int->Int->Prop)(a b:Int)(d:Nat)(pre:List Int)(here:Int):Prop where
 len:pre.length<=d
 fst:(pre++[here])[0]?=some a
 far:∀(i:Nat) x,(pre++[here])[i]?=some x->Gr.Dist T b x (d-i)
 tie:∀(i:Nat) x y,(pre++[here])[i]?=some x->(pre++[here])[i+1]?=some y->T x y
theorem WayAt.start(h:Gr.Dist T b a d):WayAt T a b d [] a:=by
 refine⟨aG0 _,rfl,λi x e=>?_,λi x y _ e=>by simp at e⟩
 have hi:=(aA1.mp e).1
 have:i=0:=by simp at hi;exact hi
 subst this
 simp at e
 subst e
 exact h
theorem WayAt.here{T:Int->Int->Prop}{a b:Int}{d:Nat}{pre:List Int}{here:Int}(h:WayAt T a b d pre here):Gr.Dist T b here (d-pre.length):=h.far pre.length here (by rw[aC8 (aA6 _),aI6];rfl)
theorem WayAt.more{T:Int->Int->Prop}{a b:Int}{d:Nat}{pre:List Int}{here p:Int}(h:WayAt T a b d pre here)(o:pre.length<d)(t:T here p)(l:Gr.Dist T b p (d-(pre.length+1))):WayAt T a b d (pre++[here]) p:=by
 have f:(pre++[here]).length=pre.length+1:=by simp
 have get:∀(i:Nat) x,((pre++[here])++[p])[i]?=some x->(pre++[here])[i]?=some x\/(i=pre.length+1/\x=p):=λi x e=>by
  by_cases hi:i<(pre++[here]).length
  ·rw[aC3 hi] at e;exact .inl e
  ·have n:=(aA1.mp e).1
   rw[aB1,List.length_singleton] at n
   have:i=(pre++[here]).length:=by lia
   subst this
   rw[aC8 (aA6 _),aI6] at e
   exact .inr ⟨f,by simpa using e.symm⟩
 refine⟨by lia,by rw[aC3 (by lia)];exact h.fst,λi x e=>?_,λi x y c g=>?_⟩
 ·rcases get i x e with e|⟨rfl,rfl⟩
  ·exact h.far i x e
  ·exact l
 ·rcases get (i+1) y g with g|⟨hi,rfl⟩
  ·rcases get i x c with c|⟨hi,_⟩
   ·exact h.tie i x y c g
   ·have:=(aA1.mp g).1;lia
  ·rcases get i x c with c|⟨j,_⟩
   ·have:i=pre.length:=by lia
    subst this
    rw[aC8 (aA6 _),aI6] at c
    have:x=here:=by simpa using c.symm
    rw[this];exact t
   ·lia
theorem WayAt.fin(h:WayAt T a b d pre b):WayTo T a b d (pre++[b]):=by
 have:=h.here.uniq (Gr.Dist.self T b)
 have:=h.len
 exact⟨by simp;lia,h.fst,h.far,h.tie⟩
theorem WayAt.not{T:Int->Int->Prop}{a b:Int}{d:Nat}{pre:List Int}{here:Int}(h:WayAt T a b d pre here)(hb:here ≠ b):pre.length<d:=by
 have:=h.len
 apply aD5
 intro hn
 have hh:=h.here
 rw[show d-pre.length=0 by lia] at hh
 cases hh.1
 exact hb rfl
section
theorem sc_short_way:FnScope ["web","a","b","tied","far","way","here"] ["web","a","b"] (aaj s_short_way):=by row_cond sc
theorem alx(T:Txt K mg):Can P w K mg base "short_way" 5 ["web","a","b"] (spP K (a0a)):=by
 obtain⟨f,fd,D⟩:=T.d_short_way
 refine D.can (D.fn.ok sc_short_way (λvs H Q E h=>lenP h λss Q' q=>by obtain⟨n,a,b,es,d,rfl,I,g,y,a0,a1,b0,b1,hd,k⟩:=q;rfl) (λcdv A outer s H vs Q E hr h=>?_))
 have nd:=sc_short_way.nd
 refine⟨_,(aac (abk (aad (aed T) hr (aaa (pv 0) (aaa (pv 1) aab))))
  (aac (abk (aad (aed T) hr (aaa (pv 0) (aaa (pv 2) aab))))
  (aac (aao (i:=3) nd rfl (Or.inl rfl) (aad (ad7 T) hr (aaa (pv 0) aab)))
  (aac (aao (i:=4) nd rfl (Or.inr rfl) (aad (ae8 T) hr (aaa (pv 3) (aaa (pv 2) aab))))
  (aac (abn (aav ahn (aak aal (pv 4) (pv 1) (λ_ _=>rfl)) ad1 (aay _))
   (aaf (aas ad1))
   aa7)
  (aac (aao (i:=5) nd rfl (Or.inl rfl) (abq (aaa (pv 1) aab)))
  (aac (af5 aJ9 (aav ais (aak aal (pv 5) (aqx ame aae) (λ_ _=>rfl)) (pv 2) (aay _))
   (aac (aao (i:=6) nd rfl (Or.inr rfl) (aak aal (pv 5) (aqx ame aae) (λ_ _=>rfl)))
    (aaf (abk (ac0 PySem.F.plainAttrs_list PySem.F.slot_list_append PySem.F.type_list_append ab2 (pv 5) (aaa (aai (akv rfl) (by rfl) T.b_min ad3 (aaa (adr rfl (N:=["place","far","here"]) (src:=[none,some 4,some 6]) (by exact aa9 rfl rfl rfl rfl rfl rfl) (abl (aak aal (pv 3) (pv 6) (λ_ _=>rfl))) (λ_ _ _ _=>(aag (i:=0) (show List.Nodup (["place","far","here"]:List Str) by decide +kernel) rfl (Or.inl rfl) (hf:=Or.inr rfl))) (λ_ _ _ _=>acy (aav afb (aak (show IxR _ (aca K) from aal) (pv 1) (pv 0) (λ_ _=>rfl)) (aax adn (aak (show IxR _ (aca K) from aal) (pv 1) (pv 2) (λ_ _=>rfl)) aae) (aay _))) (λ_ _ _ _=>(pv 0))) aab)) aab))))))
  (aaf (aas (pv 5)))))))))),?_⟩
 refine aa3 h λss Q' q B hK=>?_
 refine exS5 ss q λn a b es d c=>?_
 have I:=c.1
 have g:=c.2.1
 have y:=c.2.2.1
 have a0:=c.2.2.2.1
 have a1:=c.2.2.2.2.1
 have b0:=c.2.2.2.2.2.1
 have b1:=c.2.2.2.2.2.2.1
 have hd:=c.2.2.2.2.2.2.2.1
 have k:=c.2.2.2.2.2.2.2.2
 clear c q
 show EvS B _ _ [some (.st (webD n es)),some (.st (.int a)),some (.st (.int b)),none,none,none,none]
 have hs:∀ u v,Tied es u v->Tied es v u:=λ_ _ t=>t.symm
 have a6:d<101:=by
  have:=hd.lt (n:=100) (λu v h=>by have:=(h.in g).2;lia) (by lia)
  lia
 row_cond go
 refine⟨n,a,es,rfl,a0,a1,?_⟩
 row_cond go
 refine⟨n,b,es,rfl,b0,b1,?_⟩
 row_cond go
 refine⟨n,es,rfl,by lia,I,g,y,λtl W hu=>abc ahy ?_⟩
 row_cond go
 refine⟨n,b,Tied es,tl,rfl,I,W,λu v h=>(h.in g).2,b0,b1,abc abf ?_⟩
 have ha:atI (lab n.toNat (Gr.farO (Tied es) b)) a=some (.int (d:Int)):=by rw[ag2 a0 (by lia),Gr.farO_some.mpr hd];rfl
 row_cond go
 refine acp ?_
 row_cond go
 refine afj (λY e=>∃ U pre here,e=[some (.st (webD n es)),some (.st (.int a)),some (.st (.int b)),some (.st (tlV tl)),some (.st (.list (lab n.toNat (Gr.farO (Tied es) b)))),some (.own (OL (List.map PyData.int (pre++[here])))),U]/\WayAt (Tied es) a b d pre here/\0<=here/\here<n/\Y=d-pre.length) ⟨_,_,[],a,rfl,WayAt.start hd,a0,a1,rfl⟩ ?_
 rintro Y e z
 refine exS3 e z λU pre here c=>?_
 have o:=c.1
 have C:=c.2.1
 have h1:=c.2.2.1
 have G:=c.2.2.2
 clear c z
 subst G
 rw[aE5]
 have a2:=az9 (pre.map PyData.int) (PyData.int here)
 have X:=o.len
 row_cond go
 by_cases hb:here=b
 ·subst hb
  rw[aD8 rfl]
  refine acp ?_
  row_cond go
  have:=k _ o.fin
  rw[aE5] at this
  exact this
 ·have L:=o.not hb
  have hh:=o.here
  obtain⟨us,r,O⟩:=W.get C h1
  have a3:atI ((tlD tl).map PyData.list) here=some (.list (us.map .int)):=acd (f:=PyData.list) (acl C (ahz r))
  have a5:atI (lab n.toNat (Gr.farO (Tied es) b)) here=some (.int ((d-pre.length:Nat):Int)):=by rw[ag2 C (by lia),Gr.farO_some.mpr hh];rfl
  have j:us.length<=999999:=by have:=hu us (aA2 r);lia
  rw[aD7 hb]
  refine acv ?_
  row_cond go
  refine afn (xs:=us) (f:=PyData.int) PyData.int (λv=>decide (Gr.farO (Tied es) b v=some (d-(pre.length+1)))) rfl j (λv hv B' hB=>?_) ?_
  ·have x:=(O v).mp hv
   have M:=(x.in g).2
   obtain⟨e,_,Z⟩:=hh.next x
   have a4:atI (lab n.toNat (Gr.farO (Tied es) b)) v=some (.int (e:Int)):=by rw[ag2 M.1 (by lia),Gr.farO_some.mpr Z];rfl
   row_cond go
   refine⟨?_,rfl,λ_=>?_⟩
   ·rw[Gr.farO_some.mpr Z,aH8,decide_eq_true_iff,decide_eq_true_iff,Option.some.injEq]
    lia
   ·row_cond go
    exact rfl
  ·row_cond go
   refine anj ?_ λp hp=>?_
   ·intro e0
    obtain⟨u,t,R⟩:=(show Gr.Dist (Tied es) b here (d-(pre.length+1)+1) by rw[show d-(pre.length+1)+1=d-pre.length by lia];exact hh).pred
    have:u∈us.filter λv=>decide (Gr.farO (Tied es) b v=some (d-(pre.length+1))):=aE2.mpr ⟨(O u).mpr (hs _ _ t),aD8 (Gr.farO_some.mpr R)⟩
    rw[e0] at this
    cases this
   ·obtain⟨J,S⟩:=aE2.mp hp.1
    have tp:=(O p).mp J
    have dp:=Gr.farO_some.mp (of_decide_eq_true S)
    have l:=(tp.in g).2
    row_cond go
    exact⟨d-(pre.length+1),by lia,_,pre++[here],p,by rw[aE5,aE5];rfl,o.more L tp dp,l.1,l.2,by simp⟩
end
theorem a21(n:Nat)(m:Int->Int->Int):enD (matD n m)=(List.range n).map λ(i:Nat)=>.tuple [.int (i:Int),.list (rowD n (m (i:Int)))]:=by
 unfold enD
 rw[azy]
 refine aE9 λi hi=>?_
 have hi:=aB9.mp hi
 have:(matD n m).getD i .none=.list (rowD n (m (i:Int))):=by
  unfold matD
  rw[aD4,aA5,aD9 hi]
  rfl
 rw[this]
def ad8(n:Nat)(es:List (Int × Int))(x:Int):List Int:=((List.range n).filter λ(u:Nat)=>decide (mxF n (dsF es (u:Int))=x)).map λ(u:Nat)=>(u:Int)
theorem awq(n:Nat)(es:List (Int × Int))(x:Int):(ad8 n es x).length<=n:=by
 unfold ad8
 rw[aA3]
 exact aD0 (aF3 _ _) (by simp)
def awr:VP:=λss Q=>∃(n:Int)(es:List (Int × Int)),ss=[.st (webD n es)]/\1<=n/\n<=100/\InN n es/\es.length<=10000/\((es.length:Int)=n-1/\Joined n es)/\∀ x a b d ws,FarOk n es x a b->Gr.Dist (Tied es) b a d->WayTo (Tied es) a b d ws->Q (.own (OL (ws.map .int)))
def a22:VP:=λss Q=>∃(n:Int)(es:List (Int × Int)),ss=[.st (webD n es)]/\1<=n/\n<=100/\InN n es/\es.length<=10000/\((es.length:Int)=n-1/\Joined n es)/\∀ x,adl n.toNat (dsF es) x->Q (.own (OL ((ad8 n.toNat es x).map .int)))
theorem ao9(c:Joined n es)(f:0<=u)(a:u<n)(v0:0<=v)(b:v<n):∃ d:Nat,Gr.Dist (Tied es) u v d/\dsF es u v=(d:Int):=by
 obtain⟨d,e⟩:=agj c f a v0 b
 exact⟨d,Gr.farO_some.mp e,by simp only[dsF,e,Option.getD_some]⟩
section
theorem sc_far_way:FnScope ["web","far","a","b"] ["web"] (aaj s_far_way):=by row_cond sc
theorem apa(T:Txt K mg):Can P w K mg base "far_way" 10 ["web"] (spP K (awr)):=by
 obtain⟨f,fd,D⟩:=T.d_far_way
 refine D.can (D.fn.ok sc_far_way (λvs H Q E h=>lenP h λss t q=>by obtain⟨n,es,rfl,r,p,l,g,o,k⟩:=q;rfl) (λcdv A outer s H vs Q E hr h=>?_))
 have nd:=sc_far_way.nd
 refine⟨_,(aac (abk (aad (aer T) hr (aaa (pv 0) aab)))
  (aac (ab0 (aad (aa5 T) hr (aaa (pv 0) aab)) (abo rfl (aan (aag (i:=1) nd rfl (Or.inl rfl)) (aan (aag (i:=2) nd rfl (Or.inl rfl)) (aan (aag (i:=3) nd rfl (Or.inl rfl)) aba)))))
  (aaf (aas (aad (alx T) hr (aaa (pv 0) (aaa (pv 2) (aaa (pv 3) aab)))))))),?_⟩
 refine aa3 h λss t q B v=>?_
 refine exS2 ss q λn es c=>?_
 have r:=c.1
 have p:=c.2.1
 have l:=c.2.2.1
 have g:=c.2.2.2.1
 have o:=c.2.2.2.2.1
 have k:=c.2.2.2.2.2
 clear c q
 show EvS B _ _ [some (.st (webD n es)),none,none,none]
 row_cond go
 refine⟨n,es,rfl,r,p,l,g,o,?_⟩
 row_cond go
 refine⟨n,es,rfl,r,p,l,g,o.2,λx a b j=>?_⟩
 obtain⟨d,hd,_⟩:=ao9 o.2 j.b0 j.b1 j.a0 j.a1
 row_cond go
 refine⟨n,a,b,es,d,rfl,p,l,g,j.a0,j.a1,j.b0,j.b1,hd,λws u=>?_⟩
 exact k x a b d ws j hd u
theorem sc_far_ends:FnScope ["web","rows","far"] ["web"] (aaj s_far_ends):=by row_cond sc
theorem aoi(T:Txt K mg):Can P w K mg base "far_ends" 9 ["web"] (spP K (a22)):=by
 obtain⟨f,fd,D⟩:=T.d_far_ends
 refine D.can (D.fn.ok sc_far_ends (λvs H Q E h=>lenP h λss o q=>by obtain⟨n,es,rfl,d,j,c,b,g,k⟩:=q;rfl) (λcdv A outer s H vs Q E hr h=>?_))
 have nd:=sc_far_ends.nd
 refine⟨_,(aac (abk (aad (aer T) hr (aaa (pv 0) aab)))
  (aac (aao (i:=1) nd rfl (Or.inl rfl) (aad (adh T) hr (aaa (pv 0) aab)))
  (aac (aao (i:=2) nd rfl (Or.inr rfl) (aad (ag9 T) hr (aaa (pv 1) aab)))
  (aaf (aas (adr rfl (N:=["place","row","far"]) (src:=[none,none,some 2]) (by exact aa9 rfl rfl rfl rfl rfl rfl) (ap6 rfl T.b_enumerate (aaa (pv 1) aab)) (λ_ _ _ _=>(show PG _ _ (gTup K 2 (abz (aa0 0) (abz (aa0 1) gNil))) from(abo rfl (aan (aag (i:=0) (show List.Nodup (["place","row","far"]:List Str) by decide +kernel) rfl (Or.inl rfl) (hf:=Or.inr rfl)) (aan (aag (i:=1) (show List.Nodup (["place","row","far"]:List Str) by decide +kernel) rfl (Or.inl rfl) (hf:=Or.inr rfl)) aba))))) (λ_ _ _ _=>acy (aav afb (aai (show abi _ (.builtin "max") (afh K) from(ab4 rfl)) (by rfl) T.b_max abw (aaa (pv 1) aab)) (pv 2) (aay _))) (λ_ _ _ _=>(pv 0)))))))),?_⟩
 refine aa3 h λss o q B r=>?_
 refine exS2 ss q λn es a=>?_
 have d:=a.1
 have j:=a.2.1
 have c:=a.2.2.1
 have b:=a.2.2.2.1
 have g:=a.2.2.2.2.1
 have k:=a.2.2.2.2.2
 clear a q
 show EvS B _ _ [some (.st (webD n es)),none,none]
 have hn:1<=n.toNat:=by lia
 row_cond go
 refine⟨n,es,rfl,d,j,c,b,g,?_⟩
 row_cond go
 refine⟨n,es,rfl,d,j,c,b,g.2,abc abf ?_⟩
 row_cond go
 refine⟨n.toNat,dsF es,rfl,hn,by lia,λx p=>?_⟩
 row_cond go
 rw[a21]
 refine agg (xs:=List.range n.toNat) (fa:=λi:Nat=>.int (i:Int)) (fb:=λi:Nat=>.list (rowD n.toNat (dsF es (i:Int)))) (λi:Nat=>.int (i:Int)) (λ(i:Nat)=>decide (mxF n.toNat (dsF es (i:Int))=x)) rfl (by simp;lia) (λi hi u t=>?_) ?_
 ·row_cond go
  rw[agk]
  refine ach (aez hn _) λy l=>?_
  obtain rfl:=adg l (aep hn _)
  row_cond go
  intro _
  row_cond go
  exact rfl
 ·rw[show((List.range n.toNat).filter λ(i:Nat)=>decide (mxF n.toNat (dsF es (i:Int))=x)).map (λi:Nat=>PyData.int (i:Int))=(ad8 n.toNat es x).map .int by unfold ad8;rw[aE0];rfl]
  row_cond go
  exact k x p
end
structure MidOk(n:Int)(es:List (Int × Int))(x:Int)(ps:List Int):Prop where
 lo:∀ u:Int,0<=u->u<n->∃ v:Int,0<=v/\v<n/\x<=dsF es u v
 rise:ps.Pairwise (· < ·)
 ne:ps ≠ []
 mem:∀ u:Int,u∈ps ↔ (0<=u/\u<n/\∀ v:Int,0<=v->v<n->dsF es u v<=x)
def a38:VP:=λss Q=>∃(n:Int)(es:List (Int × Int)),ss=[.st (webD n es)]/\1<=n/\n<=100/\InN n es/\es.length<=10000/\Joined n es/\∀ x ps,MidOk n es x ps->Q (.own (OW (.int x) (ps.map .int)))
theorem aws(n:Nat)(a:Nat->Int):enD (List.map PyData.int (List.map a (List.range n)))=(List.range n).map λ(i:Nat)=>.tuple [.int (i:Int),.int (a i)]:=by
 refine aG2 λi=>?_
 by_cases hi:i<n
 ·have c:i<(enD (List.map PyData.int (List.map a (List.range n)))).length:=by rw[aeu];simpa using hi
  obtain⟨x,b,e⟩:=ap8 (aA0 c)
  rw[aA0 c,e,aA5,aD9 hi]
  rw[aA5,aA5,aD9 hi] at b
  cases b
  rfl
 ·rw[aE3 (by rw[aeu];simp;lia),aE3 (by simp;lia)]
theorem a23(t:1<=n)(d:∀ u:Nat,ad4 ((List.range n.toNat).map λ(i:Nat)=>dsF es (u:Int) (i:Int)) (c u))(o:arb ((List.range n.toNat).map c) x) :
  MidOk n es x (((List.range n.toNat).filter λi=>decide (c i=x)).map λ(i:Nat)=>(i:Int)):=by
 refine⟨λu p q=>?_,?_,λe=>?_,λu=>?_⟩
 ·have g:=o.2 (c u.toNat) (aB7.mpr ⟨u.toNat,aB9.mpr (by lia),rfl⟩)
  obtain⟨j,f,e⟩:=aB7.mp (d u.toNat).1
  rw[show((u.toNat:Nat):Int)=u by lia] at e
  exact⟨j,by lia,by have:=aB9.mp f;lia,by lia⟩
 ·rw[aG1]
  exact(List.pairwise_lt_range.filter _).imp λ{a b} h=>by lia
 ·obtain⟨j,f,r⟩:=aB7.mp o.1
  have:(j:Int)∈((List.range n.toNat).filter λi=>decide (c i=x)).map λ(i:Nat)=>(i:Int):=aB7.mpr ⟨j,aE2.mpr ⟨f,by simpa using r⟩,rfl⟩
  rw[e] at this
  cases this
 ·rw[aB7]
  constructor
  ·rintro⟨i,hi,rfl⟩
   obtain⟨g,l⟩:=aE2.mp hi
   have g:=aB9.mp g
   have l:c i=x:=by simpa using l
   refine⟨by lia,by lia,λv v0 s=>?_⟩
   have:=(d i).2 (dsF es (i:Int) ((v.toNat:Nat):Int)) (aB7.mpr ⟨v.toNat,aB9.mpr (by lia),rfl⟩)
   rw[show((v.toNat:Nat):Int)=v by lia,l] at this
   exact this
  ·rintro⟨p,q,h⟩
   refine⟨u.toNat,aE2.mpr ⟨aB9.mpr (by lia),?_⟩,by lia⟩
   have g:=o.2 (c u.toNat) (aB7.mpr ⟨u.toNat,aB9.mpr (by lia),rfl⟩)
   obtain⟨j,f,e⟩:=aB7.mp (d u.toNat).1
   rw[show((u.toNat:Nat):Int)=u by lia] at e
   have:=h j (by lia) (by have:=aB9.mp f;lia)
   simp
   lia
section
theorem sc_middles:FnScope ["web","wides","wide"] ["web"] (aaj s_middles):=by row_cond sc
theorem afu(T:Txt K mg):Can P w K mg base "middles" 9 ["web"] (spP K (a38)):=by
 obtain⟨f,fd,D⟩:=T.d_middles
 refine D.can (D.fn.ok sc_middles (λvs H Q E h=>lenP h λss r q=>by obtain⟨n,es,rfl,j,p,g,c,o,k⟩:=q;rfl) (λcdv A outer s H vs Q E hr h=>?_))
 have nd:=sc_middles.nd
 refine⟨_,(aac (adb (i:=1) nd rfl (Or.inl rfl) rfl (N:=["row"]) (src:=[none]) (by exact aa9 rfl rfl rfl rfl rfl rfl) (abl (aad (adh T) hr (aaa (pv 0) aab))) (λ_ _ _ _=>(aag (i:=0) (show List.Nodup (["row"]:List Str) by decide +kernel) rfl (Or.inl rfl) (hf:=Or.inr rfl))) (λ_ _ _ _=>ab7) (λ_ _ _ _=>(aai (show abi _ (.builtin "max") (afh K) from(ab4 rfl)) (by rfl) T.b_max abw (aaa (pv 0) aab))))
  (aac (aao (i:=2) nd rfl (Or.inr rfl) (aai (akv rfl) (by rfl) T.b_min ad3 (aaa (pv 1) aab)))
  (aaf (aas (abp (aaa (pv 2) (aaa (adr rfl (N:=["place","sees","wide"]) (src:=[none,none,some 2]) (by exact aa9 rfl rfl rfl rfl rfl rfl) (ap6 rfl T.b_enumerate (aaa (pv 1) aab)) (λ_ _ _ _=>(show PG _ _ (gTup K 2 (abz (aa0 0) (abz (aa0 1) gNil))) from(abo rfl (aan (aag (i:=0) (show List.Nodup (["place","sees","wide"]:List Str) by decide +kernel) rfl (Or.inl rfl) (hf:=Or.inr rfl)) (aan (aag (i:=1) (show List.Nodup (["place","sees","wide"]:List Str) by decide +kernel) rfl (Or.inl rfl) (hf:=Or.inr rfl)) aba))))) (λ_ _ _ _=>acy (aav afb (pv 1) (pv 2) (aay _))) (λ_ _ _ _=>(pv 0))) aab))))))),?_⟩
 refine aa3 h λss r q B y=>?_
 refine exS2 ss q λn es a=>?_
 have j:=a.1
 have p:=a.2.1
 have g:=a.2.2.1
 have c:=a.2.2.2.1
 have o:=a.2.2.2.2.1
 have k:=a.2.2.2.2.2
 clear a q
 show EvS B _ _ [some (.st (webD n es)),none,none]
 have hn:1<=n.toNat:=by lia
 obtain⟨b,d⟩:=ake hn (dsF es)
 row_cond go
 refine⟨n,es,rfl,j,p,g,c,o,afi ?_⟩
 row_cond go
 unfold matD
 refine aee (λu:Nat=>.int (b u)) rfl (by simp;lia) (λu z v t=>?_) ?_
 ·row_cond go
  rw[ae9]
  exact ach (by simp;lia) λx l=>⟨by rw[adg l (d u)],rfl⟩
 ·rw[show(List.range n.toNat).map (λu:Nat=>PyData.int (b u))=((List.range n.toNat).map b).map .int by rw[aE0];rfl]
  refine abc abf ?_
  row_cond go
  refine anj (by simp;lia) λx l=>?_
  repeat (first|(refine awf ?_)|row_cond st)
  rw[aws]
  refine agg (xs:=List.range n.toNat) (fa:=λi:Nat=>.int (i:Int)) (fb:=λi:Nat=>.int (b i)) (λi:Nat=>.int (i:Int)) (λi=>decide (b i=x)) rfl (by simp;lia) (λi hi v t=>?_) ?_
  ·row_cond go
   intro _
   row_cond go
   exact rfl
  ·refine⟨_,rfl,?_⟩
   rw[show((List.range n.toNat).filter λi=>decide (b i=x)).map (λi:Nat=>PyData.int (i:Int))=(((List.range n.toNat).filter λi=>decide (b i=x)).map λ(i:Nat)=>(i:Int)).map .int by rw[aE0];rfl]
   exact k x _ (a23 j d l)
end
def acq(n:Int):PyData->Bool
 | .tuple [.int a,.int b]=>decide (0<=a/\a<=n-1) && decide (0<=b/\b<=n-1) && decide (a<b)
 |_=>false
def agl(n:Int):PyData->Bool
 | .list ds=>ds.all (acq n)
 |_=>false
def a39:VP:=λss Q=>∃(n:Int)(d:PyData),ss=[.st (.int n),.st d]/\Q (.st (.bool (acq n d)))
def a24:VP:=λss Q=>∃(n:Int)(d:PyData),ss=[.st (.int n),.st d]/\(∀ ds,d=.list ds->ds.length<=100000)/\Q (.st (.bool (agl n d)))
def awt:VP:=λss Q=>∃(ps:List (Int × Int)),ss=[.st (.list (ps.map prD))]/\ps.length<=100000/\∀ b:Bool,(b=true ↔ Rise ps)->Q (.st (.bool b))
structure PutOk(n:Int)(es fs:List (Int × Int)):Prop where
 inn:∀ p∈fs,0<=p.1/\p.1<p.2/\p.2<n
 nd:(es++fs).Nodup
def a25:VP:=λss Q=>∃(n:Int)(es fs:List (Int × Int)),ss=[.st (webD n es),.st (.list (fs.map prD))]/\es.length<=10000/\fs.length<=10000/\PutOk n es fs/\∀ qs,Rise qs->qs.Perm (es++fs)->Q (.own (OW (.int n) (qs.map prD)))
section
theorem sc_is_tie:FnScope ["n","thing","a","b"] ["n","thing"] (aaj s_is_tie):=by row_cond sc
theorem ar3 (T:Txt K mg):Can P w K mg base "is_tie" 4 ["n","thing"] (spP K (a39)):=by
 obtain⟨f,fd,D⟩:=T.d_is_tie
 refine D.can (D.fn.ok sc_is_tie (λvs H Q E h=>lenP h λss l q=>by obtain⟨n,d,rfl,k⟩:=q;rfl) (λcdv A outer s H vs Q E hr h=>?_))
 have nd:=sc_is_tie.nd
 refine⟨_,(aac (abn (PW.pt (aes (ada (ac9 (aai af8 (by rfl) T.b_isinstance ads (aaa (pv 1) (aaa (ahg (v:=.ty "tuple") rfl T.b_tuple au0 rfl) aab))))) (ae0 (aav ais (aai aa6 (by rfl) T.b_len abv (aaa (pv 1) aab)) aae (aay _)))))
   (aaf (aas adq))
   aa7)
  (aac (ab0 (pv 1) (abo rfl (aan (aag (i:=2) nd rfl (Or.inl rfl)) (aan (aag (i:=3) nd rfl (Or.inl rfl)) aba))))
  (aaf (aas (aeh (aad (ae7 T) hr (aaa (pv 0) (aaa (pv 2) aab))) (aeh (aad (ae7 T) hr (aaa (pv 0) (aaa (pv 3) aab))) (afv (acm alz (pv 2) (pv 3) (aay _))))))))),?_⟩
 refine aa3 h λss l q B o=>?_
 refine exS2 ss q λn d g=>?_
 have k:=g
 clear g q
 show EvS B _ _ [some (.st (.int n)),some (.st d),none,none]
 row_cond go
 cases d with
 | tuple xs =>
  refine aho ?_
  row_cond go
  rcases(show xs.length=2\/xs.length ≠ 2 by lia) with j|j
  ·match xs,j with
   | [x,y],_ =>
    row_cond go
    refine⟨n,x,rfl,?_⟩
    row_cond go
    have c:acq n (.tuple [x,y])=(btwD 0 (n-1) x && (btwD 0 (n-1) y && match x,y with | .int a,.int b=>decide (a<b)|_,_=>false)):=by
     cases x <;> cases y <;> simp[acq,btwD,Bool.and_assoc]
    cases hx:btwD 0 (n-1) x with
    | false =>
     rw[hx,Bool.false_and] at c
     refine acp ?_
     rw[← c];exact k
    | true =>
     refine acv ?_
     row_cond go
     refine⟨n,y,rfl,?_⟩
     row_cond go
     cases hy:btwD 0 (n-1) y with
     | false =>
      rw[hx,hy] at c
      refine acp ?_
      rw[show false=acq n (.tuple [x,y]) by rw[c];rfl];exact k
     | true =>
      refine acv ?_
      cases x with
      | int a =>
       cases y with
       | int b =>
        row_cond go
        rw[hx,hy] at c
        rw[show decide (a<b)=acq n (.tuple [.int a,.int b]) by rw[c];rfl];exact k
       |_=>simp[btwD] at hy
      |_=>simp[btwD] at hx
  ·row_cond go
   have:acq n (.tuple xs)=false:=by
    match xs,j with
    |[],_=>rfl
    |[x],_=>cases x <;> rfl
    |[_,_],h=>exact absurd rfl h
    |x::y::_::_,_=>cases x <;> cases y <;> rfl
   rw[← this];exact k
 | _ =>
  refine ahp ?_
  row_cond go
  exact k
theorem sc_are_ties:FnScope ["n","thing"] ["n","thing"] (aaj s_are_ties):=by row_cond sc
theorem aoj(T:Txt K mg):Can P w K mg base "are_ties" 5 ["n","thing"] (spP K (a24)):=by
 obtain⟨f,fd,D⟩:=T.d_are_ties
 refine D.can (D.fn.ok sc_are_ties (λvs H Q E h=>lenP h λss c q=>by obtain⟨n,d,rfl,b,k⟩:=q;rfl) (λcdv A outer s H vs Q E hr h=>?_))
 have nd:=sc_are_ties.nd
 refine⟨_,(aaf (aas (aeh (aai af8 (by rfl) T.b_isinstance ads (aaa (pv 1) (aaa (ahg (v:=.ty "list") rfl T.b_list apo rfl) aab))) (afv (aai (ak2 rfl) (by rfl) T.b_all asx (aaa (adr rfl (N:=["tie","n"]) (src:=[none,some 0]) (by exact aa9 rfl rfl rfl rfl rfl rfl) (abl (pv 1)) (λ_ _ _ _=>(aag (i:=0) (show List.Nodup (["tie","n"]:List Str) by decide +kernel) rfl (Or.inl rfl) (hf:=Or.inr rfl))) (λ_ _ _ _=>ab7) (λ_ _ _ _=>(aad (ar3 T) hr (aaa (pv 1) (aaa (pv 0) aab))))) aab)))))),?_⟩
 refine aa3 h λss c q B g=>?_
 refine exS2 ss q λn d a=>?_
 have b:=a.1
 have k:=a.2
 clear a q
 show EvS B _ _ [some (.st (.int n)),some (.st d)]
 row_cond go
 cases d with
 | list ds =>
  have b:=b ds rfl
  refine acv ?_
  row_cond go
  refine ap2 (λt=>.bool (acq n t)) rfl (by lia) (λt _ l j=>?_) ?_
  ·row_cond go
   exact⟨n,t,rfl,rfl,rfl⟩
  ·row_cond go
   rw[show(ds.map λt=>PyData.bool (acq n t))=(ds.map (acq n)).map .bool by rw[aE0];rfl]
   refine ap9 ?_
   row_cond go
   rw[show(ds.map (acq n)).all id=agl n (.list ds) by simp[agl,List.all_map]]
   exact k
 | _ =>
  refine acp ?_
  exact k
theorem sc_is_rising:FnScope ["things"] ["things"] (aaj s_is_rising):=by row_cond sc
theorem aly(T:Txt K mg):Can P w K mg base "is_rising" 1 ["things"] (spP K (awt)):=by
 obtain⟨f,fd,D⟩:=T.d_is_rising
 refine D.can (D.fn.ok sc_is_rising (λvs H Q E h=>lenP h λss l q=>by obtain⟨ps,rfl,n,k⟩:=q;rfl) (λcdv A outer s H vs Q E hr h=>?_))
 have nd:=sc_is_rising.nd
 refine⟨_,(aaf (aas (aai (ak2 rfl) (by rfl) T.b_all asx (aaa (adr rfl (N:=["at","things"]) (src:=[none,some 0]) (by exact aa9 rfl rfl rfl rfl rfl rfl) (acr rfl T.b_range (aaa (aax adn (aai aa6 (by rfl) T.b_len abv (aaa (pv 0) aab)) aae) aab)) (λ_ _ _ _=>(aag (i:=0) (show List.Nodup (["at","things"]:List Str) by decide +kernel) rfl (Or.inl rfl) (hf:=Or.inr rfl))) (λ_ _ _ _=>ab7) (λ_ _ _ _=>(acm (show OpR _ (compareOp .Lt) (rLtT K) from asl hr.units0) (aak (show IxR _ (aca K) from aal) (pv 1) (pv 0) (λ_ _=>rfl)) (aak (show IxR _ (aca K) from aal) (pv 1) (aax abu (pv 0) aae) (λ_ _=>rfl)) (aay _)))) aab)))),?_⟩
 refine aa3 h λss l q B r=>?_
 refine exS1 ss q λps a=>?_
 have n:=a.1
 have k:=a.2
 clear a q
 show EvS B _ _ [some (.st (.list (ps.map prD)))]
 row_cond go
 rw[aA3]
 row_cond go
 refine ap2 (λd=>match d with | .int i=>.bool (match ps[i.toNat]?,ps[i.toNat+1]? with|some p,some q=>HT.lexLt (p2 p) (p2 q)|_,_=>false)|_=>.none) rfl (by rw[acz];lia) (λd hd u t=>?_) ?_
 ·obtain⟨i,hi⟩:=List.mem_iff_getElem?.mp hd
  obtain⟨hi,rfl⟩:=agd hi
  have c:i<ps.length:=by lia
  have j:i+1<ps.length:=by lia
  have a1:atI (ps.map prD) (0+(i:Int))=some (prD ps[i]):=acd (f:=prD) (acl (by lia) (by rw[show(0+(i:Int)).toNat=i by lia];exact aA0 c))
  have o:atI (ps.map prD) (0+(i:Int)+1)=some (prD ps[i+1]):=acd (f:=prD) (acl (by lia) (by rw[show(0+(i:Int)+1).toNat=i+1 by lia];exact aA0 j))
  row_cond go
  refine aqb ?_
  row_cond go
  refine⟨?_,rfl⟩
  simp[c,j]
 ·row_cond go
  have e:(rngD 0 ((ps.length:Int)-1).toNat).map (λd=>match d with | .int i=>PyData.bool (match ps[i.toNat]?,ps[i.toNat+1]? with|some p,some q=>HT.lexLt (p2 p) (p2 q)|_,_=>false)|_=>.none)=((List.range (ps.length-1)).map λi=>match ps[i]?,ps[i+1]? with|some p,some q=>HT.lexLt (p2 p) (p2 q)|_,_=>false).map .bool:=by
   unfold rngD
   rw[aE0,aE0,show((ps.length:Int)-1).toNat=ps.length-1 by lia]
   apply aE9
   intro i _
   simp
  rw[e]
  refine ap9 ?_
  row_cond go
  refine k _ ?_
  rw[List.all_map,aF4]
  unfold Rise
  rw[ano ltP (λh g=>anm h g)]
  constructor
  ·intro h i hi
   have:=h i (aB9.mpr (by lia))
   simp[show i<ps.length by lia,hi] at this
   exact(lex2 _ _).mp this
  ·intro h i hi
   have b:i+1<ps.length:=by have:=aB9.mp hi;lia
   have:=(lex2 _ _).mpr (h i b)
   simp[show i<ps.length by lia,b,this]
theorem sc_with_ties:FnScope ["web","ties","n","there","every"] ["web","ties"] (aaj s_with_ties):=by row_cond sc
theorem adt(T:Txt K mg):Can P w K mg base "with_ties" 6 ["web","ties"] (spP K (a25)):=by
 obtain⟨f,fd,D⟩:=T.d_with_ties
 refine D.can (D.fn.ok sc_with_ties (λvs H Q E h=>lenP h λss g q=>by obtain⟨n,es,fs,rfl,j,l,d,k⟩:=q;rfl) (λcdv A outer s H vs Q E hr h=>?_))
 have nd:=sc_with_ties.nd
 refine⟨_,(aac (ab0 (pv 0) (abo rfl (aan (aag (i:=2) nd rfl (Or.inl rfl)) (aan (aag (i:=3) nd rfl (Or.inl rfl)) aba))))
  (aac (abn (ada (ac9 (aad (aoj T) hr (aaa (pv 2) (aaa (pv 1) aab)))))
   (aaf ad9)
   aa7)
  (aac (aao (i:=4) nd rfl (Or.inl rfl) (aai aga (by rfl) T.b_sorted adw (aaa (aax a00 (pv 3) (pv 1)) aab)))
  (aac (abn (ada (ac9 (aad (aly T) hr (aaa (pv 4) aab))))
   (aaf ad9)
   aa7)
  (aaf (aas (abp (aaa (pv 2) (aaa (pv 4) aab))))))))),?_⟩
 refine aa3 h λss g q B r=>?_
 refine exS3 ss q λn es fs a=>?_
 have j:=a.1
 have l:=a.2.1
 have d:=a.2.2.1
 have k:=a.2.2.2
 clear a q
 show EvS B _ _ [some (.st (webD n es)),some (.st (.list (fs.map prD))),none,none,none]
 row_cond go
 refine⟨n,_,rfl,λds e=>by cases e;rw[aA3];lia,?_⟩
 row_cond go
 have o:agl n (.list (fs.map prD))=true:=by
  show((fs.map prD).all (acq n))=true
  rw[List.all_map,aF4]
  intro p c
  have:=d.inn p c
  simp[acq,prD];lia
 rw[o]
 row_cond go
 refine afl (ps:=es++fs) ?_
 row_cond go
 rw[← aE5]
 refine⟨rfl,λqs c hs=>?_⟩
 have hr:Rise qs:=aqa c d.nd hs
 refine aa4 ?_
 dsimp only[List.set_cons_zero,List.set_cons_succ]
 try refine' apz (by assumption) ?_
 refine apx (atb (apw (aih (av5 (.inl rfl) (apt ⟨_,_,.inl rfl,abf,qs,rfl,by rw[c.length_eq,aB1];lia,λb hb=>?_⟩)))))
 row_cond go
 rw[hb.mpr hr]
 row_cond go
 exact k qs hr c
end
structure HubI(n:Nat)(j:Nat)(hs:List Int)(r:Int->Int):Prop where
 nd:hs.Nodup
 mem:∀ y∈hs,0<=y/\y<n/\r y=0
 hd:∃ rest,hs=0::rest
 len:hs.length<=j+1
theorem ah0(hn:1<=n)(l:∀ u v,0<=m u v)(f:∀ u,m u u=0):∀(j:Nat){hs:List Int}{r:Int->Int},hubN n m j=(hs,r)->HubI n j hs r
 | 0,hs,r,e=>by
  cases e
  exact⟨by simp,λy c=>by cases aC2.mp c;exact⟨by lia,by lia,f 0⟩,⟨[],rfl⟩,by simp⟩
 | j+1,hs,r,e=>by
  obtain⟨b,a,g⟩:∃ b a,hubN n m j=(b,a):=⟨_,_,rfl⟩
  have h:=ah0 hn l f j g
  by_cases hp:0<mxF n a
  ·rw[aoe g hp] at e
   cases e
   have hi:=aod hn a
   have p:a (ixF n a:Int)=mxF n a:=by
    have:=(ajn hn a).1
    unfold abj at this
    rw[aA5,aD9 hi] at this
    exact aC6 this
   have d:(ixF n a:Int) ∉ b:=λz=>by have:=(h.mem _ z).2.2;lia
   obtain⟨rest,hr⟩:=h.hd
   refine⟨aE7.mpr ⟨h.nd,by simp,λx o y c e=>?_⟩,λy c=>?_,⟨rest++[(ixF n a:Int)],by rw[hr];rfl⟩,by have:=h.len;simp;lia⟩
   ·rw[aC2.mp c] at e;exact d (e ▸ o)
   ·rcases aA7.mp c with q|q
    ·have:=h.mem y q
     refine⟨this.1,this.2.1,?_⟩
     have i:=l (ixF n a:Int) y
     unfold nxF
     rw[aF6 (by lia)]
     exact this.2.2
    ·cases aC2.mp q
     refine⟨by lia,by lia,?_⟩
     unfold nxF
     have i:=f (ixF n a:Int)
     rw[aF5 (by lia)]
     exact i
  ·rw[aof g hp] at e
   cases e
   exact⟨h.nd,h.mem,h.hd,by have:=h.len;lia⟩
theorem ar4(es:List (Int × Int))(u v:Int):0<=dsF es u v:=by unfold dsF;lia
theorem aki(es:List (Int × Int))(u:Int):dsF es u u=0:=by unfold dsF;rw[Gr.farO_self];rfl
def ama(n:Int)(es:List (Int × Int))(k:Int)(ts:List (Int × Int)):Prop:=∃ rest qs:List Int,(hubN n.toNat (dsF es) k.toNat).1=0::rest/\qs.Perm rest/\qs.Pairwise (·<=·)/\ts=(qs.filter λh=>!decide ((0,h)∈es)).map λh=>(0,h)
def aui:VP:=λss Q=>∃(n:Int)(es:List (Int × Int))(k:Int),ss=[.st (webD n es),.st (.int k)]/\1<=n/\n<=100/\InN n es/\es.length<=5000/\es.Nodup/\Joined n es/\0<=k/\k<=20/\∀ ts qs x a b,ama n es k ts->PutOk n es ts->Rise qs->qs.Perm (es++ts)->FarOk n qs x a b->Q (.st (.tuple [.list (ts.map prD),.int x]))
theorem ahc(c:Joined n es)(b:0<n)(a:qs.Perm (es++d)):Joined n qs:=Conn.joined (c.conn.mono λu v t=>t.imp (λz=>a.mem_iff.mpr (aA7.mpr (.inl z))) (λz=>a.mem_iff.mpr (aA7.mpr (.inl z)))) b
theorem aok(hn:1<=n)(nd:es.Nodup)(h:ama n es k d):PutOk n es d/\d.length<=k.toNat:=by
 obtain⟨rest,qs,e,f,_,rfl⟩:=h
 obtain⟨hs,r,l⟩:∃ hs r,hubN n.toNat (dsF es) k.toNat=(hs,r):=⟨_,_,rfl⟩
 have c:=ah0 (n:=n.toNat) (by lia) (ar4 es) (aki es) k.toNat l
 rw[l] at e
 simp only at e
 subst e
 have i:rest.Nodup:=(aI4.mp c.nd).2
 have q:(0:Int) ∉ rest:=(aI4.mp c.nd).1
 have u:qs.Nodup:=f.nodup_iff.mpr i
 refine⟨⟨λp j=>?_,aE7.mpr ⟨nd,?_,λx v y o e=>?_⟩⟩,?_⟩
 ·obtain⟨h,hh,rfl⟩:=aB7.mp j
  have hr:h∈rest:=f.mem_iff.mp (aE2.mp hh).1
  have:=c.mem h (aB5 _ hr)
  have s:h ≠ 0:=λz=>q (z ▸ hr)
  exact⟨by simp,by simp only;lia,by simp only;lia⟩
 ·refine(List.Pairwise.filter _ u).map _ λa b g e=>g (by simpa using e)
 ·subst e
  obtain⟨h,hh,rfl⟩:=aB7.mp o
  have:=(aE2.mp hh).2
  simp only[Bool.not_eq_true',decide_eq_false_iff_not] at this
  exact this v
 ·rw[aA3]
  have w:=aF3 (λh=>!decide ((0,h)∈es)) qs
  have A:=f.length_eq
  have t:=c.len
  simp at t
  lia
section
theorem sc_hub_ties:FnScope ["web","k","first","others","ties"] ["web","k"] (aaj s_hub_ties):=by row_cond sc
theorem aol(T:Txt K mg):Can P w K mg base "hub_ties" 10 ["web","k"] (spP K (aui)):=by
 obtain⟨f,fd,D⟩:=T.d_hub_ties
 refine D.can (D.fn.ok sc_hub_ties (λvs H Q E h=>lenP h λss R q=>by obtain⟨n,es,k,rfl,l,C,g,u,j,y,I,k1,G⟩:=q;rfl) (λcdv A outer s H vs Q E hr h=>?_))
 have nd:=sc_hub_ties.nd
 refine⟨_,(aac (ab0 (aak aal (aad (ahb T) hr (aaa (pv 0) (aaa (pv 1) aab))) aae (λ_ _=>rfl)) (azu rfl (aag (i:=2) nd rfl (Or.inr rfl)) (aag (i:=3) nd rfl (Or.inl rfl))))
  (aac (adb (i:=4) nd rfl (Or.inl rfl) rfl (N:=["hub","first","web"]) (src:=[none,some 2,some 0]) (by exact aa9 rfl rfl rfl rfl rfl rfl) (abl (aai ara (by rfl) T.b_sorted adw (aaa (pv 3) aab))) (λ_ _ _ _=>(aag (i:=0) (show List.Nodup (["hub","first","web"]:List Str) by decide +kernel) rfl (Or.inl rfl) (hf:=Or.inr rfl))) (λ_ _ _ _=>acy (aav (adx hr.units) (abp (aaa (pv 1) (aaa (pv 0) aab))) (aak (show IxR _ (aca K) from aal) (pv 2) aae (λ_ _=>rfl)) rfl)) (λ_ _ _ _=>(abp (aaa (pv 1) (aaa (pv 0) aab)))))
  (aaf (aas (abp (aaa (pv 4) (aaa (aak aal (aad (aa5 T) hr (aaa (aad (adt T) hr (aaa (pv 0) (aaa (pv 4) aab))) aab)) aae (λ_ _=>rfl)) aab))))))),?_⟩
 refine aa3 h λss R q B U=>?_
 refine exS3 ss q λn es k c=>?_
 have l:=c.1
 have C:=c.2.1
 have g:=c.2.2.1
 have u:=c.2.2.2.1
 have j:=c.2.2.2.2.1
 have y:=c.2.2.2.2.2.1
 have I:=c.2.2.2.2.2.2.1
 have k1:=c.2.2.2.2.2.2.2.1
 have G:=c.2.2.2.2.2.2.2.2
 clear c q
 show EvS B _ _ [some (.st (webD n es)),some (.st (.int k)),none,none,none]
 obtain⟨hs,r,v⟩:∃ hs r,hubN n.toNat (dsF es) k.toNat=(hs,r):=⟨_,_,rfl⟩
 have M:=ah0 (n:=n.toNat) (by lia) (ar4 es) (aki es) k.toNat v
 obtain⟨rest,rfl⟩:=M.hd
 have O:rest.length<=20:=by have:=M.len;simp at this;lia
 row_cond go
 refine⟨n,es,k,rfl,l,C,g,by lia,y,I,k1,?_⟩
 rw[akh v]
 repeat (first|(refine awg ?_)|(refine acb (atr ?_))|row_cond st)
 refine⟨rest,rfl,by lia,λqs L hs=>afi ?_⟩
 have hT:ama n es k ((qs.filter λh=>!decide ((0,h)∈es)).map λh=>(0,h)):=⟨rest,qs,by rw[v],L,hs,rfl⟩
 obtain⟨d,t⟩:=aok l j hT
 row_cond go
 refine afn (xs:=qs) (f:=PyData.int) (λh=>prD (0,h)) (λh=>!decide ((0,h)∈es)) rfl (by rw[L.length_eq];lia) (λh hh X W=>?_) ?_
 ·row_cond go
  refine adz (ad0 (_,_)) (ajf es) (aD0 (afm (_,_)) (by decide)) ?_
  rw[aF5 rfl,show PyData.tuple [PyData.int 0,PyData.int h]=prD (0,h) from rfl,aqc]
  row_cond go
  intro _
  row_cond go
  exact rfl
 ·rw[show(qs.filter λh=>!decide ((0,h)∈es)).map (λh=>prD (0,h))=((qs.filter λh=>!decide ((0,h)∈es)).map λh=>((0:Int),h)).map prD by rw[aE0];rfl]
  generalize (qs.filter λh=>!decide ((0,h)∈es)).map (λh=>((0:Int),h))=ts at hT d t
  refine abc abf ?_
  row_cond go
  refine⟨n,es,ts,rfl,by lia,by lia,d,λJ hr o=>?_⟩
  row_cond go
  refine⟨n,J,rfl,l,C,λp F=>?_,by rw[o.length_eq];simp;lia,ahc y (by lia) o,λx a b S=>?_⟩
  ·rcases aA7.mp (o.mem_iff.mp F) with z|z
   ·exact g p z
   ·have:=d.inn p z
    exact⟨by lia,by lia,by lia,by lia⟩
  ·row_cond go
   exact G ts J x a b hT d hr o S
end
theorem aci(c:Joined n es)(f:0<=u)(a:u<n)(v0:0<=v)(b:v<n):0<=dsF es u v/\Gr.Dist (Tied es) u v (dsF es u v).toNat:=by
 obtain⟨d,e⟩:=agj c f a v0 b
 simp only[dsF,e,Option.getD_some]
 exact⟨by lia,by rw[show((d:Nat):Int).toNat=d by lia];exact Gr.farO_some.mp e⟩
theorem acw(h:Gr.Dist (Tied es) u v d):dsF es u v=d:=by
 simp only[dsF,Gr.farO_some.mpr h,Option.getD_some]
theorem awu(h:∀ u v,Tied es u v ↔ Tied gs u v):dsF es=dsF gs:=by
 have:Tied es=Tied gs:=funext λu=>funext λv=>propext (h u v)
 unfold dsF
 rw[this]
theorem tied_snoc:Tied (es++[(a,b)]) u v ↔ Tied es u v\/(u=a/\v=b)\/(u=b/\v=a):=by
 unfold Tied
 simp only[aA7,aC2,Prod.mk.injEq]
 constructor
 ·rintro((h|h)|h|h)
  ·exact .inl (.inl h)
  ·exact .inr (.inl h)
  ·exact .inl (.inr h)
  ·exact .inr (.inr ⟨h.2,h.1⟩)
 ·rintro((h|h)|h|h)
  ·exact .inl (.inl h)
  ·exact .inr (.inl h)
  ·exact .inl (.inr h)
  ·exact .inr (.inr ⟨h.2,h.1⟩)
theorem auj(g:∀ u v,T u v->a u v)(w:Gr.Walk T u k v):Gr.Walk a u k v:=w.rec .refl λ_ t b=>.step b (g _ _ t)
theorem aip(d:Joined n es)(b:InN n es)(f:0<=u)(c:u<n)(t:Tied es v w):dsF es u w<=dsF es u v+1:=by
 have a:=t.in b
 have g:=aci d f c a.1.1 a.1.2
 have h:=aci d f c a.2.1 a.2.2
 have:=h.2.2 _ (.step g.2.1 t)
 lia
theorem agm(es:List (Int × Int))(u:Int):dsF es u u=0:=by rw[acw (Gr.Dist.self _ u)];rfl
theorem abd(es:List (Int × Int))(u v:Int):dsF es u v=dsF es v u:=by unfold dsF;rw[Gr.farO_comm λ_ _ t=>t.symm]
theorem acj(a:Joined n es)(d:0<=u)(b:u<n)(f:0<=c)(g:c<n)(h:0<=x)(i:x<n):dsF es u x<=dsF es u c+dsF es c x:=by
 have j:=aci a d b h i
 have l:=aci a d b f g
 have o:=aci a f g h i
 have:=j.2.2 _ (l.2.1.app o.2.1)
 lia
theorem ajo(hs:∀ u v,c u v->c v u)(hT:∀ x y,T x y ↔ c x y\/(x=a/\y=b)\/(x=b/\y=a))(n:Gr.Walk c a i u)(w:Gr.Walk T u k v):(¬ ∃ j,Gr.Walk c a j v)->∃ m d:Nat,m+1+d<=k/\Gr.Walk T u m a/\Gr.Walk T b d v:=by
 induction w with
 |refl=>exact λh=>absurd ⟨i,n⟩ h
 | @step k x y wx t ih =>
  intro f
  rcases(hT _ _).mp t with t'|⟨rfl,rfl⟩|⟨rfl,rfl⟩
  ·obtain⟨m,d,hm,g,l⟩:=ih λ⟨j,o⟩=>f ⟨_,o.step t'⟩
   exact⟨m,d+1,by lia,g,l.step t⟩
  ·exact⟨k,0,by lia,wx,.refl⟩
  ·exact absurd ⟨0,.refl⟩ f
structure TreeM(n:Int)(es:List (Int × Int)):Prop where
 lo:1<=n
 inn:InN n es
 len:(es.length:Int)=n-1
 join:Joined n es
section
theorem TreeM.dist(M:TreeM n es)(c:0<=u)(a:u<n)(v0:0<=v)(b:v<n):∃ d:Nat,dsF es u v=(d:Int)/\Gr.Dist (Tied es) u v d:=by
 obtain⟨f,h⟩:=aci M.join c a v0 b
 exact⟨_,by lia,h⟩
theorem TreeM.cross1(M:TreeM n es)(h:(a,b)∈es)(o:0<=u)(p:u<n)(v0:0<=v)(d:v<n):(dsF es u a<dsF es u b\/dsF es u b<dsF es u a)/\(dsF es u a<dsF es u b->dsF es v b<dsF es v a->dsF es u v=dsF es u a+1+dsF es b v)/\(dsF es u b<dsF es u a->dsF es v a<dsF es v b->dsF es u v=dsF es u b+1+dsF es a v):=by
 have J:=M.join.conn
 have K:=M.inn _ h
 simp only at K
 have hs:∀ u v,Tied (aat es (a,b)) u v->Tied (aat es (a,b)) v u:=λ_ _ t=>t.symm
 have hT:=ag6 h
 have g:∀ x y,Tied es x y ↔ Tied (aat es (a,b)) x y\/(x=b/\y=a)\/(x=a/\y=b):=λx y=>(hT x y).trans ⟨λq=>q.elim .inl λq=>.inr q.symm,λq=>q.elim .inl λq=>.inr q.symm⟩
 have l:=aev M.lo M.len J h
 have f:∀ k,¬ Gr.Walk (Tied (aat es (a,b))) b k a:=λk w=>l k (w.rev hs)
 obtain⟨ua,X,A⟩:=M.dist o p (v:=a) (by lia) (by lia)
 obtain⟨ub,O,s⟩:=M.dist o p (v:=b) (by lia) (by lia)
 obtain⟨va,R,r⟩:=M.dist v0 d (v:=a) (by lia) (by lia)
 obtain⟨vb,Q,B⟩:=M.dist v0 d (v:=b) (by lia) (by lia)
 obtain⟨k,ek,dk⟩:=M.dist o p v0 d
 have t1:=acj M.join (u:=u) (c:=a) (x:=b) o p (by lia) (by lia) (by lia) (by lia)
 have tab:dsF es a b<=1:=by
  have:=aip M.join M.inn (u:=a) (v:=a) (w:=b) (by lia) (by lia) (.inl h)
  rw[agm] at this
  lia
 have c1:dsF es u v<=dsF es u a+1+dsF es b v:=by
  have P:=acj M.join (u:=u) (c:=a) (x:=v) o p (by lia) (by lia) v0 d
  have D:=acj M.join (u:=a) (c:=b) (x:=v) (by lia) (by lia) (by lia) (by lia) v0 d
  lia
 have c2:dsF es u v<=dsF es u b+1+dsF es a v:=by
  have P:=acj M.join (u:=u) (c:=b) (x:=v) o p (by lia) (by lia) v0 d
  have D:=acj M.join (u:=b) (c:=a) (x:=v) (by lia) (by lia) (by lia) (by lia) v0 d
  rw[abd es b a] at D
  lia
 obtain⟨Z,T⟩:=J a u (by lia) (by lia) o p
 obtain⟨kv,wv⟩:=J a v (by lia) (by lia) v0 d
 rcases ag8 hT T with ⟨i,C⟩|⟨i,C⟩
 ·have L:=adf hs hT l C A s
  refine⟨.inl (by lia),λ_ D=>?_,λz=>by lia⟩
  obtain⟨m,Y,hm,H,E⟩:=ajo hs hT C dk.1 λG=>by
   obtain⟨j,F⟩:=G
   have:=adf hs hT l F r B
   lia
  obtain⟨x,W,dx⟩:=Gr.Dist.of_walk H
  obtain⟨y,N,I⟩:=Gr.Dist.of_walk E
  have S:=acw dx
  have U:=acw I
  lia
 ·have L:=adf hs g f C s A
  refine⟨.inr (by lia),λz=>by lia,λ_ D=>?_⟩
  obtain⟨m,Y,hm,H,E⟩:=ajo hs g C dk.1 λG=>by
   obtain⟨j,F⟩:=G
   have:=adf hs g f F B r
   lia
  obtain⟨x,W,dx⟩:=Gr.Dist.of_walk H
  obtain⟨y,N,I⟩:=Gr.Dist.of_walk E
  have S:=acw dx
  have U:=acw I
  lia
theorem TreeM.cross(M:TreeM n es)(t:Tied es a b)(f:0<=u)(c:u<n)(v0:0<=v)(d:v<n):(dsF es u a<dsF es u b\/dsF es u b<dsF es u a)/\(dsF es u a<dsF es u b->dsF es v b<dsF es v a->dsF es u v=dsF es u a+1+dsF es b v):=by
 rcases t with h|h
 ·have:=M.cross1 h f c v0 d
  exact⟨this.1,this.2.1⟩
 ·have:=M.cross1 h f c v0 d
  exact⟨this.1.symm,this.2.2⟩
structure FarW(n:Int)(es:List (Int × Int))(a b:Int)(d:Nat)(ws:List Int):Prop extends TreeM n es where
 way:WayTo (Tied es) a b d ws
 a0:0<=a
 a1:a<n
 b0:0<=b
 b1:b<n
 far:dsF es a b=(d:Int)
 top:∀ u v:Int,0<=u->u<n->0<=v->v<n->dsF es u v<=(d:Int)
theorem FarW.get(W:FarW n es a b d ws)(hi:i<=d):∃ x,ws[i]?=some x/\0<=x/\x<n/\dsF es x b=((d-i:Nat):Int)/\dsF es x a=(i:Int):=by
 obtain⟨x,f⟩:∃ x,ws[i]?=some x:=⟨_,aA0 (by rw[W.way.len];lia)⟩
 have hb:dsF es b x=((d-i:Nat):Int):=acw (W.way.far i x f)
 have hr:0<=x/\x<n:=by
  cases i with
  |zero=>rw[W.way.fst] at f;cases f;exact⟨W.a0,W.a1⟩
  | succ i =>
   obtain⟨y,g⟩:∃ y,ws[i]?=some y:=⟨_,aA0 (by rw[W.way.len];lia)⟩
   have:=((W.way.tie i y x g f).in W.inn)
   lia
 have ha:dsF es a x<=(i:Int):=by
  obtain⟨m,hm,h⟩:=Gr.Dist.of_walk (W.way.walk i x f)
  rw[acw h]
  lia
 have j:=acj W.join (u:=a) (c:=x) (x:=b) W.a0 W.a1 hr.1 hr.2 W.b0 W.b1
 rw[abd es b x] at hb
 have:=W.far
 exact⟨x,f,hr.1,hr.2,hb,by rw[abd es x a];lia⟩
end
structure HubG(n:Nat)(m:Int->Int->Int)(j:Nat)(hs:List Int)(r:Int->Int):Prop where
 att:∀ y:Int,∃ h∈hs,r y=m h y
 le:∀ y:Int,∀ h∈hs,r y<=m h y
 apart:∀ a∈hs,∀ b∈hs,a ≠ b->mxF n r<=m a b
 full:hs.length=j+1\/mxF n r<=0
theorem a4a(hn:1<=n)(h:∀ y,r y<=q y):mxF n r<=mxF n q:=by
 have a:=(aep hn r).1
 unfold abj at a
 obtain⟨i,hi,e⟩:=aB7.mp a
 have b:=(aep hn q).2 (q (i:Int)) (by unfold abj;exact aB7.mpr ⟨i,hi,rfl⟩)
 have:=h (i:Int)
 lia
theorem a4b{n:Nat}(hn:1<=n)(r:Int->Int){y:Int}(b:0<=y)(a:y<n):r y<=mxF n r:=by
 refine(aep hn r).2 _ ?_
 unfold abj
 exact aB7.mpr ⟨y.toNat,aB9.mpr (by lia),by rw[show((y.toNat:Nat):Int)=y by lia]⟩
theorem axs(hn:1<=n)(w:∀ u v,m u v=m v u):∀(j:Nat){hs:List Int}{r:Int->Int},hubN n m j=(hs,r)->HubG n m j hs r
 | 0,hs,r,e=>by
  cases e
  exact⟨λy=>⟨0,by simp,rfl⟩,λy h hh=>by cases aC2.mp hh;exact Int.le_refl _,λa ha b hb d=>by cases aC2.mp ha;cases aC2.mp hb;exact absurd rfl d,.inl rfl⟩
 | j+1,hs,r,e=>by
  obtain⟨f,c,t⟩:∃ f c,hubN n m j=(f,c):=⟨_,_,rfl⟩
  have h:=axs hn w j t
  by_cases hp:0<mxF n c
  ·rw[aoe t hp] at e
   cases e
   have hi:=aod hn c
   have x:c (ixF n c:Int)=mxF n c:=by
    have:=(ajn hn c).1
    unfold abj at this
    rw[aA5,aD9 hi] at this
    exact aC6 this
   have i:∀ y,nxF m c (ixF n c:Int) y<=c y:=λy=>by unfold nxF;split <;> lia
   have p:=a4a hn i
   refine⟨λy=>?_,λy g s=>?_,λa ha b hb d=>?_,?_⟩
   ·unfold nxF
    split
    ·exact⟨_,aA7.mpr (.inr (by simp)),rfl⟩
    ·obtain⟨g,s,e⟩:=h.att y
     exact⟨g,aA7.mpr (.inl s),e⟩
   ·rcases aA7.mp s with q|q
    ·exact Int.le_trans (i y) (h.le y g q)
    ·cases aC2.mp q
     unfold nxF
     split <;> lia
   ·rcases aA7.mp ha with o|o <;> rcases aA7.mp hb with l|l
    ·exact Int.le_trans p (h.apart a o b l d)
    ·cases aC2.mp l
     have:=h.le (ixF n c:Int) a o
     lia
    ·cases aC2.mp o
     have:=h.le (ixF n c:Int) b l
     rw[w]
     lia
    ·cases aC2.mp o;cases aC2.mp l;exact absurd rfl d
   ·rcases h.full with q|q
    ·exact .inl (by simp[q])
    ·lia
  ·rw[aof t hp] at e
   cases e
   exact⟨h.att,h.le,h.apart,.inr (by lia)⟩
theorem a0b(l:Joined n es)(hs:∀ p∈es,p∈qs)(h:0<=u)(i:u<n)(v0:0<=v)(g:v<n):dsF qs u v<=dsF es u v:=by
 obtain⟨o,hd⟩:=aci l h i v0 g
 have c:Gr.Walk (Tied qs) u (dsF es u v).toNat v:=by
  have b:∀{j:Nat}{y:Int},Gr.Walk (Tied es) u j y->Gr.Walk (Tied qs) u j y:=by
   intro j y c
   induction c with
   |refl=>exact .refl
   |step _ t ih=>exact .step ih (t.imp (hs _) (hs _))
  exact b hd.1
 obtain⟨d,f,a⟩:=Gr.Dist.of_walk c
 rw[acw a]
 lia
theorem auk(G:1<=n)(o:InN n qs)(e:hubN n.toNat (dsF es) k.toNat=(hs,r))(w:Joined n es)(hT:ama n es k s)(l:qs.Perm (es++s))(j:0<=y)(t:y<n) :
  dsF qs 0 y<=mxF n.toNat r+1:=by
 have hn:1<=n.toNat:=by lia
 have B:=ah0 hn (ar4 es) (aki es) k.toNat e
 have D:=axs hn (abd es) k.toNat e
 have a:Joined n qs:=ahc w (by lia) l
 have d:∀ p∈es,p∈qs:=λp h=>l.mem_iff.mpr (aA7.mpr (.inl h))
 obtain⟨rest,E,i,C,_,rfl⟩:=hT
 rw[e] at i
 simp only at i
 have one:∀ g∈hs,dsF qs 0 g<=1:=λg b=>by
  by_cases hz:g=0
  ·rw[hz,agm];lia
  ·have q:g∈rest:=by
    rw[i] at b
    rcases aA9.mp b with z|z
    ·exact absurd z hz
    ·exact z
   have A:Tied qs 0 g:=.inl (by
    refine l.mem_iff.mpr (aA7.mpr ?_)
    by_cases hin2:((0:Int),g)∈es
    ·exact .inl hin2
    ·refine .inr (aB7.mpr ⟨g,aE2.mpr ⟨C.mem_iff.mpr q,by simpa using hin2⟩,rfl⟩))
   have:=aip a o (u:=0) (by lia) (by lia) A
   rw[agm] at this
   lia
 obtain⟨g,b,K⟩:=D.att y
 have f:=B.mem g b
 have F:=a4b hn r j (by lia)
 have I:=a0b w d (u:=g) (v:=y) f.1 (by lia) j t
 have J:=one g b
 have H:=acj a (u:=0) (c:=g) (x:=y) (by lia) (by lia) f.1 (by lia) j t
 lia
structure Cut(n:Int)(es:List (Int × Int))(t:Int × Int)(a b:Int):Prop where
 tree:TreeM n es
 nd:es.Nodup
 tie:t∈es
 ends:(a=t.1/\b=t.2)\/(a=t.2/\b=t.1)
section
variable{n a b:Int}{es:List (Int × Int)}{t:Int × Int}{ps:List Int}
theorem Cut.sym(C:Cut n es t a b):Cut n es t b a:=⟨C.tree,C.nd,C.tie,C.ends.elim (λh=>.inr ⟨h.2,h.1⟩) λh=>.inl ⟨h.2,h.1⟩⟩
theorem Cut.hs(C:Cut n es t a b):∀ u v,Tied (aat es t) u v->Tied (aat es t) v u:=λ_ _ h=>h.symm
theorem Cut.hT(C:Cut n es t a b):∀ x y,Tied es x y ↔ Tied (aat es t) x y\/(x=a/\y=b)\/(x=b/\y=a):=λx y=>by
 have h:=ag6 (a:=t.1) (b:=t.2) C.tie x y
 rcases C.ends with ⟨rfl,rfl⟩|⟨rfl,rfl⟩
 ·exact h
 ·exact h.trans ⟨λq=>q.elim .inl λq=>.inr q.symm,λq=>q.elim .inl λq=>.inr q.symm⟩
theorem Cut.hn(C:Cut n es t a b):∀ k,¬ Gr.Walk (Tied (aat es t)) a k b:=λk w=>by
 have h:=aev (a:=t.1) (b:=t.2) C.tree.lo C.tree.len C.tree.join.conn C.tie
 rcases C.ends with ⟨rfl,rfl⟩|⟨rfl,rfl⟩
 ·exact h k w
 ·exact h k (w.rev C.hs)
theorem Cut.a0(C:Cut n es t a b):0<=a/\a<n/\0<=b/\b<n:=by
 have:=C.tree.inn _ C.tie
 rcases C.ends with ⟨rfl,rfl⟩|⟨rfl,rfl⟩ <;> lia
structure PlOk(n:Int)(es:List (Int × Int))(t:Int × Int)(a:Int)(ps:List Int):Prop where
 rise:ps.Pairwise (· < ·)
 mem:∀ u,u∈ps ↔ ∃ k,Gr.Walk (Tied (aat es t)) a k u
 inn:∀ u∈ps,0<=u/\u<n
theorem Cut.near(C:Cut n es t a b)(P:PlOk n es t a ps)(f:u∈ps):dsF es u a<dsF es u b:=by
 obtain⟨k,w⟩:=(P.mem u).mp f
 have c:=P.inn u f
 have ha:=C.a0
 obtain⟨d,i,g⟩:=C.tree.dist c.1 c.2 ha.1 ha.2.1
 obtain⟨l,j,h⟩:=C.tree.dist c.1 c.2 ha.2.2.1 ha.2.2.2
 have:=adf C.hs C.hT C.hn w g h
 lia
theorem Cut.same(C:Cut n es t a b)(P:PlOk n es t a ps)(g:u∈ps)(f:v∈ps):∃ d:Nat,dsF es u v=(d:Int)/\Gr.Dist (Tied (aat es t)) u v d:=by
 obtain⟨k,w⟩:=(P.mem u).mp g
 obtain⟨l,i⟩:=(P.mem v).mp f
 have c:=P.inn u g
 have h:=P.inn v f
 obtain⟨d,j,hd⟩:=C.tree.dist c.1 c.2 h.1 h.2
 exact⟨d,j,ag7 C.hs C.hT C.hn w i hd⟩
theorem Cut.all(C:Cut n es t a b)(P:PlOk n es t a ps)(Q:PlOk n es t b qs)(d:0<=u)(c:u<n):u∈ps\/u∈qs:=by
 have ha:=C.a0
 obtain⟨k,w⟩:=C.tree.join.conn a u ha.1 ha.2.1 d c
 rcases ag8 C.hT w with h|h
 ·exact .inl ((P.mem u).mpr h)
 ·exact .inr ((Q.mem u).mpr h)
theorem Cut.dis(C:Cut n es t a b)(P:PlOk n es t a ps)(Q:PlOk n es t b qs)(f:u∈ps)(d:u∈qs):False:=by
 obtain⟨k,w⟩:=(P.mem u).mp f
 obtain⟨g,c⟩:=(Q.mem u).mp d
 exact C.hn _ (w.app (c.rev C.hs))
theorem PlOk.nd(P:PlOk n es t a ps):ps.Nodup:=P.rise.imp λh e=>by lia
theorem PlOk.self(P:PlOk n es t a ps):a∈ps:=(P.mem a).mpr ⟨0,.refl⟩
def ixI(ps:List Int)(u:Int):Int:=((ps.idxOf u:Nat):Int)
theorem ace(h:u∈ps):ps[(ixI ps u).toNat]?=some u/\0<=ixI ps u/\ixI ps u<ps.length:=by
 have a:=List.idxOf_lt_length_of_mem h
 unfold ixI
 refine⟨?_,by lia,by lia⟩
 rw[show(((ps.idxOf u:Nat):Int)).toNat=ps.idxOf u by lia,aA0 a,List.getElem_idxOf]
theorem akj(hr:ps.Pairwise (· < ·)){i j:Nat}{x y:Int}(b:ps[i]?=some x)(a:ps[j]?=some y)(h:i<j):x<y:=by
 obtain⟨c,rfl⟩:=aA1.mp b
 obtain⟨d,rfl⟩:=aA1.mp a
 exact aG7.mp hr i j c d h
theorem ar5(hr:ps.Pairwise (· < ·)){i:Nat}{x:Int}(a:ps[i]?=some x):ixI ps x=(i:Int):=by
 obtain⟨b,c,d⟩:=ace (aA2 a)
 rcases Nat.lt_trichotomy i (ixI ps x).toNat with h|h|h
 ·have:=akj hr a b h;lia
 ·lia
 ·have:=akj hr b a h;lia
theorem ajp(c:u∈ps)(b:v∈ps)(e:ixI ps u=ixI ps v):u=v:=by
 have a:=(ace c).1
 have d:=(ace b).1
 rw[e,d] at a
 exact(aC6 a).symm
theorem a4c(hr:ps.Pairwise (· < ·))(d:u∈ps)(c:v∈ps)(h:u<v):ixI ps u<ixI ps v:=by
 obtain⟨a,i,j⟩:=ace d
 obtain⟨b,f,g⟩:=ace c
 rcases Nat.lt_trichotomy (ixI ps u).toNat (ixI ps v).toNat with e|e|e
 ·lia
 ·rw[e,b] at a
  have:=aC6 a
  lia
 ·have:=akj hr b a e;lia
def inP(ps:List Int)(p:Int × Int):Bool:=decide (p.1∈ps) && decide (p.2∈ps)
theorem inP_iff:inP ps p=true ↔ p.1∈ps/\p.2∈ps:=by simp[inP]
def prt(es:List (Int × Int))(ps:List Int):List (Int × Int):=(es.filter (inP ps)).map λp=>(ixI ps p.1,ixI ps p.2)
theorem tied_prt:Tied (prt es ps) i j ↔ ∃ x y,x∈ps/\y∈ps/\i=ixI ps x/\j=ixI ps y/\Tied es x y:=by
 unfold Tied prt
 simp only[aB7,aE2,inP_iff,Prod.mk.injEq]
 constructor
 ·rintro(⟨p,⟨b,a,c⟩,rfl,rfl⟩|⟨p,⟨b,a,c⟩,rfl,rfl⟩)
  ·exact⟨p.1,p.2,a,c,rfl,rfl,.inl b⟩
  ·exact⟨p.2,p.1,c,a,rfl,rfl,.inr b⟩
 ·rintro⟨x,y,f,d,rfl,rfl,h|h⟩
  ·exact .inl ⟨(x,y),⟨h,f,d⟩,rfl,rfl⟩
  ·exact .inr ⟨(y,x),⟨h,d,f⟩,rfl,rfl⟩
theorem Cut.tied(C:Cut n es t a b)(P:PlOk n es t a ps)(c:x∈ps):Tied (aat es t) x y ↔ (y∈ps/\Tied es x y):=by
 have nb:∀{z:Int},z∈ps->z ≠ b:=λhz e=>by
  obtain⟨k,w⟩:=(P.mem _).mp hz
  exact C.hn k (e ▸ w)
 constructor
 ·intro h
  obtain⟨k,w⟩:=(P.mem x).mp c
  exact⟨(P.mem y).mpr ⟨_,w.step h⟩,(C.hT x y).mpr (.inl h)⟩
 ·rintro⟨d,h⟩
  rcases(C.hT x y).mp h with h|⟨_,h⟩|⟨h,_⟩
  ·exact h
  ·exact absurd h (nb d)
  ·exact absurd h (nb c)
theorem Cut.walk_in(C:Cut n es t a b)(P:PlOk n es t a ps)(f:x∈ps)(w:Gr.Walk (Tied (aat es t)) x k y):y∈ps/\Gr.Walk (Tied (prt es ps)) (ixI ps x) k (ixI ps y):=by
 induction w with
 |refl=>exact⟨f,.refl⟩
 | step _ h ih =>
  obtain⟨c,i⟩:=ih
  obtain⟨d,g⟩:=(C.tied P c).mp h
  exact⟨d,i.step (tied_prt.mpr ⟨_,_,c,d,rfl,rfl,g⟩)⟩
theorem Cut.walk_out(C:Cut n es t a b)(P:PlOk n es t a ps)(f:x∈ps)(w:Gr.Walk (Tied (prt es ps)) (ixI ps x) k j):∃ y,y∈ps/\j=ixI ps y/\Gr.Walk (Tied (aat es t)) x k y:=by
 induction w with
 |refl=>exact⟨x,f,rfl,.refl⟩
 | step _ h ih =>
  obtain⟨y,c,rfl,w⟩:=ih
  obtain⟨u,v,g,d,e,rfl,h⟩:=tied_prt.mp h
  obtain rfl:=ajp c g e
  exact⟨v,d,rfl,w.step ((C.tied P c).mpr ⟨d,h⟩)⟩
theorem Cut.ds(C:Cut n es t a b)(P:PlOk n es t a ps)(c:x∈ps)(f:y∈ps):dsF (prt es ps) (ixI ps x) (ixI ps y)=dsF es x y:=by
 obtain⟨d,e,h⟩:=C.same P c f
 rw[e]
 refine acw ⟨(C.walk_in P c h.1).2,λk w=>?_⟩
 obtain⟨z,hz,g,w⟩:=C.walk_out P c w
 obtain rfl:=ajp f hz g
 exact h.2 k w
theorem Cut.conn(C:Cut n es t a b)(P:PlOk n es t a ps):Conn ps.length (Tied (prt es ps)):=λu v j g v0 i=>by
 obtain⟨x,c⟩:∃ x,ps[u.toNat]?=some x:=⟨_,aA0 (by lia)⟩
 obtain⟨y,f⟩:∃ y,ps[v.toNat]?=some y:=⟨_,aA0 (by lia)⟩
 obtain⟨d,_,h⟩:=C.same P (aA2 c) (aA2 f)
 have:=(C.walk_in P (aA2 c) h.1).2
 rw[ar5 P.rise c,ar5 P.rise f,show((u.toNat:Nat):Int)=u by lia,show((v.toNat:Nat):Int)=v by lia] at this
 exact⟨_,this⟩
theorem a26(hr:ps.Pairwise (· < ·))(nd:es.Nodup)(f:∀ p∈es,p.1<p.2):PsOk ps.length (prt es ps):=by
 refine⟨?_,λp d=>?_⟩
 ·unfold prt List.Nodup
  rw[aG1]
  refine aI0 (λ{p q} d c h e=>h ?_) (nd.filter _)
  have b:=inP_iff.mp (aE2.mp d).2
  have a:=inP_iff.mp (aE2.mp c).2
  exact Prod.ext (ajp b.1 a.1 (congrArg Prod.fst e)) (ajp b.2 a.2 (congrArg Prod.snd e))
 ·obtain⟨q,c,rfl⟩:=aB7.mp d
  have b:=aE2.mp c
  have a:=inP_iff.mp b.2
  have g:=a4c hr a.1 a.2 (f q b.1)
  exact⟨(ace a.1).2.1,g,(ace a.2).2.2⟩
theorem aqs{α:Type}{f g h : α->Bool}:∀(l:List α),(∀ x∈l,f x=true->h x=true)->(∀ x∈l,g x=true->h x=true)->(∀ x∈l,f x=true->g x=true->False)->(l.filter f).length+(l.filter g).length<=(l.filter h).length
 |[],_,_,_=>aA6 _
 | x::l,h1,h2,h3=>by
  have d:=aqs l (λy a=>h1 y (aB5 _ a)) (λy a=>h2 y (aB5 _ a)) (λy a=>h3 y (aB5 _ a))
  have b:=h1 x aB8
  have c:=h2 x aB8
  have i:=h3 x aB8
  rw[aI8,aI8,aI8]
  cases e1:f x <;> cases e2:g x <;> cases e3:h x <;> simp_all <;> lia
theorem Cut.len(C:Cut n es t a b)(P:PlOk n es t a ps)(Q:PlOk n es t b qs):((prt es ps).length:Int)=ps.length-1/\((prt es qs).length:Int)=qs.length-1:=by
 have u:=List.length_pos_of_mem P.self
 have z:=List.length_pos_of_mem Q.self
 obtain⟨fs,c,j,v⟩:=ain (C.conn P)
 obtain⟨gs,f,d,o⟩:=ain (C.sym.conn Q)
 have s:=aE8 c λp h=>j p h
 have y:=aE8 f λp h=>d p h
 have r:(prt es ps).length+(prt es qs).length<=(aat es t).length:=by
  unfold prt aat
  rw[aA3,aA3]
  refine aqs es (λx _ h=>?_) (λx _ h=>?_) λx _ h g=>C.dis P Q (inP_iff.mp h).1 (inP_iff.mp g).1
  ·have h:=inP_iff.mp h
   simp only[Bool.not_eq_true',decide_eq_false_iff_not]
   rintro rfl
   rcases C.ends with ⟨rfl,rfl⟩|⟨rfl,rfl⟩
   ·exact C.dis P Q h.2 Q.self
   ·exact C.dis P Q h.1 Q.self
  ·have h:=inP_iff.mp h
   simp only[Bool.not_eq_true',decide_eq_false_iff_not]
   rintro rfl
   rcases C.ends with ⟨rfl,rfl⟩|⟨rfl,rfl⟩
   ·exact C.dis P Q P.self h.1
   ·exact C.dis P Q P.self h.2
 have l:(aat es t).length+1<=es.length:=by
  have:=aE8 (l₁:=t::aat es t) (l₂:=es) (aI4.mpr ⟨λq=>(lessE_mem.mp q).2 rfl,C.nd.filter _⟩) λp h=>by
   rcases aA9.mp h with rfl|h
   ·exact C.tie
   ·exact(lessE_mem.mp h).1
  simpa using this
 have w:n<=ps.length+qs.length:=by
  have:=aE8 (l₁:=(List.range n.toNat).map λ(i:Nat)=>(i:Int)) (l₂:=ps++qs) (by
   rw[List.Nodup,aG1]
   exact List.pairwise_lt_range.imp λ{a b} h e=>by lia) λp h=>by
   obtain⟨i,hi,rfl⟩:=aB7.mp h
   have hi:=aB9.mp hi
   exact aA7.mpr (C.all P Q (by lia) (by lia))
  simp at this
  lia
 have:=C.tree.len
 lia
structure PartOk(n:Int)(es:List (Int × Int))(t:Int × Int)(a:Int)(ps:List Int)(gs:List (Int × Int)):Prop where
 pl:PlOk n es t a ps
 tree:TreeW ps.length gs
 far:∀ x y,x∈ps->y∈ps->dsF gs (ixI ps x) (ixI ps y)=dsF es x y
theorem Cut.part(C:Cut n es t a b)(o:n<=60)(f:∀ p∈es,p.1<p.2)(P:PlOk n es t a ps)(Q:PlOk n es t b qs)(c:gs.Perm (prt es ps))(hs:lexS (gs.map p2)):PartOk n es t a ps gs:=by
 have j:=List.length_pos_of_mem P.self
 have l:(ps.length:Int)<=n:=by
  have:=aE8 (l₁:=ps) (l₂:=(List.range n.toNat).map λ(i:Nat)=>(i:Int)) P.nd λu g=>by
   have:=P.inn u g
   exact aB7.mpr ⟨u.toNat,aB9.mpr (by lia),by lia⟩
  simp at this
  have:=C.tree.lo
  lia
 refine⟨P,TreeW.of (by lia) (by lia) (a26 P.rise C.nd f) (C.len P Q).1 (C.conn P) c hs,λx y h d=>?_⟩
 rw[awu (λu v=>Tied.perm c)]
 exact C.ds P h d
end
section
variable{n a b:Int}{es gs hs rs:List (Int × Int)}{t:Int × Int}{ps qs:List Int}{x y z w1 w2:Int}
theorem PartOk.up(P:PartOk n es t a ps gs){i:Int}(c:0<=i)(d:i<ps.length):∃ u,u∈ps/\ixI ps u=i:=by
 obtain⟨u,b⟩:∃ u,ps[i.toNat]?=some u:=⟨_,aA0 (by lia)⟩
 exact⟨u,aA2 b,by rw[ar5 P.pl.rise b];lia⟩
theorem PartOk.top_le(P:PartOk n es t a ps gs)(h:adl (ps.length:Int).toNat (dsF gs) x)(c:u∈ps)(b:v∈ps):dsF es u v<=x:=by
 rw[← P.far u v c b]
 have d:=ace c
 have f:=ace b
 exact h.2 _ _ d.2.1 (by lia) f.2.1 (by lia)
theorem PartOk.top_has(P:PartOk n es t a ps gs)(h:adl (ps.length:Int).toNat (dsF gs) x):∃ u v,u∈ps/\v∈ps/\dsF es u v=x:=by
 obtain⟨i,j,f,i1,d,g,e⟩:=h.1
 obtain⟨u,c,rfl⟩:=P.up f (by lia)
 obtain⟨v,b,rfl⟩:=P.up d (by lia)
 exact⟨u,v,c,b,by rw[← P.far u v c b];exact e⟩
theorem Cut.pt(C:Cut n es t t.1 t.2)(P:PartOk n es t t.1 ps gs)(Q:PartOk n es t t.2 qs hs)(r:adl (ps.length:Int).toNat (dsF gs) x)(j:adl (qs.length:Int).toNat (dsF hs) y)(hz:z=x\/z=y)(w:x<=z)(B:y<=z):IsPt n.toNat (dsF es) t.1 t.2 z:=by
 have c:∀ u:Int,0<=u->u<n->(u∈ps/\dsF es u t.1<dsF es u t.2)\/(u∈qs/\¬ dsF es u t.1<dsF es u t.2):=λu g o=>by
  rcases C.all P.pl Q.pl g o with h|h
  ·exact .inl ⟨h,C.near P.pl h⟩
  ·have:=C.sym.near Q.pl h
   exact .inr ⟨h,by lia⟩
 refine⟨?_,λu v g o v0 A l=>?_⟩
 ·rcases hz with rfl|rfl
  ·obtain⟨u,v,b,a,e⟩:=P.top_has r
   have f:=P.pl.inn u b
   have d:=P.pl.inn v a
   have p:=C.near P.pl b
   have s:=C.near P.pl a
   exact⟨u,v,f.1,by lia,d.1,by lia,⟨λ_=>s,λ_=>p⟩,e⟩
  ·obtain⟨u,v,b,a,e⟩:=Q.top_has j
   have f:=Q.pl.inn u b
   have d:=Q.pl.inn v a
   have p:=C.sym.near Q.pl b
   have s:=C.sym.near Q.pl a
   exact⟨u,v,f.1,by lia,d.1,by lia,⟨λ_=>by lia,λ_=>by lia⟩,e⟩
 ·rcases c u g (by lia) with ⟨b,q⟩|⟨b,q⟩ <;> rcases c v v0 (by lia) with ⟨a,i⟩|⟨a,i⟩
  ·have:=P.top_le r b a;lia
  ·exact absurd (l.mp q) i
  ·exact absurd (l.mpr i) q
  ·have:=Q.top_le j b a;lia
theorem PartOk.mid_le(P:PartOk n es t a ps gs)(f:MidOk ps.length gs w1 d)(g:u∈ps)(hm:ixI ps u∈d)(b:v∈ps):dsF es u v<=w1:=by
 rw[← P.far u v g b]
 have c:=ace b
 exact((f.mem _).mp hm).2.2 _ c.2.1 c.2.2
theorem PartOk.mid_has(P:PartOk n es t a ps gs)(f:MidOk ps.length gs w1 i)(c:u∈ps):∃ v,v∈ps/\w1<=dsF es u v:=by
 have d:=ace c
 obtain⟨j,g,l,h⟩:=f.lo _ d.2.1 d.2.2
 obtain⟨v,b,rfl⟩:=P.up g (by lia)
 exact⟨v,b,by rw[← P.far u v c b];exact h⟩
structure Glue(n:Int)(es rs:List (Int × Int))(ps qs:List Int)(c d:Int):Prop where
 tree:TreeM n rs
 one:∀ u v,u∈ps->v∈ps->dsF rs u v=dsF es u v
 two:∀ u v,u∈qs->v∈qs->dsF rs u v=dsF es u v
 over:∀ u v,u∈ps->v∈qs->dsF rs u v=dsF es u c+1+dsF es d v
theorem Cut.glue(C:Cut n es t a b)(P:PlOk n es t a ps)(Q:PlOk n es t b qs)(G:c∈ps)(hd:d∈qs)(L:p=(c,d)\/p=(d,c))(hr:rs.Perm (aat es t++[p])):Glue n es rs ps qs c d:=by
 have B:=P.inn c G
 have E:=Q.inn d hd
 have hT:∀ x y,Tied rs x y ↔ Tied (aat es t) x y\/(x=c/\y=d)\/(x=d/\y=c):=λx y=>by
  rw[Tied.perm hr]
  rcases L with rfl|rfl
  ·exact tied_snoc
  ·exact tied_snoc.trans ⟨λq=>q.elim .inl λq=>.inr q.symm,λq=>q.elim .inl λq=>.inr q.symm⟩
 have z:∀ x y,Tied rs x y ↔ Tied (aat es t) x y\/(x=d/\y=c)\/(x=c/\y=d):=λx y=>(hT x y).trans ⟨λq=>q.elim .inl λq=>.inr q.symm,λq=>q.elim .inl λq=>.inr q.symm⟩
 have D:∀ u,u∈ps->∃ k,Gr.Walk (Tied (aat es t)) c k u:=λu g=>by
  obtain⟨k,w⟩:=(P.mem u).mp g
  obtain⟨s,i⟩:=(P.mem c).mp G
  exact⟨_,(i.rev C.hs).app w⟩
 have F:∀ u,u∈qs->∃ k,Gr.Walk (Tied (aat es t)) d k u:=λu g=>by
  obtain⟨k,w⟩:=(Q.mem u).mp g
  obtain⟨s,i⟩:=(Q.mem d).mp hd
  exact⟨_,(i.rev C.hs).app w⟩
 have hn:∀ k,¬ Gr.Walk (Tied (aat es t)) c k d:=λk w=>by
  obtain⟨s,i⟩:=(P.mem c).mp G
  exact C.dis P Q ((P.mem d).mpr ⟨_,i.app w⟩) hd
 have A:∀ k,¬ Gr.Walk (Tied (aat es t)) d k c:=λk w=>hn k (w.rev C.hs)
 have up:∀{x y:Int}{k:Nat},Gr.Walk (Tied (aat es t)) x k y->Gr.Walk (Tied rs) x k y:=λw=>auj (λx y h=>(hT x y).mpr (.inl h)) w
 have r:∀ u,0<=u->u<n->∃ k,Gr.Walk (Tied rs) c k u:=λu H K=>by
  rcases C.all P Q H K with h|h
  ·obtain⟨k,w⟩:=D u h
   exact⟨k,up w⟩
  ·obtain⟨k,w⟩:=F u h
   exact⟨_,(Gr.Walk.step (.refl:Gr.Walk (Tied rs) c 0 c) ((hT c d).mpr (.inr (.inl ⟨rfl,rfl⟩)))).app (up w)⟩
 have M:TreeM n rs:=by
  refine⟨C.tree.lo,λq hq=>?_,?_,Conn.joined (λu v H K v0 U=>?_) (by have:=C.tree.lo;lia)⟩
  ·rcases aA7.mp (hr.mem_iff.mp hq) with h|h
   ·exact C.tree.inn q (lessE_mem.mp h).1
   ·rw[aC2.mp h]
    rcases L with rfl|rfl <;> simp only <;> lia
  ·have S:=hr.length_eq
   have Z:=aE8 (l₁:=es) (l₂:=t::aat es t) C.nd λp h=>by
    by_cases e:p=t
    ·exact e ▸ aB8
    ·exact aB5 _ (lessE_mem.mpr ⟨h,e⟩)
   have O:=aE8 (l₁:=t::aat es t) (l₂:=es) (aI4.mpr ⟨λq=>(lessE_mem.mp q).2 rfl,C.nd.filter _⟩) λp h=>by
    rcases aA9.mp h with rfl|h
    ·exact C.tie
    ·exact(lessE_mem.mp h).1
   have:=C.tree.len
   simp at S Z O
   lia
  ·obtain⟨k,w⟩:=r u H K
   obtain⟨s,i⟩:=r v v0 U
   exact⟨_,(w.rev λ_ _ h=>h.symm).app i⟩
 have one:∀ u v,u∈ps->v∈ps->dsF rs u v=dsF es u v:=λu v g o=>by
  obtain⟨e,N,J⟩:=C.same P g o
  obtain⟨k,w⟩:=D u g
  obtain⟨s,i⟩:=D v o
  have l:=P.inn u g
  have j:=P.inn v o
  obtain⟨f,X,I⟩:=M.dist l.1 l.2 j.1 j.2
  have:=(ag7 C.hs hT hn w i I).uniq J
  lia
 have two:∀ u v,u∈qs->v∈qs->dsF rs u v=dsF es u v:=λu v g o=>by
  obtain⟨e,N,J⟩:=C.sym.same Q g o
  obtain⟨k,w⟩:=F u g
  obtain⟨s,i⟩:=F v o
  have l:=Q.inn u g
  have j:=Q.inn v o
  obtain⟨f,X,I⟩:=M.dist l.1 l.2 j.1 j.2
  have:=(ag7 C.hs z A w i I).uniq J
  lia
 refine⟨M,one,two,λu v g o=>?_⟩
 have l:=P.inn u g
 have j:=Q.inn v o
 obtain⟨k,w⟩:=D u g
 obtain⟨s,i⟩:=F v o
 obtain⟨e1,x1,Y⟩:=M.dist l.1 l.2 B.1 B.2
 obtain⟨e2,x2,T⟩:=M.dist l.1 l.2 E.1 E.2
 obtain⟨e3,x3,W⟩:=M.dist j.1 j.2 B.1 B.2
 obtain⟨e4,x4,R⟩:=M.dist j.1 j.2 E.1 E.2
 have q1:=adf C.hs hT hn w Y T
 have q2:=adf C.hs z A i R W
 rw[(M.cross ((hT c d).mpr (.inr (.inl ⟨rfl,rfl⟩))) l.1 l.2 j.1 j.2).2 (by lia) (by lia),one u c g G,two d v hd o]
theorem Glue.ge(G:Glue n es rs ps qs c d)(P:PartOk n es t a ps gs)(Q:PartOk n es t b qs hs)(s:c∈ps)(hd:d∈qs)(r:adl (ps.length:Int).toNat (dsF gs) x)(j:adl (qs.length:Int).toNat (dsF hs) y)(l:MidOk ps.length gs w1 q)(p:MidOk qs.length hs w2 ns)(hz:adl n.toNat (dsF rs) z):x<=z/\y<=z/\w1+w2+1<=z:=by
 refine⟨?_,?_,?_⟩
 ·obtain⟨u,v,g,f,e⟩:=P.top_has r
  have i:=P.pl.inn u g
  have h:=P.pl.inn v f
  rw[← e,← G.one u v g f]
  exact hz.2 u v i.1 (by lia) h.1 (by lia)
 ·obtain⟨u,v,g,f,e⟩:=Q.top_has j
  have i:=Q.pl.inn u g
  have h:=Q.pl.inn v f
  rw[← e,← G.two u v g f]
  exact hz.2 u v i.1 (by lia) h.1 (by lia)
 ·obtain⟨u,g,o⟩:=P.mid_has l s
  obtain⟨v,f,w⟩:=Q.mid_has p hd
  have i:=P.pl.inn u g
  have h:=Q.pl.inn v f
  have:=G.over u v g f
  have:=hz.2 u v i.1 (by lia) h.1 (by lia)
  rw[abd es c u] at o
  lia
theorem Glue.le(C:Cut n es t a b)(G:Glue n es rs ps qs c d)(P:PartOk n es t a ps gs)(Q:PartOk n es t b qs hs)(w:c∈ps)(hd:d∈qs)(s:adl (ps.length:Int).toNat (dsF gs) x)(l:adl (qs.length:Int).toNat (dsF hs) y)(o:MidOk ps.length gs w1 i)(q:MidOk qs.length hs w2 ns)(A:ixI ps c∈i)(r:ixI qs d∈ns)(hz:adl n.toNat (dsF rs) z):z<=x\/z<=y\/z<=w1+w2+1:=by
 have over:∀ u v,u∈ps->v∈qs->dsF rs u v<=w1+w2+1:=λu v g f=>by
  have j:=P.mid_le o w A g
  have E:=Q.mid_le q hd r f
  have B:=G.over u v g f
  rw[abd es c u] at j
  lia
 obtain⟨u,v,p,F,v0,D,e⟩:=hz.1
 rcases C.all P.pl Q.pl p (by lia) with g|g <;> rcases C.all P.pl Q.pl v0 (by lia) with f|f
 ·have h:=P.top_le s g f
  rw[← G.one u v g f] at h
  exact .inl (by lia)
 ·have:=over u v g f
  exact .inr (.inr (by lia))
 ·have h:=over v u f g
  rw[abd] at h
  exact .inr (.inr (by lia))
 ·have h:=Q.top_le l g f
  rw[← G.two u v g f] at h
  exact .inr (.inl (by lia))
end
theorem aon(es:List (Int × Int))(t:Int × Int):((es.map prD).filter λd=>!PyData.eqv d (prD t))=(aat es t).map prD:=by
 unfold aat
 rw[List.filter_map]
 congr 1
 refine List.filter_congr λp _=>?_
 show(!PyData.eqv (prD p) (prD t))=_
 rw[aj8]
theorem a0c(h:InN n es):InN n (aat es t):=λp a=>h p (lessE_mem.mp a).1
theorem aoo(es:List (Int × Int))(t:Int × Int):(aat es t).length<=es.length:=aF3 _ _
theorem af4(ns:List Int):plainDs (ns.map .int)=true:=(afr _).mpr λd hd=>by
 obtain⟨x,_,rfl⟩:=aB7.mp hd
 rfl
theorem amb(ns:List Int):aap (.list (ns.map .int))=true:=af4 ns
theorem aqt(ns:List Int):(PyData.list (ns.map PyData.int)).depth<=60:=by
 have h:PyData.depthAll (ns.map PyData.int)<=1:=ao1 λd hd=>by
  obtain⟨x,_,rfl⟩:=aB7.mp hd
  simp[PyData.depth]
 simp only[PyData.depth]
 lia
theorem afa(ps:List Int)(u:Int):((ps.map PyData.int).any λz=>PyData.eqv z (.int u))=decide (u∈ps):=by
 rw[aH8,List.any_eq_true,decide_eq_true_iff]
 constructor
 ·rintro⟨d,hd,e⟩
  obtain⟨x,a,rfl⟩:=aB7.mp hd
  simp[PyData.eqv] at e
  exact e ▸ a
 ·intro h
  exact⟨.int u,aB7.mpr ⟨u,h,rfl⟩,by simp[PyData.eqv]⟩
def prT(line:List Int):List (Key × PyData):=line.map λv=>(Sum.inl v,.bool true)
theorem a0d(h:v∈line):valD (prT line) (Sum.inl v)=some (.bool true):=by
 induction line with
 |nil=>cases h
 | cons a l ih =>
  unfold prT valD
  rw[aD1,List.find?_cons]
  by_cases e:a=v
  ·subst e
   simp
  ·rw[show decide ((Sum.inl a:Key)=Sum.inl v)=false from aD7 λh=>e (Sum.inl.inj h)]
   rcases aA9.mp h with h|h
   ·exact absurd h.symm e
   ·exact ih h
theorem awv(h:v ∉ line):valD (prT line) (Sum.inl v)=none:=by
 induction line with
 |nil=>rfl
 | cons a l ih =>
  unfold prT valD
  rw[aD1,List.find?_cons]
  rw[show decide ((Sum.inl a:Key)=Sum.inl v)=false from aD7 λe=>h (Sum.inl.inj e ▸ aB8)]
  exact ih λhm=>h (aB5 _ hm)
theorem a0e(h:v ∉ line):putD (prT line) (Sum.inl v) (.bool true)=prT (line++[v]):=by
 have:(prT line).any (λe=>decide (e.1=(Sum.inl v:Key)))=false:=by
  rw[List.any_eq_false]
  intro e a hd
  obtain⟨p,b,rfl⟩:=aB7.mp a
  have c:(Sum.inl p:Key)=Sum.inl v:=of_decide_eq_true hd
  exact h (Sum.inl.inj c ▸ b)
 unfold putD
 rw[aF6 (by rw[this];simp)]
 unfold prT
 rw[aE5]
 rfl
structure Dfs(n:Int)(T:Int->Int->Prop)(a:Int)(line wait:List Int)(p:Nat):Prop where
 nd:line.Nodup
 fst:a∈line
 way:∀ v∈line,∃ k,Gr.Walk T a k v
 inn:∀ v∈line,0<=v/\v<n
 sub:∀ v∈wait,v∈line
 len:line.length=wait.length+p
 all:∀ v∈line,v∈wait\/∀ w,T v w->w∈line
theorem Dfs.line_le(h:Dfs n T a line wait p)(c:n<=60):line.length<=60:=by
 have:=aE8 (l₁:=line) (l₂:=(List.range 60).map λ(i:Nat)=>(i:Int)) h.nd λu b=>by
  have:=h.inn u b
  exact aB7.mpr ⟨u.toNat,aB9.mpr (by lia),by lia⟩
 simpa using this
structure DfsB(n:Int)(T:Int->Int->Prop)(a here:Int)(es:List (Int × Int))(line wait:List Int)(p:Nat):Prop where
 nd:line.Nodup
 fst:a∈line
 way:∀ v∈line,∃ k,Gr.Walk T a k v
 inn:∀ v∈line,0<=v/\v<n
 sub:∀ v∈wait,v∈line
 len:line.length=wait.length+p
 hr:here∈line
 all:∀ v∈line,v∈wait\/v=here\/∀ w,T v w->w∈line
 done:∀ q∈es,(q.1=here->q.2∈line)/\(q.2=here->q.1∈line)
theorem DfsB.more(h:DfsB n T a here es line wait p)(d:∀ x,(q.1=here->q.2=x->x=v)/\(q.2=here->q.1=x->x=v))(hT:T here v)(v0:0<=v/\v<n)(g:v ∉ line):DfsB n T a here (es++[q]) (line++[v]) (wait++[v]) p:=by
 have up:∀{u},u∈line->u∈line++[v]:=λh=>aA7.mpr (.inl h)
 refine⟨aE7.mpr ⟨h.nd,by simp,λx c y f e=>g (aC2.mp f ▸ e ▸ c)⟩,up h.fst,λu b=>?_,λu b=>?_,λu b=>?_,by simp[h.len];lia,up h.hr,λu b=>?_,λx c=>?_⟩
 ·rcases aA7.mp b with b|b
  ·exact h.way u b
  ·rw[aC2.mp b]
   obtain⟨k,w⟩:=h.way here h.hr
   exact⟨_,w.step hT⟩
 ·rcases aA7.mp b with b|b
  ·exact h.inn u b
  ·rw[aC2.mp b];exact v0
 ·rcases aA7.mp b with b|b
  ·exact up (h.sub u b)
  ·exact aA7.mpr (.inr b)
 ·rcases aA7.mp b with b|b
  ·rcases h.all u b with q|q|q
   ·exact .inl (aA7.mpr (.inl q))
   ·exact .inr (.inl q)
   ·exact .inr (.inr λw i=>up (q w i))
  ·exact .inl (aA7.mpr (.inr b))
 ·rcases aA7.mp c with c|c
  ·exact⟨λe=>up ((h.done x c).1 e),λe=>up ((h.done x c).2 e)⟩
  ·rw[aC2.mp c]
   exact⟨λe=>aA7.mpr (.inr (aC2.mpr ((d q.2).1 e rfl))),λe=>aA7.mpr (.inr (aC2.mpr ((d q.1).2 e rfl)))⟩
theorem DfsB.none(h:DfsB n T a here es line wait p)(c:(q.1=here->q.2∈line)/\(q.2=here->q.1∈line)):DfsB n T a here (es++[q]) line wait p :=
 ⟨h.nd,h.fst,h.way,h.inn,h.sub,h.len,h.hr,h.all,λx b=>by
  rcases aA7.mp b with b|b
  ·exact h.done x b
  ·rw[aC2.mp b];exact c⟩
theorem Dfs.fin(h:Dfs n (Tied (aat es t)) t.1 line [] p)(c:d.Perm line)(hs:d.Pairwise (·<=·)):PlOk n es t t.1 d:=by
 refine⟨?_,λu=>?_,λu f=>h.inn u (c.mem_iff.mp f)⟩
 ·have nd:=c.nodup_iff.mpr h.nd
  refine(List.pairwise_and_iff.mpr ⟨hs,nd⟩).imp λ{a b} h=>?_
  have:=h.2
  have:=h.1
  lia
 ·rw[c.mem_iff]
  refine⟨h.way u,?_⟩
  rintro⟨k,w⟩
  induction w with
  |refl=>exact h.fst
  | step _ t ih =>
   rcases h.all _ ih with q|q
   ·cases q
   ·exact q _ t
def a27:VP:=λss Q=>∃(n:Int)(es:List (Int × Int))(t:Int × Int),ss=[.st (webD n es),.st (prD t)]/\TreeW n es/\t∈es/\∀ ps,PlOk n es t t.1 ps->Q (.own (OL (ps.map .int)))
section
theorem sc_law_side:FnScope ["web","tie","left","found","some","here","a","b"] ["web","tie"] (aaj s_law_side):=by row_cond sc
theorem aop (T:Txt K mg):Can P w K mg base "_law_side" 1 ["web","tie"] (spP K (a27)):=by
 obtain⟨f,fd,D⟩:=T.d_law_side
 refine D.can (D.fn.ok sc_law_side (λvs H Q E h=>lenP h λss Q' q=>by obtain⟨n,es,t,rfl,y,Z,k⟩:=q;rfl) (λcdv A outer s H vs Q E hr h=>?_))
 have nd:=sc_law_side.nd
 refine ⟨_,(aac (adb (i:=2) nd rfl (Or.inl rfl) rfl (N:=["other","tie"]) (src:=[none,some 1]) (by exact aa9 rfl rfl rfl rfl rfl rfl) (abl (aak aal (pv 0) aae (λ_ _=>rfl))) (λ_ _ _ _=>(aag (i:=0) (show List.Nodup (["other","tie"]:List Str) by decide +kernel) rfl (Or.inl rfl) (hf:=Or.inr rfl))) (λ_ _ _ _=>acy (aav (amw hr.units) (pv 0) (pv 1) (aay _))) (λ_ _ _ _=>(pv 0)))
  (aac (aao (i:=3) nd rfl (Or.inl rfl) (ax3 (auw (aak aal (pv 1) aae (λ_ _=>rfl)) adq ax2) rfl rfl (by simp) (by decide)))
  (aac (aao (i:=4) nd rfl (Or.inl rfl) (abq (aaa (aak aal (pv 1) aae (λ_ _=>rfl)) aab)))
  (aac (af5 aJ9 (aav (amw hr.units) (pv 4) (abq aab) (aay _))
   (aac (aao (i:=5) nd rfl (Or.inl rfl) (a0y PySem.F.plainAttrs_list PySem.F.slot_list_pop PySem.F.type_list_pop a0z (pv 4)))
    (aaf (aei aJ9 rfl (abl (pv 2)) (abo rfl (aan (aag (i:=6) nd rfl (Or.inl rfl)) (aan (aag (i:=7) nd rfl (Or.inl rfl)) aba)))
     (aaf (abn (PW.pt (aiq (aav (amx hr.units) (pv 5) (abp (aaa (pv 6) (aaa (pv 7) aab))) rfl) (ahh (a0p (asp (axc hr) (aax adn (aax abu (pv 6) (pv 7)) (pv 5)) (pv 3))))))
       (aac (ax1 (axc hr) (pv 3) (aax adn (aax abu (pv 6) (pv 7)) (pv 5)) adq rfl)
        (aaf (abk (ac0 PySem.F.plainAttrs_list PySem.F.slot_list_append PySem.F.type_list_append ab2 (pv 4) (aaa (aax adn (aax abu (pv 6) (pv 7)) (pv 5)) aab)))))
       aa7))))))
  (aaf (aas (aai (ao6 rfl) (by rfl) T.b_sorted adw (aaa (pv 3) aab)))))))),?_⟩
 refine aa3 h λss Q' q B hK=>?_
 refine exS3 ss q λn es t c=>?_
 have y:=c.1
 have Z:=c.2.1
 have k:=c.2.2
 clear c q
 show EvS B _ _ [some (.st (webD n es)),some (.st (prD t)),none,none,none,none,none,none]
 have a2:=y.inn
 have a1:=y.web.len
 have a3:=y.web.lo
 have W:=y.web.hi
 have a5:=y.web.inn t Z
 row_cond go
 refine aik (λd=>d) (λd=>!PyData.eqv d (prD t)) rfl (by rw[aA3];lia) (λd hd B' r=>?_) ?_
 ·obtain⟨p,hp,rfl⟩:=aB7.mp hd
  row_cond go
  refine ahw (ad0 _) (ad0 _) (aD0 (afm _) (by decide)) ?_
  row_cond go
  intro _
  row_cond go
  exact rfl
 ·rw [aon,List.map_id']
  have a4:=aoo es t
  row_cond go
  refine at9 rfl ?_
  row_cond go
  refine ahx 2 rfl abf ?_
  dsimp only[List.set_cons_zero,List.set_cons_succ]
  refine afj (λmm e=>∃ line wait p v5 M O,e=[some (.st (webD n es)),some (.st (prD t)),some (.st (.list ((aat es t).map prD))),some (.own (OD (prT line))),some (.own (OL (wait.map .int))),v5,M,O]/\Dfs n (Tied (aat es t)) t.1 line wait p/\mm=100-p) ⟨_,[t.1],[t.1],0,_,_,_,rfl,⟨by simp,by simp,λv o=>⟨0,by rw[aC2.mp o];exact .refl⟩,λv o=>by rw[aC2.mp o];lia,λv o=>o,rfl,λv o=>.inl o⟩,rfl⟩ ?_
  rintro mm e l
  refine exS6 e l λline wait p v5 M O c=>?_
  have g:=c.1
  have X:=c.2
  clear c l
  subst X
  have R:=g.line_le W
  have C:=g.len
  rcases List.eq_nil_or_concat wait with rfl|⟨ws,here,rfl⟩
  ·row_cond go
   refine ahw rfl rfl (by decide) ?_
   rw[show PyData.eqv (.list (([]:List Int).map .int)) (.list [])=true from rfl]
   row_cond go
   refine ar0 (i:=3) rfl (by unfold prT;rw[aE0];rfl) (by lia) λms hp hs=>?_
   exact k ms (g.fin hp hs)
  ·rw [List.concat_eq_append] at *
   have Y:PyData.eqv (.list ((ws++[here]).map PyData.int)) (.list [])=false:=by cases ws <;> rfl
   rw[aB1,List.length_singleton] at C
   have hh:=g.sub here (by simp)
   have a6:=g.inn here hh
   row_cond go
   refine ahw (amb _) rfl (aqt _) ?_
   rw[Y]
   refine⟨_,rfl,rfl,_,rfl,?_⟩
   rw[aF5 (show(!false)=true from rfl)]
   repeat (first|(refine aby (azv rfl ⟨ws.map .int,.int here,by rw[List.map_append];rfl,?_⟩);dsimp only[List.set_cons_zero,List.set_cons_succ])|row_cond st)
   refine ae4 (xs:=aat es t) (f:=prD) (λj e=>∃ line wait M O,e=[some (.st (webD n es)),some (.st (prD t)),some (.st (.list ((aat es t).map prD))),some (.own (OD (prT line))),some (.own (OL (wait.map .int))),some (.st (.int here)),M,O]/\DfsB n (Tied (aat es t)) t.1 here ((aat es t).take j) line wait (p+1)) ⟨line,ws,_,_,rfl,⟨g.nd,g.fst,g.way,g.inn,λv o=>g.sub v (aA7.mpr (.inl o)),by lia,hh,λv o=>?_,λq hq=>by simp at hq⟩⟩ ?_ ?_
   ·rcases g.all v o with q|q
    ·rcases aA7.mp q with q|q
     ·exact .inl q
     ·exact .inr (.inl (aC2.mp q))
    ·exact .inr (.inr q)
   ·clear g R C line hh
    rintro j ⟨a,b⟩ e hj l
    refine exS4 e l λline wait M O c=>?_
    have g:=c
    clear c l
    have L:(a,b)∈aat es t:=aA2 hj
    have U:=y.web.inn _ (lessE_mem.mp L).1
    simp only at U
    have J:(aat es t).take (j+1)=(aat es t).take j++[(a,b)]:=by rw[aH4,hj];rfl
    row_cond go
    refine avn rfl rfl (by simp[PyData.depth]) ?_
    rw[show(if false=true then !([PyData.int a,.int b].any λz=>PyData.eqv z (.int here)) else ([PyData.int a,.int b].any λz=>PyData.eqv z (.int here)))=decide (a=here\/b=here) by
     rw[aF6 aB0,aH8]
     simp[PyData.eqv]]
    by_cases hc:a=here\/b=here
    ·rw[aD8 hc]
     refine agb ⟨_,rfl,?_⟩
     rw[aF5 rfl]
     have o:0<=a+b-here/\a+b-here<n:=by lia
     have hT:Tied (aat es t) here (a+b-here):=by
      rcases hc with rfl|rfl
      ·exact .inl (by rw[show a+b-a=b by lia];exact L)
      ·exact .inr (by rw[show a+b-b=a by lia];exact L)
     have R:line.length<=60:=by
      have:=aE8 (l₁:=line) (l₂:=(List.range 60).map λ(i:Nat)=>(i:Int)) g.nd λu hu=>by
       have:=g.inn u hu
       exact aB7.mpr ⟨u.toNat,aB9.mpr (by lia),by lia⟩
      simpa using this
     have C:=g.len
     have h9:(prT line).length<=999999:=by unfold prT;rw[aA3];lia
     have h8:(wait.map PyData.int).length<=999999:=by rw[aA3];lia
     row_cond go
     by_cases hm:a+b-here∈line
     ·rw[a0d hm]
      refine aho ?_
      row_cond go
      refine⟨line,wait,_,_,rfl,?_⟩
      rw[J]
      refine g.none ⟨λe=>?_,λe=>?_⟩
      ·simp only at e ⊢
       rw[show b=a+b-here by lia];exact hm
      ·simp only at e ⊢
       rw[show a=a+b-here by lia];exact hm
     ·rw[awv hm]
      refine ahp ?_
      row_cond go
      rw[a0e hm,show wait.map PyData.int++[PyData.int (a+b-here)]=(wait++[a+b-here]).map .int by rw[aE5];rfl]
      refine⟨_,_,_,_,rfl,?_⟩
      rw[J]
      exact g.more (λx=>⟨λe f=>by simp only at e f;lia,λe f=>by simp only at e f;lia⟩) hT o hm
    ·rw[aD7 hc]
     refine agb ⟨_,rfl,?_⟩
     rw[aF6 aB0]
     row_cond go
     refine⟨line,wait,_,_,rfl,?_⟩
     rw[J]
     exact g.none ⟨λe=>absurd (.inl e) hc,λe=>absurd (.inr e) hc⟩
   ·rintro e l
    refine exS4 e l λG I M O c=>?_
    have r:=c
    clear c l
    rw[aG8] at r
    refine⟨100-(p+1),by lia,G,I,p+1,_,_,_,rfl,⟨r.nd,r.fst,r.way,r.inn,r.sub,r.len,λv o=>?_⟩,rfl⟩
    rcases r.all v o with q|rfl|q
    ·exact .inl q
    ·refine .inr λw S=>?_
     rcases S with S|S
     ·exact(r.done _ S).1 rfl
     ·exact(r.done _ S).2 rfl
    ·exact .inr q
end
def pa2(ps:List Int)(n:Nat):List Int:=((List.range n).filter λ(i:Nat)=>!decide ((i:Int)∈ps)).map λ(i:Nat)=>(i:Int)
theorem a28(C:Cut n es t t.1 t.2)(P:PlOk n es t t.1 ps):PlOk n es t t.2 (pa2 ps n.toNat):=by
 have ha:=C.a0
 have a:∀{k:Nat}{u:Int},Gr.Walk (Tied (aat es t)) t.2 k u->0<=u/\u<n:=λ{k u} w=>by
  cases w with
  |refl=>exact ha.2.2
  |step _ h=>exact(h.in (a0c C.tree.inn)).2
 have mem:∀ u,u∈pa2 ps n.toNat ↔ 0<=u/\u<n/\u ∉ ps:=λu=>by
  unfold pa2
  simp only[aB7,aE2,aB9,Bool.not_eq_true',decide_eq_false_iff_not]
  constructor
  ·rintro⟨i,⟨hi,h⟩,rfl⟩;exact⟨by lia,by lia,h⟩
  ·rintro⟨b,c,h⟩
   exact⟨u.toNat,⟨by lia,by rw[show((u.toNat:Nat):Int)=u by lia];exact h⟩,by lia⟩
 refine⟨?_,λu=>?_,λu d=>⟨((mem u).mp d).1,((mem u).mp d).2.1⟩⟩
 ·unfold pa2
  rw[aG1]
  exact(List.pairwise_lt_range.sublist List.filter_sublist).imp λh=>by lia
 ·rw[mem]
  constructor
  ·rintro⟨b,c,h⟩
   obtain⟨k,w⟩:=C.tree.join.conn t.1 u ha.1 ha.2.1 b c
   rcases ag8 C.hT w with q|q
   ·exact absurd ((P.mem u).mpr q) h
   ·exact q
  ·rintro⟨k,w⟩
   refine⟨(a w).1,(a w).2,λh=>?_⟩
   obtain⟨g,f⟩:=(P.mem u).mp h
   exact C.hn _ (f.app (w.rev C.hs))
theorem TreeW.cut(h:TreeW n es)(a:t∈es):Cut n es t t.1 t.2:=⟨⟨h.web.lo,h.inn,h.len,h.conn.joined (by have:=h.web.lo;lia)⟩,h.web.rise.nodup,a,.inl ⟨rfl,rfl⟩⟩
theorem TreeW.m(h:TreeW n es):TreeM n es:=⟨h.web.lo,h.inn,h.len,h.conn.joined (by have:=h.web.lo;lia)⟩
theorem aul(P:PlOk n es t a ps)(c:n<=60):ps.length<=60:=by
 have:=aE8 (l₁:=ps) (l₂:=(List.range 60).map λ(i:Nat)=>(i:Int)) P.nd λu b=>by
  have:=P.inn u b
  exact aB7.mpr ⟨u.toNat,aB9.mpr (by lia),by lia⟩
 simpa using this
def a0f:VP:=λss Q=>∃(n:Int)(es:List (Int × Int))(ps:List Int),ss=[.st (webD n es),.st (.list (ps.map .int))]/\es.length<=3600/\ps.length<=60/\ps.Nodup/\∀ gs:List (Int × Int),gs.Perm (prt es ps)->lexS (gs.map p2)->Q (.st (webD ps.length gs))
def a0g:VP:=λss Q=>∃(n:Int)(es:List (Int × Int))(t:Int × Int),ss=[.st (webD n es),.st (prD t)]/\TreeW n es/\t∈es/\∀ ps qs gs hs,PartOk n es t t.1 ps gs->PartOk n es t t.2 qs hs->Q (.own (OL [.list (ps.map .int),.list (qs.map .int),webD ps.length gs,webD qs.length hs]))
def aum:VP:=λss Q=>∃(n:Int)(es:List (Int × Int))(t:Int × Int),ss=[.st (webD n es),.st (prD t)]/\TreeW n es/\t∈es/\∀ x,IsPt n.toNat (dsF es) t.1 t.2 x->Q (.st (.int x))
theorem aun{ps:List Int}{u:Int}(h:u∈ps)(nd:ps.Nodup):ps[ps.idxOf u]?=some u/\∀ m,m<ps.idxOf u->ps[m]? ≠ some u:=by
 have a:=(ace h).1
 unfold ixI at a
 rw[show(((ps.idxOf u:Nat):Int)).toNat=ps.idxOf u by lia] at a
 refine⟨a,λm hm e=>?_⟩
 have b:=(aA1.mp a).1
 have:=(List.getElem?_inj (by lia:m<ps.length) nd).mp (e.trans a.symm)
 lia
section
theorem sc_law_part:FnScope ["web","places","ties"] ["web","places"] (aaj s_law_part):=by row_cond sc
theorem ahd(T:Txt K mg):Can P w K mg base "_law_part" 1 ["web","places"] (spP K (a0f)):=by
 obtain⟨f,fd,D⟩:=T.d_law_part
 refine D.can (D.fn.ok sc_law_part (λvs H Q E h=>lenP h λss o q=>by obtain⟨n,es,ps,rfl,c,g,b,k⟩:=q;rfl) (λcdv A outer s H vs Q E hr h=>?_))
 have nd:=sc_law_part.nd
 refine⟨_,(aac (adb (i:=2) nd rfl (Or.inl rfl) rfl (N:=["a","b","places"]) (src:=[none,none,some 1]) (by exact aa9 rfl rfl rfl rfl rfl rfl) (abl (aak aal (pv 0) aae (λ_ _=>rfl))) (λ_ _ _ _=>(show PG _ _ (gTup K 2 (abz (aa0 0) (abz (aa0 1) gNil))) from(abo rfl (aan (aag (i:=0) (show List.Nodup (["a","b","places"]:List Str) by decide +kernel) rfl (Or.inl rfl) (hf:=Or.inr rfl)) (aan (aag (i:=1) (show List.Nodup (["a","b","places"]:List Str) by decide +kernel) rfl (Or.inl rfl) (hf:=Or.inr rfl)) aba))))) (λ_ _ _ _=>acy (PW.pt (aiq (aav (amx hr.units) (pv 0) (pv 2) rfl) (ahh (aav (amx hr.units) (pv 1) (pv 2) rfl))))) (λ_ _ _ _=>(abp (aaa (show PE _ _ (tBM K "list" aji _ _) from(ac0 PySem.F.plainAttrs_list PySem.F.slot_list_index PySem.F.type_list_index ae6 (pv 2) (aaa (pv 0) aab))) (aaa (show PE _ _ (tBM K "list" aji _ _) from(ac0 PySem.F.plainAttrs_list PySem.F.slot_list_index PySem.F.type_list_index ae6 (pv 2) (aaa (pv 1) aab))) aab)))))
  (aaf (aas (abp (aaa (aai aa6 (by rfl) T.b_len abv (aaa (pv 1) aab)) (aaa (aai aga (by rfl) T.b_sorted adw (aaa (pv 2) aab)) aab)))))),?_⟩
 refine aa3 h λss o q B t=>?_
 refine exS3 ss q λn es ps a=>?_
 have c:=a.1
 have g:=a.2.1
 have b:=a.2.2.1
 have k:=a.2.2.2
 clear a q
 show EvS B _ _ [some (.st (webD n es)),some (.st (.list (ps.map .int))),none]
 have r:(es.filter (inP ps)).length<=es.length:=aF3 _ _
 row_cond go
 refine agg (xs:=es) (fa:=λp=>.int p.1) (fb:=λp=>.int p.2) (λp=>prD (ixI ps p.1,ixI ps p.2)) (inP ps) rfl (by lia) ?_ ?_
 ·intro p l v u
  row_cond go
  refine adz rfl (af4 ps) (by simp[PyData.depth]) ?_
  rw[aF6 aB0,afa]
  by_cases h1:p.1∈ps
  ·rw[aD8 h1]
   refine agb ⟨_,rfl,?_⟩
   rw[aF5 rfl]
   row_cond go
   refine adz rfl (af4 ps) (by simp[PyData.depth]) ?_
   rw[aF6 aB0,afa]
   have hi:inP ps p=decide (p.2∈ps):=by unfold inP;rw[aD8 h1,Bool.true_and]
   rw[hi]
   refine agb ⟨_,rfl,rfl,rfl,λd=>?_⟩
   have d:p.2∈ps:=of_decide_eq_true d
   have f1:=aun h1 b
   have j:=aun d b
   row_cond go
   refine⟨ps,rfl,?_⟩
   row_cond go
   refine⟨p.1,ps.idxOf p.1,rfl,f1.1,f1.2,?_⟩
   row_cond go
   refine⟨ps,rfl,?_⟩
   row_cond go
   refine⟨p.2,ps.idxOf p.2,rfl,j.1,j.2,?_⟩
   row_cond go
   exact rfl
  ·rw[aD7 h1]
   refine agb ⟨_,rfl,?_⟩
   rw[aF6 aB0]
   have hi:inP ps p=false:=by unfold inP;rw[aD7 h1,Bool.false_and]
   rw[hi]
   exact⟨rfl,rfl,λh=>nomatch h⟩
 ·rw[show((es.filter (inP ps)).map λp=>prD (ixI ps p.1,ixI ps p.2))=(prt es ps).map prD by unfold prt;rw[aE0];rfl]
  repeat (first|(refine ahx 2 rfl abf ?_;dsimp only[List.set_cons_zero,List.set_cons_succ])|row_cond st)
  refine afl (ps:=prt es ps) ?_
  row_cond go
  intro gs l hs
  refine afi ?_
  row_cond go
  rw[aA3]
  exact k gs l hs
theorem sc_law_parts:FnScope ["web","tie","one","other"] ["web","tie"] (aaj s_law_parts):=by row_cond sc
theorem ags(T:Txt K mg):Can P w K mg base "_law_parts" 2 ["web","tie"] (spP K (a0g)):=by
 obtain⟨f,fd,D⟩:=T.d_law_parts
 refine D.can (D.fn.ok sc_law_parts (λvs H Q E h=>lenP h λss F q=>by obtain⟨n,es,t,rfl,c,x,k⟩:=q;rfl) (λcdv A outer s H vs Q E hr h=>?_))
 have nd:=sc_law_parts.nd
 refine⟨_,(aac (aao (i:=2) nd rfl (Or.inr rfl) (aad (aop T) hr (aaa (pv 0) (aaa (pv 1) aab))))
  (aac (adb (i:=3) nd rfl (Or.inl rfl) rfl (N:=["place","one"]) (src:=[none,some 2]) (by exact aa9 rfl rfl rfl rfl rfl rfl) (acr rfl T.b_range (aaa (aak aal (pv 0) aae (λ_ _=>rfl)) aab)) (λ_ _ _ _=>(aag (i:=0) (show List.Nodup (["place","one"]:List Str) by decide +kernel) rfl (Or.inl rfl) (hf:=Or.inr rfl))) (λ_ _ _ _=>acy (aav (adx hr.units) (pv 0) (pv 1) rfl)) (λ_ _ _ _=>(pv 0)))
  (aaf (aas (abq (aaa (pv 2) (aaa (pv 3) (aaa (aad (ahd T) hr (aaa (pv 0) (aaa (pv 2) aab))) (aaa (aad (ahd T) hr (aaa (pv 0) (aaa (pv 3) aab))) aab))))))))),?_⟩
 refine aa3 h λss F q B I=>?_
 refine exS3 ss q λn es t a=>?_
 have c:=a.1
 have x:=a.2.1
 have k:=a.2.2
 clear a q
 show EvS B _ _ [some (.st (webD n es)),some (.st (prD t)),none,none]
 have b:=c.web.len
 have g:=c.web.hi
 have G:=c.web.lo
 have C:=c.cut x
 have z:∀ p∈es,p.1<p.2:=λp v=>(c.web.inn p v).2.1
 row_cond go
 refine⟨n,es,t,rfl,c,x,λps d=>abc abf ?_⟩
 have j:=a28 C d
 have y:=aul d g
 have o:=aul j g
 row_cond go
 unfold rngD
 refine afn (xs:=List.range n.toNat) (f:=λi:Nat=>PyData.int (0+(i:Int))) (λi:Nat=>PyData.int (0+(i:Int))) (λi=>!decide ((i:Int)∈ps)) rfl (by simp;lia) (λi hi L J=>?_) ?_
 ·row_cond go
  refine adz rfl (af4 ps) (by simp[PyData.depth]) ?_
  rw[aF5 rfl,afa,Int.zero_add]
  refine agb ⟨_,rfl,rfl,rfl,λ_=>?_⟩
  row_cond go
  exact rfl
 ·rw[show((List.range n.toNat).filter λ(i:Nat)=>!decide ((i:Int)∈ps)).map (λi:Nat=>PyData.int (0+(i:Int)))=(pa2 ps n.toNat).map .int by
   unfold pa2
   rw[aE0]
   exact aE9 λi _=>by rw[Int.zero_add];rfl]
  repeat (first|(refine ahx 3 rfl abf ?_;dsimp only[List.set_cons_zero,List.set_cons_succ])|row_cond st)
  refine⟨n,es,ps,rfl,b,y,d.nd,λgs v hs=>?_⟩
  row_cond go
  refine⟨n,es,pa2 ps n.toNat,rfl,b,o,j.nd,λr u l=>?_⟩
  row_cond go
  exact k ps (pa2 ps n.toNat) gs r (C.part g z d j v hs) (C.sym.part g z j d u l)
theorem sc_law_farther:FnScope ["web","tie","one","other","first","second"] ["web","tie"] (aaj s_law_farther):=by row_cond sc
theorem afp(T:Txt K mg):Can P w K mg base "_law_farther" 10 ["web","tie"] (spP K (aum)):=by
 obtain⟨f,fd,D⟩:=T.d_law_farther
 refine D.can (D.fn.ok sc_law_farther (λvs H Q E h=>lenP h λss p q=>by obtain⟨n,es,t,rfl,j,o,k⟩:=q;rfl) (λcdv A outer s H vs Q E hr h=>?_))
 have nd:=sc_law_farther.nd
 refine⟨_,(aac (ab0 (aad (ags T) hr (aaa (pv 0) (aaa (pv 1) aab))) (as4 rfl (aan (aag (i:=2) nd rfl (Or.inl rfl)) (aan (aag (i:=3) nd rfl (Or.inl rfl)) (aan (aag (i:=4) nd rfl (Or.inl rfl)) (aan (aag (i:=5) nd rfl (Or.inl rfl)) aba))))))
  (aac (abn (PW.pt (aes (aav aqq (aad (aft T) hr (aaa (pv 4) aab)) adq (aay _)) (ae0 (aav aqq (aad (aft T) hr (aaa (pv 5) aab)) adq (aay _)))))
   (aaf (aas ad1))
   aa7)
  (aaf (aas (aai (acs rfl) (by rfl) T.b_max abw (aaa (aak aal (aad (aa5 T) hr (aaa (pv 4) aab)) aae (λ_ _=>rfl)) (aaa (aak aal (aad (aa5 T) hr (aaa (pv 5) aab)) aae (λ_ _=>rfl)) aab))))))),?_⟩
 refine aa3 h λss p q B G=>?_
 refine exS3 ss q λn es t c=>?_
 have j:=c.1
 have o:=c.2.1
 have k:=c.2.2
 clear c q
 show EvS B _ _ [some (.st (webD n es)),some (.st (prD t)),none,none,none,none]
 have C:=j.cut o
 have F:=j.web.hi
 row_cond go
 refine⟨n,es,t,rfl,j,o,λps qs gs hs d g=>?_⟩
 have M1:=d.tree.m
 have M2:=g.tree.m
 have v:=d.tree.web.hi
 have J:=g.tree.web.hi
 have z:=d.tree.web.len
 have I:=g.tree.web.len
 row_cond go
 refine⟨_,gs,rfl,M1.lo,by lia,M1.inn,by lia,λb hb=>?_⟩
 obtain rfl:b=true:=hb.mpr ⟨M1.len,M1.join⟩
 row_cond go
 refine an4 ?_
 row_cond go
 refine⟨_,hs,rfl,M2.lo,by lia,M2.inn,by lia,λb hb=>?_⟩
 obtain rfl:b=true:=hb.mpr ⟨M2.len,M2.join⟩
 row_cond go
 refine an4 ?_
 row_cond go
 refine⟨_,gs,rfl,M1.lo,by lia,M1.inn,by lia,M1.join,λx a b r=>?_⟩
 row_cond go
 refine⟨_,hs,rfl,M2.lo,by lia,M2.inn,by lia,M2.join,λy u L l=>?_⟩
 row_cond go
 exact k _ (C.pt d g r.top l.top (by split <;> simp) (by split <;> lia) (by split <;> lia))
end
def aoq:VIo:=λA ss Q=>∃(n:Int)(es:List (Int × Int)),A=OSt/\ss=[.st (webD n es)]/\TreeW n es/\2<=n/\Q OSt (.st (.bool true))
def pm(c d:Int):Int × Int:=(if d<c then d else c,if d > c then d else c)
theorem Cut.put(C:Cut n es t t.1 t.2)(P:PlOk n es t t.1 ps)(Q:PlOk n es t t.2 qs)(f:c∈ps)(hd:d∈qs):(pm c d=(c,d)\/pm c d=(d,c))/\PutOk n (aat es t) [pm c d]:=by
 have j:c ≠ d:=λe=>C.dis P Q (e ▸ f) hd
 have l:=P.inn c f
 have o:=Q.inn d hd
 have i:pm c d=(c,d)\/pm c d=(d,c):=by
  unfold pm
  by_cases h:d<c
  ·rw[aF5 h,aF6 (by lia)];exact .inr rfl
  ·rw[aF6 h,aF5 (by lia)];exact .inl rfl
 have b:∀{x y:Int},x∈ps->y∈qs->¬ Tied (aat es t) x y:=λa g h=>by
  exact C.dis P Q ((C.tied P a).mp h).1 g
 refine⟨i,λp h=>?_,aE7.mpr ⟨C.nd.filter _,by simp,λx a y g e=>?_⟩⟩
 ·rw[aC2.mp h]
  unfold pm
  simp only
  by_cases h:d<c
  ·rw[aF5 h,aF6 (by lia)];lia
  ·rw[aF6 h,aF5 (by lia)];lia
 ·rw[aC2.mp g] at e
  rw[e] at a
  rcases i with h|h
  ·rw[h] at a;exact b f hd (.inl a)
  ·rw[h] at a;exact b f hd (.inr a)
section
theorem sc_law_parted_right:FnScope ["store","web","far","tie","turn","other","here"] ["store","web"] (aaj s_law_parted_right):=by row_cond sc
theorem agn(T:Txt K mg):Can P w K mg base "_law_parted_right" 11 ["store","web"] (spI K (aoq)):=by
 obtain⟨f,fd,D⟩:=T.d_law_parted_right
 refine D.can (D.fn.ok sc_law_parted_right (λvs H Q E h=>lenI h λA ss W q=>by obtain⟨n,es,rfl,rfl,c,G,O⟩:=q;rfl) (λcdv A outer s H vs Q E hr h=>?_))
 have nd:=sc_law_parted_right.nd
 refine⟨_,(aac (ab0 (aad (afo T) hr (aaa (pv 1) aab)) (abo rfl (aan (aag (i:=2) nd rfl (Or.inl rfl)) (aan (aag (i:=3) nd rfl (Or.inl rfl)) aba))))
  (aac (abn (PW.pt (aes (aav (adx hr.units) (pv 3) (aak aal (pv 1) aae (λ_ _=>rfl)) rfl) (ae0 (aav ais (aad (afp T) hr (aaa (pv 1) (aaa (pv 3) aab))) (pv 2) (aay _)))))
   (aaf (aas adq))
   aa7)
  (aac (aei aJ9 rfl (acr rfl T.b_range (aaa aae aab)) (aag (i:=4) nd rfl (Or.inl rfl))
   (aac (aao (i:=5) nd rfl (Or.inl rfl) (aak aal (aak aal (pv 1) aae (λ_ _=>rfl)) (aad (aaz T) hr (aaa (pv 0) (aaa (aai aa6 (by rfl) T.b_len abv (aaa (aak aal (pv 1) aae (λ_ _=>rfl)) aab)) aab))) (λ_ _=>rfl)))
    (aac (aao (i:=6) nd rfl (Or.inl rfl) (aad (afp T) hr (aaa (pv 1) (aaa (pv 5) aab))))
    (aaf (abn (PW.pt (aes (aav ahn (pv 6) ad1 (aay _)) (aes (aav alz (pv 6) (pv 2) (aay _)) (ae0 (PW.pt (aiq (aav afb (pv 6) (pv 2) (aay _)) (ahh (aav (asl hr.units0) (pv 5) (pv 3) (aay _)))))))))
     (aaf (aas adq))
     aa7)))))
  (aaf (aas adq))))),?_⟩
 refine ahs h λA0 ss W q B hK=>?_
 obtain⟨n,es,rfl,rfl,c,G,O⟩:=q
 show EvS B _ _ [some (.io OSt),some (.st (webD n es)),none,none,none,none,none]
 have M:=c.m
 have n6:=c.web.hi
 have S:=c.web.len
 row_cond go
 refine⟨n,es,rfl,M.lo,by lia,M.inn,by lia,⟨M.len,M.join⟩,λD hD=>?_⟩
 obtain⟨⟨far,t⟩,hz,rfl⟩:∃ z,IsPart n es z/\D=z3D z:=by
  rcases hD with ⟨rfl,_⟩|h
  ·have:=M.len
   simp at this
   lia
  ·exact h
 obtain⟨xs,p,j,L,v⟩:=hz
 obtain⟨b,d⟩:=j _ L
 simp only at b d
 dsimp only[z3D]
 row_cond go
 refine adz (ad0 t) (ajf es) (aD0 (afm t) (by decide)) ?_
 rw[aF5 rfl,aqc,aD8 b]
 row_cond go
 refine⟨n,es,t,rfl,c,b,λx hx=>?_⟩
 obtain rfl:=akf hx d
 row_cond go
 refine aii (λi e=>∃ I J F,e=[some (.io OSt),some (.st (webD n es)),some (.st (.int x)),some (.st (prD t)),I,J,F]) ⟨_,_,_,rfl⟩ ?_ ?_
 ·rintro i e hi a
  refine exE3 e a λI J F=>?_
  clear a
  have X:=M.len
  row_cond go
  refine⟨_,rfl,rfl,by rw[aA3];lia,by rw[aA3];lia,λr r0 Y=>?_⟩
  rw[aA3] at Y
  obtain⟨q,N⟩:∃ q,es[r.toNat]?=some q:=⟨_,aA0 (by lia)⟩
  have l:=aA2 N
  have Z:atI (es.map prD) r=some (prD q):=acd (f:=prD) (acl r0 N)
  row_cond go
  refine⟨n,es,q,rfl,c,l,λy U=>?_⟩
  obtain⟨y',o⟩:=p q l
  obtain rfl:=akf U (j _ o).2
  have u:=v _ o
  have R:¬ y<x:=λh=>u (.inl h)
  row_cond go
  refine acp ?_
  row_cond go
  refine ado (λg=>?_) (λg=>?_)
  ·row_cond go
   refine aqb ?_
   have C:HT.lexLt (p2 q) (p2 t)=false:=by
    cases e:HT.lexLt (p2 q) (p2 t) with
    |false=>rfl
    |true=>exact absurd (.inr ⟨g,(lex2 q t).mp e⟩) u
   rw[C]
   row_cond go
   exact⟨_,_,_,rfl⟩
  ·row_cond go
   exact⟨_,_,_,rfl⟩
 ·rintro e a
  refine exE3 e a λI J F=>?_
  clear a
  row_cond go
  exact O
theorem sc_law_joined_right:FnScope ["store","web","tie","one","other","first","second","left","wides","due","a","b","whole"] ["store","web"] (aaj s_law_joined_right):=by row_cond sc
theorem ago(T:Txt K mg):Can P w K mg base "_law_joined_right" 12 ["store","web"] (spI K (aoq)):=by
 obtain⟨f,fd,D⟩:=T.d_law_joined_right
 refine D.can (D.fn.ok sc_law_joined_right (λvs H Q E h=>lenI h λA ss Q' q=>by obtain⟨n,es,rfl,rfl,S,a9,kk⟩:=q;rfl) (λcdv A outer s H vs Q E hr h=>?_))
 have nd:=sc_law_joined_right.nd
 refine⟨_,(aac (aao (i:=2) nd rfl (Or.inr rfl) (aak aal (aak aal (pv 1) aae (λ_ _=>rfl)) (aad (aaz T) hr (aaa (pv 0) (aaa (aai aa6 (by rfl) T.b_len abv (aaa (aak aal (pv 1) aae (λ_ _=>rfl)) aab)) aab))) (λ_ _=>rfl)))
  (aac (ab0 (aad (ags T) hr (aaa (pv 1) (aaa (pv 2) aab))) (as4 rfl (aan (aag (i:=3) nd rfl (Or.inl rfl)) (aan (aag (i:=4) nd rfl (Or.inl rfl)) (aan (aag (i:=5) nd rfl (Or.inl rfl)) (aan (aag (i:=6) nd rfl (Or.inl rfl)) aba))))))
  (aac (aao (i:=7) nd rfl (Or.inl rfl) (abp (aaa (aak aal (pv 1) aae (λ_ _=>rfl)) (aaa (adr rfl (N:=["some","tie"]) (src:=[none,some 2]) (by exact aa9 rfl rfl rfl rfl rfl rfl) (abl (aak aal (pv 1) aae (λ_ _=>rfl))) (λ_ _ _ _=>(aag (i:=0) (show List.Nodup (["some","tie"]:List Str) by decide +kernel) rfl (Or.inl rfl) (hf:=Or.inr rfl))) (λ_ _ _ _=>acy (aav (amw hr.units) (pv 0) (pv 1) (aay _))) (λ_ _ _ _=>(pv 0))) aab))))
  (aac (aao (i:=8) nd rfl (Or.inl rfl) (abq (aaa (aad (afu T) hr (aaa (pv 5) aab)) (aaa (aad (afu T) hr (aaa (pv 6) aab)) aab))))
  (aac (aao (i:=9) nd rfl (Or.inl rfl) (aai (acs rfl) (by rfl) T.b_max abw (aaa (aak aal (aad (aa5 T) hr (aaa (pv 5) aab)) aae (λ_ _=>rfl)) (aaa (aak aal (aad (aa5 T) hr (aaa (pv 6) aab)) aae (λ_ _=>rfl)) aab))))
  (aac (aao (i:=9) nd rfl (Or.inl rfl) (aai (acs rfl) (by rfl) T.b_max abw (aaa (pv 9) (aaa (aax abu (aax abu (aak aal (aak aal (pv 8) aae (λ_ _=>rfl)) aae (λ_ _=>rfl)) (aak aal (aak aal (pv 8) aae (λ_ _=>rfl)) aae (λ_ _=>rfl))) aae) aab))))
  (aac (aao (i:=10) nd rfl (Or.inl rfl) (aak aal (pv 3) (aak aal (aak aal (aak aal (pv 8) aae (λ_ _=>rfl)) aae (λ_ _=>rfl)) (aad (aaz T) hr (aaa (pv 0) (aaa (aai aa6 (by rfl) T.b_len abv (aaa (aak aal (aak aal (pv 8) aae (λ_ _=>rfl)) aae (λ_ _=>rfl)) aab)) aab))) (λ_ _=>rfl)) (λ_ _=>rfl)))
  (aac (aao (i:=11) nd rfl (Or.inl rfl) (aak aal (pv 4) (aak aal (aak aal (aak aal (pv 8) aae (λ_ _=>rfl)) aae (λ_ _=>rfl)) (aad (aaz T) hr (aaa (pv 0) (aaa (aai aa6 (by rfl) T.b_len abv (aaa (aak aal (aak aal (pv 8) aae (λ_ _=>rfl)) aae (λ_ _=>rfl)) aab)) aab))) (λ_ _=>rfl)) (λ_ _=>rfl)))
  (aac (abn (aav ais (aak aal (aad (aa5 T) hr (aaa (aad (adt T) hr (aaa (pv 7) (aaa (abq (aaa (abp (aaa (aai (act rfl) (by rfl) T.b_min ad3 (aaa (pv 10) (aaa (pv 11) aab))) (aaa (aai (acs rfl) (by rfl) T.b_max abw (aaa (pv 10) (aaa (pv 11) aab))) aab))) aab)) aab))) aab)) aae (λ_ _=>rfl)) (pv 9) (aay _))
   (aaf (aas adq))
   aa7)
  (aac (aao (i:=10) nd rfl (Or.inl rfl) (aak aal (pv 3) (aad (aaz T) hr (aaa (pv 0) (aaa (aai aa6 (by rfl) T.b_len abv (aaa (pv 3) aab)) aab))) (λ_ _=>rfl)))
  (aac (aao (i:=11) nd rfl (Or.inl rfl) (aak aal (pv 4) (aad (aaz T) hr (aaa (pv 0) (aaa (aai aa6 (by rfl) T.b_len abv (aaa (pv 4) aab)) aab))) (λ_ _=>rfl)))
  (aac (aao (i:=12) nd rfl (Or.inl rfl) (aad (adt T) hr (aaa (pv 7) (aaa (abq (aaa (abp (aaa (aai (act rfl) (by rfl) T.b_min ad3 (aaa (pv 10) (aaa (pv 11) aab))) (aaa (aai (acs rfl) (by rfl) T.b_max abw (aaa (pv 10) (aaa (pv 11) aab))) aab))) aab)) aab))))
  (aaf (aas (acm aw5 (aak aal (aad (aa5 T) hr (aaa (pv 12) aab)) aae (λ_ _=>rfl)) (pv 9) (aay _)))))))))))))))),?_⟩
 refine ahs h λA0 ss Q' q B hK=>?_
 obtain⟨n,es,rfl,rfl,S,a9,kk⟩:=q
 show EvS B _ _ [some (.io OSt),some (.st (webD n es)),none,none,none,none,none,none,none,none,none,none,none]
 have M:=S.m
 have n6:=S.web.hi
 have b3:=S.web.len
 have b6:=M.len
 row_cond go
 refine⟨_,rfl,rfl,by rw[aA3];lia,by rw[aA3];lia,λr r0 r1=>?_⟩
 rw[aA3] at r1
 obtain⟨t,ht⟩:∃ q,es[r.toNat]?=some q:=⟨_,aA0 (by lia)⟩
 have a2:=aA2 ht
 have b8:atI (es.map prD) r=some (prD t):=acd (f:=prD) (acl r0 ht)
 have C:=S.cut a2
 row_cond go
 refine⟨n,es,t,rfl,S,a2,λps qs gs hs a b=>?_⟩
 have M1:=a.tree.m
 have M2:=b.tree.m
 have l1:=a.tree.web.hi
 have l2:=b.tree.web.hi
 have e1:=a.tree.web.len
 have e2:=b.tree.web.len
 have c1:=aoo es t
 row_cond go
 refine aik (λd=>d) (λd=>!PyData.eqv d (prD t)) rfl (by rw[aA3];lia) (λd hd B' hB=>?_) ?_
 ·obtain⟨p,hp,rfl⟩:=aB7.mp hd
  row_cond go
  refine ahw (ad0 _) (ad0 _) (aD0 (afm _) (by decide)) ?_
  row_cond go
  intro _
  row_cond go
  exact rfl
 rw[aon,List.map_id']
 row_cond go
 refine⟨_,gs,rfl,M1.lo,by lia,M1.inn,by lia,M1.join,λw1 ms v=>aje ?_⟩
 row_cond go
 refine⟨_,hs,rfl,M2.lo,by lia,M2.inn,by lia,M2.join,λw2 ns I=>aje ?_⟩
 row_cond go
 refine⟨_,gs,rfl,M1.lo,by lia,M1.inn,by lia,M1.join,λx ax bx o=>?_⟩
 row_cond go
 refine⟨_,hs,rfl,M2.lo,by lia,M2.inn,by lia,M2.join,λy ay c6 L=>?_⟩
 row_cond go
 have c0:=aF9.mpr v.ne
 have c8:=aF9.mpr I.ne
 have b0:ms.length<=60:=by
  have:=aE8 (l₁:=ms) (l₂:=(List.range 60).map λ(i:Nat)=>(i:Int)) (v.rise.imp λh e=>by lia) λu hu=>by
   have:=(v.mem u).mp hu
   exact aB7.mpr ⟨u.toNat,aB9.mpr (by lia),by lia⟩
  simpa using this
 have b1:ns.length<=60:=by
  have:=aE8 (l₁:=ns) (l₂:=(List.range 60).map λ(i:Nat)=>(i:Int)) (I.rise.imp λh e=>by lia) λu hu=>by
   have:=(I.mem u).mp hu
   exact aB7.mpr ⟨u.toNat,aB9.mpr (by lia),by lia⟩
  simpa using this
 refine⟨_,rfl,rfl,by rw[aA3];lia,by rw[aA3];lia,λr1 s0 s1=>?_⟩
 rw[aA3] at s1
 obtain⟨i,hi⟩:∃ q,ms[r1.toNat]?=some q:=⟨_,aA0 (by lia)⟩
 have a3:=aA2 hi
 have R:=(v.mem i).mp a3
 obtain⟨c,Z,ec⟩:=a.up R.1 R.2.1
 have c9:atI (ms.map PyData.int) r1=some (.int i):=acd (f:=PyData.int) (acl s0 hi)
 have c4:atI (ps.map PyData.int) i=some (.int c):=acd (f:=PyData.int) (acl R.1 (by rw[← ec];exact(ace Z).1))
 row_cond go
 refine⟨_,rfl,rfl,by rw[aA3];lia,by rw[aA3];lia,λr2 u0 u1=>?_⟩
 rw[aA3] at u1
 obtain⟨j,hj⟩:∃ q,ns[r2.toNat]?=some q:=⟨_,aA0 (by lia)⟩
 have X:=aA2 hj
 have F:=(I.mem j).mp X
 obtain⟨d,hd,ed⟩:=b.up F.1 F.2.1
 have b9:atI (ns.map PyData.int) r2=some (.int j):=acd (f:=PyData.int) (acl u0 hj)
 have c3:atI (qs.map PyData.int) j=some (.int d):=acd (f:=PyData.int) (acl F.1 (by rw[← ed];exact(ace hd).1))
 obtain⟨a6,a4⟩:=C.put a.pl b.pl Z hd
 row_cond go
 refine⟨n,aat es t,[pm c d],rfl,by lia,by simp,a4,λrs hr hq=>aje ?_⟩
 have G:=C.glue a.pl b.pl Z hd a6 hq
 have b4:rs.length<=3601:=by rw[hq.length_eq,aB1,List.length_singleton];lia
 row_cond go
 refine⟨n,rs,rfl,M.lo,by lia,G.tree.inn,by lia,G.tree.join,λz az bz hz=>?_⟩
 obtain⟨g1,g2,g3⟩:=G.ge a b Z hd o.top L.top v I hz.top
 have g4:=Glue.le C G a b Z hd o.top L.top v I (ec ▸ a3) (ed ▸ X) hz.top
 have g:z=if w1+w2+1 > if y > x then y else x then w1+w2+1 else if y > x then y else x:=by
  split <;> split <;> lia
 (generalize (if w1+w2+1 > if y > x then y else x then w1+w2+1 else if y > x then y else x)=due at g)
 subst g
 row_cond go
 refine⟨_,rfl,rfl,by rw[aA3];lia,by rw[aA3];lia,λr3 v0 v1=>?_⟩
 rw[aA3] at v1
 obtain⟨c',a5⟩:∃ q,ps[r3.toNat]?=some q:=⟨_,aA0 (by lia)⟩
 have l:=aA2 a5
 have c7:atI (ps.map PyData.int) r3=some (.int c'):=acd (f:=PyData.int) (acl v0 a5)
 row_cond go
 refine⟨_,rfl,rfl,by rw[aA3];lia,by rw[aA3];lia,λr4 x0 x1=>?_⟩
 rw[aA3] at x1
 obtain⟨d',a1⟩:∃ q,qs[r4.toNat]?=some q:=⟨_,aA0 (by lia)⟩
 have O:=aA2 a1
 have b7:atI (qs.map PyData.int) r4=some (.int d'):=acd (f:=PyData.int) (acl x0 a1)
 obtain⟨W,J⟩:=C.put a.pl b.pl l O
 row_cond go
 refine⟨n,aat es t,[pm c' d'],rfl,by lia,by simp,J,λY c5 U=>abc ag3 ?_⟩
 have G':=C.glue a.pl b.pl l O W U
 have b2:Y.length<=3601:=by rw[U.length_eq,aB1,List.length_singleton];lia
 row_cond go
 refine⟨n,Y,rfl,M.lo,by lia,G'.tree.inn,by lia,G'.tree.join,λz' c2 b5 a7=>?_⟩
 obtain⟨k1,k2,k3⟩:=G'.ge a b l O o.top L.top v I a7.top
 have a8:z<=z':=by lia
 row_cond go
 rw[aD8 (show z' ≥ z from a8)]
 exact kk
end
def ar6(K:Frag):Sp:=λvs H Q _=>∃(a:Addr)(ns:List Int),vs=[.ref a]/\SqL K H a (ns.map V.int)/\ns.length<=63/\∀ H',Q (.bl true) H'
def axt:VP:=λss Q=>∃ ns:List Int,ss=[.scr ns]/\ns.length<=63/\Q (.st (.bool true))
theorem aww(h:ar6 K vs H Q E):spP K axt vs H Q E:=by
 obtain⟨a,ns,rfl,c,b,k⟩:=h
 refine⟨H,[.scr ns],λs=>s=.st (.bool true),Same.refl _,λa ks h=>h,.cons ⟨a,rfl,c⟩ .nil,⟨ns,rfl,b,rfl⟩,λs e v G' H' Fv o=>?_⟩
 subst e
 have r:=o.ok.1
 cases r
 exact k _
theorem vals_mem:x∈abj n r ↔ ∃ v:Int,0<=v/\v<n/\r v=x:=by
 unfold abj
 simp only[aB7,aB9]
 constructor
 ·rintro⟨i,hi,rfl⟩;exact⟨i,by lia,by lia,rfl⟩
 ·rintro⟨v,v0,a,rfl⟩;exact⟨v.toNat,by lia,by rw[show((v.toNat:Nat):Int)=v by lia]⟩
theorem ends_mem:u∈ad8 n es x ↔ 0<=u/\u<n/\mxF n (dsF es u)=x:=by
 unfold ad8
 simp only[aB7,aE2,aB9,decide_eq_true_eq]
 constructor
 ·rintro⟨i,⟨hi,e⟩,rfl⟩;exact⟨by lia,by lia,e⟩
 ·rintro⟨b,a,e⟩;exact⟨u.toNat,⟨by lia,by rw[show((u.toNat:Nat):Int)=u by lia];exact e⟩,by lia⟩
theorem awx(h:FarOk n es x a b)(g:FarOk n es x c d):a=c/\b=d:=by
 have f:=h.fst c d g.a0 g.a1 g.b0 g.b1 g.eq
 have i:=g.fst a b h.a0 h.a1 h.b0 h.b1 h.eq
 lia
theorem a0h(c:Joined n es)(d:0<=u)(a:u<n)(v0:0<=v)(b:v<n)(h:dsF es u v<=0):u=v:=by
 obtain⟨f,hd⟩:=aci c d a v0 b
 rw[show(dsF es u v).toNat=0 by lia] at hd
 cases hd.1
 rfl
section
theorem FarW.of(M:TreeM n es)(c:FarOk n es x a b)(hd:Gr.Dist (Tied es) b a d)(h:WayTo (Tied es) a b d ws):FarW n es a b d ws/\x=(d:Int):=by
 have e:dsF es a b=(d:Int):=by rw[abd];exact acw hd
 have f:x=(d:Int):=by rw[← c.eq];exact e
 exact⟨{ M with way:=h,a0:=c.a0,a1:=c.a1,b0:=c.b0,b1:=c.b1,far:=e,top:=λu v g i v0 j=>by have:=c.top.2 u v g (by lia) v0 (by lia);lia },f⟩
theorem FarW.last(W:FarW n es a b d ws):ws[d]?=some b:=by
 obtain⟨x,c,f,g,i,h⟩:=W.get (aA6 d)
 rw[c,a0h W.join f g W.b0 W.b1 (by lia)]
theorem FarW.ends_ab(W:FarW n es a b d ws)(i:0<=u)(f:u<n)(h:dsF es u a=(d:Int)\/dsF es u b=(d:Int)):mxF n.toNat (dsF es u)=(d:Int):=by
 have hn:1<=n.toNat:=by have:=W.lo;lia
 obtain⟨g,c⟩:=aep hn (dsF es u)
 obtain⟨v,v0,j,l⟩:=vals_mem.mp g
 have:=W.top u v i f v0 (by lia)
 have ha:=c (dsF es u a) (vals_mem.mpr ⟨a,W.a0,by have:=W.a1;lia,rfl⟩)
 have hb:=c (dsF es u b) (vals_mem.mpr ⟨b,W.b0,by have:=W.b1;lia,rfl⟩)
 lia
end
theorem auo(h:FarOk n es x a b)(g:FarOk n es c d f):c=x:=by
 have l:=h.top.2 d f g.a0 (by have:=g.a1;lia) g.b0 (by have:=g.b1;lia)
 have o:=g.eq
 have j:=g.top.2 a b h.a0 (by have:=h.a1;lia) h.b0 (by have:=h.b1;lia)
 have i:=h.eq
 lia
def a0i:VP:=λss Q=>∃(n:Int)(es:List (Int × Int)),ss=[.st (webD n es)]/\TreeW n es/\Q (.st (.bool true))
def a29:VP:=λss Q=>∃(n k:Int)(es:List (Int × Int)),ss=[.st (webD n es),.st (.int k)]/\TreeW n es/\0<=k/\k<=20/\Q (.st (.bool true))
section
theorem sc_law_ends_right:FnScope ["web","far","way","ends"] ["web"] (aaj s_law_ends_right):=by row_cond sc
theorem ahe(T:Txt K mg):Can P w K mg base "_law_ends_right" 11 ["web"] (spP K (a0i)):=by
 obtain⟨f,fd,D⟩:=T.d_law_ends_right
 refine D.can (D.fn.ok sc_law_ends_right (λvs H Q E h=>lenP h λss Y q=>by obtain⟨n,es,rfl,j,S⟩:=q;rfl) (λcdv A outer s H vs Q E hr h=>?_))
 have nd:=sc_law_ends_right.nd
 refine⟨_,(aac (aao (i:=1) nd rfl (Or.inr rfl) (aak aal (aad (aa5 T) hr (aaa (pv 0) aab)) aae (λ_ _=>rfl)))
  (aac (aao (i:=2) nd rfl (Or.inl rfl) (aad (apa T) hr (aaa (pv 0) aab)))
  (aac (aao (i:=3) nd rfl (Or.inl rfl) (aad (aoi T) hr (aaa (pv 0) aab)))
  (aac (abn (PW.pt (aes (aav ais (aai aa6 (by rfl) T.b_len abv (aaa (pv 2) aab)) (aax abu (pv 1) aae) (aay _)) (aes (aav (adx hr.units) (aak aal (pv 2) aae (λ_ _=>rfl)) (pv 3) rfl) (ae0 (aav (adx hr.units) (aak aal (pv 2) (aqx ame aae) (λ_ _=>rfl)) (pv 3) rfl)))))
   (aaf (aas adq))
   aa7)
  (aaf (aas (acm (a1f hr.units) (pv 3) (adr rfl (N:=["place","far","web"]) (src:=[none,some 1,some 0]) (by exact aa9 rfl rfl rfl rfl rfl rfl) (acr rfl T.b_range (aaa (aak aal (pv 0) aae (λ_ _=>rfl)) aab)) (λ_ _ _ _=>(aag (i:=0) (show List.Nodup (["place","far","web"]:List Str) by decide +kernel) rfl (Or.inl rfl) (hf:=Or.inr rfl))) (λ_ _ _ _=>acy (aav afb (aai (show abi _ (.builtin "max") (afh K) from(ab4 rfl)) (by rfl) T.b_max abw (aaa (aad (ah8 T) hr (aaa (pv 2) (aaa (pv 0) aab))) aab)) (pv 1) (aay _))) (λ_ _ _ _=>(pv 0))) (aay _)))))))),?_⟩
 refine aa3 h λss Y q B hK=>?_
 refine exS2 ss q λn es g=>?_
 have j:=g.1
 have S:=g.2
 clear g q
 show EvS B _ _ [some (.st (webD n es)),none,none,none]
 have M:=j.m
 have hn:=M.lo
 have r:1<=n.toNat:=by lia
 have a5:=j.web.hi
 have c:=M.inn
 have t:=M.join
 have U:=j.web.len
 row_cond go
 refine⟨n,es,rfl,hn,by lia,c,by lia,t,λx a b l=>?_⟩
 row_cond go
 refine⟨n,es,rfl,hn,by lia,c,by lia,⟨j.len,t⟩,λO a2 b2 d ws o hd I=>abc abf ?_⟩
 obtain rfl:=auo o l
 obtain⟨rfl,rfl⟩:=awx l o
 obtain⟨W,rfl⟩:=FarW.of M l hd I
 have z:=I.len
 have J:(ws.map PyData.int).length=d+1:=by rw[aA3,z]
 have a6:atI (ws.map PyData.int) 0=some (.int a):=acl (by lia) (by rw[aA5,show(0:Int).toNat=0 from rfl,I.fst];rfl)
 have a3:atI (ws.map PyData.int) (-1)=some (.int b):=by
  unfold atI ixN
  rw[aF6 (by lia),aF5 (by lia)]
  show(ws.map PyData.int)[(-1+((ws.map PyData.int).length:Int)).toNat]?=_
  rw[J,show(-1+((d+1:Nat):Int)).toNat=d by lia,aA5,W.last]
  rfl
 have ha:a∈ad8 n.toNat es (d:Int):=ends_mem.mpr ⟨W.a0,by have:=W.a1;lia,W.ends_ab W.a0 W.a1 (.inr W.far)⟩
 have hb:b∈ad8 n.toNat es (d:Int):=ends_mem.mpr ⟨W.b0,by have:=W.b1;lia,W.ends_ab W.b0 W.b1 (.inl (by rw[abd];exact W.far))⟩
 row_cond go
 refine⟨n,es,rfl,hn,by lia,c,by lia,⟨j.len,t⟩,λO p=>abc abf ?_⟩
 obtain rfl:O=(d:Int):=by
  obtain⟨u,v,u0,u1,v0,Z,e⟩:=p.1
  obtain⟨u',v',F,G,L,C,e'⟩:=l.top.1
  have:=l.top.2 u v u0 u1 v0 Z
  have:=p.2 u' v' F G L C
  lia
 have R:=awq n.toNat es (d:Int)
 row_cond go
 refine adz rfl (af4 _) (by simp[PyData.depth]) ?_
 rw[aF5 rfl,afa,aD8 ha]
 row_cond go
 refine adz rfl (af4 _) (by simp[PyData.depth]) ?_
 rw[aF5 rfl,afa,aD8 hb]
 row_cond go
 unfold rngD
 refine afn (xs:=List.range n.toNat) (f:=λi:Nat=>PyData.int (0+(i:Int))) (λi:Nat=>PyData.int (i:Int)) (λi=>decide (mxF n.toNat (dsF es (i:Int))=(d:Int))) rfl (by simp;lia) (λi hi B' hB=>?_) ?_
 ·have a4:=aB9.mp hi
  row_cond go
  refine⟨n,0+(i:Int),es,rfl,by lia,c,by lia,by lia,by lia,?_⟩
  rw[aqr t (by lia) (by lia),agk]
  row_cond go
  refine ach (aez r _) λy X=>?_
  obtain rfl:=adg X (aep r _)
  rw[Int.zero_add]
  row_cond go
  intro _
  row_cond go
  exact rfl
 ·rw[show((List.range n.toNat).filter λ(i:Nat)=>decide (mxF n.toNat (dsF es (i:Int))=(d:Int))).map (λi:Nat=>PyData.int (i:Int))=(ad8 n.toNat es (d:Int)).map .int by unfold ad8;rw[aE0];rfl]
  row_cond go
  refine ayv (amb _) (amb _) (aqt _) ?_
  rw[av4 (amb _)]
  row_cond go
  exact S
theorem sc_law_hub_right:FnScope ["web","k","wide","hubs","ties","far","more","least"] ["web","k"] (aaj s_law_hub_right):=by row_cond sc
theorem ah5(T:Txt K mg):Can P w K mg base "_law_hub_right" 12 ["web","k"] (spP K (a29)):=by
 obtain⟨f,fd,D⟩:=T.d_law_hub_right
 refine D.can (D.fn.ok sc_law_hub_right (λvs H Q E h=>lenP h λss Q' q=>by obtain⟨n,k,es,rfl,o,L,k1,U⟩:=q;rfl) (λcdv A outer s H vs Q E hr h=>?_))
 have nd:=sc_law_hub_right.nd
 refine⟨_,(aac (ab0 (aad (ahb T) hr (aaa (pv 0) (aaa (pv 1) aab))) (abo rfl (aan (aag (i:=2) nd rfl (Or.inl rfl)) (aan (aag (i:=3) nd rfl (Or.inl rfl)) aba))))
  (aac (ab0 (aad (aol T) hr (aaa (pv 0) (aaa (pv 1) aab))) (abo rfl (aan (aag (i:=4) nd rfl (Or.inl rfl)) (aan (aag (i:=5) nd rfl (Or.inl rfl)) aba))))
  (aac (aao (i:=6) nd rfl (Or.inl rfl) (aad (adt T) hr (aaa (pv 0) (aaa (pv 4) aab))))
  (aac (aao (i:=7) nd rfl (Or.inl rfl) (aak aal (aad (afu T) hr (aaa (pv 6) aab)) aae (λ_ _=>rfl)))
  (aaf (aas (aeh (acm ait (pv 7) (aax abu (pv 2) aae) (aay _)) (aeh (acm ait (pv 5) (aax ad2 aae (pv 7)) (aay _)) (afv (acm afb (aak aal (aad (aa5 T) hr (aaa (pv 6) aab)) aae (λ_ _=>rfl)) (pv 5) (aay _))))))))))),?_⟩
 refine aa3 h λss Q' q B hK=>?_
 refine exS3 ss q λn k es d=>?_
 have o:=d.1
 have L:=d.2.1
 have k1:=d.2.2.1
 have U:=d.2.2.2
 clear d q
 show EvS B _ _ [some (.st (webD n es)),some (.st (.int k)),none,none,none,none,none,none]
 have hn:=o.web.lo
 have a5:=o.web.hi
 have y:=o.inn
 have I:Joined n es:=o.conn.joined (by lia)
 have Y:=o.web.len
 have a4:1<=n.toNat:=by lia
 obtain⟨hs,r,X⟩:∃ hs r,hubN n.toNat (dsF es) k.toNat=(hs,r):=⟨_,_,rfl⟩
 row_cond go
 refine⟨n,es,k,rfl,hn,by lia,y,by lia,I,L,k1,?_⟩
 rw[akh X]
 refine abc ag3 ?_
 row_cond go
 refine⟨n,es,k,rfl,hn,by lia,y,by lia,o.web.rise.nodup,I,L,k1,λts qs x a b hT t hR g l=>?_⟩
 obtain⟨_,a2⟩:=aok hn o.web.rise.nodup hT
 have S:qs.length<=4000:=by rw[g.length_eq,aB1];lia
 have j:InN n qs:=λp M=>by
  rcases aA7.mp (g.mem_iff.mp M) with z|z
  ·exact y p z
  ·have:=t.inn p z
   exact⟨by lia,by lia,by lia,by lia⟩
 have C:Joined n qs:=ahc I (by lia) g
 row_cond go
 refine⟨n,es,ts,rfl,by lia,by lia,t,λG J R=>abc ag3 ?_⟩
 obtain rfl:G=qs:=J.eq hR λp=>by rw[R.mem_iff,g.mem_iff]
 row_cond go
 refine⟨n,G,rfl,hn,by lia,j,by lia,C,λZ ms N=>aje ?_⟩
 have h1:Z<=mxF n.toNat r+1:=by
  obtain⟨v,v0,v1,h⟩:=N.lo 0 (by lia) (by lia)
  have:=auk hn j X I hT g v0 v1
  lia
 have h2:x<=2 * Z:=by
  obtain⟨u,F⟩:=List.exists_mem_of_ne_nil _ N.ne
  obtain⟨u0,u1,F⟩:=(N.mem u).mp F
  have q1:=F a l.a0 l.a1
  have q2:=F b l.b0 l.b1
  have qq:=acj C (u:=a) (c:=u) (x:=b) l.a0 l.a1 u0 u1 l.b0 l.b1
  rw[abd G a u] at qq
  have:=l.eq
  lia
 row_cond go
 refine⟨n,G,rfl,hn,by lia,j,by lia,C,λW a3 b3 O=>?_⟩
 obtain rfl:=auo l O
 row_cond go
 rw[aD8 (rfl:W=W)]
 exact U
theorem sc_law:FnScope ["script","at","store","web"] ["script"] (aaj s_law):=by row_cond sc
theorem a0j(T:Txt K mg)(D:DefAt K mg "law" s_law ["script"] f fd):FnOk P w K mg base CX0 13 f fd ["script"] (spP K (axt)):=by
 refine D.fn.ok sc_law (λvs H Q E h=>lenP h λss F q=>by obtain⟨ns,rfl,l,y⟩:=q;rfl) (λcdv A outer s H vs Q E hr h=>?_)
 have nd:=sc_law.nd
 refine⟨_,(aac (aei aJ9 rfl (acr rfl T.b_range (aaa (aai (act rfl) (by rfl) T.b_min ad3 (aaa (aai (acs rfl) (by rfl) T.b_max abw (aaa (aai aa6 (by rfl) T.b_len abv (aaa (pv 0) aab)) (aaa aae aab))) (aaa aae aab))) aab)) (aag (i:=1) nd rfl (Or.inl rfl))
   (aac (aao (i:=2) nd rfl (Or.inl rfl) (aad (alv T) hr (aaa (aad (an8 T) hr (aaa (pv 0) (aaa (pv 1) aab))) aab)))
    (aac (aao (i:=3) nd rfl (Or.inl rfl) (aad (an9 T) hr (aaa (pv 2) aab)))
    (aac (abn (PW.pt (aes (ada (ac9 (aad (ahe T) hr (aaa (pv 3) aab)))) (ae0 (ada (ac9 (aad (ah5 T) hr (aaa (pv 3) (aaa (aad (aaz T) hr (aaa (pv 2) (aaa aae aab))) aab))))))))
     (aaf (aas adq))
     aa7)
    (aaf (abn (aav al0 (aak aal (pv 3) aae (λ_ _=>rfl)) aae (aay _))
     (aaf (abn (PW.pt (aes (ada (ac9 (aad (agn T) hr (aaa (pv 2) (aaa (pv 3) aab))))) (ae0 (ada (ac9 (aad (ago T) hr (aaa (pv 2) (aaa (pv 3) aab))))))))
       (aaf (aas adq))
       aa7))
     aa7))))))
  (aaf (aas (acm ahn (aad (afo T) hr (aaa (abp (aaa aae (aaa (abq aab) aab))) aab)) ad1 (aay _))))),?_⟩
 refine aa3 h λss F q B M=>?_
 refine exS1 ss q λns b=>?_
 have l:=b.1
 have y:=b.2
 clear b q
 show EvS B _ _ [some (.scr ns),none,none,none]
 row_cond go
 refine aii (λi e=>∃ j r o,e=[some (.scr ns),j,r,o]) ⟨_,_,_,rfl⟩ ?_ ?_
 ·rintro i e hi a
  refine exE3 e a λj r o=>?_
  clear a
  have C:(i:Int)<20:=by
   revert hi
   split <;> split <;> lia
  row_cond go
  refine⟨ns,0+(i:Int),rfl,by lia,by lia,λc=>?_⟩
  row_cond go
  refine⟨c,rfl,λg t u=>?_⟩
  repeat (first|(refine awl 2 rfl ?_)|row_cond st)
  refine⟨rfl,rfl,λn es d=>?_⟩
  have hn:=d.m.lo
  row_cond go
  refine⟨n,es,rfl,d,?_⟩
  row_cond go
  refine⟨9,rfl,rfl,by lia,by lia,λk G k1=>?_⟩
  row_cond go
  refine⟨n,k,es,rfl,d,G,by lia,?_⟩
  row_cond go
  refine ado (λx=>?_) (λx=>?_)
  ·row_cond go
   refine⟨n,es,rfl,rfl,d,by lia,?_⟩
   row_cond go
   refine⟨n,es,rfl,rfl,d,by lia,?_⟩
   row_cond go
   exact⟨_,_,_,rfl⟩
  ·row_cond go
   exact⟨_,_,_,rfl⟩
 ·rintro e a
  refine exE3 e a λj r o=>?_
  clear a
  row_cond go
  refine⟨1,[],rfl,by lia,by lia,(λp I=>absurd I aI3),by simp,⟨rfl,λv v0 j=>⟨0,by rw[show v=0 by lia];exact Gr.Dist.self _ _⟩⟩,λD L=>?_⟩
  obtain rfl:D=.none:=by
   rcases L with ⟨_,h⟩|⟨z,⟨xs,_,x,J,_⟩,_⟩
   ·exact h
   ·exact absurd (x z J).1 (by simp)
  row_cond go
  exact y
theorem a3a(T:Txt K mg)(D:DefAt K mg "law" s_law ["script"] f fd):FnOk P w K mg base CX0 13 f fd ["script"] (ar6 K):=(a0j T D).imp λ_ _ _ _ h=>aww h
end
theorem len0{α:Type}{us:List α}(h:us.length=0):us=[]:=aH2 h
theorem len1{α:Type}{us:List α}(h:us.length=1):∃ a0,us=[a0]:=by
 cases us with
 |nil=>cases h
 |cons a us=>exact⟨a,by rw[len0 (Nat.succ.inj h)]⟩
theorem len2{α:Type}{us:List α}(h:us.length=2):∃ a0 a1,us=[a0,a1]:=by
 cases us with
 |nil=>cases h
 |cons a us=>obtain⟨a1,e⟩:=len1 (Nat.succ.inj h);exact⟨a,a1,by rw[e]⟩
theorem len3{α:Type}{us:List α}(h:us.length=3):∃ a0 a1 b,us=[a0,a1,b]:=by
 cases us with
 |nil=>cases h
 |cons a us=>obtain⟨a1,b,e⟩:=len2 (Nat.succ.inj h);exact⟨a,a1,b,by rw[e]⟩
def Bnd(x:Str)(st:Stmt)(ps:List Str):Prop:=∀(kV doc pm:Value)(an:Option Addr)(cdv ct:Value)(us:List Value),us.length=ps.length->bindArgs (fnOf x x (acx st) (acn st) (aaj st) .none kV doc pm an cdv ct) ⟨us,[]⟩=pure (ps.zip us)
def FnIn(K:Frag)(x:Str)(st:Stmt):Prop:=∃ f oc od kV dc pm an cd ct sl,nsIn K mainGlobals x=some (some (.ref f))/\K.lookup f=some ⟨oc,od,.func (fnOf x x (acx st) (acn st) (aaj st) .none kV dc pm an cd ct),sl⟩/\codeIn K cd x=true/\keepIn K (.ref f)=true
theorem fn_in{K:Frag}{x:Str}{st:Stmt}{f:Addr}{od an:Option Addr}{sl:Array (Option Value)}{oc kV d pm b ct:Value}(a:nsIn K mainGlobals x=some (some (.ref f)))(l:K.lookup f=some ⟨oc,od,.func (fnOf x x (acx st) (acn st) (aaj st) .none kV d pm an b ct),sl⟩)(c:codeIn K b x=true)(k:keepIn K (.ref f)=true):FnIn K x st:=⟨f,oc,od,kV,d,pm,an,b,ct,sl,a,l,c,k⟩
theorem bnd1(c:ps.length=1)(h:∀(kV doc pm:Value)(an:Option Addr)(cdv ct:Value)(b:Value),bindArgs (fnOf x x (acx st) (acn st) (aaj st) .none kV doc pm an cdv ct) ⟨[b],[]⟩=pure (ps.zip [b])):Bnd x st ps:=by
 intro kV doc pm an cdv ct us a
 rw[c] at a
 obtain⟨_,rfl⟩:=len1 a
 exact h _ _ _ _ _ _ _
theorem bnd2(d:ps.length=2)(h:∀(kV doc pm:Value)(an:Option Addr)(cdv ct:Value)(b a:Value),bindArgs (fnOf x x (acx st) (acn st) (aaj st) .none kV doc pm an cdv ct) ⟨[b,a],[]⟩=pure (ps.zip [b,a])):Bnd x st ps:=by
 intro kV doc pm an cdv ct us c
 rw[d] at c
 obtain⟨_,_,rfl⟩:=len2 c
 exact h _ _ _ _ _ _ _ _
theorem bnd3(f:ps.length=3)(h:∀(kV doc pm:Value)(an:Option Addr)(cdv ct:Value)(c a b:Value),bindArgs (fnOf x x (acx st) (acn st) (aaj st) .none kV doc pm an cdv ct) ⟨[c,a,b],[]⟩=pure (ps.zip [c,a,b])):Bnd x st ps:=by
 intro kV doc pm an cdv ct us d
 rw[f] at d
 obtain⟨_,_,_,rfl⟩:=len3 d
 exact h _ _ _ _ _ _ _ _ _
theorem aaw(X:K.In h)(G:h.Ns mainGlobals mg)(q:FnIn K x st)
  (hb:Bnd x st ps):∃ f fd,DefAt K mg x st ps f fd:=by
 obtain⟨f,oc,od,kV,d,pm,an,b,ct,sl,a,l,c,k⟩:=q
 exact⟨_,_,have F:=a02 (st:=st) l c k;⟨F,mg_of X G a,F.binds hb⟩⟩
theorem txt_mk{K:Frag}{h:Heap}{mg:Str->Option Value}(X:K.In h)(G:h.Ns mainGlobals mg)
  {a:Tok} 
  (h0:FnIn K "is_whole" s_is_whole)
  (h1:FnIn K "is_between" s_is_between)
  (h2:FnIn K "need_number" s_need_number)
  (h3:FnIn K "is_place" s_is_place)
  (h4:FnIn K "is_tie" s_is_tie)
  (h5:FnIn K "are_ties" s_are_ties)
  (h6:FnIn K "is_rising" s_is_rising)
  (h7:FnIn K "tied_places" s_tied_places)
  (h8:FnIn K "far_from" s_far_from)
  (h9:FnIn K "need_place" s_need_place)
  (N:FnIn K "all_far" s_all_far)
  (H:FnIn K "is_joined" s_is_joined)
  (O:FnIn K "short_way" s_short_way)
  (T:FnIn K "need_joined" s_need_joined)
  (y:FnIn K "far_rows" s_far_rows)
  (D:FnIn K "most_far" s_most_far)
  (L:FnIn K "farthest_two" s_farthest_two)
  (a1:FnIn K "middles" s_middles)
  (R:FnIn K "is_tree" s_is_tree)
  (P:FnIn K "need_tree" s_need_tree)
  (U:FnIn K "far_way" s_far_way)
  (S:FnIn K "far_ends" s_far_ends)
  (E:FnIn K "parting_tie" s_parting_tie)
  (F:FnIn K "parted_far" s_parted_far)
  (W:FnIn K "with_ties" s_with_ties)
  (C:FnIn K "hubs_for" s_hubs_for)
  (Y:FnIn K "hub_ties" s_hub_ties)
  (a5:FnIn K "_law_cell" s_law_cell)
  (Q:FnIn K "_law_store" s_law_store)
  (A:FnIn K "_law_take" s_law_take)
  (z:FnIn K "_law_tree_ties" s_law_tree_ties)
  (a4:FnIn K "_law_renumbered" s_law_renumbered)
  (x:FnIn K "_law_tree" s_law_tree)
  (I:FnIn K "_law_side" s_law_side)
  (w:FnIn K "_law_part" s_law_part)
  (a3:FnIn K "_law_parts" s_law_parts)
  (J:FnIn K "_law_farther" s_law_farther)
  (Z:FnIn K "_law_parted_right" s_law_parted_right)
  (B:FnIn K "_law_joined_right" s_law_joined_right)
  (M:FnIn K "_law_ends_right" s_law_ends_right)
  (a2:FnIn K "_law_hub_right" s_law_hub_right)
  (v:FnIn K "law" s_law)
  (c:nsIn K mainGlobals "ValueError" = some none)
  (p:nsIn K mainGlobals "all" = some none)
  (r:nsIn K mainGlobals "max" = some none)
  (s:nsIn K mainGlobals "min" = some none)
  (g:nsIn K mainGlobals "sorted" = some none)
  (j:nsIn K mainGlobals "range" = some none)
  (l:nsIn K mainGlobals "list" = some none)
  (d:nsIn K mainGlobals "isinstance" = some none)
  (t:nsIn K mainGlobals "int" = some none)
  (o:nsIn K mainGlobals "len" = some none)
  (u:nsIn K mainGlobals "set" = some none)
  (n:nsIn K mainGlobals "bool" = some none)
  (i:nsIn K mainGlobals "tuple" = some none)
  (f:nsIn K mainGlobals "enumerate" = some none)
  (q:nsIn K mainGlobals "zip" = some none)
  (b:nsIn K mainGlobals "MOST_HUB_TIES" = some (some (.int 20 a)))
  : Txt K mg where
  b_ValueError:=mg_none_of X G c
  b_all:=mg_none_of X G p
  b_max:=mg_none_of X G r
  b_min:=mg_none_of X G s
  b_sorted:=mg_none_of X G g
  b_range:=mg_none_of X G j
  b_list:=mg_none_of X G l
  b_isinstance:=mg_none_of X G d
  b_int:=mg_none_of X G t
  b_len:=mg_none_of X G o
  b_set:=mg_none_of X G u
  b_bool:=mg_none_of X G n
  b_tuple:=mg_none_of X G i
  b_enumerate:=mg_none_of X G f
  b_zip:=mg_none_of X G q
  v_MOST_HUB_TIES:=⟨_,mg_of X G b⟩
  d_is_whole:=aaw X G h0 (bnd1 rfl λ_ _ _ _ _ _ _=>rfl)
  d_is_between:=aaw X G h1 (bnd3 rfl λ_ _ _ _ _ _ _ _ _=>rfl)
  d_need_number:=aaw X G h2 (bnd3 rfl λ_ _ _ _ _ _ _ _ _=>rfl)
  d_is_place:=aaw X G h3 (bnd2 rfl λ_ _ _ _ _ _ _ _=>rfl)
  d_is_tie:=aaw X G h4 (bnd2 rfl λ_ _ _ _ _ _ _ _=>rfl)
  d_are_ties:=aaw X G h5 (bnd2 rfl λ_ _ _ _ _ _ _ _=>rfl)
  d_is_rising:=aaw X G h6 (bnd1 rfl λ_ _ _ _ _ _ _=>rfl)
  d_tied_places:=aaw X G h7 (bnd1 rfl λ_ _ _ _ _ _ _=>rfl)
  d_far_from:=aaw X G h8 (bnd2 rfl λ_ _ _ _ _ _ _ _=>rfl)
  d_need_place:=aaw X G h9 (bnd2 rfl λ_ _ _ _ _ _ _ _=>rfl)
  d_all_far:=aaw X G N (bnd2 rfl λ_ _ _ _ _ _ _ _=>rfl)
  d_is_joined:=aaw X G H (bnd1 rfl λ_ _ _ _ _ _ _=>rfl)
  d_short_way:=aaw X G O (bnd3 rfl λ_ _ _ _ _ _ _ _ _=>rfl)
  d_need_joined:=aaw X G T (bnd1 rfl λ_ _ _ _ _ _ _=>rfl)
  d_far_rows:=aaw X G y (bnd1 rfl λ_ _ _ _ _ _ _=>rfl)
  d_most_far:=aaw X G D (bnd1 rfl λ_ _ _ _ _ _ _=>rfl)
  d_farthest_two:=aaw X G L (bnd1 rfl λ_ _ _ _ _ _ _=>rfl)
  d_middles:=aaw X G a1 (bnd1 rfl λ_ _ _ _ _ _ _=>rfl)
  d_is_tree:=aaw X G R (bnd1 rfl λ_ _ _ _ _ _ _=>rfl)
  d_need_tree:=aaw X G P (bnd1 rfl λ_ _ _ _ _ _ _=>rfl)
  d_far_way:=aaw X G U (bnd1 rfl λ_ _ _ _ _ _ _=>rfl)
  d_far_ends:=aaw X G S (bnd1 rfl λ_ _ _ _ _ _ _=>rfl)
  d_parting_tie:=aaw X G E (bnd1 rfl λ_ _ _ _ _ _ _=>rfl)
  d_parted_far:=aaw X G F (bnd2 rfl λ_ _ _ _ _ _ _ _=>rfl)
  d_with_ties:=aaw X G W (bnd2 rfl λ_ _ _ _ _ _ _ _=>rfl)
  d_hubs_for:=aaw X G C (bnd2 rfl λ_ _ _ _ _ _ _ _=>rfl)
  d_hub_ties:=aaw X G Y (bnd2 rfl λ_ _ _ _ _ _ _ _=>rfl)
  d_law_cell:=aaw X G a5 (bnd2 rfl λ_ _ _ _ _ _ _ _=>rfl)
  d_law_store:=aaw X G Q (bnd1 rfl λ_ _ _ _ _ _ _=>rfl)
  d_law_take:=aaw X G A (bnd2 rfl λ_ _ _ _ _ _ _ _=>rfl)
  d_law_tree_ties:=aaw X G z (bnd3 rfl λ_ _ _ _ _ _ _ _ _=>rfl)
  d_law_renumbered:=aaw X G a4 (bnd3 rfl λ_ _ _ _ _ _ _ _ _=>rfl)
  d_law_tree:=aaw X G x (bnd1 rfl λ_ _ _ _ _ _ _=>rfl)
  d_law_side:=aaw X G I (bnd2 rfl λ_ _ _ _ _ _ _ _=>rfl)
  d_law_part:=aaw X G w (bnd2 rfl λ_ _ _ _ _ _ _ _=>rfl)
  d_law_parts:=aaw X G a3 (bnd2 rfl λ_ _ _ _ _ _ _ _=>rfl)
  d_law_farther:=aaw X G J (bnd2 rfl λ_ _ _ _ _ _ _ _=>rfl)
  d_law_parted_right:=aaw X G Z (bnd2 rfl λ_ _ _ _ _ _ _ _=>rfl)
  d_law_joined_right:=aaw X G B (bnd2 rfl λ_ _ _ _ _ _ _ _=>rfl)
  d_law_ends_right:=aaw X G M (bnd1 rfl λ_ _ _ _ _ _ _=>rfl)
  d_law_hub_right:=aaw X G a2 (bnd2 rfl λ_ _ _ _ _ _ _ _=>rfl)
  d_law:=aaw X G v (bnd1 rfl λ_ _ _ _ _ _ _=>rfl)
theorem walk{l:PySem.W.OpenLaw}{q:Program}{b:List Str}{y:(Str->Option Value)->Heap->Prop}{p:World->Heap->Prop}{d:DefRec}{K:Params->Frag}(hn:l.most=some 63)(i:d.params.defaults=[])(g:d.name = "law")
  (r:∀(w:World)(h:Heap),p w h->(K w.params).In h)
  (o:∀(w:World)(lo:List Str)(mg mb:Str->Option Value)(c:ExcName->Option Value)(h:Heap),PyProof.Rows.Top q lo c mg mb h->p w h->afy (K w.params) h)
  (F:∀(w:World)(mg:Str->Option Value)(h:Heap),(K w.params).In h->h.Ns mainGlobals mg->Txt (K w.params) mg) :
  PySem.W.WalkO q b y p l.row.toRowW d [] (λf vs=>PySem.call f vs):=by
 refine L2.walk_of (n:=63) (k:=13) (x:="script") (CX:=λ_=>CX0) (sp:=λw=>ar6 (K w.params)) hn (by decide) i ⟨rfl,by decide,by decide,rfl⟩ r o (λw mg fa h X G e=>?_) (λ_ _ a ns B _ v=>⟨a,ns,rfl,v,B,λ_=>rfl⟩) λ_ _ _ _ _ z=>z
 have T:=F w mg h X G
 rw[g] at e
 obtain⟨f1,j,D⟩:=T.d_law
 have t:=e.symm.trans D.mgx
 cases t
 refine⟨j,λs u=>?_,λbase _ _=>?_⟩
 ·obtain⟨oc,od,kV,doc,pm,an,cdv,ct,osl,rfl,C,A⟩:=D.fn.ex
  exact .of_eq rfl
 ·exact a3a T D
end G
end
namespace PySem.W.Fast
theorem tw7749074797487406158:True:=trivial
theorem tw3818525384975487904:True:=trivial
theorem tw5732703427000424477:True:=trivial
theorem tw8321992872055489765:True:=trivial
theorem tw672278798077092183:True:=trivial
theorem tw1038135531375271036:True:=trivial
theorem tw9108840678238555915:True:=trivial
theorem tw7950485987018433634:True:=trivial
theorem tw243792654173825061:True:=trivial
theorem tw17753623643728615926:True:=trivial
theorem tw17332152345845912265:True:=trivial
theorem tw12438327423937804066:True:=trivial
theorem tw345016308400122828:True:=trivial
theorem tw11642861117559863711:True:=trivial
theorem tw17569912184499404908:True:=trivial
theorem tw4699120642360030412:True:=trivial
theorem tw16761614673462036591:True:=trivial
theorem tw15798954635426318213:True:=trivial
theorem tw10367660398117946826:True:=trivial
theorem tw16015007427226314208:True:=trivial
theorem tw7597565115732726842:True:=trivial
theorem tw4095067353626926616:True:=trivial
theorem tw6077494947597734624:True:=trivial
theorem tw10058661680601565706:True:=trivial
theorem tw121474771847294257:True:=trivial
theorem tw4323475156744660506:True:=trivial
theorem tw8630659364114309542:True:=trivial
theorem tw15524079100825164026:True:=trivial
theorem tw13963163507781518276:True:=trivial
theorem tw7304234299182142969:True:=trivial
theorem tw17596161971478477289:True:=trivial
theorem tw1549809568918984180:True:=trivial
theorem tw12909880056972542008:True:=trivial
theorem tw9783893380968766471:True:=trivial
theorem tw11136565911733421370:True:=trivial
theorem tw8451273935984345204:True:=trivial
theorem tw10903933976285367267:True:=trivial
theorem tw4025152828719782190:True:=trivial
theorem tw13989453172252191789:True:=trivial
theorem tw17412901513522312312:True:=trivial
theorem tw10354451536528212937:True:=trivial
theorem tw819234666355435721:True:=trivial
theorem tw9667945307695489910:True:=trivial
theorem tw9013720955337960927:True:=trivial
theorem tw7473288753652993535:True:=trivial
theorem tw6110707641376243480:True:=trivial
theorem tw8652118181875755740:True:=trivial
theorem tw8618312740066077005:True:=trivial
theorem tw764434687173147701:True:=trivial
theorem tw17499661394047170580:True:=trivial
theorem tw18279178482379925995:True:=trivial
theorem tw5246087779935418463:True:=trivial
theorem tw6120142942610225225:True:=trivial
theorem tw17702678464550298156:True:=trivial
theorem tw13238081955700331676:True:=trivial
theorem tw9553228565260805799:True:=trivial
theorem tw3026251763731631247:True:=trivial
theorem tw10273914122741771485:True:=trivial
theorem tw12684487134402044412:True:=trivial
theorem tw14646679146861458055:True:=trivial
theorem tw11087838820935926852:True:=trivial
theorem tw3358255572479390979:True:=trivial
theorem tw4652173452489728069:True:=trivial
theorem tw10570762964333722524:True:=trivial
theorem tw15834433740911696847:True:=trivial
theorem tw2501783234274255019:True:=trivial
theorem tw9272475326447666032:True:=trivial
theorem tw9201848709290397412:True:=trivial
theorem tw16341092129709582306:True:=trivial
theorem tw5817463668936210543:True:=trivial
theorem tw4035421675020539735:True:=trivial
theorem tw11880566563753797321:True:=trivial
theorem tw9771758088671135027:True:=trivial
theorem tw14467312583287505757:True:=trivial
theorem tw1336309856947536523:True:=trivial
theorem tw18437802395595755340:True:=trivial
theorem tw6035936712177825603:True:=trivial
theorem tw17198588692147758211:True:=trivial
theorem tw5767544355574539196:True:=trivial
theorem tw11110080558450579513:True:=trivial
theorem tw15615597074154615491:True:=trivial
theorem tw10416553557830393677:True:=trivial
theorem tw2700811829974213828:True:=trivial
theorem tw15958638514742109056:True:=trivial
theorem tw8734014241943918482:True:=trivial
theorem tw17954122094470989063:True:=trivial
theorem tw6685507131958862641:True:=trivial
theorem tw14673916017188797696:True:=trivial
theorem tw12895103402001927458:True:=trivial
theorem tw6587643913057967083:True:=trivial
theorem tw17817332854956108376:True:=trivial
theorem tw12794809240556557801:True:=trivial
theorem tw15027288606258397392:True:=trivial
theorem tw10345042512822027945:True:=trivial
theorem tw16177268623962961860:True:=trivial
theorem tw17075586946766384336:True:=trivial
theorem tw4684564689945218124:True:=trivial
theorem tw14487829321902981638:True:=trivial
theorem tw13513679265212111797:True:=trivial
theorem tw16381122004788434389:True:=trivial
theorem tw12480411701245492133:True:=trivial
theorem tw16532159924502773791:True:=trivial
theorem tw14575918905619139381:True:=trivial
theorem tw11865035228653641423:True:=trivial
theorem tw6075907272405615255:True:=trivial
theorem tw442761032737512282:True:=trivial
theorem tw2557567977120715429:True:=trivial
theorem tw2939788157732810225:True:=trivial
theorem tw3808321325868991328:True:=trivial
theorem tw4891400071592489629:True:=trivial
theorem tw2556938865370901876:True:=trivial
theorem tw647319569018502998:True:=trivial
theorem tw9642509367660166820:True:=trivial
theorem tw17968432410080850696:True:=trivial
theorem tw16306841513569322206:True:=trivial
theorem tw14971828668013052560:True:=trivial
theorem tw17988306668909045406:True:=trivial
theorem tw4475074391780204187:True:=trivial
theorem tw6005421974034562115:True:=trivial
theorem tw539902760416621904:True:=trivial
theorem tw220872197599577884:True:=trivial
theorem tw14013924422257173379:True:=trivial
theorem tw114229771905630812:True:=trivial
theorem tw7014526846665212108:True:=trivial
theorem tw4244729867624999235:True:=trivial
theorem tw9023801116990440586:True:=trivial
theorem tw344582426289075966:True:=trivial
theorem tw15964888932090715825:True:=trivial
theorem tw15279420711749962965:True:=trivial
theorem tw112947929145066433:True:=trivial
theorem tw9347670372657122777:True:=trivial
theorem tw9833050155347756677:True:=trivial
theorem tw5130897008346739861:True:=trivial
theorem tw4130316619068717148:True:=trivial
theorem tw9090379260476730992:True:=trivial
theorem tw5800091364568997107:True:=trivial
theorem tw8054483521813459254:True:=trivial
theorem tw12840812873057040841:True:=trivial
theorem tw10713826588155368073:True:=trivial
theorem tw6754103788622878017:True:=trivial
theorem tw3194091638378804250:True:=trivial
theorem tw14202216596446596193:True:=trivial
theorem tw255818185200755173:True:=trivial
theorem tw18308166644383569425:True:=trivial
theorem tw11124609029875330366:True:=trivial
theorem tw13968748561196881243:True:=trivial
theorem tw10243631125724012592:True:=trivial
theorem tw4518791056628006782:True:=trivial
theorem tw12694191954478746068:True:=trivial
theorem tw14556708488258976030:True:=trivial
theorem tw1612469633832950519:True:=trivial
theorem tw15050483401208416800:True:=trivial
theorem tw16640508753507010030:True:=trivial
theorem tw12665140579530452917:True:=trivial
theorem tw14186144407609023957:True:=trivial
theorem tw560731799641088511:True:=trivial
theorem tw3928263374576360580:True:=trivial
theorem tw3463527681846190399:True:=trivial
theorem tw15066511780010805477:True:=trivial
theorem tw6200990400124548388:True:=trivial
theorem tw14428171152826152853:True:=trivial
theorem tw11475775244766970387:True:=trivial
theorem tw7205129869310345013:True:=trivial
theorem tw11000976235321989103:True:=trivial
theorem tw1076690071991659593:True:=trivial
theorem tw400707868283399526:True:=trivial
theorem tw5757698499604978313:True:=trivial
theorem tw5288469253112454922:True:=trivial
theorem tw5769312323858920899:True:=trivial
theorem tw4613829956188676755:True:=trivial
theorem tw13291518405826240521:True:=trivial
theorem tw12525765192094903162:True:=trivial
theorem tw11020348186533355645:True:=trivial
theorem tw13357465157894576085:True:=trivial
theorem tw12095814443957951321:True:=trivial
theorem tw10238774699169404326:True:=trivial
theorem tw355388795488315590:True:=trivial
theorem tw1471299428795603965:True:=trivial
theorem tw4662003110374797289:True:=trivial
theorem tw17290421348544824037:True:=trivial
theorem tw79394044441193786:True:=trivial
theorem tw2564729402916590180:True:=trivial
theorem tw5767386021124771383:True:=trivial
theorem tw18003826798262632507:True:=trivial
theorem tw17943591966903538231:True:=trivial
theorem tw10425602338026899267:True:=trivial
theorem tw10113194109853551088:True:=trivial
theorem tw10188181237534317030:True:=trivial
theorem tw9746458979726999591:True:=trivial
theorem tw16432852046620739597:True:=trivial
theorem tw9508462854859611772:True:=trivial
theorem tw2662289567425640151:True:=trivial
theorem tw16938831387645983404:True:=trivial
theorem tw1778297484116945566:True:=trivial
theorem tw11786327798124882412:True:=trivial
theorem tw2478255059066779822:True:=trivial
theorem tw6924350651329942677:True:=trivial
theorem tw4120137920181521624:True:=trivial
theorem tw10425352401050286352:True:=trivial
theorem tw14174837830158983963:True:=trivial
theorem tw12142800878226251885:True:=trivial
theorem tw15985026631459273281:True:=trivial
theorem tw1955604653139243945:True:=trivial
theorem tw16356482098521861505:True:=trivial
theorem tw11740047552309509029:True:=trivial
theorem tw10902963191852780128:True:=trivial
theorem tw9414552670937963245:True:=trivial
theorem tw8531832629890067080:True:=trivial
theorem tw6693940292447560390:True:=trivial
theorem tw15227029319827766194:True:=trivial
theorem tw14832716466048558965:True:=trivial
theorem tw10281221178496644779:True:=trivial
theorem tw16174390486988860445:True:=trivial
end PySem.W.Fast
open PySem PySem.W PyProof.Rows
set_option maxRecDepth 100000 in
set_option maxHeartbeats 0 in
theorem PySem.Challenge.cw_fewties_k50_whole_trees_parted_as_webs_holds : PySem.Challenge.rw_fewties_k50_whole_trees_parted_as_webs.Holds := by
 w_on;o_law;k_head;(case hw=>w_witness2)
 k_fill
 refine G.walk (l:=PySem.Challenge.rw_fewties_k50_whole_trees_parted_as_webs) rfl rfl rfl (fun w h Y=>PySem.W.kIn_of Y) ?TB ?F
 case TB =>
  intro w lo mg mb mean h T Y
  refine' L2.tabs0_none (L2.tab_no ?ht_)
  case ht_=>k_is
 case F =>
  intro w mg h KX GG
  refine' G.txt_mk KX GG ..
  all_goals try (refine' G.fn_in ?a_ ?l_ ?c_ ?k_;(case a_=>k_is);(case l_=>k_is);(case c_=>k_is);(case k_=>k_is))
  all_goals try k_is
#print axioms PySem.Challenge.cw_fewties_k50_whole_trees_parted_as_webs_holds
