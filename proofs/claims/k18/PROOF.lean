import PyProof.Rows.All
import Wide.All
import OpenK.AllK
import Wide.FinOn
import PyProof.EqAt
import PyProof.EqKinds
import PyProof.TupleCall
import KE.KLam
import KE.KMinKey
import PyProof.NeData
import PyProof.P3In
import PyProof.WalkInts
import PyProof.Rows.SortWalk
import PyProof.SumWalkG
import PyProof.Rows.CallKwBuiltin
import KE.KDictList
import PyProof.WalksEnum
import PyProof.ZipIter
import PyProof.ConsumeWalk
import PyProof.ListRange
import PyProof.TupleOfSeq
import PyProof.Rows.RuleN_abs
import KE.KRevIter
import PyProof.Rows.SetFrom
import PySem.Challenge.RW_fewties_k18_whole_few_and_one
open PySem.W (Frag kitOne mg_of nsIn mg_none_of excIn fnOf mroIn keepIn codeIn)
set_option Elab.async false
set_option linter.all false
set_option compiler.extract_closed false
set_option maxRecDepth 100000
set_option maxHeartbeats 4000000
noncomputable section
abbrev aA0:=@List.getElem?_eq_getElem
abbrev aA1:=@List.getElem?_eq_some_iff
abbrev aA2:=@List.mem_of_getElem?
abbrev aA3:=@List.length_map
abbrev aA4:=@Array.getElem?_eq_getElem
abbrev aA5:=@List.getElem?_map
abbrev aA6:=@Nat.le_refl
abbrev aA7:=@List.mem_append
abbrev aA8:=@Array.length_toList
abbrev aA9:=@List.mem_cons
abbrev aB0:=@Bool.false_ne_true
abbrev aB1:=@List.length_append
abbrev aB2:=@List.size_toArray
abbrev aB3:=@List.mem_append_right
abbrev aB4:=@List.append_assoc
abbrev aB5:=@List.mem_cons_of_mem
abbrev aB6:=@Nat.ne_of_lt
abbrev aB7:=@List.mem_map
abbrev aB8:=@List.mem_cons_self
abbrev aB9:=@List.mem_range
abbrev aC0:=@List.mem_of_mem_take
abbrev aC1:=@List.take_append_drop
abbrev aC2:=@List.mem_singleton
abbrev aC3:=@List.getElem?_append_left
abbrev aC4:=@List.mem_of_mem_drop
abbrev aC5:=@Nat.lt_of_lt_of_le
abbrev aC6:=@Option.some.inj
abbrev aC7:=@List.mem_append_left
abbrev aC8:=@List.getElem?_append_right
abbrev aC9:=@List.pairwise_append
abbrev aD0:=@Nat.le_trans
abbrev aD1:=@List.map_cons
abbrev aD2:=@List.getElem?_set
abbrev aD3:=@List.getElem?_of_mem
abbrev aD4:=@List.getD_eq_getElem?_getD
abbrev aD5:=@Classical.byContradiction
abbrev aD6:=@Array.getElem?_toList
abbrev aD7:=@decide_eq_false
abbrev aD8:=@decide_eq_true
abbrev aD9:=@List.getElem?_range
abbrev aE0:=@List.map_map
abbrev aE1:=@List.length_range
abbrev aE2:=@List.mem_filter
abbrev aE3:=@List.getElem?_eq_none
abbrev aE4:=@Nat.lt_of_le_of_lt
abbrev aE5:=@List.map_append
abbrev aE6:=@List.length_cons
abbrev aE7:=@Int.emod_nonneg
abbrev aE8:=@Int.emod_lt_of_pos
abbrev aE9:=@List.nodup_append
abbrev aF0:=@List.map_congr_left
abbrev aF1:=@List.append_nil
abbrev aF2:=@List.take_of_length_le
abbrev aF3:=@List.getElem_mem
abbrev aF4:=@List.length_filter_le
abbrev aF5:=@List.all_eq_true
abbrev aF6:=@if_pos
abbrev aF7:=@if_neg
abbrev aF8:=@List.getElem?_eq_none_iff
abbrev aF9:=@Nat.lt_succ_of_lt
abbrev aG0:=@List.length_pos_iff
abbrev aG1:=@Nat.zero_le
abbrev aG2:=@List.pairwise_map
abbrev aG3:=@List.ext_getElem?
abbrev aG4:=@beq_iff_eq
abbrev aG5:=@Nat.lt_irrefl
abbrev aG6:=@Nat.le_of_lt
abbrev aG7:=@Array.toList_append
abbrev aG8:=@List.pairwise_iff_getElem
abbrev aG9:=@List.take_length
abbrev aH0:=@List.lookup_cons
abbrev aH1:=@List.length_take
abbrev aH2:=@Bool.and_eq_true
abbrev aH3:=@List.eq_nil_of_length_eq_zero
abbrev aH4:=@List.replicate_succ
abbrev aH5:=@List.take_add_one
abbrev aH6:=@List.getElem?_take_of_lt
abbrev aH7:=@List.mem_iff_getElem
abbrev aH8:=@List.getElem?_replicate
abbrev aH9:=@Bool.eq_iff_iff
abbrev aI0:=@Array.size_push
abbrev aI1:=@List.Pairwise.imp_of_mem
abbrev aI2:=@Option.map_some
abbrev aI3:=@List.getElem?_drop
abbrev aI4:=@List.not_mem_nil
abbrev aI5:=@List.nodup_cons
abbrev aI6:=@List.pairwise_cons
abbrev aI7:=@Nat.lt_succ_self
abbrev aI8:=@List.length_drop
abbrev aI9:=@List.length_nil
abbrev aJ0:=@List.length_eq_zero_iff
open PySem PySem.Spec in
abbrev aJ1:=@wpAny_bind
open PySem PySem.Spec in
abbrev aJ2:=@wpAny_pure
open PySem PySem.Spec in
abbrev aJ3:=@Heap.get?_push_of_some
open PySem PySem.Spec in
abbrev aJ4:=@Heap.lt_size
open PySem PySem.Spec in
abbrev aJ5:=@Heap.get?_push_size
open PySem PySem.Spec in
abbrev aJ6:=@codeAny_mono
open PySem PySem.Spec in
abbrev aJ7:=@wpAny_holding
open PySem PySem.Spec in
abbrev aJ8:=@PassesOwn.never
open PySem PySem.Spec in
abbrev aJ9:=@Heap.get?_update_other
open PySem PySem.Spec in
abbrev aK0:=@wpAny_mono
open PySem PySem.Spec in
abbrev aK1:=@wpAny_newObj_type
open PySem PySem.Spec in
abbrev aK2:=@Around.under_plainId
open PySem PySem.Spec in
abbrev aK3:=@Heap.size_push
open PySem PySem.Spec in
abbrev aK4:=@wpAny_call_entry
open PySem PySem.Spec in
abbrev aK5:=@wpAny_truthy_bool
open PySem PySem.Spec in
abbrev aK6:=@wpAny_pyIter_list
open PySem PySem.Spec in
abbrev aK7:=@Heap.get?_update_self
open PySem PySem.Spec in
abbrev aK8:=@codeAny_builtin
namespace L2
open PySem PySem.Spec PyProof.Rows
abbrev Key:=Sum Int Str
def agp:Key->Value->Bool
 | .inl k,v=>Value.isInt k v
 | .inr x,v=>Value.isStrOf x v
def keyH(w:World):Key->Int
 | .inl k=>hashInt k
 | .inr x=>hashStr w x
theorem abp:∀{k:Key}{v:Value},agp k v=true->(∃ i t,k=Sum.inl i/\v=Value.int i t)\/(∃ x t,k=Sum.inr x/\v=Value.str x t)
 | .inl i,v,h=>by
  obtain⟨t,e⟩:=Value.isInt_shape (k:=i) (v:=v) h
  exact .inl ⟨i,t,rfl,e⟩
 | .inr x,v,h=>by
  obtain⟨t,e⟩:=Value.isStrOf_shape (x:=x) (v:=v) h
  exact .inr ⟨x,t,rfl,e⟩
theorem ard(i:Int)(t:Tok):agp (.inl i) (.int i t)=true:=by simp[agp,Value.isInt]
theorem arf(x:Str)(t:Tok):agp (.inr x) (.str x t)=true:=by simp[agp,Value.isStrOf]
theorem azl(a b:Int):decide ((Sum.inl a:Key)=Sum.inl b)=(a == b):=by
 by_cases e:a=b
 ·subst e;simp
 ·have h:¬ (Sum.inl a:Key)=Sum.inl b:=λq=>e (Sum.inl.inj q)
  rw[aD7 h]
  exact(beq_eq_false_iff_ne.mpr e).symm
theorem azm(a b:Str):decide ((Sum.inr a:Key)=Sum.inr b)=decide (a=b):=by
 by_cases e:a=b
 ·subst e;simp
 ·have h:¬ (Sum.inr a:Key)=Sum.inr b:=λq=>e (Sum.inr.inj q)
  rw[aD7 h,aD7 e]
theorem azn(a:Int)(b:Str):decide ((Sum.inl a:Key)=Sum.inr b)=false:=aD7 (λq=>nomatch q)
theorem azo(a:Str)(b:Int):decide ((Sum.inr a:Key)=Sum.inl b)=false:=aD7 (λq=>nomatch q)
def abu(prog:Program)(w:World):PySem.KeyKind prog w Key where
 is:=agp
 hash:=keyH w
 inj:=λv a b ha hb=>by
  rcases abp ha with ⟨i,t,rfl,rfl⟩|⟨x,t,rfl,rfl⟩
  ·rcases abp hb with ⟨j,u,rfl,e⟩|⟨y,u,rfl,e⟩
   ·injection e with e1 _;rw[e1]
   ·exact nomatch e
  ·rcases abp hb with ⟨j,u,rfl,e⟩|⟨y,u,rfl,e⟩
   ·exact nomatch e
   ·injection e with e1 _;rw[e1]
 byValue:=λk v h=>by
  rcases abp h with ⟨i,t,rfl,rfl⟩|⟨x,t,rfl,rfl⟩ <;> rfl
 pyHash:=λhv h=>by
  rcases abp hv with ⟨i,t,rfl,rfl⟩|⟨x,t,rfl,rfl⟩
  ·exact wpAny_pyHash_int h
  ·exact wpAny_pyHash_str h
 eqBool:=λhu hv h=>by
  rcases abp hu with ⟨i,t,rfl,rfl⟩|⟨x,t,rfl,rfl⟩
  ·rcases abp hv with ⟨j,u,rfl,rfl⟩|⟨y,u,rfl,rfl⟩
   ·rw[azl] at h;exact wpAny_eqBool_int h
   ·rw[azn] at h;exact SeqAt.EqAt.int_str i t y u _ _ _ _ h
  ·rcases abp hv with ⟨j,u,rfl,rfl⟩|⟨y,u,rfl,rfl⟩
   ·rw[azo] at h;exact SeqAt.EqAt.str_int x t j u _ _ _ _ h
   ·rw[azm] at h;exact wpAny_eqBool_str h
 «strs»:=λk x t v h=>by
  rcases abp h with ⟨i,u,rfl,e⟩|⟨y,u,rfl,e⟩
  ·exact nomatch e
  ·injection e with e1 _
   subst e1
   cases v <;> rfl
theorem an0(prog:Program)(w:World)(i:Int)(t:Tok):(abu prog w).is (.inl i) (.int i t)=true:=ard i t
theorem an1(prog:Program)(w:World)(x:Str)(t:Tok):(abu prog w).is (.inr x) (.str x t)=true:=arf x t
inductive V where
 |non|bl (b:Bool)|int (i:Int)|str (x:Str)|byt (b:Array UInt8)|flt (b:UInt64)|ref (a:Addr)|ty (n:String)
 deriving DecidableEq
def RelV:V->Value->Prop
 | .non,u=>u=Value.none
 | .bl b,u=>u=Value.bool b
 | .int i,u=>∃ t,u=Value.int i t
 | .str x,u=>∃ t,u=Value.str x t
 | .byt b,u=>∃ t,u=Value.bytes b t
 | .flt b,u=>∃ t,u=Value.float b t
 | .ref a,u=>u=Value.ref a
 | .ty n,u=>u=Value.type n
abbrev Vals:List V->List Value->Prop:=Paired RelV
theorem Vals.length{xs:List V}{us:List Value}(r:Vals xs us):xs.length=us.length:=Paired.length r
theorem Vals.get:∀{xs:List V}{us:List Value}{i:Nat}{x:V},Vals xs us->xs[i]?=some x->∃ u,us[i]?=some u/\RelV x u
 |_,_,_,_,.nil,e=>by simp at e
 |_,_,0,_,.cons r _,e=>by simp at e;subst e;exact⟨_,rfl,r⟩
 | _,_,i+1,x,.cons _ t,e=>by
  obtain⟨u,a,b⟩:=Vals.get (i:=i) (x:=x) t (by simpa using e)
  exact⟨u,by simpa using a,b⟩
theorem Vals.set{x:V}{u:Value}(r:RelV x u):∀{xs:List V}{us:List Value}(i:Nat),Vals xs us->Vals (xs.set i x) (us.set i u)
 |_,_,_,.nil=>.nil
 |_,_,0,.cons _ t=>.cons r t
 |_,_,i+1,.cons q t=>.cons q (Vals.set r i t)
theorem Vals.append:∀{xs ys:List V}{us a:List Value},Vals xs us->Vals ys a->Vals (xs++ys) (us++a)
 |_,_,_,_,.nil,s=>s
 |_,_,_,_,.cons r t,s=>.cons r (Vals.append t s)
theorem Vals.take:∀{xs:List V}{us:List Value}(n:Nat),Vals xs us->Vals (xs.take n) (us.take n)
 |_,_,0,_=>.nil
 |_,_,_+1,.nil=>.nil
 |_,_,n+1,.cons r t=>.cons r (Vals.take n t)
theorem Vals.drop:∀{xs:List V}{us:List Value}(n:Nat),Vals xs us->Vals (xs.drop n) (us.drop n)
 |_,_,0,r=>r
 |_,_,_+1,.nil=>.nil
 |_,_,n+1,.cons _ t=>Vals.drop n t
def RelO:Option V->Option Value->Prop
 |some v,some u=>RelV v u
 |none,none=>True
 |_,_=>False
def KV{κ:Type}:List (κ × V)->List (κ × Value)->Prop:=Paired λ(p : κ × V)(q : κ × Value)=>p.1=q.1/\RelV p.2 q.2
def kV:Key->V
 | .inl i=>.int i
 | .inr x=>.str x
inductive HO where
 /-- a list -/
 |lst (xs:List V)
 /-- a tuple (never changes) -/
 |tup (xs:List V)
 /-- a dict whose keys are ints and texts; one whose keys are tuples of ints and texts (the empty one is both) -/
 |dK (kvs:List (Key × V))|dT (kvs:List (List Key × V))
 /-- a set of ints: its members, its size -/
 |set (S:Int->Bool) (n:Nat)
 /-- an instance of the class at C, its dict at dx, its attributes -/
 |ins (C dx:Addr) (fs:List (Str × V))
 /-- the dict of the instance at x -/
 |own (x:Addr)
 /-- the dict of an exception -/
 |xd (fs:List (Str × V))
 /-- a bound method, f of x -/
 |met (f x:Addr)
 /-- a range object lo, lo + 1, .. below hi -/
 |rng (lo hi:Int)
 /-- a thing that is known to the object (the script; a dict while a loop walks it): read, never written while it is so -/
 |frz (o:Obj) (u:HO)
 /-- a code object's table -/
 |tbl (ps:Array Value)
 /-- any other thing, by what is true of its one object (a def of one's own: SetO a S n:=HO.ext λh=>..) -/
 |ext (φ:Heap->Prop)
abbrev Hp:=Addr->Option HO
def upd(H:Hp)(a:Addr)(o:HO):Hp:=λb=>if b=a then some o else H b
theorem aaj{H:Hp}{a:Addr}{o:HO}:upd H a o a=some o:=by unfold upd;rw[aF6 rfl]
theorem aaf{H:Hp}{a b:Addr}{o:HO}(h:b ≠ a):upd H a o b=H b:=by unfold upd;rw[aF7 h]
theorem a11{H:Hp}{a b:Addr}{o u:HO}(h:H a=some o)(h':H b=some u)(d:o ≠ u):a ≠ b:=by
 intro e;subst e;rw[h] at h';exact d (aC6 h')
theorem aam{H:Hp}{a b:Addr}{o:HO}(h:H a=some o)(h':H b=none):a ≠ b:=by
 intro e;subst e;rw[h] at h';cases h'
section
variable(P:Program)(w:World)
def ObjOk(H:Hp)(h:Heap)(a:Addr):HO->Prop
 | .lst xs=>xs.length<=sizeLine/\∃(its:List Value)(n:Nat),Vals xs its/\h.get? a=some { cls:=.type "list",data:=.seq its.toArray n }
 | .tup xs=>xs.length<=sizeLine/\∃ its:List Value,Vals xs its/\IsTup h a its.toArray
 | .dK kvs=>kvs.length<=sizeLine/\(a == sysModules)=false/\∃ vs,KV kvs vs/\h.DictOf (abu P w) a vs
 | .dT kvs=>kvs.length<=sizeLine/\(a == sysModules)=false/\∃ xs:List (List Key × Addr × Value),
   Paired (λ(p:List Key × V)(q:List Key × Addr × Value)=>p.1=q.1/\H q.2.1=some (.tup (p.1.map kV))/\RelV p.2 q.2.2) kvs xs /\
   ∃ o es ep,h.get? a=some o/\o.ExactDict/\o.data=.dict es ep/\es.toList=xs.map (entryOfKey (tupleKind (abu P w)))/\(xs.map (·.1)).Nodup
 | .set S n=>h.SetOf (intKind P w) a S n
 | .ins C dx fs=>H dx=some (.own a)/\fs.length<=1000/\dx ≠ a/\h.get? a=some (PySem.W.instObj C dx) /\
   ∃ mA,h.Ns1 dx mA/\(∀ f,RelO (fs.lookup f) (mA f))/\PySem.Within mA (fs.map (·.1))
 | .own _=>∃ o,h.get? a=some o
 | .xd fs=>∃ mA,h.Ns1 a mA/\∀ f,RelO (fs.lookup f) (mA f)
 | .rng lo hi=>∃ t u v,h.get? a=some { cls:=.type "range",data:=.fields #[.int lo t,.int hi u,.int 1 v] }
 | .frz o u=>h.get? a=some o/\ObjOk H h a u
 | .tbl gs=>∃ ps:Array Value,h.get? a=some { cls:=.none,data:=.fields ps }/\TriplesOk ps.toList/\∀(pos:Pos)(cv:Value),codeAmong pos ps.toList=some cv->∃ c oc vs q t t',cv=.ref c/\H c=some (.own a)/\h.get? c=some oc/\oc.data=.fields vs/\vs[1]?=some (.str q t)/\gs[0]?=some (.str q t')
 | .met f x=>h.get? a=some (PySem.W.methodObj (.ref f) (.ref x))
 | .ext φ=>φ h/\(∃ o,h.get? a=some o)/\∀ h1 h2:Heap,φ h1->(∀ o,h1.get? a=some o->h2.get? a=some o)->φ h2
def HOk(H:Hp)(h:Heap):Prop:=∀ a o,H a=some o->ObjOk P w H h a o
end
section
variable{P:Program}{w:World}{H H':Hp}{h h':Heap}{a:Addr}{o:HO}
theorem ObjOk.lt(x:ObjOk P w H h a o):a<h.objs.size:=by
 cases o with
 |lst xs=>obtain⟨_,_,_,_,e⟩:=x;exact aJ4 e
 |tup xs=>obtain⟨_,_,_,p⟩:=x;exact p.lt
 |dK kvs=>obtain⟨_,_,_,_,o,_,_,e,_⟩:=x;exact aJ4 e
 |dT kvs=>obtain⟨_,_,_,_,o,_,_,e,_⟩:=x;exact aJ4 e
 |set S n=>obtain⟨o,_,_,_,e,_⟩:=x;exact aJ4 e
 |ins C dx fs=>obtain⟨_,_,_,e,_⟩:=x;exact aJ4 e
 |own y=>obtain⟨_,e⟩:=x;exact aJ4 e
 |xd fs=>obtain⟨_,⟨_,_,_,e,_⟩,_⟩:=x;exact aJ4 e
 |rng lo hi=>obtain⟨_,_,_,e⟩:=x;exact aJ4 e
 |frz ob u=>obtain⟨e,_⟩:=x;exact aJ4 e
 |tbl ps=>obtain⟨_,e,_⟩:=x;exact aJ4 e
 |met f y=>exact aJ4 (show h.get? a=some _ from x)
 |ext φ=>obtain⟨_,⟨_,e⟩,_⟩:=x;exact aJ4 e
theorem Paired.mapP{α β:Type}{F G : α->β->Prop}:∀{l₁:List α}{l₂:List β},Paired F l₁ l₂->(∀ a b,F a b->G a b)->Paired G l₁ l₂
 |_,_,.nil,_=>.nil
 |_,_,.cons r t,f=>.cons (f _ _ r) (Paired.mapP t f)
theorem ObjOk.stay(x:ObjOk P w H h a o)(k:∀ b u,(b=a\/H b=some (.own a))->h.get? b=some u->h'.get? b=some u)
  (l:∀ b,H b=some (.own a)->H' b=some (.own a)) (B:∀ b xs,H b=some (.tup xs)->H' b=some (.tup xs)):ObjOk P w H' h' a o:=by
 induction o with
 |lst xs=>obtain⟨z,its,n,r,e⟩:=x;exact⟨z,its,n,r,k _ _ (.inl rfl) e⟩
 |tup xs=>obtain⟨z,its,r,g,e,c⟩:=x;exact⟨z,its,r,g,k _ _ (.inl rfl) e,c⟩
 |dK kvs=>obtain⟨z,y,vs,r,g,es,ep,e,c⟩:=x;exact⟨z,y,vs,r,g,es,ep,k _ _ (.inl rfl) e,c⟩
 | dT kvs =>
  obtain⟨z,y,xs,r,g,es,ep,e,c⟩:=x
  exact⟨z,y,xs,Paired.mapP r λp q z=>⟨z.1,B _ _ z.2.1,z.2.2⟩,g,es,ep,k _ _ (.inl rfl) e,c⟩
 |set S n=>obtain⟨g,es,ep,t,e,c⟩:=x;exact⟨g,es,ep,t,k _ _ (.inl rfl) e,c⟩
 | ins C dx fs =>
  obtain⟨d,z,ne,e,mA,⟨od,es,ep,i,c⟩,r⟩:=x
  exact⟨l _ d,z,ne,k _ _ (.inl rfl) e,mA,⟨od,es,ep,k _ _ (.inr d) i,c⟩,r⟩
 |own y=>obtain⟨g,e⟩:=x;exact⟨g,k _ _ (.inl rfl) e⟩
 |xd fs=>obtain⟨mA,⟨od,es,ep,e,c⟩,r⟩:=x;exact⟨mA,⟨od,es,ep,k _ _ (.inl rfl) e,c⟩,r⟩
 |rng lo hi=>obtain⟨t,u,v,e⟩:=x;exact⟨t,u,v,k _ _ (.inl rfl) e⟩
 |frz g u ih=>obtain⟨e,q⟩:=x;exact⟨k _ _ (.inl rfl) e,ih q⟩
 | tbl ps =>
  obtain⟨j,e,T,f⟩:=x
  exact⟨j,k a _ (.inl rfl) e,T,λpos m z=>let ⟨c,oc,vs,q,t,t',s,i,A,r⟩:=f pos m z;⟨c,oc,vs,q,t,t',s,l c i,k c oc (.inr i) A,r⟩⟩
 | met f y =>
  have e:h.get? a=some (PySem.W.methodObj (.ref f) (.ref y)):=x
  show h'.get? a=some (PySem.W.methodObj (.ref f) (.ref y))
  exact k a _ (.inl rfl) e
 |ext φ=>obtain⟨p,⟨o,e⟩,st⟩:=x;exact⟨st _ _ p λo q=>k _ _ (.inl rfl) q,⟨o,k _ _ (.inl rfl) e⟩,st⟩
theorem HOk.lt(x:HOk P w H h)(e:H a=some o):a<h.objs.size:=(x a o e).lt
theorem HOk.fresh(x:HOk P w H h)(e:h.objs.size<=a):H a=none:=by
 cases q:H a with
 |none=>rfl
 |some u=>exact absurd (aC5 (x.lt q) e) (aG5 _)
theorem HOk.kept(x:HOk P w H h)(k:∀ b u,h.get? b=some u->h'.get? b=some u):HOk P w H h':=λa o e =>
 (x a o e).stay (λb u _ q=>k b u q) (λ_ q=>q) λ_ _ q=>q
theorem HOk.laid(x:HOk P w H h)(k:∀ b u,h.get? b=some u->h'.get? b=some u)(d:h.objs.size<=a)(new:ObjOk P w (upd H a o) h' a o):HOk P w (upd H a o) h':=λb u e=>by
 have hn:=x.fresh d
 by_cases hb:b=a
 ·subst hb;rw[aaj] at e;cases e;exact new
 ·rw[aaf hb] at e
  exact(x b u e).stay (λc v _ q=>k c v q) (λc q=>by rw[aaf (aam q hn)];exact q) λc xs q=>by rw[aaf (aam q hn)];exact q
end
def Rd(H:Hp)(a:Addr)(u:HO):Prop:=H a=some u\/∃ o,H a=some (.frz o u)
theorem Rd.ok{P:Program}{w:World}{H:Hp}{h:Heap}{a:Addr}{u:HO}(r:Rd H a u)(x:HOk P w H h):ObjOk P w H h a u:=by
 rcases r with r|⟨o,r⟩
 ·exact x a u r
 ·obtain⟨_,q⟩:=x a _ r
  exact q
def Mut:Option HO->Prop
 |some (.lst _)=>True
 |some (.dK _)=>True
 |some (.dT _)=>True
 |some (.set _ _)=>True
 |some (.ins _ _ _)=>True
 |some (.ext _)=>True
 |_=>False
section
variable{P:Program}{w:World}{H:Hp}{h h':Heap}{x e:Addr}{o':HO}
theorem HOk.write(ok:HOk P w H h)(g:Mut (H x))(l:e=x\/H e=some (.own x))(k:∀ b u,b ≠ e->h.get? b=some u->h'.get? b=some u)(i:∃ u,h'.get? e=some u)
  (new:ObjOk P w (upd H x o') h' x o'):HOk P w (upd H x o') h':=λb u q=>by
 have a:∀ c y,H c=some (.own y)->c ≠ x:=λc y r z=>by subst z;rw[r] at g;exact g
 have d:∀ c xs,H c=some (.tup xs)->c ≠ x:=λc xs r z=>by subst z;rw[r] at g;exact g
 by_cases hb:b=x
 ·subst hb;rw[aaj] at q;cases q;exact new
 ·rw[aaf hb] at q
  by_cases hbe:b=e
  ·have j:H b=some (.own x):=by
    rcases l with z|z
    ·exact absurd (hbe.trans z) hb
    ·rw[hbe];exact z
   rw[q] at j;cases j
   obtain⟨v,m⟩:=i
   exact⟨v,by rw[hbe];exact m⟩
  ·refine(ok b u q).stay (λc v f r=>k c v ?_ r) (λc r=>by rw[aaf (a c b r)];exact r) λc xs r=>by rw[aaf (d c xs r)];exact r
   rcases f with rfl|f
   ·exact hbe
   ·rintro rfl
    rcases l with z|z
    ·exact a c b f z
    ·rw[f] at z;cases z;exact hb rfl
end
structure Un(fs ex:List Addr)(H H':Hp)(h h':Heap):Prop where
 keep:∀ b o,h.get? b=some o->H b=none->b ∉ fs->b ∉ ex->h'.get? b=some o
 slot:∀ b o,h.get? b=some o->H b=none->b∈fs->b ∉ ex->∃ sl,h'.get? b=some { o with slots:=sl }
 free:∀ b o,h.get? b=some o->H b=none->b ∉ ex->H' b=none
 there:∀ b o,h.get? b=some o->b ∉ ex->∃ o',h'.get? b=some o'
 tups:∀ b xs,H b=some (.tup xs)->H' b=some (.tup xs)
 frzs:∀ b o u,H b=some (.frz o u)->H' b=some (.frz o u)
 tbls:∀ b ps,H b=some (.tbl ps)->∃ more,H' b=some (.tbl (ps++more))
section
variable{fs fs' ex ex':List Addr}{H H1 H2:Hp}{h h1 h2 h':Heap}{a x e:Addr}{o:HO}
theorem Un.any(u:Un fs ex H H1 h h1){b:Addr}{a:Obj}(q:h.get? b=some a)(n:H b=none)(c:b ∉ ex):∃ sl,h1.get? b=some { a with slots:=sl }:=by
 by_cases hb:b∈fs
 ·exact u.slot b a q n hb c
 ·exact⟨a.slots,u.keep b a q n hb c⟩
theorem Un.kept(k:∀ b u,h.get? b=some u->h'.get? b=some u):Un fs ex H H h h' :=
 ⟨λb a q _ _ _=>k b a q,λb a q _ _ _=>⟨a.slots,k b a q⟩,λ_ _ _ n _=>n,λb a q _=>⟨a,k b a q⟩,λ_ _ q=>q,λ_ _ _ q=>q,λ_ ps q=>⟨#[],by rw[q];simp⟩⟩
theorem Un.refl:Un fs ex H H h h:=Un.kept λ_ _ q=>q
theorem Un.laid(k:∀ b u,h.get? b=some u->h'.get? b=some u)(c:h.objs.size<=a)(hn:H a=none):Un fs ex H (upd H a o) h h' where
 keep:=λb u q _ _ _=>k b u q
 slot:=λb u q _ _ _=>⟨u.slots,k b u q⟩
 free:=λb u q n _=>by rw[aaf (aB6 (aC5 (aJ4 q) c))];exact n
 there:=λb u q _=>⟨u,k b u q⟩
 tups:=λb xs q=>by rw[aaf (aam q hn)];exact q
 frzs:=λb u xs q=>by rw[aaf (aam q hn)];exact q
 tbls:=λb ps q=>⟨#[],by rw[aaf (aam q hn),q];simp⟩
theorem Un.write(a:Mut (H x))(f:e=x\/H e=some (.own x))(k:∀ b u,b ≠ e->h.get? b=some u->h'.get? b=some u)(c:∃ u,h'.get? e=some u):Un fs ex H (upd H x o) h h':=by
 have d:∀ b,H b=none->b ≠ x:=λb n z=>by subst z;rw[n] at a;exact a
 have hb:∀ b,H b=none->b ≠ e:=λb n z=>by
  subst z
  rcases f with r|r
  ·exact d b n r
  ·rw[n] at r;cases r
 have hm:∀ b u,H b=some u->¬ Mut (some u)->b ≠ x:=λb u q nm z=>by subst z;rw[q] at a;exact nm a
 refine⟨λb u q n _ _=>k b u (hb b n) q,λb u q n _ _=>⟨u.slots,k b u (hb b n) q⟩,λb u q n _=>by rw[aaf (d b n)];exact n,λb u q _=>?_,
  λb xs q=>by rw[aaf (hm b _ q λz=>z)];exact q,λb u xs q=>by rw[aaf (hm b _ q λz=>z)];exact q,λb ps q=>⟨#[],by rw[aaf (hm b _ q λz=>z),q];simp⟩⟩
 by_cases hbe:b=e
 ·subst hbe;exact c
 ·exact⟨u,k b u hbe q⟩
end
def trk(h:Heap)(H:Hp):List Addr:=(List.range h.objs.size).filter λa=>(H a).isSome
def hidT(h:Heap)(H:Hp):Heap:=PySem.W.hideAll h (trk h H)
theorem arh(h:Heap)(H:Hp):(hidT h H).objs.size=h.objs.size:=PySem.W.hideAll_size _ _
theorem atz{h:Heap}{H:Hp}{b:Addr}{o:Obj}(e:h.get? b=some o)(n:H b=none):(hidT h H).get? b=some o :=
 PySem.W.hideAll_get _ e λhm=>by
  have q:(H b).isSome=true:=(aE2.mp hm).2
  rw[n] at q;simp at q
theorem aw3{h:Heap}{H:Hp}{b:Addr}{o:Obj}(e:(hidT h H).get? b=some o):h.get? b=some o/\H b=none:=by
 have a:h.get? b=some o:=PySem.W.of_hideAll (trk h H) e
 refine⟨a,?_⟩
 cases q:H b with
 |none=>rfl
 | some x =>
  have hm:b∈trk h H:=aE2.mpr ⟨aB9.mpr (aJ4 a),by simp[q]⟩
  have z:(hidT h H).get? b=none:=PySem.W.hideAll_none (trk h H) hm
  rw[z] at e;cases e
def ae7(g h:Heap)(L:Addr):List (Addr × Obj):=(List.range h.objs.size).filterMap λa=>if a=L\/(g.get? a).isSome=true then none else (h.get? a).map λo=>(a,o)
theorem an2{g h:Heap}{L a:Addr}{o:Obj}(c:a ≠ L)(d:g.get? a=none)(b:h.get? a=some o):(a,o)∈ae7 g h L :=
 List.mem_filterMap.mpr ⟨a,aB9.mpr (aJ4 b),by simp[c,d,b]⟩
theorem ai1{g h:Heap}{L:Addr}{p:Addr × Obj}(a:p∈ae7 g h L):p.1 ≠ L/\g.get? p.1=none/\h.get? p.1=some p.2:=by
 obtain⟨b,_,e⟩:=List.mem_filterMap.mp a
 split at e
 ·cases e
 ·rename_i hn
  cases q:h.get? b with
  |none=>rw[q] at e;simp at e
  | some u =>
   rw[q] at e
   simp only[aI2,Option.some.injEq] at e
   subst e
   refine⟨λz=>hn (.inl z),?_,q⟩
   show g.get? b=none
   cases r:g.get? b with
   |none=>rfl
   |some v=>exact(hn (.inr (by simp[r]))).elim
def rest(g h:Heap)(L d:Addr):List (Addr × Obj):=(ae7 g h L).filter λp=>decide (p.1 ≠ d)
theorem at3{g h:Heap}{L:Addr}:News g L h (ae7 g h L):=λp d=>let ⟨a,b,c⟩:=ai1 d;⟨c,a,b⟩
def lamN:Str:="best_few"
def lamQ:Str:="best_few.<locals>.<lambda>"
def awb(mg:Str->Option Value)(h:Heap):Prop:=∃ bm ob,mg "__builtins__" = some (.ref bm)/\bm ≠ builtinsNs/\h.get? bm=some ob/\ob.cls=.type "module"/\ob.dict=some builtinsNs/\ob.data=.plain
def TabsOk(K:Frag)(H:Hp):Prop:=∀ c P,PySem.W.tabIn K lamN=some (c,P)->∃ more,H P=some (.tbl (#[.str lamQ 0]++more))
structure Mod(K:Frag)(mg:Str->Option Value)(base:Heap):Prop where
 kin:K.In base
 glob:base.Ns mainGlobals mg
 blt:∃ mb,base.Ns builtinsNs mb/\∀ x:Str,x ≠ "__name__"->mb x=bootBuiltins x
 nolimit:base.NoLimit
 bmain:awb mg base
/-- the context: a def's body (or a comprehension's block) running. base: fixed through the whole law; s₀, H₀: the entry; outer: the frames whose slots others may change (a def's callers); stack: all frames that run;
  ex: iterators that were made ahead of the entry and are walked here (a comprehension's);fn: the names whose cells were made at the entry (a def: all;a comprehension's block: its own);calm: not within an except suite;pn: pins that every state bears;xe: what is wanted of an exception that leaves the code -/
structure Cx where
 prog:Program
 w:World
 K:Frag
 mg:Str->Option Value
 base:Heap
 A:Around
 N:List Str
 s₀:Shared
 H₀:Hp
 env:Env
 outer:List Env
 stack:List Env
 ex:List Addr
 fn:Str->Bool
 calm:Bool
 pn:List (Addr × Obj)
 xe:Value->Shared->Prop
def frs(l:List Env):List Addr:=l.filterMap (·.frame)
abbrev Cx.fs(X:Cx):List Addr:=frs X.outer
def Vis(sc:Scope)(x:Str):Prop:=sc.names.lookup x=some .local\/sc.names.lookup x=some .cell\/sc.names.lookup x=some .free
def Loc(sc:Scope)(x:Str):Prop:=sc.names.lookup x=some .local\/sc.names.lookup x=some .cell
def Look(env:Env)(h:Heap)(m:Str->Option Value)(x:Str)(u:Value):Prop :=
 (env.kindOf x=some .local/\m x=some u)\/((env.kindOf x=some .cell\/env.kindOf x=some .free)/\∃ c,env.cells.lookup x=some c/\h.IsCell c (some u))
structure Cx.Ok(X:Cx):Prop where
 mod:Mod X.K X.mg X.base
 kind:X.env.scope.kind=.function
 glob:X.env.globals=mainGlobals
 blt:X.env.builtins=builtinsNs
 above:X.s₀.heap.objs.size<=X.env.locals
 inj:∀ x y c,X.env.cells.lookup x=some c->X.env.cells.lookup y=some c->x=y
 has:∀ x,(X.env.kindOf x=some .cell\/X.env.kindOf x=some .free)->∃ c,X.env.cells.lookup x=some c
 cab:∀ x c,X.fn x=true->X.env.cells.lookup x=some c->X.s₀.heap.objs.size<=c
 hd:X.calm=true->X.A.handled=none
 frames:X.A.frames=some X.stack
 stk:X.stack=X.outer\/(X.stack=X.env::X.outer/\X.env.frame=some X.env.locals)
 exf:∀ b∈X.ex,b ≠ X.env.locals/\∀ x c,X.env.cells.lookup x=some c->c ≠ b
 bs:∀ b o,X.base.get? b=some o->X.s₀.heap.get? b=some o/\X.H₀ b=none
 bsz:X.base.objs.size<=X.s₀.heap.objs.size
 noex:∀ b o,X.base.get? b=some o->b ∉ X.ex
 exfs:∀ b∈X.ex,b ∉ X.fs
 funs:X.s₀.heap.FunFrames X.base X.outer
 frf:∀ b∈X.fs,X.H₀ b=none
 tab:TabsOk X.K X.H₀
structure Inv(X:Cx)(pins:List (Addr × Obj))(σ:List (Option V))(H:Hp)(s:Shared):Prop where
 ok:X.Ok
 os:s.os=X.s₀.os
 bare:AllBare s.gens
 base:Un X.fs X.ex X.H₀ H X.s₀.heap s.heap
 loc:∃ m,s.heap.Ns X.env.locals m/\∀(i:Nat)(x:Str)(v:V),X.N[i]?=some x->σ[i]?=some (some v)->Vis X.env.scope x->∃ u,RelV v u/\Look X.env s.heap m x u
 cell:∀ x c,X.env.cells.lookup x=some c->∃ v,s.heap.IsCell c v
 free:H X.env.locals=none
 freeC:∀ x c,X.env.cells.lookup x=some c->H c=none
 pin:∀ p∈X.pn++pins,s.heap.get? p.1=some p.2/\H p.1=none/\p.1 ≠ X.env.locals/\p.1 ∉ X.fs/\∀ v,p.2.data ≠ .cell v
 hok:HOk X.prog X.w H s.heap
 len : σ.length=X.N.length
section
variable{X:Cx}{pins:List (Addr × Obj)}{σ:List (Option V)}{H H':Hp}{s:Shared}{h':Heap}
theorem Cx.Ok.nofr(ok:X.Ok){b:Addr}{o:Obj}(e:X.base.get? b=some o):b ∉ X.fs:=λhb=>by
 have:=(ok.funs.mem hb).1
 rw[e] at this;cases this
theorem Inv.bs(I:Inv X pins σ H s):∀ b o,X.base.get? b=some o->s.heap.get? b=some o/\H b=none:=λb o e =>
 ⟨I.base.keep b o (I.ok.bs b o e).1 (I.ok.bs b o e).2 (I.ok.nofr e) (I.ok.noex b o e),I.base.free b o (I.ok.bs b o e).1 (I.ok.bs b o e).2 (I.ok.noex b o e)⟩
theorem Inv.bk(I:Inv X pins σ H s):∀ b o,X.base.get? b=some o->s.heap.get? b=some o:=λb o e=>(I.bs b o e).1
theorem Inv.mod(I:Inv X pins σ H s):Mod X.K X.mg X.base:=I.ok.mod
theorem Inv.kIn(I:Inv X pins σ H s):X.K.In s.heap:=I.ok.mod.kin.keeps I.bk
theorem Inv.fr(I:Inv X pins σ H s):∃ m,Fr X.base X.env.locals s.heap m :=
 let ⟨m,hn,_⟩:=I.loc
 ⟨m,hn,I.bk,aD0 I.ok.bsz I.ok.above⟩
theorem Inv.lt(I:Inv X pins σ H s):X.env.locals<s.heap.objs.size:=let ⟨_,hn,_⟩:=I.loc;hn.lt
theorem Inv.sz(I:Inv X pins σ H s):X.s₀.heap.objs.size<=s.heap.objs.size:=aD0 I.ok.above (aG6 I.lt)
theorem Inv.nofs(I:Inv X pins σ H s){a:Addr}(h:s.heap.objs.size<=a):a ∉ X.fs:=λhb=>by
 obtain⟨_,o,b,_⟩:=I.ok.funs.mem hb
 exact absurd (aC5 (aJ4 b) (aD0 I.sz h)) (aG5 _)
theorem Inv.cne(I:Inv X pins σ H s):∀ x c,X.env.cells.lookup x=some c->c ≠ X.env.locals:=λx c e z=>by
 obtain⟨v,o,d,hd⟩:=I.cell x c e
 obtain⟨m,⟨o',es,ep,a,b,_⟩,_⟩:=I.loc
 rw[z,a] at d;cases d;rw[b] at hd;cases hd
theorem Inv.funs(I:Inv X pins σ H s):s.heap.FunFrames X.base X.outer:=by
 have all:∀(l:List Env),(∀ b∈frs l,b∈X.fs)->X.s₀.heap.FunFrames X.base l->s.heap.FunFrames X.base l:=by
  intro l
  induction l with
  |nil=>intro _ _;trivial
  | cons env r ih =>
   intro hs d
   obtain⟨c,⟨L,o,hf,hn,g,hd⟩,f⟩:=d
   have a:L∈X.fs:=hs L (by unfold frs;rw[List.filterMap_cons,hf];exact aB8)
   obtain⟨sl,e⟩:=I.base.slot L o g (I.ok.frf L a) a λz=>I.ok.exfs L z a
   exact⟨c,⟨L,_,hf,hn,e,hd⟩,ih (λb hb=>hs b (by unfold frs;rw[List.filterMap_cons,hf];exact aB5 _ hb)) f⟩
 exact all X.outer (λ_ hb=>hb) I.ok.funs
theorem TabsOk.un{K:Frag}{fs ex:List Addr}{H H':Hp}{h h':Heap}(t:TabsOk K H)(u:Un fs ex H H' h h'):TabsOk K H':=λc P e =>
 let ⟨m,q⟩:=t c P e
 let ⟨a,b⟩:=u.tbls P _ q
 ⟨m++a,by rw[b,Array.append_assoc]⟩
theorem Inv.tab(I:Inv X pins σ H s):TabsOk X.K H:=I.ok.tab.un I.base
theorem Inv.stack(I:Inv X pins σ H s):s.heap.FunFrames X.base X.stack:=by
 rcases I.ok.stk with e|⟨e,hf⟩
 ·rw[e];exact I.funs
 ·rw[e]
  obtain⟨m,hn,_⟩:=I.loc
  refine .cons (by rw[I.ok.kind];decide) hf hn ?_ I.funs
  exact Heap.get?_none_of_le (aD0 I.ok.bsz I.ok.above)
theorem Inv.stkSub(I:Inv X pins σ H s):∀ b∈frs X.stack,b∈X.env.locals::X.fs:=λb hb=>by
 rcases I.ok.stk with e|⟨e,hf⟩
 ·rw[e] at hb;exact aB5 _ hb
 ·rw[e] at hb
  unfold frs at hb
  rw[List.filterMap_cons,hf] at hb
  exact hb
theorem Inv.stkFree(I:Inv X pins σ H s):∀ b∈frs X.stack,H b=none:=λb hb=>by
 rcases aA9.mp (I.stkSub b hb) with e|hb
 ·rw[e];exact I.free
 ·obtain⟨_,o,a,_⟩:=I.ok.funs.mem hb
  exact I.base.free b o a (I.ok.frf b hb) λz=>I.ok.exfs b z hb
theorem Inv.step{g':Array GenState}{t':Nat}{d':Drawn}{ch:List Addr}(I:Inv X pins σ H s)
  (g:∀ b∈ch,(b∈X.ex\/X.s₀.heap.objs.size<=b)/\b ≠ X.env.locals/\(∀ x c,X.env.cells.lookup x=some c->c ≠ b)/\∀ p∈X.pn++pins,p.1 ≠ b)
  (keep:∀ b o,b ≠ X.env.locals->b ∉ X.fs->b ∉ ch->s.heap.get? b=some o->H b=none->h'.get? b=some o)
  (slot:∀ b o,b ≠ X.env.locals->b∈X.fs->b ∉ ch->s.heap.get? b=some o->H b=none->∃ sl,h'.get? b=some { o with slots:=sl }) (free:∀ b o,b ∉ ch->s.heap.get? b=some o->H b=none->H' b=none)
  (there:∀ b o,b ∉ ch->s.heap.get? b=some o->∃ o',h'.get? b=some o')
  (tups:∀ b xs,H b=some (.tup xs)->H' b=some (.tup xs)) (frzs:∀ b o u,H b=some (.frz o u)->H' b=some (.frz o u)) (tbls:∀ b ps,H b=some (.tbl ps)->∃ more,H' b=some (.tbl (ps++more)))
  (ns:∀ m,s.heap.Ns X.env.locals m->h'.Ns X.env.locals m) (hok:HOk X.prog X.w H' h') (K:AllBare g') :
  Inv X pins σ H' { s with heap:=h',gens:=g',drawn:=d',toks:=t' }:=by
 have B:∀ b o,X.s₀.heap.get? b=some o->b ≠ X.env.locals:=λb o e=>aB6 (aC5 (aJ4 e) I.ok.above)
 have j:∀ b o,X.s₀.heap.get? b=some o->b ∉ X.ex->b ∉ ch:=λb o e a hb=>by
  rcases(g b hb).1 with z|z
  ·exact a z
  ·exact absurd (aC5 (aJ4 e) z) (aG5 _)
 have h:∀ x c,X.env.cells.lookup x=some c->∀ v,s.heap.IsCell c v->h'.IsCell c v:=λx c e v J=>by
  obtain⟨o,A,hd⟩:=J
  have f:c ∉ ch:=λz=>(g c z).2.2.1 x c e rfl
  by_cases hc:c∈X.fs
  ·obtain⟨sl,q⟩:=slot c o (I.cne x c e) hc f A (I.freeC x c e)
   exact⟨_,q,hd⟩
  ·exact⟨o,keep c o (I.cne x c e) hc f A (I.freeC x c e),hd⟩
 refine⟨I.ok,I.os,K,⟨λb o e n hb a=>?_,λb o e n hb a=>?_,λb o e n a=>?_,λb o e a=>?_,λb xs e=>tups b xs (I.base.tups b xs e),λb o xs e=>frzs b o xs (I.base.frzs b o xs e),λb ps e=>?_⟩,?_,λx c e=>?_,?_,λx c e=>?_,λp F=>?_,hok,I.len⟩
 ·exact keep b o (B b o e) hb (j b o e a) (I.base.keep b o e n hb a) (I.base.free b o e n a)
 ·obtain⟨sl,y⟩:=I.base.slot b o e n hb a
  obtain⟨D,C⟩:=slot b _ (B b o e) hb (j b o e a) y (I.base.free b o e n a)
  exact⟨D,C⟩
 ·obtain⟨o',y⟩:=I.base.there b o e a
  exact free b o' (j b o e a) y (I.base.free b o e n a)
 ·obtain⟨o',y⟩:=I.base.there b o e a
  exact there b o' (j b o e a) y
 ·obtain⟨M,y⟩:=I.base.tbls b ps e
  obtain⟨G,C⟩:=tbls b _ y
  exact⟨M++G,by rw[C,Array.append_assoc]⟩
 ·obtain⟨m,hn,L⟩:=I.loc
  refine⟨m,ns m hn,λi x v y C N=>?_⟩
  obtain⟨u,r,l⟩:=L i x v y C N
  refine⟨u,r,?_⟩
  rcases l with l|⟨k,c,e,z⟩
  ·exact .inl l
  ·exact .inr ⟨k,c,e,h x c e _ z⟩
 ·obtain⟨v,z⟩:=I.cell x c e
  exact⟨v,h x c e v z⟩
 ·obtain⟨m,⟨o,_,_,A,_⟩,_⟩:=I.loc
  exact free _ o (λz=>(g _ z).2.1 rfl) A I.free
 ·obtain⟨v,o,A,hd⟩:=I.cell x c e
  exact free c o (λz=>(g c z).2.2.1 x c e rfl) A (I.freeC x c e)
 ·obtain⟨e,n,ne,E,d⟩:=I.pin p F
  have f:p.1 ∉ ch:=λz=>(g p.1 z).2.2.2 p F rfl
  exact⟨keep p.1 p.2 ne E f e n,free p.1 p.2 f e n,ne,E,d⟩
theorem Inv.un{t':Nat}(I:Inv X pins σ H s)(u:Un X.fs [] H H' s.heap h')(hok:HOk X.prog X.w H' h'):Inv X pins σ H' { s with heap:=h',toks:=t' }:=by
 obtain⟨m,⟨o,es,ep,d,r⟩,_⟩:=id I.loc
 obtain⟨sl,f⟩:=u.any d I.free (by simp)
 exact I.step (g':=s.gens) (d':=s.drawn) (ch:=[]) (λ_ z=>nomatch z) (λb o _ hb _ e n=>u.keep b o e n hb (by simp)) (λb o _ hb _ e n=>u.slot b o e n hb (by simp)) (λb o _ e n=>u.free b o e n (by simp)) (λb o _ e=>u.there b o e (by simp)) u.tups u.frzs u.tbls (λh hm=>by
  obtain⟨o',es',c,a,g⟩:=hm
  rw[d] at a;cases a
  exact⟨_,es',c,f,g⟩) hok I.bare
theorem Inv.call{g':Array GenState}{t':Nat}{d':Drawn}{ch:List Addr}(I:Inv X pins σ H s)(u:Un (frs X.stack) ch H H' s.heap h')(hok:HOk X.prog X.w H' h')(j:AllBare g')
  (f:∀ b∈ch,(b∈X.ex\/X.s₀.heap.objs.size<=b)/\b ≠ X.env.locals/\(∀ x c,X.env.cells.lookup x=some c->c ≠ b)/\∀ p∈X.pn++pins,p.1 ≠ b) :
  Inv X pins σ H' { s with heap:=h',gens:=g',drawn:=d',toks:=t' }:=by
 obtain⟨m,⟨o,es,ep,i,r⟩,_⟩:=id I.loc
 obtain⟨sl,h⟩:=u.any i I.free λz=>(f _ z).2.1 rfl
 exact I.step (ch:=ch) f (λb o h hb a e n=>u.keep b o e n (λz=>(aA9.mp (I.stkSub b z)).elim h hb) a) (λb o _ _ a e n=>u.any e n a) (λb o a e n=>u.free b o e n a) (λb o a e=>u.there b o e a) u.tups u.frzs u.tbls (λq hm=>by
  obtain⟨o',es',g,d,l⟩:=hm
  rw[i] at d;cases d
  exact⟨_,es',g,h,l⟩) hok j
theorem Inv.turned{t':Nat}{it:Addr}(I:Inv X pins σ H s)(k:∀ b o,b ≠ it->s.heap.get? b=some o->h'.get? b=some o)(hn:H it=none)(f:it ≠ X.env.locals)
  (h:it∈X.ex\/X.s₀.heap.objs.size<=it) (g:∀ x c,X.env.cells.lookup x=some c->c ≠ it) (i:∀ p∈X.pn++pins,p.1 ≠ it):Inv X pins σ H { s with heap:=h',toks:=t' }:=by
 have d:∀ b u,H b=some u->b ≠ it:=λb u e z=>by rw[z,hn] at e;cases e
 refine I.step (g':=s.gens) (d':=s.drawn) (ch:=[it]) (λb hb=>?_) (λb o _ _ a e _=>k b o (λz=>a (by simp[z])) e) (λb o _ _ a e _=>⟨o.slots,k b o (λz=>a (by simp[z])) e⟩) (λ_ _ _ _ n=>n)
  (λb o a e=>⟨o,k b o (λz=>a (by simp[z])) e⟩) (λ_ _ e=>e) (λ_ _ _ e=>e) (λb ps e=>⟨#[],by rw[e];simp⟩) (λm hm=>?_) (λb u e=>?_) I.bare
 ·have e:b=it:=by simpa using hb
  subst e
  exact⟨h,f,g,i⟩
 ·obtain⟨o,es,ep,j,r⟩:=hm
  exact⟨o,es,ep,k _ o (Ne.symm f) j,r⟩
 ·refine(I.hok b u e).stay (λc v a q=>k c v ?_ q) (λ_ q=>q) λ_ _ q=>q
  rcases a with z|z
  ·rw[z];exact d b u e
  ·exact d c _ z
theorem Inv.tok(I:Inv X pins σ H s)(t:Nat):Inv X pins σ H { s with toks:=t }:=I.un (h':=s.heap) (t':=t) Un.refl I.hok
theorem Inv.kept{t':Nat}(I:Inv X pins σ H s)(k:∀ b u,s.heap.get? b=some u->h'.get? b=some u):Inv X pins σ H { s with heap:=h',toks:=t' }:=I.un (Un.kept k) (I.hok.kept k)
theorem Inv.laid{a:Addr}{o:HO}{t':Nat}(I:Inv X pins σ H s)(k:∀ b u,s.heap.get? b=some u->h'.get? b=some u)(c:s.heap.objs.size<=a)(new:ObjOk X.prog X.w (upd H a o) h' a o) :
  Inv X pins σ (upd H a o) { s with heap:=h',toks:=t' }:=I.un (Un.laid k c (I.hok.fresh c)) (I.hok.laid k c new)
theorem Inv.write{x e:Addr}{o:HO}{t':Nat}(I:Inv X pins σ H s)(d:Mut (H x))(c:e=x\/H e=some (.own x))(k:∀ b u,b ≠ e->s.heap.get? b=some u->h'.get? b=some u)(a:∃ u,h'.get? e=some u)
  (new:ObjOk X.prog X.w (upd H x o) h' x o):Inv X pins σ (upd H x o) { s with heap:=h',toks:=t' }:=I.un (Un.write d c k a) (I.hok.write d c k a new)
theorem Inv.pins_of{a:List (Addr × Obj)}(I:Inv X pins σ H s)(h:∀ p∈a,s.heap.get? p.1=some p.2/\H p.1=none/\p.1 ≠ X.env.locals/\p.1 ∉ X.fs/\∀ v,p.2.data ≠ .cell v):Inv X a σ H s :=
 ⟨I.ok,I.os,I.bare,I.base,I.loc,I.cell,I.free,I.freeC,λp b=>(aA7.mp b).elim (λz=>I.pin p (aC7 _ z)) (h p),I.hok,I.len⟩
theorem nodup_ix{N:List Str}(d:N.Nodup){i j:Nat}{x:Str}(a:N[i]?=some x)(b:N[j]?=some x):i=j:=by
 obtain⟨g,f⟩:=aA1.mp a
 obtain⟨h,c⟩:=aA1.mp b
 exact(List.getElem_inj d).mp (f.trans c.symm)
theorem aju{M:Model}{A:Around}{E:Value->Shared->Prop}{i:Nat}{x:Str}{v:V}{u:Value}{Q:Unit->Shared->Prop}(I:Inv X pins σ H s)(hN:X.N.Nodup)(hi:X.N[i]?=some x)(B:Loc X.env.scope x)(r:RelV v u)
  (h:∀ s',Inv X pins (σ.set i (some v)) H s'->(∃ a,Heap.SameBut a s.heap s'.heap/\(a=X.env.locals\/X.env.cells.lookup x=some a))->Q () s') (hf:X.fn x=true\/X.env.scope.names.lookup x=some .local:=by first|exact .inl rfl|exact .inr rfl|assumption):wpAny M A (storeName X.env x u) Q E s:=by
 obtain⟨m,hn,hl⟩:=id I.loc
 have O:(X.env.scope.kind == .class || (X.env.scope.kind == .module && X.env.locals != X.env.globals))=false:=by rw[I.ok.kind];rfl
 have F:i<σ.length:=by rw[I.len];exact(aA1.mp hi).1
 have cne:=I.cne
 have f:∀{a:Addr}{h':Heap},(∃ o,s.heap.get? a=some o/\H a=none)->Heap.SameBut a s.heap h'->HOk X.prog X.w H h':=λ{a h'} ha hs b ob e=>by
  obtain⟨_,_,C⟩:=ha
  refine(I.hok b ob e).stay (λc R l q=>(hs.2 c ?_).trans q) (λ_ q=>q) λ_ _ q=>q
  rintro rfl
  rcases l with rfl|l
  ·rw[C] at e;cases e
  ·rw[C] at l;cases l
 rcases B with G|G
 ·refine wpAny_storeName_local G hn (λh' Z hs=>?_) O
  obtain⟨oL,_,_,a0,_⟩:=id hn
  refine h _ ⟨I.ok,I.os,I.bare,⟨λb o e n hb B=>?_,λb o e n hb B=>?_,I.base.free,λb o e B=>?_,I.base.tups,I.base.frzs,I.base.tbls⟩,⟨_,Z,λj y v' g D e3=>?_⟩,λy c e=>?_,I.free,I.freeC,λp W=>?_,f ⟨oL,a0,I.free⟩ hs,by simpa using I.len⟩ ⟨_,hs,.inl rfl⟩
  ·exact(hs.2 b (aB6 (aC5 (aJ4 e) I.ok.above))).trans (I.base.keep b o e n hb B)
  ·obtain⟨sl,g⟩:=I.base.slot b o e n hb B
   exact⟨sl,(hs.2 b (aB6 (aC5 (aJ4 e) I.ok.above))).trans g⟩
  ·obtain⟨o',g⟩:=I.base.there b o e B
   exact⟨o',(hs.2 b (aB6 (aC5 (aJ4 e) I.ok.above))).trans g⟩
  ·by_cases hj:j=i
   ·subst hj
    rw[hi] at g;cases g
    rw[List.getElem?_set_self F] at D
    cases D
    exact⟨u,r,.inl ⟨G,by simp⟩⟩
   ·rw[List.getElem?_set_ne (Ne.symm hj)] at D
    obtain⟨T,Y,q⟩:=hl j y v' g D e3
    refine⟨T,Y,?_⟩
    rcases q with ⟨k,e⟩|⟨k,c,e,z⟩
    ·refine .inl ⟨k,?_⟩
     have:y ≠ x:=λe=>hj (nodup_ix hN g (e ▸ hi))
     simp[this,e]
    ·exact .inr ⟨k,c,e,z.sameBut hs (cne y c e)⟩
  ·obtain⟨R,z⟩:=I.cell y c e
   exact⟨R,z.sameBut hs (cne y c e)⟩
  ·obtain⟨e,n,ne,U,d⟩:=I.pin p W
   exact⟨(hs.2 p.1 ne).trans e,n,ne,U,d⟩
 ·have J:X.fn x=true:=by
   rcases hf with z|z
   ·exact z
   ·rw[z] at G;cases G
  obtain⟨c,l⟩:=I.ok.has x (.inl G)
  obtain⟨R,z⟩:=I.cell x c l
  refine wpAny_storeName_cell I.ok.kind G l z (λh' K hs=>?_)
  obtain⟨oc,P,L⟩:=id z
  refine h { s with heap:=h' } ⟨I.ok,I.os,I.bare,⟨λb o e n hb B=>?_,λb o e n hb B=>?_,I.base.free,λb o e B=>?_,I.base.tups,I.base.frzs,I.base.tbls⟩,⟨m,hn.sameBut hs (Ne.symm (cne x c l)),λj y v' g D e3=>?_⟩,λy S e=>?_,I.free,I.freeC,λp W=>?_,f ⟨oc,P,I.freeC x c l⟩ hs,by simpa using I.len⟩ ⟨c,hs,.inr l⟩
  ·exact(hs.2 b (aB6 (aC5 (aJ4 e) (I.ok.cab x c J l)))).trans (I.base.keep b o e n hb B)
  ·obtain⟨sl,g⟩:=I.base.slot b o e n hb B
   exact⟨sl,(hs.2 b (aB6 (aC5 (aJ4 e) (I.ok.cab x c J l)))).trans g⟩
  ·obtain⟨o',g⟩:=I.base.there b o e B
   exact⟨o',(hs.2 b (aB6 (aC5 (aJ4 e) (I.ok.cab x c J l)))).trans g⟩
  ·by_cases hj:j=i
   ·subst hj
    rw[hi] at g;cases g
    rw[List.getElem?_set_self F] at D
    cases D
    exact⟨u,r,.inr ⟨.inl G,c,l,K⟩⟩
   ·rw[List.getElem?_set_ne (Ne.symm hj)] at D
    obtain⟨T,Y,q⟩:=hl j y v' g D e3
    refine⟨T,Y,?_⟩
    rcases q with q|⟨k,S,e,z'⟩
    ·exact .inl q
    ·refine .inr ⟨k,S,e,z'.sameBut hs ?_⟩
     rintro rfl
     exact hj (nodup_ix hN g (I.ok.inj _ _ _ e l ▸ hi))
  ·by_cases hcc:S=c
   ·subst hcc;exact⟨_,K⟩
   ·obtain⟨w2,z2⟩:=I.cell y S e
    exact⟨w2,z2.sameBut hs hcc⟩
  ·obtain⟨e,n,ne,U,d⟩:=I.pin p W
   refine⟨(hs.2 p.1 ?_).trans e,n,ne,U,d⟩
   intro q
   rw[q,P] at e
   have q':oc=p.2:=aC6 e
   exact d R (by rw[← q'];exact L)
theorem ahj{M:Model}{A:Around}{E:Value->Shared->Prop}{i:Nat}{x:Str}{v:V}{u:Value}{Q:Unit->Shared->Prop}(I:Inv X pins σ H s)(c:X.N.Nodup)(hi:X.N[i]?=some x)(b:Loc X.env.scope x)(r:RelV v u)
  (h:∀ s',Inv X pins (σ.set i (some v)) H s'->Q () s') (hf:X.fn x=true\/X.env.scope.names.lookup x=some .local:=by first|exact .inl rfl|exact .inr rfl|assumption):wpAny M A (storeName X.env x u) Q E s :=
 aju I c hi b r (λs' a _=>h s' a) hf
theorem Inv.call'{s':Shared}{ch:List Addr}(I:Inv X pins σ H s)(d:s'.os=s.os)(u:Un (frs X.stack) ch H H' s.heap s'.heap)(hok:HOk X.prog X.w H' s'.heap)(f:AllBare s'.gens)
  (a:∀ b∈ch,(b∈X.ex\/X.s₀.heap.objs.size<=b)/\b ≠ X.env.locals/\(∀ x c,X.env.cells.lookup x=some c->c ≠ b)/\∀ p∈X.pn++pins,p.1 ≠ b):Inv X pins σ H' s':=by
 obtain⟨h',g',d',t',o'⟩:=s'
 have e:o'=s.os:=d
 subst e
 exact I.call (g':=g') (t':=t') (d':=d') u hok f a
end
abbrev XK:=Value->Option Addr->Hp->Prop
abbrev St:=List (Option V)
abbrev VK:=V->Hp->Prop
abbrev TE:=St->Hp->VK->Prop
abbrev TT:=St->Hp->(Bool->Hp->Prop)->Prop
abbrev TA:=St->Hp->(List V->Hp->Prop)->Prop
structure Ends where
 nx:St->Hp->Prop
 rt:VK
 bk:St->Hp->Prop:=λ_ _=>False
 ct:St->Hp->Prop:=λ_ _=>False
abbrev TS:=Ends->St->Hp->Prop
def EP(X:Cx)(pins:List (Addr × Obj))(σ:St)(Q:VK)(u:Value)(s':Shared):Prop:=∃ v H',Inv X pins σ H' s'/\RelV v u/\Q v H'
def TP(X:Cx)(pins:List (Addr × Obj))(σ:St)(Q:Bool->Hp->Prop)(b:Bool)(s':Shared):Prop:=∃ H',Inv X pins σ H' s'/\Q b H'
def AP(X:Cx)(pins:List (Addr × Obj))(σ:St)(Q:List V->Hp->Prop)(us:List Value)(s':Shared):Prop:=∃ vs H',Inv X pins σ H' s'/\Vals vs us/\Q vs H'
def SP(X:Cx)(pins:List (Addr × Obj))(D:Ends)(f:Flow)(s':Shared):Prop :=
 match f with
 | .next=>∃ σ' H',Inv X pins σ' H' s'/\D.nx σ' H'
 | .brk=>∃ σ' H',Inv X pins σ' H' s'/\D.bk σ' H'
 | .cont=>∃ σ' H',Inv X pins σ' H' s'/\D.ct σ' H'
 | .ret u=>∃ v σ' H',Inv X pins σ' H' s'/\RelV v u/\D.rt v H'
def PE(X:Cx)(e:Expr)(t:TE):Prop :=
 ∀(pins:List (Addr × Obj))(s:Shared)(σ:St)(H:Hp)(Q:VK),Inv X pins σ H s->t σ H Q->wpAny (model X.prog X.w) X.A (eval e X.env) (EP X pins σ Q) X.xe s
def PT(X:Cx)(e:Expr)(t:TT):Prop :=
 ∀(pins:List (Addr × Obj))(s:Shared)(σ:St)(H:Hp)(Q:Bool->Hp->Prop),Inv X pins σ H s->t σ H Q->wpAny (model X.prog X.w) X.A (isTrue e X.env (eval e X.env)) (TP X pins σ Q) X.xe s
def PW(X:Cx)(e:Expr)(t:TT):Prop :=
 ∀(whole:Sem Value)(pins:List (Addr × Obj))(s:Shared)(σ:St)(H:Hp)(Q:Bool->Hp->Prop),Inv X pins σ H s->t σ H Q->wpAny (model X.prog X.w) X.A (isTrue e X.env whole) (TP X pins σ Q) X.xe s
theorem PW.pt{X:Cx}{e:Expr}{t:TT}(h:PW X e t):PT X e t:=h _
def PA(X:Cx)(es:List Expr)(t:TA):Prop :=
 ∀(pos:Pos)(pins:List (Addr × Obj))(s:Shared)(σ:St)(H:Hp)(Q:List V->Hp->Prop),Inv X pins σ H s->t σ H Q->wpAny (model X.prog X.w) X.A (spliced (backTo pos (starEach es X.env))) (AP X pins σ Q) X.xe s
def PS(X:Cx)(st:Stmt)(t:TS):Prop :=
 ∀(pins:List (Addr × Obj))(s:Shared)(σ:St)(H:Hp)(D:Ends),Inv X pins σ H s->t D σ H->wpAny (model X.prog X.w) X.A (exec st X.env) (SP X pins D) X.xe s
def PSs(X:Cx)(st:List Stmt)(t:TS):Prop :=
 ∀(pins:List (Addr × Obj))(s:Shared)(σ:St)(H:Hp)(D:Ends),Inv X pins σ H s->t D σ H->wpAny (model X.prog X.w) X.A (execs st X.env) (SP X pins D) X.xe s
theorem thn{α:Type}{t:Sem α}{Q b : α->Shared->Prop}{M:Model}{A:Around}{E:Value->Shared->Prop}{s:Shared}(h:wpAny M A t Q E s)(c:∀ a s,Q a s->b a s):wpAny M A t b E s:=aK0 h c λ_ _ x=>x
section
variable{X:Cx}
def tVar(i:Nat):TE:=λσ H Q=>∃ v,σ[i]?=some (some v)/\Q v H
def tC(v:V):TE:=λ_ H Q=>Q v H
theorem azp{i:Nat}{x:Str}{pos:Pos}(g:X.N[i]?=some x)(j:Vis X.env.scope x)(hd:(x == ("__debug__" : Str))=false:=by decide)(d:(x == ("__classdict__" : Str))=false:=by decide):PE X (.Name x pos) (tVar i):=by
 intro pins s σ H Q I h
 obtain⟨v,e,h⟩:=h
 obtain⟨m,hn,n⟩:=I.loc
 obtain⟨u,r,l⟩:=n i x v g e j
 have fin:EP X pins σ Q u s:=⟨v,H,I,r,h⟩
 rcases l with ⟨b,hm⟩|⟨b,c,f,a⟩
 ·exact wpAny_Name (wpAny_loadName_local I.ok.kind b hn hm fin) hd
 ·rcases b with b|b
  ·exact wpAny_Name (wpAny_loadName_cell I.ok.kind b f a fin) hd
  ·exact wpAny_Name (wpAny_loadName_free I.ok.kind b f a fin d) hd
theorem aac{i j pos}:PE X (.Constant (.int i) j pos) (tC (.int i)):=λ_ _ _ H _ I h=>wpAny_Constant_int ⟨.int i,H,I.tok _,⟨_,rfl⟩,h⟩
theorem ac1{b j pos}:PE X (.Constant (.bool b) j pos) (tC (.bl b)):=λ_ _ _ H _ I h=>Constant_bool ⟨.bl b,H,I,rfl,h⟩
theorem af4{j pos}:PE X (.Constant .none j pos) (tC .non):=λ_ _ _ H _ I h=>Constant_none ⟨.non,H,I,rfl,h⟩
def Gl(X:Cx)(x:Str):Prop:=X.env.kindOf x=some .globalImplicit
theorem aoi{E:Value->Shared->Prop}{pins:List (Addr × Obj)}{s:Shared}{σ:St}{H:Hp}{x:Str}{u:Value}{pos:Pos}{Q:Value->Shared->Prop}(I:Inv X pins σ H s)(a:Gl X x)(hm:X.mg x=some u)(h:Q u s)
  (hd:(x == ("__debug__" : Str))=false:=by decide):wpAny (model X.prog X.w) X.A (eval (.Name x pos) X.env) Q E s :=
 Calls.Name_function_global I.ok.kind a (Calls.loadGlobal_global (by rw[I.ok.glob];exact I.mod.glob.keeps I.bk) hm h) hd
theorem acu{E:Value->Shared->Prop}{pins:List (Addr × Obj)}{s:Shared}{σ:St}{H:Hp}{x:Str}{u:Value}{pos:Pos}{Q:Value->Shared->Prop}(I:Inv X pins σ H s)(b:Gl X x)(hm:X.mg x=none)(c:bootBuiltins x=some u)(h:Q u s)
  (hn:x ≠ "__name__":=by decide) (hd:(x == ("__debug__" : Str))=false:=by decide):wpAny (model X.prog X.w) X.A (eval (.Name x pos) X.env) Q E s:=by
 obtain⟨mb,d,a⟩:=I.mod.blt
 exact Calls.Name_function_global I.ok.kind b (Calls.loadGlobal_builtin (by rw[I.ok.glob];exact I.mod.glob.keeps I.bk) hm (by rw[I.ok.blt];exact d.keeps I.bk) ((a x hn).trans c) h) hd
theorem aoj{x:Str}{v:V}{u:Value}{pos:Pos}(a:Gl X x)(hm:X.mg x=some u)(r:RelV v u)(hd:(x == ("__debug__" : Str))=false:=by decide):PE X (.Name x pos) (tC v) :=
 λ_ _ _ H _ I h=>aoi I a hm ⟨v,H,I,r,h⟩ hd
theorem agq{x:Str}{v:V}{u:Value}{pos:Pos}(a:Gl X x)(hm:X.mg x=none)(b:bootBuiltins x=some u)(r:RelV v u)(hn:x ≠ "__name__":=by decide)(hd:(x == ("__debug__" : Str))=false:=by decide):PE X (.Name x pos) (tC v) :=
 λ_ _ _ H _ I h=>acu I a hm b ⟨v,H,I,r,h⟩ hn hd
variable{a b:Expr}{ta tb:TE}{pos:Pos}
def tB(t:TE):TT:=λσ H Q=>t σ H λx H1=>∃ c,x=.bl c/\Q c H1
theorem aeg{e:Expr}{t:TE}(h:PE X e t)(a:∀ whole,isTrue e X.env whole=(do let v ← whole;standAt e.pos;holding [v] (truthy v)):=by intro _;rfl):PT X e (tB t):=by
 intro pins s σ H Q I c
 refine isTrue_plain (thn (h pins s σ H _ I c) λv s1 ⟨x,b,f,i,g⟩=>?_) (a _)
 obtain⟨d,rfl,q⟩:=g
 cases i
 exact aK5 ⟨b,f,q⟩
variable{tA tB':TT}{rest:List Expr}
def tAnd(t u:TT):TT:=λσ H Q=>t σ H λc H1=>if c=true then u σ H1 Q else Q false H1
def tOr(t u:TT):TT:=λσ H Q=>t σ H λc H1=>if c=true then Q true H1 else u σ H1 Q
def tNot(t:TT):TT:=λσ H Q=>t σ H λc H1=>Q (!c) H1
theorem agr(ha:PT X a tA):PW X (.BoolOp .And [a] pos) tA:=by
 intro b pins s σ H Q I h
 refine isTrue_and (thn (ha pins s σ H Q I h) λc s1 e=>?_)
 cases c with
 |true=>exact isTrue_and_nil e
 |false=>exact e
theorem ah1(ha:PT X a tA):PW X (.BoolOp .Or [a] pos) tA:=by
 intro b pins s σ H Q I h
 refine isTrue_or (thn (ha pins s σ H Q I h) λc s1 e=>?_)
 cases c with
 |false=>exact isTrue_or_nil e
 |true=>exact e
theorem ah2(ha:PT X a tA)(hb:PW X (.BoolOp .And (b::rest) pos) tB'):PW X (.BoolOp .And (a::b::rest) pos) (tAnd tA tB'):=by
 intro i pins s σ H Q I h
 refine isTrue_and (thn (ha pins s σ H _ I h) λc s1 ⟨d,f,g⟩=>?_)
 cases c with
 |true=>exact hb i pins s1 σ d Q f g
 |false=>exact⟨d,f,g⟩
theorem ak9(ha:PT X a tA)(hb:PW X (.BoolOp .Or (b::rest) pos) tB'):PW X (.BoolOp .Or (a::b::rest) pos) (tOr tA tB'):=by
 intro i pins s σ H Q I h
 refine isTrue_or (thn (ha pins s σ H _ I h) λc s1 ⟨d,f,g⟩=>?_)
 cases c with
 |true=>exact⟨d,f,g⟩
 |false=>exact hb i pins s1 σ d Q f g
theorem adz(ha:PT X a tA):PT X (.UnaryOp .Not a pos) (tNot tA):=by
 intro pins s σ H Q I h
 exact isTrue_not (ha pins s σ H (λc b=>Q (!c) b) I h)
def ap1(ta tb:TE):TE:=λσ H Q=>ta σ H λx H1=>∃ c,x=.bl c/\if c=true then tb σ H1 Q else Q (.bl false) H1
def ap2(ta:TE):TE:=λσ H Q=>ta σ H λx H1=>∃ c,x=.bl c/\Q (.bl (!c)) H1
theorem af5{op}{t:TE}(h:PE X a t):PE X (.BoolOp op [a] pos) t:=λpins s σ H Q I b=>BoolOp_one (h pins s σ H Q I b)
theorem aeh(ha:PE X a ta)(hb:PE X (.BoolOp .And (b::rest) pos) tb):PE X (.BoolOp .And (a::b::rest) pos) (ap1 ta tb):=by
 intro pins s σ H Q I h
 refine BoolOp_and (thn (ha pins s σ H _ I h) λv s1 ⟨x,f,g,i,d⟩=>?_)
 obtain⟨c,rfl,d⟩:=d
 cases i
 refine aK5 ?_
 cases c with
 |true=>exact hb pins s1 σ f Q g d
 |false=>exact⟨.bl false,f,g,rfl,d⟩
theorem azq(ha:PE X a ta):PE X (.UnaryOp .Not a pos) (ap2 ta):=by
 intro pins s σ H Q I h
 refine UnaryOp_ (thn (ha pins s σ H _ I h) λv s1 ⟨x,d,f,g,b⟩=>?_)
 obtain⟨c,rfl,b⟩:=b
 cases g
 exact not_of (aK5 ⟨.bl (!c),d,f,rfl,b⟩)
def tIf(t:TT)(ta tb:TE):TE:=λσ H Q=>t σ H λc H1=>if c=true then ta σ H1 Q else tb σ H1 Q
theorem at4{c:Expr}(j:PT X c tA)(ha:PE X a ta)(hb:PE X b tb):PE X (.IfExp c a b pos) (tIf tA ta tb):=by
 intro pins s σ H Q I h
 refine wpAny_IfExp (thn (j pins s σ H _ I h) λd s1 ⟨f,g,i⟩=>?_)
 cases d with
 |true=>exact ha pins s1 σ f Q g i
 |false=>exact hb pins s1 σ f Q g i
end
def SqL(K:Frag)(H:Hp)(a:Addr)(xs:List V):Prop :=
 Rd H a (.lst xs) ∨
  ∃(o:Obj)(its:Array Value)(n:Nat),K.lookup a=some o/\o.cls=.type "list"/\o.dict=none/\o.data=.seq its n/\its.size<=sizeLine/\Vals xs its.toList
def SqT(K:Frag)(H:Hp)(a:Addr)(xs:List V):Prop :=
 Rd H a (.tup xs) ∨
  ∃(o:Obj)(its:Array Value)(n:Nat),K.lookup a=some o/\o.cls=.type "tuple"/\o.data=.seq its n/\its.size<=sizeLine/\Vals xs its.toList
def absV:Value->Option V
 | .none=>some .non
 | .bool b=>some (.bl b)
 | .int i _=>some (.int i)
 | .str x _=>some (.str x)
 | .bytes b _=>some (.byt b)
 | .float b _=>some (.flt b)
 | .ref a=>some (.ref a)
 | .type n=>some (.ty n)
 |_=>none
theorem RelV.abs{x:V}{u:Value}(r:RelV x u):absV u=some x:=by
 cases x with
 |non=>cases r;rfl
 |bl _=>cases r;rfl
 |int _=>obtain⟨t,rfl⟩:=r;rfl
 |str _=>obtain⟨t,rfl⟩:=r;rfl
 |byt _=>obtain⟨t,rfl⟩:=r;rfl
 |flt _=>obtain⟨t,rfl⟩:=r;rfl
 |ref _=>cases r;rfl
 |ty _=>cases r;rfl
theorem RelV.inj{x y:V}{u:Value}(r:RelV x u)(q:RelV y u):x=y:=aC6 (r.abs.symm.trans q.abs)
theorem Vals.inj:∀{xs ys:List V}{us:List Value},Vals xs us->Vals ys us->xs=ys
 |_,_,_,.nil,.nil=>rfl
 |_,_,_,.cons r t,.cons r' t'=>by rw[r.inj r',Vals.inj t t']
section
variable{X:Cx}{pins:List (Addr × Obj)}{σ:St}{H:Hp}{s:Shared}{a:Addr}{xs ys:List V}
theorem SqL.of{K:Frag}(h:H a=some (.lst xs)):SqL K H a xs:=.inl (.inl h)
theorem SqT.of{K:Frag}(h:H a=some (.tup xs)):SqT K H a xs:=.inl (.inl h)
theorem Inv.list(I:Inv X pins σ H s)(h:SqL X.K H a xs):∃ its:List Value,Vals xs its/\PlainL s.heap a its.toArray/\xs.length<=sizeLine:=by
 rcases h with h|⟨o,its,n,c,b,hd,hs,hz,r⟩
 ·obtain⟨z,its,n,r,e⟩:=h.ok I.hok
  exact⟨its,r,⟨_,n,e,rfl,rfl,rfl⟩,z⟩
 ·refine⟨its.toList,r,⟨o,n,I.kIn a o c,b,hd,by simpa using hs⟩,?_⟩
  have e:=r.length
  simp only[aA8] at e
  lia
theorem Inv.tuple(I:Inv X pins σ H s)(h:SqT X.K H a xs):∃ its:List Value,Vals xs its/\IsTup s.heap a its.toArray/\xs.length<=sizeLine:=by
 rcases h with h|⟨o,its,n,c,b,hs,hz,r⟩
 ·obtain⟨z,its,r,p⟩:=h.ok I.hok
  exact⟨its,r,p,z⟩
 ·refine⟨its.toList,r,⟨o,I.kIn a o c,b,n,by simpa using hs⟩,?_⟩
  have e:=r.length
  simp only[aA8] at e
  lia
theorem Inv.list_inj(I:Inv X pins σ H s)(h:SqL X.K H a xs)(h':SqL X.K H a ys):xs=ys:=by
 obtain⟨its,r,⟨o,n,e,_,_,d⟩,_⟩:=I.list h
 obtain⟨its',c,⟨o',g,b,_,_,d'⟩,_⟩:=I.list h'
 rw[e] at b;cases b
 rw[d] at d'
 injection d' with f _
 have:its=its':=by simpa using congrArg Array.toList f
 subst this
 exact r.inj c
end
abbrev Cx.wish(X:Cx)(E:Value->Shared->Prop):Cx:={ X with xe:=E }
abbrev Cx.nox(X:Cx):Cx:=X.wish λ_ _=>False
theorem Cx.Ok.wish{X:Cx}(ok:X.Ok)(E:Value->Shared->Prop):(X.wish E).Ok :=
 ⟨ok.mod,ok.kind,ok.glob,ok.blt,ok.above,ok.inj,ok.has,ok.cab,ok.hd,ok.frames,ok.stk,ok.exf,ok.bs,ok.bsz,ok.noex,ok.exfs,ok.funs,ok.frf,ok.tab⟩
theorem Cx.Ok.unwish{X:Cx}{E:Value->Shared->Prop}(ok:(X.wish E).Ok):X.Ok :=
 ⟨ok.mod,ok.kind,ok.glob,ok.blt,ok.above,ok.inj,ok.has,ok.cab,ok.hd,ok.frames,ok.stk,ok.exf,ok.bs,ok.bsz,ok.noex,ok.exfs,ok.funs,ok.frf,ok.tab⟩
section
variable{X:Cx}{pins:List (Addr × Obj)}{σ:St}{H:Hp}{s:Shared}{E:Value->Shared->Prop}
theorem Inv.wish(I:Inv X pins σ H s)(E:Value->Shared->Prop):Inv (X.wish E) pins σ H s:=⟨I.ok.wish E,I.os,I.bare,I.base,I.loc,I.cell,I.free,I.freeC,I.pin,I.hok,I.len⟩
theorem Inv.unwish(I:Inv (X.wish E) pins σ H s):Inv X pins σ H s:=⟨I.ok.unwish,I.os,I.bare,I.base,I.loc,I.cell,I.free,I.freeC,I.pin,I.hok,I.len⟩
theorem SP.unwish{D:Ends}{f:Flow}{s':Shared}(h:SP (X.wish E) pins D f s'):SP X pins D f s':=by
 cases f with
 |next=>obtain⟨a,H',I,q⟩:=h;exact⟨a,H',I.unwish,q⟩
 |brk=>obtain⟨a,H',I,q⟩:=h;exact⟨a,H',I.unwish,q⟩
 |cont=>obtain⟨a,H',I,q⟩:=h;exact⟨a,H',I.unwish,q⟩
 |ret u=>obtain⟨v,a,H',I,r,q⟩:=h;exact⟨v,a,H',I.unwish,r,q⟩
theorem PSs.nox{st:List Stmt}{t:TS}(h:PSs X.nox st t):PSs X st t:=λpins s σ H D I a =>
 aK0 (h pins s σ H D (I.wish _) a) (λ_ _ q=>q.unwish) λ_ _ z=>False.elim z
end
section
variable{X:Cx}{st:Stmt}{rest:List Stmt}{t u:TS}{e:Expr}{te:TE}{pos:Pos}
def awc:TS:=λD σ H=>D.nx σ H
def tSeq(t u:TS):TS:=λD σ H=>t { D with nx:=u D } σ H
theorem abb:PSs X [] awc:=λ_ _ σ H _ I h=>wpAny_execs_nil ⟨σ,H,I,h⟩
theorem aad(c:PS X st t)(d:PSs X rest u):PSs X (st::rest) (tSeq t u):=by
 intro pins s σ H D I h
 refine wpAny_execs_cons (thn (c pins s σ H { D with nx:=u D } I h) λf s1 q=>?_)
 cases f with
 | next =>
  obtain⟨a,H',b,q⟩:=q
  exact d pins s1 a H' D b q
 |ret v=>exact q
 |brk=>exact q
 |cont=>exact q
theorem aag(a:PS X st t):PSs X [st] t:=by
 intro pins s σ H D I h
 refine wpAny_execs_cons (thn (a pins s σ H D I h) λf s1 q=>?_)
 cases f with
 |next=>exact wpAny_execs_nil q
 |ret v=>exact q
 |brk=>exact q
 |cont=>exact q
theorem Inv.quiet{pins:List (Addr × Obj)}{σ:St}{H:Hp}{s:Shared}(I:Inv X pins σ H s):interactive X.env=false:=by simp[interactive,I.ok.kind]
def awd(te:TE):TS:=λD σ H=>te σ H λ_ H1=>D.nx σ H1
theorem abv(b:PE X e te)(hs:swapsWith e none pos.line X.env=pure false:=by rfl):PS X (.Expr e pos) (awd te):=by
 intro pins s σ H D I h
 exact wpAny_Expr_any (thn (b pins s σ H _ I h) λv s1 ⟨x,a,c,f,d⟩=>⟨σ,a,c,d⟩) I.quiet hs
def tRet(te:TE):TS:=λD σ H=>te σ H D.rt
theorem aay(b:PE X e te):PS X (.Return (some e) pos) (tRet te):=by
 intro pins s σ H D I h
 exact wpAny_Return_some (thn (b pins s σ H _ I h) λv s1 ⟨x,a,c,f,d⟩=>⟨x,σ,a,c,f,d⟩)
def tIfS(c:TT)(t u:TS):TS:=λD σ H=>c σ H λb H1=>if b=true then t D σ H1 else u D σ H1
theorem abw{c:Expr}{a b:List Stmt}{g:TT}(l:PT X c g)(ha:PSs X a t)(hb:PSs X b u):PS X (.If c a b pos) (tIfS g t u):=by
 intro pins s σ H D I h
 refine wpAny_If (thn (l pins s σ H _ I h) λd s1 ⟨f,i,j⟩=>?_)
 cases d with
 |true=>exact ha pins s1 σ f D i j
 |false=>exact hb pins s1 σ f D i j
def azr:TS:=λ_ _ _=>False
theorem aei:PS X st azr:=λ_ _ _ _ _ _ h=>h.elim
end
abbrev TG:=V->St->Hp->(St->Hp->Prop)->Prop
abbrev TGs:=List V->St->Hp->(St->Hp->Prop)->Prop
def PG(X:Cx)(target:Expr)(t:TG):Prop :=
 ∀(pins:List (Addr × Obj))(s:Shared)(σ:St)(H:Hp)(v:V)(u:Value)(Q:St->Hp->Prop),Inv X pins σ H s->RelV v u->t v σ H Q ->
  wpAny (model X.prog X.w) X.A (assign target X.env u) (λ_ s'=>∃ σ' H',Inv X pins σ' H' s'/\Q σ' H') X.xe s
def PGs(X:Cx)(ts:List Expr)(t:TGs):Prop :=
 ∀(pins:List (Addr × Obj))(s:Shared)(σ:St)(H:Hp)(vs:List V)(us:List Value)(Q:St->Hp->Prop),Inv X pins σ H s->Vals vs us->t vs σ H Q ->
  wpAny (model X.prog X.w) X.A (assignInOrder ((assignEach ts X.env).map (·.2)) us) (λ_ s'=>∃ σ' H',Inv X pins σ' H' s'/\Q σ' H') X.xe s
abbrev TSet:=V->V->V->Hp->(Hp->Prop)->Prop
def PSet(X:Cx)(t:TSet):Prop :=
 ∀(pins:List (Addr × Obj))(s:Shared)(σ:St)(H:Hp)(o i v:V)(ov iv u:Value)(Q:Hp->Prop),Inv X pins σ H s->RelV o ov->RelV i iv->RelV v u->t o i v H Q ->
  wpAny (model X.prog X.w) X.A (setItem ov iv u) (λ_ s'=>∃ H',Inv X pins σ H' s'/\Q H') X.xe s
abbrev TIp:=V->V->Hp->VK->Prop
def PIp(X:Cx)(op:Operator)(t:TIp):Prop :=
 ∀(pins:List (Addr × Obj))(s:Shared)(σ:St)(H:Hp)(x y:V)(v u:Value)(Q:VK),Inv X pins σ H s->RelV x v->RelV y u->t x y H Q ->
  wpAny (model X.prog X.w) X.A (inplaceOp op v u) (EP X pins σ Q) X.xe s
section
variable{X:Cx}{pos:Pos}
def aar(i:Nat):TG:=λv σ H Q=>Q (σ.set i (some v)) H
theorem aah{i:Nat}{x:Str}(c:X.N.Nodup)(hi:X.N[i]?=some x)(b:Loc X.env.scope x)(hf:X.fn x=true\/X.env.scope.names.lookup x=some .local:=by first|exact .inl rfl|exact .inr rfl|assumption):PG X (.Name x pos) (aar i):=by
 intro pins s σ H v u Q I r h
 exact wpAny_assign_Name (ahj I c hi b r (λs' a=>⟨_,H,a,h⟩) hf)
def gNil:TGs:=λvs σ H Q=>vs=[]/\Q σ H
def aa5(t:TG)(u:TGs):TGs:=λvs σ H Q=>∃ v r,vs=v::r/\t v σ H λσ' H'=>u r σ' H' Q
theorem abf:PGs X [] gNil:=by
 intro pins s σ H vs us Q I r h
 obtain⟨e,h⟩:=h
 subst e
 cases r
 exact assignInOrder_nil ⟨σ,H,I,h⟩
theorem aas{e:Expr}{es:List Expr}{t:TG}{u:TGs}(g:PG X e t)(b:PGs X es u)
  (hs:(assignEach (e::es) X.env).map (·.2)=assign e X.env::(assignEach es X.env).map (·.2):=by rfl):PGs X (e::es) (aa5 t u):=by
 intro pins s σ H vs us Q I r h
 obtain⟨v,j,c,h⟩:=h
 subst c
 cases r with
 | cons r rr =>
  rw[hs]
  refine assignInOrder_cons (thn (g pins s σ H _ _ _ I r h) λ_ s1 ⟨a,d,f,i⟩=>?_)
  exact b pins s1 a d _ _ Q f rr i
def gTup(K:Frag)(n:Nat)(t:TGs):TG:=λv σ H Q=>∃ a xs,v=.ref a/\SqT K H a xs/\xs.length=n/\t xs σ H Q
theorem ab2{es:List Expr}{k:Nat}{t:TGs}{n:Nat}(g:X.calm=true)(h:PGs X es t)
  (hn:(assignEach es X.env).length=n:=by rfl) (d:(assignEach es X.env).findIdx? (·.1)=none:=by rfl):PG X (.Tuple es k pos) (gTup X.K n t):=by
 intro pins s σ H v u Q I r c
 obtain⟨a,xs,j,q,m,c⟩:=c
 subst j
 cases r
 obtain⟨its,f,p,hz⟩:=I.tuple q
 refine assign_Tuple_tuple (I.ok.hd g) p (by simp[hn,← m,f.length]) d λh' i=>?_
 have l:Inv X pins σ H { s with heap:=h' }:=I.kept (t':=s.toks) λb o e=>i b o (aB6 (aJ4 e)) e
 exact h pins _ σ H xs _ Q l (by simpa using f) c
def gSub(to ti:TE)(t:TSet):TG:=λv σ H Q=>to σ H λo H1=>ti σ H1 λi H2=>t o i v H2 λH3=>Q σ H3
theorem ari{o i:Expr}{to c:TE}{t:TSet}(q:PE X o to)(hi:PE X i c)(hs:PSet X t)
  (ha:∀ v,assign (.Subscript o i pos) X.env v=(do
   let a ← holding [v] (eval o X.env)
   let b ← holding [v,a] (eval i X.env)
   standAt pos
   holding [v,a,b] (setItem a b v)
   release [v,a,b] []):=by intro _;rfl):PG X (.Subscript o i pos) (gSub to c t):=by
 intro pins s σ H v u Q I r h
 rw[ha]
 refine aJ1 (aJ7 (thn (q pins s σ H _ I h) λa s1 ⟨x,g,j,w,p⟩=>?_))
 refine aJ1 (aJ7 (thn (hi pins s1 σ g _ j p) λb s2 ⟨y,H2,l,f,n⟩=>?_))
 refine aJ1 (wpAny_standAt (aJ1 (aJ7 (thn (hs pins s2 σ H2 x y v a b u _ l w f r n) λ_ z ⟨H3,d,m⟩=>?_))))
 exact wpAny_release ⟨σ,H3,d,m⟩
def tAsg(te:TE)(g:TG):TS:=λD σ H=>te σ H λx H1=>g x σ H1 D.nx
theorem adj{tg e:Expr}{te:TE}{g:TG}(a:PE X e te)(b:PG X tg g)(hs:swapsWithSole [tg] e pos.line X.env=pure false:=by rfl)(d:swappedStores [tg] e X.env=pure none:=by rfl)
  (i:(assignEach [tg] X.env).map (·.2)=[assign tg X.env]:=by rfl):PS X (.Assign [tg] e pos) (tAsg te g):=by
 intro pins s σ H D I h
 refine wpAny_Assign_stores (thn (a pins s σ H _ I h) λv s1 ⟨x,c,f,l,j⟩=>?_) hs d
 rw[i]
 exact thn (b pins s1 σ c x v _ f l j) λ_ s2 q=>q
theorem aan{i:Nat}{x:Str}{e:Expr}{te:TE}{a:Pos}(b:X.N.Nodup)(hi:X.N[i]?=some x)(d:Loc X.env.scope x)(c:PE X e te)(hs:swapsWith e (some (.Name x a)) pos.line X.env=pure false:=by rfl)(hf:X.fn x=true\/X.env.scope.names.lookup x=some .local:=by first|exact .inl rfl|exact .inr rfl|assumption) :
  PS X (.Assign [.Name x a] e pos) (tAsg te (aar i)):=by
 intro pins s σ H D I h
 refine wpAny_Assign_Name (thn (c pins s σ H _ I h) λv s1 ⟨y,f,g,m,l⟩=>?_) hs
 exact ahj g b hi d m (λs2 j=>⟨_,f,j,l⟩) hf
def tAug(i:Nat)(te:TE)(ti:TIp):TS:=λD σ H=>∃ x,σ[i]?=some (some x)/\te σ H λy H1=>ti x y H1 λz H2=>D.nx (σ.set i (some z)) H2
theorem azs{i:Nat}{x:Str}{e:Expr}{te:TE}{op:Operator}{o:TIp}{d:Pos}(q:X.N.Nodup)(hi:X.N[i]?=some x)(j:Loc X.env.scope x)(B:PE X e te)(P:PIp X op o)(hf:X.fn x=true\/X.env.scope.names.lookup x=some .local:=by first|exact .inl rfl|exact .inr rfl|assumption) :
  PS X (.AugAssign (.Name x d) op e pos) (tAug i te o):=by
 intro pins s σ H D I h
 obtain⟨v,E,h⟩:=h
 obtain⟨m,hn,K⟩:=I.loc
 have n:Vis X.env.scope x:=by rcases j with k|k;exact .inl k;exact .inr (.inl k)
 obtain⟨u,r,l⟩:=K i x v hi E n
 refine wpAny_AugAssign_Name ?_
 have go:wpAny (model X.prog X.w) X.A (eval e X.env) (λw f=>wpAny (model X.prog X.w) X.A (inplaceOp op u w) (λr g=>wpAny (model X.prog X.w) X.A (storeName X.env x r) (λ_=>SP X pins D .next) X.xe g) X.xe f) X.xe s:=by
  refine thn (B pins s σ H _ I h) λw s1 ⟨y,G,J,Q,O⟩=>?_
  refine thn (P pins s1 σ G v y u w _ J r Q O) λz s2 ⟨R,H2,L,F,M⟩=>?_
  exact ahj L q hi j F (λS p=>⟨_,H2,p,M⟩) hf
 rcases l with ⟨a,hm⟩|⟨a,c,C,b⟩
 ·exact wpAny_loadName_local I.ok.kind a hn hm go
 ·rcases a with a|a
  ·exact wpAny_loadName_cell I.ok.kind a C b go
  ·rcases j with k|k
   ·have:X.env.scope.names.lookup x=some .free:=a
    rw[k] at this;cases this
   ·have:X.env.scope.names.lookup x=some .free:=a
    rw[k] at this;cases this
end
section
variable{X:Cx}{pos:Pos}
def arj(c:TT)(tb:TS):TS:=λD σ H=>∃ W:Nat->St->Hp->Prop,(∃ m,W m σ H)/\∀ m σ H,W m σ H ->
 c σ H λb H1=>if b=true then ∃ N:St->Hp->Prop,(∀ σ' H',N σ' H'->∃ m',m'<m/\W m' σ' H')/\tb { D with nx:=N,ct:=N,bk:=D.nx } σ H1 else D.nx σ H1
theorem aln{c:Expr}{body:List Stmt}{y:TT}{z:TS}(u:PassesOwn (model X.prog X.w) X.A X.env X.xe)(E:PT X c y)(hb:PSs X body z):PS X (.While c body [] pos) (arj y z):=by
 intro pins s σ H D I h
 obtain⟨W,⟨J,F⟩,g⟩:=h
 refine wpAny_While (codeAny_whileLoop (λn s'=>∃ i H',Inv X pins i H' s'/\W n i H') ?_ J ⟨σ,H,I,F⟩)
 rintro n s1 ⟨d,x,G,C⟩
 refine wpAny_passesOwn u (thn (E pins s1 d x _ G (g n d x C)) λb s2 ⟨H2,B,l⟩=>?_)
 cases b with
 | true =>
  obtain⟨N,r,l⟩:=l
  rw[aF6 rfl]
  refine wpAny_passesOwn u (thn (hb pins s2 d H2 _ B l) λf K j=>?_)
  cases f with
  | next =>
   obtain⟨a,H3,m,q⟩:=j
   obtain⟨o,hm,p⟩:=r a H3 q
   exact⟨o,hm,a,H3,m,p⟩
  | cont =>
   obtain⟨a,H3,m,q⟩:=j
   obtain⟨o,hm,p⟩:=r a H3 q
   exact⟨o,hm,a,H3,m,p⟩
  |brk=>exact j
  |ret v=>exact j
 | false =>
  rw[aF7 aB0]
  exact wpAny_execs_nil ⟨d,H2,B,l⟩
end
structure It where
 go:Nat->Hp->Prop
 yld:Nat->Hp->V->Hp->Prop
 stop:Nat->Hp->Prop
def FpOk(X:Cx)(pins:List (Addr × Obj))(H:Hp)(b:Addr):Prop :=
 H b=none/\b ≠ X.env.locals/\b ∉ X.fs/\(b∈X.ex\/X.s₀.heap.objs.size<=b)/\(∀ x c,X.env.cells.lookup x=some c->c ≠ b)/\∀ p∈X.pn++pins,p.1 ≠ b
theorem Inv.fpOk{X:Cx}{pins:List (Addr × Obj)}{σ:St}{H H':Hp}{s:Shared}{b:Addr}(I:Inv X pins σ H s)(hb:s.heap.objs.size<=b)(hn:H' b=none):FpOk X pins H' b:=by
 refine⟨hn,Nat.ne_of_gt (aC5 I.lt hb),I.nofs hb,.inr (aD0 I.sz hb),λx c e z=>?_,λp a z=>?_⟩
 ·obtain⟨v,q⟩:=I.cell x c e
  exact absurd (aC5 q.lt (by rw[z];exact hb)) (aG5 _)
 ·exact absurd (aC5 (aJ4 (I.pin p a).1) (by rw[z];exact hb)) (aG5 _)
structure Turn(P:Program)(w:World)(K:Frag)(tg:Expr)(J:It)(fp:List Addr)(it:Addr)(tn:Nat->Heap->Prop):Prop where
 mem:it∈fp
 obj:∀ i h,tn i h->∀ b∈fp,∃ o,h.get? b=some o/\∀ v,o.data ≠ .cell v
 keep:∀ i h h',tn i h->(∀ b∈fp,∀ o,h.get? b=some o->h'.get? b=some o)->tn i h'
 item:∀(X:Cx),X.prog=P->X.w=w->X.K=K->X.calm=true->∀(i:Nat)(pins:List (Addr × Obj))(s:Shared)(σ:St)(H:Hp)(E:Value->Shared->Prop),Inv X pins σ H s->(∀ b∈fp,FpOk X pins H b)->tn i s.heap->J.go i H ->
  wpAny (model P w) X.A (pyNext (.ref it)) (λr s1=>∃ u,r=some u /\
   wpAny (model P w) X.A (letOwnedTupleGo tg (.ref it) u) (λ_ s2=>∃ x H',Inv X pins σ H' s2/\RelV x u/\J.yld i H x H'/\tn (i+1) s2.heap/\∀ b∈fp,H' b=none) E s1) E s
 done:∀(X:Cx),X.prog=P->X.w=w->X.K=K->X.calm=true->∀(i:Nat)(pins:List (Addr × Obj))(s:Shared)(σ:St)(H:Hp)(E:Value->Shared->Prop),Inv X pins σ H s->(∀ b∈fp,FpOk X pins H b)->tn i s.heap->J.stop i H ->
  wpAny (model P w) X.A (pyNext (.ref it)) (λr s1=>r=none/\Inv X pins σ H s1) E s
 self:∀(A:Around)(i:Nat)(s:Shared)(Q:Value->Shared->Prop)(E:Value->Shared->Prop),tn i s.heap->Q (.ref it) s->wpAny (model P w) A (pyIter (.ref it)) Q E s
abbrev TI:=St->Hp->(It->Hp->Prop)->Prop
def PIE(X:Cx)(pins:List (Addr × Obj))(σ:St)(tg:Expr)(R:It->Hp->Prop)(itv:Value)(s2:Shared):Prop :=
 ∃(it:Addr)(fp:List Addr)(tn:Nat->Heap->Prop)(J:It)(H':Hp),itv=.ref it/\Inv X pins σ H' s2/\Turn X.prog X.w X.K tg J fp it tn/\tn 0 s2.heap/\(∀ b∈fp,FpOk X pins H' b)/\R J H'
def PI(X:Cx)(tg iter:Expr)(wi:TI):Prop :=
 ∀(pins:List (Addr × Obj))(s:Shared)(σ:St)(H:Hp)(R:It->Hp->Prop),Inv X pins σ H s->wi σ H R ->
  wpAny (model X.prog X.w) X.A (eval iter X.env) (λv s1=>wpAny (model X.prog X.w) X.A (pyIter v) (PIE X pins σ tg R) X.xe s1) X.xe s
theorem ap3{M:Model}{A:Around}{E:Value->Shared->Prop}{s:Shared}{tg:Expr}{it:Addr}{u:Value}{o:Obj}{n:String}{vs:Array Value}{Q:Unit->Shared->Prop}(b:s.heap.get? it=some o)(c:o.cls=.type n)(hd:o.data=.fields vs)
  (hn:["enumerate","zip","dict_itemiterator","dict_reverseitemiterator","odict_iterator","itertools.zip_longest","itertools.pairwise"].contains n=false) (a:Q () s):wpAny M A (letOwnedTupleGo tg (.ref it) u) Q E s:=by
 unfold letOwnedTupleGo
 cases tg <;> first
  |exact aJ2 a
  | (cases u <;> first
    |exact aJ2 a
    | (refine aJ1 (wpAny_load b ?_)
       rw[c,hd]
       show wpAny M A (if (["enumerate","zip","dict_itemiterator","dict_reverseitemiterator","odict_iterator","itertools.zip_longest","itertools.pairwise"].contains n && vs[0]? == some (rawInt _))=true then _ else _) Q E s
       rw[aF7 (by intro h;rw[hn,Bool.false_and] at h;cases h)]
       exact aJ2 a))
def Itl(K:Frag)(a:Addr):It :=
 ⟨λi H=>∃ xs x,SqL K H a xs/\xs[i]?=some x,λi H x H'=>H'=H/\∀ xs,SqL K H a xs->xs[i]?=some x,λi H=>∃ xs,SqL K H a xs/\xs.length<=i⟩
def Itr(lo:Int)(n:Nat):It:=⟨λi _=>i<n,λi H x H'=>H'=H/\x=.int (lo+i),λi _=>n<=i⟩
theorem ark{P:Program}{w:World}{K:Frag}{tg:Expr}(a it:Addr):Turn P w K tg (Itl K a) [it] it (λi h=>h.IsListIter it a i) where
 mem:=by simp
 obj:=λi h st b hb=>by
  have e:b=it:=by simpa using hb
  subst e
  obtain⟨o,e,c,d⟩:=st
  exact⟨o,e,λv z=>by rw[d] at z;cases z⟩
 keep:=λi h h' st k=>st.at λo e=>k it (by simp) o e
 item:=by
  intro X j q g C i pins s σ H E I hf st n
  subst j q g
  obtain⟨xs,x,f,m⟩:=n
  obtain⟨its,l,p,hz⟩:=I.list f
  obtain⟨u,M,G⟩:=l.get m
  obtain⟨A,f1,L,B,r,y⟩:=hf it (by simp)
  refine wpAny_pyNext_list_item st p.isList (x:=u) (by simpa using M) λh' st' sb=>?_
  have F:Inv X pins σ H { s with heap:=h' }:=I.turned (t':=s.toks) (λb o hb e=>(sb.2 b hb).trans e) A f1 B r y
  obtain⟨o,e,c,d⟩:=id st'
  exact⟨u,rfl,ap3 (s:={ s with heap:=h' }) e c d (by decide) ⟨x,H,F,G,⟨rfl,λys D=>by rw[I.list_inj D f];exact m⟩,st',λb hb=>(hf b hb).1⟩⟩
 done:=by
  intro X j q g C i pins s σ H E I hf st n
  subst j q g
  obtain⟨xs,f,m⟩:=n
  obtain⟨its,l,p,hz⟩:=I.list f
  obtain⟨A,f1,L,B,r,y⟩:=hf it (by simp)
  have N:=l.length
  exact wpAny_pyNext_list_end (I.ok.hd C) st p.isList (by simp;lia) λh' J=>⟨rfl,I.turned (t':=s.toks) (λb o hb e=>J b o hb e) A f1 B r y⟩
 self:=λ_ _ _ _ _ st h=>wpAny_pyIter_listiter st h
theorem ap4{P:Program}{w:World}{K:Frag}{tg:Expr}(it:Addr)(lo:Int)(n:Nat):Turn P w K tg (Itr lo n) [it] it (λi h=>IsRangeIter h it (lo+(i:Nat) * 1) ((n:Int)-(i:Nat)) 1) where
 mem:=by simp
 obj:=λi h st b hb=>by
  have e:b=it:=by simpa using hb
  subst e
  exact⟨_,st,λv z=>by
   have u:Data.fields _=Data.cell v:=z
   cases u⟩
 keep:=λi h h' st k=>k it (by simp) _ st
 item:=by
  intro X d g a c i pins s σ H E I hf st f
  subst d g a
  obtain⟨m,f1,B,p,j,l⟩:=hf it (by simp)
  have W:=Walks.range (prog:=X.prog) (w:=X.w) (I.ok.hd c) it lo 1 n
  refine W.item i s _ _ f st λv h' q x st' r=>?_
  obtain⟨t,rfl⟩:=x
  have y:Inv X pins σ H { s with heap:=h',toks:=q }:=I.turned (λb o hb e=>r b o (by simpa using hb) e) m f1 p j l
  refine⟨_,rfl,ap3 (s:={ s with heap:=h',toks:=q }) (n:="range_iterator") st' rfl rfl (by decide) ⟨.int (lo+i),H,y,⟨t,?_⟩,⟨rfl,rfl⟩,st',λb hb=>(hf b hb).1⟩⟩
  rw[Int.mul_one]
 done:=by
  intro X d g a c i pins s σ H E I hf st f
  subst d g a
  obtain⟨m,f1,B,p,j,l⟩:=hf it (by simp)
  exact wpAny_pyNext_range_end (I.ok.hd c) st (by have:n<=i:=f;lia) λh' A=>⟨rfl,I.turned (t':=s.toks) (λb o hb e=>A b o hb e) m f1 p j l⟩
 self:=λ_ _ _ _ _ st h=>wpAny_pyIter_rangeiter st h
section
variable{X:Cx}{tg:Expr}
def awe(K:Frag)(tl:TE):TI:=λσ H R=>tl σ H λx H1=>∃ a,x=.ref a/\(∃ xs,SqL K H1 a xs)/\R (Itl K a) H1
theorem abm{l:Expr}{tl:TE}(f:PE X l tl):PI X tg l (awe X.K tl):=by
 intro pins s σ H R I h
 refine thn (f pins s σ H _ I h) λv s1 ⟨x,d,c,j,i⟩=>?_
 obtain⟨a,e,⟨xs,g⟩,q⟩:=i
 subst e
 cases j
 obtain⟨its,m,p,hz⟩:=c.list g
 refine aK6 p.isList ?_
 refine⟨s1.heap.objs.size,[s1.heap.objs.size],_,_,d,rfl,c.kept (t':=s1.toks) λb o e=>aJ3 _ e,ark a _,⟨_,aJ5 _ rfl,rfl,rfl⟩,λb hb=>?_,q⟩
 have e:b=s1.heap.objs.size:=by simpa using hb
 subst e
 exact c.fpOk (aA6 _) (c.hok.fresh (aA6 _))
theorem alo{pins:List (Addr × Obj)}{σ:St}{H:Hp}{s:Shared}{R:It->Hp->Prop}{E:Value->Shared->Prop}{lo hi:Int}{t u v:Tok}{c:Nat}(I:Inv X pins σ H s)(h : -(2 ^ 62)<=lo)(d:lo<2 ^ 62)(i : -(2 ^ 62)<=hi)(g:hi<2 ^ 62)
  (q:R (Itr lo (hi-lo).toNat) H):wpAny (model X.prog X.w) X.A (pyIter (.ref s.heap.objs.size)) (PIE X pins σ tg R) E { s with heap:=s.heap.push { cls:=.type "range",data:=.fields #[.int lo t,.int hi u,.int 1 v] },toks:=c }:=by
 refine wpAny_pyIter_range (IsRange.new ..) (small_one h d i g) ?_
 have a:Inv X pins σ H { s with heap:=s.heap.push { cls:=.type "range",data:=.fields #[.int lo t,.int hi u,.int 1 v] },toks:=c }:=I.kept λb o e=>aJ3 _ e
 refine⟨(s.heap.push { cls:=.type "range",data:=.fields #[.int lo t,.int hi u,.int 1 v] }).objs.size,[(s.heap.push { cls:=.type "range",data:=.fields #[.int lo t,.int hi u,.int 1 v] }).objs.size],_,_,H,rfl,
  a.kept (t':=c) λb o e=>aJ3 _ e,ap4 _ lo (hi-lo).toNat,?_,λb hb=>?_,q⟩
 ·have f:lo+((0:Nat):Int) * 1=lo:=by simp
  have j:(((hi-lo).toNat:Nat):Int)-((0:Nat):Int)=Builtin.Range.rangeSize lo hi 1:=by rw[rangeSize_one];split <;> lia
  show IsRangeIter _ _ (lo+((0:Nat):Int) * 1) ((((hi-lo).toNat:Nat):Int)-((0:Nat):Int)) 1
  rw[f,j]
  exact aJ5 _ rfl
 ·have e:b=(s.heap.push { cls:=.type "range",data:=.fields #[.int lo t,.int hi u,.int 1 v] }).objs.size:=by simpa using hb
  subst e
  exact a.fpOk (aA6 _) (a.hok.fresh (aA6 _))
def awf(ta:TA):TI:=λσ H R=>ta σ H λvs H1=>∃ j:Int,vs=[.int j]/\-(2 ^ 62)<=j/\j<2 ^ 62/\R (Itr 0 j.toNat) H1
def awg(ta:TA):TI:=λσ H R=>ta σ H λvs H1=>∃ i j:Int,vs=[.int i,.int j]/\(-(2 ^ 62)<=i/\i<2 ^ 62/\-(2 ^ 62)<=j/\j<2 ^ 62)/\R (Itr i (j-i).toNat) H1
theorem aba{a:Expr}{c:TA}{p pos:Pos}(d:Gl X "range")(hm:X.mg "range" = none)(ha:PA X [a] c)(hs:starEach [a] X.env=[(false,eval a X.env)]:=by rfl):PI X tg (.Call (.Name "range" p) [a] [] pos) (awf c):=by
 intro pins s σ H R I h
 refine Call_ (acu I d hm boot_range (PyProof.Rows.callWith_type1 (thn (ha pos pins s σ H _ I h) λus s1 ⟨vs,l,f,i,b⟩=>?_) hs rfl))
 obtain⟨j,e,b,g,q⟩:=b
 subst e
 cases i with
 | cons r rr =>
  cases rr
  obtain⟨t,rfl⟩:=r
  exact call_range_1 (alo f (by lia) (by lia) b g (by simpa using q))
theorem aes{a b:Expr}{f:TA}{p pos:Pos}(g:Gl X "range")(hm:X.mg "range" = none)(ha:PA X [a,b] f)(hs:starEach [a,b] X.env=[(false,eval a X.env),(false,eval b X.env)]:=by rfl)(c:starEach [b] X.env=[(false,eval b X.env)]:=by rfl) :
  PI X tg (.Call (.Name "range" p) [a,b] [] pos) (awg f):=by
 intro pins s σ H R I h
 refine Call_ (acu I g hm boot_range (PyProof.Rows.callWith_type1 (thn (ha pos pins s σ H _ I h) λus s1 ⟨vs,v,l,o,d⟩=>?_) (by rw[hs,c]) (by rw[c];rfl)))
 obtain⟨i,j,e,⟨d,n,m,u⟩,q⟩:=d
 subst e
 cases o with
 | cons r rr =>
  cases rr with
  | cons r' rr =>
   cases rr
   obtain⟨t,rfl⟩:=r
   obtain⟨t',rfl⟩:=r'
   exact call_range_2 (alo l d n m u q)
def tFor(wi:TI)(g:TG)(tb:TS):TS:=λD σ H=>wi σ H λJ H1=>∃ W:Nat->Nat->St->Hp->Prop,(∃ m,W 0 m σ H1)/\∀ i m σ H,W i m σ H ->
 (J.stop i H/\D.nx σ H)\/(J.go i H/\∃ N:St->Hp->Prop,(∀ σ' H',N σ' H'->∃ m',m'<m/\W (i+1) m' σ' H')/\∀ x H',J.yld i H x H'->g x σ H' λσ2 H2=>tb { D with nx:=N,ct:=N,bk:=D.nx } σ2 H2)
def aej(fp:List Addr)(h:Heap):List (Addr × Obj):=fp.filterMap λb=>(h.get? b).map λo=>(b,o)
theorem ab6{fp:List Addr}{h:Heap}{b:Addr}{o:Obj}(hb:b∈fp)(e:h.get? b=some o):(b,o)∈aej fp h:=List.mem_filterMap.mpr ⟨b,hb,by rw[e];rfl⟩
theorem arl{fp:List Addr}{h:Heap}{p:Addr × Obj}(c:p∈aej fp h):p.1∈fp/\h.get? p.1=some p.2:=by
 obtain⟨b,hb,e⟩:=List.mem_filterMap.mp c
 cases q:h.get? b with
 |none=>rw[q] at e;cases e
 | some o =>
  rw[q] at e
  have a:(b,o)=p:=aC6 e
  subst a
  exact⟨hb,q⟩
theorem Inv.pinned{pins:List (Addr × Obj)}{σ:St}{H:Hp}{s:Shared}{fp:List Addr}(I:Inv X pins σ H s)(hf:∀ b∈fp,FpOk X pins H b)(g:∀ b∈fp,∃ o,s.heap.get? b=some o/\∀ v,o.data ≠ .cell v):Inv X (pins++aej fp s.heap) σ H s :=
 I.pins_of λp c=>(aA7.mp c).elim (λz=>I.pin p (aB3 _ z)) λz=>by
  obtain⟨hb,e⟩:=arl z
  obtain⟨f,f1,h,_⟩:=hf p.1 hb
  obtain⟨o,a,d⟩:=g p.1 hb
  rw[e] at a;cases a
  exact⟨e,f,f1,h,d⟩
theorem Inv.unpinned{pins pl:List (Addr × Obj)}{σ:St}{H:Hp}{s:Shared}(I:Inv X (pins++pl) σ H s):Inv X pins σ H s:=I.pins_of λp a=>I.pin p (aB3 _ (aC7 _ a))
theorem abr{iter:Expr}{body:List Stmt}{wi:TI}{g:TG}{tb:TS}{pos:Pos}(F:PassesOwn (model X.prog X.w) X.A X.env X.xe)(hc:X.calm=true)(hi:PI X tg iter wi)(hg:PG X tg g)(hb:PSs X body tb)
  (hs:∀ x,foldedSetIterable iter X.env x=pure x:=by intro _;rfl):PS X (.For tg iter body [] pos) (tFor wi g tb):=by
 intro pins s σ H D I h
 refine wpAny_For (thn (hi pins s σ H _ I h) λv s1 h1=>thn h1 λa0 s2 h2=>?_) hs
 obtain⟨it,fp,tn,J,H2,e,I2,T,M,f2,W,⟨m0,w0⟩,C⟩:=h2
 subst e
 -- what stays true of the iterator's objects through the loop
 have y:∀{H':Hp},(∀ b∈fp,H' b=none)->∀ b∈fp,FpOk X pins H' b:=λhn b hb=>⟨hn b hb,(f2 b hb).2⟩
 refine codeAny_forLoop_any (λn s'=>∃ i j H',Inv X pins j H' s'/\tn i s'.heap/\(∀ b∈fp,H' b=none)/\W i n j H') ?_ m0 ⟨0,σ,H2,I2,M,λb hb=>(f2 b hb).1,w0⟩
 rintro n Z ⟨i,c,H3,S,G,K,w3⟩
 rcases C i n c H3 w3 with ⟨stop,qn⟩|⟨go,N,hN,step⟩
 ·refine wpAny_passesOwn F (thn (T.done X rfl rfl rfl hc i pins Z c H3 X.xe S (y K) G stop) λr s4 ⟨Q,I4⟩=>?_)
  subst Q
  exact wpAny_execs_nil ⟨c,H3,I4,qn⟩
 ·refine wpAny_passesOwn F (thn (T.item X rfl rfl rfl hc i pins Z c H3 X.xe S (y K) G go) λr s4 ⟨u,Q,h4⟩=>?_)
  subst Q
  refine wpAny_passesOwn F (thn h4 λ_ U ⟨x,Y,I5,r5,y5,B,O⟩=>?_)
  have R:=I5.pinned (y O) (T.obj _ _ B)
  refine wpAny_passesOwn F (thn (hg _ U c Y x u _ R r5 (step x Y y5)) λ_ s6 ⟨P,H6,I6,q6⟩=>?_)
  refine wpAny_passesOwn F (thn (hb _ s6 P H6 _ I6 q6) λf L z=>?_)
  have l:∀{a:St}{p:Hp},Inv X (pins++aej fp U.heap) a p L->N a p->∃ m,m<n/\∃ i j H',Inv X pins j H' L/\tn i L.heap/\(∀ b∈fp,H' b=none)/\W i m j H':=λ{a p} q E=>by
   obtain⟨m',hm,w7⟩:=hN a p E
   refine⟨m',hm,i+1,a,p,q.unpinned,T.keep _ _ _ B λb hb o e=>(q.pin (b,o) (aB3 _ (aB3 _ (ab6 hb e)))).1,λb hb=>?_,w7⟩
   obtain⟨o,e,d⟩:=T.obj _ _ B b hb
   exact(q.pin (b,o) (aB3 _ (aB3 _ (ab6 hb e)))).2.1
  cases f with
  |next=>obtain⟨a,p,q,E⟩:=z;exact l q E
  |cont=>obtain⟨a,p,q,E⟩:=z;exact l q E
  |brk=>obtain⟨a,p,q,z⟩:=z;exact⟨a,p,q.unpinned,z⟩
  |ret v=>obtain⟨x7,a,p,q,r7,z⟩:=z;exact⟨x7,a,p,q.unpinned,r7,z⟩
end
abbrev R2:=V->V->Hp->VK->Prop
def OpR(X:Cx)(f:Value->Value->Sem Value)(r:R2):Prop :=
 ∀(pins:List (Addr × Obj))(s:Shared)(σ:St)(H:Hp)(x y:V)(v u:Value)(Q:VK),Inv X pins σ H s->RelV x v->RelV y u->r x y H Q ->
  wpAny (model X.prog X.w) X.A (f v u) (EP X pins σ Q) X.xe s
def abh(X:Cx)(f:Value)(r:List V->Hp->VK->Prop):Prop :=
 ∀(pins:List (Addr × Obj))(s:Shared)(σ:St)(H:Hp)(xs:List V)(us:List Value)(Q:VK),Inv X pins σ H s->Vals xs us->r xs H Q ->
  wpAny (model X.prog X.w) X.A (call f us) (EP X pins σ Q) X.xe s
def TruR(X:Cx)(r:V->Hp->(Bool->Hp->Prop)->Prop):Prop :=
 ∀(pins:List (Addr × Obj))(s:Shared)(σ:St)(H:Hp)(x:V)(v:Value)(Q:Bool->Hp->Prop),Inv X pins σ H s->RelV x v->r x H Q ->
  wpAny (model X.prog X.w) X.A (truthy v) (TP X pins σ Q) X.xe s
def tOp(r:R2)(ta tb:TE):TE:=λσ H Q=>ta σ H λx H1=>tb σ H1 λy H2=>r x y H2 Q
def rI(C:Int->Int->Prop)(g:Int->Int->V):R2:=λx y H Q=>∃ i j,x=.int i/\y=.int j/\C i j/\Q (g i j) H
def rI0(g:Int->Int->V):R2:=λx y H Q=>∃ i j,x=.int i/\y=.int j/\Q (g i j) H
section
variable{X:Cx}{a b c:Expr}{ta tb tc:TE}{pos:Pos}
theorem binT(ha:PE X a ta)(hb:PE X b tb){pins:List (Addr × Obj)}{s:Shared}{σ:St}{H:Hp}{R:V->V->Hp->Prop}(I:Inv X pins σ H s)
  (h:ta σ H λx g=>tb σ g λy H2=>R x y H2) {Q:Value->Shared->Prop} {f:Value->Value->Sem Value}
  (hf:∀ v u s2 x y H2,Inv X pins σ H2 s2->RelV x v->RelV y u->R x y H2->wpAny (model X.prog X.w) X.A (f v u) Q X.xe s2) :
  wpAny (model X.prog X.w) X.A (eval a X.env) (λv d=>wpAny (model X.prog X.w) X.A (eval b X.env) (λu c=>wpAny (model X.prog X.w) X.A (f v u) Q X.xe c) X.xe d) X.xe s:=by
 refine thn (ha pins s σ H _ I h) λv s1 ⟨x,g,j,o,n⟩=>?_
 refine thn (hb pins s1 σ g _ j n) λu s2 ⟨y,H2,l,i,m⟩=>?_
 exact hf v u s2 x y H2 l o i m
theorem aae{op:Operator}{r:R2}(g:OpR X (binaryOp op) r)(ha:PE X a ta)(hb:PE X b tb):PE X (.BinOp a op b pos) (tOp r ta tb):=by
 intro pins s σ H Q I h
 exact wpAny_BinOp (binT ha hb I h λv u s2 x y H2 d f c q=>g pins s2 σ H2 x y v u Q d f c q)
theorem opI{f:Value->Value->Sem Value}{C:Int->Int->Prop}{g:Int->Int->Int}
  (a:∀(i j:Int)(t u:Tok)(s:Shared)(Q:Value->Shared->Prop)(E:Value->Shared->Prop),C i j->Q (.int (g i j) s.toks) { s with toks:=s.toks+1 }->wpAny (model X.prog X.w) X.A (f (.int i t) (.int j u)) Q E s) :
  OpR X f (rI C λi j=>.int (g i j)):=by
 intro pins s σ H x y v u Q I d c h
 obtain⟨i,j,rfl,rfl,b,q⟩:=h
 obtain⟨t,rfl⟩:=d
 obtain⟨t',rfl⟩:=c
 exact a i j t t' s _ _ b ⟨.int (g i j),H,I.tok _,⟨_,rfl⟩,q⟩
theorem opI0{f:Value->Value->Sem Value}{g:Int->Int->Int}
  (a:∀(i j:Int)(t u:Tok)(s:Shared)(Q:Value->Shared->Prop)(E:Value->Shared->Prop),Q (.int (g i j) s.toks) { s with toks:=s.toks+1 }->wpAny (model X.prog X.w) X.A (f (.int i t) (.int j u)) Q E s) :
  OpR X f (rI0 λi j=>.int (g i j)):=by
 intro pins s σ H x y v u Q I c b h
 obtain⟨i,j,rfl,rfl,q⟩:=h
 obtain⟨t,rfl⟩:=c
 obtain⟨t',rfl⟩:=b
 exact a i j t t' s _ _ ⟨.int (g i j),H,I.tok _,⟨_,rfl⟩,q⟩
theorem opB0{f:Value->Value->Sem Value}{g:Int->Int->Bool}
  (a:∀(i j:Int)(t u:Tok)(s:Shared)(Q:Value->Shared->Prop)(E:Value->Shared->Prop),Q (.bool (g i j)) s->wpAny (model X.prog X.w) X.A (f (.int i t) (.int j u)) Q E s) :
  OpR X f (rI0 λi j=>.bl (g i j)):=by
 intro pins s σ H x y v u Q I c b h
 obtain⟨i,j,rfl,rfl,q⟩:=h
 obtain⟨t,rfl⟩:=c
 obtain⟨t',rfl⟩:=b
 exact a i j t t' s _ _ ⟨.bl (g i j),H,I,rfl,q⟩
def CDiv(i j:Int):Prop:=0<j/\j<1073741824
def CPow(i j:Int):Prop:=0<=j/\j<=1000000/\i.natAbs<2 ^ 64
def CMul(i j:Int):Prop:=(-(2 ^ 64)<i/\i<2 ^ 64)\/(-(2 ^ 64)<j/\j<2 ^ 64)
theorem CMul.ok{i j:Int}(h:CMul i j):IntMulOk i j:=by
 rcases h with ⟨a,b⟩|⟨a,b⟩
 ·exact .of_left (intBits_le_64 a b)
 ·exact .of_right (intBits_le_64 a b)
theorem aax:OpR X (binaryOp .Add) (rI0 λi j=>.int (i+j)):=opI0 λ_ _ _ _ _ _ _ q=>add_int q
theorem adk:OpR X (binaryOp .Sub) (rI0 λi j=>.int (i-j)):=opI0 λ_ _ _ _ _ _ _ q=>sub_int q
theorem ace:OpR X (binaryOp .Mult) (rI CMul λi j=>.int (i * j)):=opI λ_ _ _ _ _ _ _ a q=>mul_int q a.ok
theorem ab4:OpR X (binaryOp .FloorDiv) (rI CDiv λi j=>.int (i / j)):=opI λi j _ _ _ _ _ a q=>by
 have b:(0:Int)<j:=a.1
 have c:j<1073741824:=a.2
 exact floordiv_int (by lia) (by rw[Int.fdiv_eq_ediv_of_nonneg i (by lia)];exact q) (.inl (PyProof.noPylong_small (by lia)))
theorem aa0:OpR X (binaryOp .Mod) (rI (λ_ j=>0<j) λi j=>.int (i % j)):=opI λi j _ _ _ _ _ a q=>by
 have b:(0:Int)<j:=a
 exact mod_int' (by lia) (by rw[Int.fmod_eq_emod_of_nonneg i (by lia)];exact q)
theorem azt:OpR X (binaryOp .Pow) (rI CPow λi j=>.int (i ^ j.toNat)):=opI λ_ _ _ _ _ _ _ a q=>pow_int_small a.1 a.2.1 a.2.2 q
end
def scal:V->V->Bool
 | .non,.non=>true | .non,.int _=>true | .int _,.non=>true | .non,.bl _=>true | .bl _,.non=>true | .non,.str _=>true | .str _,.non=>true
 | .int _,.int _=>true | .bl _,.bl _=>true | .str _,.str _=>true | .byt _,.byt _=>true
 | .int _,.str _=>true | .str _,.int _=>true | .bl _,.str _=>true | .str _,.bl _=>true
 |_,_=>false
def rEq:R2:=λx y H Q=>scal x y=true/\Q (.bl (decide (x=y))) H
def rNe:R2:=λx y H Q=>scal x y=true/\Q (.bl (!decide (x=y))) H
theorem ags{i j:Int}:decide (V.int i=V.int j)=(i == j):=by
 rw[aH9]
 simp
theorem arm{i j:Bool}:decide (V.bl i=V.bl j)=(i == j):=by
 rw[aH9]
 simp
theorem aok{i j:Str}:decide (V.str i=V.str j)=(i == j):=by
 rw[aH9]
 simp
theorem aol{i j:Array UInt8}:decide (V.byt i=V.byt j)=(i.toList == j.toList):=by
 rw[aH9]
 cases i
 cases j
 simp
section
variable{X:Cx}{a b c:Expr}{ta tb tc:TE}{pos:Pos}
theorem aa1{pins:List (Addr × Obj)}{σ:St}{H:Hp}{s:Shared}{Q:VK}{k a:Bool}(I:Inv X pins σ H s)(q:Q (.bl k) H)(e:k=a):EP X pins σ Q (.bool a) s:=by
 subst e
 exact⟨.bl k,H,I,rfl,q⟩
theorem ap5:OpR X (compareOp .Eq) rEq:=by
 intro pins s σ H x y v u Q I b a h
 obtain⟨hs,q⟩:=h
 cases x with
 | non =>
  cases b
  cases y with
  |non=>cases a;exact PySem.EqNone.eq_none_none (aa1 I q (by simp))
  |bl j=>cases a;exact PySem.EqNone.eq_none_bool (aa1 I q (by simp))
  |int j=>obtain⟨t',rfl⟩:=a;exact PySem.EqNone.eq_none_int (aa1 I q (by simp))
  |str j=>obtain⟨t',rfl⟩:=a;exact PySem.EqNone.eq_none_str (aa1 I q (by simp))
  |_=>exact absurd (show false=true from hs) aB0
 | bl i =>
  cases b
  cases y with
  |non=>cases a;exact PySem.EqNone.eq_bool_none (aa1 I q (by simp))
  |bl j=>cases a;exact eq_bool (aa1 I q arm)
  |str j=>obtain⟨t',rfl⟩:=a;exact PySem.EqMixed.eq_bool_str (aa1 I q (by simp))
  |_=>exact absurd (show false=true from hs) aB0
 | int i =>
  obtain⟨t,rfl⟩:=b
  cases y with
  |non=>cases a;exact PySem.EqNone.eq_int_none (aa1 I q (by simp))
  |int j=>obtain⟨t',rfl⟩:=a;exact eq_int (aa1 I q ags)
  |str j=>obtain⟨t',rfl⟩:=a;exact PySem.EqMixed.eq_int_str (aa1 I q (by simp))
  |_=>exact absurd (show false=true from hs) aB0
 | str i =>
  obtain⟨t,rfl⟩:=b
  cases y with
  |non=>cases a;exact PySem.EqNone.eq_str_none (aa1 I q (by simp))
  |bl j=>cases a;exact PySem.EqMixed.eq_str_bool (aa1 I q (by simp))
  |int j=>obtain⟨t',rfl⟩:=a;exact PySem.EqMixed.eq_str_int (aa1 I q (by simp))
  |str j=>obtain⟨t',rfl⟩:=a;exact eq_str (aa1 I q aok)
  |_=>exact absurd (show false=true from hs) aB0
 | byt i =>
  obtain⟨t,rfl⟩:=b
  cases y with
  |byt j=>obtain⟨t',rfl⟩:=a;exact PySem.W.eq_bytes (aa1 I q aol)
  |_=>exact absurd (show false=true from hs) aB0
 |_=>cases y <;> exact absurd (show false=true from hs) aB0
theorem awh:OpR X (compareOp .NotEq) rNe:=by
 intro pins s σ H x y v u Q I b a h
 obtain⟨hs,q⟩:=h
 cases x with
 | non =>
  cases b
  cases y with
  |non=>cases a;exact PySem.EqNone.ne_none_none (aa1 I q (by simp))
  |bl j=>cases a;exact PySem.EqNone.ne_none_bool (aa1 I q (by simp))
  |int j=>obtain⟨t',rfl⟩:=a;exact PySem.EqNone.ne_none_int (aa1 I q (by simp))
  |str j=>obtain⟨t',rfl⟩:=a;exact PySem.EqNone.ne_none_str (aa1 I q (by simp))
  |_=>exact absurd (show false=true from hs) aB0
 | bl i =>
  cases b
  cases y with
  |non=>cases a;exact PySem.EqNone.ne_bool_none (aa1 I q (by simp))
  |bl j=>cases a;exact ne_bool (aa1 I q (congrArg not arm))
  |str j=>obtain⟨t',rfl⟩:=a;exact PySem.EqMixed.ne_bool_str (aa1 I q (by simp))
  |_=>exact absurd (show false=true from hs) aB0
 | int i =>
  obtain⟨t,rfl⟩:=b
  cases y with
  |non=>cases a;exact PySem.EqNone.ne_int_none (aa1 I q (by simp))
  |int j=>obtain⟨t',rfl⟩:=a;exact ne_int (aa1 I q (congrArg not ags))
  |str j=>obtain⟨t',rfl⟩:=a;exact PySem.EqMixed.ne_int_str (aa1 I q (by simp))
  |_=>exact absurd (show false=true from hs) aB0
 | str i =>
  obtain⟨t,rfl⟩:=b
  cases y with
  |non=>cases a;exact PySem.EqNone.ne_str_none (aa1 I q (by simp))
  |bl j=>cases a;exact PySem.EqMixed.ne_str_bool (aa1 I q (by simp))
  |int j=>obtain⟨t',rfl⟩:=a;exact PySem.EqMixed.ne_str_int (aa1 I q (by simp))
  |str j=>obtain⟨t',rfl⟩:=a;exact ne_str (aa1 I q (congrArg not aok))
  |_=>exact absurd (show false=true from hs) aB0
 | byt i =>
  obtain⟨t,rfl⟩:=b
  cases y with
  |byt j=>obtain⟨t',rfl⟩:=a;exact PySem.W.ne_bytes (aa1 I q (congrArg not aol))
  |_=>exact absurd (show false=true from hs) aB0
 |_=>cases y <;> exact absurd (show false=true from hs) aB0
theorem aet:OpR X (compareOp .Lt) (rI0 λi j=>.bl (decide (i<j))):=opB0 λ_ _ _ _ _ _ _ q=>lt_int q
theorem agt:OpR X (compareOp .LtE) (rI0 λi j=>.bl (decide (i<=j))):=opB0 λ_ _ _ _ _ _ _ q=>le_int q
theorem ah3:OpR X (compareOp .Gt) (rI0 λi j=>.bl (decide (j<i))):=opB0 λ_ _ _ _ _ _ _ q=>gt_int q
theorem awi:OpR X (compareOp .GtE) (rI0 λi j=>.bl (decide (j<=i))):=opB0 λ_ _ _ _ _ _ _ q=>ge_int q
theorem azu:OpR X (compareOp .Is) (λx y H Q=>y=.non/\Q (.bl (decide (x=.non))) H):=by
 intro pins s σ H x y v u Q I a b h
 obtain⟨rfl,q⟩:=h
 cases b
 refine is_none_gen (aa1 I q ?_)
 cases x <;> first
  |(cases a;rfl)
  |(obtain⟨t,rfl⟩:=a;rfl)
theorem aw4:OpR X (compareOp .IsNot) (λx y H Q=>y=.non/\Q (.bl (!decide (x=.non))) H):=by
 intro pins s σ H x y v u Q I a b h
 obtain⟨rfl,q⟩:=h
 cases b
 refine isnot_none_gen (aa1 I q ?_)
 cases x <;> first
  |(cases a;rfl)
  |(obtain⟨t,rfl⟩:=a;rfl)
theorem aa2(b:Expr){op:CmpOp}(h:op ≠ .In:=by decide)(c:op ≠ .NotIn:=by decide):behindInMarks op b=false:=by
 have d:(op == CmpOp.In)=false:=by cases op <;> first|rfl|exact absurd rfl h
 have a:(op == CmpOp.NotIn)=false:=by cases op <;> first|rfl|exact absurd rfl c
 cases b <;> simp[behindInMarks,d,a]
theorem ac9{op:CmpOp}{r:R2}(g:OpR X (compareOp op) r)(ha:PE X a ta)(hb:PE X b tb)(hm:behindInMarks op b=false):PE X (.Compare a [op] [b] pos) (tOp r ta tb):=by
 intro pins s σ H Q I h
 exact wpAny_Compare1 (binT ha hb I h λv u s2 x y H2 d f c q=>g pins s2 σ H2 x y v u Q d f c q) hm
def ap6(t:TE):TT:=λσ H Q=>t σ H λx H'=>∃ k,x=.bl k/\Q k H'
theorem aa4{op:CmpOp}{r:R2}(p:OpR X (compareOp op) r)(ha:PE X a ta)(hb:PE X b tb)(hm:behindInMarks op b=false):PT X (.Compare a [op] [b] pos) (ap6 (tOp r ta tb)):=by
 intro pins s σ H Q I h
 refine wpAny_isTrue_Compare1 (thn (ha pins s σ H _ I h) λv s1 ⟨x,i,j,q,o⟩=>thn (hb pins s1 σ i _ j o) λu s2 ⟨y,H2,l,g,n⟩ =>
  thn (p pins s2 σ H2 x y v u _ l q g n) λc w ⟨z,H3,f,d,k,e,m⟩=>?_) hm
 subst e
 cases d
 exact aK5 ⟨H3,f,m⟩
def alp(r r':R2)(ta tb tc:TE):TE:=λσ H Q=>ta σ H λx H1=>tb σ H1 λy H2=>r x y H2 λz H3=>∃ k,z=.bl k /\
 (if k=true then tc σ H3 λw' H4=>r' y w' H4 Q else Q (.bl false) H3)
theorem at6{op f:CmpOp}{r j:R2}(L:OpR X (compareOp op) r)(g:OpR X (compareOp f) j)(ha:PE X a ta)(hb:PE X b tb)(w:PE X c tc)
  (hm:lastMarks [op,f] [b,c]=false:=by with_unfolding_all rfl):PE X (.Compare a [op,f] [b,c] pos) (alp r j ta tb tc):=by
 intro pins s σ H Q I h
 refine Compare_chain (thn (ha pins s σ H _ I h) λv s1 ⟨x,C,E,M,K⟩=>chain_link (thn (hb pins s1 σ C _ E K) λu s2 ⟨y,H2,G,l,J⟩ =>
  thn (L pins s2 σ H2 x y v u _ G M l J) λd D ⟨z,H3,i,o,k,e,m⟩=>?_)) hm
 subst e
 cases o
 refine aK5 ?_
 cases k with
 |false=>exact ite_ff ⟨.bl false,H3,i,rfl,m⟩
 |true=>exact ite_tt (chain_last (thn (w pins D σ H3 _ i m) λq B ⟨A,n,F,p,N⟩=>g pins B σ n y A u q Q F l p N))
def TruV(K:Frag)(x:V)(H:Hp)(k:Bool):Prop :=
 match x with
 | .non=>k=false
 | .bl b=>k=b
 | .int i=>k=(i != 0)
 | .str y=>y.length<=sizeLine/\k=((y.length:Int) != 0)
 | .byt y=>y.size<=sizeLine/\k=((y.size:Int) != 0)
 | .ref p=>(∃ xs,SqL K H p xs/\k = !xs.isEmpty)\/(∃ xs,SqT K H p xs/\k = !xs.isEmpty)\/∃ kvs,H p=some (.dK kvs)/\k = !kvs.isEmpty
 |_=>False
theorem ap7{κ:Type}{kvs:List (κ × V)}{vs:List (κ × Value)}(r:KV kvs vs):(!vs.isEmpty) = !kvs.isEmpty:=by
 cases r <;> rfl
theorem ah4{xs:List V}{its:List Value}(r:Vals xs its):(!its.toArray.isEmpty) = !xs.isEmpty:=by
 cases r <;> simp
theorem af6:(sizeLine:Nat)<2 ^ 63:=by rw[sizeLine_eq];decide
theorem azv:TruR X (λx H Q=>∃ k,TruV X.K x H k/\Q k H):=by
 intro pins s σ H x v Q I d h
 obtain⟨k,e,q⟩:=h
 have l:=af6
 have hs:sizeLine=16777216:=sizeLine_eq
 cases x with
 | non =>
  cases d
  have a:k=false:=e
  subst a
  exact truthy_none ⟨H,I,q⟩
 | bl b =>
  cases d
  have a:k=b:=e
  subst a
  exact aK5 ⟨H,I,q⟩
 | int i =>
  obtain⟨t,rfl⟩:=d
  have a:k=(i != 0):=e
  subst a
  exact PySem.P.truthy_int ⟨H,I,q⟩
 | str y =>
  obtain⟨t,rfl⟩:=d
  obtain⟨g,a⟩:y.length<=sizeLine/\k=((y.length:Int) != 0):=e
  subst a
  exact PySem.P.truthy_str (by lia) ⟨H,I.tok _,q⟩
 | byt y =>
  obtain⟨t,rfl⟩:=d
  obtain⟨g,a⟩:y.size<=sizeLine/\k=((y.size:Int) != 0):=e
  subst a
  exact PySem.W.truthy_bytes (by lia) ⟨H,I.tok _,q⟩
 | ref p =>
  cases d
  have a:(∃ xs,SqL X.K H p xs/\k = !xs.isEmpty)\/(∃ xs,SqT X.K H p xs/\k = !xs.isEmpty)\/∃ kvs,H p=some (.dK kvs)/\k = !kvs.isEmpty:=e
  rcases a with ⟨xs,f,a⟩|⟨xs,f,a⟩|⟨kvs,f,a⟩
  ·subst a
   obtain⟨its,r,pl,hz⟩:=I.list f
   have c:=r.length
   exact wpAny_truthy_list pl.isList (by simp only[aB2];lia) ⟨H,I.tok _,by rw[ah4 r];exact q⟩
  ·subst a
   obtain⟨its,r,pl,hz⟩:=I.tuple f
   have c:=r.length
   exact truthy_tuple pl (by simp only[aB2];lia) ⟨H,I.tok _,by rw[ah4 r];exact q⟩
  ·subst a
   obtain⟨hz,j,vs,r,m⟩:kvs.length<=sizeLine/\(p == sysModules)=false/\∃ vs,KV kvs vs/\s.heap.DictOf (abu X.prog X.w) p vs:=I.hok p _ f
   have c:kvs.length=vs.length:=Paired.length r
   exact wpAny_truthy_dict j m (by lia) ⟨H,I.tok _,by rw[ap7 r];exact q⟩
 |_=>exact(show False from e).elim
theorem at7(ha:PE X a ta)(b:∀ whole,isTrue a X.env whole=(do let v ← whole;standAt a.pos;holding [v] (truthy v))) :
  PT X a (λσ H Q=>ta σ H λx H'=>∃ k,TruV X.K x H' k/\Q k H'):=by
 intro pins s σ H Q I h
 exact isTrue_plain (thn (ha pins s σ H _ I h) λv s1 ⟨x,c,d,g,f⟩=>azv pins s1 σ c x v Q d g f) (b _)
theorem acb{x:V}{us:List Value}(r:Vals [x] us):∃ u,us=[u]/\RelV x u:=by
 cases r with
 |cons r1 r2=>cases r2;exact⟨_,rfl,r1⟩
theorem ala{x y:V}{us:List Value}(r:Vals [x,y] us):∃ u a,us=[u,a]/\RelV x u/\RelV y a:=by
 cases r with
 | cons r1 r2 =>
  cases r2 with
  |cons r3 r4=>cases r4;exact⟨_,_,rfl,r1,r3⟩
theorem arn(a:X.calm=true):abh X (.builtin "max") (λxs H Q=>∃ i j,xs=[.int i,.int j]/\Q (.int (if j > i then j else i)) H):=by
 intro pins s σ H xs us Q I r h
 obtain⟨i,j,rfl,q⟩:=h
 obtain⟨u,b,rfl,⟨t,rfl⟩,⟨t',rfl⟩⟩:=ala r
 refine max_two_ints (I.ok.hd a) λh' c k=>⟨_,H,I.kept k,?_,q⟩
 by_cases hj:j > i
 ·rw[aF6 hj,aF6 hj];exact⟨_,rfl⟩
 ·rw[aF7 hj,aF7 hj];exact⟨_,rfl⟩
theorem aro(a:X.calm=true):abh X (.builtin "min") (λxs H Q=>∃ i j,xs=[.int i,.int j]/\Q (.int (if j<i then j else i)) H):=by
 intro pins s σ H xs us Q I r h
 obtain⟨i,j,rfl,q⟩:=h
 obtain⟨u,b,rfl,⟨t,rfl⟩,⟨t',rfl⟩⟩:=ala r
 refine min_two_ints (I.ok.hd a) λh' c k=>⟨_,H,I.kept k,?_,q⟩
 by_cases hj:j<i
 ·rw[aF6 hj,aF6 hj];exact⟨_,rfl⟩
 ·rw[aF7 hj,aF7 hj];exact⟨_,rfl⟩
theorem arp:abh X (.type "int") (λxs H Q=>(∃ i,xs=[.int i]/\Q (.int i) H)\/∃ k,xs=[.bl k]/\Q (.int (if k then 1 else 0)) H):=by
 intro pins s σ H xs us Q I r h
 rcases h with ⟨i,rfl,q⟩|⟨k,rfl,q⟩
 ·obtain⟨u,rfl,t,rfl⟩:=acb r
  exact call_int_int ⟨.int i,H,I,⟨_,rfl⟩,q⟩
 ·obtain⟨u,rfl,a⟩:=acb r
  cases a
  exact call_int_bool ⟨.int (if k then 1 else 0),H,I.tok _,⟨_,rfl⟩,q⟩
end
structure ObjM(h:Heap)(x dx C:Addr)(mA:Str->Option Value):Prop where
 obj:h.get? x=some (PySem.W.instObj C dx)
 ns:h.Ns1 dx mA
 ne:dx ≠ x
theorem arq{h:Heap}{dx:Addr}{mA:Str->Option Value}(n:h.Ns1 dx mA):∃ od,h.get? dx=some od/\∀ name,PySem.W.lookIn name od=some (mA name):=by
 obtain⟨o,es,ep,g,hd,c,_,hm⟩:=n
 refine⟨o,g,λname=>?_⟩
 have e:=hm name
 unfold nsFind findBy at e
 rw[← Array.find?_toList] at e
 unfold PySem.W.lookIn
 rw[hd]
 dsimp only
 split
 ·rename_i y q
  rw[q] at e
  exact congrArg some e
 ·rename_i q
  rw[q] at e
  have a:es.toList.any (·.refKey)=false:=by
   rw[List.any_eq_false]
   intro y d
   obtain⟨z,t,b⟩:=c y (Array.mem_toList_iff.mp d)
   simp[DictEntry.refKey,b]
  have f:¬ es.toList.any (·.refKey)=true:=by rw[a];exact aB0
  rw[aF7 f]
  exact congrArg some e
theorem ObjM.look{h:Heap}{x dx C:Addr}{mA:Str->Option Value}(I:ObjM h x dx C mA):∃ od,PySem.W.InstAt h x (PySem.W.instObj C dx) C (some od)/\∀ name,PySem.W.lookIn name od=some (mA name) :=
 let ⟨od,b,a⟩:=arq I.ns
 ⟨od,⟨I.obj,rfl,rfl,b⟩,a⟩
section
variable{prog:Program}{w:World}{A:Around}{E:Value->Shared->Prop}{s:Shared}{K:Frag}{x dx C f:Addr}{mA:Str->Option Value}{name:Str}{v:Value}
end
def putF(f:Str)(v:V):List (Str × V)->List (Str × V)
 |[]=>[(f,v)]
 |(g,x)::r=>if g=f then (g,v)::r else (g,x)::putF f v r
section
variable{P:Program}{w:World}{H H':Hp}{h h':Heap}{a C dx:Addr}{fs fs':List (Str × V)}
theorem ins_get(hok:HOk P w H h)(e:H a=some (.ins C dx fs)):∃ mA,ObjM h a dx C mA/\(∀ f,RelO (fs.lookup f) (mA f))/\PySem.Within mA (fs.map (·.1))/\fs.length<=1000/\H dx=some (.own a):=by
 obtain⟨d,z,ne,b,mA,n,r,q⟩:=(show ObjOk P w H h a (.ins C dx fs) from hok a _ e)
 exact⟨mA,⟨b,n,ne⟩,r,q,z,d⟩
end
structure Cls(K:Frag)(C:Addr):Prop where
 pg:PySem.W.plainGet K C Str.empty=true
 hd:PySem.W.hasDictIn K C=true
 po:PySem.W.plainOver K C=true
 sa:PySem.W.findIn K (.ref C) "__setattr__" = some (some (.builtin "object.__setattr__"))
theorem Cls.get{K:Frag}{C:Addr}(c:Cls K C)(f:Str):PySem.W.plainGet K C f=true:=c.pg
section
variable{X:Cx}{pins:List (Addr × Obj)}{σ:St}{H:Hp}{s:Shared}{a C dx:Addr}{fs:List (Str × V)}{f:Str}{v:V}{A:Around}{E:Value->Shared->Prop}
end
section
variable{X:Cx}{o e value:Expr}{f:Str}{pos pos' tpos:Pos}{ta tv:TE}
end
section
variable{X:Cx}{pins:List (Addr × Obj)}{σ:St}{H:Hp}{s:Shared}{A:Around}{E:Value->Shared->Prop}{Q:Value->Shared->Prop}{c:Value}{b:Bool}
inductive TyOf(K:Frag)(H:Hp):V->Value->Prop where
 |non:TyOf K H .non (.type "NoneType")
 |bl (x:Bool):TyOf K H (.bl x) (.type "bool")
 |int (i:Int):TyOf K H (.int i) (.type "int")
 |str (x:Str):TyOf K H (.str x) (.type "str")
 |flt (x:UInt64):TyOf K H (.flt x) (.type "float")
 |lst {a:Addr} {xs:List V} (e:H a=some (.lst xs)):TyOf K H (.ref a) (.type "list")
 |frz {a:Addr} {o:Obj} {xs:List V} (e:H a=some (.frz o (.lst xs))):TyOf K H (.ref a) (.type "list")
 |tup {a:Addr} {xs:List V} (e:H a=some (.tup xs)):TyOf K H (.ref a) (.type "tuple")
 |dK {a:Addr} {kvs:List (Key × V)} (e:H a=some (.dK kvs)):TyOf K H (.ref a) (.type "dict")
 |dT {a:Addr} {kvs:List (List Key × V)} (e:H a=some (.dT kvs)):TyOf K H (.ref a) (.type "dict")
 | ins {a C dx:Addr} {fs:List (Str × V)} (e:H a=some (.ins C dx fs)) (cl:Cls K C) (ha:PySem.W.findIn K (.ref C) "__class__" = some (some (.builtin "object.__class__")))
   (hn:PySem.W.specialIn K (.builtin "object.__class__") "__get__" = some (some (.builtin "getset_descriptor.__get__"))) (htk:PySem.W.takesIn K (.builtin "object.__class__")=some true)
   (hm:mroIn K C (.type "object")=some true):TyOf K H (.ref a) (.ref C)
theorem ars{x:V}{u t:Value}(I:Inv X pins σ H s)(d:RelV x u)(ty:TyOf X.K H x t)(e:kitOne X.K t c=some b)(h:∀ j,Q (.bool b) { s with toks:=j }) :
  wpAny (model X.prog X.w) A (call (.builtin "isinstance") [u,c]) Q E s:=by
 cases ty with
 |non=>cases (show u=Value.none from d);exact PySem.W.kia_one PySem.W.kitx_none I.kIn True.intro e (λz=>nomatch z) h
 |bl y=>cases (show u=Value.bool y from d);exact PySem.W.kia_one PySem.W.kitx_bool I.kIn True.intro e (λz=>nomatch z) h
 |int i=>obtain⟨t,q⟩:=(show ∃ t,u=Value.int i t from d);cases q;exact PySem.W.kia_one PySem.W.kitx_int I.kIn True.intro e (λz=>nomatch z) h
 |str y=>obtain⟨t,q⟩:=(show ∃ t,u=Value.str y t from d);cases q;exact PySem.W.kia_one PySem.W.kitx_str I.kIn True.intro e (λz=>nomatch z) h
 |flt y=>obtain⟨t,q⟩:=(show ∃ t,u=Value.float y t from d);cases q;exact PySem.W.kia_one PySem.W.kitx_float I.kIn True.intro e (λz=>nomatch z) h
 | @lst a xs ea =>
  cases (show u=Value.ref a from d)
  obtain⟨_,_,n,_,f⟩:=(show ObjOk X.prog X.w H s.heap a (.lst xs) from I.hok a _ ea)
  exact PySem.W.kia_one PySem.W.kitx_list I.kIn ⟨_,f,rfl⟩ e (λz=>nomatch z) h
 | @frz a ob xs ea =>
  cases (show u=Value.ref a from d)
  obtain⟨_,_,_,n,_,f⟩:=(show ObjOk X.prog X.w H s.heap a (.frz ob (.lst xs)) from I.hok a _ ea)
  exact PySem.W.kia_one PySem.W.kitx_list I.kIn ⟨_,f,rfl⟩ e (λz=>nomatch z) h
 | @tup a xs ea =>
  cases (show u=Value.ref a from d)
  obtain⟨_,_,_,p⟩:=(show ObjOk X.prog X.w H s.heap a (.tup xs) from I.hok a _ ea)
  obtain⟨o,f,g,_⟩:=p
  exact PySem.W.kia_one PySem.W.kitx_tuple I.kIn ⟨o,f,g⟩ e (λz=>nomatch z) h
 | @dK a kvs ea =>
  cases (show u=Value.ref a from d)
  obtain⟨_,_,vs,_,p⟩:=(show ObjOk X.prog X.w H s.heap a (.dK kvs) from I.hok a _ ea)
  obtain⟨o,es,ep,f,g,_⟩:=p
  exact PySem.W.kia_one PySem.W.kitx_dict I.kIn ⟨o,f,g.1⟩ e (λz=>nomatch z) h
 | @dT a kvs ea =>
  cases (show u=Value.ref a from d)
  obtain⟨_,_,xs,_,o,es,ep,f,g,_⟩:=(show ObjOk X.prog X.w H s.heap a (.dT kvs) from I.hok a _ ea)
  exact PySem.W.kia_one PySem.W.kitx_dict I.kIn ⟨o,f,g.1⟩ e (λz=>nomatch z) h
 | @ins a C dx fs ea cl ha hn htk hm =>
  cases (show u=Value.ref a from d)
  obtain⟨mA,O,_⟩:=ins_get I.hok ea
  obtain⟨od,J,_⟩:=O.look
  exact PySem.W.kia_one (PySem.W.kitx_own (cl.get _) cl.hd ha hn htk hm) I.kIn J e (λz=>nomatch z) h
end
structure Room(k:Nat)(A:Around):Prop where
 hd:A.handled=none
 dp:A.depth+3 * k+5<recursionLimit
 un:A.units+16 * k+200<cLine
 gd:A.guards=some []
theorem Room.mono{j k:Nat}{A:Around}(r:Room k A)(h:j<=k):Room j A:=⟨r.hd,by have:=r.dp;lia,by have:=r.un;lia,r.gd⟩
theorem Room.deeper{k:Nat}{A:Around}(r:Room (k+1) A)(env:Env):Room k (A.deeper env) :=
 ⟨r.hd,by have:=r.dp;show A.depth+1+3 * k+5<_;lia,by have:=r.un;show A.units+3+16 * k+200<_;lia,r.gd⟩
theorem Room.in1{k:Nat}{A:Around}(r:Room (k+1) A):Room k A.in1 :=
 ⟨r.hd,by have:=r.dp;show A.depth+3 * k+5<_;lia,by have:=r.un;show A.units+1+16 * k+200<_;lia,r.gd⟩
theorem Room.depth{k:Nat}{A:Around}(r:Room k A):A.depth<recursionLimit:=by have:=r.dp;lia
theorem Room.units{k:Nat}{A:Around}(r:Room k A):A.units+64<cLine:=by have:=r.un;lia
theorem Room.units0{k:Nat}{A:Around}(r:Room k A):A.units<cLine:=by have:=r.un;lia
def tNil:TA:=λ_ H Q=>Q [] H
def acd(ta:TE)(tr:TA):TA:=λσ H Q=>ta σ H λx H1=>tr σ H1 λxs H2=>Q (x::xs) H2
section
variable{X:Cx}{e:Expr}{es:List Expr}{te:TE}{t:TA}{pos:Pos}
theorem aab:PA X [] tNil:=λ_ _ _ _ H Q I h=>Calls.spliced_nil ⟨[],H,I,.nil,h⟩
theorem aaa(ha:PE X e te)(g:PA X es t)(hs:starEach (e::es) X.env=(false,eval e X.env)::starEach es X.env:=by rfl):PA X (e::es) (acd te t):=by
 intro pos pins s σ H Q I h
 rw[hs]
 show wpAny _ _ (spliced ((false,eval e X.env)::backTo pos (starEach es X.env))) _ _ s
 refine Calls.spliced_cons (thn (ha pins s σ H _ I h) λu s1 ⟨x,b,c,j,i⟩=>?_)
 exact thn (g pos pins s1 σ b _ c i) λus s2 ⟨xs,H2,d,a,f⟩=>⟨x::xs,H2,d,.cons j a,f⟩
def tTup(t:TA):TE:=λσ H Q=>t σ H λxs H1=>xs.length<=sizeLine/\∀ p,H1 p=none->Q (.ref p) (upd H1 p (.tup xs))
def tLst(t:TA):TE:=λσ H Q=>t σ H λxs H1=>xs.length<=sizeLine/\∀ p,H1 p=none->Q (.ref p) (upd H1 p (.lst xs))
theorem abe{x1}(h:PA X es t):PE X (.Tuple es x1 pos) (tTup t):=by
 intro pins s σ H Q I d
 refine wpAny_Tuple_spliced (thn (h pos pins s σ H _ I d) λus s1 ⟨xs,a,c,r,z,q⟩=>⟨by rw[← r.length];exact z,?_⟩)
 have hf:a s1.heap.objs.size=none:=c.hok.fresh (aA6 _)
 refine⟨.ref s1.heap.objs.size,upd a s1.heap.objs.size (.tup xs),c.laid (t':=s1.toks) (λb u e=>aJ3 _ e) (aA6 _) ?_,rfl,q _ hf⟩
 exact⟨z,us,r,⟨_,aJ5 _ rfl,rfl,_,rfl⟩⟩
theorem abi(h:PA X es t):PE X (.List es pos) (tLst t):=by
 intro pins s σ H Q I d
 refine wpAny_List_spliced (thn (h pos pins s σ H _ I d) λus s1 ⟨xs,a,c,r,z,q⟩=>⟨by rw[← r.length];exact z,?_⟩)
 have hf:a s1.heap.objs.size=none:=c.hok.fresh (aA6 _)
 refine⟨.ref s1.heap.objs.size,upd a s1.heap.objs.size (.lst xs),c.laid (t':=s1.toks) (λb u e=>aJ3 _ e) (aA6 _) ?_,rfl,q _ hf⟩
 exact⟨z,us,0,r,aJ5 _ rfl⟩
end
abbrev Sp:=List V->Hp->VK->XK->Prop
abbrev CXT:=List Env->Hp->Shared->XK->Value->Shared->Prop
structure Env0(P:Program)(w:World)(K:Frag)(mg:Str->Option Value)(base:Heap)(A:Around)(outer:List Env)(s:Shared)(H:Hp):Prop where
 frames:A.frames=some outer
 mod:Mod K mg base
 bs:∀ b o,base.get? b=some o->s.heap.get? b=some o/\H b=none
 bsz:base.objs.size<=s.heap.objs.size
 funs:s.heap.FunFrames base outer
 frf:∀ b∈frs outer,H b=none
 tab:TabsOk K H
 hok:HOk P w H s.heap
 bare:AllBare s.gens
def CE(outer:List Env)(P:Program)(w:World)(H:Hp)(s:Shared)(Q:VK)(u:Value)(s':Shared):Prop :=
 ∃ v H',s'.os=s.os/\AllBare s'.gens/\Un (frs outer) [] H H' s.heap s'.heap/\HOk P w H' s'.heap/\RelV v u/\Q v H'
def CR(CX:CXT)(outer:List Env)(P:Program)(w:World)(H:Hp)(s:Shared)(Q:VK)(E:XK)(r:Result)(s':Shared):Prop :=
 match r with
 | .ok (.ret u)=>CE outer P w H s Q u s'
 | .ok _=>False
 | .error e=>CX outer H s E e s'
structure FnOk(P:Program)(w:World)(K:Frag)(mg:Str->Option Value)(base:Heap)(CX:CXT)(k:Nat)(f:Addr)(fd:FuncData)(ps:List Str)(sp:Sp):Prop where
 len:∀ vs H Q E,sp vs H Q E->vs.length=ps.length
 run:∀(A:Around)(outer:List Env)(s:Shared)(H:Hp)(args:Args)(us:List Value)(vs:List V)(Q:VK)(E:XK),Room k A->Env0 P w K mg base A outer s H->BindsTo s fd args (ps.zip us)->Vals vs us->sp vs H Q E ->
  codeAny (model P w) A (.call (.ref f) args) (CR CX outer P w H s Q E) s
theorem FnOk.imp{P:Program}{w:World}{K:Frag}{mg:Str->Option Value}{base:Heap}{CX:CXT}{k:Nat}{f:Addr}{fd:FuncData}{ps:List Str}{sp a:Sp}(F:FnOk P w K mg base CX k f fd ps sp)
  (h:∀ vs H Q E,a vs H Q E->sp vs H Q E):FnOk P w K mg base CX k f fd ps a :=
 ⟨λvs H Q E q=>F.len vs H Q E (h _ _ _ _ q),λA outer s H args us vs Q E d b hb c hs=>F.run A outer s H args us vs Q E d b hb c (h _ _ _ _ hs)⟩
section
variable{X:Cx}{pins:List (Addr × Obj)}{σ:St}{H:Hp}{s s':Shared}
theorem Inv.env0(I:Inv X pins σ H s):Env0 X.prog X.w X.K X.mg X.base X.A X.stack s H :=
 ⟨I.ok.frames,I.ok.mod,I.bs,aD0 I.ok.bsz I.sz,I.stack,I.stkFree,I.tab,I.hok,I.bare⟩
theorem Inv.after{Q:VK}{u:Value}(I:Inv X pins σ H s)(h:CE X.stack X.prog X.w H s Q u s'):EP X pins σ Q u s':=by
 obtain⟨v,H',os,bare,un,hok,r,q⟩:=h
 obtain⟨hh,g,d,t,os'⟩:=s'
 obtain rfl:os'=s.os:=os
 exact⟨v,H',I.call (h':=hh) (g':=g) (d':=d) (t':=t) (ch:=[]) un hok bare (λb z=>absurd z (by simp)),r,q⟩
end
def ad8(sp:Sp)(dvs:List V)(E:XK)(t:TA):TE:=λσ H Q=>t σ H λvs H1=>sp (vs++dvs) H1 Q E
def Binds(K:Frag)(fd:FuncData)(ps:List Str)(ds:List Value):Prop :=
 ∀(s:Shared)(us:List Value),K.In s.heap->(us++ds).length=ps.length->BindsTo s fd ⟨us,[]⟩ (ps.zip (us++ds))
theorem Binds.all{K:Frag}{fd:FuncData}{ps:List Str}(h:∀ us:List Value,us.length=ps.length->bindArgs fd ⟨us,[]⟩=pure (ps.zip us)):Binds K fd ps []:=λs us _ a=>by
 rw[aF1] at a ⊢
 exact .of_eq (h us a)
def alq(CX:CXT)(X:Cx)(E:XK):Prop:=∀(pins:List (Addr × Obj))(σ:St)(H:Hp)(s:Shared)(e:Value)(s':Shared),Inv X pins σ H s->CX X.stack H s E e s'->X.xe e s'
section
variable{X:Cx}{CX:CXT}{k:Nat}{f C:Addr}{fd:FuncData}{ps:List Str}{sp:Sp}{dvs:List V}{ds:List Value}{E:XK}{x m:Str}{p pos apos:Pos}{e o:Expr}{es:List Expr}{ta:TE}{t:TA}
theorem azw{pins:List (Addr × Obj)}{σ:St}{H:Hp}{s:Shared}{Q:VK}{us:List Value}{vs:List V}(F:FnOk X.prog X.w X.K X.mg X.base CX k f fd ps sp)(g:Room k X.A)(hb:Binds X.K fd ps ds)(hd:Vals dvs ds)(c:alq CX X E)
  (I:Inv X pins σ H s) (r:Vals vs us) (h:sp (vs++dvs) H Q E):wpAny (model X.prog X.w) X.A (call (.ref f) us) (EP X pins σ Q) X.xe s:=by
 have b:Vals (vs++dvs) (us++ds):=r.append hd
 have d:(us++ds).length=ps.length:=by rw[← b.length];exact F.len _ _ _ _ h
 refine wpAny_call (aJ6 (F.run X.A X.stack s H ⟨us,[]⟩ (us++ds) (vs++dvs) Q E g I.env0 (hb s us I.kIn d) b h) λr s' a=>?_)
 cases r with
 |error e=>exact c pins σ H s e s' I a
 | ok fl =>
  cases fl with
  |ret u=>exact I.after a
  |next=>exact False.elim a
  |brk=>exact False.elim a
  |cont=>exact False.elim a
theorem aw5(F:FnOk X.prog X.w X.K X.mg X.base CX k f fd ps sp)(l:Room k X.A)(j:Gl X x)(hm:X.mg x=some (.ref f))(d:keepIn X.K (.ref f)=true)(hb:Binds X.K fd ps ds)(hd:Vals dvs ds)(i:alq CX X E)
  (ha:PA X (e::es) t) (a:(x == ("__debug__" : Str))=false:=by decide) (g:starEach (e::es) X.env=(false,eval e X.env)::starEach es X.env:=by rfl) (b:(backTo pos (starEach es X.env)).any (·.1)=false:=by rfl) :
  PE X (.Call (.Name x p) (e::es) [] pos) (ad8 sp dvs E t):=by
 intro pins s σ H Q I h
 refine wpAny_Call_Name_kw (aoi I j hm ?_ a)
 refine PySem.W.callWith_K (h₀:=X.base) I.ok.mod.kin d (thn (ha pos pins s σ H _ I h) λus s1 ⟨vs,m,c,r,q⟩=>⟨c.kIn,?_⟩) g b
 exact azw F l hb hd i c r q
end
def PK(X:Cx)(kws:List Keyword)(t:TA):Prop :=
 ∀(pos:Pos)(pins:List (Addr × Obj))(s:Shared)(σ:St)(H:Hp)(Q:List V->Hp->Prop),Inv X pins σ H s->t σ H Q->wpAny (model X.prog X.w) X.A (evalAll ((backToKw pos (keywordEach kws X.env)).map (·.2))) (AP X pins σ Q) X.xe s
section
variable{X:Cx}{CX:CXT}{k:Nat}{f C:Addr}{fd:FuncData}{ps ks:List Str}{sp:Sp}{E:XK}{x m:Str}{p pos apos kpos:Pos}{e o:Expr}{es:List Expr}{kws:List Keyword}{te ta:TE}{t tk:TA}{nm:Option Str}
theorem azx:PK X [] tNil:=λ_ _ _ _ H Q I h=>wpAny_evalAll_nil ⟨[],H,I,.nil,h⟩
theorem aw6(ha:PE X e te)(g:PK X kws t):PK X (⟨nm,e,kpos⟩::kws) (acd te t):=by
 intro pos pins s σ H Q I h
 show wpAny _ _ (evalAll ((do let v ← eval e X.env;standAt pos;pure v)::(backToKw pos (keywordEach kws X.env)).map (·.2))) _ _ s
 refine wpAny_evalAll_cons (aJ1 (thn (ha pins s σ H _ I h) λu s1 ⟨x,b,c,j,i⟩=>aJ1 (wpAny_standAt (aJ2 ?_))))
 exact thn (g pos pins s1 σ b _ c i) λus s2 ⟨xs,H2,d,a,f⟩=>⟨x::xs,H2,d,.cons j a,f⟩
variable{g:List Value->List Value->List Value}{gV:List V->List V->List V}
end
structure FnScope(N P:List Str)(sc:Scope):Prop where
 kind:sc.kind=.function
 co:sc.isCoroutine=false
 gen:sc.isGenerator=false
 nd:N.Nodup
 pre:N.take P.length=P
 par:∀ x∈P,sc.names.lookup x=some .local\/sc.names.lookup x=some .cell
 nofree:∀ y∈sc.names,y.2 ≠ .free
theorem ajv{kindOf:Str->Option NameKind}{x:Str}:∀{binds:List (Str × Value)}{m:Str->Option Value},(∀ v,(x,v) ∉ binds)->bindL kindOf binds m x=m x
 |[],_,_=>rfl
 | (n,v)::r,m,h=>by
  unfold bindL
  rw[ajv λw a=>h w (aB5 _ a)]
  split
  ·have:x ≠ n:=by rintro rfl;exact h v aB8
   simp[this]
  ·rfl
theorem ajw{kindOf:Str->Option NameKind}{x:Str}:∀{binds:List (Str × Value)}{m:Str->Option Value},(∀ v,(x,v) ∉ binds)->bindC kindOf binds m x=m x
 |[],_,_=>rfl
 | (n,v)::r,m,h=>by
  unfold bindC
  rw[ajw λw a=>h w (aB5 _ a)]
  split
  ·rfl
  ·have:x ≠ n:=by rintro rfl;exact h v aB8
   simp[this]
theorem ajx{kindOf:Str->Option NameKind}{x:Str}{v:Value}:∀{P:List Str}{vs:List Value}{i:Nat}{m:Str->Option Value},P.Nodup->P[i]?=some x->vs[i]?=some v->kindOf x=some .local ->
  bindL kindOf (P.zip vs) m x=some v
 |[],_,_,_,_,h,_,_=>by simp at h
 |_::_,[],_,_,_,_,h,_=>by simp at h
 | p::P,w::vs,0,m,nd,h1,h2,hk=>by
  simp at h1 h2;subst h1;subst h2
  show bindL kindOf ((p,w)::P.zip vs) m p=_
  unfold bindL
  rw[ajv λv a=>(aI5.mp nd).1 (List.of_mem_zip a).1,aF6 hk]
  simp
 | p::P,w::vs,i+1,m,nd,h1,h2,hk=>by
  show bindL kindOf ((p,w)::P.zip vs) m x=_
  unfold bindL
  exact ajx (i:=i) (aI5.mp nd).2 (by simpa using h1) (by simpa using h2) hk
theorem ajy{kindOf:Str->Option NameKind}{x:Str}{v:Value}:∀{P:List Str}{vs:List Value}{i:Nat}{m:Str->Option Value},P.Nodup->P[i]?=some x->vs[i]?=some v->kindOf x ≠ some .local ->
  bindC kindOf (P.zip vs) m x=some v
 |[],_,_,_,_,h,_,_=>by simp at h
 |_::_,[],_,_,_,_,h,_=>by simp at h
 | p::P,w::vs,0,m,nd,h1,h2,hk=>by
  simp at h1 h2;subst h1;subst h2
  show bindC kindOf ((p,w)::P.zip vs) m p=_
  unfold bindC
  rw[ajw λv a=>(aI5.mp nd).1 (List.of_mem_zip a).1,aF7 hk]
  simp
 | p::P,w::vs,i+1,m,nd,h1,h2,hk=>by
  show bindC kindOf ((p,w)::P.zip vs) m x=_
  unfold bindC
  exact ajy (i:=i) (aI5.mp nd).2 (by simpa using h1) (by simpa using h2) hk
def start(N:List Str)(vs:List V):St:=vs.map some++List.replicate (N.length-vs.length) none
def cxOf(CX:CXT)(P:Program)(w:World)(K:Frag)(mg:Str->Option Value)(base:Heap)(N:List Str)(qual:Str)(scope:Scope)(f:Addr)(cd:Value)(A:Around)(outer:List Env)(s:Shared)(H:Hp)(E:XK):Cx where
 prog:=P
 w:=w
 K:=K
 mg:=mg
 base:=base
 A:=A.deeper (envOfC qual scope s.heap.objs.size f cd)
 N:=N
 s₀:=s
 H₀:=H
 env:=envOfC qual scope s.heap.objs.size f cd
 outer:=outer
 stack:=envOfC qual scope s.heap.objs.size f cd::outer
 ex:=[]
 calm:=true
 fn:=λ_=>true
 pn:=[]
 xe:=λe s'=>wpAny (model P w) (A.deeper (envOfC qual scope s.heap.objs.size f cd)) (leaving (envOfC qual scope s.heap.objs.size f cd) e) (λ_ s''=>CX outer H s E e s'') (λe' s''=>CX outer H s E e' s'') s'
theorem alr{sc:Scope}{n:Nat}{x:Str}(h:sc.names.lookup x=some .cell):∃ c,(cellsFrom n sc.names []).lookup x=some c:=by
 have q:=PySem.W.cellsFrom_some sc.names n [] (.inl h)
 exact Option.isSome_iff_exists.mp q
theorem art{CX:CXT}{P:Program}{w:World}{K:Frag}{mg:Str->Option Value}{base:Heap}{N ps:List Str}{qual:Str}{scope:Scope}{f:Addr}{C:Value}{A:Around}{outer:List Env}{s s1:Shared}{H:Hp}{E:XK}{us:List Value}{vs:List V}
  (S:FnScope N ps scope) (hd:A.handled=none) (g:Env0 P w K mg base A outer s H) (J:vs.length=ps.length) (r:Vals vs us)
  (x:InCallC s s.heap.objs.size (bindL (envOfC qual scope s.heap.objs.size f C).kindOf (ps.zip us) λ_=>none) (cellsFrom (s.heap.objs.size+1) scope.names []) (bindC (envOfC qual scope s.heap.objs.size f C).kindOf (ps.zip us) λ_=>none) s1) :
  Inv (cxOf CX P w K mg base N qual scope f C A outer s H E) [] (start N vs) H s1:=by
 have G:ps.length<=N.length:=by have:=congrArg List.length S.pre;rw[aH1] at this;lia
 obtain⟨B,M,rfl,D⟩:=x.done
 have j:∀ b:Addr,b ∉ (cxOf CX P w K mg base N qual scope f C A outer s H E).ex:=λb z=>absurd (show b∈([]:List Addr) from z) (by simp)
 refine⟨⟨g.mod,S.kind,rfl,rfl,aA6 _,λy z c B d=>?_,λy l=>?_,λy c _ h=>?_,λ_=>hd,Around.frames_deeper g.frames,.inr ⟨rfl,rfl⟩,λb z=>absurd z (j b),g.bs,g.bsz,λb _ _=>j b,λb z=>absurd z (j b),g.funs,g.frf,g.tab⟩,
  rfl,g.bare,Un.kept D,⟨_,x.toInCall.ns,λi y v B d L=>?_⟩,λy c h=>⟨_,x.cell y c h⟩,g.hok.fresh (aA6 _),λy c h=>?_,λp o=>absurd (show p∈([]:List (Addr × Obj)) from o) (by simp),g.hok.kept D,?_⟩
 ·exact name_of_addr x.apart (PySem.mem_of_lookup B) (PySem.mem_of_lookup d)
 ·have l:scope.names.lookup y=some .cell\/scope.names.lookup y=some .free:=l
  rcases l with l|l
  ·exact alr l
  ·exact absurd rfl (S.nofree _ (PySem.mem_of_lookup l))
 ·exact aG6 (x.above y c (PySem.mem_of_lookup h))
 ·have hi:i<vs.length:=by
   unfold start at d
   by_cases hi:i<vs.length
   ·exact hi
   ·rw[aC8 (by simpa using hi)] at d
    rw[aH8] at d
    split at d <;> cases d
  have ha:vs[i]?=some v:=by
   unfold start at d
   rw[aC3 (by simpa using hi),aA5] at d
   cases e:vs[i]? with
   |none=>rw[e] at d;cases d
   |some a=>rw[e] at d;cases d;rfl
  obtain⟨u,F,I⟩:=r.get ha
  have o:ps[i]?=some y:=by
   rw[← S.pre,aH6 (by lia)];exact B
  have m:ps.Nodup:=by rw[← S.pre];exact S.nd.sublist (List.take_sublist _ _)
  refine⟨u,I,?_⟩
  rcases S.par y (aA2 o) with k|k
  ·exact .inl ⟨k,ajx m o F k⟩
  ·obtain⟨c,e⟩:=alr (n:=s.heap.objs.size+1) k
   refine .inr ⟨.inl k,c,e,?_⟩
   have q:=x.cell y c e
   rw[ajy m o F (by show scope.names.lookup y ≠ _;rw[k];decide)] at q
   exact q
 ·exact g.hok.fresh (aG6 (x.above y c (PySem.mem_of_lookup h)))
 ·unfold start
  show _=N.length
  rw[aB1,aA3,List.length_replicate]
  lia
theorem awj{CX:CXT}{P:Program}{w:World}{K:Frag}{mg:Str->Option Value}{base:Heap}{k:Nat}{f:Addr}{name qual:Str}{a:Arguments}{body:List Stmt}{scope:Scope}{z kV doc pm cdv ct oc:Value}{an od:Option Addr}
  {osl:Array (Option Value)} {N ps:List Str} {sp:Sp} (C:K.lookup f=some ⟨oc,od,.func (fnOf name qual a body scope z kV doc pm an cdv ct),osl⟩) (p:codeIn K cdv qual=true) (S:FnScope N ps scope)
  (len:∀ vs H Q E,sp vs H Q E->vs.length=ps.length)
  (d:∀(A:Around)(outer:List Env)(s:Shared)(H:Hp)(vs:List V)(Q:VK)(E:XK),Room k (A.deeper (envOfC qual scope s.heap.objs.size f cdv))->sp vs H Q E ->
   ∃ t,PSs (cxOf CX P w K mg base N qual scope f cdv A outer s H E) body t/\t { nx:=λ_ H'=>Q .non H',rt:=Q } (start N vs) H) :
  FnOk P w K mg base CX (k+1) f (fnOf name qual a body scope z kV doc pm an cdv ct) ps sp:=by
 refine⟨len,λA outer s H args us vs Q E m h hb r i=>?_⟩
 have L:=len _ _ _ _ i
 have B:K.In s.heap:=h.mod.kin.keeps λb o e=>(h.bs b o e).1
 have l:s.heap.NoLimit:=h.mod.nolimit.keeps λb o e=>(h.bs b o e).1
 have g:∀ y∈ps.zip us,scope.names.lookup y.1=some .local\/(scope.names.lookup y.1=some .cell/\((cellsFrom (s.heap.objs.size+1) scope.names []).lookup y.1).isSome=true):=λ⟨n,v⟩ D=>by
  rcases S.par n (List.of_mem_zip D).1 with q|q
  ·exact .inl q
  ·exact .inr ⟨q,PySem.W.cellsFrom_some _ _ _ (.inl q)⟩
 refine codeAny_call_function m.depth (B _ _ C) rfl S.co S.gen rfl (PySem.W.codeRec_of B p) (hb _ _ _ _ ?_)
 refine wpAny_newFunctionEnv_cells S.kind g λenv F s1 x=>?_
 subst F
 refine⟨l.keeps x.toInCall.keep,codeAny_func ?_⟩
 obtain⟨t,M,O⟩:=d A outer s H vs Q E (m.deeper _) i
 have I:Inv (cxOf CX P w K mg base N qual scope f cdv A outer s H E) [] (start N vs) H s1:=art S m.hd h L r x
 refine aK0 (M [] s1 (start N vs) H _ I O) (λG s' hs=>?_) λe s' hs=>hs
 have fin:∀{c:St}{H':Hp}{v:V}{u:Value},Inv (cxOf CX P w K mg base N qual scope f cdv A outer s H E) [] c H' s'->RelV v u->Q v H'->CE outer P w H s Q u s' :=
  λ{c H' v u} J j q=>⟨v,H',J.os,J.bare,J.base,J.hok,j,q⟩
 cases G with
 | ret u =>
  obtain⟨v,c,H',J,j,q⟩:=hs
  exact fin J j q
 | next =>
  obtain⟨c,H',J,q⟩:=hs
  exact fin (v:=V.non) (u:=Value.none) J rfl q
 | brk =>
  obtain⟨_,_,_,q⟩:=hs
  exact False.elim q
 | cont =>
  obtain⟨_,_,_,q⟩:=hs
  exact False.elim q
section
variable{X:Cx}{x:Str}{p pos:Pos}{e:Expr}{es:List Expr}{t:TA}{id T:String}{r:List V->Hp->VK->Prop}
def tCB(r:List V->Hp->VK->Prop)(t:TA):TE:=λσ H Q=>t σ H λvs H1=>r vs H1 Q
theorem aav(d:abh X (.builtin id) r)(f:Gl X x)(hm:X.mg x=none)(g:bootBuiltins x=some (.builtin id))(ha:PA X (e::es) t)(hn:x ≠ "__name__":=by decide)(a:(x == ("__debug__" : Str))=false:=by decide)
  (c:starEach (e::es) X.env=(false,eval e X.env)::starEach es X.env:=by rfl) (b:(backTo pos (starEach es X.env)).any (·.1)=false:=by rfl):PE X (.Call (.Name x p) (e::es) [] pos) (tCB r t):=by
 intro pins s σ H Q I h
 refine wpAny_Call_Name_kw (acu I f hm g ?_ hn a)
 exact PyProof.Rows.callWith_builtin1 (thn (ha pos pins s σ H _ I h) λus s1 ⟨vs,i,j,m,l⟩=>d pins s1 σ i vs us Q j m l) c b
theorem ad0(d:abh X (.type T) r)(f:Gl X x)(hm:X.mg x=none)(g:bootBuiltins x=some (.type T))(ha:PA X (e::es) t)(hn:x ≠ "__name__":=by decide)(a:(x == ("__debug__" : Str))=false:=by decide)
  (c:starEach (e::es) X.env=(false,eval e X.env)::starEach es X.env:=by rfl) (b:(backTo pos (starEach es X.env)).any (·.1)=false:=by rfl):PE X (.Call (.Name x p) (e::es) [] pos) (tCB r t):=by
 intro pins s σ H Q I h
 refine wpAny_Call_Name_kw (acu I f hm g ?_ hn a)
 exact PyProof.Rows.callWith_type1 (thn (ha pos pins s σ H _ I h) λus s1 ⟨vs,i,j,m,l⟩=>d pins s1 σ i vs us Q j m l) c b
end
end L2
namespace HT
open PySem PyProof.Rows
def lexLt:List Int->List Int->Bool
 |[],[]=>false
 |[],_::_=>true
 |_::_,[]=>false
 |x::xs,y::ys=>if x=y then lexLt xs ys else decide (x<y)
theorem ad9(x y:Int)(xs ys:List Int):lexLt (x::xs) (y::ys)=if x=y then lexLt xs ys else decide (x<y):=rfl
theorem akl:lexLt [] []=false:=rfl
theorem ai2(y:Int)(ys:List Int):lexLt [] (y::ys)=true:=rfl
theorem ai3(x:Int)(xs:List Int):lexLt (x::xs) []=false:=rfl
theorem at8(A:Around)(s:Shared)(a:Int)(t:Tok)(c:Int)(u:Tok):∃ e,SeqAt.EqAt A s (.int a t) (.int c u) e/\(e=true ↔ a=c) :=
 ⟨(a == c),SeqAt.EqAt.int_int a t c u,by simp⟩
theorem als(A:Around)(s:Shared)(a:Int)(t:Tok)(c:Int)(u:Tok)(prog:Program)(w:World)(E:Value->Shared->Prop)(Q:Value->Shared->Prop)(h:Q (.bool (decide (a<c))) s) :
  wpAny (model prog w) A (richCompare .Lt (.int a t) (.int c u)) Q E s :=
 (PyProof.Rows.lt_int h:wpAny (model prog w) A (compareOp .Lt (.int a t) (.int c u)) Q E s)
section
open PySem.SeqAt
open PySem.AutoSeq1 (wpAny_loadPart')
open PySem.MeetsSeq PySem.MeetsSeq2 PySem.MeetsSeq3
theorem akm(l b:Addr)(items f:Array Value)(n M:Nat)(Q H:Option Addr)(sl I:Array (Option Value))(ns C:List Int)(hi:IntsAre items.toList ns)(L:IntsAre f.toList C) :
  Meets (Builtin.«tuple.__lt__» ⟨[.ref l,.ref b],[]⟩)
   (λ_ R s=>s.heap.get? l=some { cls:=.type "tuple",dict:=Q,data:=.seq items n,slots:=sl }/\s.heap.get? b=some { cls:=.type "tuple",dict:=H,data:=.seq f M,slots:=I } /\
    R (.ok (.ret (.bool (lexLt ns C)))) s) :=
 .of_wp λprog w A R s h=>by
  obtain⟨E,g,d,F,os⟩:=s;obtain⟨S,hb,h⟩:=h
  have X:=AutoSeq1.sub_tuple_tuple
  have T:items.size=ns.length:=by rw[← hi.length];simp
  have W:f.size=C.length:=by rw[← L.length];simp
  wp_walk using wpAny_loadPart' S,wpAny_loadPart' hb,wpAny_forIn_list _ (λrest b s'=>b.1=none/\s'=⟨E,g,d,F,os⟩/\∃(vs D:List Value)(m j:List Int),rest=vs.zip D /\
   IntsAre vs m/\IntsAre D j/\m.length+f.size=j.length+items.size/\R (.ok (.ret (.bool (lexLt m j)))) ⟨E,g,d,F,os⟩) _
  case turn =>
   rintro⟨y,x⟩ rest b s' ⟨B,rfl,vs,D,m,j,hz,z,o,i,r⟩
   cases z with
   |nil=>rw[List.zip_nil_left] at hz;cases hz
   | cons a t hvi' =>
    cases o with
    |nil=>rw[List.zip_nil_right] at hz;cases hz
    | cons c u hwi' =>
     rw[List.zip_cons_cons] at hz
     injection hz with G v
     injection G with N P
     subst N P
     rw[ad9] at r
     simp only[aE6] at i
     obtain⟨e,O,p⟩:=at8 A.in1 ⟨E,g,d,F,os⟩ a t c u
     refine aJ1 (O prog w _ _ ?_)
     cases e with
     | true =>
      rw[aF6 (p.mp rfl)] at r
      wp_walk
      exact⟨rfl,rfl,_,_,_,_,v,hvi',hwi',by lia,r⟩
     | false =>
      rw[aF7 (λq=>absurd (p.mpr q) aB0)] at r
      have J:=als A.in1 ⟨E,g,d,F,os⟩ a t c u prog w
      wp_walk using J
      exact⟨_,rfl,by simpa using r⟩
  case fin =>
   rintro⟨b1,U⟩ s' ⟨B,rfl,vs,D,m,j,hz,z,o,i,r⟩
   simp only at B
   subst B
   have K:lexLt m j=decide (items.size<f.size):=by
    cases z with
    | nil =>
     cases o with
     | nil =>
      simp only[aI9] at i
      rw[akl]
      exact(aD7 (by lia)).symm
     | cons c u hw =>
      simp only[aI9,aE6] at i
      rw[ai2]
      exact(aD8 (by lia)).symm
    | cons a t K =>
     cases o with
     | nil =>
      simp only[aI9,aE6] at i
      rw[ai3]
      exact(aD7 (by lia)).symm
     | cons c u hw =>
      rw[List.zip_cons_cons] at hz
      cases hz
   rw[K] at r
   wp_walk
   exact⟨_,rfl,by simpa[Builtin.Tuple.tupleCompareSizes] using r⟩
  case h =>
   exact⟨rfl,rfl,items.toList,f.toList,ns,C,rfl,hi,L,by lia,h⟩
end
section
variable{prog:Program}{w:World}{A:Around}{E:Value->Shared->Prop}{s:Shared}
theorem lt_tupInts{l b:Addr}{items a:Array Value}{ns c:List Int}{Q:Value->Shared->Prop}(v:IsTup s.heap l items)(hb:IsTup s.heap b a)(hi:IntsAre items.toList ns)(y:IntsAre a.toList c)
  (z:A.units<cLine) (h:Q (.bool (lexLt ns c)) s):wpAny (model prog w) A (compareOp .Lt (.ref l) (.ref b)) Q E s:=by
 obtain⟨⟨cls,u,data,sl⟩,p,o,n,hd⟩:=id v
 obtain⟨⟨q,j,i,m⟩,g,d,r,f⟩:=id hb
 simp only at o hd d f
 subst o hd d f
 exact richCompare_meets_room (op:=.Lt) ⟨_,p,rfl⟩ ⟨_,g,rfl⟩ PySem.F.slot_tuple_lt PySem.F.entry_tuple_lt (PySem.F.args_tuple_lt_2 _ _) (akm l b items a n r u j sl m ns c hi y)
  ⟨p,g,show Value.bool (lexLt ns c) ≠ Value.notImplemented/\Q (.bool (lexLt ns c)) s from⟨(λx=>nomatch x),h⟩⟩ z
def sIx(n d:Nat):Option Int->Nat
 |none=>d
 |some v=>if v<0 then (v+(n:Int)).toNat else min v.toNat n
theorem sIx_none(n d:Nat):sIx n d none=d:=rfl
theorem sIx_nat(n d k:Nat):sIx n d (some (k:Int))=min k n:=by
 show(if (k:Int)<0 then ((k:Int)+(n:Int)).toNat else min (k:Int).toNat n)=min k n
 rw[aF7 (by lia),Int.toNat_natCast]
end
end HT
namespace L2
open PySem PySem.Spec PyProof.Rows
abbrev TO:=St->Hp->(Option Int->Hp->Prop)->Prop
def PO(X:Cx)(e:Option Expr)(t:TO):Prop :=
 ∀(pins:List (Addr × Obj))(s:Shared)(σ:St)(H:Hp)(Q:Option Int->Hp->Prop),Inv X pins σ H s->t σ H Q ->
  wpAny (model X.prog X.w) X.A (evalPart e X.env) (λu s'=>∃ o H',Inv X pins σ H' s'/\IsPart u o/\Q o H') X.xe s
def aom:TO:=λ_ H Q=>Q none H
def awk(t:TE):TO:=λσ H Q=>t σ H λx H1=>∃ i,x=.int i/\Q (some i) H1
theorem acj{ns:List Int}:∀{us:List Value},Vals (ns.map V.int) us->IntsAre us ns:=by
 induction ns with
 |nil=>intro us r;rw[List.map_nil] at r;cases r;exact .nil
 | cons n ns ih =>
  intro us r
  rw[aD1] at r
  cases r with
  | cons r1 r2 =>
   obtain⟨t,e⟩:=r1
   subst e
   exact .cons n t (ih r2)
section
variable{X:Cx}{e:Expr}{te:TE}{lo hi:Option Expr}{tl th:TO}{pos p2:Pos}
theorem agu:PO X none aom:=by
 intro pins s σ H Q I h
 rw[evalPart_none]
 exact aJ2 ⟨none,H,I,.none,h⟩
theorem aec(h:PE X e te):PO X (some e) (awk te):=by
 intro pins s σ H Q I b
 rw[evalPart_some]
 refine thn (h pins s σ H _ I b) λu s1 ⟨x,a,c,f,d⟩=>?_
 obtain⟨i,rfl,q⟩:=d
 obtain⟨t,rfl⟩:=f
 exact⟨some i,a,c,.int i t,q⟩
def SlR(X:Cx)(r:V->Option Int->Option Int->Hp->VK->Prop):Prop :=
 ∀(pins:List (Addr × Obj))(s:Shared)(σ:St)(H:Hp)(x:V)(v vl vu:Value)(lo hi:Option Int)(sl:Addr)(Q:VK),Inv X pins σ H s->RelV x v->s.heap.IsSliceOf sl vl vu .none->IsPart vl lo->IsPart vu hi->r x lo hi H Q ->
  ∃ T id,typeLookup (.type T) "__getitem__" = pure (some (.builtin id))/\s.TypeIs v T/\wpAny (model X.prog X.w) X.A (getItem v (.ref sl)) (EP X pins σ Q) X.xe s
def tSl(r:V->Option Int->Option Int->Hp->VK->Prop)(te:TE)(tl th:TO):TE:=λσ H Q=>te σ H λx H1=>tl σ H1 λl H2=>th σ H2 λu H3=>r x l u H3 Q
theorem aek{r:V->Option Int->Option Int->Hp->VK->Prop}(E:SlR X r)(g:PE X e te)(p:PO X lo tl)(J:PO X hi th):PE X (.Subscript e (.Slice lo hi none p2) pos) (tSl r te tl th):=by
 intro pins s σ H Q I h
 refine Subscript_ (thn (g pins s σ H _ I h) λv s1 ⟨x,n,o,G,F⟩=>?_)
 refine wpAny_Slice (thn (p pins s1 σ n _ o F) λc s2 ⟨l,H2,z,pl,C⟩=>thn (J pins s2 σ H2 _ z C) λd a ⟨u,H3,f,i,B⟩=>?_)
 rw[evalPart_none]
 refine aJ2 ?_
 have y:Inv X pins σ H3 { a with heap:=a.heap.push { cls:=.type "slice",data:=.fields #[c,d,.none] } }:=f.kept (t':=a.toks) λb K q=>aJ3 _ q
 obtain⟨T,id,m,D,j⟩:=E pins { a with heap:=a.heap.push { cls:=.type "slice",data:=.fields #[c,d,.none] } } σ H3 x v c d l u a.heap.objs.size Q y G (Heap.IsSliceOf.new ..) pl i B
 show wpAny (model X.prog X.w) X.A (subscriptTail e (.Slice lo hi none p2) v (.ref a.heap.objs.size)) (EP X pins σ Q) X.xe { a with heap:=a.heap.push { cls:=.type "slice",data:=.fields #[c,d,.none] } }
 exact tail_any (ops:=[.ref a.heap.objs.size,v]) D m j (by with_unfolding_all rfl)
def cutV(xs:List V)(lo hi:Option Int):List V:=(xs.drop (HT.sIx xs.length 0 lo)).take (HT.sIx xs.length xs.length hi-HT.sIx xs.length 0 lo)
theorem an3(xs:List V)(lo hi:Option Int):(cutV xs lo hi).length<=xs.length:=by
 unfold cutV
 rw[aH1,aI8]
 lia
def rLtT(K:Frag):R2:=λx y H Q=>∃ a b ns ms,x=.ref a/\y=.ref b/\SqT K H a (ns.map V.int)/\SqT K H b (ms.map V.int)/\Q (.bl (HT.lexLt ns ms)) H
theorem azy(n:X.A.units<cLine):OpR X (compareOp .Lt) (rLtT X.K):=by
 intro pins s σ H x y v u Q I l j h
 obtain⟨a,b,ns,d,rfl,rfl,ha,hb,q⟩:=h
 cases l
 cases j
 obtain⟨its,m,f,_⟩:=I.tuple ha
 obtain⟨c,i,p2,_⟩:=I.tuple hb
 have i1:IntsAre its.toArray.toList ns:=acj m
 have g:IntsAre c.toArray.toList d:=acj i
 exact HT.lt_tupInts f p2 i1 g n ⟨.bl (HT.lexLt ns d),H,I,rfl,q⟩
end
def ixN(n:Nat)(i:Int):Option Nat:=if 0<=i then (if i<n then some i.toNat else none) else if -(n:Int)<=i then some (i+n).toNat else none
def atI{α:Type}(xs:List α)(i:Int):Option α:=(ixN xs.length i).bind λj=>xs[j]?
theorem aon{n:Nat}{i:Int}{j:Nat}(h:ixN n i=some j):seqIndex? i n=some j/\j<n/\-(n:Int)<=i/\i<n:=by
 unfold ixN at h
 by_cases h0:0<=i
 ·rw[aF6 h0] at h
  by_cases h1:i<n
  ·rw[aF6 h1] at h
   have e:i.toNat=j:=aC6 h
   exact⟨by rw[seqIndex_of h0 h1,e],by lia,by lia,h1⟩
  ·rw[aF7 h1] at h;cases h
 ·rw[aF7 h0] at h
  by_cases h1 : -(n:Int)<=i
  ·rw[aF6 h1] at h
   have e:(i+n).toNat=j:=aC6 h
   exact⟨by rw[seqIndex_neg (by lia) h1,e],by lia,h1,by lia⟩
  ·rw[aF7 h1] at h;cases h
theorem aoo{α:Type}{xs:List α}{i:Int}{v : α}(h:atI xs i=some v):∃ j,seqIndex? i xs.length=some j/\xs[j]?=some v/\j<xs.length/\-(xs.length:Int)<=i/\i<xs.length:=by
 unfold atI at h
 cases e:ixN xs.length i with
 |none=>rw[e] at h;cases h
 | some j =>
  rw[e] at h
  obtain⟨a,b,c,d⟩:=aon e
  exact⟨j,a,h,b,c,d⟩
theorem ae8{α:Type}{xs:List α}{j:Nat}{v : α}(h:xs[j]?=some v):atI xs (j:Int)=some v:=by
 have a:j<xs.length:=(aA1.mp h).1
 have e:ixN xs.length (j:Int)=some j:=by
  unfold ixN
  rw[aF6 (by lia),aF6 (by lia)];simp
 unfold atI;rw[e];exact h
def aw7(b:Expr):Prop:=∀ o i,subscripted b false o i=operate [o,i] (getItem o i)
def IxR(X:Cx)(r:R2):Prop :=
 ∀(value slice:Expr)(pins:List (Addr × Obj))(s:Shared)(σ:St)(H:Hp)(x y:V)(v u:Value)(Q:VK),Inv X pins σ H s->RelV x v->RelV y u->r x y H Q ->
  subscripted slice false v u=operate [v,u] (getItem v u)->wpAny (model X.prog X.w) X.A (subscriptTail value slice v u) (EP X pins σ Q) X.xe s
def MtR(X:Cx)(id:String)(r:V->List V->Hp->VK->Prop):Prop :=
 ∀(pins:List (Addr × Obj))(s:Shared)(σ:St)(H:Hp)(x:V)(xs:List V)(v:Value)(us:List Value)(Q:VK),Inv X pins σ H s->RelV x v->Vals xs us->r x xs H Q ->
  wpAny (model X.prog X.w) X.A (call (.builtin id) (v::us)) (EP X pins σ Q) X.xe s
section
variable{X:Cx}{a b:Expr}{ta tb:TE}{pos:Pos}
theorem IxR.or{r c:R2}(h:IxR X r)(h':IxR X c):IxR X (λx y H Q=>r x y H Q\/c x y H Q):=by
 intro b a pins s σ H x y v u Q I f d q hs
 rcases q with q|q
 ·exact h b a pins s σ H x y v u Q I f d q hs
 ·exact h' b a pins s σ H x y v u Q I f d q hs
theorem aat{r:R2}(f:IxR X r)(ha:PE X a ta)(hb:PE X b tb)(hs:aw7 b):PE X (.Subscript a b pos) (tOp r ta tb):=by
 intro pins s σ H Q I h
 exact Subscript_ (binT ha hb I h λv u s2 x y H2 d g c q=>f a b pins s2 σ H2 x y v u Q d g c q (hs _ _))
def rIxL(K:Frag):R2:=λx y H Q=>∃ p xs i v,x=.ref p/\y=.int i/\SqL K H p xs/\atI xs i=some v/\Q v H
def rIxT(K:Frag):R2:=λx y H Q=>∃ p xs i v,x=.ref p/\y=.int i/\SqT K H p xs/\atI xs i=some v/\Q v H
theorem ix_list:IxR X (rIxL X.K):=by
 intro f c pins s σ H x y v u Q I C A h hs
 obtain⟨p,xs,i,z,rfl,rfl,D,m,q⟩:=h
 cases C
 obtain⟨t,rfl⟩:=A
 obtain⟨its,r,pl,hz⟩:=I.list D
 obtain⟨j,a,n,E,o,l⟩:=aoo m
 obtain⟨w,g,b⟩:=r.get n
 have B:=r.length
 have hn:=af6
 have fin:EP X pins σ Q w s:=⟨z,H,I,b,q⟩
 by_cases h0:0<=i
 ·have d:i.toNat=j:=by
   rw[seqIndex_of h0 l] at a
   exact aC6 a
  exact item_listR pl.isList h0 (by lia) (by rw[d];simpa using g) fin hs
 ·have d:(i+(its.toArray.size:Int)).toNat=j:=by
   rw[seqIndex_neg (by lia) o] at a
   rw[aB2,← B]
   exact aC6 a
  exact subscriptTail_builtinR (x:=w) pl.isList.typeIs slot_list_getitem.lookup
   (wpAny_getItem_list_neg (Q:=λr s'=>r=w/\EP X pins σ Q r s') pl.isList (by lia) (by rw[aB2] <;> lia) (by lia) (by rw[d];simpa using g) ⟨rfl,fin⟩) hs
theorem azz:IxR X (rIxT X.K):=by
 intro c b pins s σ H x y v u Q I o g h hs
 obtain⟨p,xs,i,z,rfl,rfl,A,d,q⟩:=h
 cases o
 obtain⟨t,rfl⟩:=g
 obtain⟨its,r,pl,hz⟩:=I.tuple A
 obtain⟨j,l,f,D,C,B⟩:=aoo d
 obtain⟨w,n,a⟩:=r.get f
 have m:=r.length
 have hn:=af6
 have fin:EP X pins σ Q w s:=⟨z,H,I,a,q⟩
 exact subscriptTail_builtinR (x:=w) pl.typeIs slot_tuple_getitem.lookup
  (getItem_tuple (j:=j) (Q:=λr s'=>r=w/\EP X pins σ Q r s') pl (by lia) (by lia) (by rw[aB2,← m];exact l) (by simpa using n) ⟨rfl,fin⟩) hs
theorem ap8(its:List Value)(n j:Nat)(u:Value):Obj.mapSeq (·.setIfInBounds j u) { cls:=.type "list",data:=.seq its.toArray n }={ cls:=.type "list",data:=.seq (its.set j u).toArray n }:=by
 simp[Obj.mapSeq]
theorem Inv.lst{pins:List (Addr × Obj)}{σ:St}{H:Hp}{s:Shared}{p:Addr}{xs:List V}(I:Inv X pins σ H s)(h:H p=some (.lst xs)) :
  ∃(its:List Value)(n:Nat),Vals xs its/\s.heap.get? p=some { cls:=.type "list",data:=.seq its.toArray n }/\xs.length<=sizeLine:=by
 obtain⟨z,its,n,r,e⟩:=I.hok p _ h
 exact⟨its,n,r,e,z⟩
theorem Inv.lstUpd{pins:List (Addr × Obj)}{σ:St}{H:Hp}{s:Shared}{p:Addr}{xs ys:List V}{its its':List Value}{n a:Nat}{f:Obj->Obj}(I:Inv X pins σ H s)(h:H p=some (.lst xs))
  (c:s.heap.get? p=some { cls:=.type "list",data:=.seq its.toArray n }) (hf:f { cls:=.type "list",data:=.seq its.toArray n }={ cls:=.type "list",data:=.seq its'.toArray a }) (r:Vals ys its') (hz:ys.length<=sizeLine) (t:Nat) :
  Inv X pins σ (upd H p (.lst ys)) { s with heap:=s.heap.update p f,toks:=t }:=by
 have e:(s.heap.update p f).get? p=some { cls:=.type "list",data:=.seq its'.toArray a }:=by
  rw[aK7 f c (by rw[hf] <;> rfl),hf]
 refine I.write (x:=p) (e:=p) (by rw[h];trivial) (.inl rfl) (λb u hb q=>(aJ9 _ _ (Ne.symm hb)).trans q) ⟨_,e⟩ ?_
 exact⟨hz,its',a,r,e⟩
def ap9:V->V->V->Hp->(Hp->Prop)->Prop:=λo i v H Q=>∃ p xs k j,o=.ref p/\i=.int k/\H p=some (.lst xs)/\ixN xs.length k=some j/\Q (upd H p (.lst (xs.set j v)))
theorem alt:PSet X ap9:=by
 intro pins s σ H o i v C B u Q I z w x h
 obtain⟨p,xs,k,j,rfl,rfl,f,y,q⟩:=h
 cases z
 obtain⟨t,rfl⟩:=w
 obtain⟨its,n,r,d,hz⟩:=I.lst f
 obtain⟨a,A,l,g⟩:=aon y
 have c:=r.length
 have hn:=af6
 have m:Inv X pins σ (upd H p (.lst (xs.set j v))) { s with heap:=s.heap.update p (Obj.mapSeq (·.setIfInBounds j u)) } :=
  I.lstUpd f d (ap8 its n j u) (r.set x j) (by rw[List.length_set];exact hz) s.toks
 by_cases h0:0<=k
 ·have b:k.toNat=j:=by
   rw[seqIndex_of h0 g] at a
   exact aC6 a
  exact PySem.W.ki_setAt d h0 (by lia) (by rw[aB2,← c];exact g) (by rw[b];exact⟨_,m,q⟩)
 ·have b:(k+(its.toArray.size:Int)).toNat=j:=by
   rw[seqIndex_neg (by lia) l] at a
   rw[aB2,← c]
   exact aC6 a
  exact PySem.W.ki_setBack d (by lia) (by rw[aB2,← c];exact l) (by lia) (by rw[b];exact⟨_,m,q⟩)
theorem alu(lo hi:Option Int)(n:Nat):(sliceBounds lo hi none n).1=((HT.sIx n 0 lo:Nat):Int)/\(sliceBounds lo hi none n).2.1=((HT.sIx n n hi:Nat):Int)/\(sliceBounds lo hi none n).2.2=1:=by
 refine⟨?_,?_,rfl⟩
 ·cases lo with
  |none=>simp[sliceBounds,HT.sIx]
  | some i =>
   simp only[sliceBounds,HT.sIx,Option.getD_none,show(1:Int) > 0 by decide,if_true]
   by_cases h:i<0
   ·simp only[h,if_true] <;> lia
   ·simp only[h,if_false] <;> lia
 ·cases hi with
  |none=>simp[sliceBounds,HT.sIx]
  | some i =>
   simp only[sliceBounds,HT.sIx,Option.getD_none,show(1:Int) > 0 by decide,if_true]
   by_cases h:i<0
   ·simp only[h,if_true] <;> lia
   ·simp only[h,if_false] <;> lia
theorem akn(its:List Value)(lo hi:Option Int):slicePick its.toArray lo hi none=((its.drop (HT.sIx its.length 0 lo)).take (HT.sIx its.length its.length hi-HT.sIx its.length 0 lo)).toArray:=by
 obtain⟨b,a,c⟩:=alu lo hi its.toArray.size
 unfold slicePick
 rw[b,a,c]
 simp only[sliceRange_one,pick_run,aB2] <;> rfl
def rSlL(K:Frag):V->Option Int->Option Int->Hp->VK->Prop:=λx lo hi H Q=>∃ a xs,x=.ref a/\SqL K H a xs/\∀ p,H p=none->Q (.ref p) (upd H p (.lst (cutV xs lo hi)))
theorem ae9:SlR X (rSlL X.K):=by
 intro pins s σ H x v l m lo hi sl Q I i hs pl f h
 obtain⟨a,xs,rfl,g,q⟩:=h
 cases i
 obtain⟨its,r,d,hz⟩:=I.list g
 have c:=r.length
 refine⟨"list",_,slot_list_getitem.lookup,d.isList.typeIs,?_⟩
 refine wpAny_getItem_list_slice d.isList hs pl f .none (by simp) ?_ (by rw[aB2] <;> lia)
 rw[akn,← c]
 refine⟨.ref s.heap.objs.size,_,I.laid (t':=s.toks) (o:=.lst (cutV xs lo hi)) (λb j q=>aJ3 _ q) (aA6 _) ?_,rfl,q _ (I.hok.fresh (aA6 _))⟩
 exact⟨aD0 (an3 xs lo hi) hz,_,0,(r.drop (HT.sIx xs.length 0 lo)).take (HT.sIx xs.length xs.length hi-HT.sIx xs.length 0 lo),aJ5 _ rfl⟩
theorem alv:abh X (.builtin "len") (λxs H Q=>∃ p ys,xs=[.ref p]/\(SqL X.K H p ys\/SqT X.K H p ys)/\Q (.int ys.length) H):=by
 intro pins s σ H xs us Q I r h
 obtain⟨p,ys,rfl,b,q⟩:=h
 obtain⟨u,rfl,d⟩:=acb r
 cases d
 have hn:=af6
 rcases b with b|b
 ·obtain⟨its,c,pl,hz⟩:=I.list b
  have a:=c.length
  exact Calls.call_len_list pl.isList (by simp only[aB2] <;> lia) ⟨.int ys.length,H,I.tok _,⟨s.toks+1,by rw[aB2,a]⟩,q⟩
 ·obtain⟨its,c,pl,hz⟩:=I.tuple b
  have a:=c.length
  exact len_tuple pl (by simp only[aB2] <;> lia) ⟨.int ys.length,H,I.tok _,⟨s.toks+1,by rw[aB2,a]⟩,q⟩
theorem alw:abh X (.type "list") (λxs H Q=>∃ p ys,xs=[.ref p]/\(SqL X.K H p ys\/SqT X.K H p ys)/\∀ l,H l=none->Q (.ref l) (upd H l (.lst ys))):=by
 intro pins s σ H xs us Q I r h
 obtain⟨p,ys,rfl,f,q⟩:=h
 obtain⟨u,rfl,j⟩:=acb r
 cases j
 have fin:∀(its:List Value),Vals ys its->ys.length<=sizeLine->∀(h':Heap)(c:Nat),(∀ b o',s.heap.get? b=some o'->h'.get? b=some o') ->
   h'.get? s.heap.objs.size=some { cls:=.type "list",dict:=none,data:=.seq its.toArray c,slots:=#[] }->EP X pins σ Q (.ref s.heap.objs.size) { s with heap:=h' }:=λits a hz h' c kp e =>
  ⟨.ref s.heap.objs.size,_,I.laid (t':=s.toks) kp (aA6 _) (show ObjOk X.prog X.w _ h' _ (.lst ys) from⟨hz,its,c,a,e⟩),rfl,q _ (I.hok.fresh (aA6 _))⟩
 rcases f with f|f
 ·obtain⟨its,a,pl,hz⟩:=I.list f
  have d:=a.length
  obtain⟨o,i,g,n,hd⟩:=pl.isList
  exact call_list_seq p (.inl rfl) i g hd (λh' c kp e=>fin its a hz h' c kp e) (by simp only[aB2] <;> lia)
 ·obtain⟨its,a,pl,hz⟩:=I.tuple f
  have d:=a.length
  obtain⟨o,i,g,n,hd⟩:=pl
  exact call_list_seq p (.inr rfl) i g hd (λh' c kp e=>fin its a hz h' c kp e) (by simp only[aB2] <;> lia)
def tyV(K:Frag)(T:String)(x:V)(H:Hp):Prop:=match x with
 | .str _=>T = "str"
 | .int _=>T = "int"
 | .ref p=>(T = "list"/\∃ xs,SqL K H p xs)\/(T = "tuple"/\∃ o,K.lookup p=some o/\o.cls=.type "tuple"/\o.dict=none) ∨
   (T = "dict"/\((∃ kvs,H p=some (.dK kvs))\/∃ kvs,H p=some (.dT kvs)))\/(T = "set"/\∃ S n,H p=some (.set S n))
 |_=>False
theorem az0{pins:List (Addr × Obj)}{σ:St}{H:Hp}{s:Shared}{T:String}{x:V}{v:Value}(I:Inv X pins σ H s)(r:RelV x v)(ty:tyV X.K T x H) :
  s.TypeIs v T/\∀ a,v=.ref a->∃ f,s.heap.get? a=some f/\f.dict=none:=by
 cases x with
 | str z =>
  obtain⟨t,rfl⟩:=r
  cases (show T = "str" from ty)
  exact⟨typeIs_str s z t,λ_ e=>nomatch e⟩
 | int i =>
  obtain⟨t,rfl⟩:=r
  cases (show T = "int" from ty)
  exact⟨typeIs_int s i t,λ_ e=>nomatch e⟩
 | ref p =>
  cases r
  rcases ty with ⟨rfl,xs,h⟩|⟨rfl,o,b,g,hd⟩|⟨rfl,b⟩|⟨rfl,S,n,b⟩
  ·obtain⟨its,_,pl,_⟩:=I.list h
   refine⟨pl.isList.typeIs,λa e=>?_⟩
   cases e
   obtain⟨o,n,e,c,hd,_⟩:=pl
   exact⟨o,e,hd⟩
  ·refine⟨⟨o,I.kIn p o b,g⟩,λa e=>?_⟩
   cases e
   exact⟨o,I.kIn _ o b,hd⟩
  ·have z:∃ o,s.heap.get? p=some o/\o.ExactDict:=by
    rcases b with ⟨kvs,b⟩|⟨kvs,b⟩
    ·obtain⟨_,_,_,_,o,_,_,e,ex,_⟩:=I.hok p _ b
     exact⟨o,e,ex⟩
    ·obtain⟨_,_,_,_,o,_,_,e,ex,_⟩:=I.hok p _ b
     exact⟨o,e,ex⟩
   obtain⟨o,e,ex⟩:=z
   refine⟨⟨o,e,ex.1⟩,λa d=>?_⟩
   cases d
   exact⟨o,e,ex.2.1⟩
  ·obtain⟨o,_,_,_,e,ex,_⟩:=I.hok p _ b
   refine⟨⟨o,e,ex.1⟩,λa d=>?_⟩
   cases d
   exact⟨o,e,ex.2.1⟩
 |_=>exact False.elim ty
def tBM(K:Frag)(T:String)(r:V->List V->Hp->VK->Prop)(to:TE)(t:TA):TE:=λσ H Q=>to σ H λx H1=>tyV K T x H1/\t σ H1 λxs H2=>r x xs H2 Q
variable{o e:Expr}{es:List Expr}{to:TE}{t:TA}{name:Str}{apos cpos:Pos}{T id:String}{r:V->List V->Hp->VK->Prop}
theorem ada(A:PlainAttrs T)(slot:Slot T name id)(g:typeOf (.builtin id)=pure (.type "method_descriptor"))(hm:MtR X id r)(z:PE X o to)(ha:PA X (e::es) t)
  (c:attributeBase o name X.env (eval o X.env)=eval o X.env:=by rfl)
  (f:((backTo cpos (starEach (e::es) X.env)).all (λx=>!x.1) && (backToKw cpos (keywordEach [] X.env)).all (λx=>x.1.isSome)
   && decide ((e::es).length+([]:List Keyword).length+(if ([]:List Keyword).isEmpty then 0 else 1)<30))=true:=by rfl)
  (d:(apos.endLine == cpos.line)=true:=by rfl) (hs:starEach (e::es) X.env=(false,eval e X.env)::starEach es X.env:=by rfl) (b:(backTo cpos (starEach es X.env)).any (·.1)=false:=by rfl) :
  PE X (.Call (.Attribute o name apos) (e::es) [] cpos) (tBM X.K T r to t):=by
 intro pins s σ H Q I h
 refine wpAny_Call_method_late c f d rfl (thn (z pins s σ H _ I h) λv s1 ⟨x,p,j,l,ty,y⟩=>?_)
 obtain⟨q,m⟩:=az0 j l ty
 refine⟨T,id,A,slot,g,q,m,?_⟩
 have i:=ha cpos pins s1 σ p _ j y
 rw[hs] at i ⊢
 refine Calls.callWith_builtin (by show(false || (backTo cpos (starEach es X.env)).any (·.1))=false;rw[b] <;> rfl) (Calls.evalArgs_plain ?_)
 exact thn i λus s2 ⟨vs,H2,u,n,w⟩=>hm pins s2 σ H2 x vs v us Q u l n w
/- xs.append(e), list.index on a module's tuple .. are MtR facts of 06m -/
end
def MtM(X:Cx)(id:String)(r:V->List V->Hp->VK->Prop):Prop :=
 ∀(pins:List (Addr × Obj))(s:Shared)(σ:St)(H:Hp)(x:V)(xs:List V)(v:Value)(us:List Value)(Q:VK),Inv X pins σ H s->RelV x v->Vals xs us->r x xs H Q ->
  wpAny (model X.prog X.w) X.A (call (.builtin id) (v::us)) (EP X pins σ Q) X.xe s
theorem Vals.one:∀{x:V}{us:List Value},Vals [x] us->∃ u,us=[u]/\RelV x u
 |_,_,.cons r .nil=>⟨_,rfl,r⟩
theorem Vals.eraseIdx:∀{xs:List V}{us:List Value}(i:Nat),Vals xs us->Vals (xs.eraseIdx i) (us.eraseIdx i)
 |_,_,_,.nil=>.nil
 |_,_,0,.cons _ t=>t
 |_,_,i+1,.cons r t=>.cons r (Vals.eraseIdx i t)
theorem Vals.rep{xs:List V}{us:List Value}(h:Vals xs us):∀ k:Nat,Vals (List.replicate k xs).flatten (List.replicate k us).flatten
 |0=>.nil
 | k+1=>by
  rw[aH4,aH4,List.flatten_cons,List.flatten_cons]
  exact Vals.append h (Vals.rep h k)
theorem ajz{α:Type}:∀(l:List α)(i:Nat),(l.eraseIdx i).length<=l.length
 |[],_=>aA6 _
 |_::_,0=>Nat.le_succ _
 |_::r,i+1=>Nat.succ_le_succ (ajz r i)
theorem aj0(its:List Value):∀(k:Nat)(a:List Value),
  List.foldl (λb d=>b++d) a.toArray (List.replicate k its.toArray)=(a++(List.replicate k its).flatten).toArray
 |0,a=>by simp
 | k+1,a=>by
  have e:a.toArray++its.toArray=(a++its).toArray:=by simp
  have c:(a++its)++(List.replicate k its).flatten=a++(List.replicate (k+1) its).flatten:=by
   rw[aH4,List.flatten_cons,aB4]
  rw[← c,← aj0 its k (a++its),← e,aH4,List.foldl_cons]
section
variable{X:Cx}{pins:List (Addr × Obj)}{σ:St}{H:Hp}{s:Shared}{l b:Addr}{xs ys zs:List V}
theorem Inv.lset{its its':List Value}{n:Nat}{f:Array Value->Array Value}{t':Nat}(I:Inv X pins σ H s)(b:H l=some (.lst xs))
  (e:s.heap.get? l=some { cls:=.type "list",data:=.seq its.toArray n }) (hf:f its.toArray=its'.toArray) (a:Vals ys its') (hz:ys.length<=sizeLine) :
  Inv X pins σ (upd H l (.lst ys)) { s with heap:=s.heap.update l (Obj.mapSeq f),toks:=t' }:=by
 have q:=PySem.IsL.update e f
 rw[hf] at q
 refine I.write (x:=l) (e:=l) (by rw[b];exact trivial) (.inl rfl) (λd u hb c=>(aJ9 s.heap (Obj.mapSeq f) (Ne.symm hb)).trans c) ⟨_,q⟩ ?_
 exact⟨hz,its',_,a,q⟩
theorem Inv.lnew{its:List Value}{t':Nat}(I:Inv X pins σ H s)(a:Vals ys its)(hz:ys.length<=sizeLine) :
  Inv X pins σ (upd H s.heap.objs.size (.lst ys)) { s with heap:=s.heap.push { cls:=.type "list",data:=.seq its.toArray },toks:=t' } :=
 I.laid (λ_ _ q=>aJ3 _ q) (aA6 _) ⟨hz,its,0,a,aJ5 _ rfl⟩
theorem Inv.fresh(I:Inv X pins σ H s):H s.heap.objs.size=none:=I.hok.fresh (aA6 _)
theorem Inv.lstM(I:Inv X pins σ H s)(a:H l=some (.lst xs)):xs.length<=sizeLine/\∃(its:List Value)(n:Nat),Vals xs its/\xs.length=its.length/\s.heap.get? l=some { cls:=.type "list",data:=.seq its.toArray n }:=by
 obtain⟨z,its,n,r,e⟩:=I.hok l _ a
 exact⟨z,its,n,r,r.length,e⟩
theorem alx{n:Nat}(h:n<=sizeLine):Builtin.List.listTooLong n=false:=by
 unfold Builtin.List.listTooLong
 exact aD7 (by lia)
end
section
variable{X:Cx}
def afa:V->List V->Hp->VK->Prop:=λx vs H Q=>∃ l xs y,x=.ref l/\vs=[y]/\H l=some (.lst xs)/\xs.length<sizeLine/\Q .non (upd H l (.lst (xs++[y])))
theorem abk:MtM X "list.append" afa:=by
 intro pins s σ H x vs v us Q I d b h
 obtain⟨l,xs,y,rfl,rfl,a,hz,q⟩:=h
 cases d
 obtain⟨u,rfl,c⟩:=b.one
 obtain⟨z,its,n,r,f,e⟩:=I.lstM a
 refine call_meets F.slot_list_append ⟨_,e,rfl⟩ F.entry_list_append (F.args_list_append_2 _ _) (PySem.list_append l its.toArray n u (by rw[aB2];lia)) ⟨e,?_⟩
 refine⟨.non,_,I.lset (its':=its++[u]) a e (by simp) (r.append (.cons c .nil)) ?_,rfl,q⟩
 rw[aB1,List.length_singleton]
 lia
def aly:V->List V->Hp->VK->Prop:=λx vs H Q=>∃ l xs i k y,x=.ref l/\vs=[.int i]/\H l=some (.lst xs)/\-(2 ^ 63)<=i/\i<2 ^ 63/\seqIndex? i xs.length=some k/\xs[k]?=some y/\Q y (upd H l (.lst (xs.eraseIdx k)))
theorem at9:MtM X "list.pop" aly:=by
 intro pins s σ H x vs v us Q I A f h
 obtain⟨l,xs,i,k,y,rfl,rfl,b,m,g,c,d,q⟩:=h
 cases A
 obtain⟨u,rfl,o⟩:=f.one
 obtain⟨t,rfl⟩:=o
 obtain⟨z,its,n,r,p,e⟩:=I.lstM b
 obtain⟨w,j,a⟩:=r.get d
 refine call_meets F.slot_list_pop ⟨_,e,rfl⟩ F.entry_list_pop (F.args_list_pop_2 _ _)
  (MeetsSeq.list_pop_at l its.toArray n i t k w (fitsIndex_both m g) (by rw[aB2,← p];exact c) (by rw[← aD6];exact j) (by rw[aB2];lia)) ⟨e,?_⟩
 refine⟨y,_,I.lset (its':=its.eraseIdx k) b e ?_ (r.eraseIdx k) ?_,a,q⟩
 ·show its.toArray.eraseIdxIfInBounds k=(its.eraseIdx k).toArray
  rw[List.eraseIdxIfInBounds_toArray]
 ·have:=ajz xs k
  lia
def rCat:R2:=λx y H Q=>∃ l b xs zs,x=.ref l/\y=.ref b/\H l=some (.lst xs)/\H b=some (.lst zs)/\xs.length+zs.length<=sizeLine/\∀ p,H p=none->Q (.ref p) (upd H p (.lst (xs++zs)))
theorem alz:OpR X (binaryOp .Add) rCat:=by
 intro pins s σ H x y v u Q I o g h
 obtain⟨l,b,xs,A,rfl,rfl,d,j,hz,q⟩:=h
 cases o
 cases g
 obtain⟨z,its,n,r,w,e⟩:=I.lstM d
 obtain⟨B,a,p,f,c,m⟩:=I.lstM j
 refine PySem.P.add_list e m ?_ (by rw[aB2,aB2];lia)
 have i:its.toArray++a.toArray=(its++a).toArray:=by simp
 rw[i]
 exact⟨.ref _,_,I.lnew (t':=s.toks) (r.append f) (by rw[aB1];lia),rfl,q _ I.fresh⟩
def rRep:R2:=λx y H Q=>∃ l k xs,x=.ref l/\y=.int k/\H l=some (.lst xs)/\-(2 ^ 63)<=k/\k<2 ^ 63/\xs.length * k.toNat<=sizeLine /\
 ∀ p,H p=none->Q (.ref p) (upd H p (.lst (List.replicate k.toNat xs).flatten))
theorem aop{α:Type}(xs:List α)(k:Nat):(List.replicate k xs).flatten.length=k * xs.length:=by
 induction k with
 |zero=>simp
 |succ k ih=>rw[aH4,List.flatten_cons,aB1,ih,Nat.succ_mul,Nat.add_comm]
theorem az1:OpR X (binaryOp .Mult) rRep:=by
 intro pins s σ H x y v u Q I C w h
 obtain⟨l,k,xs,rfl,rfl,o,A,p,hz,q⟩:=h
 cases C
 obtain⟨t,rfl⟩:=w
 obtain⟨z,its,n,r,B,e⟩:=I.lstM o
 have f:its.toArray.size * k.toNat<=sizeLine:=by rw[aB2,← B];exact hz
 have g:¬ its.toArray.size * k.toNat > (2 ^ 63-1) / 8:=by
  have:(sizeLine:Nat)<=(2 ^ 63-1) / 8:=by decide
  lia
 have d:¬ (!Builtin.List.listFitsIndex k)=true:=by
  rw[fitsIndex_both A p]
  exact aB0
 have b:¬ Builtin.List.listTooLong (its.toArray.size * k.toNat)=true:=by
  rw[alx f]
  exact aB0
 have c:List.foldl (λi j=>i++j) #[] (List.replicate (if its.toArray.isEmpty=true then 0 else k.toNat) its.toArray)=(List.replicate k.toNat its).flatten.toArray:=by
  have D:∀ m:Nat,List.foldl (λi j=>i++j) #[] (List.replicate m its.toArray)=(List.replicate m its).flatten.toArray:=λm=>by
   have:=aj0 its m []
   rw[List.nil_append] at this
   exact this
  rw[D]
  cases its with
  |nil=>simp
  |cons a r'=>rw[aF7 (by simp)]
 refine wpAny_binaryOp_repeat_ref (T:="list") (U:="int") (by decide) ⟨_,e,rfl⟩ (λs'=>typeIs_int s' k t) noFill_list_mul F.fills_int_mul F.slot_int_rmul repeat_list F.slot_int_index.lookup
  (call_meets F.slot_int_rmul (typeIs_int s k t) F.entry_int_rmul (F.args_int_rmul_2 _ _) (int___rmul___int_list k t l its.toArray n)
   ⟨e,rfl,⟨_,e,rfl⟩,call_meets F.slot_list_mul ⟨_,e,rfl⟩ F.entry_list_mul (F.args_list_mul_2 _ _) (AutoListH.list___mul___list_int_3 l its.toArray n k t d g b) ⟨e,?_⟩⟩)
 rw[c]
 exact⟨.ref _,_,I.lnew (t':=s.toks) (r.rep k.toNat) (by rw[aop,Nat.mul_comm];exact hz),rfl,q _ I.fresh⟩
end
section
variable{prog:Program}{w:World}{A:Around}{E:Value->Shared->Prop}{s:Shared}
end
section
variable{X:Cx}
end
section
variable{κ:Type} [DecidableEq κ]
def valV(kvs:List (κ × V))(k : κ):Option V:=(kvs.find? λkv=>decide (kv.1=k)).map (·.2)
def putK(kvs:List (κ × V))(k : κ)(v:V):List (κ × V) :=
 if (kvs.any λkv=>decide (kv.1=k))=true then kvs.map (λkv=>if kv.1=k then (kv.1,v) else kv) else kvs++[(k,v)]
def awl(kvs:List (κ × V))(k : κ):List (κ × V):=kvs.filter λkv=>decide (kv.1 ≠ k)
theorem ahk{p : κ × V}{r:List (κ × V)}{k : κ}(e:p.1=k):valV (p::r) k=some p.2:=by simp[valV,List.find?_cons,e]
theorem ahl{p : κ × V}{r:List (κ × V)}{k : κ}(e:¬ p.1=k):valV (p::r) k=valV r k:=by simp[valV,List.find?_cons,e]
theorem al0(k : κ):∀ kvs:List (κ × V),(kvs.any λa=>decide (a.1=k))=(valV kvs k).isSome
 |[]=>rfl
 | p::r=>by
  rw[List.any_cons]
  by_cases e:p.1=k
  ·simp only[ahk e,aD8 e,Bool.true_or,Option.isSome_some]
  ·rw[ahl e,aD7 e,Bool.false_or];exact al0 k r
theorem ahd(kvs:List (κ × V))(k : κ)(v:V):(putK kvs k v).length<=kvs.length+1:=by
 unfold putK
 split
 ·rw[aA3];lia
 ·rw[aB1,aE6,aI9];lia
theorem RelO.isSome_eq{o:Option V}{u:Option Value}(r:RelO o u):o.isSome=u.isSome:=by
 cases o with
 | none=>cases u with
  |none=>rfl
  |some _=>exact(show False from r).elim
 | some _=>cases u with
  |none=>exact(show False from r).elim
  |some _=>rfl
theorem KV.any{kvs:List (κ × V)}{vs:List (κ × Value)}(r:KV kvs vs)(k : κ):(kvs.any λa=>decide (a.1=k))=vs.any λa=>decide (a.1=k):=by
 unfold KV at r
 induction r with
 |nil=>rfl
 |cons h t ih=>rw[List.any_cons,List.any_cons,ih,h.1]
theorem KV.repl{kvs:List (κ × V)}{vs:List (κ × Value)}(r:KV kvs vs)(k : κ){y:V}{u:Value}(d:RelV y u) :
  KV (kvs.map λa=>if a.1=k then (a.1,y) else a) (vs.map λa=>if a.1=k then (a.1,u) else a):=by
 unfold KV at r ⊢
 induction r with
 |nil=>exact .nil
 | @cons p q ps qs h t ih =>
  rw[aD1,aD1]
  refine .cons ?_ ih
  obtain⟨b,c⟩:=h
  by_cases e:p.1=k
  ·rw[aF6 e,aF6 (b.symm.trans e)];exact⟨b,d⟩
  ·rw[aF7 e,aF7 (λz=>e (b.trans z))];exact⟨b,c⟩
theorem KV.put{kvs:List (κ × V)}{vs:List (κ × Value)}(r:KV kvs vs)(k : κ){y:V}{u:Value}(a:RelV y u):KV (putK kvs k y) (stored vs k u):=by
 unfold putK stored
 rw[r.any k]
 by_cases e:(vs.any λb=>decide (b.1=k))=true
 ·rw[aF6 e,aF6 e];exact r.repl k a
 ·rw[aF7 e,aF7 e];exact Paired.snoc r ⟨rfl,a⟩
theorem KV.length{kvs:List (κ × V)}{vs:List (κ × Value)}(r:KV kvs vs):kvs.length=vs.length:=Paired.length r
end
theorem awm{P:Program}{w:World}{k:Key}{u:Value}(r:RelV (kV k) u):(abu P w).is k u=true:=by
 cases k with
 |inl i=>obtain⟨t,e⟩:=(show ∃ t,u=Value.int i t from r);subst e;exact an0 P w i t
 |inr x=>obtain⟨t,e⟩:=(show ∃ t,u=Value.str x t from r);subst e;exact an1 P w x t
theorem aj1{P:Program}{w:World}:∀{ks:List Key}{us:List Value},Vals (ks.map kV) us->ItemsAre (abu P w) ks us
 |[],_,r=>by rw[List.map_nil] at r;cases r;exact .nil
 | k::ks,_,r=>by
  rw[aD1] at r
  cases r with
  |cons h t=>exact .cons (awm h) (aj1 t)
abbrev KT(H:Hp):List (List Key × V)->List (List Key × Addr × Value)->Prop:=Paired λp q=>p.1=q.1/\H q.2.1=some (.tup (p.1.map kV))/\RelV p.2 q.2.2
theorem KT.val{H:Hp}{kvs:List (List Key × V)}{xs:List (List Key × Addr × Value)}(r:KT H kvs xs)(k:List Key):RelO (valV kvs k) ((atKey xs k).map (·.2)):=by
 induction r with
 |nil=>exact True.intro
 | @cons p q ps qs h t ih =>
  obtain⟨c,_,d⟩:=h
  by_cases e:p.1=k
  ·have a:q.1=k:=c.symm.trans e
   have b:atKey (q::qs) k=some q.2:=by simp[atKey,List.find?_cons,a]
   rw[ahk e,b];exact d
  ·have a:¬ q.1=k:=λz=>e (c.trans z)
   have b:atKey (q::qs) k=atKey qs k:=by simp[atKey,List.find?_cons,a]
   rw[ahl e,b];exact ih
theorem KT.repl{H:Hp}{kvs:List (List Key × V)}{xs:List (List Key × Addr × Value)}(r:KT H kvs xs)(k:List Key){y:V}{u:Value}(f:RelV y u) :
  KT H (kvs.map λb=>if b.1=k then (b.1,y) else b) (xs.map (putAt k u)):=by
 induction r with
 |nil=>exact .nil
 | @cons p q ps qs h t ih =>
  rw[aD1,aD1]
  refine .cons ?_ ih
  obtain⟨a,c,d⟩:=h
  unfold putAt
  by_cases e:p.1=k
  ·rw[aF6 e,aF6 (a.symm.trans e)];exact⟨a,c,f⟩
  ·rw[aF7 e,aF7 (λz=>e (a.trans z))];exact⟨a,c,d⟩
theorem KT.put{H:Hp}{kvs:List (List Key × V)}{xs:List (List Key × Addr × Value)}(r:KT H kvs xs)(k:List Key){b:Addr}{y:V}{u:Value}(hb:H b=some (.tup (k.map kV)))(a:RelV y u) :
  KT H (putK kvs k y) (storedH xs k b u):=by
 have e:(kvs.any λc=>decide (c.1=k))=(atKey xs k).isSome:=by
  rw[al0,(r.val k).isSome_eq,Option.isSome_map]
 unfold putK storedH
 rw[e]
 by_cases q:(atKey xs k).isSome=true
 ·rw[aF6 q,aF6 q];exact r.repl k a
 ·rw[aF7 q,aF7 q];exact Paired.snoc r ⟨rfl,hb,a⟩
theorem KT.keeps{H H':Hp}{kvs:List (List Key × V)}{xs:List (List Key × Addr × Value)}(r:KT H kvs xs)(a:∀ b ys,H b=some (.tup ys)->H' b=some (.tup ys)):KT H' kvs xs :=
 Paired.mapP r λ_ _ z=>⟨z.1,a _ _ z.2.1,z.2.2⟩
section
variable{P:Program}{w:World}{H:Hp}{h:Heap}{a:Addr}
theorem awn{u:HO}(ok:HOk P w H h)(e:Rd H a u):ObjOk P w H h a u:=e.ok ok
theorem a12{kvs:List (Key × V)}(ok:HOk P w H h)(e:Rd H a (.dK kvs)):kvs.length<=sizeLine/\(a == sysModules)=false/\∃ vs,KV kvs vs/\h.DictOf (abu P w) a vs :=
 show ObjOk P w H h a (.dK kvs) from awn ok e
theorem a13{kvs:List (Key × V)}(ok:HOk P w H h)(e:H a=some (.dK kvs)):kvs.length<=sizeLine/\(a == sysModules)=false/\∃ vs,KV kvs vs/\h.DictOf (abu P w) a vs:=a12 ok (.inl e)
theorem aru{ks:List Key}(ok:HOk P w H h)(e:H a=some (.tup (ks.map kV))):(tupleKind (abu P w)).is h ks a:=by
 obtain⟨_,its,r,o,b,c,n,d⟩:=(show ObjOk P w H h a (.tup (ks.map kV)) from ok a _ e)
 exact⟨o,its.toArray,n,b,c,d,by simpa using aj1 r⟩
theorem a14{kvs:List (List Key × V)}(ok:HOk P w H h)(e:Rd H a (.dT kvs)):kvs.length<=sizeLine/\(a == sysModules)=false /\
  ∃ xs,KT H kvs xs/\h.DictOfH (tupleKind (abu P w)) a xs:=by
 obtain⟨z,y,xs,r,o,es,ep,g,d,i,f,c⟩:=(show ObjOk P w H h a (.dT kvs) from awn ok e)
 refine⟨z,y,xs,r,o,es,ep,g,d,i,f,λx b=>?_,c⟩
 have all:∀{l:List (List Key × V)}{m:List (List Key × Addr × Value)},KT H l m->∀ x∈m,(tupleKind (abu P w)).is h x.1 x.2.1:=by
  intro l m q
  induction q with
  |nil=>intro x b;exact nomatch b
  | @cons p q ps qs hq t ih =>
   intro x b
   rcases aA9.mp b with e|b
   ·subst e
    exact aru ok (by rw[← hq.1];exact hq.2.1)
   ·exact ih x b
 exact all r x b
theorem a15{kvs:List (List Key × V)}(ok:HOk P w H h)(e:H a=some (.dT kvs)):kvs.length<=sizeLine/\(a == sysModules)=false /\
  ∃ xs,KT H kvs xs/\h.DictOfH (tupleKind (abu P w)) a xs:=a14 ok (.inl e)
end
def DGet(H:Hp)(a:Addr)(y:V)(r:Option V):Prop :=
 (∃ kvs k,Rd H a (.dK kvs)/\y=kV k/\r=valV kvs k)\/∃ kvs k b,Rd H a (.dT kvs)/\y=.ref b/\H b=some (.tup (k.map kV))/\r=valV kvs k
def DPut(H:Hp)(a:Addr)(y v:V)(H':Hp):Prop :=
 (∃ kvs k,H a=some (.dK kvs)/\y=kV k/\kvs.length<sizeLine/\H'=upd H a (.dK (putK kvs k v))) ∨
 ∃ kvs k b,H a=some (.dT kvs)/\y=.ref b/\H b=some (.tup (k.map kV))/\kvs.length<sizeLine/\H'=upd H a (.dT (putK kvs k v))
theorem DPut.t{H:Hp}{a b:Addr}{kvs:List (List Key × V)}{k:List Key}{v:V}(e:H a=some (.dT kvs))(d:H b=some (.tup (k.map kV)))(c:kvs.length<sizeLine) :
  DPut H a (.ref b) v (upd H a (.dT (putK kvs k v))):=.inr ⟨kvs,k,b,e,rfl,d,c,rfl⟩
section
variable{X:Cx}{pins:List (Addr × Obj)}{σ:St}{H:Hp}{s:Shared}{a:Addr}{y v:V}{u r:Value}{o:Option V}{A:Around}{E:Value->Shared->Prop}
theorem Inv.big(I:Inv X pins σ H s):sysModules<s.heap.objs.size:=by
 have h:mainGlobals<s.heap.objs.size:=(I.mod.glob.keeps I.bk).lt
 exact Nat.lt_trans (by decide) h
theorem aoq{h':Heap}{t':Nat}{c:HO}(I:Inv X pins σ H s)(f:Mut (H a))(hs:Heap.SameBut a s.heap h')(d:∃ q,h'.get? a=some q)(new:ObjOk X.prog X.w (upd H a c) h' a c) :
  Inv X pins σ (upd H a c) { s with heap:=h',toks:=t' } :=
 I.write (x:=a) (e:=a) f (.inl rfl) (λb q hb z=>(hs.2 b hb).trans z) d new
theorem az2{P:Program}{w:World}{H':Hp}{h':Heap}{kvs:List (Key × V)}{vs:List (Key × Value)}(z:kvs.length<=sizeLine)(hd:(a == sysModules)=false)(b:KV kvs vs)(c:h'.DictOf (abu P w) a vs) :
  ObjOk P w H' h' a (.dK kvs):=⟨z,hd,vs,b,c⟩
theorem arv{H':Hp}{Q:Unit->Shared->Prop}(L:A.units+1<cLine)(I:Inv X pins σ H s)(g:DPut H a y v H')(B:RelV y u)(x:RelV v r)(h:∀ s',Inv X pins σ H' s'->Q () s') :
  wpAny (model X.prog X.w) A (setItem (.ref a) u r) Q E s:=by
 rcases g with ⟨kvs,k,e,m,l,o⟩|⟨kvs,k,b,e,m,C,l,o⟩
 ·subst m o
  obtain⟨z,hd,vs,d,j⟩:=a13 I.hok e
  have hz:vs.length<=sizeLine:=by rw[← d.length];exact z
  have n:(putK kvs k v).length<=sizeLine:=by have:=ahd kvs k v;lia
  refine wpAny_setItem_pairs (hsz:=hz) (awm B) j λh' f hs=>h _ ?_
  have F:∃ q,h'.get? a=some q:=let ⟨q,_,_,i,_⟩:=f;⟨q,i⟩
  exact aoq I (by rw[e];exact True.intro) hs F (az2 n hd (d.put k x) f)
 ·subst m o
  cases (show u=Value.ref b from B)
  obtain⟨z,hd,xs,d,j⟩:=a15 I.hok e
  have hz:xs.length<=sizeLine:=by rw[← Paired.length d];exact z
  have n:(putK kvs k v).length<=sizeLine:=by have:=ahd kvs k v;lia
  refine wpAny_setItem_heap (hsz:=hz) (tupleKind_room_in1 L) (aru I.hok C) j λh' f hs=>h _ ?_
  obtain⟨q,es,ep,i,G,K,J,_,D⟩:=f
  refine aoq I (by rw[e];exact True.intro) hs ⟨q,i⟩ ⟨n,hd,_,(d.put k C x).keeps λc ys p=>?_,q,es,ep,i,G,K,J,D⟩
  rw[aaf (a11 p e (λz=>nomatch z))]
  exact p
end
section
variable{X:Cx}{pins:List (Addr × Obj)}{σ:St}{H:Hp}{s:Shared}{a:Addr}{kvs:List (Key × V)}{k:Key}{u:Value}{A:Around}{E:Value->Shared->Prop}
end
def aqa(td ty tv:TE):TS:=λD σ H=>tv σ H λv H1=>td σ H1 λx H2=>ty σ H2 λy H3=>∃ a H4,x=.ref a/\DPut H3 a y v H4/\D.nx σ H4
section
variable{X:Cx}{o i e value:Expr}{pos pos' tpos:Pos}{td ty tv:TE}
theorem agv(E:X.A.units+1<cLine)(C:PE X o td)(hi:PE X i ty)(f:PE X value tv)(hs:swapsWith value (some (.Subscript o i pos')) pos.line X.env=pure false) :
  PS X (.Assign [.Subscript o i pos'] value pos) (aqa td ty tv):=by
 intro pins s σ H D I h
 refine wpAny_Assign_Subscript (thn (f pins s σ H _ I h) λr s1 ⟨v,l,m,d,B⟩=>thn (C pins s1 σ l _ m B) λu s2 ⟨x,H2,p,z,w⟩=>thn (hi pins s2 σ H2 _ p w) λJ G ⟨y,H3,c,j,a,b,ex,g,q⟩=>?_) hs
 subst ex
 obtain rfl:u=Value.ref a:=z
 exact arv E c g j d λF n=>⟨σ,b,n,q⟩
end
theorem aua{P:Program}{w:World}{H:Hp}(h:Heap)(hb:sysModules<h.objs.size):ObjOk P w H (h.push { cls:=.type "dict",data:=.dict #[] }) h.objs.size (.dT []) :=
 ⟨aG1 _,beq_eq_false_iff_ne.mpr (Ne.symm (aB6 hb)),[],.nil,_,#[],0,aJ5 _ rfl,⟨rfl,rfl,rfl⟩,rfl,rfl,List.nodup_nil⟩
def arw:TE:=λ_ H Q=>∀ p,H p=none->Q (.ref p) (upd H p (.dT []))
section
variable{X:Cx}{pos:Pos}
theorem aub:PE X (.Dict [] [] pos) arw:=λpins s σ H Q I h =>
 wpAny_Dict_empty ⟨.ref s.heap.objs.size,_,I.laid (a:=s.heap.objs.size) (o:=.dT []) (t':=s.toks) (λ_ _ q=>aJ3 _ q) (aA6 _) (aua s.heap I.big),rfl,h _ (I.hok.fresh (aA6 _))⟩
end
section
variable{X:Cx}{pins:List (Addr × Obj)}{σ:St}{H:Hp}{s:Shared}{a:Addr}{y d:V}{u r:Value}{o:Option V}{A:Around}{E:Value->Shared->Prop}
end
section
variable{X:Cx}{o e f:Expr}{apos cpos:Pos}{td ty tx:TE}
end
section
variable{X:Cx}{pins:List (Addr × Obj)}{σ:St}{H:Hp}{s:Shared}{a:Addr}{kvs:List (Key × V)}{A:Around}{E:Value->Shared->Prop}
end
section
variable{X:Cx}{pins:List (Addr × Obj)}{σ:St}{H:Hp}{s:Shared}{a:Addr}{y:V}{u:Value}{A:Around}{E:Value->Shared->Prop}
end
end L2
namespace Att
open PySem PySem.W PySem.Calls PyProof.Rows
theorem ah5{P:Params}{h:Heap}:∀(ns:List Int)(vs:List Value),WellAll P h vs (ns.map WData.int)->IntsAre vs ns:=by
 intro ns
 induction ns with
 | nil =>
  intro vs w
  rw[List.map_nil] at w
  cases w
  exact .nil
 | cons n ns ih =>
  intro vs w
  rw[aD1] at w
  cases w with
  | cons a b =>
   cases a
   exact .cons _ _ (ih _ b)
theorem arx{l:OpenLaw}{n:Nat}(hn:l.most=some n){P:Params}{h:Heap}{args:List WData}{b:List Value}
  (c:l.row.toRowW.claim.pre args=true) (m:WellAll P h b args) :
  ∃ a vs ns,b=[Value.ref a]/\args=[WData.list (ns.map WData.int)]/\h.get? a=some { cls:=.type "list",data:=.seq vs.toArray }/\IntsAre vs ns/\ns.length<=n:=by
 have j:WShape.hasAll [] args [.list .int]=true:=(pre_splitW c).1
 have o:l.pre.holds [] { args:=args }=true:=(pre_splitW c).2
 obtain⟨d,r,rfl,u,s⟩:=hasAllW_cons j
 obtain rfl:=hasAllW_nil s
 obtain⟨xs,rfl,v⟩:=hasW_list u
 obtain⟨ns,rfl⟩:=items_int v
 have f:ns.length<=n:=by
  unfold OpenLaw.pre at o
  have i:(WTm.not (.lt (.lit (.int (n:Int))) (.len (.arg 0)))).holds [] { args:=[.list (ns.map .int)] }=true:=by
   have i:=(holds_andW o).1
   rw[hn] at i
   exact i
  have g:=condW_of i (w_not (w_lt w_lit (w_len_list (w_arg rfl))))
  rw[aA3] at g
  refine Nat.le_of_not_lt λq=>?_
  have p:(n:Int)<((ns.length:Nat):Int):=by lia
  first
   |(rw[aD8 p] at g;exact absurd g (by decide))
   |(simp at g;lia)
 cases m with
 | cons w1 w2 =>
  cases w2
  cases w1 with
  |list ho hall=>exact⟨_,_,ns,rfl,rfl,ho,ah5 ns _ hall,f⟩
theorem ary(l:OpenLaw)(args:List WData):l.row.toRowW.claim.post args (.bool true) args=true :=
 postW_of (r:=l.row.toRowW) (X:=(true == true))
  (show WShape.has [] (.bool true) .bool=true by first|rfl|decide|simp[WShape.has,WShape.arms,WShape.armsAll])
  (show(WTm.eq .res (.lit (.bool true))).value [] { args:=args,res:=some (.bool true),after:=args }=some (.bool (true == true)) from w_eq_bool (w_res rfl) w_lit) rfl
theorem attach_call{l:OpenLaw}{n:Nat}{q:Program}{c:List Str}{x:(Str->Option Value)->Heap->Prop}{B:World->Heap->Prop}{d:DefRec}
  (hn:l.most=some n) (p:d.params.defaults=[])
  (call:∀(w:World)(s₀ b:Shared)(mg mb:Str->Option Value)(fa:Addr)(o:Obj)(pm m doc:Value)(a:Addr)(vs:List Value)(ns:List Int),
   Ground q c [] x w s₀ mg mb b.heap->B w b.heap ->
   b.heap.get? fa=some o->o.data=.func (docDef d.name d.params d.body d.scope pm m doc)->b.heap.CodeRec m d.name->mg d.name=some (.ref fa) ->
   b.heap.get? a=some { cls:=.type "list",data:=.seq vs.toArray }->IntsAre vs ns->ns.length<=n->b.gens = #[] ->
   codeAny (model l.prog w) callerA (.call (.ref fa) ⟨[.ref a],[]⟩) (λr s'=>r=.ok (.ret (.bool true))/\OldK b.heap s'.heap/\s'.os=b.os/\AllBare s'.gens) b) :
  WalkO q c x B l.row.toRowW d [] (λf vs=>PySem.call f vs):=by
 intro w s₀ b mg mb G Y fa o pm m doc H kV L hd v z s D args A as i y E u I
 obtain rfl:H=.none:=Dflts.none z p
 obtain rfl:kV=.none:=Dflts.noKw z
 obtain⟨a,vs,ns,rfl,rfl,h,g,j⟩:=arx hn i u
 refine enter_call (aJ6 (call w s₀ b mg mb fa o pm m doc a vs ns G Y L (fd_plain hd) v s h g j D) λr s' K=>?_)
 obtain⟨rfl,C,J,F⟩:=K
 exact⟨.inl ⟨.bool true,.bool true,[],rfl,λ_=>rfl,.bool true,ary l _,λ_=>⟨List.Pairwise.nil,λ_ hm=>(nomatch hm)⟩⟩,C,J,F⟩
section
variable{prog:Program}{w:World}{A:Around}{E:Value->Shared->Prop}{s:Shared}{K:Frag}
end
end Att
namespace L2
open PySem PySem.Spec PyProof.Rows
theorem af7:∀{vs:List Value}{ns:List Int},IntsAre vs ns->Vals (ns.map V.int) vs
 |_,_,.nil=>.nil
 |_,_,.cons n t h=>.cons ⟨t,rfl⟩ (af7 h)
def Only(H:Hp):Prop:=∀ b,H b=none\/(∃ o xs,H b=some (.frz o (.lst xs)))\/∃ gs,H b=some (.tbl gs)
def afb(K:Frag)(h:Heap):Prop:=∀ c P,PySem.W.tabIn K lamN=some (c,P)->PySem.W.CodeHd h c P/\h.get? P=some (PySem.W.tabObj #[])/\K.lookup P=none
theorem aw8{P:Program}{w:World}{K:Frag}{h:Heap}{H:Hp}{a:Addr}{xs:List V}{j:Obj}(s:afb K h)(ha:h.get? a=some j)(p:j.cls ≠ .none)(n:∀ b,H b=none\/∃ o xs,H b=some (.frz o (.lst xs)))(m:SqL K H a xs)(hok:HOk P w H h)(f:∀ b,H b ≠ none->b=a)(l:H a ≠ none->K.lookup a=none) :
  ∃ H':Hp,Only H'/\SqL K H' a xs/\HOk P w H' h/\(∀ b,H' b ≠ none->(b=a/\K.lookup a=none)\/∃ c,PySem.W.tabIn K lamN=some (c,b))/\TabsOk K H':=by
 cases q:PySem.W.tabIn K lamN with
 | none =>
  refine⟨H,λb=>(n b).elim .inl λz=>.inr (.inl z),m,hok,λb z=>.inl ⟨f b z,l ?_⟩,λc P e=>by rw[q] at e;cases e⟩
  have:=f b z;subst this;exact z
 | some cP =>
  obtain⟨c,T⟩:=cP
  obtain⟨_,i,A⟩:=s c T q
  have g:T ≠ a:=λz=>by subst z;rw[ha] at i;cases i;exact p rfl
  have hn:H T=none:=by
   cases e:H T with
   |none=>rfl
   |some u=>exact absurd (f T (by rw[e];simp)) g
  refine⟨upd H T (.tbl #[.str lamQ 0]),λb=>?_,?_,λb u z=>?_,λb z=>?_,λy x e=>?_⟩
  ·by_cases hb:b=T
   ·subst hb;exact .inr (.inr ⟨_,aaj⟩)
   ·rw[aaf hb];exact(n b).elim .inl λz=>.inr (.inl z)
  ·rcases m with (r|⟨o,r⟩)|r
   ·exact .inl (.inl (by rw[aaf (Ne.symm g)];exact r))
   ·exact .inl (.inr ⟨o,by rw[aaf (Ne.symm g)];exact r⟩)
   ·exact .inr r
  ·by_cases hb:b=T
   ·subst hb
    rw[aaj] at z;cases z
    exact⟨#[],i,trivial,λpos v e=>by simp[codeAmong] at e⟩
   ·rw[aaf hb] at z
    exact(hok b u z).stay (λ_ _ _ r=>r) (λd r=>by rw[aaf (aam r hn)];exact r) λd ys r=>by rw[aaf (aam r hn)];exact r
  ·by_cases hb:b=T
   ·subst hb;exact .inr ⟨c,rfl⟩
   ·rw[aaf hb] at z
    have:=f b z;subst this;exact .inl ⟨rfl,l z⟩
  ·rw[q] at e;cases e
   exact⟨#[],by rw[aaj];rfl⟩
theorem auc{P:Program}{w:World}{K:Frag}{mg mb:Str->Option Value}{CX:CXT}{k:Nat}{fa a:Addr}{fd:FuncData}{x:Str}{sp:Sp}{f:Shared}{vs:List Value}{ns:List Int}
  (KX:K.In f.heap) (C:f.heap.Ns mainGlobals mg) (hb:f.heap.Ns builtinsNs mb) (U:∀ x:Str,x ≠ "__name__"->mb x=bootBuiltins x) (J:f.heap.NoLimit) (hg:f.gens = #[])
  (ha:f.heap.get? a=some { cls:=.type "list",data:=.seq vs.toArray }) (hi:IntsAre vs ns) (hl:ns.length<=sizeLine) (hr:Room k callerA) (i:afb K f.heap) (Y:awb mg f.heap)
  (F:∀ base:Heap,K.In base->base.Ns mainGlobals mg->FnOk P w K mg base CX k fa fd [x] sp) (A:∀(s:Shared)(u:Value),BindsTo s fd ⟨[u],[]⟩ [(x,u)])
  (W:∀ H:Hp,Only H->SqL K H a (ns.map V.int)->sp [.ref a] H (λv _=>v=.bl true) λ_ _ _=>False)
  (S:∀ H e s',CX [] H f (λ_ _ _=>False) e s'->False) :
  codeAny (model P w) callerA (.call (.ref fa) ⟨[.ref a],[]⟩) (λr s'=>r=.ok (.ret (.bool true))/\OldK f.heap s'.heap/\s'.os=f.os/\AllBare s'.gens) f:=by
 have rv:=af7 hi
 have I:=hi.length
 -- from an abstract heap in which nothing but the script may be tracked
 have y:∀ H:Hp,(∀ b,H b=none\/∃ o xs,H b=some (.frz o (.lst xs)))->SqL K H a (ns.map V.int)->HOk P w H f.heap->(∀ b,H b ≠ none->b=a)->(H a ≠ none->K.lookup a=none) ->
   codeAny (model P w) callerA (.call (.ref fa) ⟨[.ref a],[]⟩) (λr s'=>r=.ok (.ret (.bool true))/\OldK f.heap s'.heap/\s'.os=f.os/\AllBare s'.gens) f:=by
  intro H O X hok B hK
  obtain⟨H,O,X,hok,B,hT⟩:=aw8 i ha (by intro z;cases z) O X hok B hK
  have g:∀{b:Addr}{o:Obj},f.heap.get? b=some o->H b=none->(hidT f.heap H).get? b=some o:=λe n=>atz e n
  have T:∀{b:Addr}{o:Obj}{es:Array DictEntry}{ep:Nat},f.heap.get? b=some o->o.data=.dict es ep->H b=none:=λ{b o es ep} e d=>by
   cases q:H b with
   |none=>rfl
   | some u =>
    rcases B b (by rw[q];simp) with ⟨j,_⟩|⟨c,j⟩
    ·subst j
     rw[ha] at e;cases e
     have d':Data.seq vs.toArray _=Data.dict es ep:=d
     cases d'
    ·have N:=(i c b j).2.1
     rw[N] at e;cases e;cases d
  have l:∀{b:Addr}{m:Str->Option Value},f.heap.Ns b m->(hidT f.heap H).Ns b m:=λ{b m} ⟨o,es,ep,e,d,r⟩=>⟨o,es,ep,g e (T e d),d,r⟩
  have E:K.In (hidT f.heap H):=λb o e=>g (KX b o e) (by
   cases q:H b with
   |none=>rfl
   | some u =>
    rcases B b (by rw[q];simp) with ⟨j,D⟩|⟨c,j⟩
    ·subst j
     rw[D] at e;cases e
    ·rw[(i c b j).2.2] at e;cases e)
  have hM:Mod K mg (hidT f.heap H):=⟨E,l C,⟨mb,l hb,U⟩,let ⟨mc,h1,h2⟩:=J;⟨mc,l h1,h2⟩,by
   obtain⟨Q,R,b1,b2,G,Z,b5⟩:=Y
   refine⟨Q,R,b1,b2,g G ?_,Z,b5⟩
   cases q:H Q with
   |none=>rfl
   | some u =>
    rcases B Q (by rw[q];simp) with ⟨j,_⟩|⟨c,j⟩
    ·subst j
     rw[ha] at G;cases G
     have b6:Value.type "list" = Value.type "module":=Z
     injection b6 with z
     exact absurd z (by decide)
    ·rw[(i c Q j).2.1] at G;cases G;cases Z⟩
  have e0:Env0 P w K mg (hidT f.heap H) callerA [] f H:=⟨rfl,hM,λb o e=>aw3 e,Nat.le_of_eq (arh _ _),trivial,λb hb=>absurd (show b∈([]:List Addr) from hb) (by simp),hT,hok,.of_eq hg⟩
  refine aJ6 ((F _ E (l C)).run callerA [] f H ⟨[.ref a],[]⟩ [.ref a] [.ref a] _ _ hr e0 (A f (.ref a)) (.cons rfl .nil) (W H O X)) λr s' h=>?_
  cases r with
  |error e=>exact(S H e s' h).elim
  | ok fl =>
   cases fl with
   |next=>exact False.elim h
   |brk=>exact False.elim h
   |cont=>exact False.elim h
   | ret u =>
    obtain⟨v,H',os,bare,un,p,r',q⟩:=h
    have q':v=.bl true:=q
    subst q'
    obtain rfl:u=Value.bool true:=r'
    refine⟨rfl,⟨λb o e=>?_,λb o e=>un.there b o e (by simp)⟩,os,bare⟩
    cases q:H b with
    |none=>exact .inl (un.keep b o e q (by intro z;exact absurd (show b∈([]:List Addr) from z) (by simp)) (by simp))
    | some u =>
     rcases O b with z|⟨R,xs,z⟩|⟨gs,z⟩
     ·rw[q] at z;cases z
     ·refine .inl ?_
      have z2:=un.frzs b R _ z
      obtain⟨e1,_⟩:=hok b _ z
      obtain⟨N,_⟩:=p b _ z2
      rw[e] at e1;cases e1
      exact N
     ·obtain⟨m,z2⟩:=un.tbls b gs z
      obtain⟨ps,N,_⟩:=p b _ z2
      rcases B b (by rw[q];simp) with ⟨j,_⟩|⟨c,j⟩
      ·subst j
       obtain⟨a0,M,_⟩:=hok b _ z
       rw[ha] at M;cases M
      ·have M:=(i c b j).2.1
       rw[M] at e;cases e
       refine .inr (.inl ⟨((i c b j).1.tab M).isCodeTable,rfl,#[],ps,rfl,?_⟩)
       rw[N];simp
 cases D:K.lookup a with
 | some o =>
  -- the script is one of the module's own objects
  have e:=KX a o D
  rw[ha] at e
  cases e
  refine y (λ_=>none) (λ_=>.inl rfl) (.inr ⟨_,vs.toArray,_,D,rfl,rfl,rfl,by rw[aB2,I];exact hl,by simpa using rv⟩) (λb u z=>by have L:(none:Option HO)=some u:=z;cases L) (λb z=>absurd rfl z) λz=>absurd rfl z
 | none =>
  refine y (λb=>if b=a then some (.frz { cls:=.type "list",data:=.seq vs.toArray } (.lst (ns.map V.int))) else none) (λb=>?_) (.inl (.inr ⟨{ cls:=.type "list",data:=.seq vs.toArray },aF6 rfl⟩)) (λb u z=>?_) (λb z=>?_) λ_=>D
  ·by_cases hb:b=a
   ·exact .inr ⟨_,_,aF6 hb⟩
   ·exact .inl (aF7 hb)
  ·by_cases hb:b=a
   ·have L:=(aF6 hb).symm.trans z
    cases L
    subst hb
    exact⟨ha,by rw[aA3];exact hl,vs,_,rv,ha⟩
   ·have L:=(aF7 hb).symm.trans z
    cases L
  ·by_cases hb:b=a
   ·exact hb
   ·exact absurd (aF7 hb) z
abbrev KOf{K:Frag}{h:Heap}(_:K.In h):Frag:=K
theorem walk_of{l:PySem.W.OpenLaw}{n k:Nat}{q:Program}{i:List Str}{L:(Str->Option Value)->Heap->Prop}{D:World->Heap->Prop}{d:DefRec}{K:Params->Frag}{CX:World->CXT}{sp:World->Sp}{x:Str}
  (hn:l.most=some n) (y:n<=sizeLine) (z:d.params.defaults=[]) (P:Room k callerA)
  (J:∀(w:World)(h:Heap),D w h->(K w.params).In h)
  (E:∀(w:World)(lo:List Str)(mg mb:Str->Option Value)(m:ExcName->Option Value)(h:Heap),PyProof.Rows.Top q lo m mg mb h->D w h->afb (K w.params) h)
  (F:∀(w:World)(mg:Str->Option Value)(fa:Addr)(h:Heap),(K w.params).In h->h.Ns mainGlobals mg->mg d.name=some (.ref fa) ->
   ∃ fd:FuncData,(∀(s:Shared)(u:Value),BindsTo s fd ⟨[u],[]⟩ [(x,u)]) /\
    ∀ base:Heap,(K w.params).In base->base.Ns mainGlobals mg->FnOk l.prog w (K w.params) mg base (CX w) k fa fd [x] (sp w))
  (B:∀(w:World)(H:Hp)(a:Addr)(ns:List Int),ns.length<=n->Only H->SqL (K w.params) H a (ns.map V.int)->sp w [.ref a] H (λv _=>v=.bl true) λ_ _ _=>False)
  (A:∀(w:World)(H:Hp)(s:Shared)(e:Value)(s':Shared),CX w [] H s (λ_ _ _=>False) e s'->False) :
  PySem.W.WalkO q i L D l.row.toRowW d [] (λf vs=>PySem.call f vs):=by
 refine Att.attach_call hn z λw s₀ p mg mb fa o pm S doc a vs ns G Y U hd R C r j c M=>?_
 have I:=J w _ Y
 obtain⟨fd,hb,Q⟩:=F w mg fa _ I G.T.g C
 exact auc I G.T.g G.T.b G.T.builtins G.T.nolimit M r j (aD0 c y) P (E w _ _ _ _ _ G.T Y) G.T.bmain Q hb (λH O N=>B w H a ns c O N) λH e s'=>A w H p e s'
end L2
/- THE LAST THEOREM (shape; LID, My.* are yours):
  My.Adr: a structure of the addresses that your layer names (classes,functions);My.Txt K t: a structure (Prop) of the equations over K;
  My.txt_mk:{K} {implicit addresses ..} (e1:nsIn K mainGlobals "law" = some (some (.ref f))) (e2:K.lookup f=some ⟨oc,od,.func (fnOf "law" "law" params body scope dV kV doc pm an cdv ct),sl⟩) (e3:codeIn K cdv "law" = true) .. : ∃ t,My.Txt K t
set_option maxRecDepth 100000 in
set_option maxHeartbeats 0 in
theorem PySem.Challenge.cw_LID_holds : PySem.Challenge.rw_LID.Holds := by
 w_on;o_law;k_head;(case hw=>w_witness2)
 k_fill
 refine L2.walk_of (l:=PySem.Challenge.rw_LID) (n:=63) (k:=40) (x:="script") (CX:=λw=>..) (sp:=λ_=>My.sp_law) rfl (by decide) rfl ⟨rfl,by decide,by decide⟩ (λw h Y=>PySem.W.kIn_of Y) ?F ?S ?C
 case F =>
  intro w mg fa h KX G hmg
  have T:∃ t,My.Txt (L2.KOf KX) t:=by
   dsimp only[L2.KOf]                          -- K must stand as «<heap const> w.params» for k_is
   refine' My.txt_mk ?e1 ?e2 ?e3 ..
   (case e1=>PySem.W.k_is)                    -- in the order: a name -> its address -> its object -> its parts
   (case e2=>PySem.W.k_is)
   ..
  obtain⟨t,T⟩:=T
  have e0:=hmg.symm.trans (mg_of KX G T.law)
  cases e0                                       -- fa is the law's own address
  exact⟨_,λs u=>.of_eq rfl,λbase kb nb=>My.law_fn T kb nb⟩     -- if «.of_eq rfl» comes too early: refine'⟨_,?b,λbase kb nb=>My.law_fn T kb nb⟩;exact λs u=>.of_eq rfl
 case S=>exact λw H a ns hl hO hS=>..
 case C=>exact ..
(the tactic k_is has no namespace: write k_is) -/
namespace L2
open PySem PySem.Spec PyProof.Rows
def acf(s:Stmt):Arguments:=match s with
 | .FunctionDef _ a _ _ _ _ _ _ _ _=>a
 |_=>{ posonlyargs:=[],args:=[],vararg:=none,kwonlyargs:=[],kw_defaults:=[],kwarg:=none,defaults:=[] }
def ab1(s:Stmt):List Stmt:=match s with
 | .FunctionDef _ _ b _ _ _ _ _ _ _=>b
 |_=>[]
def aak(s:Stmt):Scope:=match s with
 | .FunctionDef _ _ _ _ _ _ sc _ _ _=>sc
 |_=>{ kind:=.function,names:=[],isGenerator:=false,isCoroutine:=false }
abbrev CX0:CXT:=λ_ _ _ _ _ _=>False
abbrev E0:XK:=λ_ _ _=>False
theorem a16{X:Cx}:alq CX0 X E0:=λ_ _ _ _ _ _ _ h=>h.elim
structure Fun(K:Frag)(x qual:Str)(st:Stmt)(f:Addr)(fd:FuncData):Prop where
 ex:∃(oc:Value)(od:Option Addr)(kV doc pm:Value)(an:Option Addr)(cdv ct:Value)(osl:Array (Option Value)),
  fd=fnOf x qual (acf st) (ab1 st) (aak st) .none kV doc pm an cdv ct/\K.lookup f=some ⟨oc,od,.func fd,osl⟩/\codeIn K cdv qual=true
 kp:keepIn K (.ref f)=true
section
variable{P:Program}{w:World}{K:Frag}{mg:Str->Option Value}{base:Heap}
theorem Fun.ok{x qual:Str}{st:Stmt}{f:Addr}{fd:FuncData}{N ps:List Str}{k:Nat}{sp:Sp}(F:Fun K x qual st f fd)(S:FnScope N ps (aak st))(len:∀ vs H Q E,sp vs H Q E->vs.length=ps.length)
  (a:∀(cdv:Value)(A:Around)(outer:List Env)(s:Shared)(H:Hp)(vs:List V)(Q:VK)(E:XK),Room k (A.deeper (envOfC qual (aak st) s.heap.objs.size f cdv))->sp vs H Q E ->
   ∃ t,PSs (cxOf CX0 P w K mg base N qual (aak st) f cdv A outer s H E).nox (ab1 st) t/\t { nx:=λ_ H'=>Q .non H',rt:=Q } (start N vs) H):FnOk P w K mg base CX0 (k+1) f fd ps sp:=by
 obtain⟨oc,od,kV,doc,pm,an,cdv,ct,osl,rfl,g,c⟩:=F.ex
 refine awj g c S len λA outer s H vs Q E d b=>?_
 obtain⟨t,h,q⟩:=a cdv A outer s H vs Q E d b
 exact⟨t,h.nox,q⟩
theorem Fun.binds{x qual:Str}{st:Stmt}{f:Addr}{fd:FuncData}{ps:List Str}(F:Fun K x qual st f fd)
  (h:∀(kV doc pm:Value)(an:Option Addr)(cdv ct:Value)(us:List Value),us.length=ps.length->bindArgs (fnOf x qual (acf st) (ab1 st) (aak st) .none kV doc pm an cdv ct) ⟨us,[]⟩=pure (ps.zip us)):Binds K fd ps []:=by
 obtain⟨oc,od,kV,doc,pm,an,cdv,ct,osl,rfl,b,a⟩:=F.ex
 exact .all (h kV doc pm an cdv ct)
theorem az3{x qual:Str}{st:Stmt}{f:Addr}{oc:Value}{od an:Option Addr}{osl:Array (Option Value)}{kV doc pm cdv ct:Value}(l:K.lookup f=some ⟨oc,od,.func (fnOf x qual (acf st) (ab1 st) (aak st) .none kV doc pm an cdv ct),osl⟩)
  (c:codeIn K cdv qual=true) (k:keepIn K (.ref f)=true):Fun K x qual st f (fnOf x qual (acf st) (ab1 st) (aak st) .none kV doc pm an cdv ct):=⟨⟨oc,od,kV,doc,pm,an,cdv,ct,osl,rfl,l,c⟩,k⟩
end
theorem alb{A:Around}{k:Nat}(a:Room k A):A.units+1<cLine:=aE4 (Nat.add_le_add_left (by decide:1<=64) _) a.units
theorem aeu{n:Nat}(h:n<=1000):n<sizeLine:=aE4 h (by decide)
section
variable{X:Cx}
theorem pv(i:Nat){x:Str}{pos:Pos}(b:X.N[i]?=some x:=by rfl)(c:Vis X.env.scope x:=by first|exact Or.inl rfl|exact Or.inr (Or.inl rfl)|exact Or.inr (Or.inr rfl))(hd:(x == ("__debug__" : Str))=false:=by decide)
  (a:(x == ("__classdict__" : Str))=false:=by decide):PE X (.Name x pos) (tVar i):=azp b c hd a
end
theorem iteF{A B:Prop}(h:B):if false=true then A else B:=by
 rw[aF7 aB0]
 exact h
theorem iteT{A B:Prop}(h:A):if true=true then A else B:=by
 rw[aF6 rfl]
 exact h
def Same(H H':Hp):Prop:=∀ b o,H b=some o->H' b=some o
theorem Same.refl(H:Hp):Same H H:=λ_ _ h=>h
theorem Same.trans{H d H2:Hp}(a:Same H d)(b:Same d H2):Same H H2:=λc o h=>b c o (a c o h)
theorem Same.seq{K:Frag}{H H':Hp}{a:Addr}{xs:List V}(e:Same H H')(h:SqL K H a xs):SqL K H' a xs:=by
 rcases h with (h|⟨o,h⟩)|h
 ·exact .inl (.inl (e _ _ h))
 ·exact .inl (.inr ⟨o,e _ _ h⟩)
 ·exact .inr h
section
variable{X:Cx}
end
section
variable{κ:Type} [DecidableEq κ]
end
def clos(env:Env):List (Str × NameKind)->List (Str × Addr)->List (Str × Addr)
 |[],cs=>cs
 |(n,k)::r,cs=>if k == NameKind.free then (match env.cells.lookup n with|some a=>clos env r ((n,a)::cs)|none=>clos env r cs) else clos env r cs
theorem ah6{env:Env}{sc:Scope}(h:∀ n,(n,NameKind.free)∈sc.names->∃ a,env.cells.lookup n=some a):closureFor sc env=pure (clos env sc.names []):=by
 have all:∀(l:List (Str × NameKind))(cs:List (Str × Addr)),(∀ n,(n,NameKind.free)∈l->∃ a,env.cells.lookup n=some a) ->
   (forIn l cs λ(x:Str × NameKind)(cs:List (Str × Addr))=>match x with|(name,kind)=>if kind == NameKind.free then (do let a ← cellOf env name;pure (ForInStep.yield ((name,a)::cs))) else pure (ForInStep.yield cs))=(pure (clos env l cs):Sem _):=by
  intro l
  induction l with
  |nil=>intro cs _;rfl
  | cons p r ih =>
   intro cs c
   obtain⟨n,k⟩:=p
   rw[List.forIn_cons]
   unfold clos
   dsimp only
   cases hk:(k == NameKind.free) with
   | false =>
    simp only[Bool.false_eq_true,if_false,pure_bind]
    exact ih cs λm hm=>c m (aB5 _ hm)
   | true =>
    have f:k=NameKind.free:=by simpa using hk
    subst f
    obtain⟨a,ha⟩:=c n aB8
    have d:cellOf env n=pure a:=by unfold cellOf;rw[ha]
    simp only[if_true,d,pure_bind,ha]
    exact ih _ λm hm=>c m (aB5 _ hm)
 have e:=all sc.names [] h
 unfold closureFor
 refine Eq.trans (b:=(pure (clos env sc.names []):Sem _) >>= λcs=>pure cs) ?_ (pure_bind _ _)
 exact congrArg (λz:Sem (List (Str × Addr))=>z >>= λcs=>pure cs) e
theorem aev{env:Env}{x:Str}{c:Addr}:∀{l:List (Str × NameKind)}{cs:List (Str × Addr)},(clos env l cs).lookup x=some c->env.cells.lookup x=some c\/cs.lookup x=some c
 |[],cs,h=>.inr h
 | (n,k)::r,cs,h=>by
  unfold clos at h
  by_cases hk:(k == NameKind.free)=true
  ·rw [aF6 hk] at h
   cases ha:env.cells.lookup n with
   |none=>rw[ha] at h;exact aev h
   | some a =>
    rw[ha] at h
    rcases aev h with e|e
    ·exact .inl e
    ·rw[aH0] at e
     cases hx:(x == n) with
     | true =>
      rw[hx] at e
      have:x=n:=by simpa using hx
      subst this
      cases e
      exact .inl ha
     |false=>rw[hx] at e;exact .inr e
  ·rw[aF7 hk] at h
   exact aev h
theorem aew{env:Env}{x:Str}:∀{l:List (Str × NameKind)}{cs:List (Str × Addr)},(∃ c,cs.lookup x=some c)->∃ c,(clos env l cs).lookup x=some c
 |[],cs,h=>h
 | (n,k)::r,cs,h=>by
  unfold clos
  by_cases hk:(k == NameKind.free)=true
  ·rw[aF6 hk]
   cases ha:env.cells.lookup n with
   |none=>exact aew h
   | some a =>
    refine aew ?_
    rw[aH0]
    cases hx:(x == n) with
    |true=>exact⟨_,rfl⟩
    |false=>exact h
  ·rw[aF7 hk]
   exact aew h
theorem ael{env:Env}{x:Str}(h:∃ a,env.cells.lookup x=some a):∀{l:List (Str × NameKind)}{cs:List (Str × Addr)},(x,NameKind.free)∈l->∃ c,(clos env l cs).lookup x=some c
 |[],_,hm=>absurd hm (by simp)
 | (n,k)::r,cs,hm=>by
  rcases aA9.mp hm with e|hm
  ·cases e
   obtain⟨a,ha⟩:=h
   unfold clos
   rw[aF6 (by rfl),ha]
   refine aew ⟨a,?_⟩
   rw[aH0]
   simp
  ·unfold clos
   by_cases hk:(k == NameKind.free)=true
   ·rw[aF6 hk]
    cases ha:env.cells.lookup n with
    |none=>exact ael h hm
    |some a=>exact ael h hm
   ·rw[aF7 hk]
    exact ael h hm
theorem af8{env:Env}{x:Str}:∀{names:List (Str × NameKind)},(∀ y∈names,y.2 ≠ .cell) ->
  ((names.map λ(n,k)=>if (k == NameKind.free && env.scope.kind == .function && env.kindOf n == some .cell) then (n,NameKind.cell) else (n,k)).lookup x=some .cell ∨
   (names.map λ(n,k)=>if (k == NameKind.free && env.scope.kind == .function && env.kindOf n == some .cell) then (n,NameKind.cell) else (n,k)).lookup x=some .free)->names.lookup x=some .free
 |[],_,h=>by rcases h with h|h <;> simp at h
 | (n,k)::r,hc,h=>by
  have a:=@af8 env x r λy b=>hc y (aB5 _ b)
  rw[aH0]
  simp only[aD1] at h
  by_cases hq:(k == NameKind.free && env.scope.kind == .function && env.kindOf n == some .cell)=true
  ·rw[aF6 hq] at h
   have c:k=NameKind.free:=by
    have:=hq;simp only[aH2] at this;simpa using this.1.1
   subst c
   cases hx:(x == n) with
   |true=>rfl
   |false=>simp only[aH0,hx] at h;exact a h
  ·rw[aF7 hq] at h
   cases hx:(x == n) with
   | true =>
    simp only[aH0,hx] at h
    rcases h with h|h
    ·cases h;exact absurd rfl (hc (n,NameKind.cell) aB8)
    ·exact h
   |false=>simp only[aH0,hx] at h;exact a h
theorem aex{env:Env}{x:Str}:∀{names:List (Str × NameKind)},names.lookup x=some .free ->
  ((names.map λ(n,k)=>if (k == NameKind.free && env.scope.kind == .function && env.kindOf n == some .cell) then (n,NameKind.cell) else (n,k)).lookup x=some .cell ∨
   (names.map λ(n,k)=>if (k == NameKind.free && env.scope.kind == .function && env.kindOf n == some .cell) then (n,NameKind.cell) else (n,k)).lookup x=some .free)
 |[],h=>by simp at h
 | (n,k)::r,h=>by
  have a:=@aex env x r
  rw[aH0] at h
  simp only[aD1]
  by_cases hq:(k == NameKind.free && env.scope.kind == .function && env.kindOf n == some .cell)=true
  ·rw[aF6 hq]
   cases hx:(x == n) with
   |true=>left;simp[aH0,hx]
   |false=>rw[hx] at h;simp only[aH0,hx];exact a h
  ·rw[aF7 hq]
   cases hx:(x == n) with
   |true=>rw[hx] at h;right;simp only[aH0,hx];exact h
   |false=>rw[hx] at h;simp only[aH0,hx];exact a h
def Cx.comp(X:Cx)(N:List Str)(sc:Scope)(C:Addr)(s0:Shared)(H0:Hp)(ex:List Addr):Cx where
 prog:=X.prog
 w:=X.w
 K:=X.K
 mg:=X.mg
 base:=X.base
 A:=X.A
 N:=N
 s₀:=s0
 H₀:=H0
 env:=compEnvC sc (clos X.env sc.names []) C X.env
 outer:=X.stack
 stack:=X.stack
 ex:=ex
 fn:=λ_=>false
 calm:=X.calm
 pn:=[]
 xe:=λ_ _=>False
def pick(src:List (Option Nat))(σ:St):St:=src.map λo=>match o with|some j=>(σ[j]?).getD none|none=>none
structure LcOk(X:Cx)(N:List Str)(sc:Scope)(src:List (Option Nat)):Prop where
 kind:sc.kind=.function
 nocell:∀ y∈sc.names,y.2 ≠ .cell
 own:∀ y∈sc.names,y.2=.local->sc.names.lookup y.1=some .local
 outs:∀ y∈sc.names,y.2=.free->X.env.kindOf y.1=some .cell\/X.env.kindOf y.1=some .free
 len:src.length=N.length
 from':∀(i j:Nat),src[i]?=some (some j)->∃ x,N[i]?=some x/\X.N[j]?=some x/\sc.names.lookup x=some .free
theorem LcOk.clo{X:Cx}{N:List Str}{sc:Scope}{src:List (Option Nat)}(L:LcOk X N sc src)(ok:X.Ok):closureFor sc X.env=pure (clos X.env sc.names []) :=
 ah6 λn hn=>ok.has n (L.outs (n,.free) hn rfl)
theorem al1{X:Cx}{pins:List (Addr × Obj)}{σ:St}{H:Hp}{s:Shared}{N:List Str}{sc:Scope}{src:List (Option Nat)}{fp:List Addr}{n:Heap}{t':Nat}
  (L:LcOk X N sc src) (I:Inv X pins σ H s) (hf:∀ b∈fp,FpOk X pins H b) (g:∀ b∈fp,b<s.heap.objs.size)
  (hn:n.Ns s.heap.objs.size λ_=>none) (f:∀ b o,s.heap.get? b=some o->n.get? b=some o) :
  Inv (X.comp N sc s.heap.objs.size s H fp) [] (pick src σ) H { s with heap:=n,toks:=t' }:=by
 have look:∀{x c},(clos X.env sc.names []).lookup x=some c->X.env.cells.lookup x=some c:=λ{x c} e=>by
  rcases aev e with z|z
  ·exact z
  ·simp at z
 refine⟨⟨I.ok.mod,L.kind,I.ok.glob,I.ok.blt,aA6 _,λx y c h a=>?_,λx K=>?_,λx c z _=>?_,I.ok.hd,I.ok.frames,.inl rfl,λb hb=>⟨?_,λx c e=>?_⟩,I.bs,aD0 I.ok.bsz I.sz,λb o e hb=>?_,λb hb z=>?_,I.stack,I.stkFree,I.tab⟩,
  rfl,I.bare,Un.kept f,⟨_,hn,λi x v h a Q=>?_⟩,λx c e=>?_,I.hok.fresh (aA6 _),λx c e=>I.freeC x c (look e),λp J=>?_,I.hok.kept f,?_⟩
 ·exact I.ok.inj x y c (look h) (look a)
 ·have q:=af8 (env:=X.env) (x:=x) L.nocell K
  exact ael (I.ok.has x (L.outs (x,.free) (PySem.mem_of_lookup q) rfl)) (PySem.mem_of_lookup q)
 ·exact Bool.noConfusion z
 ·exact aB6 (g b hb)
 ·exact(hf b hb).2.2.2.2.1 x c (look e)
 ·rcases(hf b hb).2.2.2.1 with z|z
  ·exact I.ok.noex b o e z
  ·exact absurd (aC5 (aJ4 e) (aD0 I.ok.bsz z)) (aG5 _)
 ·rcases aA9.mp (I.stkSub b z) with q|q
  ·exact(hf b hb).2.1 q
  ·exact(hf b hb).2.2.1 q
 ·unfold pick at a
  rw[aA5] at a
  cases q:src[i]? with
  |none=>rw[q] at a;cases a
  | some o =>
   rw[q] at a
   cases o with
   |none=>cases a
   | some j =>
    obtain⟨y,F,G,A⟩:=L.from' i j q
    have w:N[i]?=some x:=h
    rw[w] at F
    cases F
    have O : σ[j]?=some (some v):=by
     cases q2 : σ[j]? with
     |none=>simp[q2] at a
     |some z=>simp[q2] at a;rw[a]
    have g:=L.outs (x,.free) (PySem.mem_of_lookup A) rfl
    have B:Vis X.env.scope x:=by
     rcases g with z|z
     ·exact .inr (.inl z)
     ·exact .inr (.inr z)
    obtain⟨m,_,M⟩:=I.loc
    obtain⟨u,r,l⟩:=M j x v G O B
    refine⟨u,r,.inr ⟨?_,?_⟩⟩
    ·exact aex (env:=X.env) A
    ·rcases l with ⟨z,_⟩|⟨_,c,C,oc,d,hd⟩
     ·rcases g with D|D <;> (rw[D] at z;cases z)
     ·obtain⟨P,E⟩:=ael (env:=X.env) ⟨c,C⟩ (PySem.mem_of_lookup A) (cs:=[])
      have:=look E
      rw[C] at this;cases this
      exact⟨c,E,oc,f c oc d,hd⟩
 ·obtain⟨v,oc,d,hd⟩:=I.cell x c (look e)
  exact⟨v,oc,f c oc d,hd⟩
 ·exact absurd (show p∈([]:List (Addr × Obj)) from J) (by simp)
 ·show(pick src σ).length=N.length
  unfold pick
  rw[aA3]
  exact L.len
def PIf(X:Cx)(ifs:List Expr)(t:TT):Prop :=
 ∀(pins:List (Addr × Obj))(s:Shared)(σ:St)(H:Hp)(Q:Bool->Hp->Prop),Inv X pins σ H s->t σ H Q ->
  wpAny (model X.prog X.w) X.A (forIn ifs true λc r=>if r=true then do let ok ← isTrue c X.env (eval c X.env);pure (ForInStep.yield ok) else pure (ForInStep.yield r)) (TP X pins σ Q) X.xe s
def tYes:TT:=λ_ H Q=>Q true H
theorem abc{X:Cx}:PIf X [] tYes:=λ_ _ _ H _ I h=>wpAny_tests_nil ⟨H,I,h⟩
theorem aor{X:Cx}{c:Expr}{t:TT}(h:PT X c t):PIf X [c] t:=λpins s σ H Q I q=>wpAny_tests_one (h pins s σ H Q I q)
abbrev LW:=Nat->Nat->List V->St->Hp->Prop
def al2(J:It)(g:TG)(tif:TT)(te:TE)(acc:Addr)(Qd:List V->Hp->Prop)(W:LW):Prop:=∀(i m:Nat)(ys:List V)(σ:St)(H:Hp),W i m ys σ H->H acc=some (.lst ys)/\((J.stop i H/\Qd ys H)\/(J.go i H /\
 ∃ Nx:List V->St->Hp->Prop,(∀ ys' σ' H',Nx ys' σ' H'->∃ m',m'<m/\W (i+1) m' ys' σ' H')/\∀ x H2,J.yld i H x H2 ->
 g x σ H2 λσ3 H3=>tif σ3 H3 λb H4=>if b=true then te σ3 H4 λy H5=>H5 acc=some (.lst ys)/\ys.length<sizeLine/\Nx (ys++[y]) σ3 (upd H5 acc (.lst (ys++[y]))) else Nx ys σ3 H4))
theorem arz{X:Cx}{tg iter v:Expr}{B:List Expr}{sc:Scope}{pos:Pos}{J:It}{fp:List Addr}{it:Addr}{tn:Nat->Heap->Prop}{g:TG}{G:TT}{te:TE}{a:Addr}{Qd:List V->Hp->Prop}{W:LW}{R:Result->Shared->Prop}
  (T:Turn X.prog X.w X.K tg J fp it tn) (hc:X.calm=true) (j:∀ e s,¬ X.xe e s) (hg:PG X tg g) (Y:PIf X B G) (he:PE X v te)
  (E:al2 J g G te a Qd W) (hR:∀ ys σ H s,Inv X [] σ H s->Qd ys H->R (.ok .next) s)
  {i m:Nat} {ys:List V} {σ:St} {H:Hp} {s:Shared} (I:Inv X [] σ H s) (st:tn i s.heap) (hf:∀ b∈fp,FpOk X [] H b) (w:W i m ys σ H) :
  codeAny (model X.prog X.w) X.A (.compLoop (.ListComp v [⟨tg,iter,B,0⟩] sc pos) 0 (.ref it) (.ref a) X.env) R s:=by
 have h:∀{H':Hp},(∀ b∈fp,H' b=none)->∀ b∈fp,FpOk X [] H' b:=λhn b hb=>⟨hn b hb,(hf b hb).2⟩
 refine codeAny_loop rfl (λn s'=>∃ i ys c H',Inv X [] c H' s'/\tn i s'.heap/\(∀ b∈fp,H' b=none)/\W i n ys c H') ?_ m ⟨i,ys,σ,H,I,st,λb hb=>(hf b hb).1,w⟩
 rintro n s1 ⟨i,ys,f,S,I1,F,O,w1⟩
 show wpAny _ X.A ((compTurn (.ListComp v [⟨tg,iter,B,0⟩] sc pos) 0 (.ref it) (.ref a) X.env).onRaise (λx=>do noteFrame x X.env;theTreesLotGoes x)) _ _ s1
 refine wpAny_noted ?_
 rw[compTurn_list]
 refine aJ1 (wpAny_standAt (aJ1 ?_))
 obtain⟨a1,⟨stop,qd⟩|⟨go,Nx,N,step⟩⟩:=E i n ys f S w1
 ·refine thn (T.done X rfl rfl rfl hc i [] s1 f S _ I1 (h O) F stop) λr s2 ⟨hr,I2⟩=>?_
  subst hr
  exact aJ2 (hR ys f S s2 I2 qd)
 ·refine thn (T.item X rfl rfl rfl hc i [] s1 f S _ I1 (h O) F go) λr s2 ⟨u,hr,h2⟩=>?_
  subst hr
  refine aJ1 (thn h2 λ_ s3 ⟨x,H3,I3,r3,y3,C,a0⟩=>?_)
  have Z:=I3.pinned (h a0) (T.obj _ _ C)
  refine aJ1 (aK0 (hg _ s3 f H3 x u _ Z r3 (step x H3 y3)) (λ_ s4 ⟨q,H4,I4,q4⟩=>?_) λe s' z=>(j e s' z).elim)
  have p:∀{l:St}{L:Hp}{D:Shared}{zs:List V},Inv X ([]++aej fp s3.heap) l L D->(∃ Q,Q<n/\W (i+1) Q zs l L)->∃ m,m<n/\∃ i ys c H',Inv X [] c H' D/\tn i D.heap/\(∀ b∈fp,H' b=none)/\W i m ys c H':=λ{l L D zs} M U=>by
   obtain⟨Q,hm,U⟩:=U
   refine⟨Q,hm,i+1,zs,l,L,M.unpinned,T.keep _ _ _ C λb hb o e=>(M.pin (b,o) (aB3 _ (aB3 _ (ab6 hb e)))).1,λb hb=>?_,U⟩
   obtain⟨o,e,d⟩:=T.obj _ _ C b hb
   exact(M.pin (b,o) (aB3 _ (aB3 _ (ab6 hb e)))).2.1
  refine aJ1 (aK0 (Y _ s4 q H4 _ I4 q4) (λb s5 ⟨H5,I5,P⟩=>?_) λe s' z=>(j e s' z).elim)
  cases b with
  | false =>
   rw[aF7 aB0] at P
   exact aJ2 ⟨rfl,p I5 (N _ _ _ P)⟩
  | true =>
   rw[aF6 rfl] at P
   refine aJ1 (aJ1 (aK0 (he _ s5 q H5 _ I5 P) (λyv s6 ⟨y,H6,I6,r6,a6,l6,w6⟩=>?_) λe s' z=>(j e s' z).elim))
   have ap:=abk (X:=X) _ s6 q H6 (.ref a) [y] (.ref a) [yv] (λ_ H'=>H'=upd H6 a (.lst (ys++[y]))) I6 rfl (.cons r6 .nil) ⟨a,ys,y,rfl,rfl,a6,l6,rfl⟩
   refine aJ1 (aK0 ap (λ_ D ⟨v7,L,M,_,e7⟩=>?_) λe s' z=>(j e s' z).elim)
   subst e7
   exact aJ2 (aJ2 ⟨rfl,p M (N _ _ _ w6)⟩)
def tLC(src:List (Option Nat))(wi:TI)(g:TG)(tif:TT)(te:TE):TE:=λσ H Q=>wi σ H λJ H1=>∀ acc,H1 acc=none->∃ W:LW,(∃ m,W 0 m [] (pick src σ) (upd H1 acc (.lst [])))/\al2 J g tif te acc (λ_ H'=>Q (.ref acc) H') W
section
variable{X:Cx}{N:List Str}{tg iter elt:Expr}{ifs:List Expr}{sc:Scope}{src:List (Option Nat)}{wi:TI}{g:TG}{tif:TT}{te:TE}{pos:Pos}
theorem aw9(hc:X.calm=true)(L:LcOk X N sc src)(hg:∀ C B n ex,PG (X.comp N sc C B n ex) tg g)(H:∀ C B n ex,PIf (X.comp N sc C B n ex) ifs tif)(S:∀ C B n ex,PE (X.comp N sc C B n ex) elt te)
  {pins:List (Addr × Obj)} {d:Shared} {σ:St} {H3:Hp} {Q:VK} (h:Inv X pins σ H3 d) {it a:Addr} {fp:List Addr} {J:It} {tn:Nat->Heap->Prop} (T:Turn X.prog X.w X.K tg J fp it tn) (u:tn 0 d.heap) (j:∀ b∈fp,FpOk X pins H3 b)
  {W:LW} {m0:Nat} (w0:W 0 m0 [] (pick src σ) H3) (r:al2 J g tif te a (λ_ H'=>Q (.ref a) H') W) (use:Option (Value->Sem Unit)) (P:Value->Shared->Prop)
  (U:∀ C H' s' m,Inv X pins σ H' s'->Q (.ref a) H'->s'.heap.Ns C m->H' C=none->C ≠ X.env.locals->(C∈X.ex\/X.s₀.heap.objs.size<=C)->(∀ x c,X.env.cells.lookup x=some c->c ≠ C)->(∀ p∈X.pn++pins,p.1 ≠ C) ->
   compPost (model X.prog X.w) X.A X.xe use P (.ref a) C (.ok .next) s') :
  wpAny (model X.prog X.w) X.A (newFunctionEnv sc X.env.globals (clos X.env sc.names []) [] X.env.qual none .none (some X.env)) (λf s =>
    codeAny (model X.prog X.w) X.A (.compStart (.ListComp elt [⟨tg,iter,ifs,0⟩] sc pos) 0 (.ref it) (.ref a) { f with scope:=relabel sc X.env }) (compPost (model X.prog X.w) X.A X.xe use P (.ref a) f.locals) s) X.xe d:=by
 refine wpAny_newFunctionEnv L.nocell (by intro y Z;simp at Z) (λM l F=>?_) L.kind
 have O:∀ b∈fp,b<d.heap.objs.size:=λb hb=>by
  obtain⟨o,R,_⟩:=T.obj _ _ u b hb
  exact aJ4 R
 have E:∀ b o,d.heap.get? b=some o->M.get? b=some o:=λb o e=>F.extBut b o (aB6 (aJ4 e)) (aJ3 _ e)
 have G:=al1 (t':=d.toks+([]:List (Str × Value)).length) L h j O (by simpa using l) E
 have D:tn 0 M:=T.keep _ _ _ u λb _ o e=>E b o e
 have f4:∀ b∈fp,FpOk (X.comp N sc d.heap.objs.size d H3 fp) [] H3 b:=λb hb =>
  ⟨(j b hb).1,(G.ok.exf b hb).1,G.ok.exfs b hb,.inl hb,(G.ok.exf b hb).2,λp I=>absurd (show p∈([]:List (Addr × Obj)) from I) (by simp)⟩
 have fin:∀(ys:List V) q H' s',Inv (X.comp N sc d.heap.objs.size d H3 fp) [] q H' s'->Q (.ref a) H'->compPost (model X.prog X.w) X.A X.xe use P (.ref a) d.heap.objs.size (.ok .next) s':=λys q H' s' i Y=>by
  have Jo:Inv X pins σ H' s':=h.call' (ch:=fp) i.os i.base i.hok i.bare λb hb=>⟨(j b hb).2.2.2.1,(j b hb).2.1,(j b hb).2.2.2.2.1,(j b hb).2.2.2.2.2⟩
  obtain⟨m,hn,_⟩:=i.loc
  refine U _ H' s' m Jo Y hn i.free (Nat.ne_of_gt h.lt) (.inr h.sz) (λx c e z=>?_) λp I z=>?_
  ·obtain⟨v,o,R,_⟩:=h.cell x c e
   exact absurd (aJ4 R) (by rw[z];exact aG5 _)
  ·exact absurd (aJ4 (h.pin p I).1) (by rw[z];exact aG5 _)
 have loop:codeAny (model X.prog X.w) X.A (.compLoop (.ListComp elt [⟨tg,iter,ifs,0⟩] sc pos) 0 (.ref it) (.ref a) (X.comp N sc d.heap.objs.size d H3 fp).env)
   (compPost (model X.prog X.w) X.A X.xe use P (.ref a) d.heap.objs.size) { d with heap:=M,toks:=d.toks+([]:List (Str × Value)).length } :=
  arz (X:=X.comp N sc d.heap.objs.size d H3 fp) T hc (λ_ _ z=>z) (hg _ _ _ _) (H _ _ _ _) (S _ _ _ _) r fin G D f4 w0
 exact codeAny_compStart_list loop (T.self _ 0 _ _ _ D loop)
theorem al3(D:X.calm=true)(L:LcOk X N sc src)(hi:PI X tg iter wi)(G:∀ C d f ex,PG (X.comp N sc C d f ex) tg g)(n:∀ C d f ex,PIf (X.comp N sc C d f ex) ifs tif)(B:∀ C d f ex,PE (X.comp N sc C d f ex) elt te)
  {pins:List (Addr × Obj)} {s:Shared} {σ:St} {H:Hp} {Q:VK} (I:Inv X pins σ H s) (h:tLC src wi g tif te σ H Q) (use:Option (Value->Sem Unit)) (P:Value->Shared->Prop)
  (E:∀ j C H' s' m,Inv X pins σ H' s'->Q (.ref j) H'->s'.heap.Ns C m->H' C=none->C ≠ X.env.locals->(C∈X.ex\/X.s₀.heap.objs.size<=C)->(∀ x c,X.env.cells.lookup x=some c->c ≠ C)->(∀ p∈X.pn++pins,p.1 ≠ C) ->
   compPost (model X.prog X.w) X.A X.xe use P (.ref j) C (.ok .next) s')
  (hs:∀ x,foldedSetIterable iter X.env x=pure x) :
  wpAny (model X.prog X.w) X.A (comprehension (.ListComp elt [⟨tg,iter,ifs,0⟩] sc pos) sc X.env (firstIterPos [⟨tg,iter,ifs,0⟩] pos) (newList []) false (eval iter X.env) use) P X.xe s:=by
 refine wpAny_comprehension_free rfl hs (L.clo I.ok) L.kind L.own (thn (hi pins s σ H _ I h) λv s1 M=>thn M λz s2 F=>?_)
 obtain⟨it,fp,tn,J,H2,e,r,T,i,y,O⟩:=F
 subst e
 have l:H2 s2.heap.objs.size=none:=r.hok.fresh (aA6 _)
 obtain⟨W,⟨S,K⟩,a⟩:=O s2.heap.objs.size l
 have q:∀ b∈fp,b<s2.heap.objs.size:=λb hb=>by
  obtain⟨o,R,_⟩:=T.obj _ _ i b hb
  exact aJ4 R
 refine aK1 ?_
 refine aw9 D L G n B (H3:=upd H2 s2.heap.objs.size (.lst [])) ?_ T ?_ ?_ K a use P (E _)
 ·exact r.laid (t':=s2.toks) (λb u e=>aJ3 _ e) (aA6 _) ⟨aG1 _,[],0,.nil,aJ5 _ rfl⟩
 ·exact T.keep _ _ _ i λb _ o e=>aJ3 _ e
 ·exact λb hb=>⟨by rw[aaf (aB6 (q b hb))];exact(y b hb).1,(y b hb).2⟩
theorem adb(n:X.calm=true)(L:LcOk X N sc src)(hi:PI X tg iter wi)(u:∀ C a c ex,PG (X.comp N sc C a c ex) tg g)(d:∀ C a c ex,PIf (X.comp N sc C a c ex) ifs tif)(j:∀ C a c ex,PE (X.comp N sc C a c ex) elt te)
  (hs:∀ x,foldedSetIterable iter X.env x=pure x:=by intro _;rfl):PE X (.ListComp elt [⟨tg,iter,ifs,0⟩] sc pos) (tLC src wi g tif te):=by
 intro pins s σ H Q I h
 rw[eval_ListComp]
 refine al3 n L hi u d j I h none _ (λi C H' s' m J q hn v l r f p=>?_) hs
 refine⟨m,hn,λh' sb=>⟨.ref i,H',?_,rfl,q⟩⟩
 exact J.turned (t':=s'.toks) (λb o hb e=>sb.extBut b o hb e) v l r f p
end
section
variable{X:Cx}{N:List Str}{tg iter elt:Expr}{ifs:List Expr}{sc:Scope}{src:List (Option Nat)}{wi:TI}{g:TG}{tif:TT}{te:TE}{pos spos px:Pos}
theorem afh{i:Nat}{x:Str}(E:X.N.Nodup)(w:X.N[i]?=some x)(O:Loc X.env.scope x)(G:X.calm=true)(L:LcOk X N sc src)(hi:PI X tg iter wi)(M:∀ C c f ex,PG (X.comp N sc C c f ex) tg g)
  (l:∀ C c f ex,PIf (X.comp N sc C c f ex) ifs tif) (F:∀ C c f ex,PE (X.comp N sc C c f ex) elt te)
  (p:swapsWith (.ListComp elt [⟨tg,iter,ifs,0⟩] sc pos) (some (.Name x px)) spos.line X.env=pure true:=by rfl)
  (hf:X.fn x=true\/X.env.scope.names.lookup x=some .local:=by first|exact .inl rfl|exact .inr rfl|assumption)
  (hs:∀ x,foldedSetIterable iter X.env x=pure x:=by intro _;rfl):PS X (.Assign [.Name x px] (.ListComp elt [⟨tg,iter,ifs,0⟩] sc pos) spos) (tAsg (tLC src wi g tif te) (aar i)):=by
 intro pins s σ H D I h
 rw[exec_Assign_Name_used _ _ _ _ p]
 refine aJ1 (wpAny_standAt (aJ1 ?_))
 show wpAny _ X.A (do let _ ← comprehension (.ListComp elt [⟨tg,iter,ifs,0⟩] sc pos) sc X.env _ (newList []) false (eval iter X.env) (some (assign (.Name x px) X.env))) _ _ s
 refine aJ1 (aK0 (al3 G L hi M l F I h (some (assign (.Name x px) X.env)) (λ_ s'=>SP X pins D .next s') (λj C H' s' m J q hn P y n d K=>?_) hs) (λ_ s' Q=>aJ2 (aJ2 Q)) λ_ _ e=>e)
 show wpAny _ X.A (assign (.Name x px) X.env (.ref j)) _ _ _
 refine wpAny_assign_Name (aju J E w O (v:=.ref j) rfl (λs2 B ⟨a,sb,ha⟩=>?_) hf)
 have r:C ≠ a:=by
  rcases ha with z|z
  ·rw[z];exact y
  ·exact(d x a z).symm
 refine⟨m,hn.sameBut sb r,λh' u=>⟨_,H',?_,q⟩⟩
 exact B.turned (t':=s2.toks) (λb o hb e=>u.extBut b o hb e) P y n d K
end
section
variable{g:TG}{tif:TT}{te:TE}{acc:Addr}{Qd:List V->Hp->Prop}{σ0:St}{H0:Hp}
end
def aos(J:It)(g:TG)(tif:TT)(te:TE)(acc:Addr)(Qd:List V->St->Hp->Prop)(W:LW):Prop:=∀(i m:Nat)(ys:List V)(σ:St)(H:Hp),W i m ys σ H->H acc=some (.lst ys)/\((J.stop i H/\Qd ys σ H)\/(J.go i H /\
 ∃ Nx:List V->St->Hp->Prop,(∀ ys' σ' H',Nx ys' σ' H'->∃ m',m'<m/\W (i+1) m' ys' σ' H')/\∀ x H2,J.yld i H x H2 ->
 g x σ H2 λσ3 H3=>tif σ3 H3 λb H4=>if b=true then te σ3 H4 λy H5=>H5 acc=some (.lst ys)/\ys.length<sizeLine/\Nx (ys++[y]) σ3 (upd H5 acc (.lst (ys++[y]))) else Nx ys σ3 H4))
def ai4(J:It)(g:TG)(tif:TT)(wi2:TI)(g2:TG)(tif2:TT)(te:TE)(acc:Addr)(Qd:List V->Hp->Prop)(W:LW):Prop:=∀(i m:Nat)(ys:List V)(σ:St)(H:Hp),W i m ys σ H->((J.stop i H/\Qd ys H)\/(J.go i H /\
 ∃ Nx:List V->St->Hp->Prop,(∀ ys' σ' H',Nx ys' σ' H'->∃ m',m'<m/\W (i+1) m' ys' σ' H')/\∀ x H2,J.yld i H x H2 ->
 g x σ H2 λσ3 H3=>tif σ3 H3 λb H4=>if b=true then wi2 σ3 H4 λJ2 H5=>∃ W2:LW,(∃ m2,W2 0 m2 ys σ3 H5)/\aos J2 g2 tif2 te acc Nx W2 else Nx ys σ3 H4))
theorem ako(a t1 i1 g d:Expr)(f1 f:List Expr)(sc:Scope)(pos:Pos)(it b:Value)(env:Env) :
  compTurn (.ListComp a [⟨t1,i1,f1,0⟩,⟨g,d,f,0⟩] sc pos) 0 it b env=(do
   standAt i1.pos
   match ← pyNext it with
   |none=>pure (.done .next)
   | some v =>
    letOwnedTupleGo t1 it v
    assign t1 env v
    let mut ok:=true
    for c in f1 do
     if ok then ok ← isTrue c env (eval c env)
    if ok then
     let x ← eval d env
     standAt d.pos
     let x ← foldedSetIterable d env x
     let _ ← runOwn (.compStart (.ListComp a [⟨t1,i1,f1,0⟩,⟨g,d,f,0⟩] sc pos) 1 (← holding [x] (pyIter x)) b env) env
    again (.compLoop (.ListComp a [⟨t1,i1,f1,0⟩,⟨g,d,f,0⟩] sc pos) 0 it b env)):=by rfl
theorem akp(a t1 i1 d g:Expr)(f1 f:List Expr)(sc:Scope)(pos:Pos)(it b:Value)(env:Env) :
  compTurn (.ListComp a [⟨t1,i1,f1,0⟩,⟨d,g,f,0⟩] sc pos) 1 it b env=(do
   standAt g.pos
   match ← pyNext it with
   |none=>pure (.done .next)
   | some v =>
    letOwnedTupleGo d it v
    assign d env v
    let mut ok:=true
    for c in f do
     if ok then ok ← isTrue c env (eval c env)
    if ok then
     (do let _ ← call (.builtin "list.append") [b,← eval a env])
    again (.compLoop (.ListComp a [⟨t1,i1,f1,0⟩,⟨d,g,f,0⟩] sc pos) 1 it b env)):=by rfl
theorem ar0{prog:Program}{w:World}{A:Around}{R:Result->Shared->Prop}{s:Shared}{c t1 i1 g d:Expr}{f1 i:List Expr}{sc:Scope}{pos:Pos}{it b:Value}{env:Env}
  (j:codeAny (model prog w) A (.compLoop (.ListComp c [⟨t1,i1,f1,0⟩,⟨g,d,i,0⟩] sc pos) 1 it b env) R s)
  (h:wpAny (model prog w) A (pyIter it) (λa s'=>codeAny (model prog w) A (.compLoop (.ListComp c [⟨t1,i1,f1,0⟩,⟨g,d,i,0⟩] sc pos) 1 a b env) R s') (notedBy (model prog w) A env λx s'=>R (.error x) s') s) :
  codeAny (model prog w) A (.compStart (.ListComp c [⟨t1,i1,f1,0⟩,⟨g,d,i,0⟩] sc pos) 1 it b env) R s:=by
 refine codeAny_of_tree ?_
 show wpAny _ _ ((compStart (.ListComp c [⟨t1,i1,f1,0⟩,⟨g,d,i,0⟩] sc pos) 1 it b env).onRaise (λx=>do noteFrame x env;standAt theWindowsPlace)) _ _ s
 refine wpAny_notedAt ?_
 unfold compStart
 show wpAny _ _ (ask >>= _) _ _ s
 apply aJ1;apply wpAny_askSetting;apply wpAny_ite;split
 ·first|exact aJ1 (aJ2 (aJ2 ⟨rfl,j⟩))|exact aJ2 ⟨rfl,j⟩
 ·have q:wpAny (model prog w) A (pyIter it >>= λa=>again (.compLoop (.ListComp c [⟨t1,i1,f1,0⟩,⟨g,d,i,0⟩] sc pos) 1 a b env)) (λfin s'=>match fin with | .done f=>R (.ok f) s' | .again c'=>c'.quiet=true/\codeAny (model prog w) A c' R s') (notedBy (model prog w) A env λx s'=>R (.error x) s') s :=
   aJ1 (aK0 h (λa s' h'=>aJ2 ⟨rfl,h'⟩) λ_ _ x=>x)
  first
   |exact aJ1 (wpAny_rule (aJ1 (wpAny_standAt (aJ1 (aK0 h (λa s' h'=>aJ2 ⟨rfl,h'⟩) λ_ _ x=>x)))))
   |(apply aJ1;apply wpAny_rule;show wpAny _ _ (standAt d.pos >>= _) _ _ s;exact aJ1 (wpAny_standAt (aJ1 (aK0 h (λa s' h'=>aJ2 ⟨rfl,h'⟩) λ_ _ x=>x))))
theorem aqb{X:Cx}{v t1 i1 tg iter:Expr}{f1 B:List Expr}{sc:Scope}{pos:Pos}{J:It}{fp:List Addr}{it:Addr}{tn:Nat->Heap->Prop}{g:TG}{G:TT}{te:TE}{a:Addr}{Qd:List V->St->Hp->Prop}{W:LW}{R:Result->Shared->Prop}{pins:List (Addr × Obj)}
  (T:Turn X.prog X.w X.K tg J fp it tn) (hc:X.calm=true) (j:∀ e s,¬ X.xe e s) (hg:PG X tg g) (Y:PIf X B G) (he:PE X v te)
  (E:aos J g G te a Qd W) (hR:∀ ys σ H s,Inv X pins σ H s->Qd ys σ H->R (.ok .next) s)
  {i m:Nat} {ys:List V} {σ:St} {H:Hp} {s:Shared} (I:Inv X pins σ H s) (st:tn i s.heap) (hf:∀ b∈fp,FpOk X pins H b) (w:W i m ys σ H) :
  codeAny (model X.prog X.w) X.A (.compLoop (.ListComp v [⟨t1,i1,f1,0⟩,⟨tg,iter,B,0⟩] sc pos) 1 (.ref it) (.ref a) X.env) R s:=by
 have h:∀{H':Hp},(∀ b∈fp,H' b=none)->∀ b∈fp,FpOk X pins H' b:=λhn b hb=>⟨hn b hb,(hf b hb).2⟩
 refine codeAny_loop rfl (λn s'=>∃ i ys c H',Inv X pins c H' s'/\tn i s'.heap/\(∀ b∈fp,H' b=none)/\W i n ys c H') ?_ m ⟨i,ys,σ,H,I,st,λb hb=>(hf b hb).1,w⟩
 rintro n s1 ⟨i,ys,f,S,I1,F,O,w1⟩
 show wpAny _ X.A ((compTurn (.ListComp v [⟨t1,i1,f1,0⟩,⟨tg,iter,B,0⟩] sc pos) 1 (.ref it) (.ref a) X.env).onRaise (λx=>do noteFrame x X.env;theTreesLotGoes x)) _ _ s1
 refine wpAny_noted ?_
 rw[akp]
 refine aJ1 (wpAny_standAt (aJ1 ?_))
 obtain⟨a1,⟨stop,qd⟩|⟨go,Nx,N,step⟩⟩:=E i n ys f S w1
 ·refine thn (T.done X rfl rfl rfl hc i pins s1 f S _ I1 (h O) F stop) λr s2 ⟨hr,I2⟩=>?_
  subst hr
  exact aJ2 (hR ys f S s2 I2 qd)
 ·refine thn (T.item X rfl rfl rfl hc i pins s1 f S _ I1 (h O) F go) λr s2 ⟨u,hr,h2⟩=>?_
  subst hr
  refine aJ1 (thn h2 λ_ s3 ⟨x,H3,I3,r3,y3,C,a0⟩=>?_)
  have Z:=I3.pinned (h a0) (T.obj _ _ C)
  refine aJ1 (aK0 (hg _ s3 f H3 x u _ Z r3 (step x H3 y3)) (λ_ s4 ⟨q,H4,I4,q4⟩=>?_) λe s' z=>(j e s' z).elim)
  have p:∀{l:St}{L:Hp}{D:Shared}{zs:List V},Inv X (pins++aej fp s3.heap) l L D->(∃ Q,Q<n/\W (i+1) Q zs l L)->∃ m,m<n/\∃ i ys c H',Inv X pins c H' D/\tn i D.heap/\(∀ b∈fp,H' b=none)/\W i m ys c H':=λ{l L D zs} M U=>by
   obtain⟨Q,hm,U⟩:=U
   refine⟨Q,hm,i+1,zs,l,L,M.unpinned,T.keep _ _ _ C λb hb o e=>(M.pin (b,o) (aB3 _ (aB3 _ (ab6 hb e)))).1,λb hb=>?_,U⟩
   obtain⟨o,e,d⟩:=T.obj _ _ C b hb
   exact(M.pin (b,o) (aB3 _ (aB3 _ (ab6 hb e)))).2.1
  refine aJ1 (aK0 (Y _ s4 q H4 _ I4 q4) (λb s5 ⟨H5,I5,P⟩=>?_) λe s' z=>(j e s' z).elim)
  cases b with
  | false =>
   rw[aF7 aB0] at P
   exact aJ2 ⟨rfl,p I5 (N _ _ _ P)⟩
  | true =>
   rw[aF6 rfl] at P
   refine aJ1 (aJ1 (aK0 (he _ s5 q H5 _ I5 P) (λyv s6 ⟨y,H6,I6,r6,a6,l6,w6⟩=>?_) λe s' z=>(j e s' z).elim))
   have ap:=abk (X:=X) _ s6 q H6 (.ref a) [y] (.ref a) [yv] (λ_ H'=>H'=upd H6 a (.lst (ys++[y]))) I6 rfl (.cons r6 .nil) ⟨a,ys,y,rfl,rfl,a6,l6,rfl⟩
   refine aJ1 (aK0 ap (λ_ D ⟨v7,L,M,_,e7⟩=>?_) λe s' z=>(j e s' z).elim)
   subst e7
   exact aJ2 (aJ2 ⟨rfl,p M (N _ _ _ w6)⟩)
theorem aqc{X:Cx}{y t1 i1 t2 S:Expr}{f1 f2:List Expr}{sc:Scope}{pos:Pos}{J:It}{fp:List Addr}{it:Addr}{tn:Nat->Heap->Prop}{g:TG}{N:TT}{Q:TI}{g2:TG}{v:TT}{te:TE}{C:Addr}{Qd:List V->Hp->Prop}{W:LW}{R:Result->Shared->Prop}
  (T:Turn X.prog X.w X.K t1 J fp it tn) (hc:X.calm=true) (j:∀ e s,¬ X.xe e s) (hg:PG X t1 g) (a2:PIf X f1 N) (a4:PI X t2 S Q) (a6:PG X t2 g2) (Z:PIf X f2 v) (he:PE X y te)
  (a1:∀ x,foldedSetIterable S X.env x=pure x)
  (G:ai4 J g N Q g2 v te C Qd W) (hR:∀ ys σ H s,Inv X [] σ H s->Qd ys H->R (.ok .next) s)
  {i m:Nat} {ys:List V} {σ:St} {H:Hp} {s:Shared} (I:Inv X [] σ H s) (st:tn i s.heap) (hf:∀ b∈fp,FpOk X [] H b) (w:W i m ys σ H) :
  codeAny (model X.prog X.w) X.A (.compLoop (.ListComp y [⟨t1,i1,f1,0⟩,⟨t2,S,f2,0⟩] sc pos) 0 (.ref it) (.ref C) X.env) R s:=by
 have l:∀{H':Hp},(∀ b∈fp,H' b=none)->∀ b∈fp,FpOk X [] H' b:=λhn b hb=>⟨hn b hb,(hf b hb).2⟩
 refine codeAny_loop rfl (λn s'=>∃ i ys a H',Inv X [] a H' s'/\tn i s'.heap/\(∀ b∈fp,H' b=none)/\W i n ys a H') ?_ m ⟨i,ys,σ,H,I,st,λb hb=>(hf b hb).1,w⟩
 rintro n s1 ⟨i,ys,c,H1,I1,M,Y,w1⟩
 show wpAny _ X.A ((compTurn (.ListComp y [⟨t1,i1,f1,0⟩,⟨t2,S,f2,0⟩] sc pos) 0 (.ref it) (.ref C) X.env).onRaise (λx=>do noteFrame x X.env;theTreesLotGoes x)) _ _ s1
 refine wpAny_noted ?_
 rw[ako]
 refine aJ1 (wpAny_standAt (aJ1 ?_))
 obtain⟨stop,qd⟩|⟨go,Nx,U,step⟩:=G i n ys c H1 w1
 ·refine thn (T.done X rfl rfl rfl hc i [] s1 c H1 _ I1 (l Y) M stop) λr s2 ⟨hr,I2⟩=>?_
  subst hr
  exact aJ2 (hR ys c H1 s2 I2 qd)
 ·refine thn (T.item X rfl rfl rfl hc i [] s1 c H1 _ I1 (l Y) M go) λr s2 ⟨u,hr,h2⟩=>?_
  subst hr
  refine aJ1 (thn h2 λ_ s3 ⟨x,H3,I3,r3,y3,D,a5⟩=>?_)
  have a3:=I3.pinned (l a5) (T.obj _ _ D)
  refine aJ1 (aK0 (hg _ s3 c H3 x u _ a3 r3 (step x H3 y3)) (λ_ s4 ⟨F,H4,I4,q4⟩=>?_) λe s' z=>(j e s' z).elim)
  have q:∀{p:St}{O:Hp}{E:Shared}{zs:List V},Inv X ([]++aej fp s3.heap) p O E->(∃ m',m'<n/\W (i+1) m' zs p O)->∃ m,m<n/\∃ i ys a H',Inv X [] a H' E/\tn i E.heap/\(∀ b∈fp,H' b=none)/\W i m ys a H':=λ{p O E zs} P w7=>by
   obtain⟨m',hm,w7⟩:=w7
   refine⟨m',hm,i+1,zs,p,O,P.unpinned,T.keep _ _ _ D λb hb o e=>(P.pin (b,o) (aB3 _ (aB3 _ (ab6 hb e)))).1,λb hb=>?_,w7⟩
   obtain⟨o,e,d⟩:=T.obj _ _ D b hb
   exact(P.pin (b,o) (aB3 _ (aB3 _ (ab6 hb e)))).2.1
  refine aJ1 (aK0 (a2 _ s4 F H4 _ I4 q4) (λb s5 ⟨H5,I5,q5⟩=>?_) λe s' z=>(j e s' z).elim)
  cases b with
  | false =>
   rw[aF7 aB0] at q5
   exact aJ2 ⟨rfl,q I5 (U _ _ _ q5)⟩
  | true =>
   rw[aF6 rfl] at q5
   refine aJ1 (aK0 (a4 _ s5 F H5 _ I5 q5) (λxv s6 h6=>?_) λe s' z=>(j e s' z).elim)
   refine aJ1 (wpAny_standAt (aJ1 ?_))
   rw[a1 xv]
   refine aJ2 (aJ1 (aJ7 (aK0 h6 (λa9 E h7=>?_) λe s' z=>(j e s' z).elim)))
   obtain⟨a8,b2,b1,J2,O,e,P,T2,L,a0,W2,⟨m2,w2⟩,B⟩:=h7
   subst e
   refine aJ1 (wpAny_runOwn ?_)
   have loop:=aqb (R:=λr s'=>match r with | .ok f=>(∃ m,m<n/\∃ i ys a H',Inv X [] a H' s'/\tn i s'.heap/\(∀ b∈fp,H' b=none)/\W i m ys a H') | .error e=>False) (t1:=t1) (i1:=i1) (f1:=f1) (iter:=S) (sc:=sc) (pos:=pos) T2 hc j a6 Z he B (λb0 a7 H8 s8 I8 q8=>q I8 (U _ _ _ q8)) P L a0 w2
   have st:=ar0 loop (T2.self _ 0 _ _ _ L loop)
   refine aJ6 st λr s' h=>?_
   cases r with
   |error e=>exact h.elim
   |ok f=>exact aJ2 ⟨rfl,h⟩
def tLC2(src:List (Option Nat))(wi:TI)(g:TG)(tif:TT)(wi2:TI)(g2:TG)(tif2:TT)(te:TE):TE:=λσ H Q=>wi σ H λJ H1=>∀ acc,H1 acc=none->∃ W:LW,(∃ m,W 0 m [] (pick src σ) (upd H1 acc (.lst [])))/\ai4 J g tif wi2 g2 tif2 te acc (λ_ H'=>Q (.ref acc) H') W
section
variable{X:Cx}{N:List Str}{t1 i1 t2 i2 elt:Expr}{f1 f2:List Expr}{sc:Scope}{src:List (Option Nat)}{wi wi2:TI}{g g2:TG}{tif tif2:TT}{te:TE}{pos:Pos}
theorem aud(hc:X.calm=true)(L:LcOk X N sc src)(hg:∀ C h f ex,PG (X.comp N sc C h f ex) t1 g)(I:∀ C h f ex,PIf (X.comp N sc C h f ex) f1 tif)(S:∀ C h f ex,PI (X.comp N sc C h f ex) t2 i2 wi2)(Z:∀ C h f ex,PG (X.comp N sc C h f ex) t2 g2)(E:∀ C h f ex,PIf (X.comp N sc C h f ex) f2 tif2)(he:∀ C h f ex,PE (X.comp N sc C h f ex) elt te)
  (R:∀ C h f ex x,foldedSetIterable i2 (X.comp N sc C h f ex).env x=pure x)
  {pins:List (Addr × Obj)} {d:Shared} {σ:St} {H3:Hp} {Q:VK} (j:Inv X pins σ H3 d) {it a:Addr} {fp:List Addr} {J:It} {tn:Nat->Heap->Prop} (T:Turn X.prog X.w X.K t1 J fp it tn) (B:tn 0 d.heap) (n:∀ b∈fp,FpOk X pins H3 b)
  {W:LW} {m0:Nat} (w0:W 0 m0 [] (pick src σ) H3) (s:ai4 J g tif wi2 g2 tif2 te a (λ_ H'=>Q (.ref a) H') W) (use:Option (Value->Sem Unit)) (P:Value->Shared->Prop)
  (hP:∀ C H' s' m,Inv X pins σ H' s'->Q (.ref a) H'->s'.heap.Ns C m->H' C=none->C ≠ X.env.locals->(C∈X.ex\/X.s₀.heap.objs.size<=C)->(∀ x c,X.env.cells.lookup x=some c->c ≠ C)->(∀ p∈X.pn++pins,p.1 ≠ C) ->
   compPost (model X.prog X.w) X.A X.xe use P (.ref a) C (.ok .next) s') :
  wpAny (model X.prog X.w) X.A (newFunctionEnv sc X.env.globals (clos X.env sc.names []) [] X.env.qual none .none (some X.env)) (λi u =>
    codeAny (model X.prog X.w) X.A (.compStart (.ListComp elt [⟨t1,i1,f1,0⟩,⟨t2,i2,f2,0⟩] sc pos) 0 (.ref it) (.ref a) { i with scope:=relabel sc X.env }) (compPost (model X.prog X.w) X.A X.xe use P (.ref a) i.locals) u) X.xe d:=by
 refine wpAny_newFunctionEnv L.nocell (by intro y hy;simp at hy) (λO q G=>?_) L.kind
 have U:∀ b∈fp,b<d.heap.objs.size:=λb hb=>by
  obtain⟨o,Y,_⟩:=T.obj _ _ B b hb
  exact aJ4 Y
 have F:∀ b o,d.heap.get? b=some o->O.get? b=some o:=λb o e=>G.extBut b o (aB6 (aJ4 e)) (aJ3 _ e)
 have H:=al1 (t':=d.toks+([]:List (Str × Value)).length) L j n U (by simpa using q) F
 have D:tn 0 O:=T.keep _ _ _ B λb _ o e=>F b o e
 have f4:∀ b∈fp,FpOk (X.comp N sc d.heap.objs.size d H3 fp) [] H3 b:=λb hb =>
  ⟨(n b hb).1,(H.ok.exf b hb).1,H.ok.exfs b hb,.inl hb,(H.ok.exf b hb).2,λp M=>absurd (show p∈([]:List (Addr × Obj)) from M) (by simp)⟩
 have fin:∀(ys:List V) r H' s',Inv (X.comp N sc d.heap.objs.size d H3 fp) [] r H' s'->Q (.ref a) H'->compPost (model X.prog X.w) X.A X.xe use P (.ref a) d.heap.objs.size (.ok .next) s':=λys r H' s' l q'=>by
  have Jo:Inv X pins σ H' s':=j.call' (ch:=fp) l.os l.base l.hok l.bare λb hb=>⟨(n b hb).2.2.2.1,(n b hb).2.1,(n b hb).2.2.2.2.1,(n b hb).2.2.2.2.2⟩
  obtain⟨m,hn,_⟩:=l.loc
  refine hP _ H' s' m Jo q' hn l.free (Nat.ne_of_gt j.lt) (.inr j.sz) (λx c e z=>?_) λp M z=>?_
  ·obtain⟨v,o,Y,_⟩:=j.cell x c e
   exact absurd (aJ4 Y) (by rw[z];exact aG5 _)
  ·exact absurd (aJ4 (j.pin p M).1) (by rw[z];exact aG5 _)
 have loop:codeAny (model X.prog X.w) X.A (.compLoop (.ListComp elt [⟨t1,i1,f1,0⟩,⟨t2,i2,f2,0⟩] sc pos) 0 (.ref it) (.ref a) (X.comp N sc d.heap.objs.size d H3 fp).env)
   (compPost (model X.prog X.w) X.A X.xe use P (.ref a) d.heap.objs.size) { d with heap:=O,toks:=d.toks+([]:List (Str × Value)).length } :=
  aqc (X:=X.comp N sc d.heap.objs.size d H3 fp) T hc (λ_ _ z=>z) (hg _ _ _ _) (I _ _ _ _) (S _ _ _ _) (Z _ _ _ _) (E _ _ _ _) (he _ _ _ _) (R _ _ _ _) s fin H D f4 w0
 exact codeAny_compStart_list loop (T.self _ 0 _ _ _ D loop)
theorem ar1(F:X.calm=true)(L:LcOk X N sc src)(hi:PI X t1 i1 wi)(O:∀ C a c ex,PG (X.comp N sc C a c ex) t1 g)(n:∀ C a c ex,PIf (X.comp N sc C a c ex) f1 tif)(y:∀ C a c ex,PI (X.comp N sc C a c ex) t2 i2 wi2)(z:∀ C a c ex,PG (X.comp N sc C a c ex) t2 g2)(j:∀ C a c ex,PIf (X.comp N sc C a c ex) f2 tif2)(D:∀ C a c ex,PE (X.comp N sc C a c ex) elt te)
  (hs:∀ x,foldedSetIterable i1 X.env x=pure x:=by intro _;rfl) (w:∀ C a c ex x,foldedSetIterable i2 (X.comp N sc C a c ex).env x=pure x:=by intros;rfl):PE X (.ListComp elt [⟨t1,i1,f1,0⟩,⟨t2,i2,f2,0⟩] sc pos) (tLC2 src wi g tif wi2 g2 tif2 te):=by
 intro pins s σ H Q I h
 rw[eval_ListComp]
 refine wpAny_comprehension_free rfl hs (L.clo I.ok) L.kind L.own (thn (hi pins s σ H _ I h) λv s1 R=>thn R λB s2 K=>?_)
 obtain⟨it,fp,tn,J,H2,e,A,T,i,f,U⟩:=K
 subst e
 have l:H2 s2.heap.objs.size=none:=A.hok.fresh (aA6 _)
 obtain⟨W,⟨Z,P⟩,d⟩:=U s2.heap.objs.size l
 have r:∀ b∈fp,b<s2.heap.objs.size:=λb hb=>by
  obtain⟨o,Y,_⟩:=T.obj _ _ i b hb
  exact aJ4 Y
 refine aK1 ?_
 refine aud (pins:=pins) F L O n y z j D w (H3:=upd H2 s2.heap.objs.size (.lst [])) ?_ T ?_ ?_ P d none _ ?_
 ·exact A.laid (t':=s2.toks) (λb u e=>aJ3 _ e) (aA6 _) ⟨aG1 _,[],0,.nil,aJ5 _ rfl⟩
 ·exact T.keep _ _ _ i λb _ o e=>aJ3 _ e
 ·exact λb hb=>⟨by rw[aaf (aB6 (r b hb))];exact(f b hb).1,(f b hb).2⟩
 ·intro C H' s' m J q hn S E M p G
  refine⟨m,hn,λh' sb=>⟨.ref s2.heap.objs.size,H',?_,rfl,q⟩⟩
  exact J.turned (t':=s'.toks) (λb o hb e=>sb.extBut b o hb e) S E M p G
end
def rLen(K:Frag):List V->Hp->VK->Prop:=λxs H Q=>∃ p ys,xs=[.ref p]/\(SqL K H p ys\/SqT K H p ys)/\Q (.int ys.length) H
theorem abz{X:Cx}:abh X (.builtin "len") (rLen X.K):=alv
def alc:List V->Hp->VK->Prop:=λxs H Q=>∃ i j,xs=[.int i,.int j]/\Q (.int (if j > i then j else i)) H
def ald:List V->Hp->VK->Prop:=λxs H Q=>∃ i j,xs=[.int i,.int j]/\Q (.int (if j<i then j else i)) H
theorem ah7{X:Cx}(a:X.calm=true):abh X (.builtin "max") alc:=arn a
theorem afi{X:Cx}(a:X.calm=true):abh X (.builtin "min") ald:=aro a
def ale:List V->Hp->VK->Prop:=λxs H Q=>(∃ i,xs=[.int i]/\Q (.int i) H)\/∃ k,xs=[.bl k]/\Q (.int (if k then 1 else 0)) H
theorem ah8{X:Cx}:abh X (.type "int") ale:=arp
section
variable{σ:St}{H:Hp}{D:Ends}{K:Frag}
theorem aot{i:Nat}{v:V}{Q:St->Hp->Prop}(h:Q (σ.set i (some v)) H):aar i v σ H Q:=h
theorem ar2{Q:List V->Hp->Prop}(h:Q [] H):tNil σ H Q:=h
theorem az4{t:TA}{Q:VK}(h:t σ H λxs a=>xs.length<=sizeLine/\∀ p,a p=none->Q (.ref p) (upd a p (.lst xs))):tLst t σ H Q:=h
theorem ar3{i j:Int}{Q:VK}(h:Q (.bl (decide (i=j))) H):rEq (.int i) (.int j) H Q:=by
 have e:decide (V.int i=V.int j)=decide (i=j):=by rw[ags];exact Bool.beq_eq_decide_eq i j
 exact⟨rfl,by rw[e];exact h⟩
theorem az5{i j:Int}{Q:VK}(h:Q (.bl (!decide (i=j))) H):rNe (.int i) (.int j) H Q:=by
 have e:decide (V.int i=V.int j)=decide (i=j):=by rw[ags];exact Bool.beq_eq_decide_eq i j
 exact⟨rfl,by rw[e];exact h⟩
theorem az6{a:Addr}{xs:List V}{i:Int}{v:V}{Q:VK}(ha:H a=some (.lst xs))(b:atI xs i=some v)(h:Q v H):rIxL K (.ref a) (.int i) H Q:=⟨a,xs,i,v,rfl,rfl,SqL.of ha,b,h⟩
theorem az7{a:Addr}{xs:List V}{i:Int}{v:V}{Q:VK}(ha:H a=some (.tup xs))(b:atI xs i=some v)(h:Q v H):rIxT K (.ref a) (.int i) H Q:=⟨a,xs,i,v,rfl,rfl,SqT.of ha,b,h⟩
theorem aou{a:Addr}{xs:List V}{k:Int}{j:Nat}{v:V}{Q:Hp->Prop}(ha:H a=some (.lst xs))(b:ixN xs.length k=some j)(h:Q (upd H a (.lst (xs.set j v)))):ap9 (.ref a) (.int k) v H Q:=⟨a,xs,k,j,rfl,rfl,ha,b,h⟩
theorem af9{a:Addr}{xs:List V}{y:V}{Q:VK}(ha:H a=some (.lst xs))(b:xs.length<sizeLine)(h:Q .non (upd H a (.lst (xs++[y])))):afa (.ref a) [y] H Q:=⟨a,xs,y,rfl,rfl,ha,b,h⟩
theorem az8{a b:Addr}{xs c:List V}{Q:VK}(ha:H a=some (.lst xs))(hb:H b=some (.lst c))(d:xs.length+c.length<=sizeLine)(h:∀ p,H p=none->Q (.ref p) (upd H p (.lst (xs++c)))):rCat (.ref a) (.ref b) H Q:=⟨a,b,xs,c,rfl,rfl,ha,hb,d,h⟩
theorem aov{a:Addr}{xs:List V}{Q:VK}(ha:H a=some (.lst xs))(h:Q (.int xs.length) H):rLen K [.ref a] H Q:=⟨a,xs,rfl,.inl (SqL.of ha),h⟩
theorem axa{a:Addr}{xs:List V}{Q:VK}(ha:H a=some (.tup xs))(h:Q (.int xs.length) H):rLen K [.ref a] H Q:=⟨a,xs,rfl,.inr (SqT.of ha),h⟩
theorem aow{i j:Int}{Q:VK}(h:Q (.int (if j > i then j else i)) H):alc [.int i,.int j] H Q:=⟨i,j,rfl,h⟩
theorem aox{i j:Int}{Q:VK}(h:Q (.int (if j<i then j else i)) H):ald [.int i,.int j] H Q:=⟨i,j,rfl,h⟩
theorem aoy{k:Bool}{Q:VK}(h:Q (.int (if k then 1 else 0)) H):ale [.bl k] H Q:=.inr ⟨k,rfl,h⟩
theorem ai5{c:Prop} [Decidable c] {A B:Prop} (a:c) (h:A):if decide c=true then A else B:=by rw[aD8 a];exact iteT h
theorem agw{c:Prop} [Decidable c] {A B:Prop} (a:¬ c) (h:B):if decide c=true then A else B:=by rw[aD7 a];exact iteF h
theorem acp{c:Prop} [Decidable c] {A B:Prop} (a:c->A) (b:¬ c->B):if decide c=true then A else B:=by
 by_cases hc:c
 ·exact ai5 hc (a hc)
 ·exact agw hc (b hc)
theorem at1{x y:V}{xs:List V}:atI (x::y::xs) 1=some y:=ae8 (j:=1) rfl
end
structure CallOk(P:Program)(w:World)(K:Frag)(mg:Str->Option Value)(base:Heap)(x:Str)(k:Nat)(ps:List Str)(sp:Sp)(f:Addr)(fd:FuncData):Prop where
 ok:FnOk P w K mg base CX0 k f fd ps sp
 mgx:mg x=some (.ref f)
 kp:keepIn K (.ref f)=true
 bd:Binds K fd ps []
def Can(P:Program)(w:World)(K:Frag)(mg:Str->Option Value)(base:Heap)(x:Str)(k:Nat)(ps:List Str)(sp:Sp):Prop:=∃ f fd,CallOk P w K mg base x k ps sp f fd
structure DefAt(K:Frag)(mg:Str->Option Value)(x:Str)(st:Stmt)(ps:List Str)(f:Addr)(fd:FuncData):Prop where
 fn:Fun K x x st f fd
 mgx:mg x=some (.ref f)
 bd:Binds K fd ps []
theorem DefAt.can{P:Program}{w:World}{K:Frag}{mg:Str->Option Value}{base:Heap}{x:Str}{st:Stmt}{k:Nat}{ps:List Str}{sp:Sp}{f:Addr}{fd:FuncData}(D:DefAt K mg x st ps f fd)(ok:FnOk P w K mg base CX0 k f fd ps sp):Can P w K mg base x k ps sp :=
 ⟨f,fd,ok,D.mgx,D.fn.kp,D.bd⟩
section
variable{X:Cx}{k j:Nat}{ps:List Str}{sp:Sp}{x:Str}{p pos:Pos}{e:Expr}{es:List Expr}{t:TA}
theorem aal(F:Can X.prog X.w X.K X.mg X.base x k ps sp)(g:Room j X.A)(ha:PA X (e::es) t)(c:k<=j:=by decide)(h:Gl X x:=by rfl)(a:(x == ("__debug__" : Str))=false:=by decide)
  (d:starEach (e::es) X.env=(false,eval e X.env)::starEach es X.env:=by rfl) (b:(backTo pos (starEach es X.env)).any (·.1)=false:=by rfl) :
  PE X (.Call (.Name x p) (e::es) [] pos) (ad8 sp [] E0 t):=by
 obtain⟨f,fd,C⟩:=F
 exact aw5 C.ok (g.mono c) h C.mgx C.kp C.bd .nil a16 ha a d b
end
theorem abd{X:Cx}{N:List Str}{sc:Scope}{src:List (Option Nat)}(b:sc.kind=.function)(g:sc.names.all (λy=>y.2 != .cell)=true)(c:sc.names.all (λy=>y.2 != .local || sc.names.lookup y.1 == some .local)=true)
  (l:sc.names.all (λy=>y.2 != .free || X.env.kindOf y.1 == some .cell || X.env.kindOf y.1 == some .free)=true) (d:src.length=N.length)
  (f:(List.range src.length).all (λi=>match src[i]? with|some (some j)=>(match N[i]?,X.N[j]? with|some x,some y=>x == y && sc.names.lookup x == some .free|_,_=>false)|_=>true)=true):LcOk X N sc src:=by
 refine⟨b,λy a e=>?_,λy a e=>?_,λy a e=>?_,d,λi j e=>?_⟩
 ·have:=aF5.mp g y a
  rw[e] at this
  exact absurd this (by decide)
 ·have:=aF5.mp c y a
  rw[e] at this
  simpa using this
 ·have:=aF5.mp l y a
  rw[e] at this
  simpa using this
 ·have hi:i<src.length:=(aA1.mp e).1
  have:=aF5.mp f i (aB9.mpr hi)
  rw[e] at this
  dsimp only at this
  cases h7:N[i]? with
  |none=>rw[h7] at this;cases this
  | some x =>
   cases h8:X.N[j]? with
   |none=>rw[h7,h8] at this;cases this
   | some y =>
    rw[h7,h8] at this
    simp only[aH2] at this
    have h:x=y:=by simpa using this.1
    subst h
    exact⟨x,rfl,rfl,by simpa using this.2⟩
section
variable{σ:St}{H:Hp}{D:Ends}{K:Frag}
theorem ar4{Q:Bool->Hp->Prop}(h:Q true H):tYes σ H Q:=h
theorem aue{a:Addr}{xs:List V}{i:Int}{k:Nat}{y:V}{Q:VK}(ha:H a=some (.lst xs))(b : -(2 ^ 63)<=i)(c:i<2 ^ 63)(d:seqIndex? i xs.length=some k)(f:xs[k]?=some y)(h:Q y (upd H a (.lst (xs.eraseIdx k)))):aly (.ref a) [.int i] H Q :=
 ⟨a,xs,i,k,y,rfl,rfl,ha,b,c,d,f,h⟩
end
end L2
namespace L2
open PySem
theorem adg:bootBuiltins "len" = some (.builtin "len"):=by decide +kernel
theorem aga:bootBuiltins "max" = some (.builtin "max"):=by decide +kernel
theorem al4:bootBuiltins "min" = some (.builtin "min"):=by decide +kernel
theorem acv:bootBuiltins "sorted" = some (.builtin "sorted"):=by decide +kernel
theorem adh:bootBuiltins "isinstance" = some (.builtin "isinstance"):=by decide +kernel
theorem ar5:bootBuiltins "all" = some (.builtin "all"):=by decide +kernel
theorem al5:bootBuiltins "int" = some (.type "int"):=by decide +kernel
theorem ai6:bootBuiltins "list" = some (.type "list"):=by decide +kernel
theorem ar6:bootBuiltins "set" = some (.type "set"):=by decide +kernel
theorem auf:bootBuiltins "tuple" = some (.type "tuple"):=by decide +kernel
theorem al6:bootBuiltins "enumerate" = some (.type "enumerate"):=by decide +kernel
theorem axb:bootBuiltins "bool" = some (.type "bool"):=by decide +kernel
theorem az9:bootBuiltins "zip" = some (.type "zip"):=by decide +kernel
end L2
namespace TS
open PySem PyProof.Rows
def ai7:Bool->Keyed->Array Keyed->Nat->Nat->Nat->StateT SortSt Sem (Option Nat):=sortPriv% PySem.Builtin.gallop
def aug:Array Keyed->Array Keyed->StateT SortSt Sem (Array Keyed):=sortPriv% PySem.Builtin.mergeLo
def auh:Array Keyed->Array Keyed->StateT SortSt Sem (Array Keyed):=sortPriv% PySem.Builtin.mergeHi
def al7:Nat->StateT SortSt Sem Bool:=sortPriv% PySem.Builtin.mergeAt
def axc:Nat->Nat->StateT SortSt Sem (Option Nat):=sortPriv% PySem.Builtin.countRun
def aui:Nat->Nat->Nat->StateT SortSt Sem Bool:=sortPriv% PySem.Builtin.binarySort
def a17:StateT SortSt Sem Unit:=sortPriv% PySem.Builtin.sortRuns
structure Cmp(M:Model)(A:Around)(E:Value->Shared->Prop)(s:Shared)(κ:SortKind)(S:Keyed->Prop)(R:Keyed->Keyed->Bool):Prop where
 ask:∀ x y,S x->S y->∀(Q:Option Bool->SortSt->Prop)(st:SortSt),kindOf st = κ->Q (some (R x y)) st->wpS M A E s (lt' x y) Q st
 asy:∀ x y,S x->S y->R x y=true->R y x=false
 tr:∀ x y z,S x->S y->S z->R y x=false->R z y=false->R z x=false
section
variable{M:Model}{A:Around}{E:Value->Shared->Prop}{s:Shared}{κ:SortKind}{S:Keyed->Prop}{R:Keyed->Keyed->Bool}
theorem aaz{arr:Array Keyed}{i:Nat}{x:Keyed}{Q:Keyed->SortSt->Prop}{st:SortSt}(a:arr[i]?=some x)(h:Q x st):wpS M A E s (elem' arr i) Q st:=by
 rw[elem'_eq,a]
 exact wpS_pure h
theorem ado{x:String}{Q:Unit->SortSt->Prop}{st:SortSt}(h:Q () st):wpS M A E s (liftM (PySem.rule x):StateT SortSt Sem Unit) Q st :=
 wpS_lift (wpAny_rule ⟨rfl,h⟩)
def bey(left:Bool)(key:Keyed)(arr:Array Keyed)(base i:Nat):StateT SortSt Sem (Option Bool):=do
 let x ← elem' arr (base+i)
 if left=true then lt' x key else do
  let r ← lt' key x
  pure (Option.map (λb=>!b) r)
theorem aj2{left:Bool}{p:Keyed}{arr:Array Keyed}{base n a:Nat}{B:Nat->Bool}
  (hb:∀ i,i<n->∀(Q:Option Bool->SortSt->Prop)(st:SortSt),kindOf st = κ->Q (some (B i)) st->wpS M A E s (bey left p arr base i) Q st)
  (mono:∀ i j,i<j->j<n->B j=true->B i=true) (hh:a<n) {Q:Option Nat->SortSt->Prop} {st:SortSt} (x:kindOf st = κ)
  (h:∀ k,k<=n->(∀ i,i<k->B i=true)->(∀ i,k<=i->i<n->B i=false)->Q (some k) st):wpS M A E s (ai7 left p arr base n a) Q st:=by
 have c:∀ i j,i<j->j<n->B i=false->B j=false:=λi j y L hi=>by
  cases e:B j with
  |false=>rfl
  |true=>rw[mono i j y L e] at hi;cases hi
 -- the last loop
 have last:∀(lo hi:Nat)(F:Option (Option Nat) × Nat × Nat->StateT SortSt Sem (Option Nat)),lo<=hi->hi<=n->(∀ i,i<lo->B i=true)->(∀ i,hi<=i->i<n->B i=false) ->
   (∀ lo hi,F (none,lo,hi)=pure (some hi)) ->
   wpS M A E s (forIn [:n] ((none,lo,hi):Option (Option Nat) × Nat × Nat) (λ(_:Nat) z=>if z.2.1 ≥ z.2.2 then pure (ForInStep.done (none,z.2.1,z.2.2)) else bey left p arr base (z.2.1+(z.2.2-z.2.1) / 2) >>= λr=>match r with
    |some more=>if more=true then pure (ForInStep.yield (none,z.2.1+(z.2.2-z.2.1) / 2+1,z.2.2)) else pure (ForInStep.yield (none,z.2.1,z.2.1+(z.2.2-z.2.1) / 2))
    |_=>pure (ForInStep.done (some none,z.2.1,z.2.2))) >>= F) Q st:=by
  intro lo hi F J G K I D
  refine wpS_bind (wpS_forRange (λt z st'=>st'=st/\z.1=none/\z.2.1<=z.2.2/\z.2.2<=n/\z.2.2-z.2.1+t<=n/\(∀ i,i<z.2.1->B i=true)/\(∀ i,z.2.2<=i->i<n->B i=false)) ?_ ?_ ⟨rfl,rfl,J,G,by dsimp only;lia,K,I⟩)
  ·rintro t ⟨o,l,u⟩ st' _ C ⟨rfl,e,q,d,b,g,w⟩
   dsimp only at e q d b g w ⊢
   subst e
   by_cases hlu:l ≥ u
   ·rw[aF6 hlu]
    have:l=u:=by lia
    subst this
    exact wpS_pure (by dsimp only;rw[D];exact wpS_pure (h l d g w))
   ·rw[aF7 hlu]
    have hm:l+(u-l) / 2<u:=by lia
    refine wpS_bind (hb _ (by lia) _ _ x ?_)
    dsimp only
    cases e:B (l+(u-l) / 2) with
    | true =>
     rw[aF6 rfl]
     refine wpS_pure ⟨rfl,rfl,by dsimp only;lia,d,by dsimp only;lia,λi hi=>?_,w⟩
     dsimp only at hi
     by_cases hi2:i=l+(u-l) / 2
     ·rw[hi2];exact e
     ·exact mono i _ (by lia) (by lia) e
    | false =>
     rw[aF7 (by simp)]
     refine wpS_pure ⟨rfl,rfl,by dsimp only;lia,by dsimp only;lia,by dsimp only;lia,g,λi hi hn=>?_⟩
     dsimp only at hi
     by_cases hi2:i=l+(u-l) / 2
     ·rw[hi2];exact e
     ·exact c _ i (by lia) hn e
  ·rintro ⟨o,l,u⟩ st' ⟨rfl,e,q,d,b,g,w⟩
   dsimp only at e q d b g w ⊢
   subst e
   have : l = u := by have:n ≤ max 0 n := by lia
                      lia
   subst this
   rw[D]
   exact wpS_pure (h l d g w)
 refine wpS_bind (f:=λH=>_) (m:=bey left p arr base a) (hb a hh _ st x ?_)
 dsimp only
 cases e0:B a with
 | true =>
  rw[aF6 rfl]
  refine wpS_bind ?_
  refine wpS_forRange (λt (z:Option (Option Nat) × Nat × Nat) st'=>st'=st/\z.1=none/\z.2.1<z.2.2/\a+z.2.1<n/\B (a+z.2.1)=true/\t+1<=z.2.2) ?_ ?_ ⟨rfl,rfl,by decide,by dsimp only;lia,e0,Nat.le_refl _⟩
  ·rintro t ⟨o,l,u⟩ st' _ C ⟨rfl,e,q,d,b,g⟩
   dsimp only at e q d b g ⊢
   subst e
   by_cases hu:u ≥ n-a
   ·rw[aF6 hu]
    refine wpS_pure ?_
    dsimp only
    refine last _ _ _ (by lia) (by lia) (λi hi=>?_) (λi hi hn=>by lia) (λ_ _=>rfl)
    by_cases hi2:i=a+l
    ·rw[hi2];exact b
    ·exact mono i _ (by lia) d b
   ·rw[aF7 hu]
    refine wpS_bind (m:=bey left p arr base (a+u)) (hb _ (by lia) _ _ x ?_)
    dsimp only
    cases e1:B (a+u) with
    | true =>
     rw[aF7 (by decide)]
     exact wpS_pure ⟨rfl,rfl,by dsimp only;lia,by dsimp only;lia,e1,by dsimp only;lia⟩
    | false =>
     rw[aF6 (by decide)]
     refine wpS_pure ?_
     dsimp only
     refine last _ _ _ (by lia) (by lia) (λi hi=>?_) (λi hi hn=>?_) (λ_ _=>rfl)
     ·by_cases hi2:i=a+l
      ·rw[hi2];exact b
      ·exact mono i _ (by lia) d b
     ·by_cases hi2:i=a+u
      ·rw[hi2];exact e1
      ·exact c _ i (by lia) hn e1
  ·rintro⟨o,l,u⟩ st' ⟨rfl,e,q,d,b,g⟩
   dsimp only at e q d b g ⊢
   subst e
   dsimp only
   refine last _ _ _ (by lia) (by lia) (λi hi=>?_) (λi hi hn=>by lia) (λ_ _=>rfl)
   by_cases hi2:i=a+l
   ·rw[hi2];exact b
   ·exact mono i _ (by lia) d b
 | false =>
  rw[aF7 (by decide)]
  refine wpS_bind ?_
  refine wpS_forRange (λt (z:Option (Option Nat) × Nat × Nat) st'=>st'=st/\z.1=none/\z.2.1<z.2.2/\z.2.1<=a/\B (a-z.2.1)=false/\t+1<=z.2.2) ?_ ?_ ⟨rfl,rfl,by decide,aG1 _,e0,aA6 _⟩
  ·rintro t ⟨o,l,u⟩ st' _ C ⟨rfl,e,q,d,b,g⟩
   dsimp only at e q d b g ⊢
   subst e
   have v:∀ i,a-l<=i->i<n->B i=false:=λi hi hn=>by
    by_cases hi2:i=a-l
    ·rw[hi2];exact b
    ·exact c _ i (by lia) hn b
   by_cases hu:u ≥ a+1
   ·rw[aF6 hu]
    refine wpS_pure ?_
    dsimp only
    exact last _ _ _ (by lia) (by lia) (λi hi=>by lia) v (λ_ _=>rfl)
   ·rw[aF7 hu]
    refine wpS_bind (m:=bey left p arr base (a-u)) (hb _ (by lia) _ _ x ?_)
    dsimp only
    cases e1:B (a-u) with
    | true =>
     rw[aF6 rfl]
     refine wpS_pure ?_
     dsimp only
     refine last _ _ _ (by lia) (by lia) (λi hi=>?_) v (λ_ _=>rfl)
     by_cases hi2:i=a-u
     ·rw[hi2];exact e1
     ·exact mono i _ (by lia) (by lia) e1
    | false =>
     rw[aF7 (by decide)]
     exact wpS_pure ⟨rfl,rfl,by dsimp only;lia,by dsimp only;lia,e1,by dsimp only;lia⟩
  ·rintro⟨o,l,u⟩ st' ⟨rfl,e,q,d,b,g⟩
   dsimp only at e q d b g ⊢
   subst e
   dsimp only
   refine last _ _ _ (by lia) (by lia) (λi hi=>by lia) (λi hi hn=>?_) (λ_ _=>rfl)
   by_cases hi2:i=a-l
   ·rw[hi2];exact b
   ·exact c _ i (by lia) hn b
end
def Srt(R:Keyed->Keyed->Bool)(l:List Keyed):Prop:=l.Pairwise λx y=>R y x=false
structure Mid(R:Keyed->Keyed->Bool)(L out a b:List Keyed):Prop where
 perm:(out++a++b).Perm L
 so:Srt R out
 le:∀ x∈out,∀ y∈a++b,R y x=false
 sa:Srt R a
 sb:Srt R b
section
variable{R:Keyed->Keyed->Bool}{L out a b p:List Keyed}
theorem Mid.takeA(m:Mid R L out (p++a) b)(h:∀ x∈p,∀ y∈b,R y x=false):Mid R L (out++p) a b:=by
 have sp:=aC9.mp m.sa
 refine⟨by have:=m.perm;rw[← aB4] at this;exact this,aC9.mpr ⟨m.so,sp.1,λx d y c=>m.le x d y (aC7 _ (aC7 _ c))⟩,λx d y c=>?_,sp.2.1,m.sb⟩
 rcases aA7.mp d with d|d
 ·refine m.le x d y ?_
  rcases aA7.mp c with c|c
  ·exact aC7 _ (aB3 _ c)
  ·exact aB3 _ c
 ·rcases aA7.mp c with c|c
  ·exact sp.2.2 x d y c
  ·exact h x d y c
theorem Mid.takeB(m:Mid R L out a (p++b))(h:∀ x∈p,∀ y∈a,R y x=false):Mid R L (out++p) a b:=by
 have sp:=aC9.mp m.sb
 refine⟨List.Perm.trans ?_ m.perm,aC9.mpr ⟨m.so,sp.1,λx d y c=>m.le x d y (aB3 _ (aC7 _ c))⟩,λx d y c=>?_,m.sa,sp.2.1⟩
 ·rw[← aB4 (out++a) p b]
  refine List.Perm.append_right b ?_
  rw[aB4,aB4]
  exact List.Perm.append_left out List.perm_append_comm
 ·rcases aA7.mp d with d|d
  ·refine m.le x d y ?_
   rcases aA7.mp c with c|c
   ·exact aC7 _ c
   ·exact aB3 _ (aB3 _ c)
  ·rcases aA7.mp c with c|c
   ·exact h x d y c
   ·exact sp.2.2 x d y c
theorem Mid.done(m:Mid R L out a b)(h:a=[]\/b=[]):(out++a++b).Perm L/\Srt R (out++a++b):=by
 refine⟨m.perm,?_⟩
 rw[aB4]
 refine aC9.mpr ⟨m.so,?_,m.le⟩
 rcases h with h|h
 ·subst h;exact m.sb
 ·subst h;rw[aF1];exact m.sa
theorem Mid.last(m:Mid R L out a b)(h:∀ y∈b,∀ x∈a,R x y=false):(out++b++a).Perm L/\Srt R (out++b++a):=by
 refine⟨List.Perm.trans ?_ m.perm,?_⟩
 ·rw[aB4,aB4]
  exact List.Perm.append_left out List.perm_append_comm
 ·rw[aB4]
  refine aC9.mpr ⟨m.so,aC9.mpr ⟨m.sb,m.sa,h⟩,λx d y c=>m.le x d y ?_⟩
  rcases aA7.mp c with c|c
  ·exact aB3 _ c
  ·exact aC7 _ c
end
structure Eqv(st st':SortSt):Prop where
 k:kindOf st'=kindOf st
 a:arrOf st'=arrOf st
 p:pendingOf st'=pendingOf st
 f:failedOf st'=failedOf st
theorem Eqv.refl(st:SortSt):Eqv st st:=⟨rfl,rfl,rfl,rfl⟩
theorem Eqv.trans{a b c:SortSt}(h:Eqv a b)(g:Eqv b c):Eqv a c:=⟨g.k.trans h.k,g.a.trans h.a,g.p.trans h.p,g.f.trans h.f⟩
theorem agx(a:Array Keyed)(i:Nat):(a.extract i a.size).toList=a.toList.drop i:=by
 rw[Array.toList_extract];simp only[List.extract_eq_take_drop];exact aF2 (by simp)
theorem ai8(a:Array Keyed)(i k:Nat):(a.extract i (i+k)).toList=(a.toList.drop i).take k:=by
 rw[Array.toList_extract];simp[List.extract]
theorem abn{a:Array Keyed}{i:Nat}(h:i<a.size):a.toList.drop i=a[i]::a.toList.drop (i+1):=by
 rw[List.drop_eq_getElem_cons (by simpa using h)];simp
section
variable{M:Model}{A:Around}{E:Value->Shared->Prop}{s:Shared}{κ:SortKind}{S:Keyed->Prop}{R:Keyed->Keyed->Bool}
theorem Cmp.irr{x:Keyed}(C:Cmp M A E s κ S R)(a:S x):R x x=false:=by
 cases e:R x x with
 |false=>rfl
 |true=>have:=C.asy x x a a e;rw[e] at this;cases this
theorem agb(C:Cmp M A E s κ S R){a:Keyed}{arr:Array Keyed}{base n g:Nat}(f:S a)(L:∀ x∈arr.toList,S x)(hn:base+n<=arr.size)(hs:Srt R ((arr.toList.drop base).take n))(hh:g<n)
  {Q:Option Nat->SortSt->Prop} {st:SortSt} (G:kindOf st = κ)
  (h:∀ k,k<=n->(∀ x∈(arr.toList.drop base).take k,R a x=false)->(∀ x∈((arr.toList.drop base).take n).drop k,R a x=true)->Q (some k) st) :
  wpS M A E s (ai7 false a arr base n g) Q st:=by
 have at':∀ i,i<n->∃ x,arr[base+i]?=some x/\S x/\((arr.toList.drop base).take n)[i]?=some x:=λi hi=>by
  have o:base+i<arr.size:=by lia
  refine⟨arr[base+i],aA4 o,L _ (by simp),?_⟩
  rw[aH6 hi,aI3]
  simp[o]
 have m:∀ i j x y,i<j->j<n->arr[base+i]?=some x->arr[base+j]?=some y->R y x=false:=λi j x y l q ex N=>by
  obtain⟨X,c,_,b⟩:=at' i (by lia)
  obtain⟨W,D,_,w⟩:=at' j q
  rw[ex] at c;cases c
  rw[N] at D;cases D
  obtain⟨H,b⟩:=aA1.mp b
  obtain⟨I,w⟩:=aA1.mp w
  have:=aG8.mp hs i j H I l
  rw[b,w] at this
  exact this
 refine aj2 (κ:=κ) (B:=λi=>match arr[base+i]? with|some x=>!(R a x)|none=>false) (λi hi U st' v F=>?_) (λi j l q p=>?_) hh G λk z O J=>h k z (λx u=>?_) λx u=>?_
 ·obtain⟨x,c,r,_⟩:=at' i hi
  unfold bey
  refine wpS_bind (aaz c ?_)
  rw[aF7 (by decide)]
  refine wpS_bind (C.ask _ _ f r _ _ v ?_)
  refine wpS_pure ?_
  simp only[c] at F
  exact F
 ·obtain⟨x,c,r,_⟩:=at' i (by lia)
  obtain⟨y,b,T,_⟩:=at' j q
  simp only[c,b] at p ⊢
  have P:=m i j x y l q c b
  have K:R a y=false:=by simpa using p
  have:=C.tr x y a r T f P K
  simp[this]
 ·obtain⟨i,hi,e⟩:=List.getElem_of_mem u
  have d:i<k:=by rw[aH1] at hi;lia
  obtain⟨y,c,_,b⟩:=at' i (by lia)
  have hb:=O i d
  simp only[c] at hb
  have ex:x=y:=by
   have:((arr.toList.drop base).take k)[i]?=some x:=by rw[aA0 hi,e]
   rw[aH6 d] at this
   rw[aH6 (by lia)] at b
   rw[this] at b;exact aC6 b
  subst ex
  simpa using hb
 ·obtain⟨i,hi,e⟩:=List.getElem_of_mem u
  have d:k+i<n:=by rw[aI8,aH1] at hi;lia
  obtain⟨y,c,_,b⟩:=at' (k+i) d
  have hb:=J (k+i) (by lia) d
  simp only[c] at hb
  have ex:x=y:=by
   have:(((arr.toList.drop base).take n).drop k)[i]?=some x:=by rw[aA0 hi,e]
   rw[aI3] at this
   rw[this] at b;exact aC6 b
  subst ex
  simpa using hb
theorem ahm(C:Cmp M A E s κ S R){a:Keyed}{arr:Array Keyed}{base n g:Nat}(f:S a)(K:∀ x∈arr.toList,S x)(hn:base+n<=arr.size)(hs:Srt R ((arr.toList.drop base).take n))(hh:g<n)
  {Q:Option Nat->SortSt->Prop} {st:SortSt} (G:kindOf st = κ)
  (h:∀ k,k<=n->(∀ x∈(arr.toList.drop base).take k,R x a=true)->(∀ x∈((arr.toList.drop base).take n).drop k,R x a=false)->Q (some k) st) :
  wpS M A E s (ai7 true a arr base n g) Q st:=by
 have at':∀ i,i<n->∃ x,arr[base+i]?=some x/\S x/\((arr.toList.drop base).take n)[i]?=some x:=λi hi=>by
  have p:base+i<arr.size:=by lia
  refine⟨arr[base+i],aA4 p,K _ (by simp),?_⟩
  rw[aH6 hi,aI3]
  simp[p]
 have o:∀ i j x y,i<j->j<n->arr[base+i]?=some x->arr[base+j]?=some y->R y x=false:=λi j x y l q ex L=>by
  obtain⟨W,c,_,b⟩:=at' i (by lia)
  obtain⟨U,D,_,w⟩:=at' j q
  rw[ex] at c;cases c
  rw[L] at D;cases D
  obtain⟨H,b⟩:=aA1.mp b
  obtain⟨I,w⟩:=aA1.mp w
  have:=aG8.mp hs i j H I l
  rw[b,w] at this
  exact this
 refine aj2 (κ:=κ) (B:=λi=>match arr[base+i]? with|some x=>R x a|none=>false) (λi hi T st' v F=>?_) (λi j l q m=>?_) hh G λk z N J=>h k z (λx u=>?_) λx u=>?_
 ·obtain⟨x,c,r,_⟩:=at' i hi
  unfold bey
  refine wpS_bind (aaz c ?_)
  rw[aF6 rfl]
  simp only[c] at F
  exact C.ask _ _ r f _ _ v F
 ·obtain⟨x,c,r,_⟩:=at' i (by lia)
  obtain⟨y,b,P,_⟩:=at' j q
  simp only[c,b] at m ⊢
  have O:=o i j x y l q c b
  cases e:R x a with
  |true=>rfl
  | false =>
   have:=C.tr a x y f r P e O
   rw[this] at m;cases m
 ·obtain⟨i,hi,e⟩:=List.getElem_of_mem u
  have d:i<k:=by rw[aH1] at hi;lia
  obtain⟨y,c,_,b⟩:=at' i (by lia)
  have hb:=N i d
  simp only[c] at hb
  have ex:x=y:=by
   have:((arr.toList.drop base).take k)[i]?=some x:=by rw[aA0 hi,e]
   rw[aH6 d] at this
   rw[aH6 (by lia)] at b
   rw[this] at b;exact aC6 b
  subst ex
  exact hb
 ·obtain⟨i,hi,e⟩:=List.getElem_of_mem u
  have d:k+i<n:=by rw[aI8,aH1] at hi;lia
  obtain⟨y,c,_,b⟩:=at' (k+i) d
  have hb:=J (k+i) (by lia) d
  simp only[c] at hb
  have ex:x=y:=by
   have:(((arr.toList.drop base).take n).drop k)[i]?=some x:=by rw[aA0 hi,e]
   rw[aI3] at this
   rw[this] at b;exact aC6 b
  subst ex
  exact hb
end
section
variable{M:Model}{A:Around}{E:Value->Shared->Prop}{s:Shared}{κ:SortKind}{S:Keyed->Prop}{R:Keyed->Keyed->Bool}
structure Two(S:Keyed->Prop)(R:Keyed->Keyed->Bool)(a b:Array Keyed):Prop where
 ha:∀ x∈a.toList,S x
 hb:∀ x∈b.toList,S x
 sa:Srt R a.toList
 sb:Srt R b.toList
 a0:0<a.size
 b0:0<b.size
 first:∀ x∈a.toList,∀ y,b[0]?=some y->R x y=false
 last:∀ y∈b.toList,∀ x,a[a.size-1]?=some x->R x y=false
def Fin2(R:Keyed->Keyed->Bool)(a b m:Array Keyed):Prop:=m.toList.Perm (a.toList++b.toList)/\Srt R m.toList
structure Lo(S:Keyed->Prop)(R:Keyed->Keyed->Bool)(a b out:Array Keyed)(ia ib:Nat):Prop where
 mid:Mid R (a.toList++b.toList) out.toList (a.toList.drop ia) (b.toList.drop ib)
 ia:ia<=a.size
 ib:ib<=b.size
theorem Lo.len{a b out:Array Keyed}{ia ib:Nat}(l:Lo S R a b out ia ib):out.size+(a.size-ia)+(b.size-ib)=a.size+b.size:=by
 have:=l.mid.perm.length_eq
 simp at this
 lia
theorem Lo.doneA{a b out:Array Keyed}{ia ib:Nat}(l:Lo S R a b out ia ib)(h:ib=b.size\/ia=a.size):Fin2 R a b (out++a.extract ia++b.extract ib):=by
 have:=l.mid.done (by
  rcases h with h|h
  ·right;rw[h];simp
  ·left;rw[h];simp)
 unfold Fin2
 rw[aG7,aG7,agx,agx]
 exact this
theorem ar7{a:Array Keyed}{i:Nat}(h:i+1=a.size):a.toList.drop i=[a[a.size-1]'(by lia)]:=by
 have hi:i<a.size:=by lia
 rw[abn hi]
 have:i=a.size-1:=by lia
 subst this
 have e:a.toList.drop (a.size-1+1)=[]:=by
  apply List.drop_eq_nil_of_le
  simp;lia
 rw[e]
theorem Lo.lastA{a b out:Array Keyed}{ia ib:Nat}(T:Two S R a b)(l:Lo S R a b out ia ib)(h:ia+1=a.size):Fin2 R a b (out++b.extract ib++a.extract ia):=by
 have:=l.mid.last (by
  intro y d x c
  rw[ar7 h] at c
  have ex:x=a[a.size-1]'(by lia):=by simpa using c
  refine T.last y (aC4 d) x ?_
  rw[ex]
  exact aA4 _)
 unfold Fin2
 rw[aG7,aG7,agx,agx]
 exact this
theorem aem{x:Keyed}{l:List Keyed}(C:Cmp M A E s κ S R)(h:Srt R (x::l))(b:S x):∀ y∈x::l,R y x=false:=by
 intro y a
 rcases aA9.mp a with e|a
 ·rw[e];exact C.irr b
 ·exact(aI6.mp h).1 y a
theorem Lo.pushB{a b out:Array Keyed}{ia ib:Nat}(C:Cmp M A E s κ S R)(T:Two S R a b)(l:Lo S R a b out ia ib)(hb:ib<b.size)(h:∀ x∈a.toList.drop ia,R x b[ib]=false):Lo S R a b (out.push b[ib]) ia (ib+1):=by
 refine⟨?_,l.ia,hb⟩
 have m:=l.mid
 rw[abn hb] at m
 rw[Array.toList_push]
 exact m.takeB (p:=[b[ib]]) (λx d y c=>by
  have:x=b[ib]:=by simpa using d
  rw[this];exact h y c)
theorem Lo.pushA{a b out:Array Keyed}{ia ib:Nat}(l:Lo S R a b out ia ib)(ha:ia<a.size)(h:∀ y∈b.toList.drop ib,R y a[ia]=false):Lo S R a b (out.push a[ia]) (ia+1) ib:=by
 refine⟨?_,ha,l.ib⟩
 have m:=l.mid
 rw[abn ha] at m
 rw[Array.toList_push]
 exact m.takeA (p:=[a[ia]]) (λx d y c=>by
  have:x=a[ia]:=by simpa using d
  rw[this];exact h y c)
theorem Lo.runA{a b out:Array Keyed}{ia ib k:Nat}(l:Lo S R a b out ia ib)(d:ia+k<=a.size)(h:∀ x∈(a.toList.drop ia).take k,∀ y∈b.toList.drop ib,R y x=false):Lo S R a b (out++a.extract ia (ia+k)) (ia+k) ib:=by
 refine⟨?_,d,l.ib⟩
 have m:=l.mid
 rw[← aC1 k (a.toList.drop ia)] at m
 rw[aG7,ai8]
 have c:=m.takeA h
 rw[List.drop_drop] at c
 exact c
theorem Lo.runB{a b out:Array Keyed}{ia ib k:Nat}(l:Lo S R a b out ia ib)(d:ib+k<=b.size)(h:∀ x∈(b.toList.drop ib).take k,∀ y∈a.toList.drop ia,R y x=false):Lo S R a b (out++b.extract ib (ib+k)) ia (ib+k):=by
 refine⟨?_,l.ia,d⟩
 have m:=l.mid
 rw[← aC1 k (b.toList.drop ib)] at m
 rw[aG7,ai8]
 have c:=m.takeB h
 rw[List.drop_drop] at c
 exact c
theorem acw{l:List Keyed}{i:Nat}(h:Srt R l):Srt R (l.drop i):=List.Pairwise.sublist (List.drop_sublist i l) h
theorem jpn{α β:Type}{prog : β->StateT SortSt Sem α}{P : β->Prop}{Q : α->SortSt->Prop}{st:SortSt}{G:Prop}(use:(∀ m,P m->wpS M A E s (prog m) Q st)->G)(a:∀ m,P m->wpS M A E s (prog m) Q st):G:=use a
theorem jpn2{α:Type}{prog:Array Keyed->Nat->StateT SortSt Sem α}{P:Array Keyed->Nat->Prop}{Q : α->SortSt->Prop}{st:SortSt}{G:Prop}(use:(∀ o i,P o i->wpS M A E s (prog o i) Q st)->G)(a:∀ o i,P o i->wpS M A E s (prog o i) Q st):G:=use a
section
variable{ρ β γ δ ε ζ η:Type}
@[elab_as_elim] theorem un5 {J : β->γ->δ->ε->Prop} {G:Option ρ × β × γ × δ × ε->Prop} (z:Option ρ × β × γ × δ × ε) (h:z.1=none/\J z.2.1 z.2.2.1 z.2.2.2.1 z.2.2.2.2) (k:∀ x y u v,J x y u v->G (none,x,y,u,v)):G z:=by
 have e:z=(none,z.2.1,z.2.2.1,z.2.2.2.1,z.2.2.2.2):=by rw[← h.1]
 rw[e];exact k _ _ _ _ h.2
@[elab_as_elim] theorem un6 {J : β->γ->δ->ε->ζ->Prop} {G:Option ρ × β × γ × δ × ε × ζ->Prop} (z:Option ρ × β × γ × δ × ε × ζ) (h:z.1=none/\J z.2.1 z.2.2.1 z.2.2.2.1 z.2.2.2.2.1 z.2.2.2.2.2) (k:∀ x y u v a,J x y u v a->G (none,x,y,u,v,a)):G z:=by
 have e:z=(none,z.2.1,z.2.2.1,z.2.2.2.1,z.2.2.2.2.1,z.2.2.2.2.2):=by rw[← h.1]
 rw[e];exact k _ _ _ _ _ h.2
@[elab_as_elim] theorem un7 {J : β->γ->δ->ε->ζ->η->Prop} {G:Option ρ × β × γ × δ × ε × ζ × η->Prop} (z:Option ρ × β × γ × δ × ε × ζ × η) (h:z.1=none/\J z.2.1 z.2.2.1 z.2.2.2.1 z.2.2.2.2.1 z.2.2.2.2.2.1 z.2.2.2.2.2.2) (k:∀ x y u v a b,J x y u v a b->G (none,x,y,u,v,a,b)):G z:=by
 have e:z=(none,z.2.1,z.2.2.1,z.2.2.2.1,z.2.2.2.2.1,z.2.2.2.2.2.1,z.2.2.2.2.2.2):=by rw[← h.1]
 rw[e];exact k _ _ _ _ _ _ h.2
@[elab_as_elim] theorem unR {κ:Type} {F : ρ->Prop} {J : κ->Prop} {G:Option ρ × κ->Prop} (z:Option ρ × κ) (h:(∃ r,z.1=some r/\F r)\/(z.1=none/\J z.2)) (k1:∀ r x,F r->G (some r,x)) (b:z.1=none/\J z.2->G z):G z:=by
 rcases h with ⟨r,e,a⟩|h
 ·have e:z=(some r,z.2):=by rw[← e]
  rw[e];exact k1 _ _ a
 ·exact b h
end
theorem aao{c:Prop} [Decidable c] {α:Type} {b a:StateT SortSt Sem α} {Q : α->SortSt->Prop} {st:SortSt} (d:c->wpS M A E s b Q st) (f:¬ c->wpS M A E s a Q st):wpS M A E s (if c then b else a) Q st:=by
 by_cases h:c
 ·rw[aF6 h];exact d h
 ·rw[aF7 h];exact f h
theorem aqd (C:Cmp M A E s κ S R) {a b:Array Keyed} (T:Two S R a b) {Q:Array Keyed->SortSt->Prop} {st:SortSt} (hk:kindOf st = κ)
  (h:∀ m st',Eqv st st'->Fin2 R a b m->Q m st'):wpS M A E s (aug a b) Q st:=by
 have L:∀ i (h:i<a.size),S a[i]:=λi h=>T.ha _ (by simp)
 have N:∀ i (h:i<b.size),S b[i]:=λi h=>T.hb _ (by simp)
 have b0:=T.b0
 have a0:=T.a0
 refine wpS_bind (ado ?_)
 refine wpS_bind (aaz (x:=b[0]'b0) (aA4 b0) ?_)
 have l1:Lo S R a b #[b[0]'b0] 0 1:=by
  have l0:Lo S R a b #[] 0 0:=⟨⟨by simp,List.Pairwise.nil,λx w=>by simp at w,T.sa,T.sb⟩,aG1 _,aG1 _⟩
  exact l0.pushB C T b0 λx w=>T.first x (by simpa using w) _ (aA4 b0)
 refine aao (λe1=>wpS_pure (h _ _ (Eqv.refl _) (l1.doneA (.inl (aG4.mp e1))))) (λe1=>?_)
 refine aao (λe2=>wpS_pure (h _ _ (Eqv.refl _) (l1.lastA T (aG4.mp e2)))) (λe2=>?_)
 replace e1:1 ≠ b.size:=λq=>e1 (aG4.mpr q)
 replace e2:0+1 ≠ a.size:=λq=>e2 (aG4.mpr q)
 refine wpS_bind (wpS_get ?_)
 refine wpS_bind (wpS_mono (Q:=λ(z:Option (Array Keyed) × Array Keyed × Nat × Nat × Nat) st'=>Eqv st st'/\∃ r,z.1=some r/\Fin2 R a b r) ?_ ?_)
 ·refine wpS_forRange (λt (z:Option (Array Keyed) × Array Keyed × Nat × Nat × Nat) st'=>Eqv st st'/\z.1=none/\Lo S R a b z.2.1 z.2.2.1 z.2.2.2.1/\z.2.2.1+1<a.size/\z.2.2.2.1<b.size/\t+1<=z.2.1.size) ?_ ?_ ⟨Eqv.refl _,rfl,l1,by dsimp only;lia,by dsimp only;lia,by simp⟩
  ·intro t z a5 _ ht n
   have q1:=n.1
   refine un5 (J:=λout ia ib _=>Lo S R a b out ia ib/\ia+1<a.size/\ib<b.size/\t+1<=out.size) z n.2 λout ia ib mg v=>?_
   dsimp only
   refine wpS_bind (wpS_mono (Q:=λ(z:Option (Array Keyed) × Array Keyed × Nat × Nat × Nat × Nat) st'=>Eqv st st'/\((∃ r,z.1=some r/\Fin2 R a b r)\/(z.1=none/\Lo S R a b z.2.1 z.2.2.1 z.2.2.2.1/\z.2.2.1+1<a.size/\z.2.2.2.1<b.size/\t+2<=z.2.1.size))) ?_ ?_)
   ·refine wpS_forRange (λi (z:Option (Array Keyed) × Array Keyed × Nat × Nat × Nat × Nat) st'=>Eqv st st'/\z.1=none/\Lo S R a b z.2.1 z.2.2.1 z.2.2.2.1/\z.2.2.1+1<a.size/\z.2.2.2.1<b.size/\t+1+min i 1<=z.2.1.size) ?_ ?_ ⟨q1,rfl,v.1,v.2.1,v.2.2.1,v.2.2.2⟩
    ·intro i z o _ hi n
     have q:=n.1
     refine un6 (J:=λout ia ib _ _=>Lo S R a b out ia ib/\ia+1<a.size/\ib<b.size/\t+1+min i 1<=out.size) z n.2 λout ia ib ac bc v=>?_
     have l:=v.1
     have H:=v.2.1
     have d:=v.2.2.1
     have hsz:=v.2.2.2
     have g:ia<a.size:=Nat.lt_of_succ_lt H
     refine wpS_bind (aaz (x:=b[ib]) (aA4 d) ?_)
     refine wpS_bind (aaz (x:=a[ia]) (aA4 g) ?_)
     refine wpS_bind (C.ask _ _ (N ib d) (L ia g) _ _ (q.k.trans hk) ?_)
     dsimp only
     refine aao (λer=>?_) (λer=>?_)
     ·refine wpS_bind (aaz (x:=b[ib]) (aA4 d) ?_)
      have D:Lo S R a b (out.push b[ib]) ia (ib+1):=l.pushB C T d λx w=>by
       rw[abn g] at w
       have hd:Srt R (a[ia]::a.toList.drop (ia+1)):=by rw[← abn g];exact acw T.sa
       have sx:S x:=T.ha x (aC4 (i:=ia) (by rw[abn g];exact w))
       exact C.tr _ _ _ (N ib d) (L ia g) sx (C.asy _ _ (N ib d) (L ia g) er) (aem C hd (L ia g) x w)
      refine aao (λF=>wpS_pure ⟨q,.inl ⟨_,rfl,D.doneA (.inl (aG4.mp F))⟩⟩) (λF=>?_)
      have hf:ib+1<b.size/\t+2<=(out.push b[ib]).size:=by
       have a2:ib+1 ≠ b.size:=λq=>F (aG4.mpr q)
       rw[aI0];lia
      refine aao (λ_=>wpS_pure ⟨q,.inr ⟨rfl,D,H,hf⟩⟩) (λ_=>wpS_pure ⟨q,rfl,D,H,hf.1,aD0 (by lia) hf.2⟩)
     ·refine wpS_bind (aaz (x:=a[ia]) (aA4 g) ?_)
      have D:Lo S R a b (out.push a[ia]) (ia+1) ib:=l.pushA g λy K=>by
       rw[abn d] at K
       have hd:Srt R (b[ib]::b.toList.drop (ib+1)):=by rw[← abn d];exact acw T.sb
       have Z:S y:=T.hb y (aC4 (i:=ib) (by rw[abn d];exact K))
       exact C.tr _ _ _ (L ia g) (N ib d) Z (eq_false_of_ne_true er) (aem C hd (N ib d) y K)
      refine aao (λF=>wpS_pure ⟨q,.inl ⟨_,rfl,D.lastA T (aG4.mp F)⟩⟩) (λF=>?_)
      have hf:ia+1+1<a.size/\ib<b.size/\t+2<=(out.push a[ia]).size:=by
       have a2:ia+1+1 ≠ a.size:=λq=>F (aG4.mpr q)
       rw[aI0];lia
      refine aao (λ_=>wpS_pure ⟨q,.inr ⟨rfl,D,hf⟩⟩) (λ_=>wpS_pure ⟨q,rfl,D,hf.1,d,aD0 (by lia) hf.2.2⟩)
    ·exact λz o n=>⟨n.1,.inr ⟨n.2.1,n.2.2.1,n.2.2.2.1,n.2.2.2.2.1,aD0 (by lia) n.2.2.2.2.2⟩⟩
   ·intro z o n
    have X:=n.1
    refine unR (J:=λy:Array Keyed × Nat × Nat × Nat × Nat=>Lo S R a b y.1 y.2.1 y.2.2.1/\y.2.1+1<a.size/\y.2.2.1<b.size/\t+2<=y.1.size) z n.2 (λr x hr=>wpS_pure ⟨X,r,rfl,hr⟩) λY=>?_
    refine un6 (J:=λout ia ib _ _=>Lo S R a b out ia ib/\ia+1<a.size/\ib<b.size/\t+2<=out.size) z Y λout ia ib ac bc v=>?_
    dsimp only
    refine wpS_bind (ado ?_)
    refine wpS_bind (wpS_mono (Q:=λ(z:Option (Array Keyed) × Array Keyed × Nat × Nat × Nat × Nat × Nat) st'=>Eqv st st'/\((∃ r,z.1=some r/\Fin2 R a b r)\/(z.1=none/\Lo S R a b z.2.1 z.2.2.1 z.2.2.2.1/\z.2.2.1+1<a.size/\z.2.2.2.1<b.size/\t+2<=z.2.1.size))) ?_ ?_)
    ·refine wpS_forRange (λi (z:Option (Array Keyed) × Array Keyed × Nat × Nat × Nat × Nat × Nat) st'=>Eqv st st'/\z.1=none/\Lo S R a b z.2.1 z.2.2.1 z.2.2.2.1/\z.2.2.1+1<a.size/\z.2.2.2.1<b.size/\t+2<=z.2.1.size) ?_ (λz o n=>⟨n.1,.inr n.2⟩) ⟨X,rfl,v⟩
     intro i z o _ hi n
     have q:=n.1
     refine un7 (J:=λout ia ib _ _ _=>Lo S R a b out ia ib/\ia+1<a.size/\ib<b.size/\t+2<=out.size) z n.2 λout ia ib mg ac bc v=>?_
     have l:=v.1
     have H:=v.2.1
     have d:=v.2.2.1
     have hsz:=v.2.2.2
     dsimp only
     refine' jpn (M:=M) (A:=A) (E:=E) (s:=s) (st:=o) (β:=Nat) (P:=λ_=>True) (prog:=?prog) (λU=>?use) (λa6 _=>?pf)
     case use =>
      refine aao (λhm=>?_) (λhm=>?_)
      ·generalize mg-1=m
       exact U m trivial
      ·exact U mg trivial
     refine wpS_bind (wpS_mono (Q:=λ_ O=>Eqv o O) (wpS_modify ⟨rfl,rfl,rfl,rfl⟩) λ_ O G=>?_)
     replace G:=q.trans G
     refine wpS_bind (aaz (x:=b[ib]) (aA4 d) ?_)
     refine wpS_bind (agb C (N ib d) T.ha (by lia) (by rw[aF2 (by simp)];exact acw T.sa) (by lia) (G.k.trans hk) λk b2 h1 h2=>?_)
     rw[aF2 (by simp),List.drop_drop] at h2
     dsimp only
     refine' jpn2 (M:=M) (A:=A) (E:=E) (s:=s) (st:=O) (P:=λj c=>Lo S R a b j c ib/\c+1<a.size/\(∀ x∈a.toList.drop c,R x b[ib]=false)/\t+2<=j.size) (prog:=?prog2) (λU=>?use2) (λj c h5=>?pf2)
     case use2 =>
      have u:∀ x∈a.toList.drop (ia+k),R x b[ib]=false:=λx w=>C.asy _ _ (N ib d) (T.ha x (aC4 w)) (h2 x w)
      refine aao (λk0=>?_) (λk0=>?_)
      ·have D:Lo S R a b (out++a.extract ia (ia+k)) (ia+k) ib:=l.runA (by lia) λx w y K=>by
        rw[abn d] at K
        have hd:Srt R (b[ib]::b.toList.drop (ib+1)):=by rw[← abn d];exact acw T.sb
        have Z:S y:=T.hb y (aC4 (i:=ib) (by rw[abn d];exact K))
        exact C.tr _ _ _ (T.ha x (aC4 (aC0 w))) (N ib d) Z (h1 x w) (aem C hd (N ib d) y K)
       refine aao (λF=>wpS_pure ⟨G,.inl ⟨_,rfl,D.lastA T (aG4.mp F)⟩⟩) (λF=>?_)
       refine aao (λe4=>wpS_pure ⟨G,.inl ⟨_,rfl,D.doneA (.inr (aG4.mp e4))⟩⟩) (λe4=>?_)
       have W:Lo S R a b (out++a.extract ia (ia+k)) (ia+k) ib/\ia+k+1<a.size/\(∀ x∈a.toList.drop (ia+k),R x b[ib]=false)/\t+2<=(out++a.extract ia (ia+k)).size:=by
        have a2:ia+k+1 ≠ a.size:=λq=>F (aG4.mpr q)
        have b1:ia+k ≠ a.size:=λq=>e4 (aG4.mpr q)
        exact⟨D,by lia,u,by rw[Array.size_append];lia⟩
       revert W
       clear F e4 D u
       generalize out++a.extract ia (ia+k)=j
       generalize ia+k=c
       intro W
       exact U j c W
      ·have:k=0:=by lia
       rw[this] at u
       exact U out ia ⟨l,H,u,hsz⟩
     have l3:=h5.1
     have a1:=h5.2.1
     have a3:=h5.2.2.1
     have a4:=h5.2.2.2
     have f:c<a.size:=Nat.lt_of_succ_lt a1
     refine wpS_bind (aaz (x:=b[ib]) (aA4 d) ?_)
     have l4:=l3.pushB C T d a3
     refine aao (λe5=>wpS_pure ⟨G,.inl ⟨_,rfl,l4.doneA (.inl (aG4.mp e5))⟩⟩) (λe5=>?_)
     replace e5:ib+1 ≠ b.size:=λq=>e5 (aG4.mpr q)
     refine wpS_bind (aaz (x:=a[c]) (aA4 f) ?_)
     refine wpS_bind (ahm C (L c f) T.hb (by lia) (by rw[aF2 (by simp)];exact acw T.sb) (by lia) (G.k.trans hk) λI a8 h3 h4=>?_)
     rw[aF2 (by simp),List.drop_drop] at h4
     dsimp only
     refine' jpn2 (M:=M) (A:=A) (E:=E) (s:=s) (st:=O) (P:=λp B=>Lo S R a b p c B/\B<b.size/\(∀ y∈b.toList.drop B,R y a[c]=false)/\t+2<=p.size) (prog:=?prog3) (λU=>?use3) (λp B h6=>?pf3)
     case use3 =>
      refine aao (λk0=>?_) (λk0=>?_)
      ·have hd:Srt R (a[c]::a.toList.drop (c+1)):=by rw[← abn f];exact acw T.sa
       have l5:Lo S R a b (j.push b[ib]++b.extract (ib+1) (ib+1+I)) c (ib+1+I):=l4.runB (by lia) λx w y K=>by
        rw[abn f] at K
        have Z:S y:=T.ha y (aC4 (i:=c) (by rw[abn f];exact K))
        have sx:S x:=T.hb x (aC4 (aC0 w))
        exact C.tr _ _ _ sx (L c f) Z (C.asy _ _ sx (L c f) (h3 x w)) (aem C hd (L c f) y K)
       refine aao (λe6=>wpS_pure ⟨G,.inl ⟨_,rfl,l5.doneA (.inl (aG4.mp e6))⟩⟩) (λe6=>?_)
       have W:Lo S R a b (j.push b[ib]++b.extract (ib+1) (ib+1+I)) c (ib+1+I)/\ib+1+I<b.size/\(∀ y∈b.toList.drop (ib+1+I),R y a[c]=false)/\t+2<=(j.push b[ib]++b.extract (ib+1) (ib+1+I)).size:=by
        have a7:ib+1+I ≠ b.size:=λq=>e6 (aG4.mpr q)
        exact⟨l5,by lia,h4,by rw[Array.size_append,aI0];lia⟩
       revert W
       clear e6 l5 hd
       generalize j.push b[ib]++b.extract (ib+1) (ib+1+I)=p
       generalize ib+1+I=B
       intro W
       exact U p B W
      ·have:I=0:=by lia
       rw[this] at h4
       exact U (j.push b[ib]) (ib+1) ⟨l4,by lia,h4,by rw[aI0];lia⟩
     refine wpS_bind (aaz (x:=a[c]) (aA4 f) ?_)
     have l7:=h6.1.pushA f h6.2.2.1
     refine aao (λe7=>wpS_pure ⟨G,.inl ⟨_,rfl,l7.lastA T (aG4.mp e7)⟩⟩) (λe7=>?_)
     have hf:c+1+1<a.size/\B<b.size/\t+2<=(p.push a[c]).size:=by
      have a9:c+1+1 ≠ a.size:=λq=>e7 (aG4.mpr q)
      have h7:=h6.2.2.2
      exact⟨by lia,h6.2.1,by rw[aI0];lia⟩
     exact aao (λ_=>wpS_pure ⟨G,.inr ⟨rfl,l7,hf⟩⟩) (λ_=>wpS_pure ⟨G,rfl,l7,hf⟩)
    ·intro z o n
     have X:=n.1
     refine unR (J:=λy:Array Keyed × Nat × Nat × Nat × Nat × Nat=>Lo S R a b y.1 y.2.1 y.2.2.1/\y.2.1+1<a.size/\y.2.2.1<b.size/\t+2<=y.1.size) z n.2 (λr x hr=>wpS_pure ⟨X,r,rfl,hr⟩) λY=>?_
     refine un7 (J:=λout ia ib _ _ _=>Lo S R a b out ia ib/\ia+1<a.size/\ib<b.size/\t+2<=out.size) z Y λout ia ib mg ac bc v=>?_
     dsimp only
     refine wpS_bind (wpS_modify ?_)
     exact wpS_pure ⟨X.trans ⟨rfl,rfl,rfl,rfl⟩,rfl,v⟩
  ·intro z o n
   exfalso
   have h1:=n.2.2.1.len
   have h2:=n.2.2.2
   have:a.size+b.size<=max 0 (a.size+b.size):=by lia
   lia
 ·intro z o n
  have X:=n.1
  exact unR (J:=λ_=>False) z (.inl n.2) (λr x hr=>wpS_pure (h r o X hr)) λY=>Y.2.elim
end
structure MidH(R:Keyed->Keyed->Bool)(L a b tl:List Keyed):Prop where
 perm:(a++b++tl).Perm L
 so:Srt R tl
 le:∀ x∈a++b,∀ y∈tl,R y x=false
 sa:Srt R a
 sb:Srt R b
section
variable{R:Keyed->Keyed->Bool}{L tl a b p:List Keyed}
theorem MidH.takeA(m:MidH R L (a++p) b tl)(h:∀ x∈b,∀ y∈p,R y x=false):MidH R L a b (p++tl):=by
 have sp:=aC9.mp m.sa
 refine⟨List.Perm.trans ?_ m.perm,aC9.mpr ⟨sp.2.1,m.so,λx c y d=>m.le x (aC7 _ (aB3 _ c)) y d⟩,λx c y d=>?_,sp.1,m.sb⟩
 ·rw[← aB4,aB4 a p b,aB4 a b p]
  exact List.Perm.append_right tl (List.Perm.append_left a List.perm_append_comm)
 ·rcases aA7.mp d with d|d
  ·rcases aA7.mp c with c|c
   ·exact sp.2.2 x c y d
   ·exact h x c y d
  ·refine m.le x ?_ y d
   rcases aA7.mp c with c|c
   ·exact aC7 _ (aC7 _ c)
   ·exact aB3 _ c
theorem MidH.takeB(m:MidH R L a (b++p) tl)(h:∀ x∈a,∀ y∈p,R y x=false):MidH R L a b (p++tl):=by
 have sp:=aC9.mp m.sb
 refine⟨by have:=m.perm;simp only[aB4] at this ⊢;exact this,aC9.mpr ⟨sp.2.1,m.so,λx c y d=>m.le x (aB3 _ (aB3 _ c)) y d⟩,λx c y d=>?_,m.sa,sp.1⟩
 rcases aA7.mp d with d|d
 ·rcases aA7.mp c with c|c
  ·exact h x c y d
  ·exact sp.2.2 x c y d
 ·refine m.le x ?_ y d
  rcases aA7.mp c with c|c
  ·exact aC7 _ c
  ·exact aB3 _ (aC7 _ c)
theorem MidH.done(m:MidH R L a b tl)(h:a=[]\/b=[]):(a++b++tl).Perm L/\Srt R (a++b++tl):=by
 refine⟨m.perm,aC9.mpr ⟨?_,m.so,m.le⟩⟩
 rcases h with h|h
 ·subst h;exact m.sb
 ·subst h;rw[aF1];exact m.sa
theorem MidH.first(m:MidH R L a b tl)(h:∀ y∈b,∀ x∈a,R x y=false):(b++a++tl).Perm L/\Srt R (b++a++tl):=by
 refine⟨List.Perm.trans (List.Perm.append_right tl List.perm_append_comm) m.perm,aC9.mpr ⟨aC9.mpr ⟨m.sb,m.sa,h⟩,m.so,λx c y d=>m.le x ?_ y d⟩⟩
 rcases aA7.mp c with c|c
 ·exact aB3 _ c
 ·exact aC7 _ c
end
theorem acg{a:Array Keyed}{i:Nat}(c:0<i)(h:i<=a.size):a.toList.take i=a.toList.take (i-1)++[a[i-1]'(by lia)]:=by
 obtain⟨j,rfl⟩:∃ j,i=j+1:=⟨i-1,by lia⟩
 rw[List.take_succ]
 have b:j<a.size:=by lia
 simp[b]
theorem alf(a:Array Keyed)(k:Nat):(a.extract 0 k).toList=a.toList.take k:=by
 rw[Array.toList_extract];simp[List.extract]
theorem al8(a:Array Keyed)(k n:Nat):(a.extract k n).toList=(a.toList.take n).drop k:=by
 rw[Array.toList_extract];simp[List.extract,List.drop_take]
section
variable{M:Model}{A:Around}{E:Value->Shared->Prop}{s:Shared}{κ:SortKind}{S:Keyed->Prop}{R:Keyed->Keyed->Bool}
structure Hi(S:Keyed->Prop)(R:Keyed->Keyed->Bool)(a b out:Array Keyed)(na nb:Nat):Prop where
 mid:MidH R (a.toList++b.toList) (a.toList.take na) (b.toList.take nb) out.toList.reverse
 na:na<=a.size
 nb:nb<=b.size
theorem Hi.len{a b out:Array Keyed}{na nb:Nat}(l:Hi S R a b out na nb):out.size+na+nb=a.size+b.size:=by
 have:=l.mid.perm.length_eq
 have d:=l.na
 have c:=l.nb
 simp at this
 lia
theorem Hi.doneA{a b out:Array Keyed}{na nb:Nat}(l:Hi S R a b out na nb)(h:na=0\/nb=0):Fin2 R a b (a.extract 0 na++b.extract 0 nb++out.reverse):=by
 have:=l.mid.done (by
  rcases h with h|h
  ·left;rw[h];simp
  ·right;rw[h];simp)
 unfold Fin2
 rw[aG7,aG7,alf,alf,Array.toList_reverse]
 exact this
theorem Hi.firstB{a b out:Array Keyed}{na nb:Nat}(T:Two S R a b)(l:Hi S R a b out na nb)(h:nb=1):Fin2 R a b (b.extract 0 nb++a.extract 0 na++out.reverse):=by
 subst h
 have:=l.mid.first (by
  intro y c x f
  rw[acg (by decide) l.nb] at c
  have d:y=b[0]'T.b0:=by simpa using c
  exact T.first x (aC0 f) y (by rw[d];exact aA4 _))
 unfold Fin2
 rw[aG7,aG7,alf,alf,Array.toList_reverse]
 exact this
theorem ab9{l:List Keyed}{i:Nat}(h:Srt R l):Srt R (l.take i):=List.Pairwise.sublist (List.take_sublist i l) h
theorem ad1{x:Keyed}{l:List Keyed}(C:Cmp M A E s κ S R)(h:Srt R (l++[x]))(b:S x):∀ y∈l++[x],R x y=false:=by
 intro y a
 rcases aA7.mp a with a|a
 ·exact(aC9.mp h).2.2 y a x (by simp)
 ·have:y=x:=by simpa using a
  rw[this];exact C.irr b
theorem Hi.pushA{a b out:Array Keyed}{na nb:Nat}(l:Hi S R a b out na nb)(d:0<na)(h:∀ x∈b.toList.take nb,R (a[na-1]'(by have:=l.na;lia)) x=false):Hi S R a b (out.push (a[na-1]'(by have:=l.na;lia))) (na-1) nb:=by
 refine⟨?_,by have:=l.na;lia,l.nb⟩
 have m:=l.mid
 rw[acg d l.na] at m
 rw[Array.toList_push,List.reverse_append]
 exact m.takeA (p:=[_]) (λx f y c=>by
  rw[aC2.mp c];exact h x f)
theorem Hi.pushB{a b out:Array Keyed}{na nb:Nat}(l:Hi S R a b out na nb)(d:0<nb)(h:∀ x∈a.toList.take na,R (b[nb-1]'(by have:=l.nb;lia)) x=false):Hi S R a b (out.push (b[nb-1]'(by have:=l.nb;lia))) na (nb-1):=by
 refine⟨?_,l.na,by have:=l.nb;lia⟩
 have m:=l.mid
 rw[acg d l.nb] at m
 rw[Array.toList_push,List.reverse_append]
 exact m.takeB (p:=[_]) (λx f y c=>by
  rw[aC2.mp c];exact h x f)
theorem Hi.runA{a b out:Array Keyed}{na nb k:Nat}(l:Hi S R a b out na nb)(d:k<=na)(h:∀ x∈b.toList.take nb,∀ y∈(a.toList.take na).drop k,R y x=false):Hi S R a b (out++(a.extract k na).reverse) k nb:=by
 refine⟨?_,by have:=l.na;lia,l.nb⟩
 have m:=l.mid
 rw[← aC1 k (a.toList.take na)] at m
 rw[aG7,Array.toList_reverse,al8,List.reverse_append,List.reverse_reverse]
 have c:=m.takeA h
 rw[List.take_take,Nat.min_eq_left d] at c
 exact c
theorem Hi.runB{a b out:Array Keyed}{na nb k:Nat}(l:Hi S R a b out na nb)(d:k<=nb)(h:∀ x∈a.toList.take na,∀ y∈(b.toList.take nb).drop k,R y x=false):Hi S R a b (out++(b.extract k nb).reverse) na k:=by
 refine⟨?_,l.na,by have:=l.nb;lia⟩
 have m:=l.mid
 rw[← aC1 k (b.toList.take nb)] at m
 rw[aG7,Array.toList_reverse,al8,List.reverse_append,List.reverse_reverse]
 have c:=m.takeB h
 rw[List.take_take,Nat.min_eq_left d] at c
 exact c
theorem aqe (C:Cmp M A E s κ S R) {a b:Array Keyed} (T:Two S R a b) {Q:Array Keyed->SortSt->Prop} {st:SortSt} (hk:kindOf st = κ)
  (h:∀ m st',Eqv st st'->Fin2 R a b m->Q m st'):wpS M A E s (auh a b) Q st:=by
 have I:∀ i (h:i<a.size),S a[i]:=λi h=>T.ha _ (by simp)
 have K:∀ i (h:i<b.size),S b[i]:=λi h=>T.hb _ (by simp)
 have b0:=T.b0
 have a0:=T.a0
 have la:a.size-1<a.size:=by lia
 refine wpS_bind (ado ?_)
 refine wpS_bind (aaz (x:=a[a.size-1]'la) (aA4 la) ?_)
 have l1:Hi S R a b #[a[a.size-1]'la] (a.size-1) b.size:=by
  have l0:Hi S R a b #[] a.size b.size:=⟨⟨by simp[aF2],List.Pairwise.nil,λx g y hy=>by simp at hy,ab9 T.sa,ab9 T.sb⟩,aA6 _,aA6 _⟩
  exact l0.pushA a0 λx g=>T.last x (aC0 g) _ (aA4 la)
 refine aao (λe1=>wpS_pure (h _ _ (Eqv.refl _) (l1.doneA (.inl (aG4.mp e1))))) (λe1=>?_)
 refine aao (λe2=>wpS_pure (h _ _ (Eqv.refl _) (l1.firstB T (aG4.mp e2)))) (λe2=>?_)
 replace e1:a.size-1 ≠ 0:=λq=>e1 (aG4.mpr q)
 replace e2:b.size ≠ 1:=λq=>e2 (aG4.mpr q)
 refine wpS_bind (wpS_get ?_)
 have a9:∀{na nb:Nat}(D:0<na)(L:na<=a.size)(Y:0<nb)(O:nb<=b.size),R (b[nb-1]'(by lia)) (a[na-1]'(by lia))=true->∀ x∈b.toList.take nb,R (a[na-1]'(by lia)) x=false:=λ{na nb} D L Y O er x g=>by
  have Z:S x:=T.hb x (aC0 g)
  have hs:Srt R (b.toList.take (nb-1)++[b[nb-1]'(by lia)]):=by rw[← acg Y O];exact ab9 T.sb
  rw[acg Y O] at g
  exact C.tr _ _ _ Z (K _ _) (I _ _) (ad1 C hs (K _ _) x g) (C.asy _ _ (K _ _) (I _ _) er)
 have a6:∀{na nb:Nat}(D:0<na)(L:na<=a.size)(Y:0<nb)(O:nb<=b.size),R (b[nb-1]'(by lia)) (a[na-1]'(by lia))=false->∀ x∈a.toList.take na,R (b[nb-1]'(by lia)) x=false:=λ{na nb} D L Y O er x g=>by
  have Z:S x:=T.ha x (aC0 g)
  have hs:Srt R (a.toList.take (na-1)++[a[na-1]'(by lia)]):=by rw[← acg D L];exact ab9 T.sa
  rw[acg D L] at g
  exact C.tr _ _ _ Z (I _ _) (K _ _) (ad1 C hs (I _ _) x g) er
 refine wpS_bind (wpS_mono (Q:=λ(z:Option (Array Keyed) × Nat × Nat × Array Keyed × Nat) st'=>Eqv st st'/\∃ r,z.1=some r/\Fin2 R a b r) ?_ ?_)
 ·refine wpS_forRange (λt (z:Option (Array Keyed) × Nat × Nat × Array Keyed × Nat) st'=>Eqv st st'/\z.1=none/\Hi S R a b z.2.2.2.1 z.2.1 z.2.2.1/\0<z.2.1/\1<z.2.2.1/\t+1<=z.2.2.2.1.size) ?_ ?_ ⟨Eqv.refl _,rfl,l1,by dsimp only;lia,by dsimp only;lia,by simp⟩
  ·intro t z b5 _ ht f
   have q1:=f.1
   refine un5 (J:=λna nb out _=>Hi S R a b out na nb/\0<na/\1<nb/\t+1<=out.size) z f.2 λna nb out mg o=>?_
   dsimp only
   refine wpS_bind (wpS_mono (Q:=λ(z:Option (Array Keyed) × Nat × Nat × Array Keyed × Nat × Nat) st'=>Eqv st st'/\((∃ r,z.1=some r/\Fin2 R a b r)\/(z.1=none/\Hi S R a b z.2.2.2.1 z.2.1 z.2.2.1/\0<z.2.1/\1<z.2.2.1/\t+2<=z.2.2.2.1.size))) ?_ ?_)
   ·refine wpS_forRange (λi (z:Option (Array Keyed) × Nat × Nat × Array Keyed × Nat × Nat) st'=>Eqv st st'/\z.1=none/\Hi S R a b z.2.2.2.1 z.2.1 z.2.2.1/\0<z.2.1/\1<z.2.2.1/\t+1+min i 1<=z.2.2.2.1.size) ?_ ?_ ⟨q1,rfl,o.1,o.2.1,o.2.2.1,o.2.2.2⟩
    ·intro i z j _ hi f
     have q:=f.1
     refine un6 (J:=λna nb out _ _=>Hi S R a b out na nb/\0<na/\1<nb/\t+1+min i 1<=out.size) z f.2 λna nb out ac bc o=>?_
     have l:=o.1
     have p:=o.2.1
     have a2:=o.2.2.1
     have hsz:=o.2.2.2
     have ia:na-1<a.size:=by have:=l.na;lia
     have ib:nb-1<b.size:=by have:=l.nb;lia
     refine wpS_bind (aaz (x:=b[nb-1]) (aA4 ib) ?_)
     refine wpS_bind (aaz (x:=a[na-1]) (aA4 ia) ?_)
     refine wpS_bind (C.ask _ _ (K _ ib) (I _ ia) _ _ (q.k.trans hk) ?_)
     dsimp only
     refine aao (λer=>?_) (λer=>?_)
     ·refine wpS_bind (aaz (x:=a[na-1]) (aA4 ia) ?_)
      have B:=l.pushA p (a9 p l.na (by lia) l.nb er)
      refine aao (λw=>wpS_pure ⟨q,.inl ⟨_,rfl,B.doneA (.inl (aG4.mp w))⟩⟩) (λw=>?_)
      have hf:0<na-1/\1<nb/\t+2<=(out.push a[na-1]).size:=by
       have a3:na-1 ≠ 0:=λq=>w (aG4.mpr q)
       rw[aI0];lia
      exact aao (λ_=>wpS_pure ⟨q,.inr ⟨rfl,B,hf⟩⟩) (λ_=>wpS_pure ⟨q,rfl,B,hf.1,a2,aD0 (by lia) hf.2.2⟩)
     ·refine wpS_bind (aaz (x:=b[nb-1]) (aA4 ib) ?_)
      have B:=l.pushB (by lia) (a6 p l.na (by lia) l.nb (eq_false_of_ne_true er))
      refine aao (λw=>wpS_pure ⟨q,.inl ⟨_,rfl,B.firstB T (aG4.mp w)⟩⟩) (λw=>?_)
      have hf:1<nb-1/\t+2<=(out.push b[nb-1]).size:=by
       have a3:nb-1 ≠ 1:=λq=>w (aG4.mpr q)
       rw[aI0];lia
      exact aao (λ_=>wpS_pure ⟨q,.inr ⟨rfl,B,p,hf⟩⟩) (λ_=>wpS_pure ⟨q,rfl,B,p,hf.1,aD0 (by lia) hf.2⟩)
    ·exact λz j f=>⟨f.1,.inr ⟨f.2.1,f.2.2.1,f.2.2.2.1,f.2.2.2.2.1,aD0 (by lia) f.2.2.2.2.2⟩⟩
   ·intro z j f
    have q2:=f.1
    refine unR (J:=λy:Nat × Nat × Array Keyed × Nat × Nat=>Hi S R a b y.2.2.1 y.1 y.2.1/\0<y.1/\1<y.2.1/\t+2<=y.2.2.1.size) z f.2 (λr x hr=>wpS_pure ⟨q2,r,rfl,hr⟩) λhN=>?_
    refine un6 (J:=λna nb out _ _=>Hi S R a b out na nb/\0<na/\1<nb/\t+2<=out.size) z hN λna nb out ac bc o=>?_
    dsimp only
    refine wpS_bind (ado ?_)
    refine wpS_bind (wpS_mono (Q:=λ(z:Option (Array Keyed) × Nat × Nat × Array Keyed × Nat × Nat × Nat) st'=>Eqv st st'/\((∃ r,z.1=some r/\Fin2 R a b r)\/(z.1=none/\Hi S R a b z.2.2.2.1 z.2.1 z.2.2.1/\0<z.2.1/\1<z.2.2.1/\t+2<=z.2.2.2.1.size))) ?_ ?_)
    ·refine wpS_forRange (λi (z:Option (Array Keyed) × Nat × Nat × Array Keyed × Nat × Nat × Nat) st'=>Eqv st st'/\z.1=none/\Hi S R a b z.2.2.2.1 z.2.1 z.2.2.1/\0<z.2.1/\1<z.2.2.1/\t+2<=z.2.2.2.1.size) ?_ (λz j f=>⟨f.1,.inr f.2⟩) ⟨q2,rfl,o⟩
     intro i z j _ hi f
     have q:=f.1
     refine un7 (J:=λna nb out _ _ _=>Hi S R a b out na nb/\0<na/\1<nb/\t+2<=out.size) z f.2 λna nb out mg ac bc o=>?_
     have l:=o.1
     have p:=o.2.1
     have a2:=o.2.2.1
     have hsz:=o.2.2.2
     have b4:=l.na
     have W:=l.nb
     have ib:nb-1<b.size:=by lia
     dsimp only
     refine' jpn (M:=M) (A:=A) (E:=E) (s:=s) (st:=j) (β:=Nat) (P:=λ_=>True) (prog:=?prog) (λX=>?use) (λb6 _=>?pf)
     case use =>
      refine aao (λhm=>?_) (λhm=>?_)
      ·generalize mg-1=m
       exact X m trivial
      ·exact X mg trivial
     refine wpS_bind (wpS_mono (Q:=λ_ N=>Eqv j N) (wpS_modify ⟨rfl,rfl,rfl,rfl⟩) λ_ N G=>?_)
     replace G:=q.trans G
     refine wpS_bind (aaz (x:=b[nb-1]) (aA4 ib) ?_)
     refine wpS_bind (agb C (K _ ib) T.ha (by lia) (by rw[List.drop_zero];exact ab9 T.sa) (by lia) (G.k.trans hk) λk b2 D L=>?_)
     rw[List.drop_zero] at D L
     dsimp only
     generalize hac:na-k=ac2
     refine' jpn2 (M:=M) (A:=A) (E:=E) (s:=s) (st:=N) (P:=λd c=>Hi S R a b d c nb/\0<c/\(∀ x∈a.toList.take c,R b[nb-1] x=false)/\t+2<=d.size) (prog:=?prog2) (λX=>?use2) (λd c h5=>?pf2)
     case use2 =>
      refine aao (λk0=>?_) (λk0=>?_)
      ·have b1:Srt R (b.toList.take (nb-1)++[b[nb-1]]):=by rw[← acg (by lia) W];exact ab9 T.sb
       have B:Hi S R a b (out++(a.extract k na).reverse) k nb:=l.runA b2 λx g y hy=>by
        have Z:S x:=T.hb x (aC0 g)
        have sy:S y:=T.ha y (aC0 (aC4 hy))
        rw[acg (by lia) W] at g
        exact C.tr _ _ _ Z (K _ ib) sy (ad1 C b1 (K _ ib) x g) (C.asy _ _ (K _ ib) sy (L y hy))
       refine aao (λw=>wpS_pure ⟨G,.inl ⟨_,rfl,B.doneA (.inl (aG4.mp w))⟩⟩) (λw=>?_)
       have hP:Hi S R a b (out++(a.extract k na).reverse) k nb/\0<k/\(∀ x∈a.toList.take k,R b[nb-1] x=false)/\t+2<=(out++(a.extract k na).reverse).size:=by
        have a3:k ≠ 0:=λq=>w (aG4.mpr q)
        exact⟨B,by lia,D,by rw[Array.size_append];lia⟩
       revert hP
       clear w B
       generalize out++(a.extract k na).reverse=d
       generalize k=c
       intro hP
       exact X d c hP
      ·have:k=na:=by lia
       rw[this] at D
       exact X out na ⟨l,p,D,hsz⟩
     have l3:=h5.1
     have F:=h5.2.1
     have a4:=h5.2.2.1
     have b3:=h5.2.2.2
     have H:=l3.na
     have ia:c-1<a.size:=by lia
     refine wpS_bind (aaz (x:=b[nb-1]) (aA4 ib) ?_)
     have l4:=l3.pushB (by lia) a4
     refine aao (λe5=>wpS_pure ⟨G,.inl ⟨_,rfl,l4.firstB T (aG4.mp e5)⟩⟩) (λe5=>?_)
     replace e5:nb-1 ≠ 1:=λq=>e5 (aG4.mpr q)
     refine wpS_bind (aaz (x:=a[c-1]) (aA4 ia) ?_)
     refine wpS_bind (ahm C (I _ ia) T.hb (by lia) (by rw[List.drop_zero];exact ab9 T.sb) (by lia) (G.k.trans hk) λv a7 Y O=>?_)
     rw[List.drop_zero] at Y O
     dsimp only
     generalize hbc:nb-1-v=bc2
     refine' jpn2 (M:=M) (A:=A) (E:=E) (s:=s) (st:=N) (P:=λn u=>Hi S R a b n c u/\1<u/\(∀ x∈b.toList.take u,R a[c-1] x=false)/\t+2<=n.size) (prog:=?prog3) (λX=>?use3) (λn u h6=>?pf3)
     case use3 =>
      have a1:∀ x∈b.toList.take v,R a[c-1] x=false:=λx g=>C.asy _ _ (T.hb x (aC0 g)) (I _ ia) (Y x g)
      refine aao (λk0=>?_) (λk0=>?_)
      ·have a5:Srt R (a.toList.take (c-1)++[a[c-1]]):=by rw[← acg F H];exact ab9 T.sa
       have l5:Hi S R a b (d.push b[nb-1]++(b.extract v (nb-1)).reverse) c v:=l4.runB a7 λx g y hy=>by
        have Z:S x:=T.ha x (aC0 g)
        have sy:S y:=T.hb y (aC0 (aC4 hy))
        rw[acg F H] at g
        exact C.tr _ _ _ Z (I _ ia) sy (ad1 C a5 (I _ ia) x g) (O y hy)
       refine aao (λe6=>wpS_pure ⟨G,.inl ⟨_,rfl,l5.firstB T (aG4.mp e6)⟩⟩) (λe6=>?_)
       refine aao (λU=>wpS_pure ⟨G,.inl ⟨_,rfl,l5.doneA (.inr (aG4.mp U))⟩⟩) (λU=>?_)
       have hP:Hi S R a b (d.push b[nb-1]++(b.extract v (nb-1)).reverse) c v/\1<v/\(∀ x∈b.toList.take v,R a[c-1] x=false)/\t+2<=(d.push b[nb-1]++(b.extract v (nb-1)).reverse).size:=by
        have b7:v ≠ 1:=λq=>e6 (aG4.mpr q)
        have a8:v ≠ 0:=λq=>U (aG4.mpr q)
        exact⟨l5,by lia,a1,by rw[Array.size_append,aI0];lia⟩
       revert hP
       clear e6 U l5
       generalize d.push b[nb-1]++(b.extract v (nb-1)).reverse=n
       generalize v=u
       intro hP
       exact X n u hP
      ·have:v=nb-1:=by lia
       rw[this] at a1
       exact X (d.push b[nb-1]) (nb-1) ⟨l4,by lia,a1,by rw[aI0];lia⟩
     refine wpS_bind (aaz (x:=a[c-1]) (aA4 ia) ?_)
     have l7:=h6.1.pushA F h6.2.2.1
     refine aao (λU=>wpS_pure ⟨G,.inl ⟨_,rfl,l7.doneA (.inl (aG4.mp U))⟩⟩) (λU=>?_)
     have hf:0<c-1/\1<u/\t+2<=(n.push a[c-1]).size:=by
      have a8:c-1 ≠ 0:=λq=>U (aG4.mpr q)
      have h7:=h6.2.2.2
      exact⟨by lia,h6.2.1,by rw[aI0];lia⟩
     exact aao (λ_=>wpS_pure ⟨G,.inr ⟨rfl,l7,hf⟩⟩) (λ_=>wpS_pure ⟨G,rfl,l7,hf⟩)
    ·intro z j f
     have q2:=f.1
     refine unR (J:=λy:Nat × Nat × Array Keyed × Nat × Nat × Nat=>Hi S R a b y.2.2.1 y.1 y.2.1/\0<y.1/\1<y.2.1/\t+2<=y.2.2.1.size) z f.2 (λr x hr=>wpS_pure ⟨q2,r,rfl,hr⟩) λhN=>?_
     refine un7 (J:=λna nb out _ _ _=>Hi S R a b out na nb/\0<na/\1<nb/\t+2<=out.size) z hN λna nb out mg ac bc o=>?_
     dsimp only
     refine wpS_bind (wpS_modify ?_)
     exact wpS_pure ⟨q2.trans ⟨rfl,rfl,rfl,rfl⟩,rfl,o⟩
  ·intro z j f
   exfalso
   have D:=f.2.2.1.len
   have L:=f.2.2.2
   have:a.size+b.size<=max 0 (a.size+b.size):=by lia
   lia
 ·intro z j f
  have q2:=f.1
  exact unR (J:=λ_=>False) z (.inl f.2) (λr x hr=>wpS_pure (h r j q2 hr)) λhN=>hN.2.elim
end
theorem aj3(base:Nat):∀(b v u w:List Keyed)(j:Nat)(xs:Array Keyed),xs.toList=u++v++w->v.length=b.length->u.length=base+j ->
  ((b.zipIdx j).foldl (λa x=>match x with|(p,j)=>a.setIfInBounds (base+j) p) xs).toList=u++b++w
 | [],v,u,w,j,xs,h1,h2,h3=>by
  have:v=[]:=aH3 h2
  subst this
  exact h1
 | m::b,v,u,w,j,xs,h1,h2,h3=>by
  cases v with
  |nil=>cases h2
  | cons y v =>
   rw[List.zipIdx_cons,List.foldl_cons]
   have c:=aj3 base b v (u++[m]) w (j+1) (xs.setIfInBounds (base+j) m) (by
    rw[Array.toList_setIfInBounds,h1,← h3]
    simp[List.set_append]) (by simpa using h2) (by simp[h3];lia)
   rw[c]
   simp
section
variable{M:Model}{A:Around}{E:Value->Shared->Prop}{s:Shared}{κ:SortKind}{S:Keyed->Prop}{R:Keyed->Keyed->Bool}
theorem axd{σ:Type}{st st' : σ}{Q:PUnit->σ->Prop}(h:Q ⟨⟩ st'):wpS M A E s (set st':StateT σ Sem PUnit) Q st:=by
 unfold wpS
 rw[StateT.run_set]
 exact aJ2 ⟨rfl,h⟩
theorem aqf(C:Cmp M A E s κ S R){st:SortSt}{i pw pw2:Nat}{pre a b g:List Keyed}(F:(arrOf st).toList=pre++a++b++g)(hS:∀ x∈(arrOf st).toList,S x)
  (a2:(pendingOf st)[i]?=some (pre.length,a.length,pw)) (a6:(pendingOf st)[i+1]?=some (pre.length+a.length,b.length,pw2)) (na:a ≠ []) (nb:b ≠ []) (U:Srt R a) (O:Srt R b) (hk:kindOf st = κ) (hf:failedOf st=none)
  {Q:Bool->SortSt->Prop}
  (h:∀ st' m,kindOf st' = κ->failedOf st'=none->pendingOf st'=((pendingOf st).setIfInBounds i (pre.length,a.length+b.length,pw)).eraseIdxIfInBounds (i+1)->(arrOf st').toList=pre++m++g->m.Perm (a++b)->Srt R m->Q true st') :
  wpS M A E s (al7 i) Q st:=by
 have la:0<a.length:=aG0.mpr na
 have lb:0<b.length:=aG0.mpr nb
 have I:∀ x∈a,S x:=λx c=>hS x (by rw[F];simp[c])
 have P:∀ x∈b,S x:=λx c=>hS x (by rw[F];simp[c])
 have lx:(arrOf st).size=pre.length+a.length+b.length+g.length:=by
  have:=congrArg List.length F
  simp at this
  lia
 have D:((arrOf st).toList.drop pre.length).take a.length=a:=by rw[F];simp[aB4]
 have B:((arrOf st).toList.drop (pre.length+a.length)).take b.length=b:=by
  rw[show pre.length+a.length=(pre++a).length by simp,F,aB4 (pre++a),List.drop_left,List.take_left]
 refine wpS_bind (wpS_get ?_)
 rw[a2,a6]
 refine wpS_bind (wpS_mono (Q:=λ_ n=>kindOf n = κ/\failedOf n=none/\arrOf n=arrOf st/\pendingOf n=((pendingOf st).setIfInBounds i (pre.length,a.length+b.length,pw)).eraseIdxIfInBounds (i+1)) (axd ⟨hk,hf,rfl,rfl⟩) λ_ n ⟨k1,f1,a1,p1⟩=>?_)
 obtain⟨b0,bt,eb⟩:∃ b0 bt,b=b0::bt:=by cases b with|nil=>exact absurd rfl nb|cons x r=>exact⟨x,r,rfl⟩
 have a0:(arrOf st)[pre.length+a.length]?=some b0:=by
  rw[← aD6,F,eb]
  simp[List.getElem?_append]
 have v:S b0:=P b0 (by rw[eb];simp)
 have w:∀ y∈b,R y b0=false:=λy d=>by rw[eb] at d O;exact aem C O v y d
 -- nothing is laid together: the two stand in order already
 have plain:(∀ x∈a,∀ y∈b,R y x=false)->∀ st',Eqv n st'->Q true st':=λhc st' q=>by
  refine h st' (a++b) (q.k.trans k1) (q.f.trans f1) (q.p.trans p1) ?_ (List.Perm.refl _) (aC9.mpr ⟨U,O,hc⟩)
  rw[q.a,a1,F]
  simp[aB4]
 refine wpS_bind (aaz a0 ?_)
 refine wpS_bind (agb C v hS (by lia) (by rw[D];exact U) la k1 λk a8 h1 h2=>?_)
 rw[D] at h2
 have G:∀ x∈a.take k,R b0 x=false:=λx c=>h1 x (by
  have:((arrOf st).toList.drop pre.length).take k=a.take k:=by rw[← D,List.take_take,Nat.min_eq_left a8]
  rw[this];exact c)
 dsimp only
 refine aao (λe=>?_) (λe=>?_)
 ·have e':a.length-k=0:=by simpa using e
  refine wpS_pure (plain (λx c y d=>?_) n (Eqv.refl _))
  have:a.take k=a:=aF2 (by lia)
  rw[this] at G
  exact C.tr x b0 y (I x c) v (P y d) (G x c) (w y d)
 ·have e':a.length-k ≠ 0:=by simpa using e
  -- the last of a
  have L:pre.length+k+(a.length-k)-1=pre.length+(a.length-1):=by lia
  have o:a.length-1<a.length:=by lia
  have a5:(arrOf st)[pre.length+k+(a.length-k)-1]?=some (a[a.length-1]'o):=by
   rw[← aD6,F,L]
   simp[List.getElem?_append,o,aB4]
  have Sl:S (a[a.length-1]'o):=I _ (aF3 o)
  have u:a=a.take (a.length-1)++[a[a.length-1]'o]:=by
   have:=List.take_succ (l:=a) (i:=a.length-1)
   rw[show a.length-1+1=a.length by lia,aG9] at this
   simpa[o] using this
  have K:∀ x∈a,R (a[a.length-1]'o) x=false:=λx c=>by
   have hs:Srt R (a.take (a.length-1)++[a[a.length-1]'o]):=by rw[← u];exact U
   exact ad1 C hs Sl x (by rw[← u];exact c)
  refine wpS_bind (aaz a5 ?_)
  refine wpS_bind (ahm C Sl hS (by lia) (by rw[B];exact O) (by lia) k1 λj a7 h3 h4=>?_)
  rw[B] at h4
  have W:((arrOf st).toList.drop (pre.length+a.length)).take j=b.take j:=by rw[← B,List.take_take,Nat.min_eq_left a7]
  rw[W] at h3
  dsimp only
  refine aao (λe2=>?_) (λe2=>?_)
  ·have Z:j=0:=by simpa using e2
   subst Z
   refine wpS_pure (plain (λx c y d=>?_) n (Eqv.refl _))
   exact C.tr x _ y (I x c) Sl (P y d) (K x c) (h4 y (by simpa using d))
  ·have Z:j ≠ 0:=by simpa using e2
   have ex:((arrOf st).extract (pre.length+k) (pre.length+a.length)).toList=a.drop k:=by
    rw[al8,F]
    simp[aB4,List.take_append,List.drop_append]
   have N:((arrOf st).extract (pre.length+a.length) (pre.length+a.length+j)).toList=b.take j:=by
    rw[ai8,W]
   generalize hX:(arrOf st).extract (pre.length+k) (pre.length+a.length)=X at ex
   generalize hY:(arrOf st).extract (pre.length+a.length) (pre.length+a.length+j)=Y at N
   have sX:X.size=a.length-k:=by have:=congrArg List.length ex;simpa using this
   have sY:Y.size=j:=by have:=congrArg List.length N;simp at this;lia
   have T:Two S R X Y:=by
    refine⟨λx c=>I x (aC4 (by rw[← ex];exact c)),λx c=>P x (aC0 (by rw[← N];exact c)),by rw[ex];exact acw U,by rw[N];exact ab9 O,by lia,by lia,λx c y d=>?_,λy d x c=>?_⟩
    ·rw[← aD6,N,eb] at d
     have:y=b0:=by
      obtain⟨j',rfl⟩:∃ j',j=j'+1:=⟨j-1,by lia⟩
      simpa using d.symm
     rw[this]
     rw[ex] at c
     exact C.asy _ _ v (I x (aC4 c)) (h2 x c)
    ·rw[← aD6,ex,sX] at c
     rw[aI3,show k+(a.length-k-1)=a.length-1 by lia,aA0 o] at c
     cases c
     rw[N] at d
     exact C.asy _ _ (P y (aC0 d)) Sl (h3 y d)
   have fin:∀(m:Array Keyed)(st':SortSt),Eqv n st'->Fin2 R X Y m->wpS M A E s (do
     modify λ(z:SortSt)=>setArr z (List.foldl (λa x=>match x with|(p,j)=>a.setIfInBounds (pre.length+k+j) p) (arrOf z) m.toList.zipIdx)
     let z ← get
     pure (failedOf z).isNone) Q st':=by
    intro m st' q ⟨H,ms⟩
    rw[ex,N] at H
    refine wpS_bind (wpS_modify ?_)
    refine wpS_bind (wpS_get ?_)
    refine wpS_pure ?_
    show Q (failedOf st').isNone _
    rw[q.f,f1]
    have lm:m.toList.length=(a.drop k).length+(b.take j).length:=by rw[H.length_eq,aB1]
    have J:∀ z∈m.toList,z∈a.drop k\/z∈b.take j:=λz hz=>aA7.mp (H.mem_iff.mp hz)
    refine h _ (a.take k++m.toList++b.drop j) (q.k.trans k1) (q.f.trans f1) (q.p.trans p1) ?_ ?_ ?_
    ·show(List.foldl _ (arrOf st') m.toList.zipIdx).toList=_
     have base:(arrOf st').toList=(pre++a.take k)++(a.drop k++b.take j)++(b.drop j++g):=by
      rw[q.a,a1,F]
      have t1:=aC1 k a
      have t2:=aC1 j b
      calc pre++a++b++g=pre++(a.take k++a.drop k)++(b.take j++b.drop j)++g:=by rw[t1,t2]
       _=_:=by simp only[aB4]
     have:=aj3 (pre.length+k) m.toList (a.drop k++b.take j) (pre++a.take k) (b.drop j++g) 0 (arrOf st') base (by rw[aB1,lm]) (by rw[aB1,aH1];lia)
     rw[this]
     simp only[aB4]
    ·have t1:=aC1 k a
     have t2:=aC1 j b
     calc (a.take k++m.toList++b.drop j).Perm (a.take k++(a.drop k++b.take j)++b.drop j):=List.Perm.append_right _ (List.Perm.append_left _ H)
      _ = a++b:=by
       simp only[aB4]
       rw[t2,← aB4,t1]
    ·have a4:Srt R (a.take k++a.drop k):=by rw[aC1];exact U
     have a3:Srt R (b.take j++b.drop j):=by rw[aC1];exact O
     have ca:=(aC9.mp a4).2.2
     have cb:=(aC9.mp a3).2.2
     refine aC9.mpr ⟨aC9.mpr ⟨ab9 U,ms,λx c y d=>?_⟩,acw O,λx c y d=>?_⟩
     ·rcases J y d with d|d
      ·exact ca x c y d
      ·exact C.tr x b0 y (I x (aC0 c)) v (P y (aC0 d)) (G x c) (w y (aC0 d))
     ·have Sy:=P y (aC4 d)
      rcases aA7.mp c with c|c
      ·exact C.tr x b0 y (I x (aC0 c)) v Sy (G x c) (w y (aC4 d))
      ·rcases J x c with c|c
       ·exact C.tr x _ y (I x (aC4 c)) Sl Sy (K x (aC4 c)) (h4 y d)
       ·exact cb x c y d
   refine aao (λe3=>?_) (λe3=>?_)
   ·exact wpS_bind (aqd C T k1 λm st' q fm=>fin m st' q fm)
   ·exact wpS_bind (aqe C T k1 λm st' q fm=>fin m st' q fm)
end
def e(xs:Array Keyed)(k:Nat):Keyed:=(xs[k]?).getD (.none,.none)
theorem ah9{xs:Array Keyed}{k:Nat}(h:k<xs.size):xs[k]?=some (e xs k):=by
 unfold e;rw[aA4 h];rfl
def Asc(R:Keyed->Keyed->Bool)(xs:Array Keyed)(l h:Nat):Prop:=∀ i j,l<=i->i<=j->j<h->R (e xs j) (e xs i)=false
def Des(R:Keyed->Keyed->Bool)(xs:Array Keyed)(l h:Nat):Prop:=∀ i j,l<=i->i<=j->j<h->R (e xs i) (e xs j)=false
structure Bs(κ:SortKind)(p0:Array (Nat × Nat × Nat))(a0:Array Keyed)(lo:Nat)(st:SortSt):Prop where
 k:kindOf st = κ
 f:failedOf st=none
 p:pendingOf st=p0
 perm:(arrOf st).toList.Perm a0.toList
 pre:∀ k,k<lo->(arrOf st)[k]?=a0[k]?
theorem auj{xs:Array Keyed}{src d:Nat}(hs:src<xs.size)(hd:d<=src)(k:Nat):e (bubble xs src d) k=if k=src-d then e xs src else if src-d<k/\k<=src then e xs (k-1) else e xs k:=by
 unfold e
 rw[getElem?_bubble hs d hd]
 repeat' split
 all_goals rfl
theorem adi{xs:Array Keyed}{i j:Nat}(a:j<=xs.size)(k:Nat):e (mirror xs i j ((j-i) / 2)) k=if i<=k/\k<j then e xs (i+j-1-k) else e xs k:=by
 unfold e
 rw[getElem?_mirror_all a]
 split <;> rfl
section
variable{M:Model}{A:Around}{E:Value->Shared->Prop}{s:Shared}{κ:SortKind}{S:Keyed->Prop}{R:Keyed->Keyed->Bool}{p0:Array (Nat × Nat × Nat)}{a0:Array Keyed}{lo:Nat}
theorem Bs.size{st:SortSt}(B:Bs κ p0 a0 lo st):(arrOf st).size=a0.size:=by
 have:=B.perm.length_eq
 simpa using this
theorem Bs.sat{st:SortSt}(B:Bs κ p0 a0 lo st)(a:∀ x∈a0.toList,S x){k:Nat}(b:k<a0.size):S (e (arrOf st) k):=by
 have h:=ah9 (xs:=arrOf st) (k:=k) (by rw[B.size];exact b)
 refine a _ (B.perm.mem_iff.mp ?_)
 rw[← aD6] at h
 exact aA2 h
theorem agc(C:Cmp M A E s κ S R)(a:∀ x∈a0.toList,S x){st:SortSt}(B:Bs κ p0 a0 lo st){i j:Nat}(hi:i<a0.size)(b:j<a0.size){Q:Option Bool->SortSt->Prop}(h:Q (some (R (e (arrOf st) i) (e (arrOf st) j))) st) :
  wpS M A E s (ltAt' i j) Q st:=by
 rw[ltAt'_eq]
 refine wpS_bind (wpS_get ?_)
 refine wpS_bind (aaz (ah9 (by rw[B.size];exact hi)) ?_)
 refine wpS_bind (aaz (ah9 (by rw[B.size];exact b)) ?_)
 exact C.ask _ _ (B.sat a hi) (B.sat a b) _ _ B.k h
theorem auk(C:Cmp M A E s κ S R){xs:Array Keyed}{l h:Nat}(b:∀ k,k<=h->S (e xs k))(f:l<h)(a:Asc R xs l h)(n:R (e xs h) (e xs (h-1))=false):Asc R xs l (h+1):=by
 intro i j c d g
 by_cases hj:j=h
 ·subst hj
  by_cases hi:i=j
  ·subst hi;exact C.irr (b _ (aA6 _))
  ·exact C.tr _ (e xs (j-1)) _ (b _ (by lia)) (b _ (by lia)) (b _ (by lia)) (a i (j-1) c (by lia) (by lia)) n
 ·exact a i j c d (by lia)
theorem afj(C:Cmp M A E s κ S R){xs:Array Keyed}{l h:Nat}(b:∀ k,k<=h->S (e xs k))(f:l<h)(a:Des R xs l h)(n:R (e xs (h-1)) (e xs h)=false):Des R xs l (h+1):=by
 intro i j c d g
 by_cases hj:j=h
 ·subst hj
  by_cases hi:i=j
  ·subst hi;exact C.irr (b _ (aA6 _))
  ·exact C.tr _ (e xs (j-1)) _ (b _ (by lia)) (b _ (by lia)) (b _ (by lia)) n (a i (j-1) c (by lia) (by lia))
 ·exact a i j c d (by lia)
theorem Bs.set{st:SortSt}(B:Bs κ p0 a0 lo st){xs:Array Keyed}(b:xs.Perm (arrOf st))(c:∀ k,k<lo->xs[k]?=(arrOf st)[k]?):Bs κ p0 a0 lo (setArr st xs) :=
 ⟨B.k,B.f,B.p,b.toList.trans B.perm,λk a=>(c k a).trans (B.pre k a)⟩
theorem aqg (C:Cmp M A E s κ S R) (w:∀ x∈a0.toList,S x) {st:SortSt} (B:Bs κ p0 a0 lo st) {n ok:Nat} (hn:lo+n<=a0.size) (hok:ok<=n) (N:1<=n) (hs:Asc R (arrOf st) lo (lo+ok)) {Q:Bool->SortSt->Prop}
  (h:∀ st',Bs κ p0 a0 lo st'->Asc R (arrOf st') lo (lo+n)->Q true st'):wpS M A E s (aui lo n ok) Q st:=by
 refine wpS_bind (wpS_mono (Q:=λ(z:Option Bool × Unit) st'=>z.1=none/\Bs κ p0 a0 lo st'/\Asc R (arrOf st') lo (lo+n)) ?_ ?_)
 ·refine wpS_forRange (λk (z:Option Bool × Unit) st'=>z.1=none/\Bs κ p0 a0 lo st'/\Asc R (arrOf st') lo (lo+k)) ?_ ?_ ⟨rfl,B,λi j m g u=>?_⟩
  ·rintro k ⟨o,_⟩ b L I ⟨rfl,q,as⟩
   have d:∀ j,j<lo+n->S (e (arrOf b) j):=λj D=>q.sat w (by lia)
   refine wpS_bind (wpS_mono (Q:=λ(z:Option Bool × Nat × Nat) st'=>st'=b/\z.1=none/\z.2.1<=k/\(∀ i,i<z.2.1->R (e (arrOf b) (lo+k)) (e (arrOf b) (lo+i))=false)/\(∀ i,z.2.1<=i->i<k->R (e (arrOf b) (lo+k)) (e (arrOf b) (lo+i))=true)) ?_ ?_)
   ·refine wpS_forRange (λt (z:Option Bool × Nat × Nat) st'=>st'=b/\z.1=none/\z.2.1<=z.2.2/\z.2.2<=k/\z.2.2-z.2.1+t<=k/\(∀ i,i<z.2.1->R (e (arrOf b) (lo+k)) (e (arrOf b) (lo+i))=false)/\(∀ i,z.2.2<=i->i<k->R (e (arrOf b) (lo+k)) (e (arrOf b) (lo+i))=true)) ?_ ?_
     ⟨rfl,rfl,Nat.zero_le _,Nat.le_refl _,by dsimp only;lia,λi hi=>absurd hi (Nat.not_lt_zero _),λi m g=>by dsimp only at m;lia⟩
    ·rintro t ⟨o,l,r⟩ a _ O ⟨rfl,c,m,g,u,p,f⟩
     dsimp only at c m g u p f ⊢
     subst c
     refine aao (λy=>?_) (λy=>?_)
     ·have:l=r:=by lia
      subst this
      exact wpS_pure ⟨rfl,rfl,g,p,f⟩
     ·have hm:(l+r) / 2<r:=by lia
      have F:l<=(l+r) / 2:=by lia
      refine wpS_bind (agc C w q (by lia) (by lia) ?_)
      dsimp only
      cases er:R (e (arrOf a) (lo+k)) (e (arrOf a) (lo+(l+r) / 2)) with
      | true =>
       rw[aF6 rfl]
       refine wpS_pure ⟨rfl,rfl,F,by dsimp only;lia,by dsimp only;lia,p,λi i1 v=>?_⟩
       dsimp only at i1
       cases e2:R (e (arrOf a) (lo+k)) (e (arrOf a) (lo+i)) with
       |true=>rfl
       | false =>
        have:=C.tr _ _ _ (d _ (by lia)) (d _ (by lia)) (d _ (by lia)) (as (lo+(l+r) / 2) (lo+i) (by lia) (by lia) (by lia)) e2
        rw[this] at er;cases er
      | false =>
       rw[aF7 (by decide)]
       refine wpS_pure ⟨rfl,rfl,by dsimp only;lia,g,by dsimp only;lia,λi i1=>?_,f⟩
       dsimp only at i1
       exact C.tr _ _ _ (d _ (by lia)) (d _ (by lia)) (d _ (by lia)) (as (lo+i) (lo+(l+r) / 2) (by lia) (by lia) (by lia)) er
    ·rintro⟨o,l,r⟩ a ⟨rfl,c,m,g,u,p,f⟩
     dsimp only at c m g u p f ⊢
     have : l = r := by have:k ≤ max 0 k := by lia
                        lia
     subst this
     exact⟨rfl,c,g,p,f⟩
   ·rintro⟨o,l,r⟩ a ⟨rfl,c,m,p,f⟩
    dsimp only at c m p f ⊢
    subst c
    dsimp only
    have hsz:lo+k<(arrOf a).size:=by rw[q.size];lia
    have hd:(lo+k)-(lo+l)=k-l:=by lia
    refine wpS_bind (wpS_modify ?_)
    have H:∀ j,e (bubble (arrOf a) (lo+k) (lo+k-(lo+l))) j=if j=lo+l then e (arrOf a) (lo+k) else if lo+l<j/\j<=lo+k then e (arrOf a) (j-1) else e (arrOf a) j:=λj=>by
     rw[auj hsz (by lia),show lo+k-(lo+k-(lo+l))=lo+l by lia]
    refine wpS_pure ⟨rfl,q.set (bubble_perm _ _ _) (λj D=>?_),λi j i1 v J=>?_⟩
    ·show(bubble (arrOf a) (lo+k) (lo+k-(lo+l)))[j]?=_
     rw[getElem?_bubble hsz _ (by lia),aF7 (by lia),aF7 (by lia)]
    ·show R (e (bubble (arrOf a) (lo+k) (lo+k-(lo+l))) j) (e (bubble (arrOf a) (lo+k) (lo+k-(lo+l))) i)=false
     rw[H,H]
     have K:∀ j,j<lo+n->S (e (arrOf a) j):=d
     by_cases j1:j=lo+l
     ·rw[aF6 j1]
      by_cases i4:i=lo+l
      ·rw[aF6 i4];exact C.irr (d _ (by lia))
      ·rw[aF7 i4,aF7 (by lia)]
       have:=p (i-lo) (by lia)
       rw[show lo+(i-lo)=i by lia] at this
       exact this
     ·rw[aF7 j1]
      by_cases j2:lo+l<j/\j<=lo+k
      ·rw[aF6 j2]
       have G:=f (j-1-lo) (by lia) (by lia)
       rw[show lo+(j-1-lo)=j-1 by lia] at G
       by_cases i4:i=lo+l
       ·rw[aF6 i4];exact C.asy _ _ (d _ (by lia)) (d _ (by lia)) G
       ·rw[aF7 i4]
        by_cases i5:lo+l<i/\i<=lo+k
        ·rw[aF6 i5];exact as (i-1) (j-1) (by lia) (by lia) (by lia)
        ·rw[aF7 i5];exact as i (j-1) (by lia) (by lia) (by lia)
      ·rw[aF7 j2,aF7 (by lia),aF7 (by lia)]
       exact as i j (by lia) (by lia) (by lia)
  ·rintro⟨o,_⟩ b ⟨c,q,as⟩
   exact⟨c,q,λi j i1 v J=>as i j i1 v (by lia)⟩
  ·by_cases D:j<lo+ok
   ·exact hs i j m g D
   ·have:i=j:=by lia
    subst this
    exact C.irr (B.sat w (by lia))
 ·rintro⟨o,_⟩ b ⟨c,q,as⟩
  dsimp only at c ⊢
  subst c
  exact wpS_pure (h b q as)
end
def Eqb(R:Keyed->Keyed->Bool)(xs:Array Keyed)(l h:Nat):Prop:=∀ i j,l<=i->i<h->l<=j->j<h->R (e xs i) (e xs j)=false
section
variable{M:Model}{A:Around}{E:Value->Shared->Prop}{s:Shared}{κ:SortKind}{S:Keyed->Prop}{R:Keyed->Keyed->Bool}{p0:Array (Nat × Nat × Nat)}{a0:Array Keyed}{lo:Nat}
theorem aoz{α:Type}{prog:StateT SortSt Sem α}{P:SortSt->Prop}{Q : α->SortSt->Prop}{G:Prop}(use:(∀ st,P st->wpS M A E s prog Q st)->G)(a:∀ st,P st->wpS M A E s prog Q st):G:=use a
theorem al9(C:Cmp M A E s κ S R)(f:∀ x∈a0.toList,S x){st:SortSt}(B:Bs κ p0 a0 lo st){a nrem:Nat}(j:1<=a)(g:a<=nrem)(hn:lo+nrem<=a0.size)(as:Asc R (arrOf st) lo (lo+a)){Q:Option (Option Nat) × Nat->SortSt->Prop}
  (h:∀ n,a<=n->n<=nrem->Asc R (arrOf st) lo (lo+n)->(n<nrem->R (e (arrOf st) (lo+n)) (e (arrOf st) (lo+n-1))=true)->Q (none,n) st) :
  wpS M A E s (forIn [a:nrem] ((none,a):Option (Option Nat) × Nat) (λ(_:Nat) z=>ltAt' (lo+z.2) (lo+z.2-1) >>= λx=>match x with
   |some smaller=>if smaller=true then pure (ForInStep.done (none,z.2)) else pure (ForInStep.yield (none,z.2+1))
   |_=>pure (ForInStep.done (some none,z.2)))) Q st:=by
 refine wpS_forRange (λt (z:Option (Option Nat) × Nat) st'=>st'=st/\z=(none,t)/\Asc R (arrOf st) lo (lo+t)) ?_ ?_ ⟨rfl,rfl,as⟩
 ·rintro t ⟨o,n⟩ c t1 l ⟨rfl,d,b⟩
  cases d
  dsimp only
  refine wpS_bind (agc C f B (by lia) (by lia) ?_)
  dsimp only
  cases er:R (e (arrOf c) (lo+t)) (e (arrOf c) (lo+t-1)) with
  | true =>
   rw[aF6 rfl]
   exact wpS_pure (h t t1 (by lia) b λ_=>er)
  | false =>
   rw[aF7 (by decide)]
   exact wpS_pure ⟨rfl,rfl,auk C (h:=lo+t) (λk i=>B.sat f (by lia)) (by lia) b er⟩
 ·rintro⟨o,n⟩ c ⟨rfl,d,b⟩
  cases d
  rw[show max a nrem=nrem by lia] at b ⊢
  exact h nrem g (aA6 _) b λz=>absurd z (aG5 _)
theorem aul(C:Cmp M A E s κ S R){st:SortSt}(B:Bs κ p0 a0 lo st){n:Nat}(hn:lo+n<=a0.size)(a:Des R (arrOf st) lo (lo+n)) :
  Bs κ p0 a0 lo (setArr st (mirror (arrOf st) lo (lo+n) ((lo+n-lo) / 2)))/\Asc R (mirror (arrOf st) lo (lo+n) ((lo+n-lo) / 2)) lo (lo+n):=by
 have hz:lo+n<=(arrOf st).size:=by rw[B.size];exact hn
 refine⟨B.set (mirror_perm _ _ _ _) (λk b=>by rw[getElem?_mirror_all hz,aF7 (by lia)]),λi j c d f=>?_⟩
 rw[adi hz,adi hz,aF6 (by lia),aF6 (by lia)]
 exact a _ _ (by lia) (by lia) (by lia)
theorem ai9(C:Cmp M A E s κ S R)(c:∀ x∈a0.toList,S x){st:SortSt}(B:Bs κ p0 a0 lo st){l h m:Nat}(g:lo<=l)(hh:h<=a0.size)(hm:h<=m)(d:m<=a0.size)(a:Des R (arrOf st) lo m)(eq:Eqb R (arrOf st) l h) :
  Bs κ p0 a0 lo (setArr st (mirror (arrOf st) l h ((h-l) / 2)))/\Des R (mirror (arrOf st) l h ((h-l) / 2)) lo m:=by
 have hz:h<=(arrOf st).size:=by rw[B.size];exact hh
 refine⟨B.set (mirror_perm _ _ _ _) (λk b=>by rw[getElem?_mirror_all hz,aF7 (by lia)]),λi j n f o=>?_⟩
 rw[adi hz,adi hz]
 have p:∀ k,k<m->S (e (arrOf st) k):=λk b=>B.sat c (by lia)
 by_cases c1:l<=i/\i<h
 ·rw[aF6 c1]
  by_cases c2:l<=j/\j<h
  ·rw[aF6 c2]
   exact eq _ _ (by lia) (by lia) (by lia) (by lia)
  ·rw[aF7 c2]
   exact a _ _ (by lia) (by lia) (by lia)
 ·rw[aF7 c1]
  by_cases c2:l<=j/\j<h
  ·rw[aF6 c2]
   exact a _ _ (by lia) (by lia) (by lia)
  ·rw[aF7 c2]
   exact a _ _ (by lia) (by lia) (by lia)
theorem ar8 (C:Cmp M A E s κ S R) (p:∀ x∈a0.toList,S x) {st:SortSt} (B:Bs κ p0 a0 lo st) {nrem:Nat} (h1:1<=nrem) (hn:lo+nrem<=a0.size) {Q:Option Nat->SortSt->Prop}
  (h:∀ st' n,Bs κ p0 a0 lo st'->1<=n->n<=nrem->Asc R (arrOf st') lo (lo+n)->Q (some n) st'):wpS M A E s (axc lo nrem) Q st:=by
 refine wpS_bind (al9 C p B (aA6 1) h1 hn (λi j i1 r X=>?_) λn n1 n2 as br=>?_)
 ·have:i=j:=by lia
  subst this
  exact C.irr (B.sat p (by lia))
 dsimp only
 refine aao (λen=>wpS_pure (h st n B n1 n2 as)) (λen=>?_)
 have a5:n ≠ nrem:=by simpa using en
 have U:n<nrem:=by lia
 have G:=br U
 refine aoz (M:=M) (A:=A) (E:=E) (s:=s) (α:=Option Nat) (Q:=Q) (P:=λv=>Bs κ p0 a0 lo v/\Des R (arrOf v) lo (lo+n)/\R (e (arrOf v) (lo+n)) (e (arrOf v) (lo+n-1))=true) (prog:=?prog) (λL=>?use) (λv ⟨N,W,Y⟩=>?pf)
 case use =>
  refine aao (λg1=>?_) (λg1=>?_)
  ·refine wpS_bind (agc C p B (by lia) (by lia) ?_)
   dsimp only
   cases er:R (e (arrOf st) lo) (e (arrOf st) (lo+n-1)) with
   |true=>rw[aF6 rfl];exact wpS_pure (h st n B n1 n2 as)
   | false =>
    rw[aF7 (by decide)]
    -- all of them are equal
    have c:∀ k,k<lo+n->S (e (arrOf st) k):=λk J=>B.sat p (by lia)
    have all:Eqb R (arrOf st) lo (lo+n):=λi j i1 r y w=>by
     -- j<=last<=first<=i
     have a1:=as j (lo+n-1) y (by lia) (by lia)
     have a2:=as lo i (aA6 _) i1 r
     exact C.tr _ _ _ (c j w) (c lo (by lia)) (c i r) (C.tr _ _ _ (c j w) (c (lo+n-1) (by lia)) (c lo (by lia)) a1 er) a2
    have W:Des R (arrOf st) lo (lo+n):=λi j i1 r X=>all i j i1 (by lia) (by lia) X
    have hz:lo+n<=(arrOf st).size:=by rw[B.size];lia
    obtain⟨q,a⟩:=ai9 C p B (aA6 lo) (show lo+n<=a0.size by lia) (aA6 _) (by lia) W all
    refine wpS_bind (wpS_modify ?_)
    refine L _ ⟨q,a,?_⟩
    show R (e (mirror (arrOf st) lo (lo+n) ((lo+n-lo) / 2)) (lo+n)) (e (mirror (arrOf st) lo (lo+n) ((lo+n-lo) / 2)) (lo+n-1))=true
    rw[adi hz,adi hz,aF7 (by lia),aF6 (by lia)]
    rw[show lo+(lo+n)-1-(lo+n-1)=lo by lia]
    cases e2:R (e (arrOf st) (lo+n)) (e (arrOf st) lo) with
    |true=>rfl
    | false =>
     have:=C.tr _ _ _ (c (lo+n-1) (by lia)) (c lo (by lia)) (B.sat p (show lo+n<a0.size by lia)) er e2
     rw[this] at G;cases G
  ·have:n=1:=by lia
   subst this
   refine L st ⟨B,λi j i1 r X=>?_,G⟩
   have:i=j:=by lia
   subst this
   exact C.irr (B.sat p (by lia))
 case pf =>
  -- the falling part
  refine wpS_bind (ado ?_)
  refine wpS_bind (wpS_mono (Q:=λ(z:Option (Option Nat) × Nat × Nat) st'=>z.1=none/\Bs κ p0 a0 lo st'/\z.2.1<=nrem/\z.2.2+1<=z.2.1/\Des R (arrOf st') lo (lo+z.2.1)/\Eqb R (arrOf st') (lo+z.2.1-(z.2.2+1)) (lo+z.2.1)) ?_ ?_)
  ·refine wpS_forRange (λt (z:Option (Option Nat) × Nat × Nat) st'=>z.1=none/\z.2.1=t/\Bs κ p0 a0 lo st'/\z.2.2+1<=z.2.1/\Des R (arrOf st') lo (lo+z.2.1)/\Eqb R (arrOf st') (lo+z.2.1-(z.2.2+1)) (lo+z.2.1)) ?_ ?_ ⟨rfl,rfl,N,by dsimp only;lia,?_,λi j i1 r y w=>?_⟩
   ·rintro t ⟨o,m,b⟩ d t1 t2 ⟨D,O,q,H,a,f⟩
    dsimp only at D O H a f ⊢
    subst D O
    have c:∀ k,k<a0.size->S (e (arrOf d) k):=λk J=>q.sat p J
    refine wpS_bind (agc C p q (by lia) (by lia) ?_)
    dsimp only
    cases er:R (e (arrOf d) (lo+m)) (e (arrOf d) (lo+m-1)) with
    | true =>
     rw[aF6 rfl]
     refine aao (λg=>?_) (λg=>?_)
     ·have hz:lo+m<=(arrOf d).size:=by rw[q.size];lia
      obtain⟨I,u⟩:=ai9 C p q (l:=lo+m-(b+1)) (h:=lo+m) (by lia) (by lia) (aA6 _) (by lia) a f
      have K:∀ k,e (mirror (arrOf d) (lo+m-(b+1)) (lo+m) ((lo+m-(lo+m-(b+1))) / 2)) k=if lo+m-(b+1)<=k/\k<lo+m then e (arrOf d) (lo+m-(b+1)+(lo+m)-1-k) else e (arrOf d) k:=λk=>adi hz k
      refine wpS_bind (wpS_modify ?_)
      refine wpS_pure ⟨rfl,rfl,I,by dsimp only;lia,?_,λi j i1 r y w=>?_⟩
      ·show Des R (mirror (arrOf d) (lo+m-(b+1)) (lo+m) ((lo+m-(lo+m-(b+1))) / 2)) lo (lo+(m+1))
       refine afj C (h:=lo+m) (λk J=>I.sat p (by lia)) (by lia) u ?_
       rw[K,K,aF6 (by lia),aF7 (by lia)]
       rw[show lo+m-(b+1)+(lo+m)-1-(lo+m-1)=lo+m-(b+1) by lia]
       exact C.tr _ _ _ (c _ (by lia)) (c (lo+m-1) (by lia)) (c _ (by lia)) (C.asy _ _ (c _ (by lia)) (c _ (by lia)) er) (a _ _ (by lia) (by lia) (by lia))
      ·dsimp only at i1 r y w
       have:i=j:=by lia
       subst this
       exact C.irr (I.sat p (by lia))
     ·have:b=0:=by lia
      subst this
      refine wpS_pure ⟨rfl,rfl,q,by dsimp only;lia,afj C (h:=lo+m) (λk J=>c k (by lia)) (by lia) a (C.asy _ _ (c _ (by lia)) (c _ (by lia)) er),λi j i1 r y w=>?_⟩
      dsimp only at i1 r y w
      have:i=j:=by lia
      subst this
      exact C.irr (c _ (by lia))
    | false =>
     rw[aF7 (by decide)]
     refine wpS_bind (agc C p q (by lia) (by lia) ?_)
     dsimp only
     cases er2:R (e (arrOf d) (lo+m-1)) (e (arrOf d) (lo+m)) with
     | true =>
      rw[aF6 rfl]
      exact wpS_pure ⟨rfl,q,by dsimp only;lia,H,a,f⟩
     | false =>
      rw[aF7 (by decide)]
      refine wpS_pure ⟨rfl,rfl,q,by dsimp only;lia,afj C (h:=lo+m) (λk J=>c k (by lia)) (by lia) a er2,λi j i1 r y w=>?_⟩
      dsimp only at i1 r y w
      by_cases ci:i=lo+m
      ·by_cases cj:j=lo+m
       ·rw[ci,cj];exact C.irr (c _ (by lia))
       ·rw[ci]
        exact C.tr _ _ _ (c j (by lia)) (c (lo+m-1) (by lia)) (c _ (by lia)) (f (lo+m-1) j (by lia) (by lia) (by lia) (by lia)) er
      ·by_cases cj:j=lo+m
       ·rw[cj]
        exact C.tr _ _ _ (c _ (by lia)) (c (lo+m-1) (by lia)) (c i (by lia)) er2 (f i (lo+m-1) (by lia) (by lia) (by lia) (by lia))
       ·exact f i j (by lia) (by lia) (by lia) (by lia)
   ·rintro⟨o,m,b⟩ d ⟨D,O,q,H,a,f⟩
    dsimp only at D O H a f ⊢
    exact⟨D,q,by lia,H,a,f⟩
   ·exact afj C (h:=lo+n) (λk J=>N.sat p (by lia)) (by lia) W (C.asy _ _ (N.sat p (by lia)) (N.sat p (by lia)) Y)
   ·dsimp only at i1 r y w
    have:i=j:=by lia
    subst this
    exact C.irr (N.sat p (by lia))
  ·rintro⟨o,m,b⟩ d ⟨D,q,hm,H,a,f⟩
   dsimp only at D hm H a f ⊢
   subst D
   dsimp only
   refine aoz (M:=M) (A:=A) (E:=E) (s:=s) (α:=Option Nat) (Q:=Q) (P:=λF=>Bs κ p0 a0 lo F/\Des R (arrOf F) lo (lo+m)) (prog:=?prog2) (λL=>?use2) (λF ⟨I,u⟩=>?pf2)
   case use2 =>
    refine aao (λg=>?_) (λg=>?_)
    ·obtain⟨I,u⟩:=ai9 C p q (l:=lo+m-(b+1)) (h:=lo+m) (by lia) (by lia) (aA6 _) (by lia) a f
     refine wpS_bind (wpS_modify ?_)
     exact L _ ⟨I,u⟩
    ·exact L _ ⟨q,a⟩
   case pf2 =>
    obtain⟨B5,Z⟩:=aul C I (n:=m) (by lia) u
    refine wpS_bind (wpS_modify ?_)
    refine wpS_bind (al9 C p B5 (by lia) hm hn Z λn' a4 a3 T _=>?_)
    exact wpS_pure (h _ n' B5 (by lia) a3 T)
end
def flat(rs:List (List Keyed × Nat)):List Keyed:=(rs.map (·.1)).flatten
def pend:Nat->List (List Keyed × Nat)->List (Nat × Nat × Nat)
 |_,[]=>[]
 |k,(r,pw)::t=>(k,r.length,pw)::pend (k+r.length) t
theorem ahn:flat []=[]:=rfl
theorem ab0(r:List Keyed × Nat)(t:List (List Keyed × Nat)):flat (r::t)=r.1++flat t:=rfl
theorem abq(p q:List (List Keyed × Nat)):flat (p++q)=flat p++flat q:=by simp[flat]
theorem aca:∀(k:Nat)(p q:List (List Keyed × Nat)),pend k (p++q)=pend k p++pend (k+(flat p).length) q
 |k,[],q=>by simp[pend,ahn]
 | k,(r,pw)::t,q=>by
  simp only[List.cons_append,pend,ab0,aB1,List.cons.injEq,true_and]
  rw[aca (k+r.length) t q,Nat.add_assoc]
theorem adx:∀(k:Nat)(p:List (List Keyed × Nat)),(pend k p).length=p.length
 |_,[]=>rfl
 |k,(r,pw)::t=>by simp[pend,adx _ t]
section
variable{M:Model}{A:Around}{E:Value->Shared->Prop}{s:Shared}{κ:SortKind}{S:Keyed->Prop}{R:Keyed->Keyed->Bool}{a0:Array Keyed}
structure Rn(κ:SortKind)(R:Keyed->Keyed->Bool)(a0:Array Keyed)(rs:List (List Keyed × Nat))(rest:List Keyed)(st:SortSt):Prop where
 k:kindOf st = κ
 f:failedOf st=none
 arr:(arrOf st).toList=flat rs++rest
 pn:(pendingOf st).toList=pend 0 rs
 ok:∀ r∈rs,r.1 ≠ []/\Srt R r.1
 perm:(arrOf st).toList.Perm a0.toList
theorem axe{α:Type}(a b:List α)(x c y : α):((a++x::y::b).set a.length c).eraseIdx (a.length+1)=a++c::b:=by
 rw[List.set_append_right _ _ (aA6 _),Nat.sub_self,List.set_cons_zero,List.eraseIdx_append_of_length_le (by lia)]
 rw[show a.length+1-a.length=1 by lia]
 rfl
theorem aia(C:Cmp M A E s κ S R)(H:∀ x∈a0.toList,S x){st:SortSt}{rs:List (List Keyed × Nat)}{rest:List Keyed}(N:Rn κ R a0 rs rest st){i:Nat}(hi:i+1<rs.length){Q:Bool->SortSt->Prop}
  (h:∀ st' l,Rn κ R a0 l rest st'->l.length+1=rs.length->(flat l).length=(flat rs).length->Q true st'):wpS M A E s (al7 i) Q st:=by
 obtain⟨p,a,pw,b,pw2,q,e,B⟩:∃ p a pw b pw2 q,rs=p++(a,pw)::(b,pw2)::q/\p.length=i:=by
  have G:rs=rs.take i++rs.drop i:=(aC1 i rs).symm
  have hd:rs.drop i=rs[i]::rs[i+1]::rs.drop (i+2):=by
   rw[List.drop_eq_getElem_cons (by lia),List.drop_eq_getElem_cons hi]
  exact⟨rs.take i,rs[i].1,rs[i].2,rs[i+1].1,rs[i+1].2,rs.drop (i+2),by rw[← hd];exact G,by simp;lia⟩
 subst B
 have c:=N.ok (a,pw) (by rw[e];simp)
 have j:=N.ok (b,pw2) (by rw[e];simp)
 have n:(pendingOf st).toList=pend 0 p++((flat p).length,a.length,pw)::((flat p).length+a.length,b.length,pw2)::pend ((flat p).length+a.length+b.length) q:=by
  rw[N.pn,e,aca];simp[pend]
 have d:(pend 0 p).length=p.length:=adx 0 p
 have g:(arrOf st).toList=flat p++a++b++(flat q++rest):=by
  rw[N.arr,e,abq,ab0,ab0];simp[aB4]
 refine aqf C (i:=p.length) (pw:=pw) (pw2:=pw2) g (λx F=>H x (N.perm.mem_iff.mp F)) ?_ ?_ c.1 j.1 c.2 j.2 N.k N.f λst' m I w y u pm v=>?_
 ·rw[← aD6,n,aC8 (by lia),d,Nat.sub_self];rfl
 ·rw[← aD6,n,aC8 (by lia),d,show p.length+1-p.length=1 by lia];rfl
 ·refine h st' (p++(m,pw)::q) ⟨I,w,?_,?_,λr o=>?_,?_⟩ (by rw[e];simp;lia) ?_
  ·rw[u,abq,ab0];simp[aB4]
  ·rw[y,Array.toList_eraseIdxIfInBounds,Array.toList_setIfInBounds,n,← d,axe,aca]
   simp[pend,pm.length_eq,Nat.add_assoc]
  ·rcases aA7.mp o with o|o
   ·exact N.ok r (by rw[e];simp[o])
   ·rcases aA9.mp o with rfl|o
    ·refine⟨?_,v⟩
     intro z
     have:=pm.length_eq
     have D:m=[]:=z
     rw[D] at this
     have:=aG0.mpr c.1
     simp at *
     lia
    ·exact N.ok r (by rw[e];simp[o])
  ·rw[u]
   refine List.Perm.trans ?_ N.perm
   rw[g]
   have:(flat p++a++b++(flat q++rest))=flat p++(a++b)++(flat q++rest):=by simp[aB4]
   rw[this]
   exact(pm.append_left (flat p)).append_right _
  ·rw[e,abq,abq,ab0,ab0,ab0]
   simp[pm.length_eq]
   lia
theorem Rn.run{rs:List (List Keyed × Nat)}{rest:List Keyed}{st st':SortSt}{n:Nat}(N:Rn κ R a0 rs rest st)(B:Bs κ (pendingOf st) (arrOf st) (flat rs).length st')(u:1<=n)(hn:(flat rs).length+n<=(arrOf st).size)(as:Asc R (arrOf st') (flat rs).length ((flat rs).length+n)) :
  ∃ r a,r.length=n/\r ≠ []/\Srt R r/\Rn κ R a0 rs (r++a) st':=by
 have hsz:=B.size
 have c:(arrOf st').toList.take (flat rs).length=flat rs:=by
  have o:(arrOf st').toList.take (flat rs).length=(arrOf st).toList.take (flat rs).length:=by
   apply aG3
   intro k
   rw[List.getElem?_take,List.getElem?_take]
   split
   ·rename_i b
    have:=B.pre k b
    simpa using this
   ·rfl
  rw[o,N.arr,List.take_left]
 refine⟨((arrOf st').toList.drop (flat rs).length).take n,((arrOf st').toList.drop (flat rs).length).drop n,?_,?_,?_,B.k,B.f,?_,?_,N.ok,B.perm.trans N.perm⟩
 ·simp;lia
 ·intro z
  have:=congrArg List.length z
  simp at this
  lia
 ·unfold Srt
  rw[aG8]
  intro i j hi h m
  have d:j<n:=by simp at h;lia
  have get:∀ k,k<n->∀(b:k<(((arrOf st').toList.drop (flat rs).length).take n).length),(((arrOf st').toList.drop (flat rs).length).take n)[k]=e (arrOf st') ((flat rs).length+k):=by
   intro k b l
   rw[List.getElem_take,List.getElem_drop]
   have s:=ah9 (xs:=arrOf st') (k:=(flat rs).length+k) (by lia)
   have q:(flat rs).length+k<(arrOf st').toList.length:=by simp;lia
   have g:(arrOf st').toList[(flat rs).length+k]?=some (e (arrOf st') ((flat rs).length+k)):=by simpa using s
   rw[aA0 q] at g
   exact aC6 g
  rw[get i (by lia) hi,get j d h]
  exact as _ _ (by lia) (by lia) (by lia)
 ·rw[aC1]
  conv=>lhs;rw[← aC1 (flat rs).length (arrOf st').toList,c]
 ·rw[B.p];exact N.pn
theorem Rn.bs{rs:List (List Keyed × Nat)}{rest:List Keyed}{st:SortSt}(N:Rn κ R a0 rs rest st):Bs κ (pendingOf st) (arrOf st) (flat rs).length st:=⟨N.k,N.f,rfl,List.Perm.refl _,λ_ _=>rfl⟩
theorem Rn.size{rs:List (List Keyed × Nat)}{rest:List Keyed}{st:SortSt}(N:Rn κ R a0 rs rest st):(arrOf st).size=a0.size:=by
 have:=N.perm.length_eq;simpa using this
theorem Rn.len{rs:List (List Keyed × Nat)}{rest:List Keyed}{st:SortSt}(N:Rn κ R a0 rs rest st):(flat rs).length+rest.length=a0.size:=by
 have:=congrArg List.length N.arr
 have a:=N.size
 simp at this
 lia
theorem aum{rs:List (List Keyed × Nat)}(h:∀ r∈rs,r.1 ≠ []):rs.length<=(flat rs).length:=by
 induction rs with
 |nil=>simp[flat]
 | cons r t ih =>
  rw[ab0,aB1,aE6]
  have:=ih λq a=>h q (aB5 _ a)
  have:=aG0.mpr (h r aB8)
  lia
theorem ama{α:Type}(f : α->α):∀(l:List α)(x : α),(l++[x]).modify l.length f=l++[f x]
 |[],x=>rfl
 | y::l,x=>by
  show(y::(l++[x])).modify (l.length+1) f=_
  rw[List.modify_succ_cons,ama f l x];rfl
theorem an4{α:Type}(arr:Array α)(f : α->α){l:List α}{x : α}(h:arr.toList=l++[x]):(arr.modify (arr.size-1) f).toList=l++[f x]:=by
 have hs:arr.size=l.length+1:=by have:=congrArg List.length h;simpa using this
 rw[Array.toList_modify,h,hs,show l.length+1-1=l.length by lia]
 exact ama f l x
theorem axf{α:Type}(arr:Array α){l:List α}{x : α}(h:arr.toList=l++[x]):arr.back?=some x:=by
 have hs:arr.size=l.length+1:=by have:=congrArg List.length h;simpa using this
 rw[Array.back?_eq_getElem?,← aD6,h,hs]
 simp
theorem ao0:∀(rs:List (List Keyed × Nat)),rs ≠ []->∃ p x,rs=p++[x]
 |rs,h=>⟨rs.dropLast,rs.getLast h,(List.dropLast_concat_getLast h).symm⟩
theorem Rn.push{rs:List (List Keyed × Nat)}{r rest:List Keyed}{st st':SortSt}(N:Rn κ R a0 rs (r++rest) st)(c:r ≠ [])(hs:Srt R r)(k:kindOf st'=kindOf st)(f:failedOf st'=failedOf st)(a:arrOf st'=arrOf st)
  (p:pendingOf st'=(pendingOf st).push ((flat rs).length,r.length,0)):Rn κ R a0 (rs++[(r,0)]) rest st':=by
 refine⟨k.trans N.k,f.trans N.f,?_,?_,λq b=>?_,by rw[a];exact N.perm⟩
 ·rw[a,N.arr,abq];simp[flat,aB4]
 ·rw[p,Array.toList_push,N.pn,aca];simp[pend]
 ·rcases aA7.mp b with b|b
  ·exact N.ok q b
  ·have:q=(r,0):=by simpa using b
   subst this;exact⟨c,hs⟩
theorem Rn.pow{rs:List (List Keyed × Nat)}{rest:List Keyed}{st st':SortSt}{pw:Nat}(N:Rn κ R a0 rs rest st)(hz:rs ≠ [])(k:kindOf st'=kindOf st)(f:failedOf st'=failedOf st)(a:arrOf st'=arrOf st)
  (p:pendingOf st'=(pendingOf st).modify ((pendingOf st).size-1) λx=>(x.1,x.2.1,pw)):∃ c,Rn κ R a0 c rest st'/\(flat c).length=(flat rs).length:=by
 obtain⟨q,⟨b,d⟩,e⟩:=ao0 rs hz
 subst e
 have h:(pendingOf st).toList=pend 0 q++[((flat q).length,b.length,d)]:=by rw[N.pn,aca];simp[pend]
 refine⟨q++[(b,pw)],⟨k.trans N.k,f.trans N.f,?_,?_,λx g=>?_,by rw[a];exact N.perm⟩,by simp[abq,ab0,ahn]⟩
 ·rw[a,N.arr];simp[abq,ab0,ahn]
 ·rw[p,an4 _ _ h,aca];simp[pend]
 ·rcases aA7.mp g with g|g
  ·exact N.ok x (by simp[g])
  ·have:x=(b,pw):=by simpa using g
   subst this
   exact N.ok (b,d) (by simp)
theorem a0a{c:Prop} [Decidable c] {x y z:Nat} (a:x+1<z) (b:y+1<z):(if c then x else y)+1<z:=by
 split
 ·exact a
 ·exact b
theorem Rn.powK{rs:List (List Keyed × Nat)}{rest:List Keyed}{st st':SortSt}{pw:Nat}{G:SortSt->Prop}(N:Rn κ R a0 rs rest st)(hz:rs ≠ [])(h:∀ b,Rn κ R a0 b rest st'->(flat b).length=(flat rs).length->G st')(k:kindOf st'=kindOf st)(f:failedOf st'=failedOf st)(a:arrOf st'=arrOf st)
  (p:pendingOf st'=(pendingOf st).modify ((pendingOf st).size-1) λx=>(x.1,x.2.1,pw)):G st':=by
 obtain⟨b,d,c⟩:=N.pow hz k f a p
 exact h b d c
theorem axg (C:Cmp M A E s κ S R) (Y:∀ x∈a0.toList,S x) {st:SortSt} (h0:arrOf st=a0) (hk:kindOf st = κ) (hf:failedOf st=none) (hp:pendingOf st = #[]) {Q:Unit->SortSt->Prop}
  (h:∀ st',failedOf st'=none->(arrOf st').toList.Perm a0.toList->Srt R (arrOf st').toList->Q () st'):wpS M A E s a17 Q st:=by
 have o:(arrOf st).size=a0.size:=by rw[h0]
 refine wpS_bind (wpS_get ?_)
 dsimp only
 refine wpS_bind (wpS_mono (Q:=λ(c:Option Unit × Nat) v=>c.1=none/\∃ rs,Rn κ R a0 rs [] v) ?_ ?_)
 ·refine wpS_forRange (λi (c:Option Unit × Nat) v=>c.1=none/\∃ rs rest,Rn κ R a0 rs rest v/\c.2=(flat rs).length/\i<=c.2) ?_ ?_ ⟨rfl,[],a0.toList,⟨hk,hf,by rw[h0];rfl,by rw[hp];rfl,λr J=>(by cases J),by rw[h0]⟩,rfl,aA6 _⟩
  ·rintro i ⟨c1,lo⟩ v _ hi ⟨F,rs,rest,N,e2,D⟩
   dsimp only at F e2 D ⊢
   subst F e2
   have L:=N.len
   have b4:i<a0.size:=by rw[← o];exact hi
   refine aao (λa6=>?_) (λa2=>?_)
   ·have a9:a0.size<=(flat rs).length:=by rw[← o];exact a6
    refine wpS_pure ⟨rfl,rs,?_⟩
    have:rest=[]:=aH3 (by lia)
    subst this
    exact N
   ·have b0:(flat rs).length<a0.size:=by
     have:¬ (flat rs).length ≥ (arrOf st).size:=a2
     lia
    refine wpS_bind (ar8 C (λx hx=>Y x (N.perm.mem_iff.mp hx)) N.bs (nrem:=(arrOf st).size-(flat rs).length) (by lia) (by rw[N.size];lia) λb2 n B2 n1 n2 O=>?_)
    dsimp only
    have B:=N.size
    refine aao (λm=>?g1) (λm=>?g2)
    case' g1 =>
     refine wpS_bind (ado ?_)
     generalize hmr:min (_:Nat) _=nn
     refine wpS_bind (aqg C (λx hx=>Y x (N.perm.mem_iff.mp hx)) B2 (n:=nn) (ok:=n) ?_ ?_ ?_ O λb3 B3 a1=>?_)
     ·have:nn<=(arrOf st).size-(flat rs).length:=by rw[← hmr];exact Nat.min_le_left _ _
      rw[B];lia
     ·rw[← hmr];exact Nat.le_min.mpr ⟨n2,aG6 m⟩
     ·have:n<=nn:=by rw[← hmr];exact Nat.le_min.mpr ⟨n2,aG6 m⟩
      lia
     rw[aF7 (by decide)]
     have W:1<=nn:=by
      have:n<=nn:=by rw[← hmr];exact Nat.le_min.mpr ⟨n2,aG6 m⟩
      lia
     have a8:nn<=(arrOf st).size-(flat rs).length:=by rw[← hmr];exact Nat.min_le_left _ _
     obtain⟨r,g,J,w,I,U⟩:=N.run B3 W (by rw[B];lia) a1
     clear hmr
     subst J
    case' g2 =>
     obtain⟨r,g,J,w,I,U⟩:=N.run B2 n1 (by rw[B];lia) O
     clear m
     subst J
    all_goals
     refine wpS_bind (wpS_get ?_)
     rcases Classical.em (rs=[]) with hz|hz
     ·have y:=U.pn
      rw[hz] at y
      have hb:=Array.back?_eq_none_iff.mpr (Array.toList_eq_nil_iff.mp y)
      rw[hb]
      dsimp only
      refine wpS_bind (wpS_modify (wpS_pure ⟨rfl,rs++[(r,0)],g,U.push w I rfl rfl rfl rfl,?_,?_⟩))
      ·rw[abq,aB1];simp[flat]
      ·have:=aG0.mpr w
       show i+1<=(flat rs).length+r.length
       lia
     ·obtain⟨q,⟨b,P⟩,eq⟩:=ao0 rs hz
      have y:=U.pn
      rw[eq,aca,show pend (0+(flat q).length) [(b,P)]=[((flat q).length,b.length,P)] by simp[pend]] at y
      have hb:=axf _ y
      rw[hb]
      dsimp only
      refine wpS_bind (wpS_mono (Q:=λ(c:Option Unit × Unit) d=>c.1=none/\∃ a,Rn κ R a0 a (r++g) d/\a ≠ []/\(flat a).length=(flat rs).length) ?_ ?_)
      ·refine wpS_forRange (λ_ (c:Option Unit × Unit) d=>c.1=none/\∃ a,Rn κ R a0 a (r++g) d/\a ≠ []/\(flat a).length=(flat rs).length) ?_ (λc d h4=>h4) ⟨rfl,rs,U,hz,rfl⟩
       rintro i4 ⟨Z,u4⟩ d _ _ ⟨u,a,l,X,p⟩
       dsimp only at u
       subst u
       refine wpS_bind (wpS_get ?_)
       have T:(pendingOf d).size=a.length:=by
        have:=congrArg List.length l.pn
        rw[adx] at this
        simpa using this
       by_cases K:(pendingOf d).size > 1
       ·rw[aF6 K]
        obtain⟨x4,a7⟩:∃ x4,(pendingOf d)[(pendingOf d).size-2]?=some x4:=⟨_,aA4 (by lia)⟩
        obtain⟨y1,y2,y3⟩:=x4
        rw[a7]
        dsimp only
        refine aao (λ_=>wpS_pure ⟨rfl,a,l,X,p⟩) (λ_=>?_)
        rw[T]
        refine wpS_bind (aia C Y l (i:=a.length-2) (by lia) λa3 H N5 l5 f5=>?_)
        rw[aF7 (by decide)]
        refine wpS_pure ⟨rfl,H,N5,?_,by lia⟩
        rintro rfl
        simp at l5
        lia
       ·rw[aF7 K]
        exact wpS_pure ⟨rfl,a,l,X,p⟩
      ·rintro⟨Z,u4⟩ d ⟨u,a,l,X,p⟩
       dsimp only at u ⊢
       subst u
       dsimp only
       refine wpS_bind (wpS_modify ?_)
       refine l.powK (G:=λz=>wpS M A E s _ _ z) X (λa4 N6 l6=>?_) rfl rfl rfl rfl
       refine wpS_bind (wpS_modify (wpS_pure ⟨rfl,a4++[(r,0)],g,N6.push w I rfl rfl rfl ?_,?_,?_⟩))
       ·rw[l6,p]
       ·rw[abq,aB1,l6,p];simp[flat]
       ·have:=aG0.mpr w
        show i+1<=(flat rs).length+r.length
        lia
  ·rintro⟨c1,lo⟩ v ⟨F,rs,rest,N,e2,D⟩
   dsimp only at F e2 D ⊢
   refine⟨F,rs,?_⟩
   have L:=N.len
   have a5:(arrOf st).size<=lo:=aD0 (Nat.le_max_right 0 _) D
   have:rest=[]:=aH3 (by rw[o] at a5;lia)
   subst this
   exact N
 ·rintro⟨c1,lo⟩ v ⟨F,rs,N⟩
  dsimp only at F ⊢
  subst F
  dsimp only
  refine wpS_bind (wpS_mono (Q:=λ(c:Option Unit × Unit) d=>c.1=none/\∃ a,Rn κ R a0 a [] d/\a.length<=1) ?_ ?_)
  ·refine wpS_forRange (λj (c:Option Unit × Unit) d=>c.1=none/\∃ a,Rn κ R a0 a [] d/\(a.length<=1\/a.length+j<=a0.size)) ?_ ?_ ⟨rfl,rs,N,.inr ?_⟩
   ·rintro j ⟨Z,u4⟩ d _ _ ⟨u,a,l,p⟩
    dsimp only at u
    subst u
    refine wpS_bind (wpS_get ?_)
    have T:(pendingOf d).size=a.length:=by
     have:=congrArg List.length l.pn
     rw[adx] at this
     simpa using this
    refine aao (λK=>wpS_pure ⟨rfl,a,l,?_⟩) (λK=>?_)
    ·have:(pendingOf d).size<=1:=K
     lia
    ·have b1:¬ (pendingOf d).size<=1:=K
     refine wpS_bind (aia C Y l (i:=_) ?_ λa3 H N5 l5 f5=>?_)
     ·refine a0a ?_ ?_
      ·show(pendingOf d).size-2-1+1<a.length
       lia
      ·show(pendingOf d).size-2+1<a.length
       lia
     rw[aF7 (by decide)]
     exact wpS_pure ⟨rfl,H,N5,by lia⟩
   ·rintro⟨Z,u4⟩ d ⟨u,a,l,p⟩
    refine⟨u,a,l,?_⟩
    rcases p with p|p
    ·exact p
    ·have:(arrOf st).size<=max 0 (arrOf st).size:=Nat.le_max_right _ _
     have h3:a.length+max 0 (arrOf st).size<=a0.size:=p
     lia
   ·have:=aum λr J=>(N.ok r J).1
    have:=N.len
    lia
  ·rintro⟨Z,u4⟩ d ⟨u,a,l,p⟩
   dsimp only at u ⊢
   subst u
   dsimp only
   refine wpS_pure (h d l.f l.perm ?_)
   rw[l.arr]
   match a,p with
   |[],_=>exact List.Pairwise.nil
   |[x],_=>simpa[flat] using (l.ok x (by simp)).2
end
end TS
namespace L2
open PySem PySem.Spec PyProof.Rows
mutual
inductive Rep(H:Hp):V->PyData->Prop
 |non:Rep H .non .none
 |bl (b:Bool):Rep H (.bl b) (.bool b)
 |int (i:Int):Rep H (.int i) (.int i)
 |str (x:Str):Rep H (.str x) (.str x)
 |lst {a:Addr} {xs:List V} {ds:List PyData}:H a=some (.lst xs)->Reps H xs ds->Rep H (.ref a) (.list ds)
 |tup {a:Addr} {xs:List V} {ds:List PyData}:H a=some (.tup xs)->Reps H xs ds->Rep H (.ref a) (.tuple ds)
inductive Reps(H:Hp):List V->List PyData->Prop
 |nil:Reps H [] []
 |cons {v:V} {vs:List V} {d:PyData} {ds:List PyData}:Rep H v d->Reps H vs ds->Reps H (v::vs) (d::ds)
end
mutual
theorem Rep.same{H H':Hp}(s:Same H H'):∀{v:V}{d:PyData},Rep H v d->Rep H' v d
 |_,_,.non=>.non
 |_,_,.bl b=>.bl b
 |_,_,.int i=>.int i
 |_,_,.str x=>.str x
 |_,_,.lst h r=>.lst (s _ _ h) (Reps.same s r)
 |_,_,.tup h r=>.tup (s _ _ h) (Reps.same s r)
theorem Reps.same{H H':Hp}(s:Same H H'):∀{vs:List V}{ds:List PyData},Reps H vs ds->Reps H' vs ds
 |_,_,.nil=>.nil
 |_,_,.cons r t=>.cons (Rep.same s r) (Reps.same s t)
end
section
variable{X:Cx}{pins:List (Addr × Obj)}{σ:St}{H:Hp}{s:Shared}
mutual
theorem Rep.reads(I:Inv X pins σ H s):∀{v:V}{d:PyData}{u:Value},Rep H v d->RelV v u->∃ as,Reads s.heap u d as
 |_,_,_,.non,r=>by cases r;exact⟨_,.none⟩
 |_,_,_,.bl b,r=>by cases r;exact⟨_,.bool b⟩
 |_,_,_,.int i,r=>by obtain⟨t,rfl⟩:=r;exact⟨_,.int i t⟩
 |_,_,_,.str x,r=>by obtain⟨t,rfl⟩:=r;exact⟨_,.str x t⟩
 | _,_,_,.lst (a:=a) (xs:=xs) h q,r=>by
  cases r
  obtain⟨_,its,n,f,e⟩:=(show ObjOk X.prog X.w H s.heap a (.lst xs) from I.hok a _ h)
  obtain⟨as,g⟩:=Reps.reads I q f
  exact⟨_,.list e rfl rfl (by simpa using g)⟩
 | _,_,_,.tup (a:=a) (xs:=xs) h q,r=>by
  cases r
  obtain⟨_,its,f,o,e,c,n,j⟩:=(show ObjOk X.prog X.w H s.heap a (.tup xs) from I.hok a _ h)
  obtain⟨as,g⟩:=Reps.reads I q f
  exact⟨_,.tuple e c j (by simpa using g)⟩
theorem Reps.reads(I:Inv X pins σ H s):∀{vs:List V}{ds:List PyData}{us:List Value},Reps H vs ds->Vals vs us->∃ as,ReadsAll s.heap us ds as
 |_,_,_,.nil,.nil=>⟨_,.nil⟩
 | _,_,_,.cons r t,.cons q qs=>by
  obtain⟨as,a⟩:=Rep.reads I r q
  obtain⟨bs,rb⟩:=Reps.reads I t qs
  exact⟨_,.cons a rb⟩
end
end
mutual
def aaq:PyData->Bool
 | .none | .int _=>true
 | .list xs | .tuple xs=>plainDs xs
 |_=>false
def plainDs:List PyData->Bool
 |[]=>true
 |x::xs=>aaq x && plainDs xs
end
mutual
theorem acx:∀(d:PyData),aaq d=true->d.canLay0=true
 | .none,_=>by simp[PyData.canLay0]
 | .int _,_=>by simp[PyData.canLay0]
 | .list xs,h=>by simp only[PyData.canLay0];exact plain_lays xs (by simpa[aaq] using h)
 | .tuple xs,h=>by simp only[PyData.canLay0];exact plain_lays xs (by simpa[aaq] using h)
 | .bool _,h=>by simp[aaq] at h
 | .str _,h=>by simp[aaq] at h
 | .dict _,h=>by simp[aaq] at h
theorem plain_lays:∀(ds:List PyData),plainDs ds=true->PyData.canLayAll0 ds=true
 |[],_=>by simp[PyData.canLayAll0]
 | x::xs,h=>by
  have h':aaq x=true/\plainDs xs=true:=by simpa[plainDs] using h
  simp only[PyData.canLayAll0,acx x h'.1,plain_lays xs h'.2,Bool.and_self]
end
mutual
theorem agd:∀(d e:PyData),aaq d=true->aaq e=true->(PyData.eqv d e=true ↔ d=e)
 | .none,e,_,h=>by cases e <;> simp_all [aaq,PyData.eqv]
 | .int i,e,_,h=>by cases e <;> simp_all [aaq,PyData.eqv]
 | .list xs,e,g,h=>by
  cases e with
  |list ys=>simp only[PyData.eqv,PyData.list.injEq];exact eqvAll_plain xs ys (by simpa[aaq] using g) (by simpa[aaq] using h)
  |_=>simp_all [aaq,PyData.eqv]
 | .tuple xs,e,g,h=>by
  cases e with
  |tuple ys=>simp only[PyData.eqv,PyData.tuple.injEq];exact eqvAll_plain xs ys (by simpa[aaq] using g) (by simpa[aaq] using h)
  |_=>simp_all [aaq,PyData.eqv]
 | .bool _,_,h,_=>by simp[aaq] at h
 | .str _,_,h,_=>by simp[aaq] at h
 | .dict _,_,h,_=>by simp[aaq] at h
theorem eqvAll_plain:∀(ds es:List PyData),plainDs ds=true->plainDs es=true->(PyData.eqvAll ds es=true ↔ ds=es)
 |[],[],_,_=>by simp[PyData.eqvAll]
 |[],_::_,_,_=>by simp[PyData.eqvAll]
 |_::_,[],_,_=>by simp[PyData.eqvAll]
 | x::xs,y::ys,g,h=>by
  have g':aaq x=true/\plainDs xs=true:=by simpa[plainDs] using g
  have h':aaq y=true/\plainDs ys=true:=by simpa[plainDs] using h
  simp only[PyData.eqvAll,aH2,List.cons.injEq,agd x y g'.1 h'.1,eqvAll_plain xs ys g'.2 h'.2]
end
theorem ahe(ds:List PyData):plainDs ds=true ↔ ∀ d∈ds,aaq d=true:=by
 induction ds with
 |nil=>simp[plainDs]
 |cons d ds ih=>simp[plainDs,ih]
def rNeD:R2:=λx y H Q=>∃ d e,Rep H x d/\Rep H y e/\aaq d=true/\aaq e=true/\d.depth<=60/\Q (.bl (!PyData.eqv d e)) H
section
variable{X:Cx}
theorem aib(i:X.A.units+64<cLine):OpR X (compareOp .NotEq) rNeD:=by
 intro pins s σ H x y v u Q I g f h
 obtain⟨d,e,a,re,hd,c,hz,q⟩:=h
 obtain⟨as,b⟩:=a.reads I g
 obtain⟨bs,rb⟩:=re.reads I f
 refine SeqAt.compareNe_reads b rb (acx _ hd) (acx _ c) ?_ ⟨.bl _,H,I,rfl,q⟩
 have:=Nat.min_le_left d.depth e.depth
 lia
def rInD(neg:Bool):R2:=λx y H Q=>∃ d es,Rep H x d/\(Rep H y (.list es)\/Rep H y (.tuple es))/\aaq d=true/\plainDs es=true/\d.depth<=60/\Q (.bl (if neg then !es.any (λz=>PyData.eqv z d) else es.any (λz=>PyData.eqv z d))) H
theorem aey(i:X.A.units+64<cLine):OpR X (compareOp .NotIn) (rInD true):=by
 intro pins s σ H x y v u Q I g c h
 obtain⟨d,es,f,re,hd,b,hz,q⟩:=h
 obtain⟨as,a⟩:=f.reads I g
 have hm:=Nat.min_le_right (PyData.depthAll es) d.depth
 rcases re with re|re
 ·obtain⟨bs,rb⟩:=re.reads I c
  exact SeqAt.notIn_list_reads rb a (plain_lays _ b) (acx _ hd) (by lia) ⟨.bl _,H,I,rfl,q⟩
 ·obtain⟨bs,rb⟩:=re.reads I c
  exact SeqAt.notIn_tuple_reads rb a (plain_lays _ b) (acx _ hd) (by lia) ⟨.bl _,H,I,rfl,q⟩
def rIsi(K:Frag):List V->Hp->VK->Prop:=λxs H Q=>∃(x:V)(T:String)(t:Value)(b:Bool),xs=[x,.ty T]/\TyOf K H x t/\kitOne K t (.type T)=some b/\Q (.bl b) H
theorem afk:abh X (.builtin "isinstance") (rIsi X.K):=by
 intro pins s σ H xs us Q I r h
 obtain⟨x,T,t,b,rfl,ty,e,q⟩:=h
 obtain⟨u,c,rfl,d,a⟩:=ala r
 cases a
 exact ars I d ty e λf=>⟨.bl b,H,I.tok _,rfl,q⟩
end
end L2
namespace HT
open PySem PyProof.Rows
section
open PySem.SeqAt
open PySem.AutoSeq1 (wpAny_loadPart')
open PySem.MeetsSeq PySem.MeetsSeq2 PySem.MeetsSeq3
end
section
variable{prog:Program}{w:World}{A:Around}{E:Value->Shared->Prop}{s:Shared}
theorem aj4{it t:Addr}{items:Array Value}(f:t ≠ it):∀(n i:Nat)(s:Shared)(Q:List Value->Shared->Prop),s.heap.IsListIter it t i->s.heap.IsList t items->i+n<=items.size ->
  (∀ h',h'.IsListIter it t (i+n)->Heap.SameBut it s.heap h'->Q ((items.toList.drop i).take n) { s with heap:=h' })->wpAny (model prog w) A (draw (.ref it) n) Q E s
 | 0,i,s,Q,hit,_,_,hQ=>by
  show wpAny _ _ (pure []) Q E s
  exact aJ2 (by simpa using hQ s.heap hit (Heap.SameBut.refl ..))
 | n+1,i,s,Q,hit,ht,hle,hQ=>by
  have g:i<items.size:=by lia
  show wpAny _ _ (pyNext (.ref it) >>= _) Q E s
  refine aJ1 (wpAny_pyNext_list_item hit ht (x:=items[i]) (by simp[g]) λj c a=>?_)
  refine aJ1 (aJ7 (aj4 f n (i+1) _ _ c (ht.extBut a.extBut f) (by lia) λh b d=>aJ2 ?_))
  have hd:items.toList.drop i=items[i]::items.toList.drop (i+1):=by simp[List.drop_eq_getElem_cons,g]
  have:=hQ h (by rw[show i+(n+1)=i+1+n by lia];exact b) (a.trans d)
  rw[hd,List.take_succ_cons] at this
  exact this
theorem aho{t:Addr}{items:Array Value}{Q:List Value->Shared->Prop}(hh:A.handled=none)(i:s.heap.IsList t items)
  (m:∀ h',Heap.ExtBut s.heap.objs.size s.heap h'->Q items.toList { s with heap:=h' }):wpAny (model prog w) A (unpackItems (.ref t) items.size none) Q E s:=by
 have g:t ≠ s.heap.objs.size:=by obtain⟨o,n,_⟩:=i;exact aB6 (aJ4 n)
 unfold unpackItems
 refine aJ1 ?_
 ·unfold notIterableAtAll
  refine aJ1 (wpAny_specialOf i.typeIs slot_list_iter.lookup ?_)
  refine aJ2 ?_
  simp only[Bool.false_eq_true,if_false]
  refine aJ1 (aJ7 (aK6 i ?_))
  refine aJ1 (aJ7 (aj4 g items.size 0 _ _ ⟨_,aJ5 _ rfl,rfl,rfl⟩ (i.push _) (by lia) λl c a=>?_))
  have h:List.take items.size (List.drop 0 items.toList)=items.toList:=by
   rw[List.drop_zero];exact aF2 (by simp)
  rw[h]
  rw[aF7 (by simp)]
  have f:l.IsList t items:=(i.push _).extBut a.extBut g
  refine aJ1 (aJ7 (wpAny_pyNext_list_end hh c f (by simp) λj d=>?_))
  simp only[Option.isSome_none,Bool.false_eq_true,if_false]
  refine aJ2 (m j λb o hb e=>d b o hb (a.extBut b o hb (aJ3 _ e)))
theorem assign_Tuple_list{env:Env}{a:List Expr}{x1}{pos:Pos}{t:Addr}{items:Array Value}{Q:Unit->Shared->Prop}(hh:A.handled=none)(c:s.heap.IsList t items)
  (hn:(assignEach a env).length=items.size) (b:(assignEach a env).findIdx? (·.1)=none)
  (h:∀ h',Heap.ExtBut s.heap.objs.size s.heap h'->wpAny (model prog w) A (assignInOrder ((assignEach a env).map (·.2)) items.toList) Q E { s with heap:=h' }) :
  wpAny (model prog w) A (assign (.Tuple a x1 pos) env (.ref t)) Q E s:=by
 rw[assign_Tuple]
 refine aJ1 (wpAny_standAt ?_)
 unfold unpack
 rw[hn,b]
 exact aJ1 (aJ7 (aho hh c h))
end
end HT
namespace L2
open PySem PySem.Spec PyProof.Rows
section
variable{X:Cx}
def gLst(K:Frag)(n:Nat)(t:TGs):TG:=λv σ H Q=>∃ a xs,v=.ref a/\SqL K H a xs/\xs.length=n/\t xs σ H Q
theorem ar9{es:List Expr}{k:Nat}{t:TGs}{n:Nat}{pos:Pos}(g:X.calm=true)(h:PGs X es t)
  (hn:(assignEach es X.env).length=n:=by rfl) (d:(assignEach es X.env).findIdx? (·.1)=none:=by rfl):PG X (.Tuple es k pos) (gLst X.K n t):=by
 intro pins s σ H v u Q I r c
 obtain⟨a,xs,j,q,m,c⟩:=c
 subst j
 cases r
 obtain⟨its,f,p,hz⟩:=I.list q
 refine HT.assign_Tuple_list (I.ok.hd g) p.isList (by simp[hn,← m,f.length]) d λh' i=>?_
 have l:Inv X pins σ H { s with heap:=h' }:=I.kept (t':=s.toks) λb o e=>i b o (aB6 (aJ4 e)) e
 exact h pins _ σ H xs _ Q l (by simpa using f) c
def age(K:Frag):List V->Hp->VK->Prop:=λxs H Q=>∃(a:Addr)(ns:List Int),xs=[.ref a]/\SqL K H a (ns.map V.int)/\ns.length<64/\∀(ns':List Int)(p:Addr),ns'.Perm ns->ns'.Pairwise (·<=·)->H p=none->Q (.ref p) (upd H p (.lst (ns'.map V.int)))
theorem aic:abh X (.builtin "sorted") (age X.K):=by
 intro pins s σ H xs us Q I r h
 obtain⟨a,ns,rfl,ha,f,q⟩:=h
 obtain⟨u,rfl,m⟩:=acb r
 cases m
 obtain⟨its,n,l,hz⟩:=I.list ha
 have i1:IntsAre its.toArray.toList ns:=acj n
 have g:IntsAre its ns:=by simpa using i1
 refine sorted_ints (vs:=its) l.isList g (by rw[g.length];exact f) λout d b1 i p=>?_
 obtain⟨e,j⟩:=sortedAll_at s.heap its out
 have c:H (s.heap.objs.size+1)=none:=I.hok.fresh (Nat.le_succ _)
 refine⟨.ref (s.heap.objs.size+1),_,I.laid (t':=s.toks) (o:=.lst (d.map V.int)) (λb v q=>sortedAll_old q) (Nat.le_succ _) ?_,rfl,q d _ i p c⟩
 refine⟨?_,out.toList,e,af7 b1,by rw[j]⟩
 rw[aA3,i.length_eq]
 exact aG6 (aeu (by lia))
end
end L2
namespace HT
open PySem PyProof.Rows
theorem aja (val:Nat->Int):∀ k,argBest (λi j=>decide (val i > val j)) k<=k/\∀ i,i<=k->val i<=val (argBest (λi j=>decide (val i > val j)) k)
 | 0 => ⟨Nat.le_refl _, fun i hi => by have:i=0 := by lia
                                       subst this;exact Int.le_refl _⟩
 | k+1=>by
  obtain⟨b,a⟩:=aja val k
  unfold argBest
  by_cases hc:val (k+1) > val (argBest (λi j=>decide (val i > val j)) k)
  ·rw[aF6 (aD8 hc)]
   refine⟨aA6 _,λi hi=>?_⟩
   by_cases e:i=k+1
   ·subst e;exact Int.le_refl _
   ·have:=a i (by lia)
    exact Int.le_trans this (Int.le_of_lt hc)
  ·rw[aF7 (by simpa using hc)]
   refine⟨by lia,λi hi=>?_⟩
   by_cases e:i=k+1
   ·subst e;lia
   ·exact a i (by lia)
def val(ns:List Int)(i:Nat):Int:=(ns[i]?).getD 0
theorem aid{us:List Value}{ns:List Int}(hi:IntsAre us ns)(i:Nat)(v:Value)(h:us.toArray[i]?=some v):∃ t,v=.int (val ns i) t:=by
 induction hi generalizing i with
 |nil=>simp at h
 | cons n t r ih =>
  cases i with
  |zero=>simp at h;subst h;exact⟨t,by simp[val]⟩
  | succ i =>
   obtain⟨t',e⟩:=ih i (by simpa using h)
   exact⟨t',by simpa[val] using e⟩
theorem ao1{ns:List Int}{i:Nat}(h:i<ns.length):val ns i∈ns:=by
 unfold val
 rw[aA0 h]
 exact aF3 h
theorem asa{ns:List Int}{x:Int}(h:x∈ns):∃ i,i<ns.length/\val ns i=x:=by
 obtain⟨i,hi,e⟩:=aH7.mp h
 exact⟨i,hi,by unfold val;rw[aA0 hi];exact e⟩
section
variable{prog:Program}{w:World}{A:Around}{E:Value->Shared->Prop}{s:Shared}
theorem max_list{l:Addr}{us:List Value}{ns:List Int}{Q:Value->Shared->Prop}(hh:A.handled=none)(d:s.heap.IsList l us.toArray)(hi:IntsAre us ns)(c:ns ≠ [])
  (h:∀ m t h' f,m∈ns->(∀ x∈ns,x<=m)->(∀ b o,s.heap.get? b=some o->h'.get? b=some o)->Q (.int m t) { s with heap:=h',toks:=f }) :
  wpAny (model prog w) A (call (.builtin "max") [.ref l]) Q E s:=by
 have a:l<s.heap.objs.size:=by obtain⟨_,e,_⟩:=d;exact aJ4 e
 have hz:us.length=ns.length:=hi.length
 have u:0<ns.length:=aG0.mpr c
 refine call_max_walk (aK6 d ?_)
 refine⟨_,[s.heap.objs.size,l],_,_,_,_,_,rfl,Walks.list (A:=A.in1) hh _ l (aB6 a) us.toArray,⟨⟨_,aJ5 _ rfl,rfl,rfl⟩,d.push _⟩,λb hb=>?_,by simp;lia,CmpOf.ints_gt (val ns) (λi v=>aid hi i v),λv h' f n j=>?_⟩
 ·show b<(s.heap.push _).objs.size
  rw[aK3]
  rcases aA9.mp hb with rfl|hb
  ·exact aI7 _
  ·rcases aA9.mp hb with rfl|hb
   ·exact aF9 a
   ·cases hb
 ·obtain⟨t,e⟩:=aid hi _ _ n
  obtain⟨b1,g⟩:=aja (val ns) (us.toArray.size-1)
  have hs:us.toArray.size=ns.length:=by simp[hz]
  rw[hs] at b1 g
  subst e
  refine h _ t h' f (ao1 (by rw[hs];lia)) (λx p=>?_) λb o e=>?_
  ·obtain⟨i,r,e⟩:=asa p
   have:=g i (by lia)
   rw[e] at this
   rw[hs]
   exact this
  ·refine j b o (λhm=>?_) (aJ3 _ e)
   rcases aA9.mp hm with q|hm
   ·exact absurd (q ▸ aJ4 e) (aG5 _)
   ·cases hm
theorem max_tup{l:Addr}{us:List Value}{ns:List Int}{Q:Value->Shared->Prop}(hh:A.handled=none)(g:s.heap.IsTuple l us.toArray)(hi:IntsAre us ns)(f:ns ≠ [])
  (h:∀ m t h' d,m∈ns->(∀ x∈ns,x<=m)->(∀ b o,s.heap.get? b=some o->h'.get? b=some o)->Q (.int m t) { s with heap:=h',toks:=d }) :
  wpAny (model prog w) A.in1 (pyIter (.ref l)) (λit a=>∃ I fp j n P St bt,it=.ref I/\Walks prog w A.in1 I fp j n P St/\St 0 a.heap/\(∀ b∈fp,b<a.heap.objs.size)/\0<n/\CmpOf prog w A.in1 .Gt P bt /\
   ∀ v h' d,P (argBest bt (n-1)) v->(∀ b o,b ∉ j->a.heap.get? b=some o->h'.get? b=some o)->Q v { a with heap:=h',toks:=d }) E s:=by
 have c:l<s.heap.objs.size:=by obtain⟨_,e,_⟩:=g;exact aJ4 e
 have hz:us.length=ns.length:=hi.length
 have B:0<ns.length:=aG0.mpr f
 refine wpAny_pyIter_tuple g ?_
 refine⟨_,[s.heap.objs.size,l],[_],_,_,_,_,rfl,Walks.tuple (A:=A.in1) hh _ l (aB6 c) us.toArray,⟨⟨_,aJ5 _ rfl,rfl,rfl⟩,g.push _⟩,λb hb=>?_,by simp;lia,CmpOf.ints_gt (val ns) (λi v=>aid hi i v),λv h' d r q=>?_⟩
 ·show b<(s.heap.push _).objs.size
  rw[aK3]
  rcases aA9.mp hb with rfl|hb
  ·exact aI7 _
  ·rcases aA9.mp hb with rfl|hb
   ·exact aF9 c
   ·cases hb
 ·obtain⟨t,e⟩:=aid hi _ _ r
  obtain⟨b1,p⟩:=aja (val ns) (us.toArray.size-1)
  have hs:us.toArray.size=ns.length:=by simp[hz]
  rw[hs] at b1 p
  subst e
  refine h _ t h' d (ao1 (by rw[hs];lia)) (λx u=>?_) λb o e=>?_
  ·obtain⟨i,z,e⟩:=asa u
   have:=p i (by lia)
   rw[e] at this
   rw[hs]
   exact this
  ·refine q b o (λhm=>?_) (aJ3 _ e)
   rcases aA9.mp hm with y|hm
   ·exact absurd (y ▸ aJ4 e) (aG5 _)
   ·cases hm
end
end HT
namespace L2
open PySem PySem.Spec PyProof.Rows
section
variable{X:Cx}
def afl(ns:List Int)(m:Int):Prop:=m∈ns/\∀ x∈ns,x<=m
def aie(K:Frag):List V->Hp->VK->Prop:=λxs H Q=>∃(a:Addr)(ns:List Int),xs=[.ref a]/\(SqL K H a (ns.map V.int)\/SqT K H a (ns.map V.int))/\ns ≠ []/\∀ m,afl ns m->Q (.int m) H
theorem agf(i:X.calm=true):abh X (.builtin "max") (aie X.K):=by
 intro pins s σ H xs us Q I r h
 obtain⟨a,ns,rfl,ha,b,q⟩:=h
 obtain⟨u,rfl,j⟩:=acb r
 cases j
 rcases ha with ha|ha
 ·obtain⟨its,g,d,_⟩:=I.list ha
  have i1:IntsAre its.toArray.toList ns:=acj g
  exact HT.max_list (I.ok.hd i) d.isList (by simpa using i1) b λm t h' l f c kp=>⟨.int m,H,I.kept kp,⟨_,rfl⟩,q m ⟨f,c⟩⟩
 ·obtain⟨its,g,d,_⟩:=I.tuple ha
  have i1:IntsAre its.toArray.toList ns:=acj g
  refine call_max_walk (HT.max_tup (I.ok.hd i) d (by simpa using i1) b λm t h' l f c kp=>⟨.int m,H,I.kept kp,⟨_,rfl⟩,q m ⟨f,c⟩⟩)
end
def tTru(K:Frag)(ta:TE):TT:=λσ H Q=>ta σ H λx H'=>∃ k,TruV K x H' k/\Q k H'
def rIsN:R2:=λx y H Q=>y=.non/\Q (.bl (decide (x=.non))) H
def awo:R2:=λx y H Q=>y=.non/\Q (.bl (!decide (x=.non))) H
section
variable{X:Cx}{a:Expr}{ta:TE}
theorem asb(ha:PE X a ta)(b:∀ whole,isTrue a X.env whole=(do let v ← whole;standAt a.pos;holding [v] (truthy v)):=by intro _;rfl):PT X a (tTru X.K ta):=at7 ha b
def ack(K:Frag):R2:=λx y H Q=>rIxL K x y H Q\/rIxT K x y H Q
theorem aau:IxR X (ack X.K):=ix_list.or azz
theorem axh{i j n:Int}{a c:Nat}{d p2 pos:Pos}(h:i ^ j.toNat=n)(b:CPow i j):PE X (.BinOp (.Constant (.int i) a d) .Pow (.Constant (.int j) c p2) pos) (tC (.int n)):=by
 intro pins s σ H Q I q
 subst h
 exact aae azt aac aac pins s σ H Q I ⟨i,j,rfl,rfl,b,q⟩
theorem axi:OpR X (compareOp .Is) rIsN:=azu
theorem aun:OpR X (compareOp .IsNot) awo:=aw4
end
section
variable{σ:St}{H:Hp}{D:Ends}{K:Frag}
theorem afm{a:Addr}{xs:List V}{i:Int}{v:V}{Q:VK}(ha:H a=some (.lst xs))(b:atI xs i=some v)(h:Q v H):ack K (.ref a) (.int i) H Q:=.inl (az6 ha b h)
theorem auo{a:Addr}{xs:List V}{i:Int}{v:V}{Q:VK}(ha:H a=some (.tup xs))(b:atI xs i=some v)(h:Q v H):ack K (.ref a) (.int i) H Q:=.inr (az7 ha b h)
theorem acy{A B:Prop}(h:A):if true=true then A else B:=by rw[aF6 rfl];exact h
theorem adl{A B:Prop}(h:B):if false=true then A else B:=by rw[aF7 aB0];exact h
theorem agy{A B:Prop}(h:B):if (!true)=true then A else B:=by rw[aF7 (by decide)];exact h
theorem agz{A B:Prop}(h:A):if (!false)=true then A else B:=by rw[aF6 (by decide)];exact h
theorem aup{c:Prop} [Decidable c] {A B:Prop} (a:c) (h:B):if (!decide c)=true then A else B:=by rw[aD8 a];exact agy h
theorem auq{c:Prop} [Decidable c] {A B:Prop} (a:¬ c) (h:A):if (!decide c)=true then A else B:=by rw[aD7 a];exact agz h
theorem ahp{K:Frag}:kitOne K (.type "NoneType") (.type "int")=some false:=by first|rfl|decide
theorem ag9{K:Frag}:kitOne K (.type "NoneType") (.type "bool")=some false:=by first|rfl|decide
theorem agg{K:Frag}:kitOne K (.type "NoneType") (.type "tuple")=some false:=by first|rfl|decide
theorem aha{K:Frag}:kitOne K (.type "NoneType") (.type "list")=some false:=by first|rfl|decide
theorem ahq{K:Frag}:kitOne K (.type "NoneType") (.type "str")=some false:=by first|rfl|decide
theorem ahb{K:Frag}:kitOne K (.type "NoneType") (.type "dict")=some false:=by first|rfl|decide
theorem amb{K:Frag}:kitOne K (.type "bool") (.type "int")=some true:=by first|rfl|decide
theorem akq{K:Frag}:kitOne K (.type "bool") (.type "bool")=some true:=by first|rfl|decide
theorem ajb{K:Frag}:kitOne K (.type "bool") (.type "tuple")=some false:=by first|rfl|decide
theorem akr{K:Frag}:kitOne K (.type "bool") (.type "list")=some false:=by first|rfl|decide
theorem amc{K:Frag}:kitOne K (.type "bool") (.type "str")=some false:=by first|rfl|decide
theorem aks{K:Frag}:kitOne K (.type "bool") (.type "dict")=some false:=by first|rfl|decide
theorem an5{K:Frag}:kitOne K (.type "int") (.type "int")=some true:=by first|rfl|decide
theorem amd{K:Frag}:kitOne K (.type "int") (.type "bool")=some false:=by first|rfl|decide
theorem akt{K:Frag}:kitOne K (.type "int") (.type "tuple")=some false:=by first|rfl|decide
theorem ame{K:Frag}:kitOne K (.type "int") (.type "list")=some false:=by first|rfl|decide
theorem an6{K:Frag}:kitOne K (.type "int") (.type "str")=some false:=by first|rfl|decide
theorem amf{K:Frag}:kitOne K (.type "int") (.type "dict")=some false:=by first|rfl|decide
theorem an7{K:Frag}:kitOne K (.type "str") (.type "int")=some false:=by first|rfl|decide
theorem amg{K:Frag}:kitOne K (.type "str") (.type "bool")=some false:=by first|rfl|decide
theorem aku{K:Frag}:kitOne K (.type "str") (.type "tuple")=some false:=by first|rfl|decide
theorem amh{K:Frag}:kitOne K (.type "str") (.type "list")=some false:=by first|rfl|decide
theorem an8{K:Frag}:kitOne K (.type "str") (.type "str")=some true:=by first|rfl|decide
theorem ami{K:Frag}:kitOne K (.type "str") (.type "dict")=some false:=by first|rfl|decide
theorem amj{K:Frag}:kitOne K (.type "list") (.type "int")=some false:=by first|rfl|decide
theorem akv{K:Frag}:kitOne K (.type "list") (.type "bool")=some false:=by first|rfl|decide
theorem ajc{K:Frag}:kitOne K (.type "list") (.type "tuple")=some false:=by first|rfl|decide
theorem akw{K:Frag}:kitOne K (.type "list") (.type "list")=some true:=by first|rfl|decide
theorem amk{K:Frag}:kitOne K (.type "list") (.type "str")=some false:=by first|rfl|decide
theorem akx{K:Frag}:kitOne K (.type "list") (.type "dict")=some false:=by first|rfl|decide
theorem aky{K:Frag}:kitOne K (.type "tuple") (.type "int")=some false:=by first|rfl|decide
theorem ajd{K:Frag}:kitOne K (.type "tuple") (.type "bool")=some false:=by first|rfl|decide
theorem aif{K:Frag}:kitOne K (.type "tuple") (.type "tuple")=some true:=by first|rfl|decide
theorem aje{K:Frag}:kitOne K (.type "tuple") (.type "list")=some false:=by first|rfl|decide
theorem akz{K:Frag}:kitOne K (.type "tuple") (.type "str")=some false:=by first|rfl|decide
theorem ajf{K:Frag}:kitOne K (.type "tuple") (.type "dict")=some false:=by first|rfl|decide
theorem aml{K:Frag}:kitOne K (.type "dict") (.type "int")=some false:=by first|rfl|decide
theorem ak0{K:Frag}:kitOne K (.type "dict") (.type "bool")=some false:=by first|rfl|decide
theorem ajg{K:Frag}:kitOne K (.type "dict") (.type "tuple")=some false:=by first|rfl|decide
theorem ak1{K:Frag}:kitOne K (.type "dict") (.type "list")=some false:=by first|rfl|decide
theorem amm{K:Frag}:kitOne K (.type "dict") (.type "str")=some false:=by first|rfl|decide
theorem ak2{K:Frag}:kitOne K (.type "dict") (.type "dict")=some true:=by first|rfl|decide
end
end L2
namespace L2
open PySem
section
variable{σ:St}{H:Hp}{K:Frag}
theorem acl{p:Addr}{o:HO}(a:H p=none):Same H (upd H p o):=λb u e=>by rw[aaf (aam e a)];exact e
theorem Same.at{H H':Hp}{b:Addr}{o:HO}(s:Same H H')(h:H b=some o):H' b=some o:=s b o h
end
section
variable{σ:St}{H:Hp}{K:Frag}
end
end L2
namespace Gr
inductive Walk(T:Int->Int->Prop)(u:Int):Nat->Int->Prop
 |refl:Walk T u 0 u
 |step {k:Nat} {v w:Int}:Walk T u k v->T v w->Walk T u (k+1) w
def Dist(T:Int->Int->Prop)(u v:Int)(d:Nat):Prop:=Walk T u d v/\∀ k,Walk T u k v->d<=k
theorem Dist.uniq{T:Int->Int->Prop}{u v:Int}{d e:Nat}(h:Dist T u v d)(g:Dist T u v e):d=e:=Nat.le_antisymm (h.2 _ g.1) (g.2 _ h.1)
theorem Dist.self(T:Int->Int->Prop)(u:Int):Dist T u u 0:=⟨.refl,λ_ _=>aG1 _⟩
theorem Dist.of_walk{T:Int->Int->Prop}{u v:Int}{k:Nat}(h:Walk T u k v):∃ d,d<=k/\Dist T u v d:=by
 induction k using Nat.strongRecOn with
 | ind k ih =>
  by_cases hx:∃ j,j<k/\Walk T u j v
  ·obtain⟨j,a,w⟩:=hx
   obtain⟨d,hd,e⟩:=ih j a w
   exact⟨d,by lia,e⟩
  ·refine⟨k,aA6 _,h,λj w=>?_⟩
   by_cases a:j<k
   ·exact absurd ⟨j,a,w⟩ hx
   ·lia
theorem Dist.pred{T:Int->Int->Prop}{u w:Int}{d:Nat}(h:Dist T u w (d+1)):∃ v,T v w/\Dist T u v d:=by
 obtain⟨a,hm⟩:=h
 cases a with
 | step hv ht =>
  rename_i v
  refine⟨v,ht,hv,λk b=>?_⟩
  have:=hm (k+1) (.step b ht)
  lia
theorem Dist.next{T:Int->Int->Prop}{u v w:Int}{d:Nat}(h:Dist T u v d)(t:T v w):∃ e,e<=d+1/\Dist T u w e:=Dist.of_walk (.step h.1 t)
structure Bfs(T:Int->Int->Prop)(a:Int)(line:List Int)(ds:List Nat)(at_:Nat):Prop where
 len:ds.length=line.length
 fst:line[0]?=some a
 nd:line.Nodup
 le:at_<=line.length
 dist:∀(i:Nat) v d,line[i]?=some v->ds[i]?=some d->Dist T a v d
 mono:∀(i j:Nat) d e,i<=j->ds[i]?=some d->ds[j]?=some e->d<=e
 near:∀(i j:Nat) d e,at_<=i->ds[i]?=some d->ds[j]?=some e->e<=d+1
 done:∀(i:Nat) v w,i<at_->line[i]?=some v->T v w->w∈line
end Gr
namespace L2
open PySem PySem.Spec PyProof.Rows
section
variable{σ:St}{H:Hp}{D:Ends}{K:Frag}
end
theorem few_places:∀(n:Nat)(l:List Int),l.Nodup->(∀ v∈l,0<=v/\v<(n:Int))->l.length<=n
 | 0,l,_,h=>by
  cases l with
  |nil=>simp
  |cons v r=>have:=h v (by simp);lia
 | n+1,l,hn,h=>by
  have c:=few_places n (l.erase (n:Int)) (hn.erase _) λv a=>by
   have hm:=List.mem_of_mem_erase a
   have hb:=h v hm
   have b:v ≠ (n:Int):=by
    rintro rfl
    exact absurd a (List.Nodup.not_mem_erase hn)
   lia
  have d:l.length<=(l.erase (n:Int)).length+1:=by
   rw[List.length_erase]
   split <;> lia
  lia
end L2
namespace L2
open PySem
end L2
namespace HT
open PySem PyProof.Rows
section
variable{prog:Program}{w:World}{A:Around}{E:Value->Shared->Prop}{s:Shared}
end
end HT
namespace L2
open PySem PySem.Spec PyProof.Rows
section
variable{X:Cx}
end
section
variable{X:Cx}{pins:List (Addr × Obj)}{σ:St}{H:Hp}{s:Shared}{A:Around}{E:Value->Shared->Prop}{Q:Value->Shared->Prop}{b:Bool}
end
section
variable{X:Cx}
end
mutual
def ltv:PyData->PyData->Bool
 | .int a,.int b=>decide (a<b)
 | .tuple xs,.tuple ys=>ltvs xs ys
 |_,_=>false
def ltvs:List PyData->List PyData->Bool
 |[],[]=>false
 |[],_::_=>true
 |_::_,[]=>false
 |x::xs,y::ys=>if PyData.eqv x y then ltvs xs ys else ltv x y
end
mutual
def cmpD:PyData->PyData->Bool
 | .int _,.int _=>true
 | .tuple xs,.tuple ys=>cmpDs xs ys
 |_,_=>false
def cmpDs:List PyData->List PyData->Bool
 |x::xs,y::ys=>cmpD x y && cmpDs xs ys
 |_,_=>true
end
end L2
namespace HT
open PySem PyProof.Rows L2
def LtAt(A:Around)(s:Shared)(y x:Value)(b:Bool):Prop :=
 ∀(prog:Program)(w:World)(E:Value->Shared->Prop)(Q:Value->Shared->Prop),Q (.bool b) s->wpAny (model prog w) A (richCompare .Lt y x) Q E s
section
open PySem.SeqAt
open PySem.AutoSeq1 (wpAny_loadPart')
open PySem.MeetsSeq PySem.MeetsSeq2 PySem.MeetsSeq3
inductive Its(A:Around)(s:Shared):List Value->List Value->Bool->Prop
 |nn:Its A s [] [] false
 |nc {x:Value} {ys:List Value}:Its A s [] (x::ys) true
 |cn {x:Value} {xs:List Value}:Its A s (x::xs) [] false
 |eq {x y:Value} {xs ys:List Value} {b:Bool}:EqAt A s x y true->Its A s xs ys b->Its A s (x::xs) (y::ys) b
 |ne {x y:Value} {xs ys:List Value} {b:Bool}:EqAt A s x y false->LtAt A s x y b->Its A s (x::xs) (y::ys) b
theorem amn(l b:Addr)(items a:Array Value)(n D:Nat)(F u:Option Addr)(sl v:Array (Option Value))(r:Bool) :
  Meets (Builtin.«tuple.__lt__» ⟨[.ref l,.ref b],[]⟩)
   (λA R s=>s.heap.get? l=some { cls:=.type "tuple",dict:=F,data:=.seq items n,slots:=sl }/\s.heap.get? b=some { cls:=.type "tuple",dict:=u,data:=.seq a D,slots:=v } /\
    Its A.in1 s items.toList a.toList r/\R (.ok (.ret (.bool r))) s) :=
 .of_wp λprog w A R s h=>by
  obtain⟨B,g,d,C,os⟩:=s;obtain⟨G,hb,hi,h⟩:=h
  have I:=AutoSeq1.sub_tuple_tuple
  wp_walk using wpAny_loadPart' G,wpAny_loadPart' hb,wpAny_forIn_list _ (λrest b s'=>b.1=none/\s'=⟨B,g,d,C,os⟩/\∃(vs m:List Value),rest=vs.zip m /\
   vs.length+a.size=m.length+items.size/\Its A.in1 ⟨B,g,d,C,os⟩ vs m r) _
  case turn =>
   rintro⟨y,x⟩ rest b s' ⟨j,rfl,vs,m,hz,c,q⟩
   cases q with
   |nn=>cases hz
   |nc=>cases hz
   |cn=>cases hz
   | eq he hI' =>
    rw[List.zip_cons_cons] at hz
    injection hz with i f
    injection i with o p
    subst o p
    simp only[aE6] at c
    refine aJ1 (he prog w _ _ ?_)
    wp_walk
    exact⟨rfl,rfl,_,_,f,by lia,hI'⟩
   | ne he hlt =>
    rw[List.zip_cons_cons] at hz
    injection hz with i f
    injection i with o p
    subst o p
    refine aJ1 (he prog w _ _ ?_)
    have z:=hlt prog w
    wp_walk using z
    exact⟨_,rfl,by simpa using h⟩
  case fin =>
   rintro⟨b1,H⟩ s' ⟨j,rfl,vs,m,hz,c,q⟩
   simp only at j
   subst j
   have E:r=decide (items.size<a.size):=by
    cases q with
    | nn =>
     simp only[aI9] at c
     exact(aD7 (by lia)).symm
    | nc =>
     simp only[aI9,aE6] at c
     exact(aD8 (by lia)).symm
    | cn =>
     simp only[aI9,aE6] at c
     exact(aD7 (by lia)).symm
    |eq=>cases hz
    |ne=>cases hz
   rw[E] at h
   wp_walk
   exact⟨_,rfl,by simpa[Builtin.Tuple.tupleCompareSizes] using h⟩
  case h =>
   exact⟨rfl,rfl,items.toList,a.toList,rfl,by simp;lia,hi⟩
end
section
variable{A:Around}{s:Shared}
theorem LtAt.tup{l b:Addr}{o f:Obj}{items a:Array Value}{n j:Nat}{r:Bool}(p:s.heap.get? l=some o)(m:o.cls=.type "tuple")(hd:o.data=.seq items n)(hb:s.heap.get? b=some f)(c:f.cls=.type "tuple")(d:f.data=.seq a j)
  (y:A.units<cLine) (hi:Its A.in1 s items.toList a.toList r):LtAt A s (.ref l) (.ref b) r:=by
 intro prog w E Q q
 obtain⟨cls,v,data,sl⟩:=o
 obtain⟨u,h,g,i⟩:=f
 simp only at m hd c d
 subst m hd c d
 exact richCompare_meets_room (op:=.Lt) ⟨_,p,rfl⟩ ⟨_,hb,rfl⟩ PySem.F.slot_tuple_lt PySem.F.entry_tuple_lt (PySem.F.args_tuple_lt_2 _ _) (amn l b items a n j v h sl i r)
  ⟨p,hb,hi,show Value.bool r ≠ Value.notImplemented/\Q (.bool r) s from⟨(λx=>nomatch x),q⟩⟩ y
mutual
theorem aig:∀(c d:PyData)(A:Around)(s:Shared)(a b:Value)(as bs:List Addr),Reads s.heap a c as->Reads s.heap b d bs->cmpD c d=true->aaq c=true->aaq d=true ->
  A.units+c.depth<cLine->LtAt A s a b (ltv c d)
 | .int i,.int j,A,s,_,_,_,_,.int _ t,.int _ u,_,_,_,_=>λprog w E Q q=>als A s i t j u prog w E Q (by simpa[ltv] using q)
 | .tuple xs,.tuple ys,A,s,_,_,_,_,.tuple h1 h2 h3 h4,.tuple k1 k2 k3 k4,hc,pa,pb,hu=>by
  have f:A.units+(PyData.depthAll xs+1)<cLine:=hu
  have e:ltv (.tuple xs) (.tuple ys)=ltvs xs ys:=by simp[ltv]
  rw[e]
  exact LtAt.tup h1 h2 h3 k1 k2 k3 (by lia) (its_reads xs ys A.in1 s _ _ _ _ h4 k4 (by simpa[cmpD] using hc) (by simpa[aaq] using pa) (by simpa[aaq] using pb) (by show A.units+1+_<_;lia))
 | .int _,.none,_,_,_,_,_,_,_,_,hc,_,_,_=>by simp[cmpD] at hc
 | .int _,.bool _,_,_,_,_,_,_,_,_,hc,_,_,_=>by simp[cmpD] at hc
 | .int _,.str _,_,_,_,_,_,_,_,_,hc,_,_,_=>by simp[cmpD] at hc
 | .int _,.list _,_,_,_,_,_,_,_,_,hc,_,_,_=>by simp[cmpD] at hc
 | .int _,.tuple _,_,_,_,_,_,_,_,_,hc,_,_,_=>by simp[cmpD] at hc
 | .int _,.dict _,_,_,_,_,_,_,_,_,hc,_,_,_=>by simp[cmpD] at hc
 | .tuple _,.none,_,_,_,_,_,_,_,_,hc,_,_,_=>by simp[cmpD] at hc
 | .tuple _,.bool _,_,_,_,_,_,_,_,_,hc,_,_,_=>by simp[cmpD] at hc
 | .tuple _,.str _,_,_,_,_,_,_,_,_,hc,_,_,_=>by simp[cmpD] at hc
 | .tuple _,.list _,_,_,_,_,_,_,_,_,hc,_,_,_=>by simp[cmpD] at hc
 | .tuple _,.int _,_,_,_,_,_,_,_,_,hc,_,_,_=>by simp[cmpD] at hc
 | .tuple _,.dict _,_,_,_,_,_,_,_,_,hc,_,_,_=>by simp[cmpD] at hc
 | .none,_,_,_,_,_,_,_,_,_,hc,_,_,_=>by simp[cmpD] at hc
 | .bool _,_,_,_,_,_,_,_,_,_,hc,_,_,_=>by simp[cmpD] at hc
 | .str _,_,_,_,_,_,_,_,_,_,hc,_,_,_=>by simp[cmpD] at hc
 | .list _,_,_,_,_,_,_,_,_,_,hc,_,_,_=>by simp[cmpD] at hc
 | .dict _,_,_,_,_,_,_,_,_,_,hc,_,_,_=>by simp[cmpD] at hc
theorem its_reads:∀(xs ys:List PyData)(A:Around)(s:Shared)(vs f:List Value)(as bs:List Addr),ReadsAll s.heap vs xs as->ReadsAll s.heap f ys bs->cmpDs xs ys=true->plainDs xs=true->plainDs ys=true ->
  A.units+PyData.depthAll xs<cLine->Its A s vs f (ltvs xs ys)
 |[],[],_,_,_,_,_,_,.nil,.nil,_,_,_,_=>by simp only[ltvs];exact .nn
 |[],_::_,_,_,_,_,_,_,.nil,.cons _ _,_,_,_,_=>by simp only[ltvs];exact .nc
 |_::_,[],_,_,_,_,_,_,.cons _ _,.nil,_,_,_,_=>by simp only[ltvs];exact .cn
 | x::xs,y::ys,A,s,_,_,_,_,.cons r1 r2,.cons q1 q2,hc,pa,pb,hu=>by
  have c:cmpD x y=true/\cmpDs xs ys=true:=by simpa[cmpDs] using hc
  have b:aaq x=true/\plainDs xs=true:=by simpa[plainDs] using pa
  have a:aaq y=true/\plainDs ys=true:=by simpa[plainDs] using pb
  have hd:PyData.depthAll (x::xs)=max x.depth (PyData.depthAll xs):=by simp[PyData.depthAll]
  have g:=Nat.min_le_left x.depth y.depth
  have d:=SeqAt.eqAt_reads x y A s _ _ _ _ r1 q1 (acx _ b.1) (acx _ a.1) (by lia)
  cases hq:PyData.eqv x y with
  | true =>
   rw[hq] at d
   have e:ltvs (x::xs) (y::ys)=ltvs xs ys:=by simp[ltvs,hq]
   rw[e]
   exact .eq d (its_reads xs ys A s _ _ _ _ r2 q2 c.2 b.2 a.2 (by lia))
  | false =>
   rw[hq] at d
   have e:ltvs (x::xs) (y::ys)=ltv x y:=by simp[ltvs,hq]
   rw[e]
   exact .ne d (aig x y A s _ _ _ _ r1 q1 c.1 b.1 a.1 (by lia))
end
end
end HT
namespace L2
open PySem PySem.Spec PyProof.Rows
section
variable{X:Cx}
end
end L2
namespace L2
open PySem
end L2
namespace TS
open PySem PyProof.Rows HT
theorem ao2:∀ x y:List Int,HT.lexLt x y=true->HT.lexLt y x=false
 |[],[],h=>by simp[HT.lexLt] at h
 |[],_::_,_=>rfl
 |_::_,[],h=>by simp[HT.lexLt] at h
 | a::x,b::y,h=>by
  rw[ad9] at h ⊢
  by_cases e:a=b
  ·subst e
   rw[aF6 rfl] at h ⊢
   exact ao2 x y h
  ·rw[aF7 e] at h
   rw[aF7 (λz=>e z.symm)]
   have:=of_decide_eq_true h
   exact aD7 (by lia)
theorem asc:∀ x y z:List Int,HT.lexLt y x=false->HT.lexLt z y=false->HT.lexLt z x=false
 |_,[],[],h,_=>h
 |[],[],_::_,_,_=>rfl
 |_::_,[],_::_,h,_=>by simp[HT.lexLt] at h
 |_,_::_,[],_,h=>by simp[HT.lexLt] at h
 |[],_::_,_::_,_,_=>rfl
 | a::x,b::y,c::z,h,g=>by
  rw[ad9] at h g ⊢
  by_cases e:b=a
  ·subst e
   rw[aF6 rfl] at h
   by_cases e2:c=b
   ·subst e2
    rw[aF6 rfl] at g ⊢
    exact asc x y z h g
   ·rw[aF7 e2] at g ⊢
    exact g
  ·rw[aF7 e] at h
   have h':=of_decide_eq_false h
   by_cases e2:c=b
   ·subst e2
    rw[aF7 e]
    exact h
   ·rw[aF7 e2] at g
    have g':=of_decide_eq_false g
    rw[aF7 (by lia)]
    exact aD7 (by lia)
def TI(h:Heap)(a:Addr)(ns:List Int):Prop:=∃ o xs n,h.get? a=some o/\o.cls=.type "tuple"/\o.data=.seq xs n/\IntsAre xs.toList ns
def kfV(kf:Addr->List Int):Value->List Int
 | .ref a=>kf a
 |_=>[]
section
variable{prog:Program}{w:World}{A:Around}{E:Value->Shared->Prop}{s:Shared}
theorem ahf{fin:Bool}{Q:Bool->Shared->Prop}:∀{xs ys:List Value}{ns c:List Int}(i:Nat),IntsAre xs ns->IntsAre ys c->(ns.length<c.length->fin=true)->(c.length<=ns.length->fin=false)->Q (HT.lexLt ns c) s ->
  PySem.W.KatLex prog w A true fin Q (xs.zip ys) i s
 | _,_,_,_,i,.nil,.nil,_,h2,q=>by
  rw[h2 (aA6 _)];exact q
 | _,_,_,_,i,.nil,.cons b u r,h1,_,q=>by
  rw[h1 (by simp)];exact q
 | _,_,_,_,i,.cons a t r,.nil,_,h2,q=>by
  rw[List.zip_nil_right,h2 (by simp)];exact q
 | _,_,_,_,i,.cons a t r,.cons b u r2,h1,h2,q=>by
  rw[List.zip_cons_cons]
  refine PySem.W.kat_cons (SeqAt.EqAt.int_int a t b u prog w _ _ ?_)
  rw[ad9] at q
  by_cases e:a=b
  ·subst e
   rw[aF6 rfl] at q
   rw[show(a == a)=true by simp]
   exact PySem.W.kat_yes (ahf (i+1) r r2 (λz=>h1 (by simpa using z)) (λz=>h2 (by simpa using z)) q)
  ·rw[aF7 e] at q
   rw[show(a == b)=false by simpa using e]
   refine PySem.W.kat_no ?_
   by_cases hi:i=0
   ·subst hi
    exact oneLt_int q
   ·rw[show(true && i == 0)=false by simpa using hi]
    exact PySem.W.kat_one _ _ (PyProof.Rows.lt_int q)
def tS(h:Heap)(kf:Addr->List Int)(x:Keyed):Prop:=x.1=x.2/\∃ a,x.1=.ref a/\TI h a (kf a)
def tR(kf:Addr->List Int)(x y:Keyed):Bool:=HT.lexLt (kfV kf x.1) (kfV kf y.1)
theorem cmp_tups(i:Addr->List Int):Cmp (model prog w) A E s (tuples' true) (tS s.heap i) (tR i):=by
 refine⟨λx y u p Q st l q=>?_,λx y _ _=>ao2 _ _,λx y z _ _ _=>asc _ _ _⟩
 obtain⟨F,G⟩:=x
 obtain⟨I,D⟩:=y
 obtain⟨_,a,j,o,xs,n,v,J,B,d⟩:=u
 obtain⟨_,b,h,o',ys,H,m,C,r,g⟩:=p
 dsimp only at j h
 subst j h
 rw[lt'_eq]
 refine wpS_bind (wpS_get ?_)
 rw[l]
 refine wpS_bind (wpS_lift (wpAny_attempt (PySem.W.kat_lt v B m r (ahf 0 d g (λz=>?_) (λz=>?_) ⟨rfl,?_⟩))))
 ·have f:=d.length;have c:=g.length
  simp at f c
  exact aD8 (by lia)
 ·have f:=d.length;have c:=g.length
  simp at f c
  exact aD7 (by lia)
 ·exact wpS_pure q
theorem aqh{vs:List Value}{ps:List Keyed}(h:ps.Perm (vs.zip vs)):(∀ p∈ps,p.1=p.2/\p.1∈vs)/\(ps.map (·.2)).Perm vs:=by
 refine⟨λp a=>mem_zip_self (h.mem_iff.mp a),?_⟩
 have b:=h.map (λp=>p.2)
 have e:(vs.zip vs).map (λp=>p.2)=vs:=List.map_snd_zip (aA6 _)
 rwa [e] at b
theorem list_sort_any{a:Addr}{vs:List Value}{n:Nat}{P:PySem.Fin->Shared->Prop}(j:s.heap.get? a=some (seqObj "list" vs.toArray n))(c:vs.length<=sizeLine)
  (r:2<=vs.length->∀ h',(∀ b o,b ≠ a->s.heap.get? b=some o->h'.get? b=some o)->∃ κ S R,(∀(Q:SortKind->Shared->Prop),Q κ { s with heap:=h' }->wpAny (model prog w) A (keyKind' vs.toArray) Q E { s with heap:=h' })/\Cmp (model prog w) A E { s with heap:=h' } κ S R/\(∀ v∈vs,S (v,v)) /\
   ∀ out:List Value,out.Perm vs->out.Pairwise (λx y=>R (y,y) (x,x)=false)->P (.done (.ret .none)) { s with heap:=sortedHeap s.heap a vs out.toArray })
  (K:vs.length<2->P (.done (.ret .none)) { s with heap:=sortedHeap s.heap a vs vs.toArray }) :
  wpAny (model prog w) A (Builtin.«list.sort» ⟨[.ref a],[]⟩) P E s:=by
 rw[list_sort_plain]
 have ha:a<s.heap.objs.size:=aJ4 j
 refine aJ1 (listItems_at j rfl ?_)
 refine aJ1 (listUpdate_at j rfl ?_ (by rw[aB2];exact c) (aG1 _))
 obtain⟨p,f⟩:∃ p,(s.heap.update a (Obj.mapSeq λ_=>#[])).get? a=some (seqObj "list" #[] p):=⟨_,get?_update_seq j (λ_=>#[])⟩
 refine aJ1 (seqEpoch_at f rfl ?_)
 refine aJ1 (wpAny_newTuple ?_ (by show vs.length<=_;exact c))
 refine aJ1 (wpAny_newList ?_ (aG1 _))
 refine aJ7 ?_
 have d:(((s.heap.update a (Obj.mapSeq λ_=>#[])).push (seqObj "tuple" vs.toArray 0)).push (seqObj "list" #[] 0)).get? a=some (seqObj "list" #[] p):=by
  rw[Heap.get?_push_ne _ _ _ (by rw[size_push',Heap.size_update];exact aB6 (aF9 ha)),Heap.get?_push_ne _ _ _ (by rw[Heap.size_update];exact aB6 ha)]
  exact f
 show wpAny (model prog w) A _ P E { s with heap:=((s.heap.update a (Obj.mapSeq λ_=>#[])).push (seqObj "tuple" vs.toArray 0)).push (seqObj "list" #[] 0) }
 dsimp only
 have hsz:vs.toArray.size=vs.length:=by simp
 have kp:∀ b o,b ≠ a->s.heap.get? b=some o->(((s.heap.update a (Obj.mapSeq λ_=>#[])).push (seqObj "tuple" vs.toArray 0)).push (seqObj "list" #[] 0)).get? b=some o:=λb o hb e=>by
  refine aJ3 _ (aJ3 _ ?_)
  rw[Heap.get?_update_ne _ _ _ _ hb];exact e
 by_cases h2:vs.toArray.size<2
 ·rw[aF6 h2,aF6 h2]
  refine aJ1 (aJ2 ?_)
  rw[StateT.run_pure]
  refine aJ1 (aJ2 ?_)
  dsimp only
  have q:(arrOf (SortSt.mk' general' (vs.toArray.zip vs.toArray) #[] 7 none)).map (·.2)=vs.toArray:=by
   show(vs.toArray.zip vs.toArray).map (·.2)=vs.toArray
   apply Array.toList_inj.mp
   rw[Array.toList_map,Array.toList_zip]
   exact List.map_snd_zip (aA6 _)
  rw[q]
  refine aJ1 (seqEpoch_at d rfl ?_)
  refine aJ1 (listUpdate_at d rfl ?_ (aG1 _) (by rw[aB2];exact Nat.le_succ_of_le c))
  simp only[bne_self_eq_false,Bool.false_eq_true,if_false]
  exact aJ2 (K (by lia))
 ·rw[aF7 h2,aF7 h2]
  obtain⟨κ,S,R,z,C,I,i⟩:=r (by lia) _ kp
  refine aJ1 (z _ ?_)
  refine aJ1 (aK0 (axg C (a0:=vs.toArray.zip vs.toArray) (st:=SortSt.mk' κ (vs.toArray.zip vs.toArray) #[] 7 none) (Q:=λ_ st'=>failedOf st'=none/\(arrOf st').toList.Perm (vs.zip vs)/\Srt R (arrOf st').toList) (λx m=>?_) rfl rfl rfl rfl λst' D F s'=>⟨D,by simpa using F,s'⟩) ?_ λ_ _ e=>e)
  ·have:x∈vs.zip vs:=by simpa using m
   obtain⟨h,g⟩:=mem_zip_self this
   obtain⟨H,J⟩:=x
   dsimp only at h g
   subst h
   exact I _ g
  rintro⟨⟨⟩,st'⟩ s' ⟨rfl,hf,G,hs⟩
  dsimp only
  obtain⟨h,g⟩:=aqh G
  have q:(arrOf st').map (·.2)=(((arrOf st').toList.map (·.2)).toArray):=by
   apply Array.toList_inj.mp
   simp
  rw[q]
  have l:((arrOf st').toList.map (·.2)).length=vs.length:=g.length_eq
  refine aJ1 (seqEpoch_at d rfl ?_)
  refine aJ1 (listUpdate_at d rfl ?_ (aG1 _) (by rw[aB2,l];exact Nat.le_succ_of_le c))
  rw[hf]
  simp only[bne_self_eq_false,Bool.false_eq_true,if_false]
  refine aJ2 (i _ g ?_)
  rw[aG2]
  refine aI1 ?_ hs
  intro x y m B L
  have ex:=(h x m).1
  have u:=(h y B).1
  obtain⟨H,J⟩:=x
  obtain⟨N,M⟩:=y
  dsimp only at ex u
  subst ex u
  exact L
theorem sorted_any{l:Addr}{vs:List Value}{Q:Value->Shared->Prop}(n:s.heap.IsList l vs.toArray)(c:vs.length<=sizeLine)
  (h:2<=vs.length->∀ h',(∀ b o,s.heap.get? b=some o->h'.get? b=some o)->∃ κ S R,(∀(Q:SortKind->Shared->Prop),Q κ { s with heap:=h' }->wpAny (model prog w) A.in1.in1 (keyKind' vs.toArray) Q E { s with heap:=h' })/\Cmp (model prog w) A.in1.in1 E { s with heap:=h' } κ S R/\(∀ v∈vs,S (v,v)) /\
   ∀ out:List Value,out.Perm vs->out.Pairwise (λx y=>R (y,y) (x,x)=false)->Q (.ref (s.heap.objs.size+1)) { s with heap:=sortedAll s.heap vs out.toArray })
  (p:vs.length<2->Q (.ref (s.heap.objs.size+1)) { s with heap:=sortedAll s.heap vs vs.toArray }) :
  wpAny (model prog w) A (call (.builtin "sorted") [.ref l]) Q E s:=by
 refine Calls.call_function_entry kind_sorted plain_sorted entry_sorted (args_sorted1 _) ?_
 unfold Builtin.«sorted»
 refine aJ1 (m:=checkCount "sorted" 1 1 _) (aJ2 ?_)
 refine aJ1 (collect_list n ?_ c)
 refine aJ1 (wpAny_newList ?_ c)
 have hsz:((s.heap.push (seqObj "list" #[] 0)).update s.heap.objs.size (Obj.mapSeq (· ++ vs.toArray))).objs.size=s.heap.objs.size+1:=by
  rw[Heap.size_update,size_push']
 have d:(((s.heap.push (seqObj "list" #[] 0)).update s.heap.objs.size (Obj.mapSeq (· ++ vs.toArray))).push (seqObj "list" vs.toArray 0)).get? (s.heap.objs.size+1)=some (seqObj "list" vs.toArray 0):=by
  rw[← hsz];exact aJ5 _ rfl
 have keep:∀ b o,s.heap.get? b=some o->(((s.heap.push (seqObj "list" #[] 0)).update s.heap.objs.size (Obj.mapSeq (· ++ vs.toArray))).push (seqObj "list" vs.toArray 0)).get? b=some o:=λb o q=>by
  have a:b<s.heap.objs.size:=aJ4 q
  rw[Heap.get?_push_ne _ _ _ (by rw[hsz];exact aB6 (aF9 a)),Heap.get?_update_ne _ _ _ _ (aB6 a),Heap.get?_push_ne _ _ _ (aB6 a)]
  exact q
 show wpAny _ _ _ _ _ { s with heap:=((s.heap.push (seqObj "list" #[] 0)).update s.heap.objs.size (Obj.mapSeq (· ++ vs.toArray))).push (seqObj "list" vs.toArray 0) }
 rw[hsz]
 refine aJ1 (aJ7 (aK4 slot_list_sort ⟨_,d,rfl⟩ entry_list_sort ?body (args_list_sort _)))
 case body =>
  refine list_sort_any (s:={ s with heap:=((s.heap.push (seqObj "list" #[] 0)).update s.heap.objs.size (Obj.mapSeq (· ++ vs.toArray))).push (seqObj "list" vs.toArray 0) }) d c (λg h' kp=>?_) λa=>?_
  ·obtain⟨κ,S,R,i,C,j,f⟩:=h g h' λb o e=>kp b o (aB6 (aF9 (aJ4 e))) (keep b o e)
   exact⟨κ,S,R,i,C,j,λout u r=>⟨_,rfl,aJ2 ⟨_,rfl,f out u r⟩⟩⟩
  ·exact⟨_,rfl,aJ2 ⟨_,rfl,p a⟩⟩
end
end TS
namespace L2
open PySem PySem.Spec PyProof.Rows
def toI:V->Int
 | .int i=>i
 |_=>0
def kH(H:Hp):V->List Int
 | .ref t=>match H t with
  |some (.tup xs)=>xs.map toI
  |_=>[]
 |_=>[]
theorem axj(ns:List Int):(ns.map V.int).map toI=ns:=by
 rw[aE0]
 have:(toI ∘ V.int)=id:=by funext i;rfl
 rw[this,List.map_id]
theorem aih{H:Hp}{t:Addr}{ns:List Int}(h:H t=some (.tup (ns.map V.int))):kH H (.ref t)=ns:=by
 simp only[kH,h];exact axj ns
def TupI(H:Hp)(v:V):Prop:=∃ t ns,v=.ref t/\H t=some (.tup (ns.map V.int))/\ns ≠ []
def adc:Value->V
 | .ref a=>.ref a
 |_=>.non
theorem agh:∀{us:List Value},(∀ u∈us,∃ a,u=.ref a)->Vals (us.map adc) us
 |[],_=>.nil
 | u::us,h=>by
  obtain⟨a,e⟩:=h u aB8
  subst e
  exact .cons rfl (agh λv b=>h v (aB5 _ b))
theorem aj5{H:Hp}:∀{vs:List V}{us:List Value},Vals vs us->(∀ v∈vs,TupI H v)->(∀ u∈us,∃ a,u=.ref a)/\us.map adc=vs
 |_,_,.nil,_=>⟨λu f=>(by cases f),rfl⟩
 | v::vs,u::us,.cons r t,h=>by
  obtain⟨a,ns,rfl,_,_⟩:=h v aB8
  cases r
  obtain⟨c,d⟩:=aj5 t λv g=>h v (aB5 _ g)
  refine⟨λx b=>?_,by rw[aD1,d];rfl⟩
  rcases aA9.mp b with rfl|b
  ·exact⟨_,rfl⟩
  ·exact c x b
section
variable{X:Cx}
def aii(K:Frag):List V->Hp->VK->Prop:=λxs H Q=>∃(a:Addr)(vs:List V),xs=[.ref a]/\SqL K H a vs/\(∀ v∈vs,TupI H v) /\
 ∀(vs':List V)(p:Addr),vs'.Perm vs->vs'.Pairwise (λx y=>HT.lexLt (kH H y) (kH H x)=false)->H p=none->Q (.ref p) (upd H p (.lst vs'))
theorem ahr{H:Hp}{pins:List (Addr × Obj)}{σ:St}{s:Shared}(I:Inv X pins σ H s){h':Heap}(kp:∀ b o,s.heap.get? b=some o->h'.get? b=some o):∀{vs:List V}{us:List Value},Vals vs us->(∀ v∈vs,TupI H v) ->
  (∃ fs,PySem.W.KatTups h' us fs/\fs.length=us.length/\∀ f∈fs,∃ i t,f=.int i t)/\∀ u∈us,∃ a,u=.ref a/\TS.TI h' a (kH H (.ref a))
 |_,_,.nil,_=>⟨⟨[],trivial,rfl,λf hf=>by cases hf⟩,λu F=>by cases F⟩
 | v::vs,u::us,.cons r t,h=>by
  obtain⟨a,ns,rfl,e,j⟩:=h v aB8
  cases r
  obtain⟨⟨fs,k1,A,D⟩,y⟩:=ahr I kp t λv C=>h v (aB5 _ C)
  obtain⟨_,its,B,o,m,q,n,p⟩:=(show ObjOk X.prog X.w H s.heap a (.tup (ns.map V.int)) from I.hok a _ e)
  have hi:IntsAre its ns:=by simpa using (acj B:IntsAre its.toArray.toList ns)
  have E:TS.TI h' a (kH H (.ref a)):=⟨o,its.toArray,n,kp _ _ m,q,p,by rw[aih e];simpa using hi⟩
  obtain⟨f,hf,i,l,z⟩:∃ f,its.toArray[0]?=some f/\∃ i t,f=.int i t:=by
   cases hi with
   |nil=>exact absurd rfl j
   |cons i l _=>exact⟨_,by simp,i,l,rfl⟩
  refine⟨⟨f::fs,PySem.W.KatTups.cons (kp _ _ m) q p hf k1,by simp[A],λg d=>?_⟩,λx c=>?_⟩
  ·rcases aA9.mp d with rfl|d
   ·exact⟨i,l,z⟩
   ·exact D g d
  ·rcases aA9.mp c with rfl|c
   ·exact⟨a,rfl,E⟩
   ·exact y x c
theorem amo{α:Type}{R : α->α->Prop}:∀{l:List α},l.length<2->l.Pairwise R
 |[],_=>List.Pairwise.nil
 |[_],_=>List.pairwise_singleton _ _
 |_::_::_,h=>absurd h (by simp)
theorem afn:abh X (.builtin "sorted") (aii X.K):=by
 intro pins s σ H xs us Q I r h
 obtain⟨a,vs,rfl,ha,n,q⟩:=h
 obtain⟨u,rfl,E⟩:=acb r
 cases E
 obtain⟨its,m,A,hz⟩:=I.list ha
 obtain⟨b1,F⟩:=aj5 m n
 have c:its.length<=sizeLine:=by rw[← m.length];exact hz
 have f:H (s.heap.objs.size+1)=none:=I.hok.fresh (Nat.le_succ _)
 have fin:∀ out:List Value,out.Perm its->(out.map adc).Pairwise (λx y=>HT.lexLt (kH H y) (kH H x)=false)->EP X pins σ Q (.ref (s.heap.objs.size+1)) { s with heap:=sortedAll s.heap its out.toArray }:=by
  intro out d hs
  obtain⟨e,z⟩:=sortedAll_at s.heap its out.toArray
  have g:Vals (out.map adc) out:=agh λu M=>b1 u (d.mem_iff.mp M)
  refine⟨.ref (s.heap.objs.size+1),_,I.laid (t':=s.toks) (o:=.lst (out.map adc)) (λb N q=>sortedAll_old q) (Nat.le_succ _) ?_,rfl,q _ _ ?_ hs f⟩
  ·refine⟨by rw[aA3,d.length_eq];exact c,out,e,g,by rw[z]⟩
  ·rw[← F];exact d.map adc
 refine TS.sorted_any A.isList c (λD h' kp=>?_) λj=>?_
 ·obtain⟨⟨fs,k1,R,C⟩,p⟩:=ahr I kp m n
  have l:(Value.type "int" != Value.type "tuple")=true:=by rfl
  refine⟨tuples' true,TS.tS h' (λa=>kH H (.ref a)),TS.tR (λa=>kH H (.ref a)),λP L=>?_,TS.cmp_tups (s:={ s with heap:=h' }) (λa=>kH H (.ref a)),λv g=>?_,λout d hs=>fin out d ?_⟩
  ·refine PySem.W.kat_kind (T:=.type "int") (s:={ s with heap:=h' }) k1 (by lia) (λv g=>?_) (by rfl) ?_
   ·obtain⟨i,t,rfl⟩:=C v g
    exact .now
   ·rw[l];exact L
  ·obtain⟨a,e,G⟩:=p v g
   exact⟨rfl,a,e,G⟩
  ·rw[aG2]
   refine aI1 ?_ hs
   intro x y B w J
   obtain⟨S,rfl⟩:=b1 x (d.mem_iff.mp B)
   obtain⟨O,rfl⟩:=b1 y (d.mem_iff.mp w)
   exact J
 ·refine fin its (List.Perm.refl _) ?_
  exact amo (by rw[aA3];exact j)
end
end L2
namespace HT
open PySem PySem.Spec PyProof.Rows L2
section
variable{prog:Program}{w:World}{A:Around}{kw:List (Str × Value)}{R:Result->Shared->Prop}{I S:Addr}{fp wr:List Addr}{n:Nat}{P:Nat->Value->Prop}{St:Nat->Heap->Prop}{Hd:Heap->Prop}
theorem asd(W:Walks prog w A.in1 I fp wr n P St)(bt:Nat->Nat->Bool)
  (K:∀ i j U T (s:Shared) (Q:Value->Shared->Prop) (E:Value->Shared->Prop),Hd s.heap->P i U->P j T->Q (.bool (bt i j)) s->wpAny (model prog w) A.in1 (richCompare .Lt U T) Q E s)
  (hd:∀ h h':Heap,Hd h->(∀ b o,b ∉ wr->b ≠ S->h.get? b=some o->h'.get? b=some o)->Hd h') (G:S ∉ fp) :
  ∀(k j:Nat)(s:Shared)(q:Value)(c:Nat),n-(j+1)=k->j+1<=n->St (j+1) s.heap->Hd s.heap->P (argBest bt j) q ->
  s.heap.get? S=some { cls:=.type "list",dict:=none,data:=.seq #[q,q] c,slots:=#[] } ->
  (∀ v h' M,P (argBest bt (n-1)) v->(∀ b o,b ∉ wr->b ≠ S->s.heap.get? b=some o->h'.get? b=some o)->R (.ok (.ret v)) { s with heap:=h',toks:=M }) ->
  codeAny (model prog w) A (.builtin "min.loop" ⟨[.ref I,.none,.ref S],kw⟩) R s:=by
 have H:S ∉ wr:=λh=>G (W.sub _ h)
 have p:(toString "min" ++ toString ".loop" : String) = "min.loop":=by decide
 intro k
 induction k with
 | zero =>
  intro j s q c Y Z C hh r J L
  have D:j+1=n:=by lia
  apply aK8 F.entry_min_loop
  rw[aK2 F.plain_min_loop (⟨[.ref I,.none,.ref S],kw⟩:Args)]
  show wpAny (model prog w) A.in1 (seqItems? (.ref S) >>= _) _ _ s
  apply aJ1;apply wpAny_seqItems J rfl
  show wpAny (model prog w) A.in1 (tryCatch (pyNext (.ref I)) _ >>= _) _ _ s
  apply aJ1;apply wpAny_tryCatch
  refine W.done s _ _ (D ▸ C) (λh' M f=>?_)
  have g:=f S _ H J
  show wpAny (model prog w) A.in1 (updateSeq S (λ_=>#[]) >>= _) _ _ _
  apply aJ1
  refine(wpAny_updateSeq g rfl (aJ1 (wpAny_letGo (aJ2 ?_))))
  exact L q _ M (by rw[← D];exact r) (λb o a d e=>(aJ9 _ _ (Ne.symm d)).trans (f b o a e))
 | succ k ih =>
  intro j s q c Y Z C hh r J L
  have y:j+1<n:=by lia
  apply aK8 F.entry_min_loop
  rw[aK2 F.plain_min_loop (⟨[.ref I,.none,.ref S],kw⟩:Args)]
  show wpAny (model prog w) A.in1 (seqItems? (.ref S) >>= _) _ _ s
  apply aJ1;apply wpAny_seqItems J rfl
  show wpAny (model prog w) A.in1 (tryCatch (pyNext (.ref I)) _ >>= _) _ _ s
  apply aJ1;apply wpAny_tryCatch
  refine W.item (j+1) s _ _ y C (λv h' M X u f=>?_)
  have g:=f S _ H J
  have B:Hd h':=hd _ _ hh λb o a _ e=>f b o a e
  show wpAny (model prog w) A.in1 (tryCatch (holding [v,v] (richCompare .Lt v q >>= _)) _ >>= _) _ _ _
  apply aJ1;apply wpAny_tryCatch;apply aJ7;apply aJ1
  refine K (j+1) (argBest bt j) v q _ _ _ B X r ?_
  apply aJ1;apply aJ7;apply aK5
  apply aJ1;apply wpAny_letGo;apply aJ2
  cases hb:bt (j+1) (argBest bt j) with
  | true =>
   simp only[if_true]
   apply aJ1
   refine(wpAny_updateSeq g rfl (aJ1 (wpAny_letGo ?_)))
   rw[p]
   refine aJ2 ⟨plainId_quiet F.plain_min_loop _,?_⟩
   refine ih (j+1) _ v _ (by lia) y (W.frame _ _ _ u λb N o e=>?_) (hd _ _ B λb o a d e=>(aJ9 _ _ (Ne.symm d)).trans e) (by simp only[argBest,hb,if_true];exact X) (aK7 _ g rfl) (λO z m x l=>?_)
   ·exact(aJ9 _ _ (λh:S=b=>G (h ▸ N))).trans e
   ·exact(L O z m x λb o a d e=>l b o a d ((aJ9 _ _ (Ne.symm d)).trans (f b o a e)))
  | false =>
   simp only[Bool.false_eq_true,if_false]
   apply aJ1;apply wpAny_letGo
   rw[p]
   refine aJ2 ⟨plainId_quiet F.plain_min_loop _,?_⟩
   refine ih (j+1) _ q c (by lia) y u B (by simp only[argBest,hb,Bool.false_eq_true,if_false];exact r) g (λO z m x l=>?_)
   exact(L O z m x λb o a d e=>l b o a d (f b o a e))
theorem aqi(W:Walks prog w A.in1 I fp wr n P St)(bt:Nat->Nat->Bool)
  (r:∀ i j K J (s:Shared) (Q:Value->Shared->Prop) (E:Value->Shared->Prop),Hd s.heap->P i K->P j J->Q (.bool (bt i j)) s->wpAny (model prog w) A.in1 (richCompare .Lt K J) Q E s)
  (hd:∀ h h':Heap,Hd h->(∀ b o,b ∉ wr->b ≠ S->h.get? b=some o->h'.get? b=some o)->Hd h') (g:S ∉ fp) {s:Shared} {c:Nat} (x:St 0 s.heap) (hh:Hd s.heap)
  (M:s.heap.get? S=some { cls:=.type "list",dict:=none,data:=.seq #[] c,slots:=#[] })
  (U:n=0->kw=([("default",.none)]:List (Str × Value))/\∀ h' m,(∀ b o,b ∉ wr->b ≠ S->s.heap.get? b=some o->h'.get? b=some o)->R (.ok (.ret .none)) { s with heap:=h',toks:=m })
  (N:0<n->∀ v h' m,P (argBest bt (n-1)) v->(∀ b o,b ∉ wr->b ≠ S->s.heap.get? b=some o->h'.get? b=some o)->R (.ok (.ret v)) { s with heap:=h',toks:=m }) :
  codeAny (model prog w) A (.builtin "min.loop" ⟨[.ref I,.none,.ref S],kw⟩) R s:=by
 have B:S ∉ wr:=λh=>g (W.sub _ h)
 have l:(toString "min" ++ toString ".loop" : String) = "min.loop":=by decide
 apply aK8 F.entry_min_loop
 rw[aK2 F.plain_min_loop (⟨[.ref I,.none,.ref S],kw⟩:Args)]
 show wpAny (model prog w) A.in1 (seqItems? (.ref S) >>= _) _ _ s
 apply aJ1;apply wpAny_seqItems M rfl
 show wpAny (model prog w) A.in1 (tryCatch (pyNext (.ref I)) _ >>= _) _ _ s
 apply aJ1;apply wpAny_tryCatch
 by_cases hn:0<n
 ·refine W.item 0 s _ _ hn x (λv h' m O y d=>?_)
  have p:=d S _ B M
  have H:Hd h':=hd _ _ hh λb o a _ e=>d b o a e
  show wpAny (model prog w) A.in1 (updateSeq S (λ_=>#[v,v]) >>= _) _ _ _
  apply aJ1
  refine(wpAny_updateSeq p rfl ?_)
  rw[l]
  refine aJ2 ⟨plainId_quiet F.plain_min_loop _,?_⟩
  refine asd (Hd:=Hd) W bt r hd g _ 0 _ v _ rfl hn (W.frame _ _ _ y λb D o e=>?_) (hd _ _ H λb o a f e=>(aJ9 _ _ (Ne.symm f)).trans e) O (aK7 _ p rfl) (λT G u z q=>?_)
  ·exact(aJ9 _ _ (λh:S=b=>g (h ▸ D))).trans e
  ·exact(N hn T G u z λb o a f e=>q b o a f ((aJ9 _ _ (Ne.symm f)).trans (d b o a e)))
 ·have L:n=0:=by lia
  obtain⟨rfl,C⟩:=U L
  refine W.done s _ _ (by rw[L];exact x) (λh' m d=>?_)
  show wpAny (model prog w) A.in1 (rule _ >>= _) _ _ _
  refine aJ1 (wpAny_rule (aJ2 ?_))
  exact C h' m λb o a _ e=>d b o a e
end
section
variable{prog:Program}{w:World}{A:Around}{E:Value->Shared->Prop}{s:Shared}
theorem axk{id:String}{b:Builtin}{args:List Value}{a:List (Str × Value)}{Q:Value->Shared->Prop}(g:builtinKind id=none)(d:plainId id=true)(hb:entryFor table id=some b)(ha:argsOk id ⟨args,a⟩)
  (c:wpAny (model prog w) A.in1 (b ⟨args,a⟩) (λfin s'=>match fin with
   | .done f=>(match (Except.ok f:Result) with | .ok (.ret v)=>Q v s' | .ok _=>False | .error e=>E e s') | .again c'=>c'.quiet=true/\codeAny (model prog w) A c' (λr s'=>match r with | .ok (.ret v)=>Q v s' | .ok _=>False | .error e=>E e s') s') E s) :
  wpAny (model prog w) A (call (.builtin id) args a) Q E s:=by
 apply wpAny_call;apply codeAny_call_builtin d hb
 simp only[checkBuiltinCall,g]
 cases hsig:Manifest.signature? id with
 |none=>exact aJ2 c
 | some sig =>
  have h:Bind.checkArgs id sig ⟨args,a⟩=pure ():=by simp only[argsOk,hsig] at ha;exact ha
  simp only[h]
  exact aJ2 c
theorem ase(a:Value):argsOk "min" ⟨[a],[("default",.none)]⟩:=by unfold argsOk;kernel_rfl
theorem asf(a:Value):argsOk "min" ⟨[a],[]⟩:=by unfold argsOk;kernel_rfl
def btD(ds:List PyData)(i j:Nat):Bool:=ltv (ds.getD i .none) (ds.getD j .none)
theorem min_dft{x:List (Str × Value)}(u:x=[]\/x=([("default",.none)]:List (Str × Value))){l:Addr}{us:List Value}{ds:List PyData}{Q:Value->Shared->Prop}(hh:A.handled=none)(z:s.heap.IsList l us.toArray)(N:∀(i:Nat) v,us[i]?=some v->∃ d as,ds[i]?=some d/\Reads s.heap v d as)
  (S:∀ d∈ds,∀ e∈ds,cmpD d e=true) (G:∀ d∈ds,aaq d=true) (hu:∀ d∈ds,A.in1.units+d.depth<cLine)
  (L:us=[]->x=([("default",.none)]:List (Str × Value))/\∀ h' m,(∀ b o,s.heap.get? b=some o->h'.get? b=some o)->Q .none { s with heap:=h',toks:=m })
  (X:∀ v h' m,us[argBest (btD ds) (us.length-1)]?=some v->(∀ b o,s.heap.get? b=some o->h'.get? b=some o)->Q v { s with heap:=h',toks:=m }) :
  wpAny (model prog w) A (call (.builtin "min") [.ref l] x) Q E s:=by
 have p:l<s.heap.objs.size:=by obtain⟨_,e,_⟩:=z;exact aJ4 e
 have f:(toString "min" ++ toString ".loop" : String) = "min.loop":=by decide
 refine axk F.kind_min F.plain_min F.entry_min (by rcases u with rfl|rfl;exact asf _;exact ase _) ?_
 have g:codeAny (model prog w) A (.builtin "min.loop" ⟨[.ref s.heap.objs.size,.none,.ref (s.heap.push { cls:=.type "list_iterator",data:=.fields #[.ref l,.int 0 0] }).objs.size],x⟩) (λr s'=>match r with | .ok (.ret v)=>Q v s' | .ok _=>False | .error e=>E e s') { s with heap:=(s.heap.push { cls:=.type "list_iterator",data:=.fields #[.ref l,.int 0 0] }).push { cls:=.type "list",dict:=none,data:=.seq #[] 0,slots:=#[] } }:=by
  have W:=Walks.list (prog:=prog) (w:=w) (A:=A.in1) hh s.heap.objs.size l (aB6 p) us.toArray
  have a:s.heap.objs.size<(s.heap.push { cls:=.type "list_iterator",data:=.fields #[.ref l,.int 0 0] }).objs.size:=by rw[aK3];exact aI7 _
  refine aqi (Hd:=λh=>∀ b o,s.heap.get? b=some o->h.get? b=some o) W (btD ds) (c:=0) ?_ ?_ ?_ ?_ ?_ ?_ ?_ ?_
  ·intro i j D C s' P Y y hi Z hq
   obtain⟨I,T,J,R⟩:=N i D (by simpa using hi)
   obtain⟨K,aj,M,O⟩:=N j C (by simpa using Z)
   have B:=aA2 J
   have H:=aA2 M
   refine aig I K A.in1 s' D C T aj (PyProof.Rows.Reads.keeps y R) (PyProof.Rows.Reads.keeps y O) (S _ B _ H) (G _ B) (G _ H) (hu _ B) prog w Y P ?_
   have:btD ds i j=ltv I K:=by simp[btD,List.getD,J,M]
   rw[← this];exact hq
  ·intro h h' y n b o e
   have hb:=aJ4 e
   refine n b o (λhm=>?_) (λhm=>?_) (y b o e)
   ·have:b=s.heap.objs.size:=by simpa using hm
    rw[this] at hb;exact aG5 _ hb
   ·rw[hm] at hb;exact aG5 _ (Nat.lt_trans a hb)
  ·intro hm
   rcases aA9.mp hm with e|hm
   ·exact aG5 _ (e ▸ a)
   ·have e:=aC2.mp hm
    exact aG5 _ (Nat.lt_trans p (e ▸ a))
  ·exact⟨⟨_,aJ3 _ (aJ5 _ rfl),rfl,rfl⟩,(z.push _).push _⟩
  ·exact λb o e=>aJ3 _ (aJ3 _ e)
  ·exact aJ5 _ rfl
  ·intro hn
   have q:us=[]:=by
    have:us.length=0:=by simpa using hn
    exact aJ0.mp this
   refine⟨(L q).1,λh' m n=>(L q).2 h' m λb o e=>?_⟩
   have hb:=aJ4 e
   refine n b o (λhm=>?_) (λhm=>?_) (aJ3 _ (aJ3 _ e))
   ·have:b=s.heap.objs.size:=by simpa using hm
    rw[this] at hb;exact aG5 _ hb
   ·rw[hm] at hb;exact aG5 _ (Nat.lt_trans a hb)
  ·intro hn v h' m U n
   refine X v h' m (by simpa using U) λb o e=>?_
   have hb:=aJ4 e
   refine n b o (λhm=>?_) (λhm=>?_) (aJ3 _ (aJ3 _ e))
   ·have:b=s.heap.objs.size:=by simpa using hm
    rw[this] at hb;exact aG5 _ hb
   ·rw[hm] at hb;exact aG5 _ (Nat.lt_trans a hb)
 rcases u with rfl|rfl
 ·show wpAny _ A.in1 (Builtin.Builtins.bindParams "min" ["key","default"] 0 ⟨[],[]⟩ >>= _) _ _ s
  refine aJ1 (wpAny_of_eq (show Builtin.Builtins.bindParams "min" ["key","default"] 0 ⟨[],[]⟩=pure [none,none] from rfl) ?_)
  apply aJ1;apply aJ2
  apply aJ1
  refine aK6 z ?_
  refine(aJ1 (aK1 ?_))
  rw[f]
  exact aJ2 ⟨plainId_quiet F.plain_min_loop _,g⟩
 ·show wpAny _ A.in1 (Builtin.Builtins.bindParams "min" ["key","default"] 0 ⟨[],[("default",.none)]⟩ >>= _) _ _ s
  refine aJ1 (wpAny_of_eq (show Builtin.Builtins.bindParams "min" ["key","default"] 0 ⟨[],[("default",.none)]⟩=pure [none,some .none] from rfl) ?_)
  apply aJ1;apply aJ2
  apply aJ1
  refine aK6 z ?_
  refine(aJ1 (aK1 ?_))
  rw[f]
  exact aJ2 ⟨plainId_quiet F.plain_min_loop _,g⟩
end
end HT
namespace L2
open PySem PySem.Spec PyProof.Rows
def aqj(K:Frag):List V->Hp->VK->Prop:=λxs H Q=>∃(a:Addr)(vs:List V)(ds:List PyData),xs=[.ref a]/\SqL K H a vs/\vs.length=ds.length/\(∀(i:Nat) v d,vs[i]?=some v->ds[i]?=some d->Rep H v d)/\(∀ d∈ds,∀ e∈ds,cmpD d e=true)/\(∀ d∈ds,aaq d=true/\d.depth<=60) /\
 (vs=[]->Q .non H)/\∀ v,vs[argBest (HT.btD ds) (vs.length-1)]?=some v->Q v H
section
variable{X:Cx}{x:Str}{p pos kpos:Pos}{e en:Expr}{t:TA}
theorem axl(hu:X.A.units+64<cLine)(J:X.calm=true)(N:Gl X "min")(hm:X.mg "min" = none)(ha:PA X [e] t)(x:PE X en (tC .non))
  (c:bootBuiltins "min" = some (.builtin "min"):=by decide +kernel)
  (F:backTo pos (starEach [e] X.env)=(false,eval e X.env)::backTo pos (starEach [] X.env):=by rfl)
  (y:(backTo pos (starEach [e] X.env)).any (·.1)=false:=by rfl) :
  PE X (.Call (.Name "min" p) [e] [⟨some "default",en,kpos⟩] pos) (tCB (aqj X.K) t):=by
 intro pins s σ H Q I h
 refine wpAny_Call_Name_kw (acu I N hm c ?_ (by decide) (by decide))
 refine PyProof.Rows.callWith_kw (thn (ha pos pins s σ H _ I h) λus s1 ⟨vs,B,P,W,U⟩=>?_) F y
 refine thn (aw6 (nm:=some "default") (kpos:=kpos) x azx pos pins s1 σ B (λC H2=>C=[.non]/\H2=B) P ⟨rfl,rfl⟩) λZ s2 ⟨C,H2,l,T,M,S⟩=>?_
 subst M S
 obtain⟨a,xs,ds,rfl,O,D,m,n,b,o,q⟩:=U
 obtain⟨u,rfl,R⟩:=acb W
 cases R
 obtain⟨u2,rfl,w⟩:=acb T
 cases w
 show wpAny _ X.A (call (.builtin "min") [.ref a] [("default",.none)]) _ _ s2
 obtain⟨its,r,L,_⟩:=l.list O
 have f:its.length=xs.length:=r.length.symm
 refine HT.min_dft (.inr rfl) (us:=its) (ds:=ds) (l.ok.hd J) (by simpa using L.isList) (λi v c=>?_) n (λd hd=>(b d hd).1) (λd hd=>?_) (λG=>⟨rfl,λh' Y kp=>?_⟩) λv h' Y c kp=>?_
 ·have hi:i<xs.length:=by rw[← f];exact(aA1.mp c).1
  have ex:xs[i]?=some xs[i]:=aA0 hi
  have z:ds[i]?=some (ds[i]'(by lia)):=aA0 (by lia)
  obtain⟨u,j,g⟩:=r.get ex
  rw[c] at j
  cases j
  obtain⟨as,E⟩:=(m i _ _ ex z).reads l g
  exact⟨_,as,z,E⟩
 ·have:=(b d hd).2
  show X.A.units+1+d.depth<cLine
  lia
 ·exact⟨.non,H2,l.kept kp,rfl,o (by have:=congrArg List.length G;exact aJ0.mp (by rw[← f];simpa using this))⟩
 ·rw[f] at c
  have hi:argBest (HT.btD ds) (xs.length-1)<xs.length:=by have:=(aA1.mp c).1;lia
  have ex:xs[argBest (HT.btD ds) (xs.length-1)]?=some xs[argBest (HT.btD ds) (xs.length-1)]:=aA0 hi
  obtain⟨u,j,g⟩:=r.get ex
  rw[c] at j
  cases j
  exact⟨_,H2,l.kept kp,g,q _ ex⟩
end
end L2
namespace HT
open PySem PySem.Spec PyProof.Rows
section
variable{prog:Program}{w:World}{A:Around}{E:Value->Shared->Prop}{s:Shared}
end
end HT
namespace L2
open PySem PySem.Spec PyProof.Rows
section
variable{X:Cx}
end
end L2
namespace VL
open PySem PySem.Spec L2
def kD:Key->PyData
 | .inl i=>.int i
 | .inr x=>.str x
mutual
inductive Rp(G:Hp):V->PyData->Prop
 |non:Rp G .non .none
 |bl (b:Bool):Rp G (.bl b) (.bool b)
 |int (i:Int):Rp G (.int i) (.int i)
 |str (x:Str):Rp G (.str x) (.str x)
 |lst {a:Addr} {xs:List V} {ds:List PyData}:G a=some (.lst xs)->Rps G xs ds->Rp G (.ref a) (.list ds)
 |tup {a:Addr} {xs:List V} {ds:List PyData}:G a=some (.tup xs)->Rps G xs ds->Rp G (.ref a) (.tuple ds)
 |dk {a:Addr} {kvs:List (Key × V)} {es:List (Key × PyData)} {ds:List (PyData × PyData)}:G a=some (.dK kvs)->RpK G kvs es->ds=es.map (λp=>(kD p.1,p.2))->Rp G (.ref a) (.dict ds)
 |dt {a:Addr} {kvs:List (List Key × V)} {es:List (List Key × PyData)} {ds:List (PyData × PyData)}:G a=some (.dT kvs)->RpT G kvs es->ds=es.map (λp=>(.tuple (p.1.map kD),p.2))->Rp G (.ref a) (.dict ds)
inductive Rps(G:Hp):List V->List PyData->Prop
 |nil:Rps G [] []
 |cons {v:V} {vs:List V} {d:PyData} {ds:List PyData}:Rp G v d->Rps G vs ds->Rps G (v::vs) (d::ds)
inductive RpK(G:Hp):List (Key × V)->List (Key × PyData)->Prop
 |nil:RpK G [] []
 |cons {k:Key} {v:V} {d:PyData} {r:List (Key × V)} {s:List (Key × PyData)}:Rp G v d->RpK G r s->RpK G ((k,v)::r) ((k,d)::s)
inductive RpT(G:Hp):List (List Key × V)->List (List Key × PyData)->Prop
 |nil:RpT G [] []
 |cons {k:List Key} {v:V} {d:PyData} {r:List (List Key × V)} {s:List (List Key × PyData)}:Rp G v d->RpT G r s->RpT G ((k,v)::r) ((k,d)::s)
end
mutual
theorem Rp.same{G G':Hp}(s:Same G G'):∀{v:V}{d:PyData},Rp G v d->Rp G' v d
 |_,_,.non=>.non
 |_,_,.bl b=>.bl b
 |_,_,.int i=>.int i
 |_,_,.str x=>.str x
 |_,_,.lst h r=>.lst (s _ _ h) (Rps.same s r)
 |_,_,.tup h r=>.tup (s _ _ h) (Rps.same s r)
 |_,_,.dk h r e=>.dk (s _ _ h) (RpK.same s r) e
 |_,_,.dt h r e=>.dt (s _ _ h) (RpT.same s r) e
theorem Rps.same{G G':Hp}(s:Same G G'):∀{vs:List V}{ds:List PyData},Rps G vs ds->Rps G' vs ds
 |_,_,.nil=>.nil
 |_,_,.cons r t=>.cons (Rp.same s r) (Rps.same s t)
theorem RpK.same{G G':Hp}(s:Same G G'):∀{vs:List (Key × V)}{ds:List (Key × PyData)},RpK G vs ds->RpK G' vs ds
 |_,_,.nil=>.nil
 |_,_,.cons r t=>.cons (Rp.same s r) (RpK.same s t)
theorem RpT.same{G G':Hp}(s:Same G G'):∀{vs:List (List Key × V)}{ds:List (List Key × PyData)},RpT G vs ds->RpT G' vs ds
 |_,_,.nil=>.nil
 |_,_,.cons r t=>.cons (Rp.same s r) (RpT.same s t)
end
theorem Rps.length{G:Hp}:∀{vs:List V}{ds:List PyData},Rps G vs ds->vs.length=ds.length
 |_,_,.nil=>rfl
 |_,_,.cons _ t=>by simp[Rps.length t]
theorem Rps.get{G:Hp}:∀{vs:List V}{ds:List PyData}{i:Nat}{d:PyData},Rps G vs ds->ds[i]?=some d->∃ v,vs[i]?=some v/\Rp G v d
 |_,_,_,_,.nil,e=>by simp at e
 |_,_,0,_,.cons r _,e=>by simp at e;subst e;exact⟨_,rfl,r⟩
 | _,_,i+1,d,.cons _ t,e=>by
  obtain⟨u,a,b⟩:=Rps.get (i:=i) (d:=d) t (by simpa using e)
  exact⟨u,by simpa using a,b⟩
theorem Rps.append{G:Hp}:∀{vs a:List V}{ds es:List PyData},Rps G vs ds->Rps G a es->Rps G (vs++a) (ds++es)
 |_,_,_,_,.nil,s=>s
 |_,_,_,_,.cons r t,s=>.cons r (Rps.append t s)
theorem Rps.set{G:Hp}{v:V}{d:PyData}(h:Rp G v d):∀{vs:List V}{ds:List PyData}(i:Nat),Rps G vs ds->Rps G (vs.set i v) (ds.set i d)
 |_,_,_,.nil=>.nil
 |_,_,0,.cons _ t=>.cons h t
 |_,_,i+1,.cons r t=>.cons r (Rps.set h i t)
theorem Rps.erase{G:Hp}:∀{vs:List V}{ds:List PyData}(i:Nat),Rps G vs ds->Rps G (vs.eraseIdx i) (ds.eraseIdx i)
 |_,_,_,.nil=>.nil
 |_,_,0,.cons _ t=>t
 |_,_,i+1,.cons r t=>.cons r (Rps.erase i t)
theorem Rps.take{G:Hp}:∀{vs:List V}{ds:List PyData}(i:Nat),Rps G vs ds->Rps G (vs.take i) (ds.take i)
 |_,_,0,_=>.nil
 |_,_,_+1,.nil=>.nil
 |_,_,i+1,.cons r t=>.cons r (Rps.take i t)
theorem Rps.drop{G:Hp}:∀{vs:List V}{ds:List PyData}(i:Nat),Rps G vs ds->Rps G (vs.drop i) (ds.drop i)
 |_,_,0,r=>r
 |_,_,_+1,.nil=>.nil
 |_,_,i+1,.cons _ t=>Rps.drop i t
theorem Rps.rep{G:Hp}{vs:List V}{ds:List PyData}(h:Rps G vs ds):∀(k:Nat),Rps G (List.replicate k vs).flatten (List.replicate k ds).flatten
 |0=>.nil
 | k+1=>by
  rw[aH4,aH4,List.flatten_cons,List.flatten_cons]
  exact h.append (Rps.rep h k)
theorem Rps.ints{G:Hp}:∀(ns:List Int),Rps G (ns.map V.int) (ns.map PyData.int)
 |[]=>.nil
 |n::ns=>.cons (.int n) (Rps.ints ns)
theorem Rps.ints_inv{G:Hp}:∀{ns:List Int}{vs:List V},Rps G vs (ns.map PyData.int)->vs=ns.map V.int
 |[],_,.nil=>rfl
 | n::ns,_,.cons r t=>by
  cases r
  rw[Rps.ints_inv t];rfl
mutual
theorem Rp.rep{G:Hp}:∀{v:V}{d:PyData},Rp G v d->aaq d=true->Rep G v d
 |_,_,.non,_=>.non
 |_,_,.bl b,_=>.bl b
 |_,_,.int i,_=>.int i
 |_,_,.str x,_=>.str x
 |_,_,.lst h r,p=>.lst h (Rps.reps r (by simpa[aaq] using p))
 |_,_,.tup h r,p=>.tup h (Rps.reps r (by simpa[aaq] using p))
 |_,_,.dk h r e,p=>by simp[aaq] at p
 |_,_,.dt h r e,p=>by simp[aaq] at p
theorem Rps.reps{G:Hp}:∀{vs:List V}{ds:List PyData},Rps G vs ds->plainDs ds=true->Reps G vs ds
 |_,_,.nil,_=>.nil
 | _,_,.cons r t,p=>by
  simp only[plainDs,aH2] at p
  exact .cons (Rp.rep r p.1) (Rps.reps t p.2)
end
structure Own where
 P:Hp->Hp->V->(Addr->Prop)->Prop
 mono:∀{G H G' H':Hp}{v:V}{F:Addr->Prop},P G H v F->Same G G'->(∀ a o,F a->H a=some o->H' a=some o)->P G' H' v F
 dom:∀{G H:Hp}{v:V}{F:Addr->Prop},P G H v F->∀ a,F a->∃ o,H a=some o
inductive Sl where
 |st (d:PyData)|own (A:Own)|io (A:Own)|scr (ns:List Int)
abbrev En:=List (Option Sl)
structure Bs where
 K:Frag
 G:Hp
 H:Hp
 R:Hp
 S:St
 F:Nat->Addr->Prop
def SlOk(B:Bs)(G H:Hp)(i:Nat)(v:V)(F:Addr->Prop):Sl->Prop
 | .st d=>Rp G v d/\∀ a,¬ F a
 | .own A=>A.P G H v F/\∀ a,F a->B.H a=none
 | .io A=>A.P G H v F/\(∀ a,F a->B.F i a\/B.H a=none)/\B.S[i]?=some (some v)
 | .scr ns=>(∃ a,v=.ref a/\SqL B.K G a (ns.map V.int))/\∀ a,¬ F a
def FT(G H:Hp):Prop:=∀(a:Addr)(ks:List Key),H a=some (.tup (ks.map kV))->G a=some (.tup (ks.map kV))
structure VI(B:Bs)(G H:Hp)(σ:St)(env:En)(F:Nat->Addr->Prop):Prop where
 gh:Same G H
 g0:Same B.G G
 gn:∀ a o,G a=some o->B.G a=some o\/B.H a=none
 rs:Same B.R H
 rb:Same B.R B.H
 bh:∀ a o,B.H a=some o->∃ o',H a=some o'
 fg:∀ i a,F i a->G a=none
 fr:∀ i a,F i a->B.R a=none
 fd:∀ i j a,F i a->F j a->i=j
 fo:∀ i a,F i a->∃ o,H a=some o
 sl:∀ i s,env[i]?=some (some s)->∃ v,σ[i]?=some (some v)/\SlOk B G H i v (F i) s
 ln : σ.length=env.length
 ft:FT G H
def RsOk(G H:Hp)(v:V)(F:Addr->Prop):Sl->Prop
 | .st d=>Rp G v d/\∀ a,¬ F a
 | .own A=>A.P G H v F
 |_=>False
structure RsX(B:Bs)(G H:Hp)(v:V)(Fv:Addr->Prop)(s:Sl)(F:Nat->Addr->Prop):Prop where
 ok:RsOk G H v Fv s
 fb:∀ a,Fv a->B.H a=none
 fg:∀ a,Fv a->G a=none
 fo:∀ a,Fv a->∃ o,H a=some o
 fd:∀ j a,Fv a->¬ F j a
structure Out(G H:Hp)(v:V)(G' H':Hp)(s:Sl)(Fv:Addr->Prop):Prop where
 gg:Same G G'
 gh:Same G' H'
 hh:Same H H'
 gn:∀ a o,G' a=some o->G a=some o\/H a=none
 fn:∀ a,Fv a->H a=none
 fg:∀ a,Fv a->G' a=none
 fo:∀ a,Fv a->∃ o,H' a=some o
 ok:RsOk G' H' v Fv s
 ft:FT G H->FT G' H'
theorem aqk{α:Type}{o:Option α}(h:o ≠ none):∃ x,o=some x:=by
 cases o with
 |none=>exact absurd rfl h
 |some x=>exact⟨x,rfl⟩
theorem SlOk.mono{B:Bs}{G H G' H':Hp}{i:Nat}{v:V}{F:Addr->Prop}{s:Sl}(h:SlOk B G H i v F s)(g:Same G G')(hh:∀ a o,F a->H a=some o->H' a=some o):SlOk B G' H' i v F s:=by
 cases s with
 |st d=>exact⟨h.1.same g,h.2⟩
 |own A=>exact⟨A.mono h.1 g hh,h.2⟩
 |io A=>exact⟨A.mono h.1 g hh,h.2⟩
 | scr ns =>
  obtain⟨⟨a,e,q⟩,n⟩:=h
  exact⟨⟨a,e,g.seq q⟩,n⟩
section
variable{B:Bs}{G H G' H':Hp}{σ:St}{env:En}{F:Nat->Addr->Prop}{v:V}{s:Sl}{Fv:Addr->Prop}
theorem VI.no_r(I:VI B G H σ env F){a:Addr}(h:H a=none):B.R a=none:=by
 cases e:B.R a with
 |none=>rfl
 |some o=>rw[I.rs a o e] at h;cases h
theorem VI.no_b(I:VI B G H σ env F){a:Addr}(h:H a=none):B.H a=none:=by
 cases e:B.H a with
 |none=>rfl
 |some o=>obtain⟨o',b⟩:=I.bh a o e;rw[b] at h;cases h
theorem VI.no_g(I:VI B G H σ env F){a:Addr}(h:H a=none):G a=none:=by
 cases e:G a with
 |none=>rfl
 |some o=>rw[I.gh a o e] at h;cases h
theorem VI.no_f(I:VI B G H σ env F){a:Addr}(h:H a=none)(i:Nat):¬ F i a:=λz=>by
 obtain⟨o,e⟩:=I.fo i a z;rw[e] at h;cases h
theorem VI.grow(I:VI B G H σ env F)(gg:Same G G')(gh:Same G' H')(hh:Same H H')(gn:∀ a o,G' a=some o->G a=some o\/H a=none)(ft:FT G' H'):VI B G' H' σ env F where
 gh:=gh
 g0:=I.g0.trans gg
 gn:=λa o e=>by
  rcases gn a o e with e|e
  ·exact I.gn a o e
  ·exact .inr (I.no_b e)
 rs:=I.rs.trans hh
 rb:=I.rb
 bh:=λa o e=>by obtain⟨o',c⟩:=I.bh a o e;exact⟨o',hh _ _ c⟩
 fg:=λi a z=>by
  cases e:G' a with
  |none=>rfl
  | some o =>
   rcases gn a o e with e|e
   ·rw[I.fg i a z] at e;cases e
   ·exact absurd z (I.no_f e i)
 fr:=I.fr
 fd:=I.fd
 fo:=λi a z=>by obtain⟨o,e⟩:=I.fo i a z;exact⟨o,hh _ _ e⟩
 sl:=λi s e=>by
  obtain⟨v,b,d⟩:=I.sl i s e
  exact⟨v,b,d.mono gg λa o _ q=>hh _ _ q⟩
 ln:=I.ln
 ft:=ft
theorem VI.out(I:VI B G H σ env F)(o:Out G H v G' H' s Fv):VI B G' H' σ env F/\RsX B G' H' v Fv s F :=
 ⟨I.grow o.gg o.gh o.hh o.gn (o.ft I.ft),o.ok,λa z=>I.no_b (o.fn a z),o.fg,o.fo,λj a z y=>I.no_f (o.fn a z) j y⟩
theorem VI.b_r(I:VI B G H σ env F){a:Addr}(h:B.H a=none):B.R a=none:=by
 cases e:B.R a with
 |none=>rfl
 |some o=>rw[I.rb a o e] at h;cases h
def putF(F:Nat->Addr->Prop)(i:Nat)(Fv:Addr->Prop):Nat->Addr->Prop:=λj a=>if j=i then Fv a else F j a
theorem putF_same{i:Nat}{a:Addr}:putF F i Fv i a ↔ Fv a:=by unfold putF;rw[aF6 rfl]
theorem afc{i:Nat}:putF F i Fv i=Fv:=by funext a;unfold putF;rw[aF6 rfl]
theorem aa7{i j:Nat}(h:j ≠ i):putF F i Fv j=F j:=by funext a;unfold putF;rw[aF7 h]
theorem VI.slot(I:VI B G H σ env F)(i:Nat)(o:Option V)(os:Option Sl)(fg:∀ a,Fv a->G a=none)(fr:∀ a,Fv a->B.R a=none)(fo:∀ a,Fv a->∃ o,H a=some o)(fd:∀ j a,j ≠ i->Fv a->¬ F j a)
  (ok:∀ s,os=some s->∃ v,o=some v/\SlOk B G H i v Fv s):VI B G H (σ.set i o) (env.set i os) (putF F i Fv) where
 gh:=I.gh
 g0:=I.g0
 gn:=I.gn
 rs:=I.rs
 rb:=I.rb
 bh:=I.bh
 fg:=λj a z=>by
  by_cases h:j=i
  ·subst h;exact fg a (putF_same.mp z)
  ·rw[aa7 h] at z;exact I.fg j a z
 fr:=λj a z=>by
  by_cases h:j=i
  ·subst h;exact fr a (putF_same.mp z)
  ·rw[aa7 h] at z;exact I.fr j a z
 fd:=λj k a y z=>by
  by_cases h:j=i
  ·by_cases g:k=i
   ·rw[h,g]
   ·subst h;rw[aa7 g] at z;exact absurd z (fd k a g (putF_same.mp y))
  ·by_cases g:k=i
   ·subst g;rw[aa7 h] at y;exact absurd y (fd j a h (putF_same.mp z))
   ·rw[aa7 h] at y;rw[aa7 g] at z;exact I.fd j k a y z
 fo:=λj a z=>by
  by_cases h:j=i
  ·subst h;exact fo a (putF_same.mp z)
  ·rw[aa7 h] at z;exact I.fo j a z
 sl:=λj t e=>by
  by_cases h:j=i
  ·subst h
   rw[aD2,aF6 rfl] at e
   by_cases hl:j<env.length
   ·rw[aF6 hl] at e
    obtain⟨v,b,q⟩:=ok t (aC6 e)
    refine⟨v,by rw[aD2,aF6 rfl,aF6 (by rw[I.ln];exact hl),b],?_⟩
    rw[afc];exact q
   ·rw[aF7 hl] at e;cases e
  ·rw[aD2,aF7 (λz=>h z.symm)] at e
   obtain⟨v,b,q⟩:=I.sl j t e
   refine⟨v,by rw[aD2,aF7 (λz=>h z.symm)];exact b,?_⟩
   rw[aa7 h];exact q
 ln:=by simp[I.ln]
 ft:=I.ft
theorem VI.store(I:VI B G H σ env F)(r:RsX B G H v Fv s F)(i:Nat):VI B G H (σ.set i (some v)) (env.set i (some s)) (putF F i Fv):=by
 refine I.slot i (some v) (some s) r.fg (λa z=>I.b_r (r.fb a z)) r.fo (λj a _ z=>r.fd j a z) λt e=>?_
 cases e
 refine⟨v,rfl,?_⟩
 have:=r.ok
 cases s with
 |st d=>exact this
 |own A=>exact⟨this,r.fb⟩
 |io A=>exact this.elim
 |scr ns=>exact this.elim
theorem VI.drop(I:VI B G H σ env F)(i:Nat):VI B G H σ (env.set i none) (putF F i λ_=>False):=by
 have:=I.slot (Fv:=λ_=>False) i ((σ[i]?).getD none) none (λa z=>z.elim) (λa z=>z.elim) (λa z=>z.elim) (λj a _ z=>z.elim) (λs e=>by cases e)
 rwa [show σ.set i ((σ[i]?).getD none) = σ from ?_] at this
 apply aG3
 intro j
 rw[aD2]
 by_cases h:i=j
 ·subst h
  rw[aF6 rfl]
  by_cases hl:i<σ.length
  ·rw[aF6 hl,aA0 hl];rfl
  ·rw[aF7 hl,aF8.mpr (by lia)]
 ·rw[aF7 h]
theorem VI.change{A:Own}(I:VI B G H σ env F)(i:Nat){H2:Hp}{F2:Addr->Prop}{os os':Sl}(e:env[i]?=some (some os))(g : σ[i]?=some (some v))
  (keep:∀ a o,¬ F i a->H a=some o->H2 a=some o) (p:∀ a o,H a=some o->∃ o',H2 a=some o') (c:∀ a,F2 a->(F i a\/H a=none)/\∃ o,H2 a=some o) (n:A.P G H2 v F2) (N:FT G H2)
  (hs:(os'=.own A/\∃ d,os=.own d)\/(os'=.io A/\∃ d,os=.io d)):VI B G H2 σ (env.set i (some os')) (putF F i F2):=by
 obtain⟨Q,f,q⟩:=I.sl i os e
 rw[g] at f;cases f
 have m:∀ j a,j ≠ i->F j a->¬ F i a:=λj a b y z=>b (I.fd j i a y z)
 have r:∀ a,F2 a->G a=none:=λa z=>by
  rcases(c a z).1 with y|y
  ·exact I.fg i a y
  ·exact I.no_g y
 have J:VI B G H2 σ (env.set i none) (putF F i λ_=>False):=by
  have D:=I.drop i
  refine⟨λa o x=>keep a o (λz=>by rw[I.fg i a z] at x;cases x) (I.gh a o x),D.g0,D.gn,λa o x=>keep a o (λz=>by rw[I.fr i a z] at x;cases x) (I.rs a o x),D.rb,λa o x=>?_,D.fg,D.fr,D.fd,λj a z=>?_,λj s x=>?_,D.ln,N⟩
  ·obtain⟨o',E⟩:=I.bh a o x
   exact p a o' E
  ·obtain⟨o,x⟩:=D.fo j a z
   exact p a o x
  ·obtain⟨u,L,C⟩:=D.sl j s x
   refine⟨u,L,C.mono (Same.refl G) λa o z y=>?_⟩
   by_cases b:j=i
   ·subst b;exact(putF_same.mp z).elim
   ·rw[aa7 b] at z
    exact keep a o (m j a b z) y
 have l:=J.slot (Fv:=F2) i (some v) (some os') r (λa z=>by
   rcases(c a z).1 with y|y
   ·exact I.fr i a y
   ·exact I.no_r y) (λa z=>(c a z).2) (λj a b z y=>by
   rw[aa7 b] at y
   rcases(c a z).1 with x|x
   ·exact m j a b y x
   ·exact I.no_f x j y) λt w=>by
   cases w
   refine⟨v,rfl,?_⟩
   rcases hs with ⟨rfl,d,rfl⟩|⟨rfl,d,rfl⟩
   ·refine⟨n,λa z=>?_⟩
    rcases(c a z).1 with y|y
    ·exact q.2 a y
    ·exact I.no_b y
   ·refine⟨n,λa z=>?_,q.2.2⟩
    rcases(c a z).1 with y|y
    ·exact q.2.1 a y
    ·exact .inr (I.no_b y)
 have K : σ.set i (some v) = σ:=by
  apply aG3
  intro j
  rw[aD2]
  by_cases h:i=j
  ·subst h
   rw[aF6 rfl,g,aF6 (aA1.mp g).1]
  ·rw[aF7 h]
 have O:(env.set i none).set i (some os')=env.set i (some os'):=by simp
 have M:putF (putF F i λ_=>False) i F2=putF F i F2:=by
  funext j a
  by_cases h:j=i
  ·subst h;rw[afc,afc]
  ·rw[aa7 h,aa7 h,aa7 h]
 rw[K,O,M] at l
 exact l
end
open Classical in
def jn(G H:Hp)(F:Addr->Prop):Hp:=λa=>if F a then H a else G a
theorem afo{G H:Hp}{F:Addr->Prop}{a:Addr}(h:F a):jn G H F a=H a:=aF6 h
theorem alg{G H:Hp}{F:Addr->Prop}{a:Addr}(h:¬ F a):jn G H F a=G a:=aF7 h
theorem abo{G H:Hp}{F:Addr->Prop}(h:∀ a,F a->G a=none):Same G (jn G H F):=λa o e=>by
 rw[alg (λz=>by rw[h a z] at e;cases e)];exact e
theorem aql{G H:Hp}{F:Addr->Prop}(h:Same G H):Same (jn G H F) H:=λa o e=>by
 by_cases z:F a
 ·rw[afo z] at e;exact e
 ·rw[alg z] at e;exact h a o e
def Frz(A:Own)(d:PyData):Prop:=∀(G H:Hp)(v:V)(F:Addr->Prop),A.P G H v F->(∀ a,F a->G a=none)->Same G H->Rp (jn G H F) v d
def FQ:Sl->(PyData->Prop)->Prop
 | .st d,R=>R d
 | .own A,R=>∃ d,Frz A d/\R d
 |_,_=>False
def OL(ds:List PyData):Own where
 P:=λG H v F=>∃ a vs,v=.ref a/\H a=some (.lst vs)/\Rps G vs ds/\∀ b,F b ↔ b=a
 mono:=λ⟨a,vs,e,h,r,f⟩ g hh=>⟨a,vs,e,hh a _ ((f a).mpr rfl) h,r.same g,f⟩
 dom:=λ⟨a,vs,e,h,r,f⟩ b z=>by rw[(f b).mp z];exact⟨_,h⟩
def OT(es:List (List Key × PyData)):Own where
 P:=λG H v F=>∃ a kvs,v=.ref a/\H a=some (.dT kvs)/\RpT G kvs es/\∀ b,F b ↔ b=a
 mono:=λ⟨a,vs,e,h,r,f⟩ g hh=>⟨a,vs,e,hh a _ ((f a).mpr rfl) h,r.same g,f⟩
 dom:=λ⟨a,vs,e,h,r,f⟩ b z=>by rw[(f b).mp z];exact⟨_,h⟩
theorem ab3{ds:List PyData}:Frz (OL ds) (.list ds):=λG H v F ⟨a,vs,e,h,r,f⟩ n g=>by
 subst e
 exact .lst (by rw[afo ((f a).mpr rfl)];exact h) (r.same (abo n))
theorem alh{d:PyData}{R:PyData->Prop}(h:R d):FQ (.st d) R:=h
theorem ab7{ds:List PyData}{R:PyData->Prop}(h:R (.list ds)):FQ (.own (OL ds)) R:=⟨_,ab3,h⟩
section
variable{B:Bs}{G H G' H':Hp}{σ:St}{env:En}{F:Nat->Addr->Prop}{v:V}{s:Sl}{Fv:Addr->Prop}
theorem VI.freeze(I:VI B G H σ env F)(fb:∀ a,Fv a->B.H a=none)(fd:∀ j a,Fv a->¬ F j a)(fg:∀ a,Fv a->G a=none):VI B (jn G H Fv) H σ env F where
 gh:=aql I.gh
 g0:=I.g0.trans (abo fg)
 gn:=λa o e=>by
  by_cases z:Fv a
  ·exact .inr (fb a z)
  ·rw[alg z] at e;exact I.gn a o e
 rs:=I.rs
 rb:=I.rb
 bh:=I.bh
 fg:=λi a z=>by
  rw[alg (λy=>fd i a y z)];exact I.fg i a z
 fr:=I.fr
 fd:=I.fd
 fo:=I.fo
 sl:=λi s e=>by
  obtain⟨v,b,c⟩:=I.sl i s e
  exact⟨v,b,c.mono (abo fg) λa o _ q=>q⟩
 ln:=I.ln
 ft:=λa ks e=>abo fg _ _ (I.ft a ks e)
theorem VI.frz{A:Own}{d:PyData}{i:Nat}(I:VI B G H σ env F)(e:env[i]?=some (some (.own A)))(f:Frz A d) :
  ∃ v,σ[i]?=some (some v)/\Rp (jn G H (F i)) v d/\Same G (jn G H (F i))/\VI B (jn G H (F i)) H σ (env.set i (some (.st d))) (putF F i λ_=>False):=by
 obtain⟨v,b,q⟩:=I.sl i _ e
 have c:=f G H v (F i) q.1 (I.fg i) I.gh
 refine⟨v,b,c,abo (I.fg i),?_⟩
 have D:=(I.drop i).freeze (Fv:=F i) q.2 (λj a z y=>by
  by_cases h:j=i
  ·subst h;exact(putF_same.mp y).elim
  ·rw[aa7 h] at y;exact h (I.fd j i a y z)) (I.fg i)
 have J:=D.slot (Fv:=λ_=>False) i (some v) (some (.st d)) (λa z=>z.elim) (λa z=>z.elim) (λa z=>z.elim) (λj a _ z=>z.elim) (λt g=>by cases g;exact⟨v,rfl,c,λa z=>z⟩)
 have l : σ.set i (some v) = σ:=by
  apply aG3
  intro j
  rw[aD2]
  by_cases h:i=j
  ·subst h
   rw[aF6 rfl,b,aF6 (aA1.mp b).1]
  ·rw[aF7 h]
 have m:putF (putF F i λ_=>False) i (λ_=>False)=putF F i λ_=>False:=by
  funext j a
  by_cases h:j=i
  ·subst h;rw[afc,afc]
  ·rw[aa7 h,aa7 h]
 rw[l,m,List.set_set] at J
 exact J
theorem Out.refl{d:PyData}(g:Same G H)(r:Rp G v d):Out G H v G H (.st d) (λ_=>False):=⟨Same.refl _,g,Same.refl _,λa o e=>.inl e,λa z=>z.elim,λa z=>z.elim,λa z=>z.elim,⟨r,λa z=>z⟩,λt=>t⟩
theorem axm{p:Addr}{o:HO}(g:Same G H)(h:H p=none):Same (upd G p o) (upd H p o):=λa u e=>by
 by_cases z:a=p
 ·subst z;rw[aaj] at e ⊢;exact e
 ·rw[aaf z] at e ⊢;exact g a u e
theorem acm{p:Addr}(g:Same G H)(h:H p=none):G p=none:=by
 cases e:G p with
 |none=>rfl
 |some o=>rw[g p o e] at h;cases h
theorem Out.newT{p:Addr}{xs:List V}{ds:List PyData}(g:Same G H)(h:H p=none)(r:Rps G xs ds):Out G H (.ref p) (upd G p (.tup xs)) (upd H p (.tup xs)) (.st (.tuple ds)) (λ_=>False) where
 gg:=acl (acm g h)
 gh:=axm g h
 hh:=acl h
 gn:=λa o e=>by
  by_cases z:a=p
  ·subst z;exact .inr h
  ·rw[aaf z] at e;exact .inl e
 fn:=λa z=>z.elim
 fg:=λa z=>z.elim
 fo:=λa z=>z.elim
 ok:=⟨.tup aaj (r.same (acl (acm g h))),λa z=>z⟩
 ft:=λt a ks e=>by
  by_cases z:a=p
  ·subst z;rw[aaj] at e ⊢;exact e
  ·rw[aaf z] at e ⊢;exact t a ks e
theorem Out.newO{p:Addr}{o:HO}{A:Own}(g:Same G H)(h:H p=none)(b:∀ xs,o ≠ .tup xs)(r:A.P G (upd H p o) (.ref p) (· = p)):Out G H (.ref p) G (upd H p o) (.own A) (· = p) where
 gg:=Same.refl _
 gh:=g.trans (acl h)
 hh:=acl h
 gn:=λa o e=>.inl e
 fn:=λa z=>by rw[z];exact h
 fg:=λa z=>by rw[z];exact acm g h
 fo:=λa z=>by rw[z];exact⟨_,aaj⟩
 ok:=r
 ft:=λt a ks e=>by
  by_cases z:a=p
  ·subst z;rw[aaj] at e;exact absurd (aC6 e) (b _)
  ·rw[aaf z] at e;exact t a ks e
theorem Out.newL{p:Addr}{xs:List V}{ds:List PyData}(g:Same G H)(h:H p=none)(r:Rps G xs ds):Out G H (.ref p) G (upd H p (.lst xs)) (.own (OL ds)) (· = p) :=
 .newO g h (λ_ z=>nomatch z) ⟨p,xs,rfl,aaj,r,λb=>Iff.rfl⟩
theorem Out.newDT{p:Addr}{xs:List (List Key × V)}{ds:List (List Key × PyData)}(g:Same G H)(h:H p=none)(r:RpT G xs ds):Out G H (.ref p) G (upd H p (.dT xs)) (.own (OT ds)) (· = p) :=
 .newO g h (λ_ z=>nomatch z) ⟨p,xs,rfl,aaj,r,λb=>Iff.rfl⟩
end
def EvO(B:Bs)(te:TE)(env:En)(Q':Sl->En->Prop):Prop:=∀(σ:St)(G H:Hp)(F:Nat->Addr->Prop)(Q:VK),VI B G H σ env F ->
 (∀ v G' H' F' Fv s env',VI B G' H' σ env' F'->Same G G'->RsX B G' H' v Fv s F'->Q' s env'->Q v H')->te σ H Q
def Ev(B:Bs)(te:TE)(env:En)(Q':PyData->En->Prop):Prop:=∀(σ:St)(G H:Hp)(F:Nat->Addr->Prop)(Q:VK),VI B G H σ env F ->
 (∀ v G' H' F' d env',VI B G' H' σ env' F'->Same G G'->Rp G' v d->Q' d env'->Q v H')->te σ H Q
def EvT(B:Bs)(tt:TT)(env:En)(Q':Bool->En->Prop):Prop:=∀(σ:St)(G H:Hp)(F:Nat->Addr->Prop)(Q:Bool->Hp->Prop),VI B G H σ env F ->
 (∀ b G' H' F' env',VI B G' H' σ env' F'->Same G G'->Q' b env'->Q b H')->tt σ H Q
def EvA(B:Bs)(ta:TA)(env:En)(Q':List PyData->En->Prop):Prop:=∀(σ:St)(G H:Hp)(F:Nat->Addr->Prop)(Q:List V->Hp->Prop),VI B G H σ env F ->
 (∀ vs G' H' F' ds env',VI B G' H' σ env' F'->Same G G'->Rps G' vs ds->Q' ds env'->Q vs H')->ta σ H Q
structure ItOk(G:Hp)(J:It)(ds:List PyData):Prop where
 go:∀ i G' H',Same G G'->Same G' H'->i<ds.length->J.go i H'
 stop:∀ i G' H',Same G G'->Same G' H'->i=ds.length->J.stop i H'
 yld:∀ i G' H' x H'' d,Same G G'->Same G' H'->FT G' H'->ds[i]?=some d->J.yld i H' x H''->∃ G'',Out G' H' x G'' H'' (.st d) (λ_=>False)
def EvI(B:Bs)(ti:TI)(env:En)(Q':List PyData->En->Prop):Prop:=∀(σ:St)(G H:Hp)(F:Nat->Addr->Prop)(R:It->Hp->Prop),VI B G H σ env F ->
 (∀ J G' H' F' ds env',VI B G' H' σ env' F'->Same G G'->ItOk G' J ds->Q' ds env'->R J H')->ti σ H R
def EvG(B:Bs)(g:TG)(s:Sl)(env:En)(Q':En->Prop):Prop:=∀(σ:St)(G H:Hp)(F:Nat->Addr->Prop)(v:V)(Fv:Addr->Prop)(Q:St->Hp->Prop),VI B G H σ env F->RsX B G H v Fv s F ->
 (∀ σ' G' H' F' env',VI B G' H' σ' env' F'->Same G G'->Q' env'->Q σ' H')->g v σ H Q
def EvGs(B:Bs)(g:TGs)(ds:List PyData)(env:En)(Q':En->Prop):Prop:=∀(σ:St)(G H:Hp)(F:Nat->Addr->Prop)(vs:List V)(Q:St->Hp->Prop),VI B G H σ env F->Rps G vs ds ->
 (∀ σ' G' H' F' env',VI B G' H' σ' env' F'->Same G G'->Q' env'->Q σ' H')->g vs σ H Q
structure VEnds where
 nx:En->Prop
 rt:Sl->En->Prop
 bk:En->Prop:=λ_=>False
 ct:En->Prop:=λ_=>False
structure RelE(B:Bs)(G:Hp)(D:Ends)(D':VEnds):Prop where
 nx:∀ σ G' H F env,VI B G' H σ env F->Same G G'->D'.nx env->D.nx σ H
 rt:∀ σ G' H F env v Fv s,VI B G' H σ env F->Same G G'->RsX B G' H v Fv s F->D'.rt s env->D.rt v H
 bk:∀ σ G' H F env,VI B G' H σ env F->Same G G'->D'.bk env->D.bk σ H
 ct:∀ σ G' H F env,VI B G' H σ env F->Same G G'->D'.ct env->D.ct σ H
def EvS(B:Bs)(ts:TS)(D':VEnds)(env:En):Prop:=∀(σ:St)(G H:Hp)(F:Nat->Addr->Prop)(D:Ends),VI B G H σ env F->RelE B G D D'->ts D σ H
theorem RelE.later{B:Bs}{G G':Hp}{D:Ends}{D':VEnds}(r:RelE B G D D')(g:Same G G'):RelE B G' D D' :=
 ⟨λσ a H F env I q=>r.nx σ a H F env I (g.trans q),λσ a H F env v Fv s I q=>r.rt σ a H F env v Fv s I (g.trans q),λσ a H F env I q=>r.bk σ a H F env I (g.trans q),λσ a H F env I q=>r.ct σ a H F env I (g.trans q)⟩
section
variable{B:Bs}{env:En}{Q':PyData->En->Prop}{QO:Sl->En->Prop}{QT:Bool->En->Prop}{QA:List PyData->En->Prop}{te ta tb:TE}
theorem aen{G H:Hp}{v:V}{d:PyData}{F:Nat->Addr->Prop}(r:Rp G v d):RsX B G H v (λ_=>False) (.st d) F:=⟨⟨r,λa z=>z⟩,λa z=>z.elim,λa z=>z.elim,λa z=>z.elim,λj a z=>z.elim⟩
theorem abl(h:Ev B te env λd e=>QO (.st d) e):EvO B te env QO:=λσ G H F Q I k =>
 h σ G H F Q I λv G' H' b d a c g r q=>k v G' H' b _ (.st d) a c g (aen r) q
theorem ach(h:EvO B te env λs e=>FQ s λd=>Q' d e):Ev B te env Q':=λσ G H F Q I k =>
 h σ G H F Q I λv G' H' c Fv s a b g r q=>by
  cases s with
  |st d=>exact k v G' H' c d a b g r.ok.1 q
  | own A =>
   obtain⟨d,f,q⟩:=q
   exact k v _ H' c d a (b.freeze r.fb r.fd r.fg) (g.trans (abo r.fg)) (f G' H' v Fv r.ok r.fg b.gh) q
  |io A=>exact q.elim
  |scr ns=>exact q.elim
theorem a0b{i:Nat}{d:PyData}(e:env[i]?=some (some (.st d)))(q:Q' d env):Ev B (tVar i) env Q':=λσ G H F Q I k=>by
 obtain⟨v,a,r⟩:=I.sl i _ e
 exact⟨v,a,k v G H F d env I (Same.refl _) r.1 q⟩
theorem axn{i:Nat}{A:Own}{d:PyData}(e:env[i]?=some (some (.own A)))(f:Frz A d)(q:Q' d (env.set i (some (.st d)))):Ev B (tVar i) env Q':=λσ G H F Q I k=>by
 obtain⟨v,a,r,g,J⟩:=I.frz e f
 exact⟨v,a,k v _ H _ d _ J g r q⟩
theorem aur{i:Nat}{A:Own}(e:env[i]?=some (some (.own A)))(q:QO (.own A) (env.set i none)):EvO B (tVar i) env QO:=λσ G H F Q I k=>by
 obtain⟨v,b,r⟩:=I.sl i _ e
 refine⟨v,b,k v G H _ (F i) (.own A) _ (I.drop i) (Same.refl _) ⟨r.1,r.2,I.fg i,I.fo i,λj a z y=>?_⟩ q⟩
 by_cases h:j=i
 ·subst h;exact putF_same.mp y
 ·rw[aa7 h] at y;exact h (I.fd j i a y z)
theorem a0c{i:Int}(q:Q' (.int i) env):Ev B (tC (.int i)) env Q':=λσ G H F Q I k=>k _ G H F _ env I (Same.refl _) (.int i) q
theorem a18{b:Bool}(q:Q' (.bool b) env):Ev B (tC (.bl b)) env Q':=λσ G H F Q I k=>k _ G H F _ env I (Same.refl _) (.bl b) q
theorem a0d(q:Q' .none env):Ev B (tC .non) env Q':=λσ G H F Q I k=>k _ G H F _ env I (Same.refl _) .non q
def Op2(r:R2)(x y:PyData)(R:Sl->Prop):Prop:=∀(G H:Hp)(vx vy:V)(Q:VK),Same G H->Rp G vx x->Rp G vy y->(∀ v G' H' s Fv,Out G H v G' H' s Fv->R s->Q v H')->r vx vy H Q
def OpA(r:List V->Hp->VK->Prop)(ds:List PyData)(R:Sl->Prop):Prop:=∀(G H:Hp)(vs:List V)(Q:VK),Same G H->Rps G vs ds->(∀ v G' H' s Fv,Out G H v G' H' s Fv->R s->Q v H')->r vs H Q
theorem amp{r:R2}(h:Ev B ta env λx d=>Ev B tb d λy b=>Op2 r x y λs=>QO s b):EvO B (tOp r ta tb) env QO:=λσ G H F Q I k =>
 h σ G H F _ I λi q n j x d p g C A=>A σ q n j _ p λu f H2 F2 y b a c m z =>
  z f H2 i u Q a.gh (C.same c) m λv l H3 s Fv o w=>k v l H3 F2 Fv s b (a.out o).1 (g.trans (c.trans o.gg)) (a.out o).2 w
theorem a19{r:R2}(h:Ev B ta env λx b=>Ev B tb b λy a=>Op2 r x y λs=>FQ s λd=>Q' d a):Ev B (tOp r ta tb) env Q':=ach (amp h)
theorem ao3(q:QA [] env):EvA B tNil env QA:=λσ G H F Q I k=>k [] G H F [] env I (Same.refl _) .nil q
theorem aus{tr:TA}(h:Ev B ta env λx c=>EvA B tr c λxs a=>QA (x::xs) a):EvA B (acd ta tr) env QA:=λσ G H F Q I k =>
 h σ G H F _ I λr m j g x c l f q p=>p σ m j g _ l λvs d H2 F2 ds a n b i o=>k _ d H2 F2 _ a n (f.trans b) (.cons (q.same b) i) o
theorem asg{r:List V->Hp->VK->Prop}{t:TA}(h:EvA B t env λds a=>OpA r ds λs=>QO s a):EvO B (tCB r t) env QO:=λσ G H F Q I k =>
 h σ G H F _ I λvs i g d ds a b c m l=>l i g vs Q b.gh m λv f H3 s Fv o j=>k v f H3 d Fv s a (b.out o).1 (c.trans o.gg) (b.out o).2 j
theorem aqm{r:List V->Hp->VK->Prop}{t:TA}(h:EvA B t env λds a=>OpA r ds λs=>FQ s λd=>Q' d a):Ev B (tCB r t) env Q':=ach (asg h)
theorem ao4{t:TA}(h:EvA B t env λds a=>ds.length<=1000/\QO (.st (.tuple ds)) a):EvO B (tTup t) env QO:=λσ G H F Q I k =>
 h σ G H F _ I λvs l j g ds a b f d c=>⟨by rw[d.length];exact aG6 (aeu c.1),λp i=>by
  have o:=Out.newT b.gh i d
  exact k _ _ _ g _ _ a (b.out o).1 (f.trans o.gg) (b.out o).2 c.2⟩
theorem a0e{t:TA}(h:EvA B t env λds a=>ds.length<=1000/\Q' (.tuple ds) a):Ev B (tTup t) env Q':=ach (ao4 h)
theorem ao5{t:TA}(h:EvA B t env λds a=>ds.length<=1000/\QO (.own (OL ds)) a):EvO B (tLst t) env QO:=λσ G H F Q I k =>
 h σ G H F _ I λvs l j g ds a b f d c=>⟨by rw[d.length];exact aG6 (aeu c.1),λp i=>by
  have o:=Out.newL b.gh i d
  exact k _ _ _ g _ _ a (b.out o).1 (f.trans o.gg) (b.out o).2 c.2⟩
theorem a0f{t:TA}(h:EvA B t env λds a=>ds.length<=1000/\Q' (.list ds) a):Ev B (tLst t) env Q':=ach (ao5 λσ G H F Q I k=>h σ G H F Q I λvs G' H' b ds a c g r q=>k vs G' H' b ds a c g r ⟨q.1,ab7 q.2⟩)
theorem ahs(h:Ev B te env λx a=>∃ b,x=.bool b/\QT b a):EvT B (ap6 te) env QT:=λσ G H F Q I k =>
 h σ G H F _ I λv j g f x a i d l c=>by
  obtain⟨b,e,q⟩:=c
  subst e
  cases l
  exact⟨b,rfl,k b j g f a i d q⟩
theorem a2a(h:Ev B te env λx a=>∃ b,x=.bool b/\QT b a):EvT B (tB te) env QT:=ahs h
theorem x_bl{b:Bool}{R:Bool->Prop}(h:R b):∃ c,PyData.bool b=.bool c/\R c:=⟨b,rfl,h⟩
theorem axo{t u:TT}(h:EvT B t env λc a=>if c=true then EvT B u a QT else QT false a):EvT B (tAnd t u) env QT:=λσ G H F Q I k =>
 h σ G H F _ I λb j g f a i d q=>by
  cases b with
  |true=>rw[aF6 rfl] at q ⊢;exact q σ j g f Q i λc l H2 F2 p n m o=>k c l H2 F2 p n (d.trans m) o
  |false=>rw[aF7 aB0] at q ⊢;exact k false j g f a i d q
theorem a0g{t u:TT}(h:EvT B t env λc a=>if c=true then QT true a else EvT B u a QT):EvT B (tOr t u) env QT:=λσ G H F Q I k =>
 h σ G H F _ I λb j g f a i d q=>by
  cases b with
  |false=>rw[aF7 aB0] at q ⊢;exact q σ j g f Q i λc l H2 F2 p n m o=>k c l H2 F2 p n (d.trans m) o
  |true=>rw[aF6 rfl] at q ⊢;exact k true j g f a i d q
theorem ao6{t:TT}(h:EvT B t env λc a=>QT (!c) a):EvT B (tNot t) env QT:=λσ G H F Q I k =>
 h σ G H F _ I λb d f g a i j q=>k (!b) d f g a i j q
theorem abx(q:QT true env):EvT B tYes env QT:=λσ G H F Q I k=>k true G H F env I (Same.refl _) q
def TruD:PyData->Bool->Prop
 | .bool b,k=>k=b
 | .list ds,k=>k = !ds.isEmpty
 |_,_=>False
theorem axp{K:Frag}(h:Ev B te env λx a=>∃ b,TruD x b/\QT b a):EvT B (tTru K te) env QT:=λσ G H F Q I k =>
 h σ G H F _ I λv j i g x a d f n l=>by
  obtain⟨b,e,q⟩:=l
  cases n with
  |bl c=>cases e;exact⟨_,rfl,k _ j i g a d f q⟩
  | lst ha rs =>
   refine⟨b,.inl ⟨_,SqL.of (d.gh _ _ ha),?_⟩,k _ j i g a d f q⟩
   have m:b = !_:=e
   rw[m]
   cases rs <;> rfl
  |_=>exact e.elim
theorem axq(h:Ev B ta env λx a=>∃ b,x=.bool b/\if b=true then Ev B tb a Q' else Q' (.bool false) a):Ev B (ap1 ta tb) env Q':=λσ G H F Q I k =>
 h σ G H F _ I λv j g f x a i c u n=>by
  obtain⟨b,e,q⟩:=n
  subst e
  cases u
  refine⟨b,rfl,?_⟩
  cases b with
  |true=>rw[aF6 rfl] at q ⊢;exact q σ j g f Q i λv l H2 F2 d s p m o r=>k v l H2 F2 d s p (c.trans m) o r
  |false=>rw[aF7 aB0] at q ⊢;exact k _ j g f _ a i c (.bl false) q
theorem axr(h:Ev B ta env λx a=>∃ b,x=.bool b/\Q' (.bool (!b)) a):Ev B (ap2 ta) env Q':=λσ G H F Q I k =>
 h σ G H F _ I λv j g f x a i d l c=>by
  obtain⟨b,e,q⟩:=c
  subst e
  cases l
  exact⟨b,rfl,k _ j g f _ a i d (.bl _) q⟩
theorem aut{r L:R2}{N:TE}(h:Ev B ta env λx K=>Ev B tb K λy g=>Op2 r x y λs=>∃ b,s=.st (.bool b)/\if b=true then Ev B N g λz e3=>Op2 L y z λs'=>FQ s' λd=>Q' d e3 else Q' (.bool false) g):Ev B (alp r L ta tb N) env Q':=λσ G H F Q I k =>
 h σ G H F _ I λZ G1 H1 F1 x K I1 C r1 q1=>q1 σ G1 H1 F1 _ I1 λT U H2 F2 y g S i M q2 =>
  q2 U H2 Z T _ S.gh (r1.same i) M λv E H3 s Fv o X=>by
   obtain⟨b,es,c⟩:=X
   have w:=(S.out o).1
   have m:=o.ok
   subst es
   obtain⟨m,_⟩:=m
   cases m
   refine⟨b,rfl,?_⟩
   cases b with
   |false=>rw[aF7 aB0] at c ⊢;exact k _ E H3 F2 _ g w (C.trans (i.trans o.gg)) (.bl _) c
   | true =>
    rw[aF6 rfl] at c ⊢
    refine c σ E H3 F2 _ w λv3 G4 W D z O R P Y q4=>q4 G4 W T v3 Q R.gh (M.same (o.gg.trans P)) Y λl u p s5 n j a=>?_
    have J:=R.out j
    have gg:=C.trans (i.trans (o.gg.trans (P.trans j.gg)))
    cases s5 with
    |st d=>exact k l u p D d O J.1 gg j.ok.1 a
    | own A =>
     obtain⟨d,f,q⟩:=a
     exact k l _ p D d O (J.1.freeze J.2.fb J.2.fd J.2.fg) (gg.trans (abo J.2.fg)) (f u p l n J.2.ok J.2.fg J.1.gh) q
    |io A=>exact a.elim
    |scr ns=>exact a.elim
end
section
variable{B:Bs}{env:En}{D':VEnds}{t u tb:TS}{te:TE}{g:TG}{c:TT}{QE:En->Prop}
theorem ao7(h:EvS B t { D' with nx:=λe=>EvS B u D' e } env):EvS B (tSeq t u) D' env:=λσ G H F D I r =>
 h σ G H F { D with nx:=u D } I ⟨λσ G' H F env a g q=>q σ G' H F D a (r.later g),r.rt,r.bk,r.ct⟩
theorem afp(h:D'.nx env):EvS B awc D' env:=λσ G H F D I r=>r.nx σ G H F env I (Same.refl _) h
theorem axs(h:EvO B te env λs e=>EvG B g s e D'.nx):EvS B (tAsg te g) D' env:=λσ G H F D I r =>
 h σ G H F _ I λv m j f Fv s u l d i q=>q σ m j f v Fv D.nx l i λa b H2 F2 p n c o=>r.nx a b H2 F2 p n (d.trans c) o
theorem aap{i:Nat}{s:Sl}(h:QE (env.set i (some s))):EvG B (aar i) s env QE:=λσ G H F v Fv Q I x k=>k _ G H _ _ (I.store x i) (Same.refl _) h
theorem adp(h:QE env):EvGs B gNil [] env QE:=λσ G H F vs Q I x k=>by cases x;exact⟨rfl,k σ G H F env I (Same.refl _) h⟩
theorem abg{f:TGs}{d:PyData}{ds:List PyData}(h:EvG B g (.st d) env λe=>EvGs B f ds e QE):EvGs B (aa5 g f) (d::ds) env QE:=λσ G H F vs Q I x k=>by
 cases x with
 | cons r rs =>
  refine⟨_,_,rfl,h σ G H F _ _ _ I (aen r) λa o m l v n c u=>u a o m l _ Q n (rs.same c) λb i H2 F2 s p j q=>k b i H2 F2 s p (c.trans j) q⟩
theorem afd{K:Frag}{n:Nat}{a:TGs}{ds:List PyData}(b:ds.length=n)(h:EvGs B a ds env QE):EvG B (gTup K n a) (.st (.tuple ds)) env QE:=λσ G H F v Fv Q I x k=>by
 obtain⟨r,_⟩:=x.ok
 cases r with
 |tup ha rs=>exact⟨_,_,rfl,SqT.of (I.gh _ _ ha),by rw[rs.length,b],h σ G H F _ Q I rs k⟩
theorem ao8(h:EvO B te env λs e=>D'.rt s e):EvS B (tRet te) D' env:=λσ G H F D I r =>
 h σ G H F _ I λv i f b Fv s c g a d j=>r.rt σ i f b c v Fv s g a d j
theorem auu(h:EvO B te env λ_ e=>D'.nx e):EvS B (awd te) D' env:=λσ G H F D I r =>
 h σ G H F _ I λv g d b Fv s c f a j i=>r.nx σ g d b c f a i
theorem ash(h:EvT B c env λb e=>if b=true then EvS B t D' e else EvS B u D' e):EvS B (tIfS c t u) D' env:=λσ G H F D I r =>
 h σ G H F _ I λb a d f j g i q=>by
  cases b with
  |true=>rw[aF6 rfl] at q ⊢;exact q σ a d f D g (r.later i)
  |false=>rw[aF7 aB0] at q ⊢;exact q σ a d f D g (r.later i)
def ForV(B:Bs)(g:TG)(tb:TS)(D':VEnds)(ds:List PyData)(e1:En):Prop:=∃ J:Nat->En->Prop,J 0 e1/\(∀ i d e,ds[i]?=some d->J i e->EvG B g (.st d) e λe2=>EvS B tb { D' with nx:=J (i+1),ct:=J (i+1),bk:=D'.nx } e2)/\∀ e,J ds.length e->D'.nx e
theorem axt{M:TI}(h:EvI B M env λds w=>ForV B g tb D' ds w):EvS B (tFor M g tb) D' env:=λσ G H F D I r =>
 h σ G H F _ I λJ A H1 W ds w I1 v it R=>by
  obtain⟨L,j0,T,S⟩:=R
  refine⟨λi m σ H=>m=ds.length-i/\i<=ds.length/\∃ b F2 p,VI B b H σ p F2/\Same A b/\L i p,⟨ds.length,by simp,aG1 _,A,W,w,I1,Same.refl _,j0⟩,?_⟩
  rintro i m σ H ⟨rfl,hi,b,F2,p,n,q,N⟩
  by_cases hlt:i<ds.length
  ·refine .inr ⟨it.go i b H q n.gh hlt,λσ H=>∃ u Q O,VI B u H σ O Q/\Same A u/\L (i+1) O,λZ H' h'=>⟨ds.length-(i+1),by lia,rfl,hlt,h'⟩,λx H' y=>?_⟩
   obtain⟨u,o⟩:=it.yld i b H x H' _ q n.gh n.ft (aA0 hlt) y
   have K:=n.out o
   refine T i _ p (aA0 hlt) N σ u H' F2 x _ _ K.1 K.2 λC G4 P U e4 I4 g4 q4=>?_
   have gg:=q.trans (o.gg.trans g4)
   refine q4 C G4 P U _ I4 ⟨λa d s f l c j z=>⟨d,f,l,c,gg.trans j,z⟩,λa d s f l X E Y c j=>r.rt a d s f l X E Y c (v.trans (gg.trans j)),λa d s f l c j=>r.nx a d s f l c (v.trans (gg.trans j)),λa d s f l c j z=>⟨d,f,l,c,gg.trans j,z⟩⟩
  ·have e:i=ds.length:=by lia
   subst e
   exact .inl ⟨it.stop _ b H q n.gh rfl,r.nx σ b H F2 p n (v.trans q) (S p N)⟩
theorem aj6(J:Nat->En->Prop)(x:∃ m,J m env)(h:∀ m e,J m e->EvT B c e λb E=>if b=true then EvS B tb { D' with nx:=λf=>∃ d,d<m/\J d f,ct:=λf=>∃ d,d<m/\J d f,bk:=D'.nx } E else D'.nx E):EvS B (arj c tb) D' env:=λσ G H F D I r=>by
 obtain⟨Q,x⟩:=x
 refine⟨λm σ H=>∃ p F2 f,VI B p H σ f F2/\Same G p/\J m f,⟨Q,G,F,env,I,Same.refl _,x⟩,?_⟩
 rintro m σ H ⟨p,F2,f,T,K,N⟩
 refine h m f N σ p H F2 _ T λb C H3 z U A M s=>?_
 have gg:=K.trans M
 cases b with
 |false=>rw[aF7 aB0] at s ⊢;exact r.nx σ C H3 z U A gg s
 | true =>
  rw[aF6 rfl] at s ⊢
  refine⟨λσ H=>∃ u v q,VI B u H σ q v/\Same G u/\∃ d,d<m/\J d q,λP H' ⟨u,v,q,S,R,d,hm,W⟩=>⟨d,hm,u,v,q,S,R,W⟩,?_⟩
  exact s σ C H3 z _ A ⟨λa i o j n g l w=>⟨i,j,n,g,gg.trans l,w⟩,λa i o j n L y O g l=>r.rt a i o j n L y O g (gg.trans l),λa i o j n g l=>r.nx a i o j n g (gg.trans l),λa i o j n g l w=>⟨i,j,n,g,gg.trans l,w⟩⟩
variable{QI:List PyData->En->Prop}
theorem auv{K:Frag}(h:Ev B te env λd e=>∃ ds,d=.list ds/\QI ds e):EvI B (awe K te) env QI:=λσ G H F R I k =>
 h σ G H F _ I λv q p j d n b f s c=>by
  obtain⟨ds,l,r⟩:=c
  subst l
  cases s with
  | @lst a vs ds ha rs =>
   refine⟨a,rfl,⟨vs,SqL.of (b.gh _ _ ha)⟩,k _ q p j ds n b f ⟨λi G' H' g h hi=>?_,λi G' H' g h hi=>?_,λi G' H' x H'' d g h ft hd y=>?_⟩ r⟩
   ·have:i<vs.length:=by rw[rs.length];exact hi
    exact⟨vs,vs[i],SqL.of (h _ _ (g _ _ ha)),aA0 this⟩
   ·exact⟨vs,SqL.of (h _ _ (g _ _ ha)),by rw[rs.length];exact Nat.le_of_eq hi.symm⟩
   ·obtain⟨e,y⟩:=y
    subst e
    obtain⟨v,o,m⟩:=rs.get hd
    have:=y vs (SqL.of (h _ _ (g _ _ ha)))
    rw[o] at this
    cases this
    exact⟨G',Out.refl h (m.same g)⟩
theorem a0h{ds:List PyData}{R:List PyData->Prop}(h:R ds):∃ xs,PyData.list ds=.list xs/\R xs:=⟨ds,rfl,h⟩
def rngD(lo:Int)(n:Nat):List PyData:=(List.range n).map λ(i:Nat)=>.int (lo+(i:Int))
theorem acq{lo:Int}{n:Nat}:(rngD lo n).length=n:=by simp[rngD]
theorem afq{lo:Int}{n i:Nat}{d:PyData}(h:(rngD lo n)[i]?=some d):i<n/\d=.int (lo+(i:Int)):=by
 unfold rngD at h
 rw[aA5] at h
 have hi:i<n:=by
  have:=(aA1 (l:=(List.range n).map λ(i:Nat)=>PyData.int (lo+(i:Int)))).mp (by rw[aA5];exact h)
  obtain⟨q,_⟩:=this
  simpa using q
 rw[aA0 (by simpa using hi)] at h
 simp at h
 exact⟨hi,h.symm⟩
theorem asi{G:Hp}{lo:Int}{n:Nat}:ItOk G (Itr lo n) (rngD lo n):=by
 refine⟨λi G' H' g h hi=>?_,λi G' H' g h hi=>?_,λi G' H' x H'' d g h ft hd y=>?_⟩
 ·rw[acq] at hi;exact hi
 ·rw[acq] at hi;exact Nat.le_of_eq hi.symm
 ·obtain⟨e,y⟩:=y
  subst e y
  rw[(afq hd).2]
  exact⟨G',Out.refl h (.int _)⟩
def ali(ds:List PyData)(R:List PyData->Prop):Prop:=∃ j:Int,ds=[.int j]/\-(2 ^ 62)<=j/\j<2 ^ 62/\R (rngD 0 j.toNat)
def alj(ds:List PyData)(R:List PyData->Prop):Prop:=∃ i j:Int,ds=[.int i,.int j]/\(-(2 ^ 62)<=i/\i<2 ^ 62/\-(2 ^ 62)<=j/\j<2 ^ 62)/\R (rngD i (j-i).toNat)
theorem auw{a:TA}(h:EvA B a env λds e=>ali ds λxs=>QI xs e):EvI B (awf a) env QI:=λσ G H F R I k =>
 h σ G H F _ I λvs n i d ds g l c p b=>by
  obtain⟨j,f,b1,m,o⟩:=b
  subst f
  obtain rfl:vs=[V.int j]:=Rps.ints_inv (ns:=[j]) p
  exact⟨j,rfl,b1,m,k _ n i d _ g l c asi o⟩
theorem aux{a:TA}(h:EvA B a env λds e=>alj ds λxs=>QI xs e):EvI B (awg a) env QI:=λσ G H F R I k =>
 h σ G H F _ I λvs n l d ds g m c p b=>by
  obtain⟨i,j,f,b1,o⟩:=b
  subst f
  obtain rfl:vs=[V.int i,V.int j]:=Rps.ints_inv (ns:=[i,j]) p
  exact⟨i,j,rfl,b1,k _ n l d _ g m c asi o⟩
theorem a0i{j:Int}{R:List PyData->Prop}(a : -4611686018427387904<=j)(b:j<4611686018427387904)(h:R (rngD 0 j.toNat)):ali [.int j] R:=⟨j,rfl,by lia,by lia,h⟩
theorem a0j{a b:Int}{R:List PyData->Prop}(c : -4611686018427387904<=a/\a<4611686018427387904/\-4611686018427387904<=b/\b<4611686018427387904)(h:R (rngD a (b-a).toNat)):alj [.int a,.int b] R:=⟨a,b,rfl,by lia,h⟩
theorem aby{lo:Int}{n:Nat}(J:Nat->En->Prop)(a:J 0 env)(hs:∀ i e,i<n->J i e->EvG B g (.st (.int (lo+(i:Int)))) e λb=>EvS B tb { D' with nx:=J (i+1),ct:=J (i+1),bk:=D'.nx } b)(hd:∀ e,J n e->D'.nx e):ForV B g tb D' (rngD lo n) env :=
 ⟨J,a,λi d e h j=>by obtain⟨hi,rfl⟩:=afq h;exact hs i e hi j,λe j=>hd e (by rw[acq] at j;exact j)⟩
theorem afr{α:Type}{f : α->PyData}{xs:List α}(J:Nat->En->Prop)(a:J 0 env)(hs:∀ i x e,xs[i]?=some x->J i e->EvG B g (.st (f x)) e λb=>EvS B tb { D' with nx:=J (i+1),ct:=J (i+1),bk:=D'.nx } b)(hd:∀ e,J xs.length e->D'.nx e):ForV B g tb D' (xs.map f) env :=
 ⟨J,a,λi d e h j=>by
  rw[aA5] at h
  cases hx:xs[i]? with
  |none=>rw[hx] at h;cases h
  |some x=>rw[hx] at h;cases h;exact hs i x e hx j,λe j=>hd e (by rw[aA3] at j;exact j)⟩
end
theorem auy{B:Bs}{a b:TS}{D':VEnds}{env:En}(h:∀ c:TS,c=b->EvS B a { D' with nx:=λe=>EvS B c D' e } env):EvS B (tSeq a b) D' env:=ao7 (h b rfl)
theorem ao9{B:Bs}{c b:TS}{D':VEnds}{env:En}(e:c=b)(h:EvS B b D' env):EvS B c D' env:=by rw[e];exact h
@[elab_as_elim] theorem exS1 {c:Type} {σ:Type} {f : c->σ} {p : c->Prop} {a : σ->Prop} (s : σ) (h:∃ b,s=f b/\p b) (k:∀ b,p b->a (f b)):a s:=by
 obtain⟨b,e,h⟩:=h
 rw[e];exact k _ h
@[elab_as_elim] theorem exE1 {c:Type} {σ:Type} {f : c->σ} {a : σ->Prop} (s : σ) (h:∃ b,s=f b) (k:∀ b,a (f b)):a s:=by
 obtain⟨b,e⟩:=h
 rw[e];exact k _
@[elab_as_elim] theorem exS2 {d:Type} {g:Type} {σ:Type} {f : d->g->σ} {p : d->g->Prop} {a : σ->Prop} (s : σ) (h:∃ c b,s=f c b/\p c b) (k:∀ c b,p c b->a (f c b)):a s:=by
 obtain⟨c,b,e,h⟩:=h
 rw[e];exact k _ _ h
@[elab_as_elim] theorem exS3 {i:Type} {j:Type} {g:Type} {σ:Type} {f : i->j->g->σ} {p : i->j->g->Prop} {a : σ->Prop} (s : σ) (h:∃ d b c,s=f d b c/\p d b c) (k:∀ d b c,p d b c->a (f d b c)):a s:=by
 obtain⟨d,b,c,e,h⟩:=h
 rw[e];exact k _ _ _ h
@[elab_as_elim] theorem exE3 {i:Type} {j:Type} {g:Type} {σ:Type} {f : i->j->g->σ} {a : σ->Prop} (s : σ) (h:∃ d b c,s=f d b c) (k:∀ d b c,a (f d b c)):a s:=by
 obtain⟨d,b,c,e⟩:=h
 rw[e];exact k _ _ _
@[elab_as_elim] theorem exS4 {l:Type} {m:Type} {i:Type} {j:Type} {σ:Type} {f : l->m->i->j->σ} {p : l->m->i->j->Prop} {a : σ->Prop} (s : σ) (h:∃ g b d c,s=f g b d c/\p g b d c) (k:∀ g b d c,p g b d c->a (f g b d c)):a s:=by
 obtain⟨g,b,d,c,e,h⟩:=h
 rw[e];exact k _ _ _ _ h
@[elab_as_elim] theorem exS5 {m:Type} {o:Type} {j:Type} {l:Type} {n:Type} {σ:Type} {f : m->o->j->l->n->σ} {p : m->o->j->l->n->Prop} {a : σ->Prop} (s : σ) (h:∃ g b d c i,s=f g b d c i/\p g b d c i) (k:∀ g b d c i,p g b d c i->a (f g b d c i)):a s:=by
 obtain⟨g,b,d,c,i,e,h⟩:=h
 rw[e];exact k _ _ _ _ _ h
@[elab_as_elim] theorem exS6 {m:Type} {r:Type} {o:Type} {q:Type} {l:Type} {n:Type} {σ:Type} {f : m->r->o->q->l->n->σ} {p : m->r->o->q->l->n->Prop} {a : σ->Prop} (s : σ) (h:∃ i c d b g j,s=f i c d b g j/\p i c d b g j) (k:∀ i c d b g j,p i c d b g j->a (f i c d b g j)):a s:=by
 obtain⟨i,c,d,b,g,j,e,h⟩:=h
 rw[e];exact k _ _ _ _ _ _ h
@[elab_as_elim] theorem exS7 {n:Type} {v:Type} {q:Type} {r:Type} {m:Type} {o:Type} {u:Type} {σ:Type} {f : n->v->q->r->m->o->u->σ} {p : n->v->q->r->m->o->u->Prop} {a : σ->Prop} (s : σ) (h:∃ j d g b i l c,s=f j d g b i l c/\p j d g b i l c) (k:∀ j d g b i l c,p j d g b i l c->a (f j d g b i l c)):a s:=by
 obtain⟨j,d,g,b,i,l,c,e,h⟩:=h
 rw[e];exact k _ _ _ _ _ _ _ h
theorem big{n:Nat}(h:n<=1000000):n<sizeLine:=aE4 h (by decide)
section
variable{B B1:Bs}{G H G' H':Hp}{σ σI:St}{env envI:En}{F F':Nat->Addr->Prop}{v:V}{s:Sl}{Fv:Addr->Prop}{inv:Nat->Option Nat}
open Classical in
def aea(H:Hp)(F:Nat->Addr->Prop)(inv:Nat->Option Nat):Hp:=λa=>if ∃ i j,inv i=some j/\F i a then none else H a
theorem aqn{i j:Nat}{a:Addr}(h:inv i=some j)(f:F i a):aea H F inv a=none:=aF6 ⟨i,j,h,f⟩
theorem amq{a:Addr}(h:∀ i j,inv i=some j->¬ F i a):aea H F inv a=H a:=aF7 λ⟨i,j,x,y⟩=>h i j x y
theorem aij:Same (aea H F inv) H:=λa o e=>by
 unfold aea at e
 split at e
 ·cases e
 ·exact e
theorem VI.enter(I:VI B G H σ env F)(inj:∀ i b j,inv i=some j->inv b=some j->i=b)(ln : σI.length=envI.length)
  (sl:∀ j s,envI[j]?=some (some s)->∃ v,σI[j]?=some (some v)/\((∃ d,s=.st d/\Rp G v d/\∀ i,inv i ≠ some j)\/(∃ ns a,s=.scr ns/\v=.ref a/\SqL B.K G a (ns.map V.int)/\∀ i,inv i ≠ some j) ∨
   ∃ i A,inv i=some j/\s=.io A/\σ[i]?=some (some v)/\(env[i]?=some (some (.own A))\/env[i]?=some (some (.io A))))) :
  VI ⟨B.K,G,H,aea H F inv,σI,λj a=>∃ i,inv i=some j/\F i a⟩ G H σI envI (λj a=>∃ i,inv i=some j/\F i a) where
 gh:=I.gh
 g0:=Same.refl _
 gn:=λa o e=>.inl e
 rs:=aij
 rb:=aij
 bh:=λa o e=>⟨o,e⟩
 fg:=λj a ⟨i,_,z⟩=>I.fg i a z
 fr:=λj a ⟨i,h,z⟩=>aqn h z
 fd:=λj k a ⟨i,h,z⟩ ⟨b,h',m⟩=>by
  have:=I.fd i b a z m
  subst this
  rw[h] at h';cases h';rfl
 fo:=λj a ⟨i,h,z⟩=>I.fo i a z
 sl:=λj s e=>by
  obtain⟨v,l,q⟩:=sl j s e
  refine⟨v,l,?_⟩
  rcases q with ⟨d,rfl,r,n⟩|⟨ns,a,rfl,rfl,q,n⟩|⟨i,A,hi,rfl,hs,c⟩
  ·exact⟨r,λa ⟨i,h,_⟩=>n i h⟩
  ·exact⟨⟨a,rfl,q⟩,λa ⟨i,h,_⟩=>n i h⟩
  ·refine⟨?_,λa z=>.inl z,l⟩
   have u:(λa=>∃ b,inv b=some j/\F b a)=F i:=by
    funext a
    exact propext ⟨λ⟨b,h,z⟩=>by rw[inj i b j hi h];exact z,λz=>⟨i,hi,z⟩⟩
   show A.P G H v (λa=>∃ b,inv b=some j/\F b a)
   rw[u]
   rcases c with c|c
   ·obtain⟨p,f,g⟩:=I.sl i _ c
    rw[hs] at f;cases f;exact g.1
   ·obtain⟨p,f,g⟩:=I.sl i _ c
    rw[hs] at f;cases f;exact g.1
 ln:=ln
 ft:=I.ft
theorem VI.leave(I:VI B G H σ env F)(inj:∀ i r j,inv i=some j->inv r=some j->i=r)(u:B1.G=G)(p:B1.H=H)(E:∀ a o,H a=some o->(∀ i j,inv i=some j->¬ F i a)->B1.R a=some o)
  (M:∀ i j,inv i=some j->∀ a,B1.F j a->F i a) (D:∀ i j,inv i=some j->B1.S[j]? = σ[i]?) (J:VI B1 G' H' σI envI F') (io:∀ i j,inv i=some j->∃ A',envI[j]?=some (some (.io A'))) {env2:En} (K:env2.length=env.length)
  (L:∀ i s,env2[i]?=some (some s)->(inv i=none/\env[i]?=some (some s))\/∃ j A A',inv i=some j/\envI[j]?=some (some (.io A'))/\((env[i]?=some (some (.own A))/\s=.own A')\/(env[i]?=some (some (.io A))/\s=.io A'))) :
  VI B G' H' σ env2 (λi a=>match inv i with|some j=>F' j a|none=>F i a):=by
 have d:∀ a o,G' a=some o->G a=some o\/H a=none:=λa o e=>by
  have:=J.gn a o e
  rw[u,p] at this;exact this
 have b:∀ i j a,inv i=some j->F' j a->F i a\/H a=none:=λi j a hi z=>by
  obtain⟨A',e⟩:=io i j hi
  obtain⟨v,_,q⟩:=J.sl j _ e
  rcases q.2.1 a z with y|y
  ·exact .inl (M i j hi a y)
  ·rw[p] at y;exact .inr y
 have kp:∀ a o,H a=some o->(∀ i j,inv i=some j->¬ F i a)->H' a=some o:=λa o e n=>J.rs a o (E a o e n)
 refine⟨J.gh,I.g0.trans (u ▸ J.g0),λa o e=>?_,λa o e=>?_,I.rb,λa o e=>?_,λi a z=>?_,λi a z=>?_,λi k a y z=>?_,λi a z=>?_,λi t e=>?_,by rw[K];exact I.ln,J.ft⟩
 ·rcases d a o e with e|e
  ·exact I.gn a o e
  ·exact .inr (I.no_b e)
 ·refine kp a o (I.rs a o e) λi j _ z=>?_
  rw[I.fr i a z] at e;cases e
 ·obtain⟨P,c⟩:=I.bh a o e
  exact J.bh a P (by rw[p];exact c)
 ·cases hi:inv i with
  |some j=>rw[hi] at z;exact J.fg j a z
  | none =>
   rw[hi] at z
   cases e:G' a with
   |none=>rfl
   | some o =>
    rcases d a o e with e|e
    ·rw[I.fg i a z] at e;cases e
    ·exact absurd z (I.no_f e i)
 ·cases hi:inv i with
  | some j =>
   rw[hi] at z
   rcases b i j a hi z with y|y
   ·exact I.fr i a y
   ·exact I.no_r y
  |none=>rw[hi] at z;exact I.fr i a z
 ·cases hi:inv i with
  | some j =>
   rw[hi] at y
   cases hk:inv k with
   | some l =>
    rw[hk] at z
    have:=J.fd j l a y z
    subst this
    exact inj i k j hi hk
   | none =>
    rw[hk] at z
    rcases b i j a hi y with x|x
    ·exact I.fd i k a x z
    ·exact absurd z (I.no_f x k)
  | none =>
   rw[hi] at y
   cases hk:inv k with
   | some l =>
    rw[hk] at z
    rcases b k l a hk z with x|x
    ·exact I.fd i k a y x
    ·exact absurd y (I.no_f x i)
   |none=>rw[hk] at z;exact I.fd i k a y z
 ·cases hi:inv i with
  |some j=>rw[hi] at z;exact J.fo j a z
  | none =>
   rw[hi] at z
   obtain⟨o,e⟩:=I.fo i a z
   exact J.bh a o (by rw[p];exact e)
 ·rcases L i t e with ⟨hi,c⟩|⟨j,A,A',hi,c,g⟩
  ·obtain⟨v,w,q⟩:=I.sl i t c
   refine⟨v,w,?_⟩
   simp only[hi]
   refine q.mono (u ▸ J.g0) λa o z y=>kp a o y λr j' h N=>?_
   have:=I.fd i r a z N
   subst this
   rw[hi] at h;cases h
  ·obtain⟨v,w,q⟩:=J.sl j _ c
   have C : σ[i]?=some (some v):=by rw[← D i j hi];exact q.2.2
   refine⟨v,C,?_⟩
   simp only[hi]
   rcases g with ⟨g,rfl⟩|⟨g,rfl⟩
   ·obtain⟨O,_,m⟩:=I.sl i _ g
    refine⟨q.1,λa z=>?_⟩
    rcases b i j a hi z with y|y
    ·exact m.2 a y
    ·exact I.no_b y
   ·obtain⟨O,f,m⟩:=I.sl i _ g
    rw[C] at f;cases f
    refine⟨q.1,λa z=>?_,m.2.2⟩
    rcases b i j a hi z with y|y
    ·exact m.2.1 a y
    ·exact .inr (I.no_b y)
end
abbrev VP:=List Sl->(Sl->Prop)->Prop
def noF:Nat->Addr->Prop:=λ_ _=>False
def bsP(K:Frag)(G H:Hp)(vs:List V):Bs:=⟨K,G,H,H,vs.map some,noF⟩
def awp(K:Frag)(G:Hp):V->Sl->Prop
 |v,.st d=>Rp G v d
 |v,.scr ns=>∃ a,v=.ref a/\SqL K G a (ns.map V.int)
 |_,_=>False
inductive ArgsOk(K:Frag)(G:Hp):List V->List Sl->Prop
 |nil:ArgsOk K G [] []
 |cons {v:V} {s:Sl} {vs:List V} {ss:List Sl}:awp K G v s->ArgsOk K G vs ss->ArgsOk K G (v::vs) (s::ss)
theorem ArgsOk.length{K:Frag}{G:Hp}:∀{vs:List V}{ss:List Sl},ArgsOk K G vs ss->vs.length=ss.length
 |_,_,.nil=>rfl
 |_,_,.cons _ t=>by simp[ArgsOk.length t]
theorem ArgsOk.get{K:Frag}{G:Hp}:∀{vs:List V}{ss:List Sl}{i:Nat}{s:Sl},ArgsOk K G vs ss->ss[i]?=some s->∃ v,vs[i]?=some v/\awp K G v s
 |_,_,_,_,.nil,e=>by simp at e
 |_,_,0,_,.cons r _,e=>by simp at e;subst e;exact⟨_,rfl,r⟩
 | _,_,i+1,s,.cons _ t,e=>by
  obtain⟨u,a,b⟩:=ArgsOk.get (i:=i) (s:=s) t (by simpa using e)
  exact⟨u,by simpa using a,b⟩
theorem ArgsOk.of{K:Frag}{G:Hp}:∀{vs:List V}{ds:List PyData},Rps G vs ds->ArgsOk K G vs (ds.map Sl.st)
 |_,_,.nil=>.nil
 |_,_,.cons r t=>.cons r (ArgsOk.of t)
theorem axu{α:Type}{xs:List α}{n i:Nat}{s : α}(e:(xs.map some++List.replicate n none)[i]?=some (some s)):xs[i]?=some s:=by
 by_cases h:i<xs.length
 ·rw[aC3 (by simpa using h),aA5] at e
  rw[aA0 h] at e ⊢
  simpa using e
 ·rw[aC8 (by simpa using h),aH8] at e
  split at e <;> cases e
theorem axv{α:Type}{xs:List α}{n i:Nat}{s : α}(e:xs[i]?=some s):(xs.map some++List.replicate n none)[i]?=some (some s):=by
 have h:i<xs.length:=(aA1.mp e).1
 rw[aC3 (by simpa using h),aA5,e];rfl
def spP(K:Frag)(f:VP):Sp:=λvs H Q _=>∃ G ss Q',Same G H/\FT G H/\ArgsOk K G vs ss/\f ss Q'/\∀ s,Q' s->∀ v G' H' Fv,Out G H v G' H' s Fv->Q v H'
theorem aa8{K:Frag}{f:VP}{ts:TS}{N:List Str}{vs:List V}{H:Hp}{Q:VK}{E:XK}(h:spP K f vs H Q E)
  (hb:∀ ss b,f ss b->∀ B,B.K=K->EvS B ts { nx:=λ_=>b (.st .none),rt:=λs _=>b s } (ss.map some++List.replicate (N.length-ss.length) none)):ts { nx:=λ_ H'=>Q .non H',rt:=Q } (L2.start N vs) H:=by
 obtain⟨G,ss,b,gh,ft,c,hf,l⟩:=h
 have fin:∀{σ G' H' F env v Fv s},VI (bsP K G H vs) G' H' σ env F->RsX (bsP K G H vs) G' H' v Fv s F->Out G H v G' H' s Fv:=λI r =>
  ⟨I.g0,I.gh,I.rs,I.gn,r.fb,r.fg,r.fo,r.ok,λ_=>I.ft⟩
 refine hb ss _ hf (bsP K G H vs) rfl (L2.start N vs) G H noF _ ?_ ⟨λσ G' H' F env I g q=>l _ q _ _ _ _ (fin I (aen .non)),λσ G' H' F env v Fv s I g r q=>l _ q v G' H' Fv (fin I r),λ_ _ _ _ _ _ _ q=>q,λ_ _ _ _ _ _ _ q=>q⟩
 refine⟨gh,Same.refl _,λa o e=>.inl e,Same.refl _,Same.refl _,λa o e=>⟨o,e⟩,λi a z=>z.elim,λi a z=>z.elim,λi j a z=>z.elim,λi a z=>z.elim,λi s e=>?_,?_,ft⟩
 ·obtain⟨v,m,q⟩:=c.get (axu e)
  refine⟨v,by unfold L2.start;exact axv m,?_⟩
  cases s with
  |st d=>exact⟨q,λa z=>z⟩
  |scr ns=>exact⟨q,λa z=>z⟩
  |own A=>exact q.elim
  |io A=>exact q.elim
 ·unfold L2.start;simp[c.length]
section
variable{B:Bs}{env:En}{Q':PyData->En->Prop}{QO:Sl->En->Prop}{K:Frag}{E:XK}
theorem aj7{f:VP}{t:TA}(h:EvA B t env λds b=>f (ds.map Sl.st) λs=>QO s b):EvO B (ad8 (spP K f) [] E t) env QO:=λσ G H F Q I k=>by
 unfold ad8
 simp only[aF1]
 exact h σ G H F _ I λvs g l d ds b a c j i=>⟨g,_,_,a.gh,a.ft,ArgsOk.of j,i,λs q v G' H' Fv o=>k v G' H' d Fv s b (a.out o).1 (c.trans o.gg) (a.out o).2 q⟩
theorem auz{f:VP}{t:TA}(h:EvA B t env λds a=>f (ds.map Sl.st) λs=>FQ s λd=>Q' d a):Ev B (ad8 (spP K f) [] E t) env Q':=ach (aj7 h)
theorem asj{f:VP}{t:TA}{i:Nat}{ns:List Int}(e:env[i]?=some (some (.scr ns)))(g:B.K=K)(h:EvA B t env λds c=>f (.scr ns::ds.map Sl.st) λs=>QO s c):EvO B (ad8 (spP K f) [] E (acd (tVar i) t)) env QO:=λσ G H F Q I k=>by
 subst g
 unfold ad8
 simp only[aF1]
 obtain⟨u,l,⟨a,n,w⟩,_⟩:=I.sl i _ e
 refine⟨u,l,h σ G H F _ I λvs m x j ds c b d r p=>⟨m,_,_,b.gh,b.ft,.cons (s:=.scr ns) ⟨a,n,d.seq w⟩ (ArgsOk.of r),p,λs q v G' H' Fv o=>k v G' H' j Fv s c (b.out o).1 (d.trans o.gg) (b.out o).2 q⟩⟩
def reS:Sl->Own->Sl
 | .io _,A=>.io A
 |_,A=>.own A
end
def aik:Option Sl->Option Sl
 |some (.own A)=>some (.io A)
 |s=>s
def aai(src:List (Option Nat))(env:En):En:=src.map λo=>match o with|some j=>aik ((env[j]?).getD none)|none=>none
def isIo:Option Sl->Bool
 |some (.io _)=>true
 |_=>false
def idxE(i:Nat):List (Option Nat)->Nat->Option Nat
 |[],_=>none
 |o::r,k=>if o=some i then some k else idxE i r (k+1)
def ag0(src:List (Option Nat))(e:En)(i:Nat)(s:Option Sl):Option Sl :=
 match s with
 |some (.own A)=>(match idxE i src 0 with|some j=>(match e[j]? with|some (some (.io A'))=>some (.own A')|_=>none)|none=>some (.own A))
 |some (.io A)=>(match idxE i src 0 with|some j=>(match e[j]? with|some (some (.io A'))=>some (.io A')|_=>none)|none=>some (.io A))
 |s=>s
def afe(src:List (Option Nat))(e:En):Nat->En->En
 |_,[]=>[]
 |k,s::r=>ag0 src e k s::afe src e (k+1) r
def ail(src:List (Option Nat))(e1 e:En):En:=afe src e 0 e1
theorem afs(src:List (Option Nat))(e:En):∀(k:Nat)(l:En)(i:Nat),(afe src e k l)[i]?=(l[i]?).map (ag0 src e (k+i))
 |_,[],i=>by simp[afe]
 |k,s::r,0=>by simp[afe]
 | k,s::r,i+1=>by
  have:=afs src e (k+1) r i
  simp only[afe,List.getElem?_cons_succ,this]
  rw[show k+1+i=k+(i+1) by lia]
theorem aez{i:Nat}:∀{src:List (Option Nat)}{k j:Nat},idxE i src k=some j->k<=j/\src[j-k]?=some (some i)
 |[],_,_,h=>by cases h
 | o::r,k,j,h=>by
  unfold idxE at h
  by_cases e:o=some i
  ·rw[aF6 e] at h;cases h
   exact⟨aA6 _,by simp[e]⟩
  ·rw[aF7 e] at h
   obtain⟨b,a⟩:=aez h
   refine⟨by lia,?_⟩
   rw[show j-k=(j-(k+1))+1 by lia]
   simpa using a
theorem aj8{i:Nat}:∀{src:List (Option Nat)}{k:Nat},idxE i src k=none->∀ j:Nat,src[j]? ≠ some (some i)
 |[],_,_,j=>by simp
 | o::r,k,h,j=>by
  unfold idxE at h
  by_cases e:o=some i
  ·rw[aF6 e] at h;cases h
  ·rw[aF7 e] at h
   cases j with
   |zero=>simpa using e
   |succ j=>simpa using aj8 h j
theorem amr:∀(src:List (Option Nat)),(src.filterMap id).Nodup->∀ j j' i:Nat,src[j]?=some (some i)->src[j']?=some (some i)->j=j'
 |[],_,j,_,_,h,_=>by simp at h
 | none::r,h,j,j',i,h1,h2=>by
  cases j with
  |zero=>simp at h1
  | succ j =>
   cases j' with
   |zero=>simp at h2
   |succ j'=>rw[amr r (by simpa using h) j j' i (by simpa using h1) (by simpa using h2)]
 | some x::r,h,j,j',i,h1,h2=>by
  have h':=aI5.mp (show(x::r.filterMap id).Nodup by simpa using h)
  have nm:∀ k,r[k]?=some (some x)->False:=λk b=>h'.1 (List.mem_filterMap.mpr ⟨some x,aA2 b,rfl⟩)
  cases j with
  | zero =>
   have a:x=i:=by simpa using h1
   subst a
   cases j' with
   |zero=>rfl
   |succ j'=>exact(nm j' (by simpa using h2)).elim
  | succ j =>
   cases j' with
   | zero =>
    have a:x=i:=by simpa using h2
    subst a
    exact(nm j (by simpa using h1)).elim
   |succ j'=>rw[amr r h'.2 j j' i (by simpa using h1) (by simpa using h2)]
def ag1:Option Sl->Bool
 |some (.own _)=>true
 |_=>false
def ioLe:En->En->Prop
 |a::r,b::s=>(isIo a=isIo b/\ag1 b=false)/\ioLe r s
 |[],[]=>True
 |_,_=>False
theorem ams{x:Option Sl}(h:isIo x=true):∃ A,x=some (.io A):=by
 cases x with
 |none=>simp[isIo] at h
 | some y =>
  cases y with
  |io A=>exact⟨A,rfl⟩
  |_=>simp[isIo] at h
theorem ioLe.get:∀{a b:En}{j:Nat}{x:Option Sl},ioLe a b->a[j]?=some x->isIo x=true->∃ A,b[j]?=some (some (.io A))
 |[],_,_,_,_,e,_=>by simp at e
 |x::r,[],_,_,h,_,_=>h.elim
 | x::r,y::s,0,z,h,e,p=>by
  simp at e;subst e
  have:=h.1.1
  rw[p] at this
  obtain⟨A,q⟩:=ams this.symm
  exact⟨A,by simp[q]⟩
 | x::r,y::s,j+1,z,h,e,p=>by
  obtain⟨A,q⟩:=ioLe.get (j:=j) h.2 (by simpa using e) p
  exact⟨A,by simpa using q⟩
theorem ioLe.got:∀{a b:En}{j:Nat}{x:Option Sl},ioLe a b->b[j]?=some x->(isIo x=true->∃ A,a[j]?=some (some (.io A)))/\ag1 x=false
 |[],[],_,_,_,e=>by simp at e
 |[],_::_,_,_,h,e=>h.elim
 |x::r,[],_,_,h,_=>h.elim
 | x::r,y::s,0,z,h,e=>by
  simp at e;subst e
  refine⟨λp=>?_,h.1.2⟩
  have:=h.1.1
  rw[p] at this
  obtain⟨A,q⟩:=ams this
  exact⟨A,by simp[q]⟩
 | x::r,y::s,j+1,z,h,e=>by
  obtain⟨p,q⟩:=ioLe.got (j:=j) (x:=z) h.2 (by simpa using e)
  exact⟨λt=>by obtain⟨A,u⟩:=p t;exact⟨A,by simpa using u⟩,q⟩
section
variable{B:Bs}{G H:Hp}{σ:St}{env:En}{F:Nat->Addr->Prop}
theorem VI.aside(I:VI B G H σ env F){p:Addr}{o:HO}(b:∀ xs,o ≠ .tup xs)(c:G p=none)(hf:∀ j,¬ F j p)(hb:B.H p=none):VI B G (upd H p o) σ env F where
 gh:=λa u e=>by rw[aaf (aam e c)];exact I.gh a u e
 g0:=I.g0
 gn:=I.gn
 rs:=λa u e=>by rw[aaf (aam e (I.b_r hb))];exact I.rs a u e
 rb:=I.rb
 bh:=λa u e=>by rw[aaf (aam e hb)];exact I.bh a u e
 fg:=I.fg
 fr:=I.fr
 fd:=I.fd
 fo:=λj a z=>by rw[aaf (λe:a=p=>hf j (e ▸ z))];exact I.fo j a z
 sl:=λi s e=>by
  obtain⟨v,d,q⟩:=I.sl i s e
  exact⟨v,d,q.mono (Same.refl _) λa u z y=>by rw[aaf (λe:a=p=>hf i (e ▸ z))];exact y⟩
 ln:=I.ln
 ft:=λa ks e=>by
  by_cases z:a=p
  ·subst z;rw[aaj] at e;exact absurd (aC6 e) (b _)
  ·rw[aaf z] at e;exact I.ft a ks e
def LcV(K:Frag)(src:List (Option Nat))(g:TG)(tif:TT)(te:TE)(ds:List PyData)(e1:En)(R:List PyData->En->Prop):Prop:=∃ J:Nat->List PyData->En->Prop,J 0 [] (aai src e1)/\(∀ i ys e,J i ys e->ioLe (aai src e1) e) /\
 (∀ i d ys e,ds[i]?=some d->J i ys e->∀ B':Bs,B'.K=K->EvG B' g (.st d) e λe2=>EvT B' tif e2 λb e3=>if b=true then Ev B' te e3 λy e4=>ys.length<=999999/\J (i+1) (ys++[y]) e4 else J (i+1) ys e3)/\∀ ys e,J ds.length ys e->R ys (ail src e1 e)
theorem agi{src:List (Option Nat)}{j:Nat}{s:Sl}(h:(aai src env)[j]?=some (some s)):∃ i t,src[j]?=some (some i)/\env[i]?=some (some t)/\aik (some t)=some s:=by
 unfold aai at h
 rw[aA5] at h
 cases e:src[j]? with
 |none=>rw[e] at h;cases h
 | some o =>
  rw[e] at h
  cases o with
  |none=>cases h
  | some i =>
   simp only[aI2,Option.some.injEq] at h
   cases e2:env[i]? with
   |none=>rw[e2] at h;cases h
   | some o2 =>
    rw[e2] at h
    cases o2 with
    |none=>cases h
    |some t=>exact⟨i,t,rfl,e2,h⟩
theorem amt{src:List (Option Nat)}{i j:Nat}{v:V}(h:src[j]?=some (some i))(a : σ[i]?=some (some v)):(pick src σ)[j]?=some (some v):=by
 unfold pick
 rw[aA5,h]
 simp[a]
theorem asl {src:List (Option Nat)} {wi:TI} {g:TG} {b3:TT} {te:TE} {QO:Sl->En->Prop} (nd:(src.filterMap id).Nodup) (h:EvI B wi env λds W=>LcV B.K src g b3 te ds W λys X=>QO (.own (OL ys)) X):EvO B (tLC src wi g b3 te) env QO:=λσ G H F Q I k=>by
 refine h σ G H F _ I λJ G1 H1 F1 ds W I1 g1 it ⟨Jv,j0,a6,js,jd⟩ p S=>?_
 let M:Nat->Bool:=λi=>match W[i]? with|some (some (.own _))=>true|some (some (.io _))=>true|_=>false
 let inv:Nat->Option Nat:=λi=>if M i=true then idxE i src 0 else none
 have E:∀ i j,inv i=some j->src[j]?=some (some i)/\M i=true:=λi j hi=>by
  by_cases hm:M i=true
  ·have f:idxE i src 0=some j:=by simpa[inv,hm] using hi
   have:=(aez f).2
   exact⟨by simpa using this,hm⟩
  ·simp[inv,hm] at hi
 have Z:∀ i j,src[j]?=some (some i)->M i=true->inv i=some j:=λi j hs hm=>by
  have e0:inv i=idxE i src 0:=by simp[inv,hm]
  cases e:idxE i src 0 with
  |none=>exact absurd hs (aj8 e j)
  | some j' =>
   have:=(aez e).2
   rw[e0,e,amr src nd j j' i hs (by simpa using this)]
 have inj:∀ i c j,inv i=some j->inv c=some j->i=c:=λi c j Y C=>by
  have a:=(E i j Y).1
  rw[(E c j C).1] at a
  simpa using a.symm
 have b4:∀ i,M i=true->∃ A,W[i]?=some (some (.own A))\/W[i]?=some (some (.io A)):=λi hm=>by
  cases e:W[i]? with
  |none=>simp[M,e] at hm
  | some o =>
   cases o with
   |none=>simp[M,e] at hm
   | some s =>
    cases s with
    |own A=>exact⟨A,.inl rfl⟩
    |io A=>exact⟨A,.inr rfl⟩
    |st d=>simp[M,e] at hm
    |scr ns=>simp[M,e] at hm
 have b0:∀ i ys e,Jv i ys e->∀ c j,inv c=some j->∃ A,e[j]?=some (some (.io A)):=λi ys e hj c j hi=>by
  obtain⟨hs,hm⟩:=E c j hi
  obtain⟨A,O⟩:=b4 c hm
  refine(a6 i ys e hj).get (x:=some (.io A)) ?_ rfl
  unfold aai
  rw[aA5,hs]
  rcases O with O|O <;> simp[O,aik]
 -- between two turns
 let Wv:Nat->List V->St->Hp->Prop:=λi ys σI H=>∃ G2 F2 e env2 yd,VI B G2 H σ env2 F2/\Same G1 G2/\H p=some (.lst ys)/\Rps G2 ys yd/\G2 p=none/\(∀ j,¬ F2 j p)/\Jv i yd e/\σI.length=e.length/\env2.length=W.length /\
  (∀ j s,e[j]?=some (some s)->∃ v,σI[j]?=some (some v)/\((∃ d,s=.st d/\Rp G2 v d/\∀ i,inv i ≠ some j)\/(∃ ns a,s=.scr ns/\v=.ref a/\SqL B.K G2 a (ns.map V.int)/\∀ i,inv i ≠ some j) ∨
   ∃ i A,inv i=some j/\s=.io A/\σ[i]?=some (some v)/\(env2[i]?=some (some (.own A))\/env2[i]?=some (some (.io A))))) /\
  (∀ i,inv i=none->env2[i]?=W[i]?)/\(∀ i j,inv i=some j->∃ A0 A,e[j]?=some (some (.io A))/\((W[i]?=some (some (.own A0))/\env2[i]?=some (some (.own A)))\/(W[i]?=some (some (.io A0))/\env2[i]?=some (some (.io A)))))
 have hb:B.H p=none:=I1.no_b S
 refine⟨λi m ys σI H=>m=ds.length-i/\i<=ds.length/\Wv i ys σI H,⟨ds.length,by simp,aG1 _,?_⟩,?_⟩
 ·refine⟨G1,F1,aai src W,W,[],I1.aside (λ_ z=>nomatch z) (I1.no_g S) (I1.no_f S) hb,Same.refl _,aaj,.nil,I1.no_g S,I1.no_f S,j0,by simp[pick,aai],rfl,λj s e=>?_,λ_ _=>rfl,λi j hi=>?_⟩
  ·obtain⟨i,t,hs,ht,hp⟩:=agi e
   obtain⟨v,hv,q⟩:=I1.sl i t ht
   refine⟨v,amt hs hv,?_⟩
   cases t with
   | st d =>
    cases hp
    refine .inl ⟨d,rfl,q.1,λc f=>?_⟩
    have a:=(E c j f).1
    rw[hs] at a
    have:i=c:=by simpa using a
    subst this
    have:=(E i j f).2
    simp[M,ht] at this
   | scr ns =>
    cases hp
    obtain⟨⟨a,ea,sq⟩,_⟩:=q
    refine .inr (.inl ⟨ns,a,rfl,ea,sq,λc f=>?_⟩)
    have a:=(E c j f).1
    rw[hs] at a
    have:i=c:=by simpa using a
    subst this
    have:=(E i j f).2
    simp[M,ht] at this
   |own A=>cases hp;exact .inr (.inr ⟨i,A,Z i j hs (by simp[M,ht]),rfl,hv,.inl ht⟩)
   |io A=>cases hp;exact .inr (.inr ⟨i,A,Z i j hs (by simp[M,ht]),rfl,hv,.inr ht⟩)
  ·obtain⟨hs,hm⟩:=E i j hi
   obtain⟨A,O⟩:=b4 i hm
   refine⟨A,A,?_,?_⟩
   ·unfold aai
    rw[aA5,hs]
    rcases O with O|O <;> simp[O,aik]
   ·rcases O with O|O
    ·exact .inl ⟨O,O⟩
    ·exact .inr ⟨O,O⟩
 ·rintro i m ys σI H2 ⟨rfl,hi,G2,F2,e,env2,yd,I2,g2,a0,ry,ga,fa,jv,ln,b8,sl,un,mv⟩
  refine⟨a0,?_⟩
  by_cases hlt:i<ds.length
  ·refine .inr ⟨it.go i G2 H2 g2 I2.gh hlt,Wv (i+1),λa4 c2 H' hw=>⟨ds.length-(i+1),by lia,rfl,hlt,hw⟩,λx H3 y=>?_⟩
   obtain⟨G3,o⟩:=it.yld i G2 H2 x H3 _ g2 I2.gh I2.ft (aA0 hlt) y
   obtain⟨I3,X3⟩:=I2.out o
   have a9:=o.hh _ _ a0
   have a7:=fa
   have b5:G3 p=none:=by
    cases e':G3 p with
    |none=>rfl
    | some u =>
     rcases o.gn p u e' with q|q
     ·rw[ga] at q;cases q
     ·rw[a0] at q;cases q
   have b7:∀ j s,e[j]?=some (some s)->∃ v,σI[j]?=some (some v)/\((∃ d,s=.st d/\Rp G3 v d/\∀ i,inv i ≠ some j)\/(∃ ns a,s=.scr ns/\v=.ref a/\SqL B.K G3 a (ns.map V.int)/\∀ i,inv i ≠ some j) ∨
     ∃ i A,inv i=some j/\s=.io A/\σ[i]?=some (some v)/\(env2[i]?=some (some (.own A))\/env2[i]?=some (some (.io A)))):=λj s es=>by
    obtain⟨v,hv,q⟩:=sl j s es
    refine⟨v,hv,?_⟩
    rcases q with ⟨d,a8,r,n⟩|⟨ns,a,a8,c1,r,n⟩|q
    ·exact .inl ⟨d,a8,r.same o.gg,n⟩
    ·exact .inr (.inl ⟨ns,a,a8,c1,o.gg.seq r,n⟩)
    ·exact .inr (.inr q)
   have E3:=I3.enter (inv:=inv) (σI:=σI) (envI:=e) inj ln b7
   -- back from the turn
   have fin:∀(R:St)(G4 H4:Hp)(F4:Nat->Addr->Prop)(e4:En)(a3:List PyData)(a4:List V)(o4:HO),VI ⟨B.K,G3,H3,aea H3 F2 inv,σI,λj a=>∃ i,inv i=some j/\F2 i a⟩ G4 H4 R e4 F4->Jv (i+1) a3 e4->Rps G4 a4 a3 ->
     Wv (i+1) a4 R (upd H4 p (.lst a4))/\H4 p=some (.lst ys):=by
    intro R G4 H4 F4 e4 a3 a4 o4 I4 j4 r4
    have a2:=b0 (i+1) a3 e4 j4
    have c0:H4 p=some (.lst ys):=I4.rs p _ (by show aea H3 F2 inv p=_;rw[amq (λc _ _=>a7 c)];exact a9)
    have b2:G4 p=none:=by
     cases e':G4 p with
     |none=>rfl
     | some u =>
      rcases I4.gn p u e' with q|q
      ·change G3 p=_ at q;rw[b5] at q;cases q
      ·change H3 p=_ at q;rw[a9] at q;cases q
    -- the slots of the outer frame
    let D:En:=(List.range env2.length).map λc=>match inv c with
     |some j=>(match env2[c]?,e4[j]? with|some (some (.own _)),some (some (.io A))=>some (.own A)|some (some (.io _)),some (some (.io A))=>some (.io A)|_,_=>none)
     |none=>(env2[c]?).getD none
    have P:∀ c,c<env2.length->D[c]?=some (match inv c with
     |some j=>(match env2[c]?,e4[j]? with|some (some (.own _)),some (some (.io A))=>some (.own A)|some (some (.io _)),some (some (.io A))=>some (.io A)|_,_=>none)
     |none=>(env2[c]?).getD none):=λc hl=>by
     simp only[D,aA5]
     rw[aA0 (by simpa using hl)]
     simp
    have L:=I3.leave (inv:=inv) (env2:=D) inj rfl rfl (λa u q n=>by show aea H3 F2 inv a=_;rw[amq n];exact q) (λc j f a z=>by obtain⟨U,Y,C⟩:=z;rw[inj c U j f Y];exact C)
     (λc j f=>by
      obtain⟨A0,A,Y,C⟩:=mv c j f
      obtain⟨v,hv,q⟩:=sl j _ Y
      rcases q with ⟨d,q,_⟩|⟨ns,a,q,_⟩|⟨U,b9,q1,q2,q3,_⟩
      ·cases q
      ·cases q
      ·rw[inj c U j f q1]
       show σI[j]?=_
       rw[hv,q3]) I4 a2 (by simp[D]) (λc s es=>by
      have hl:c<env2.length:=by
       have:=(aA1.mp es).1
       simpa[D] using this
      rw[P c hl] at es
      cases f:inv c with
      | none =>
       refine .inl ⟨rfl,?_⟩
       rw[f] at es
       simp only[Option.some.injEq] at es
       cases q:env2[c]? with
       |none=>rw[q] at es;cases es
       |some u=>rw[q] at es;simp at es;rw[es]
      | some j =>
       rw[f] at es
       obtain⟨A',T⟩:=a2 c j f
       obtain⟨A0,A,Y,C⟩:=mv c j f
       simp only[T] at es
       rcases C with ⟨_,C⟩|⟨_,C⟩
       ·rw[C] at es
        simp only[Option.some.injEq] at es
        exact .inr ⟨j,A,A',rfl,T,.inl ⟨C,es.symm⟩⟩
       ·rw[C] at es
        simp only[Option.some.injEq] at es
        exact .inr ⟨j,A,A',rfl,T,.inr ⟨C,es.symm⟩⟩)
    have b1:∀ j,¬ (match inv j with|some j=>F4 j p|none=>F2 j p):=λj z=>by
     cases hj:inv j with
     |none=>rw[hj] at z;exact a7 j z
     | some l =>
      rw[hj] at z
      obtain⟨A',T⟩:=a2 j l hj
      obtain⟨v,_,q⟩:=I4.sl l _ T
      rcases q.2.1 p z with ⟨U,_,q⟩|q
      ·exact a7 U q
      ·change H3 p=_ at q;rw[a9] at q;cases q
    refine⟨⟨G4,_,e4,D,a3,L.aside (λ_ z=>nomatch z) b2 b1 hb,g2.trans (o.gg.trans I4.g0),aaj,r4,b2,b1,j4,I4.ln,by simp[D,b8],λj s es=>?_,λc f=>?_,λc j f=>?_⟩,c0⟩
    ·obtain⟨v,hv,q⟩:=I4.sl j s es
     refine⟨v,hv,?_⟩
     have a1:(∀ A,s ≠ .io A)->∀ c,inv c ≠ some j:=λhn c f=>by
      obtain⟨A,O⟩:=a2 c j f
      rw[es] at O
      exact hn A (by simpa using O)
     cases s with
     |st d=>exact .inl ⟨d,rfl,q.1,a1 (by intro A z;cases z)⟩
     | scr ns =>
      obtain⟨⟨a,ea,sq⟩,_⟩:=q
      exact .inr (.inl ⟨ns,a,rfl,ea,sq,a1 (by intro A z;cases z)⟩)
     | own A =>
      have:=((a6 _ _ _ j4).got es).2
      simp[ag1] at this
     | io A =>
      obtain⟨A0,h0⟩:=((a6 _ _ _ j4).got es).1 rfl
      obtain⟨c,t,hs,ht,hp⟩:=agi h0
      have hm:M c=true:=by
       cases t with
       |own A=>simp[M,ht]
       |io A=>simp[M,ht]
       |st d=>cases hp
       |scr ns=>cases hp
      have f:=Z c j hs hm
      obtain⟨B0,A1,Y,C⟩:=mv c j f
      have hl:c<env2.length:=by
       rcases C with ⟨_,C⟩|⟨_,C⟩ <;> exact(aA1.mp C).1
      refine .inr (.inr ⟨c,A,f,rfl,?_,?_⟩)
      ·have hS : σI[j]?=some (some v):=q.2.2
       obtain⟨v',b6,q'⟩:=sl j _ Y
       rcases q' with ⟨d,q',_⟩|⟨ns,a,q',_⟩|⟨U,b9,q1,q2,q3,_⟩
       ·cases q'
       ·cases q'
       ·rw[inj c U j f q1,q3,← b6,hS]
      ·rw[P c hl,f]
       simp only[es]
       rcases C with ⟨_,C⟩|⟨_,C⟩
       ·rw[C];exact .inl rfl
       ·rw[C];exact .inr rfl
    ·by_cases hl:c<env2.length
     ·rw[P c hl,f]
      simp only
      rw[← un c f]
      rw[aA0 hl];rfl
     ·rw[aF8.mpr (by simp[D];lia),← un c f,aF8.mpr (by lia)]
    ·obtain⟨A',T⟩:=a2 c j f
     obtain⟨A0,A,Y,C⟩:=mv c j f
     have hl:c<env2.length:=by
      rcases C with ⟨_,C⟩|⟨_,C⟩ <;> exact(aA1.mp C).1
     refine⟨A0,A',T,?_⟩
     rw[P c hl,f]
     simp only[T]
     rcases C with ⟨h3,C⟩|⟨h3,C⟩
     ·rw[C];exact .inl ⟨h3,rfl⟩
     ·rw[C];exact .inr ⟨h3,rfl⟩
   have hd:ds[i]?=some ds[i]:=aA0 hlt
   refine js i _ yd e hd jv ⟨B.K,G3,H3,aea H3 F2 inv,σI,λj a=>∃ i,inv i=some j/\F2 i a⟩ rfl σI G3 H3 _ x _ _ E3 (aen o.ok.1) λR G4 H4 F4 e4 I4 g4 q4=>?_
   refine q4 R G4 H4 F4 _ I4 λb G5 H5 F5 e5 I5 g5 q5=>?_
   cases b with
   | false =>
    rw[aF7 aB0] at q5 ⊢
    obtain⟨w,ac⟩:=fin R G5 H5 F5 e5 yd ys (.lst ys) I5 q5 (ry.same (o.gg.trans (g4.trans g5)))
    have:upd H5 p (.lst ys)=H5:=by
     funext b
     unfold upd
     split
     ·rename_i hb';rw[hb'];exact ac.symm
     ·rfl
    rw[this] at w
    exact w
   | true =>
    rw[aF6 rfl] at q5 ⊢
    refine q5 R G5 H5 F5 _ I5 λy G6 H6 F6 d6 e6 I6 g6 r6 q6=>?_
    obtain⟨w,ac⟩:=fin R G6 H6 F6 e6 (yd++[d6]) (ys++[y]) (.lst ys) I6 q6.2 ((ry.same (o.gg.trans (g4.trans (g5.trans g6)))).append (.cons r6 .nil))
    exact⟨ac,by rw[ry.length];exact big (by have:=q6.1;lia),w⟩
  ·have ei:i=ds.length:=by lia
   subst ei
   refine .inl ⟨it.stop _ G2 H2 g2 I2.gh rfl,?_⟩
   have q:=jd yd e jv
   have eb:ail src W e=env2:=by
    apply aG3
    intro c
    unfold ail
    rw[afs,Nat.zero_add]
    have N:M c=false->env2[c]?=W[c]?:=λhm=>un c (by simp[inv,hm])
    cases X:W[c]? with
    | none =>
     rw[N (by simp[M,X]),X];rfl
    | some o =>
     cases o with
     |none=>rw[N (by simp[M,X]),X];rfl
     | some t =>
      have a5:∀ A,(t=.own A\/t=.io A)->M c=true:=λA h=>by rcases h with rfl|rfl <;> simp[M,X]
      cases t with
      |st d=>rw[N (by simp[M,X]),X];rfl
      |scr ns=>rw[N (by simp[M,X]),X];rfl
      | own A =>
       have hm:=a5 A (.inl rfl)
       simp only[aI2,ag0]
       cases e3:idxE c src 0 with
       | none =>
        have:inv c=none:=by simp[inv,e3]
        rw[un c this,X]
       | some j =>
        have f:inv c=some j:=by simp[inv,hm,e3]
        obtain⟨A0,A1,Y,C⟩:=mv c j f
        simp only[Y]
        rcases C with ⟨h3,C⟩|⟨h3,C⟩
        ·rw[C]
        ·rw[X] at h3;cases h3
      | io A =>
       have hm:=a5 A (.inr rfl)
       simp only[aI2,ag0]
       cases e3:idxE c src 0 with
       | none =>
        have:inv c=none:=by simp[inv,e3]
        rw[un c this,X]
       | some j =>
        have f:inv c=some j:=by simp[inv,hm,e3]
        obtain⟨A0,A1,Y,C⟩:=mv c j f
        simp only[Y]
        rcases C with ⟨h3,C⟩|⟨h3,C⟩
        ·rw[X] at h3;cases h3
        ·rw[C]
   rw[eb] at q
   refine k (.ref p) G2 H2 F2 (· = p) (.own (OL yd)) env2 I2 (g1.trans g2) ⟨⟨p,ys,rfl,a0,ry,λb=>Iff.rfl⟩,λa z=>by rw[z];exact hb,λa z=>by rw[z];exact ga,λa z=>by rw[z];exact⟨_,a0⟩,λj a z=>by rw[z];exact fa j⟩ q
end
def noIo(e:En):Bool:=e.all λs=>!isIo s
theorem au0{e:En}{j:Nat}{x:Option Sl}(h:noIo e=true)(a:e[j]?=some x):isIo x=false:=by
 have:=aF5.mp h x (aA2 a)
 simpa using this
theorem aed{src:List (Option Nat)}{b e:En}(h:noIo (aai src b)=true):ail src b e=b:=by
 apply aG3
 intro i
 unfold ail
 rw[afs,Nat.zero_add]
 cases e2:b[i]? with
 |none=>rfl
 | some o =>
  have a:∀ A,(o=some (.own A)\/o=some (.io A))->idxE i src 0=none:=λA c=>by
   cases e3:idxE i src 0 with
   |none=>rfl
   | some j =>
    have hs:=(aez e3).2
    have:(aai src b)[j]?=some (some (.io A)):=by
     unfold aai
     rw[aA5,show src[j]?=some (some i) by simpa using hs]
     rcases c with rfl|rfl <;> simp[e2,aik]
    have:=au0 h this
    simp[isIo] at this
  cases o with
  |none=>rfl
  | some t =>
   cases t with
   |st d=>rfl
   |scr ns=>rfl
   |own A=>simp only[aI2,ag0,a A (.inl rfl)]
   |io A=>simp only[aI2,ag0,a A (.inr rfl)]
def stO:Option PyData->Option Sl:=Option.map Sl.st
theorem isIo_stO{o:Option PyData}:isIo (stO o)=false:=by cases o <;> rfl
theorem abt{o:Option PyData}:ag1 (stO o)=false:=by cases o <;> rfl
theorem acr{src:List (Option Nat)}{b:En}:∀ x∈aai src b,ag1 x=false:=by
 intro x a
 unfold aai at a
 obtain⟨o,_,rfl⟩:=aB7.mp a
 cases o with
 |none=>rfl
 | some j =>
  dsimp only
  cases (b[j]?).getD none with
  |none=>rfl
  |some t=>cases t <;> rfl
theorem acz:∀{e:En},(∀ x∈e,ag1 x=false)->ioLe e e
 |[],_=>True.intro
 |x::r,h=>⟨⟨rfl,h x aB8⟩,acz λy a=>h y (aB5 _ a)⟩
section
variable{B:Bs}{env:En}{g:TG}{tif:TT}{te:TE}{K:Frag}{src:List (Option Nat)}{ds:List PyData}{e1:En}{R:List PyData->En->Prop}
theorem au1(f:PyData->PyData)(p:PyData->Bool)(g:noIo (aai src e1)=true)(D:ds.length<=999999)
  (h:∀ d∈ds,∀ a:Bs,a.K=K->EvT a tif (some (.st d)::aai src e1) λb m=>b=p d/\m=some (.st d)::aai src e1/\(b=true->Ev a te (some (.st d)::aai src e1) λy l=>y=f d/\l=some (.st d)::aai src e1))
  (w:R ((ds.filter p).map f) e1):LcV K (none::src) (aar 0) tif te ds e1 R:=by
 have c:noIo (aai (none::src) e1)=true:=by
  show((none::aai src e1).all λs=>!isIo s)=true
  rw[List.all_cons]
  exact(aH2 _ _).mpr ⟨rfl,g⟩
 refine⟨λi ys e=>ys=((ds.take i).filter p).map f/\∃ o,e=stO o::aai src e1,⟨by simp,none,rfl⟩,?_,?_,?_⟩
 ·rintro i ys e ⟨_,o,rfl⟩
  exact⟨⟨isIo_stO.symm,abt⟩,acz acr⟩
 ·rintro i d ys e hd ⟨rfl,o,rfl⟩ a A
  have hi:i<ds.length:=(aA1.mp hd).1
  have r:ds.take (i+1)=ds.take i++[d]:=by rw[aH5,hd];rfl
  refine aap ?_
  show EvT a tif (some (.st d)::aai src e1) _
  intro σ G H F Q I k
  refine h d (aA2 hd) a A σ G H F Q I λb G' H' n m q g' ⟨hb,x,B⟩=>k b G' H' n m q g' ?_
  subst x
  by_cases hp:b=true
  ·rw[aF6 hp]
   intro σ G H F Q I k
   refine B hp σ G H F Q I λv G' H' n d' l q g' z ⟨u,j⟩=>k v G' H' n d' l q g' z ?_
   subst u j
   refine⟨?_,?_,some d,rfl⟩
   ·have:=aF4 p (ds.take i)
    simp only[aA3]
    have C:(ds.take i).length<=i:=by simp;lia
    lia
   ·rw[r,List.filter_append,aE5]
    have:p d=true:=by rw[← hb];exact hp
    simp[this]
  ·rw[aF7 hp]
   refine⟨?_,some d,rfl⟩
   rw[r,List.filter_append,aE5]
   have:p d=false:=by rw[← hb];simpa using hp
   simp[this]
 ·rintro ys e ⟨rfl,o,rfl⟩
  rw[aed c,aG9]
  exact w
theorem acn{α:Type}(xs:List α):xs.filter (λ_=>true)=xs:=by simp
theorem apa(f:PyData->PyData)(b:noIo (aai src e1)=true)(j:ds.length<=999999)
  (h:∀ d∈ds,∀ a:Bs,a.K=K->Ev a te (some (.st d)::aai src e1) λy i=>y=f d/\i=some (.st d)::aai src e1)
  (c:R (ds.map f) e1):LcV K (none::src) (aar 0) tYes te ds e1 R :=
 au1 f (λ_=>true) b j (λd hd a g=>abx ⟨rfl,rfl,λ_=>h d hd a g⟩) (by rw[acn];exact c)
theorem aft{A:Frag}{α:Type}{xs:List α}{fa fb : α->PyData}(f : α->PyData)(p : α->Bool)(g:noIo (aai src e1)=true)(J:xs.length<=999999)
  (h:∀ x∈xs,∀ a:Bs,a.K=K->EvT a tif (some (.st (fa x))::some (.st (fb x))::aai src e1) λb m=>b=p x/\m=some (.st (fa x))::some (.st (fb x))::aai src e1/\(b=true->Ev a te (some (.st (fa x))::some (.st (fb x))::aai src e1) λy l=>y=f x/\l=some (.st (fa x))::some (.st (fb x))::aai src e1))
  (z:R ((xs.filter p).map f) e1):LcV K (none::none::src) (gTup A 2 (aa5 (aar 0) (aa5 (aar 1) gNil))) tif te (xs.map λx=>.tuple [fa x,fb x]) e1 R:=by
 have c:noIo (aai (none::none::src) e1)=true:=by
  show((none::none::aai src e1).all λs=>!isIo s)=true
  rw[List.all_cons,List.all_cons]
  exact(aH2 _ _).mpr ⟨rfl,(aH2 _ _).mpr ⟨rfl,g⟩⟩
 refine⟨λi ys e=>ys=((xs.take i).filter p).map f/\∃ o o',e=stO o::stO o'::aai src e1,⟨by simp,none,none,rfl⟩,?_,?_,?_⟩
 ·rintro i ys e ⟨_,o,o',rfl⟩
  exact⟨⟨isIo_stO.symm,abt⟩,⟨isIo_stO.symm,abt⟩,acz acr⟩
 ·rintro i d ys e hd ⟨rfl,o,o',rfl⟩ a C
  rw[aA5] at hd
  cases hx:xs[i]? with
  |none=>rw[hx] at hd;cases hd
  | some x =>
   rw[hx] at hd
   cases hd
   have hi:i<xs.length:=(aA1.mp hx).1
   have r:xs.take (i+1)=xs.take i++[x]:=by rw[aH5,hx];rfl
   refine afd rfl (abg (aap (abg (aap (adp ?_)))))
   show EvT a tif (some (.st (fa x))::some (.st (fb x))::aai src e1) _
   intro σ G H F Q I k
   refine h x (aA2 hx) a C σ G H F Q I λb G' H' n m q g' ⟨hb,w,D⟩=>k b G' H' n m q g' ?_
   subst w
   by_cases hp:b=true
   ·rw[aF6 hp]
    intro σ G H F Q I k
    refine D hp σ G H F Q I λv G' H' n d' l q g' B ⟨u,j⟩=>k v G' H' n d' l q g' B ?_
    subst u j
    refine⟨?_,?_,some _,some _,rfl⟩
    ·have:=aF4 p (xs.take i)
     simp only[aA3]
     have E:(xs.take i).length<=i:=by simp;lia
     lia
    ·rw[r,List.filter_append,aE5]
     have:p x=true:=by rw[← hb];exact hp
     simp[this]
   ·rw[aF7 hp]
    refine⟨?_,some _,some _,rfl⟩
    rw[r,List.filter_append,aE5]
    have:p x=false:=by rw[← hb];simpa using hp
    simp[this]
 ·rintro ys e ⟨rfl,o,o',rfl⟩
  rw[aed c]
  simpa using z
end
section
variable{R:Sl->Prop}
theorem axw{g:Int->Int->Int}{i j:Int}(h:R (.st (.int (g i j)))):Op2 (rI0 λi j=>.int (g i j)) (.int i) (.int j) R:=λG H d c Q gh a b k=>by
 cases a;cases b
 exact⟨i,j,rfl,rfl,k _ _ _ _ _ (Out.refl gh (.int _)) h⟩
theorem axx{g:Int->Int->Bool}{i j:Int}(h:R (.st (.bool (g i j)))):Op2 (rI0 λi j=>.bl (g i j)) (.int i) (.int j) R:=λG H d c Q gh a b k=>by
 cases a;cases b
 exact⟨i,j,rfl,rfl,k _ _ _ _ _ (Out.refl gh (.bl _)) h⟩
theorem a0k{C:Int->Int->Prop}{g:Int->Int->Int}{i j:Int}(a:C i j)(h:R (.st (.int (g i j)))):Op2 (rI C λi j=>.int (g i j)) (.int i) (.int j) R:=λG H f d Q gh b c k=>by
 cases b;cases c
 exact⟨i,j,rfl,rfl,a,k _ _ _ _ _ (Out.refl gh (.int _)) h⟩
theorem axy{i j:Int}(h:R (.st (.bool (decide (i=j))))):Op2 rEq (.int i) (.int j) R:=λG H d c Q gh a b k=>by
 cases a;cases b
 exact ar3 (k _ _ _ _ _ (Out.refl gh (.bl _)) h)
theorem axz{i j:Int}(h:R (.st (.bool (!decide (i=j))))):Op2 rNe (.int i) (.int j) R:=λG H d c Q gh a b k=>by
 cases a;cases b
 exact az5 (k _ _ _ _ _ (Out.refl gh (.bl _)) h)
theorem ag2{x y:PyData}(a:aaq x=true)(b:aaq y=true)(hd:x.depth<=60)(h:R (.st (.bool (!PyData.eqv x y)))):Op2 rNeD x y R:=λG H g f Q gh c d k =>
 ⟨x,y,(c.rep a).same gh,(d.rep b).same gh,a,b,hd,k _ _ _ _ _ (Out.refl gh (.bl _)) h⟩
theorem ag3{a:Bool}{x:PyData}{es:List PyData}(b:aaq x=true)(c:plainDs es=true)(hd:x.depth<=60)(h:R (.st (.bool (if a then !es.any (λz=>PyData.eqv z x) else es.any (λz=>PyData.eqv z x))))):Op2 (rInD a) x (.list es) R:=λG H i g Q gh d f k =>
 ⟨x,es,(d.rep b).same gh,.inl ((f.rep (by simpa[aaq] using c)).same gh),b,c,hd,k _ _ _ _ _ (Out.refl gh (.bl _)) h⟩
theorem Rps.at{G:Hp}{vs:List V}{ds:List PyData}{i:Int}{d:PyData}(r:Rps G vs ds)(h:atI ds i=some d):∃ v,atI vs i=some v/\Rp G v d:=by
 unfold atI at h ⊢
 rw[r.length]
 cases e:ixN ds.length i with
 |none=>rw[e] at h;cases h
 | some j =>
  rw[e] at h
  exact r.get h
theorem ax0{K:Frag}{ds:List PyData}{i:Int}{d:PyData}(hd:atI ds i=some d)(h:R (.st d)):Op2 (ack K) (.list ds) (.int i) R:=λG H j g Q gh a f k=>by
 cases f
 cases a with
 | lst ha rs =>
  obtain⟨v,c,b⟩:=rs.at hd
  exact afm (gh _ _ ha) c (k _ _ _ _ _ (Out.refl gh b) h)
theorem ax1{K:Frag}{ds:List PyData}{i:Int}{d:PyData}(hd:atI ds i=some d)(h:R (.st d)):Op2 (ack K) (.tuple ds) (.int i) R:=λG H j g Q gh a f k=>by
 cases f
 cases a with
 | tup ha rs =>
  obtain⟨v,c,b⟩:=rs.at hd
  exact auo (gh _ _ ha) c (k _ _ _ _ _ (Out.refl gh b) h)
def isNone:PyData->Bool
 | .none=>true
 |_=>false
theorem apb{G:Hp}{v:V}{x:PyData}(r:Rp G v x):decide (v=.non)=isNone x:=by cases r <;> rfl
theorem ax2{x:PyData}(h:R (.st (.bool (isNone x)))):Op2 rIsN x .none R:=λG H d c Q gh a b k=>by
 cases b
 refine⟨rfl,?_⟩
 rw[apb a]
 exact k _ _ _ _ _ (Out.refl gh (.bl _)) h
theorem au2{x:PyData}(h:R (.st (.bool (!isNone x)))):Op2 awo x .none R:=λG H d c Q gh a b k=>by
 cases b
 refine⟨rfl,?_⟩
 rw[apb a]
 exact k _ _ _ _ _ (Out.refl gh (.bl _)) h
theorem apc{xs ys:List PyData}(c:xs.length+ys.length<=1000000)(h:R (.own (OL (xs++ys)))):Op2 rCat (.list xs) (.list ys) R:=λG H g f Q gh b d k=>by
 cases b with
 | lst ha ra =>
  cases d with
  | lst hb rb =>
   refine az8 (gh _ _ ha) (gh _ _ hb) ?_ λp a=>k _ _ _ _ _ (Out.newL gh a (ra.append rb)) h
   rw[ra.length,rb.length];exact aG6 (big c)
theorem ax3{xs:List PyData}{n:Int}(a : -(2 ^ 63)<=n)(f:n<2 ^ 63)(b:xs.length * n.toNat<=1000000)(h:R (.own (OL (List.replicate n.toNat xs).flatten))):Op2 rRep (.list xs) (.int n) R:=λG H j i Q gh d g k=>by
 cases g
 cases d with
 | lst ha ra =>
  refine⟨_,n,_,rfl,rfl,gh _ _ ha,a,f,?_,λp c=>k _ _ _ _ _ (Out.newL gh c (ra.rep _)) h⟩
  rw[ra.length];exact aG6 (big b)
theorem au3{K:Frag}{xs:List PyData}(h:R (.st (.int xs.length))):OpA (rLen K) [.list xs] R:=λG H vs Q gh rs k=>by
 cases rs with
 | cons r t =>
  cases t
  cases r with
  | lst ha ra =>
   refine aov (gh _ _ ha) ?_
   rw[ra.length]
   exact k _ _ _ _ _ (Out.refl gh (.int _)) h
theorem au4{K:Frag}{xs:List PyData}(h:R (.st (.int xs.length))):OpA (rLen K) [.tuple xs] R:=λG H vs Q gh rs k=>by
 cases rs with
 | cons r t =>
  cases t
  cases r with
  | tup ha ra =>
   refine axa (gh _ _ ha) ?_
   rw[ra.length]
   exact k _ _ _ _ _ (Out.refl gh (.int _)) h
theorem au5{i j:Int}(h:R (.st (.int (if j > i then j else i)))):OpA alc [.int i,.int j] R:=λG H vs Q gh rs k=>by
 obtain rfl:vs=[V.int i,V.int j]:=Rps.ints_inv (ns:=[i,j]) rs
 exact aow (k _ _ _ _ _ (Out.refl gh (.int _)) h)
theorem au6{i j:Int}(h:R (.st (.int (if j<i then j else i)))):OpA ald [.int i,.int j] R:=λG H vs Q gh rs k=>by
 obtain rfl:vs=[V.int i,V.int j]:=Rps.ints_inv (ns:=[i,j]) rs
 exact aox (k _ _ _ _ _ (Out.refl gh (.int _)) h)
theorem au7{b:Bool}(h:R (.st (.int (if b then 1 else 0)))):OpA ale [.bool b] R:=λG H vs Q gh rs k=>by
 cases rs with
 | cons r t =>
  cases t;cases r
  exact aoy (k _ _ _ _ _ (Out.refl gh (.int _)) h)
theorem aht{K:Frag}{ns:List Int}(a:ns ≠ [])(h:∀ m,afl ns m->R (.st (.int m))):OpA (aie K) [.list (ns.map .int)] R:=λG H vs Q gh rs k=>by
 cases rs with
 | cons r t =>
  cases t
  cases r with
  | lst ha ra =>
   have:=Rps.ints_inv ra
   subst this
   exact⟨_,ns,rfl,.inl (SqL.of (gh _ _ ha)),a,λm hm=>k _ _ _ _ _ (Out.refl gh (.int _)) (h m hm)⟩
end
section
variable{B:Bs}{env:En}{QO:Sl->En->Prop}{Q':PyData->En->Prop}{te tl th:TE}{K:Frag}
def cutD(xs:List PyData)(lo hi:Option Int):List PyData:=(xs.drop (HT.sIx xs.length 0 lo)).take (HT.sIx xs.length xs.length hi-HT.sIx xs.length 0 lo)
def EvOp(B:Bs)(t:TO)(env:En)(Q':Option Int->En->Prop):Prop:=∀(σ:St)(G H:Hp)(F:Nat->Addr->Prop)(Q:Option Int->Hp->Prop),VI B G H σ env F->(∀ o G' H' F' env',VI B G' H' σ env' F'->Same G G'->Q' o env'->Q o H')->t σ H Q
theorem au8{a:Option Int->En->Prop}(q:a none env):EvOp B aom env a:=λσ G H F Q I k=>k none G H F env I (Same.refl _) q
theorem au9{a:Option Int->En->Prop}(h:Ev B te env λd e=>∃ i,d=.int i/\a (some i) e):EvOp B (awk te) env a:=λσ G H F Q I k =>
 h σ G H F _ I λv n l f d j m c o b=>by
  obtain⟨i,g,q⟩:=b
  subst g;cases o
  exact⟨i,rfl,k _ n l f j m c q⟩
theorem a2b{i:Int}{R:Int->Prop}(h:R i):∃ j,PyData.int i=.int j/\R j:=⟨i,rfl,h⟩
theorem aj9{tl l:TO}(h:Ev B te env λd j=>∃ ds,d=.list ds/\EvOp B tl j λlo m=>EvOp B l m λhi i=>QO (.own (OL (cutD ds lo hi))) i):EvO B (tSl (rSlL K) te tl l) env QO:=λσ G H F Q I k =>
 h σ G H F _ I λv A y u d j z s L r=>by
  obtain⟨ds,w,J⟩:=r
  subst w
  cases L with
  | @lst a vs _ ha rs =>
   refine J σ A y u _ z λlo n H2 F2 m C c E=>E σ n H2 F2 _ C λhi M H3 q i b g D=>?_
   have f:=rs.same (c.trans g)
   refine⟨a,vs,rfl,SqL.of (b.gh _ _ (g _ _ (c _ _ ha))),λp x=>?_⟩
   have e:cutV vs lo hi=(vs.drop (HT.sIx ds.length 0 lo)).take (HT.sIx ds.length ds.length hi-HT.sIx ds.length 0 lo):=by unfold cutV;rw[rs.length]
   have o:=Out.newL (xs:=cutV vs lo hi) (ds:=cutD ds lo hi) b.gh x (by rw[e];exact(f.drop _).take _)
   exact k _ _ _ q _ _ i (b.out o).1 (s.trans (c.trans (g.trans o.gg))) (b.out o).2 D
theorem ava{tl f:TO}(h:Ev B te env λd b=>∃ ds,d=.list ds/\EvOp B tl b λlo m=>EvOp B f m λhi l=>Q' (.list (cutD ds lo hi)) l):Ev B (tSl (rSlL K) te tl f) env Q':=ach (aj9 (by
 intro σ G H F Q I k
 refine h σ G H F Q I λv G' H' a d b j g n ⟨ds,i,q⟩=>k v G' H' a d b j g n ⟨ds,i,?_⟩
 intro σ G H F Q I k
 refine q σ G H F Q I λlo G' H' a e c g' q=>k lo G' H' a e c g' ?_
 intro σ G H F Q I k
 exact q σ G H F Q I λhi G' H' a e c g' q=>k hi G' H' a e c g' (ab7 q)))
end
def ag4:PyData->Bool
 | .none | .bool _ | .int _ | .str _=>true
 |_=>false
theorem apd{G G':Hp}{v:V}{d:PyData}(r:Rp G v d)(h:ag4 d=true):Rp G' v d:=by
 cases r with
 |non=>exact .non
 |bl b=>exact .bl b
 |int i=>exact .int i
 |str x=>exact .str x
 |_=>simp[ag4] at h
def Has(env:En)(i:Nat)(A:Own):Prop:=env[i]?=some (some (.own A))\/env[i]?=some (some (.io A))
section
variable{B:Bs}{env:En}{QO:Sl->En->Prop}{Q':PyData->En->Prop}{QT:Bool->En->Prop}{QE:En->Prop}{te ta tb tk:TE}{K:Frag}{i:Nat}
theorem VI.has{G H:Hp}{σ:St}{F:Nat->Addr->Prop}{A:Own}(I:VI B G H σ env F)(h:Has env i A):∃ v,σ[i]?=some (some v)/\A.P G H v (F i):=by
 rcases h with h|h
 ·obtain⟨v,a,q⟩:=I.sl i _ h;exact⟨v,a,q.1⟩
 ·obtain⟨v,a,q⟩:=I.sl i _ h;exact⟨v,a,q.1⟩
theorem VI.moment{G c b H H3:Hp}{σ:St}{F:Nat->Addr->Prop}{v:V}{s:Sl}{Fv:Addr->Prop}(I:VI B G H σ env F)(g:Same G c)(o:Out c H v b H3 s Fv):∃ d,Same G d/\VI B d H3 σ env F:=by
 refine⟨λa=>if H a=none then b a else G a,λa u e=>?_,I.grow (λa u e=>?_) (λa u e=>?_) o.hh (λa u e=>?_) λa ks e=>?_⟩
 ·show(if H a=none then b a else G a)=some u;rw[aF7 (by rw[I.gh a u e];simp)];exact e
 ·rw[aF7 (by rw[I.gh a u e];simp)];exact e
 ·by_cases h:H a=none
  ·rw[aF6 h] at e;exact o.gh a u e
  ·rw[aF7 h] at e;exact o.hh _ _ (I.gh a u e)
 ·by_cases h:H a=none
  ·exact .inr h
  ·rw[aF7 h] at e;exact .inl e
 ·have f1:FT c H:=λa ks e=>g _ _ (I.ft a ks e)
  by_cases h:H a=none
  ·rw[aF6 h];exact o.ft f1 a ks e
  ·rw[aF7 h]
   obtain⟨u,f⟩:=aqk h
   have:=o.hh _ _ f
   rw[e] at this
   exact I.ft a ks (by rw[f,← this])
theorem a0l{r:List V->Hp->VK->Prop}{A:Own}{dx:PyData}(c:Has env i A)(m:Frz A dx)(h:OpA r [dx] λs=>∃ d,s=.st d/\ag4 d=true/\Q' d env):Ev B (tCB r (acd (tVar i) tNil)) env Q':=λσ G H F Q I k=>by
 obtain⟨v,b,a⟩:=I.has c
 refine⟨v,b,h (jn G H (F i)) H [v] Q (aql I.gh) (.cons (m _ _ _ _ a (I.fg i) I.gh) .nil) λw n H3 s Fv o ⟨d,es,hs,j⟩=>?_⟩
 subst es
 obtain⟨l,f,g⟩:=I.moment (abo (I.fg i)) o
 exact k w l H3 F d env g f (apd o.ok.1 hs) j
theorem x_sc{d:PyData}{R:PyData->Prop}(a:ag4 d=true)(h:R d):∃ d',Sl.st d=.st d'/\ag4 d'=true/\R d':=⟨d,rfl,a,h⟩
theorem a0m{g:List PyData}(C:Has env i (OL g))(h:Ev B tb env λy c=>∃ ds k d,Has c i (OL ds)/\y=.int k/\atI ds k=some d/\Q' d c):Ev B (tOp (ack K) (tVar i) tb) env Q':=λσ G H F Q I k=>by
 obtain⟨v,m,_⟩:=I.has C
 refine⟨v,m,h σ G H F _ I λu o H2 F2 y c n p r ⟨ds,j,d,s,z,l,q⟩=>?_⟩
 subst z
 cases r
 obtain⟨D,b,a,vs,A,ha,rs,_⟩:=n.has s
 rw[m] at b;cases b
 subst A
 obtain⟨w,x,f⟩:=rs.at l
 exact afm ha x (k w o H2 F2 d c n p f q)
theorem VI.upd1{G H:Hp}{σ:St}{F:Nat->Addr->Prop}{s:Sl}{A A':Own}{a:Addr}{o:HO}(I:VI B G H σ env F)(e:env[i]?=some (some s))(hs:s=.own A\/s=.io A)(g : σ[i]?=some (some (.ref a)))(hf:∀ b,F i b ↔ b=a)(f:A'.P G (upd H a o) (.ref a) (· = a))(d:∀ xs,o ≠ .tup xs:=by intro _ z;cases z) :
  VI B G (upd H a o) σ (env.set i (some (reS s A'))) (putF F i (· = a)):=by
 refine I.change (A:=A') i e g (λb u hb c=>by rw[aaf (λz=>hb ((hf b).mpr z))];exact c) (λb u c=>?_) (λb z=>⟨.inl ((hf b).mpr z),by rw[z];exact⟨_,aaj⟩⟩) f (λb ks e=>?_) ?_
 ·by_cases z:b=a
  ·rw[z];exact⟨_,aaj⟩
  ·rw[aaf z];exact⟨u,c⟩
 ·by_cases z:b=a
  ·subst z;rw[aaj] at e;exact absurd (aC6 e) (d _)
  ·rw[aaf z] at e;exact I.ft b ks e
 ·rcases hs with rfl|rfl
  ·exact .inl ⟨rfl,A,rfl⟩
  ·exact .inr ⟨rfl,A,rfl⟩
theorem asm{g:List PyData}(A:Has env i (OL g))(h:Ev B te env λy f=>∃ s ds,f[i]?=some (some s)/\(s=.own (OL ds)\/s=.io (OL ds))/\ds.length<=999999/\Q' .none (f.set i (some (reS s (OL (ds++[y])))))):Ev B (tBM K "list" afa (tVar i) (acd te tNil)) env Q':=λσ G H F Q I k=>by
 obtain⟨v,l,a,vs,z,ha,rs,_⟩:=I.has A
 subst z
 refine⟨_,l,.inl ⟨rfl,_,SqL.of ha⟩,h σ G H F _ I λu o H2 F2 y f n p r ⟨s,ds,es,hs,E,q⟩=>?_⟩
 have w:Has f i (OL ds):=by rcases hs with rfl|rfl;exact .inl es;exact .inr es
 obtain⟨D,d,C,x,j,m,c,hf⟩:=n.has w
 rw[l] at d;cases d;cases j
 refine af9 m (by rw[c.length];exact big (by lia)) ?_
 exact k _ o _ _ _ _ (n.upd1 (A':=OL (ds++[y])) es hs l hf ⟨a,_,rfl,aaj,c.append (.cons r .nil),λb=>Iff.rfl⟩) p .non q
theorem aqo{a:List PyData}(j:Has env i (OL a))(h:Ev B te env λy b=>∃ ds,b[i]?=some (some (.own (OL ds)))/\ds.length<=999999/\Q' .none (b.set i (some (.own (OL (ds++[y])))))):Ev B (tBM K "list" afa (tVar i) (acd te tNil)) env Q' :=
 asm j λσ G H F Q I k=>h σ G H F Q I λv G' H' l d e m g r ⟨ds,f,c,q⟩=>k v G' H' l d e m g r ⟨_,ds,f,.inl rfl,c,q⟩
theorem avb{m:List PyData}(O:Has env i (OL m))(h:Ev B te env λy g=>∃ s ds j n d,y=.int j/\g[i]?=some (some s)/\(s=.own (OL ds)\/s=.io (OL ds))/\-(2 ^ 63)<=j/\j<2 ^ 63/\seqIndex? j ds.length=some n/\ds[n]?=some d/\Q' d (g.set i (some (reS s (OL (ds.eraseIdx n)))))):Ev B (tBM K "list" aly (tVar i) (acd te tNil)) env Q':=λσ G H F Q I k=>by
 obtain⟨v,p,a,vs,N,ha,rs,_⟩:=I.has O
 subst N
 refine⟨_,p,.inl ⟨rfl,_,SqL.of ha⟩,h σ G H F _ I λu z H2 F2 y g x A C ⟨s,ds,j,n,d,J,es,hs,b1,M,hn,hd,q⟩=>?_⟩
 subst J
 cases C
 have D:Has g i (OL ds):=by rcases hs with rfl|rfl;exact .inl es;exact .inr es
 obtain⟨R,f,P,L,o,r,c,hf⟩:=x.has D
 rw[p] at f;cases f;cases o
 obtain⟨w,E,l⟩:=c.get hd
 refine aue r b1 M (by rw[c.length];exact hn) E ?_
 exact k _ z _ _ _ _ (x.upd1 (A':=OL (ds.eraseIdx n)) es hs p hf ⟨a,_,rfl,aaj,c.erase n,λb=>Iff.rfl⟩) A l q
theorem avc{d:PyData}{l:List PyData}(M:Has env i (OL l))(h:Ev B tk env λy g=>∃ s ds k j,y=.int k/\g[i]?=some (some s)/\(s=.own (OL ds)\/s=.io (OL ds))/\ixN ds.length k=some j/\QE (g.set i (some (reS s (OL (ds.set j d)))))):EvG B (gSub (tVar i) tk ap9) (.st d) env QE:=λσ G H F v Fv Q I x k=>by
 obtain⟨A,_⟩:=x.ok
 obtain⟨N,o,a,vs,L,ha,rs,_⟩:=I.has M
 subst L
 refine⟨_,o,h σ G H F _ I λu z H2 F2 y g w r C ⟨s,ds,n,j,E,es,hs,K,q⟩=>?_⟩
 subst E
 cases C
 have D:Has g i (OL ds):=by rcases hs with rfl|rfl;exact .inl es;exact .inr es
 obtain⟨P,f,O,J,m,p,c,hf⟩:=w.has D
 rw[o] at f;cases f;cases m
 refine aou p (by rw[c.length];exact K) ?_
 exact k _ z _ _ _ (w.upd1 (A':=OL (ds.set j d)) es hs o hf ⟨a,_,rfl,aaj,c.set (A.same r) j,λb=>Iff.rfl⟩) r q
theorem ajh{t:TS}{D':VEnds}{A:Own}{d:PyData}(i:Nat)(e:env[i]?=some (some (.own A)))(f:Frz A d)(h:EvS B t D' (env.set i (some (.st d)))):EvS B t D' env:=λσ G H F D I r=>by
 obtain⟨v,b,a,g,J⟩:=I.frz e f
 exact h σ _ H _ D J (r.later g)
end
def tyD:PyData->String
 | .none=>"NoneType" | .bool _=>"bool" | .int _=>"int" | .str _=>"str" | .list _=>"list" | .tuple _=>"tuple" | .dict _=>"dict"
def aee(T:String):Prop:=T = "int"\/T = "bool"\/T = "tuple"\/T = "list"\/T = "str"\/T = "dict"
def isiD(T:String)(d:PyData):Bool:=tyD d == T || (T == "int" && tyD d == "bool")
theorem a2c{K:Frag}{H:Hp}{v:V}{d:PyData}(r:Rp H v d):TyOf K H v (.type (tyD d)):=by
 cases r with
 |non=>exact .non
 |bl b=>exact .bl b
 |int i=>exact .int i
 |str x=>exact .str x
 |lst h _=>exact .lst h
 |tup h _=>exact .tup h
 |dk h _ _=>exact .dK h
 |dt h _ _=>exact .dT h
theorem a2d{K:Frag}{T:String}(h:aee T)(d:PyData):kitOne K (.type (tyD d)) (.type T)=some (isiD T d):=by
 rcases h with rfl|rfl|rfl|rfl|rfl|rfl
 ·cases d with
  |none=>exact ahp
  |bool _=>exact amb
  |int _=>exact an5
  |str _=>exact an7
  |list _=>exact amj
  |tuple _=>exact aky
  |dict _=>exact aml
 ·cases d with
  |none=>exact ag9
  |bool _=>exact akq
  |int _=>exact amd
  |str _=>exact amg
  |list _=>exact akv
  |tuple _=>exact ajd
  |dict _=>exact ak0
 ·cases d with
  |none=>exact agg
  |bool _=>exact ajb
  |int _=>exact akt
  |str _=>exact aku
  |list _=>exact ajc
  |tuple _=>exact aif
  |dict _=>exact ajg
 ·cases d with
  |none=>exact aha
  |bool _=>exact akr
  |int _=>exact ame
  |str _=>exact amh
  |list _=>exact akw
  |tuple _=>exact aje
  |dict _=>exact ak1
 ·cases d with
  |none=>exact ahq
  |bool _=>exact amc
  |int _=>exact an6
  |str _=>exact an8
  |list _=>exact amk
  |tuple _=>exact akz
  |dict _=>exact amm
 ·cases d with
  |none=>exact ahb
  |bool _=>exact aks
  |int _=>exact amf
  |str _=>exact ami
  |list _=>exact akx
  |tuple _=>exact ajf
  |dict _=>exact ak2
section
variable{B:Bs}{env:En}{QO:Sl->En->Prop}{Q':PyData->En->Prop}{QT:Bool->En->Prop}{QE:En->Prop}{te ta tb tk:TE}{K:Frag}{i:Nat}
theorem a0n{T:String}(g:aee T)(h:Ev B te env λd e=>Q' (.bool (isiD T d)) e):Ev B (tCB (rIsi K) (acd te (acd (tC (.ty T)) tNil))) env Q':=λσ G H F Q I k =>
 h σ G H F _ I λv j i c d f a b m l=>⟨v,T,_,_,rfl,a2c (m.same a.gh),a2d g d,k _ j i c _ f a b (.bl _) l⟩
theorem a0o:aee "int":=.inl rfl
theorem ax4:aee "bool":=.inr (.inl rfl)
theorem avd:aee "tuple":=.inr (.inr (.inl rfl))
theorem ax5:aee "list":=.inr (.inr (.inr (.inl rfl)))
theorem ave{A:Own}{D':VEnds}(e:env[i]?=some (some (.own A)))(q:D'.rt (.own A) (env.set i none)):EvS B (tRet (tVar i)) D' env:=ao8 (aur e q)
theorem a2e{n m:Nat}{P:Prop}(h:n<=m)(q:P):n<=m/\P:=⟨h,q⟩
theorem a0p{ds:List PyData}{a:En}{R:List PyData->Prop}(e:a[i]?=some (some (.own (OL ds))))(b:ds.length<=999999)(q:R ds):∃ ds,a[i]?=some (some (.own (OL ds)))/\ds.length<=999999/\R ds:=⟨ds,e,b,q⟩
theorem a2f{ds:List PyData}{d:PyData}{k:Int}{a:En}{R:PyData->Prop}(c:Has a i (OL ds))(h:atI ds k=some d)(q:R d):∃ ds b d,Has a i (OL ds)/\PyData.int k=.int b/\atI ds b=some d/\R d:=⟨ds,k,d,c,rfl,h,q⟩
theorem aqp{ds:List PyData}{k:Int}{j:Nat}{a:En}{R:Sl->List PyData->Nat->Prop}(e:a[i]?=some (some (.own (OL ds))))(c:ixN ds.length k=some j)(q:R (.own (OL ds)) ds j):∃ s ds b j,PyData.int k=.int b/\a[i]?=some (some s)/\(s=.own (OL ds)\/s=.io (OL ds))/\ixN ds.length b=some j/\R s ds j:=⟨_,ds,k,j,rfl,e,.inl rfl,c,q⟩
theorem x_st{b:Bool}{R:Bool->Prop}(h:R b):∃ c,Sl.st (.bool b)=.st (.bool c)/\R c:=⟨b,rfl,h⟩
theorem a0q{b:Bool}{R:Bool->Prop}(h:R b):∃ k,TruD (.bool b) k/\R k:=⟨b,rfl,h⟩
theorem avf{ds:List PyData}{R:Bool->Prop}(h:R (!ds.isEmpty)):∃ k,TruD (.list ds) k/\R k:=⟨_,rfl,h⟩
theorem lenP{f:VP}{n:Nat}{vs:List V}{H:Hp}{Q:VK}{E:XK}(h:spP K f vs H Q E)(hf:∀ ss a,f ss a->ss.length=n):vs.length=n:=by
 obtain⟨G,ss,a,_,_,b,q,_⟩:=h
 rw[b.length];exact hf ss a q
theorem a2g{P Q:Prop}(h:P)(q:Q):P/\Q:=⟨h,q⟩
theorem a2h{src:List (Option Nat)}{j:TI}{g:TG}{f:TT}(nd:(src.filterMap id).Nodup)(h:EvI B j env λds i=>LcV B.K src g f te ds i λys n=>Q' (.list ys) n):Ev B (tLC src j g f te) env Q':=ach (asl nd λσ G H F R I k=>h σ G H F R I λJ G' H' m ds i o g' it ⟨l,a,b,c,d⟩=>k J G' H' m ds i o g' it ⟨l,a,b,c,λys e q=>ab7 (d ys e q)⟩)
end
end VL
namespace VL
open PySem L2
section
variable{B:Bs}{QE:En->Prop}{Q':PyData->En->Prop}{s:Sl}{r:En}{A:Own}{d:PyData}{x0 x1 x2 x3 x4 x5 x6 x7 x8 x9 x10 x11 x12 x13 x14 x15 x16 x17 x18 x19 x20 x21 x22 x23 x24 x25:Option Sl}
theorem a0r(h:QE (x0::some s::r)):EvG B (aar 1) s (x0::x1::r) QE:=aap h
theorem a0s(h:QE (x0::x1::some s::r)):EvG B (aar 2) s (x0::x1::x2::r) QE:=aap h
theorem a0t(h:QE (x0::x1::x2::some s::r)):EvG B (aar 3) s (x0::x1::x2::x3::r) QE:=aap h
theorem a0u(h:QE (x0::x1::x2::x3::some s::r)):EvG B (aar 4) s (x0::x1::x2::x3::x4::r) QE:=aap h
theorem a0v(h:QE (x0::x1::x2::x3::x4::some s::r)):EvG B (aar 5) s (x0::x1::x2::x3::x4::x5::r) QE:=aap h
theorem a0w(h:QE (x0::x1::x2::x3::x4::x5::some s::r)):EvG B (aar 6) s (x0::x1::x2::x3::x4::x5::x6::r) QE:=aap h
theorem a0x(h:QE (x0::x1::x2::x3::x4::x5::x6::some s::r)):EvG B (aar 7) s (x0::x1::x2::x3::x4::x5::x6::x7::r) QE:=aap h
theorem a0y(h:QE (x0::x1::x2::x3::x4::x5::x6::x7::some s::r)):EvG B (aar 8) s (x0::x1::x2::x3::x4::x5::x6::x7::x8::r) QE:=aap h
theorem a0z(h:QE (x0::x1::x2::x3::x4::x5::x6::x7::x8::some s::r)):EvG B (aar 9) s (x0::x1::x2::x3::x4::x5::x6::x7::x8::x9::r) QE:=aap h
theorem ax6(h:QE (x0::x1::x2::x3::x4::x5::x6::x7::x8::x9::some s::r)):EvG B (aar 10) s (x0::x1::x2::x3::x4::x5::x6::x7::x8::x9::x10::r) QE:=aap h
theorem ax7(h:QE (x0::x1::x2::x3::x4::x5::x6::x7::x8::x9::x10::some s::r)):EvG B (aar 11) s (x0::x1::x2::x3::x4::x5::x6::x7::x8::x9::x10::x11::r) QE:=aap h
theorem ax8(h:QE (x0::x1::x2::x3::x4::x5::x6::x7::x8::x9::x10::x11::some s::r)):EvG B (aar 12) s (x0::x1::x2::x3::x4::x5::x6::x7::x8::x9::x10::x11::x12::r) QE:=aap h
theorem ax9(h:QE (x0::x1::x2::x3::x4::x5::x6::x7::x8::x9::x10::x11::x12::some s::r)):EvG B (aar 13) s (x0::x1::x2::x3::x4::x5::x6::x7::x8::x9::x10::x11::x12::x13::r) QE:=aap h
theorem aya(h:QE (x0::x1::x2::x3::x4::x5::x6::x7::x8::x9::x10::x11::x12::x13::some s::r)):EvG B (aar 14) s (x0::x1::x2::x3::x4::x5::x6::x7::x8::x9::x10::x11::x12::x13::x14::r) QE:=aap h
theorem ayb(h:QE (x0::x1::x2::x3::x4::x5::x6::x7::x8::x9::x10::x11::x12::x13::x14::some s::r)):EvG B (aar 15) s (x0::x1::x2::x3::x4::x5::x6::x7::x8::x9::x10::x11::x12::x13::x14::x15::r) QE:=aap h
theorem ayc(h:QE (x0::x1::x2::x3::x4::x5::x6::x7::x8::x9::x10::x11::x12::x13::x14::x15::some s::r)):EvG B (aar 16) s (x0::x1::x2::x3::x4::x5::x6::x7::x8::x9::x10::x11::x12::x13::x14::x15::x16::r) QE:=aap h
theorem ayd(h:QE (x0::x1::x2::x3::x4::x5::x6::x7::x8::x9::x10::x11::x12::x13::x14::x15::x16::some s::r)):EvG B (aar 17) s (x0::x1::x2::x3::x4::x5::x6::x7::x8::x9::x10::x11::x12::x13::x14::x15::x16::x17::r) QE:=aap h
end
end VL
namespace Gr
structure Ring(T:Int->Int->Prop)(a:Int)(k:Nat)(far:Int->Option Nat)(edge:List Int):Prop where
 lab:∀ v d,far v=some d ↔ (Dist T a v d/\d<=k)
 edg:∀ v,v∈edge ↔ Dist T a v k
structure Mid(T:Int->Int->Prop)(k:Nat)(far0:Int->Option Nat)(edge:List Int)(done:Int->Prop)(far:Int->Option Nat)(beyond:List Int):Prop where
 old:∀ v d,far0 v=some d->far v=some d
 new:∀ v,v∈beyond ↔ (far0 v=none/\far v ≠ none)
 val:∀ v d,far0 v=none->far v=some d->d=k+1/\∃ u,u∈edge/\T u v
 dn:∀ u w,done u->T u w->far w ≠ none
def label(far:Int->Option Nat)(w:Int)(d:Nat):Int->Option Nat:=λv=>if v=w then some d else far v
theorem label_same{far:Int->Option Nat}{w:Int}{d:Nat}:label far w d w=some d:=aF6 rfl
theorem label_ne{far:Int->Option Nat}{w v:Int}{d:Nat}(h:v ≠ w):label far w d v=far v:=aF7 h
variable{T:Int->Int->Prop}{a:Int}{k:Nat}{far0 far:Int->Option Nat}{edge beyond:List Int}{done:Int->Prop}
theorem Ring.start:Ring T a 0 (label (λ_=>none) a 0) [a]:=by
 refine⟨λv d=>?_,λv=>?_⟩
 ·by_cases h:v=a
  ·subst h
   rw[label_same]
   constructor
   ·intro e;cases e;exact⟨Dist.self T v,aA6 _⟩
   ·rintro⟨h,_⟩;rw[h.uniq (Dist.self T v)]
  ·rw[label_ne h]
   constructor
   ·intro e;cases e
   ·rintro⟨b,c⟩
    have:d=0:=by lia
    subst this
    cases b.1
    exact absurd rfl h
 ·simp only[aC2]
  constructor
  ·rintro rfl;exact Dist.self T v
  ·intro h;cases h.1;rfl
theorem Mid.start:Mid T k far0 edge (λ_=>False) far0 [] :=
 ⟨λv d h=>h,λv=>⟨λh=>by simp at h,λh=>absurd h.1 h.2⟩,λv d h g=>(by rw[h] at g;cases g),λu w h=>h.elim⟩
theorem Mid.add(m:Mid T k far0 edge done far beyond){u w:Int}(i:u∈edge)(t:T u w)(b:far w=none):Mid T k far0 edge done (label far w (k+1)) (beyond++[w]):=by
 have a:far0 w=none:=by
  cases e:far0 w with
  |none=>rfl
  |some d=>rw[m.old w d e] at b;cases b
 refine⟨λv d h=>?_,λv=>?_,λv d h g=>?_,λx y f c=>?_⟩
 ·rw[label_ne (by rintro rfl;rw[a] at h;cases h)];exact m.old v d h
 ·by_cases hv:v=w
  ·subst hv
   simp[label_same,a]
  ·rw[label_ne hv]
   simp only[aA7,aC2,hv,or_false]
   exact m.new v
 ·by_cases hv:v=w
  ·subst hv
   rw[label_same] at g
   cases g
   exact⟨rfl,u,i,t⟩
  ·rw[label_ne hv] at g
   exact m.val v d h g
 ·by_cases hv:y=w
  ·subst hv;rw[label_same];simp
  ·rw[label_ne hv];exact m.dn x y f c
theorem Mid.did(m:Mid T k far0 edge done far beyond){u:Int}(h:∀ w,T u w->far w ≠ none):Mid T k far0 edge (λx=>done x\/x=u) far beyond :=
 ⟨m.old,m.new,m.val,λx w a t=>by rcases a with a|rfl;exact m.dn x w a t;exact h w t⟩
theorem Mid.imp{a:Int->Prop}(m:Mid T k far0 edge done far beyond)(h:∀ u,a u->done u):Mid T k far0 edge a far beyond :=
 ⟨m.old,m.new,m.val,λx w b t=>m.dn x w (h x b) t⟩
theorem Ring.next(r:Ring T a k far0 edge)(m:Mid T k far0 edge done far beyond)(hd:∀ u∈edge,done u):Ring T a (k+1) far beyond:=by
 have g:∀ v,far0 v=none->far v ≠ none->Dist T a v (k+1):=λv f b=>by
  cases e:far v with
  |none=>exact absurd e b
  | some d =>
   obtain⟨rfl,u,l,t⟩:=m.val v d f e
   obtain⟨j,p,h⟩:=((r.edg u).mp l).next t
   by_cases i:j<=k
   ·rw[(r.lab v j).mpr ⟨h,i⟩] at f;cases f
   ·have:j=k+1:=by lia
    rw[← this];exact h
 have c:∀ v,Dist T a v (k+1)->far0 v=none/\far v ≠ none:=λv h=>by
  refine⟨?_,?_⟩
  ·cases e:far0 v with
   |none=>rfl
   | some d =>
    obtain⟨b,n⟩:=(r.lab v d).mp e
    have:=b.uniq h
    lia
  ·obtain⟨u,t,l⟩:=h.pred
   exact m.dn u v (hd u ((r.edg u).mpr l)) t
 refine⟨λv d=>?_,λv=>⟨λh=>?_,λh=>(m.new v).mpr (c v h)⟩⟩
 ·constructor
  ·intro e
   cases e0:far0 v with
   | some d0 =>
    rw[m.old v d0 e0] at e
    cases e
    obtain⟨b,n⟩:=(r.lab v d).mp e0
    exact⟨b,by lia⟩
   | none =>
    have i:=(m.val v d e0 e).1
    subst i
    exact⟨g v e0 (by rw[e];simp),aA6 _⟩
  ·rintro⟨h,i⟩
   by_cases hd':d<=k
   ·exact m.old v d ((r.lab v d).mpr ⟨h,hd'⟩)
   ·have o:d=k+1:=by lia
    subst o
    obtain⟨f,b⟩:=c v h
    cases e:far v with
    |none=>exact absurd e b
    |some d=>rw[(m.val v d f e).1]
 ·obtain⟨f,b⟩:=(m.new v).mp h
  exact g v f b
theorem Dist.down{v:Int}:∀{d:Nat},Dist T a v d->∀ j,j<=d->∃ u,Dist T a u j
 |0,h,j,hj=>⟨v,by rw[show j=0 by lia];exact h⟩
 | d+1,h,j,hj=>by
  by_cases e:j=d+1
  ·rw[e];exact⟨v,h⟩
  ·obtain⟨u,_,b⟩:=h.pred
   exact Dist.down b j (by lia)
def farO(T:Int->Int->Prop)(a v:Int):Option Nat:=open Classical in if h:∃ d,Dist T a v d then some (Classical.choose h) else none
theorem farO_some{v:Int}{d:Nat}:farO T a v=some d ↔ Dist T a v d:=by
 unfold farO
 constructor
 ·intro h
  split at h
  ·rename_i b
   cases h
   exact Classical.choose_spec b
  ·cases h
 ·intro h
  have b:∃ d,Dist T a v d:=⟨d,h⟩
  rw[dif_pos b,(Classical.choose_spec b).uniq h]
theorem farO_none{v:Int}:farO T a v=none ↔ ∀ d,¬ Dist T a v d:=by
 constructor
 ·intro h d hd
  rw[farO_some.mpr hd] at h;cases h
 ·intro h
  cases e:farO T a v with
  |none=>rfl
  |some d=>exact absurd (farO_some.mp e) (h d)
theorem aye{v:Int}{o:Option Nat}(h:∀ d,o=some d ↔ Dist T a v d):o=farO T a v:=by
 cases o with
 |some d=>exact(farO_some.mpr ((h d).mp rfl)).symm
 |none=>exact(farO_none.mpr λd hd=>by cases (h d).mpr hd).symm
theorem Ring.fin(r:Ring T a k far0 [])(v:Int):far0 v=farO T a v:=by
 refine aye λd=>?_
 rw[r.lab]
 refine⟨λh=>h.1,λh=>⟨h,?_⟩⟩
 apply aD5
 intro c
 obtain⟨u,b⟩:=h.down k (by lia)
 have:=(r.edg u).mpr b
 simp at this
theorem Walk.app{u v w:Int}{i j:Nat}(h:Walk T u i v)(g:Walk T v j w):Walk T u (i+j) w:=by
 induction g with
 |refl=>exact h
 |step _ t ih=>exact .step ih t
theorem Walk.rev(hs:∀ u v,T u v->T v u){u v:Int}{i:Nat}(h:Walk T u i v):Walk T v i u:=by
 induction h with
 |refl=>exact .refl
 | @step j x y _ t ih =>
  have:=(Walk.step (T:=T) (u:=y) .refl (hs _ _ t)).app ih
  rw[Nat.add_comm] at this
  exact this
end Gr
namespace VL
open PySem PySem.Spec L2
theorem nodup_ix{α:Type}{xs:List α}(h:xs.Nodup){i j:Nat}(hi:i<xs.length)(a:j<xs.length)(e:xs[i]=xs[j]):i=j:=by
 have p:=aG8.mp h
 rcases Nat.lt_trichotomy i j with q|q|q
 ·exact absurd e (p i j hi a q)
 ·exact q
 ·exact absurd e.symm (p j i a hi q)
def OLL(dss:List (List PyData)):Own where
 P:=λG H v F=>∃(a:Addr)(as:List Addr),v=.ref a/\H a=some (.lst (as.map V.ref))/\as.Nodup/\a ∉ as/\as.length=dss.length/\(∀(i:Nat) b ds,as[i]?=some b->dss[i]?=some ds->∃ vs,H b=some (.lst vs)/\Rps G vs ds)/\∀ b,F b ↔ b=a\/b∈as
 mono:=λ⟨a,as,e,h,n1,n2,l,r,f⟩ g hh=>⟨a,as,e,hh a _ ((f a).mpr (.inl rfl)) h,n1,n2,l,λi b ds hb hd=>by
  obtain⟨vs,h1,h2⟩:=r i b ds hb hd
  exact⟨vs,hh b _ ((f b).mpr (.inr (aA2 hb))) h1,h2.same g⟩,f⟩
 dom:=λ⟨a,as,e,h,n1,n2,l,r,f⟩ b z=>by
  rcases(f b).mp z with rfl|z
  ·exact⟨_,h⟩
  ·obtain⟨i,hi,e⟩:=aH7.mp z
   have hb:as[i]?=some b:=by rw[aA0 hi,e]
   obtain⟨vs,h1,_⟩:=r i b _ hb (aA0 (by rw[← l];exact hi))
   exact⟨_,h1⟩
theorem amu{G:Hp}:∀{vs:List V}{ds:List PyData},vs.length=ds.length->(∀(i:Nat) v d,vs[i]?=some v->ds[i]?=some d->Rp G v d)->Rps G vs ds
 |[],[],_,_=>.nil
 |[],_::_,h,_=>by simp at h
 |_::_,[],h,_=>by simp at h
 |v::vs,d::ds,h,k=>.cons (k 0 v d rfl rfl) (amu (by simpa using h) λi v d a b=>k (i+1) v d (by simpa using a) (by simpa using b))
theorem aji{c:List (List PyData)}:Frz (OLL c) (.list (c.map .list)):=λG H v F ⟨a,as,e,h,q,p,l,r,f⟩ n g=>by
 subst e
 refine .lst (by rw[afo ((f a).mpr (.inl rfl))];exact h) (amu (by simp[l]) λi u d j hd=>?_)
 rw[aA5] at j hd
 cases hb:as[i]? with
 |none=>rw[hb] at j;cases j
 | some b =>
  cases hds:c[i]? with
  |none=>rw[hds] at hd;cases hd
  | some ds =>
   rw[hb] at j;rw[hds] at hd
   cases j;cases hd
   obtain⟨vs,o,m⟩:=r i b ds hb hds
   exact .lst (by rw[afo ((f b).mpr (.inr (aA2 hb)))];exact o) (m.same (abo n))
section
variable{B:Bs}{env:En}{QO:Sl->En->Prop}{Q':PyData->En->Prop}{D':VEnds}{K:Frag}{i:Nat}
theorem a00{a:List (List PyData)}{R:PyData->Prop}(h:R (.list (a.map .list))):FQ (.own (OLL a)) R:=⟨_,aji,h⟩
theorem ayf{src:List (Option Nat)}{wi:TI}{j:Nat}(h:EvI B wi env λds Y=>ds.length<=1000000/\QO (.own (OLL (List.replicate ds.length []))) Y):EvO B (tLC src wi (aar j) tYes (tLst tNil)) env QO:=λσ G H F Q I k=>by
 refine h σ G H F _ I λJ Z M F1 ds Y s g1 it ⟨a0,q⟩ c d=>?_
 let W:Nat->List V->Hp->Prop:=λn ys H=>∃(as:List Addr)(g:Hp),ys=as.map V.ref/\as.length=n/\as.Nodup/\c ∉ as/\(∀ b∈as,M b=none/\g b=none/\H b=some (.lst []))/\H c=some (.lst ys)/\g c=none/\Same Z g/\Same g H/\Same M H/\(∀ a o,g a=some o->Z a=some o\/M a=none)/\FT g H
 refine⟨λn m ys σI H=>m=ds.length-n/\n<=ds.length/\W n ys H,⟨ds.length,by simp,aG1 _,[],Z,rfl,rfl,List.nodup_nil,by simp,λb hb=>by simp at hb,aaj,s.no_g d,Same.refl _,s.gh.trans (acl d),acl d,λa o e=>.inl e,λa ks e=>?_⟩,?_⟩
 ·by_cases z:a=c
  ·subst z;rw[aaj] at e;cases e
  ·rw[aaf z] at e;exact s.ft a ks e
 rintro n m ys σI H2 ⟨rfl,hn,as,g,rfl,P,nd,na,all,f,X,A,l,r,D,v⟩
 refine⟨f,?_⟩
 by_cases hlt:n<ds.length
 ·refine .inr ⟨it.go n g H2 A l hlt,λK O H'=>W (n+1) K H',λK O H' hw=>⟨ds.length-(n+1),by lia,rfl,hlt,hw⟩,λx H3 y=>?_⟩
  obtain⟨L,o⟩:=it.yld n g H2 x H3 _ A l v (aA0 hlt) y
  refine aot (ar4 (acy (az4 (ar2 ⟨by decide,λp C=>?_⟩))))
  have n2:H2 p=none:=acm o.hh C
  have n1:M p=none:=acm r n2
  have S:p ≠ c:=(aam (o.hh _ _ f) C).symm
  have E:p ∉ as:=λz=>by
   have:=o.hh _ _ (all p z).2.2
   rw[this] at C;cases C
  refine⟨by rw[aaf S.symm];exact o.hh _ _ f,by rw[aA3,P];exact big (by lia),as++[p],L,by simp,by simp[P],?_,?_,λb hb=>?_,aaj,?_,A.trans o.gg,λa u e=>?_,λa u e=>?_,λa u e=>?_,λa ks e=>?_⟩
  ·rw[aE9]
   exact⟨nd,by simp,λx hx y hy=>by simp at hy;subst hy;intro e;subst e;exact E hx⟩
  ·intro z
   rcases aA7.mp z with z|z
   ·exact na z
   ·exact S (aC2.mp z).symm
  ·have gb:∀ b,g b=none->(∃ u,H2 b=some u)->L b=none:=λb R z_=>by
    obtain⟨u,T⟩:=z_
    cases e:L b with
    |none=>rfl
    | some w =>
     rcases o.gn b w e with e|e
     ·rw[R] at e;cases e
     ·rw[T] at e;cases e
   rcases aA7.mp hb with hb|hb
   ·obtain⟨R,T,h3⟩:=all b hb
    refine⟨R,gb b T ⟨_,h3⟩,?_⟩
    rw[aaf (λz:b=c=>na (by rw[← z];exact hb)),aaf (λz:b=p=>E (by rw[← z];exact hb))]
    exact o.hh _ _ h3
   ·have e:b=p:=by simpa using hb
    subst e
    exact⟨n1,acm o.gh C,by rw[aaf S,aaj]⟩
  ·cases e:L c with
   |none=>rfl
   | some w =>
    rcases o.gn c w e with e|e
    ·rw[X] at e;cases e
    ·rw[f] at e;cases e
  ·have N:a ≠ p:=aam (o.gh a u e) C
   have U:a ≠ c:=by
    rintro rfl
    rcases o.gn _ u e with e|e
    ·rw[X] at e;cases e
    ·rw[f] at e;cases e
   rw[aaf U,aaf N];exact o.gh a u e
  ·have N:a ≠ p:=aam e n1
   have U:a ≠ c:=aam e d
   rw[aaf U,aaf N];exact o.hh _ _ (r a u e)
  ·rcases o.gn a u e with e|e
   ·exact D a u e
   ·exact .inr (acm r e)
  ·by_cases z:a=c
   ·subst z;rw[aaj] at e;cases e
   ·rw[aaf z] at e
    by_cases y:a=p
    ·subst y;rw[aaj] at e;cases e
    ·rw[aaf y] at e;exact o.ft v a ks e
 ·have e:n=ds.length:=by lia
  subst e
  refine .inl ⟨it.stop _ g H2 A l rfl,?_⟩
  have I2:=s.grow A l r D v
  refine k (.ref c) g H2 F1 (λb=>b=c\/b∈as) (.own (OLL (List.replicate ds.length []))) Y I2 (g1.trans A) ⟨⟨c,as,rfl,f,nd,na,by simp[P],λi b a1 hb hd=>?_,λb=>Iff.rfl⟩,λb z=>?_,λb z=>?_,λb z=>?_,λj b z y=>?_⟩ q
  ·rw[aH8] at hd
   split at hd
   ·cases hd;exact⟨[],(all b (aA2 hb)).2.2,.nil⟩
   ·cases hd
  ·rcases z with rfl|z
   ·exact s.no_b d
   ·exact s.no_b (all b z).1
  ·rcases z with rfl|z
   ·exact X
   ·exact(all b z).2.1
  ·rcases z with rfl|z
   ·exact⟨_,f⟩
   ·exact⟨_,(all b z).2.2⟩
  ·rcases z with rfl|z
   ·exact s.no_f d j y
   ·exact s.no_f (all b z).1 j y
theorem aim{d:List (List PyData)}{l j n:Nat}{k:Int}{y:PyData}{ds:List PyData}(e:env[i]?=some (some (.own (OLL d))))(P:env[l]?=some (some (.st (.int k))))(ey:env[j]?=some (some (.st y)))
  (R:ixN d.length k=some n) (hd:d[n]?=some ds) (hl:ds.length<=999999) (q:Q' .none (env.set i (some (.own (OLL (d.set n (ds++[y]))))))):Ev B (tBM K "list" afa (tOp (ack K) (tVar i) (tVar l)) (acd (tVar j) tNil)) env Q':=λσ G H F Q I S=>by
 obtain⟨v,M,⟨a,as,rfl,h,O,E,ln,r,f⟩,_⟩:=I.sl i _ e
 obtain⟨vk,x,X,_⟩:=I.sl l _ P
 obtain⟨vy,w,ry,_⟩:=I.sl j _ ey
 cases X
 have hn:n<d.length:=(aA1.mp hd).1
 have hb:as[n]?=some (as[n]'(by lia)):=aA0 _
 generalize as[n]'(by lia)=b at hb
 have s:b∈as:=aA2 hb
 obtain⟨vs,N,L⟩:=r n b ds hb hd
 have C:atI (as.map V.ref) k=some (.ref b):=by
  unfold atI
  rw[aA3,ln,R]
  simp[hb]
 refine⟨_,M,_,x,afm h C ⟨.inl ⟨rfl,_,SqL.of N⟩,_,w,af9 N (by rw[L.length];exact big (by lia)) ?_⟩⟩
 have D:a ≠ b:=λz=>E (z ▸ s)
 have J:=I.change (A:=OLL (d.set n (ds++[y]))) (H2:=upd H b (.lst (vs++[vy]))) (F2:=F i) (os':=.own (OLL (d.set n (ds++[y])))) i e M (λc o p u=>by rw[aaf (λz:c=b=>p ((f c).mpr (.inr (by rw[z];exact s))))];exact u)
  (λc o u=>by
   by_cases z:c=b
   ·rw[z];exact⟨_,aaj⟩
   ·rw[aaf z];exact⟨o,u⟩)
  (λc z=>⟨.inl z,by
   by_cases y:c=b
   ·rw[y];exact⟨_,aaj⟩
   ·rw[aaf y];exact I.fo i c z⟩) ?_ (λc ks e=>by
   by_cases z:c=b
   ·subst z;rw[aaj] at e;cases e
   ·rw[aaf z] at e;exact I.ft c ks e) (.inl ⟨rfl,_,rfl⟩)
 ·exact S _ G _ _ _ _ J (Same.refl _) .non q
 ·refine⟨a,as,rfl,by rw[aaf D];exact h,O,E,by simp[ln],λm c es p g=>?_,f⟩
  by_cases hm:m=n
  ·subst hm
   rw[hb] at p;cases p
   rw[aD2,aF6 rfl,aF6 hn] at g
   cases g
   exact⟨_,aaj,L.append (.cons ry .nil)⟩
  ·rw[aD2,aF7 (λz=>hm z.symm)] at g
   obtain⟨us,h3,Z⟩:=r m c es p g
   refine⟨us,?_,Z⟩
   rw[aaf]
   ·exact h3
   ·rintro rfl
    have i1:=(aA1.mp hb)
    have W:=(aA1.mp p)
    obtain⟨T,Y⟩:=i1
    obtain⟨U,e2⟩:=W
    exact hm (nodup_ix O U T (e2.trans Y.symm))
end
@[reducible] def prD (p:Int × Int):PyData:=.tuple [.int p.1,.int p.2]
@[reducible] def webD (n:Int) (es:List (Int × Int)):PyData:=.tuple [.int n,.list (es.map prD)]
def Tied(es:List (Int × Int))(u v:Int):Prop:=(u,v)∈es\/(v,u)∈es
theorem Tied.symm{es:List (Int × Int)}{u v:Int}(h:Tied es u v):Tied es v u:=h.elim .inr .inl
def InN(n:Int)(es:List (Int × Int)):Prop:=∀ p∈es,0<=p.1/\p.1<n/\0<=p.2/\p.2<n
theorem Tied.in{n:Int}{es:List (Int × Int)}{u v:Int}(hi:InN n es)(h:Tied es u v):(0<=u/\u<n)/\0<=v/\v<n:=by
 rcases h with h|h
 ·have:=hi _ h;exact⟨⟨this.1,this.2.1⟩,this.2.2⟩
 ·have:=hi _ h;exact⟨⟨this.2.2.1,this.2.2.2⟩,this.1,this.2.1⟩
theorem Tied.snoc{es:List (Int × Int)}{i:Nat}{a b:Int}(h:es[i]?=some (a,b))(u v:Int):Tied (es.take (i+1)) u v ↔ (Tied (es.take i) u v\/(u=a/\v=b))\/(u=b/\v=a):=by
 have e:es.take (i+1)=es.take i++[(a,b)]:=by rw[aH5,h];rfl
 unfold Tied
 rw[e]
 simp only[aA7,aC2,Prod.mk.injEq]
 constructor
 ·rintro((h|⟨rfl,rfl⟩)|(h|⟨rfl,rfl⟩))
  ·exact .inl (.inl (.inl h))
  ·exact .inl (.inr ⟨rfl,rfl⟩)
  ·exact .inl (.inl (.inr h))
  ·exact .inr ⟨rfl,rfl⟩
 ·rintro(((h|h)|⟨rfl,rfl⟩)|⟨rfl,rfl⟩)
  ·exact .inl (.inl h)
  ·exact .inr (.inl h)
  ·exact .inl (.inr ⟨rfl,rfl⟩)
  ·exact .inr (.inr ⟨rfl,rfl⟩)
def TiedL(n:Int)(T:Int->Int->Prop)(tl:List (List Int)):Prop:=(tl.length:Int)=n/\∀(i:Nat) ws,tl[i]?=some ws->∀ w,w∈ws ↔ T i w
def oD:Option Nat->PyData
 |none=>.none
 |some d=>.int d
def lab(n:Nat)(far:Int->Option Nat):List PyData:=(List.range n).map λ(i:Nat)=>oD (far (i:Int))
theorem ade{n:Nat}{far:Int->Option Nat}:(lab n far).length=n:=by simp[lab]
theorem aef{n:Nat}{far:Int->Option Nat}{i:Nat}(h:i<n):(lab n far)[i]?=some (oD (far i)):=by
 unfold lab
 rw[aA5,aA0 (by simpa using h)]
 simp
theorem asn{n:Nat}{far:Int->Option Nat}{v:Int}(a:0<=v)(h:v<n):atI (lab n far) v=some (oD (far v)):=by
 have:=ae8 (xs:=lab n far) (j:=v.toNat) (aef (by lia))
 rwa [show((v.toNat:Nat):Int)=v by lia] at this
theorem ain{n:Nat}{v:Int}(a:0<=v)(h:v<n):ixN n v=some v.toNat:=by
 unfold ixN;rw[aF6 a,aF6 h]
theorem ape{n:Nat}{far:Int->Option Nat}{v:Int}{d:Nat}(a:0<=v)(h:v<n):(lab n far).set v.toNat (.int d)=lab n (Gr.label far v d):=by
 apply aG3
 intro i
 rw[aD2]
 by_cases e:v.toNat=i
 ·rw[aF6 e,aF6 (by rw[ade];lia),aef (by lia)]
  have:(i:Int)=v:=by lia
  rw[this,Gr.label_same];rfl
 ·rw[aF7 e]
  by_cases hi:i<n
  ·rw[aef hi,aef hi,Gr.label_ne (by lia)]
  ·rw[aF8.mpr (by rw[ade];lia),aF8.mpr (by rw[ade];lia)]
theorem aso{n:Nat}{f g:Int->Option Nat}(h:∀ v,0<=v->v<(n:Int)->f v=g v):lab n f=lab n g:=by
 unfold lab
 apply aF0
 intro i hi
 rw[h i (by lia) (by have:=aB9.mp hi;lia)]
theorem ayg{o:Option Nat}:isNone (oD o)=o.isNone:=by cases o <;> rfl
theorem adm{α:Type}{f : α->PyData}{xs:List α}{i:Int}{x : α}(h:atI xs i=some x):atI (xs.map f) i=some (f x):=by
 unfold atI at h ⊢
 rw[aA3]
 cases e:ixN xs.length i with
 |none=>rw[e] at h;cases h
 |some j=>rw[e] at h;simp at h ⊢;exact⟨_,h,rfl⟩
theorem afu{α:Type}{xs:List α}{i:Int}{x : α}(a:0<=i)(h:xs[i.toNat]?=some x):atI xs i=some x:=by
 have:=ae8 (xs:=xs) (j:=i.toNat) h
 rwa [show((i.toNat:Nat):Int)=i by lia] at this
@[reducible] def tlD (tl:List (List Int)):List (List PyData):=tl.map λws=>ws.map .int
theorem TiedL.get{n:Int}{T:Int->Int->Prop}{tl:List (List Int)}(h:TiedL n T tl){v:Int}(c:0<=v)(d:v<n):∃ b,tl[v.toNat]?=some b/\∀ w,w∈b ↔ T v w:=by
 have a:v.toNat<tl.length:=by have:=h.1;lia
 refine⟨tl[v.toNat],aA0 a,λw=>?_⟩
 rw[h.2 _ _ (aA0 a) w,show((v.toNat:Nat):Int)=v by lia]
theorem ajj{tl:List (List Int)}{i:Nat}{a:List Int}(h:tl[i]?=some a):(tlD tl)[i]?=some (a.map .int):=by
 rw[aA5,h];rfl
theorem TiedL.put{n:Int}{T:Int->Int->Prop}{tl:List (List Int)}(h:TiedL n T tl){v q:Int}{c:List Int}(l:0<=v)(g:v<n)(d:tl[v.toNat]?=some c):TiedL n (λa b=>T a b\/(a=v/\b=q)) (tl.set v.toNat (c++[q])):=by
 refine⟨by rw[List.length_set];exact h.1,λi us hi w=>?_⟩
 rw[aD2] at hi
 by_cases e:v.toNat=i
 ·rw[aF6 e] at hi
  have j:v.toNat<tl.length:=(aA1.mp d).1
  rw[aF6 (by lia)] at hi
  cases hi
  have f:(i:Int)=v:=by lia
  rw[aA7,aC2,h.2 i c (by rw[← e];exact d) w,f]
  simp
 ·rw[aF7 e] at hi
  rw[h.2 i us hi w]
  exact⟨.inl,λz=>z.elim id λz=>by lia⟩
theorem apf{tl:List (List Int)}{i:Nat}{a:List Int}:(tlD tl).set i (a.map .int)=tlD (tl.set i a):=by
 unfold tlD;rw[List.map_set]
theorem TiedL.iff{n:Int}{T a:Int->Int->Prop}{tl:List (List Int)}(h:TiedL n T tl)(e:∀ u v,T u v ↔ a u v):TiedL n a tl:=⟨h.1,λi b hi w=>(h.2 i b hi w).trans (e _ _)⟩
end VL
namespace VL
open PySem L2
def cnt(far:Int->Option Nat):Nat->Nat
 |0=>0
 |n+1=>cnt far n+(if far (n:Int)=none then 1 else 0)
theorem af1{far:Int->Option Nat}{w:Int}{d:Nat}:∀{n:Nat},(w:Int) ≥ n->cnt (Gr.label far w d) n=cnt far n
 |0,_=>rfl
 | n+1,h=>by
  unfold cnt
  rw[af1 (by lia),Gr.label_ne (by lia)]
theorem aka{far:Int->Option Nat}{w:Int}{d:Nat}(b:0<=w)(a:far w=none):∀{n:Nat},w<(n:Int)->cnt (Gr.label far w d) n+1=cnt far n
 |0,h=>by lia
 | n+1,h=>by
  unfold cnt
  by_cases e:w=n
  ·subst e
   rw[af1 (by lia),Gr.label_same,a];simp
  ·rw[Gr.label_ne (by lia)]
   have:=aka b a (n:=n) (d:=d) (by lia)
   lia
theorem ayh(n:Nat):(List.replicate n [PyData.none]).flatten=lab n (λ_=>none):=by
 apply aG3
 intro i
 by_cases hi:i<n
 ·rw[aef hi]
  have:(List.replicate n [PyData.none]).flatten=List.replicate n PyData.none:=by
   clear hi
   induction n with
   |zero=>rfl
   |succ n ih=>rw[aH4,List.flatten_cons,ih,aH4];rfl
  rw[this,aH8,aF6 hi];rfl
 ·rw[aF8.mpr (by rw[aop];simp;lia),aF8.mpr (by rw[ade];lia)]
theorem an9{α:Type}{f : α->PyData}{xs:List α}:(xs.map f).isEmpty=xs.isEmpty:=by cases xs <;> rfl
theorem ad6{xs:List Int}{j:Nat}{u w:Int}(a:xs[j]?=some u)(hm:w∈xs.take (j+1)):w∈xs.take j\/w=u:=by
 rw[aH5,a] at hm
 rcases aA7.mp hm with q|q
 ·exact .inl q
 ·exact .inr (by simpa using q)
theorem asp{n:Nat}{far:Int->Option Nat}:plainDs (lab n far)=true:=by
 rw[ahe]
 intro d hd
 obtain⟨i,_,rfl⟩:=aB7.mp hd
 cases far (i:Int) <;> rfl
theorem ayi{n:Nat}{far:Int->Option Nat}:((lab n far).any λz=>PyData.eqv z .none)=true ↔ ∃ v:Int,0<=v/\v<n/\far v=none:=by
 rw[List.any_eq_true]
 constructor
 ·rintro⟨d,hd,e⟩
  obtain⟨i,hi,rfl⟩:=aB7.mp hd
  refine⟨i,by lia,by have:=aB9.mp hi;lia,?_⟩
  cases h:far (i:Int) with
  |none=>rfl
  |some d=>rw[h] at e;simp[oD,PyData.eqv] at e
 ·rintro⟨v,b,a,h⟩
  refine⟨oD (far v),?_,by rw[h];rfl⟩
  have:=aef (far:=far) (show v.toNat<n by lia)
  rw[show((v.toNat:Nat):Int)=v by lia] at this
  exact aA2 this
def Joined(n:Int)(es:List (Int × Int)):Prop:=∀ v,0<=v->v<n->∃ d,Gr.Dist (Tied es) 0 v d
end VL
namespace DI
open PySem PySem.W
def Raw(h:Heap)(d:Addr)(es:Array DictEntry)(ep:Nat):Prop:=∃ o,h.get? d=some o/\o.ExactDict/\o.data=.dict es ep
theorem Raw.keep{h h':Heap}{d:Addr}{es:Array DictEntry}{ep:Nat}(r:Raw h d es ep)(k:∀ o,h.get? d=some o->h'.get? d=some o):Raw h' d es ep:=let ⟨o,e,x⟩:=r;⟨o,k o e,x⟩
theorem Raw.ty{s:Shared}{d:Addr}{es:Array DictEntry}{ep:Nat}(r:Raw s.heap d es ep):s.TypeIs (.ref d) "dict":=let ⟨o,e,x,_⟩:=r;⟨o,e,x.1⟩
section
variable{prog:Program}{w:World}{A:Around}{E:Value->Shared->Prop}{s:Shared}{d it:Addr}{es:Array DictEntry}{ep i:Nat}
theorem raw_iter{Q:Value->Shared->Prop}(hd:(d == sysModules)=false)(r:Raw s.heap d es ep)
  (c:Q (.ref s.heap.objs.size) { s with heap:=s.heap.push { cls:=.type "dict_keyiterator",data:=.fields #[.ref d,.int 0 0,.int es.size 0,.int ep 0] } }):wpAny (model prog w) A (pyIter (.ref d)) Q E s:=by
 obtain⟨o,b,f,a⟩:=id r
 refine wpAny_pyIter_slot r.ty PySem.F.slot_dict_iter (aK4 PySem.F.slot_dict_iter r.ty PySem.F.entry_dict_iter ?body (PySem.F.args_dict_iter_1 _))
 case body =>
  unfold Builtin.«dict.__iter__»
  refine aJ1 ?slot
  case slot =>
   unfold Builtin.Dict.dictSlotNone
   refine aJ1 (wpAny_notOrdered_dict r.ty ?pl)
   case pl =>
    show wpAny _ _ (pure (Value.ref d)) _ _ s
    refine aJ2 ?rest
    case rest =>
     show wpAny _ _ (Builtin.Dict.showsAll d >>= _) _ _ s
     unfold Builtin.Dict.showsAll
     rw[aF7 (by rw[hd];exact aB0)]
     refine aJ1 (aJ2 (aJ1 (wpAny_dictEntries b a (aJ1 (wpAny_dictEpoch b a (aJ1 (aK1 (aJ2 ⟨_,rfl,"dict_keyiterator",_,⟨_,aJ5 _ rfl,rfl⟩,PySem.F.slot_dict_keyiterator_next.lookup,?fin⟩))))))))
     case fin=>simpa[rawInt] using c
theorem raw_item {Q:Option Value->Shared->Prop} (a:s.heap.IsKeyIter it d i es.size ep) (r:Raw s.heap d es ep) (hi:i<es.size)
  (v:∀ h',h'.IsKeyIter it d (i+1) es.size ep->Heap.SameBut it s.heap h'->Q (some es[i].key) { s with heap:=h' }):wpAny (model prog w) A (pyNext (.ref it)) Q E s:=by
 obtain⟨o,q,u,hd⟩:=id a
 obtain⟨od,p,x,n⟩:=r
 unfold pyNext
 refine aJ1 (wpAny_attempt (wpAny_callSpecial?_slot (name:=Str.ofString "__next__") a.typeIs PySem.F.slot_dict_keyiterator_next (aK4 PySem.F.slot_dict_keyiterator_next a.typeIs PySem.F.entry_dict_keyiterator_next ?b (PySem.F.args_dict_keyiterator_next_1 _))))
 case b =>
  refine aJ1 (aJ2 (aJ1 (aJ1 ?c)))
  case c =>
   first|refine aJ1 (wpAny_typeNameOfWhole_keyiter a.typeIs (aJ2 (aJ1 (wpAny_fieldsOf q hd ?e))))|refine aJ1 (wpAny_typeNameOf_keyiter a.typeIs (aJ2 (aJ1 (wpAny_fieldsOf q hd ?e))))
   case e =>
    simp only[show Builtin.Dict_items.ownsTuple "dict_keyiterator" = false by decide,Bool.false_eq_true,if_false]
    show wpAny _ _ (if (Value.ref d == Value.none)=true then _ else _) _ _ s;rw[aF7 (show ¬ ((Value.ref d == Value.none)=true) from aB0)]
    refine aJ1 (aJ2 (aJ1 (wpAny_dictEntries p n ?f)))
    case f =>
     rw[aF7 (by simp)];refine aJ1 (aJ2 (aJ1 (wpAny_dictEpoch p n ?g)))
     case g =>
      rw[aF7 (by simp)];refine aJ2 ?h
      case h =>
       simp only[show ¬ ((i:Int)<0) by lia,if_false,Int.toNat_natCast,aA4 hi];refine aJ1 ?j
       case j =>
        first|refine aJ1 (wpAny_typeNameOfWhole_keyiter a.typeIs (aJ2 (aJ1 (wpAny_isOneOf_keyiter a.typeIs ?k))))|refine aJ1 (wpAny_typeNameOf_keyiter a.typeIs (aJ2 (aJ1 (wpAny_isOneOf_keyiter a.typeIs ?k))))
        case k =>
         show wpAny _ _ (setField (.ref it) 1 (rawInt ((i:Int)+1)) >>= _) _ _ s;refine aJ1 (wpAny_setField q hd (by simp) ?l)
         case l =>
          have nx:(s.heap.update it (Obj.mapFields (·.setIfInBounds 1 (rawInt ((i:Int)+1))))).IsKeyIter it d (i+1) es.size ep:=⟨_,aK7 _ q (Obj.isFreed_of_fields (Obj.data_mapFields hd _)),(Obj.cls_mapFields ..).trans u,by rw[Obj.data_mapFields hd];simp[rawInt]⟩
          refine aJ1 (aJ7 (aJ1 (wpAny_isOneOf_keyiter (s:={ s with heap:=s.heap.update it (Obj.mapFields (·.setIfInBounds 1 (rawInt ((i:Int)+1)))) }) nx.typeIs ?m)))
          case m=>show wpAny _ _ (pure es[i].key) _ _ _;exact aJ2 (aJ2 ⟨_,rfl,aJ2 (v _ nx (Heap.SameBut.update ..))⟩)
theorem raw_end {Q:Option Value->Shared->Prop} (hh:A.handled=none) (i:s.heap.IsKeyIter it d es.size es.size ep) (r:Raw s.heap d es ep) (v:∀ h',Heap.ExtBut it s.heap h'->Q none { s with heap:=h' }):wpAny (model prog w) A (pyNext (.ref it)) Q E s:=by
 obtain⟨o,u,y,hd⟩:=id i
 obtain⟨od,p,x,n⟩:=r
 unfold pyNext
 refine aJ1 (wpAny_attempt (wpAny_callSpecial?_slot (name:=Str.ofString "__next__") i.typeIs PySem.F.slot_dict_keyiterator_next (aK4 PySem.F.slot_dict_keyiterator_next i.typeIs PySem.F.entry_dict_keyiterator_next ?b (PySem.F.args_dict_keyiterator_next_1 _))))
 case b =>
  refine aJ1 (aJ2 (aJ1 (aJ1 ?c)))
  case c =>
   first|refine aJ1 (wpAny_typeNameOfWhole_keyiter i.typeIs (aJ2 (aJ1 (wpAny_fieldsOf u hd ?e))))|refine aJ1 (wpAny_typeNameOf_keyiter i.typeIs (aJ2 (aJ1 (wpAny_fieldsOf u hd ?e))))
   case e =>
    simp only[show Builtin.Dict_items.ownsTuple "dict_keyiterator" = false by decide,Bool.false_eq_true,if_false]
    show wpAny _ _ (if (Value.ref d == Value.none)=true then _ else _) _ _ s;rw[aF7 (show ¬ ((Value.ref d == Value.none)=true) from aB0)]
    refine aJ1 (aJ2 (aJ1 (wpAny_dictEntries p n ?f)))
    case f =>
     rw[aF7 (by simp)];refine aJ1 (aJ2 (aJ1 (wpAny_dictEpoch p n ?g)))
     case g =>
      rw[aF7 (by simp)];refine aJ2 ?h
      case h =>
       simp only[show ¬ ((es.size:Int)<0) by lia,if_false,Int.toNat_natCast,Array.getElem?_eq_none (aA6 es.size)];refine aJ1 ?j
       case j =>
        first|refine aJ1 (wpAny_typeNameOfWhole_keyiter i.typeIs (aJ2 ?k))|refine aJ1 (wpAny_typeNameOf_keyiter i.typeIs (aJ2 ?k))
        case k =>
         show wpAny _ _ (setField (.ref it) 0 .none >>= _) _ _ s;refine aJ1 (wpAny_setField u hd (by simp) ?l)
         case l =>
          show wpAny _ _ (newExc (.type "StopIteration") [] >>= _) _ _ _;refine aJ1 ?m
          case m =>
           simp only[newExc,newTuple];refine aJ1 (aK1 ?zz2 (by size_fits))
           case zz2 =>
            refine aJ1 (m:=firstArgMember _ _) (wpAny_of_eq (a:=Value.none) (by first|rfl|(simp only[firstArgMember];rfl)) (aK1 ?zz1 (by size_fits)))
            case zz1 =>
             simp only[raiseNew];refine aJ1 (wpAny_handled ?q)
             case q =>
              rw[show A.in1.handled=none from hh];refine aJ1 (aJ2 (wpAny_throw ?u1))
              case u1=>refine aJ1 (wpAny_isInstance (T:="StopIteration") (b:=true) ⟨_,aJ5 _ rfl,rfl⟩ isSubtype_stop ?u2);exact aJ2 (v _ (((Heap.SameBut.update ..).extBut.push _).push _))
end
theorem walks{prog:Program}{w:World}{A:Around}(hh:A.handled=none)(I d:Addr)(c:d ≠ I)(es:Array DictEntry)(ep:Nat) :
  Walks prog w A I [I,d] [I] es.size (λi v=>(es[i]?).map (·.key)=some v) (λi h=>h.IsKeyIter I d i es.size ep/\Raw h d es ep) where
 sub:=λb hb=>by simp at hb;simp[hb]
 frame:=λ_ _ _ st f=>⟨st.1.at λo e=>f I (by simp) o e,st.2.keep λo e=>f d (by simp) o e⟩
 item:=λi s Q E hi st a=>raw_item st.1 st.2 hi λh' nx sb=>a _ h' s.toks (by rw[aA4 hi];rfl) ⟨nx,st.2.keep λo e=>sb.extBut d o c e⟩ λb o hb e=>sb.extBut b o (λz=>hb (by simp[z])) e
 done:=λs Q E st a=>raw_end hh st.1 st.2 λh' g=>a h' s.toks λb o hb e=>g b o (λz=>hb (by simp[z])) e
 self:=λ_ _ _ _ st a=>wpAny_pyIter_keyiter st.1 a
end DI
namespace DI
open PySem PySem.W PyProof.Rows
section
variable{prog:Program}{w:World}{A:Around}{E:Value->Shared->Prop}{s:Shared}
theorem src(d:Addr)(es:Array DictEntry)(ep:Nat)(hd:(d == sysModules)=false):KdlSrc prog w "dict" d d es.size (λi v=>(es[i]?).map (·.key)=some v) (λh=>Raw h d es ep) where
 type:=λs r=>r.ty
 there:=λh r=>let ⟨o,e,_⟩:=r;⟨aJ4 e,aJ4 e⟩
 keep:=λh h' r k=>r.keep λo e=>k d (.inl rfl) o e
 notList:=by decide
 notTuple:=by decide
 hint:=λA E s Q r q=>kdl_hint_dict r.ty q
 iter:=λA s hh r=>⟨{ cls:=.type "dict_keyiterator",data:=.fields #[.ref d,.int 0 0,.int es.size 0,.int ep 0] },λi h=>h.IsKeyIter s.heap.objs.size d i es.size ep/\Raw h d es ep,λE Q q=>raw_iter hd r q,
  walks hh s.heap.objs.size d (by obtain⟨o,e,_⟩:=r;exact aB6 (aJ4 e)) es ep,⟨_,aJ5 _ rfl,rfl,rfl⟩,r.keep λo e=>aJ3 _ e⟩
end
end DI
namespace TS
open PySem PySem.W PyProof.Rows
section
variable{prog:Program}{w:World}{A:Around}{E:Value->Shared->Prop}{s:Shared}
end
end TS
namespace L2
open PySem PySem.Spec PyProof.Rows
section
variable{X:Cx}{pins:List (Addr × Obj)}{σ:St}{H:Hp}{s:Shared}{h':Heap}
theorem Inv.turnNew{t':Nat}{ch:List Addr}{T:Addr}{o:HO}(I:Inv X pins σ H s)(f:∀ b∈ch,FpOk X pins H b)(k:∀ b u,b ∉ ch->s.heap.get? b=some u->h'.get? b=some u)(g:s.heap.objs.size<=T)(new:ObjOk X.prog X.w (upd H T o) h' T o) :
  Inv X pins σ (upd H T o) { s with heap:=h',toks:=t' }:=by
 have hn:H T=none:=I.hok.fresh g
 have d:∀ b u,H b=some u->b ∉ ch:=λb u e z=>by rw[(f b z).1] at e;cases e
 refine I.step (g':=s.gens) (d':=s.drawn) (ch:=ch) (λb hb=>⟨(f b hb).2.2.2.1,(f b hb).2.1,(f b hb).2.2.2.2.1,(f b hb).2.2.2.2.2⟩) (λb u _ _ a e _=>k b u a e) (λb u _ _ a e _=>⟨u.slots,k b u a e⟩)
  (λb u _ e n=>by rw[aaf (aB6 (aC5 (aJ4 e) g))];exact n) (λb u a e=>⟨u,k b u a e⟩) (λb xs e=>by rw[aaf (aam e hn)];exact e) (λb u v e=>by rw[aaf (aam e hn)];exact e)
  (λb ps e=>⟨#[],by rw[aaf (aam e hn),e];simp⟩) (λm hm=>?_) (λb u e=>?_) I.bare
 ·obtain⟨u,es,ep,h,r⟩:=hm
  exact⟨u,es,ep,k _ u (λz=>(f _ z).2.1 rfl) h,r⟩
 ·by_cases hb:b=T
  ·subst hb;rw[aaj] at e;cases e;exact new
  ·rw[aaf hb] at e
   refine(I.hok b u e).stay (λc v a q=>k c v ?_ q) (λc q=>by rw[aaf (aam q hn)];exact q) λc xs q=>by rw[aaf (aam q hn)];exact q
   rcases a with z|z
   ·rw[z];exact d b u e
   ·exact d c _ z
theorem Inv.turnedL{t':Nat}{ch:List Addr}(I:Inv X pins σ H s)(f:∀ b∈ch,FpOk X pins H b)(k:∀ b u,b ∉ ch->s.heap.get? b=some u->h'.get? b=some u):Inv X pins σ H { s with heap:=h',toks:=t' }:=by
 have d:∀ b u,H b=some u->b ∉ ch:=λb u e z=>by rw[(f b z).1] at e;cases e
 refine I.step (g':=s.gens) (d':=s.drawn) (ch:=ch) (λb hb=>⟨(f b hb).2.2.2.1,(f b hb).2.1,(f b hb).2.2.2.2.1,(f b hb).2.2.2.2.2⟩) (λb u _ _ a e _=>k b u a e) (λb u _ _ a e _=>⟨u.slots,k b u a e⟩) (λ_ _ _ _ n=>n)
  (λb u a e=>⟨u,k b u a e⟩) (λ_ _ e=>e) (λ_ _ _ e=>e) (λb ps e=>⟨#[],by rw[e];simp⟩) (λm hm=>?_) (λb u e=>?_) I.bare
 ·obtain⟨u,es,ep,g,r⟩:=hm
  exact⟨u,es,ep,k _ u (λz=>(f _ z).2.1 rfl) g,r⟩
 ·refine(I.hok b u e).stay (λc v a q=>k c v ?_ q) (λ_ q=>q) λ_ _ q=>q
  rcases a with z|z
  ·rw[z];exact d b u e
  ·exact d c _ z
end
def Ite(K:Frag)(a:Addr):It :=
 ⟨λi H=>∃ xs x,SqL K H a xs/\xs[i]?=some x,λi H x H'=>∃ p y,x=.ref p/\H p=none/\H'=upd H p (.tup [.int i,y])/\∀ xs,SqL K H a xs->xs[i]?=some y,λi H=>∃ xs,SqL K H a xs/\xs.length<=i⟩
def Itz(K:Frag)(a b:Addr):It :=
 ⟨λi H=>∃ xs ys x y,SqL K H a xs/\SqL K H b ys/\xs[i]?=some x/\ys[i]?=some y,λi H v H'=>∃ p x y,v=.ref p/\H p=none/\H'=upd H p (.tup [x,y])/\(∀ xs,SqL K H a xs->xs[i]?=some x)/\∀ ys,SqL K H b ys->ys[i]?=some y,
  λi H=>∃ xs ys,SqL K H a xs/\SqL K H b ys/\min xs.length ys.length=i⟩
theorem asq{P:Program}{w:World}{K:Frag}{f:List Expr}{k:Nat}{pos:Pos}(a e it:Addr)(D:e ≠ it)(M:a ≠ e)(J:a ≠ it) :
  Turn P w K (.Tuple f k pos) (Ite K a) [e,it] e (λi h=>(∃ old,IsEnum h e it i old)/\h.IsListIter it a i) where
 mem:=by simp
 obj:=λi h st b hb=>by
  obtain⟨⟨old,g⟩,o,S,c,d⟩:=st
  rcases aA9.mp hb with rfl|hb
  ·exact⟨_,g,λv z=>by simp at z⟩
  ·have:b=it:=by simpa using hb
   subst this
   exact⟨o,S,λv z=>by rw[d] at z;cases z⟩
 keep:=λi h h' st q=>⟨let ⟨old,g⟩:=st.1;⟨old,q e (by simp) _ g⟩,st.2.at λo x=>q it (by simp) o x⟩
 item:=by
  intro X m F L O i pins s σ H E I hf st U
  subst m F L
  obtain⟨xs,x,r,C⟩:=U
  obtain⟨its,R,p,hz⟩:=I.list r
  obtain⟨u,Y,ru⟩:=R.get C
  have hi:i<its.toArray.size:=by simpa using (aA1.mp Y).1
  have W:=WalksT.enumerate (prog:=X.prog) (w:=X.w) (I.ok.hd O) e it a D M J its.toArray
  refine W.item i s _ _ hi ⟨st.1,st.2,p.isList⟩ λT Z h1 tk m hT B mid kk=>⟨_,rfl,?_⟩
  obtain⟨t,y,N,rfl⟩:=m
  have ey:y=u:=by
   have:its[i]?=some y:=by simpa using N
   rw[Y] at this;cases this;rfl
  subst ey
  have aT:=W.apart i T _ mid
  refine W.go f k pos i T { s with heap:=h1,toks:=tk } _ _ mid λh2 j k2=>?_
  have l:IsTup h2 T #[.int i t,y]:=by
   obtain⟨o,S,e2,n,e3⟩:=B
   exact⟨o,k2 T o aT S,e2,n,e3⟩
  refine⟨.ref T,upd H T (.tup [.int i,x]),I.turnNew hf (λb o hb q=>k2 b o hb (kk b o hb q)) hT ?_,rfl,⟨T,x,rfl,I.hok.fresh hT,rfl,λys N=>by rw[I.list_inj N r];exact C⟩,⟨?_,j.2.1⟩,λb hb=>?_⟩
  ·exact⟨by show(2:Nat)<=sizeLine;decide,[.int i t,y],.cons ⟨t,rfl⟩ (.cons ru .nil),l⟩
  ·obtain⟨old,q⟩:=j.1
   exact⟨old,by simpa using q⟩
  ·rw[aaf]
   ·exact(hf b hb).1
   ·rintro rfl;exact aT hb
 done:=by
  intro X m F L O i pins s σ H E I hf st U
  subst m F L
  obtain⟨xs,r,C⟩:=U
  obtain⟨its,R,p,hz⟩:=I.list r
  obtain⟨⟨old,g⟩,G⟩:=st
  have hl:=R.length
  exact wpAny_pyNext_enum_end (I.ok.hd O) g G p.isList (by simp;lia) λh2 eb=>⟨rfl,I.turnedL (t':=s.toks) hf λb o hb q=>eb b o (λz=>hb (by simp[z])) q⟩
 self:=λA i s Q E st h=>by
  obtain⟨⟨old,g⟩,_⟩:=st
  exact wpAny_pyIter_enum g h
section
variable{X:Cx}{elts:List Expr}{k:Nat}{tpos:Pos}
def aqq(K:Frag)(ta:TA):TI:=λσ H R=>ta σ H λvs H1=>∃ a xs,vs=[.ref a]/\SqL K H1 a xs/\R (Ite K a) H1
theorem apg{a:Expr}{j:TA}{p pos:Pos}(l:Gl X "enumerate")(hm:X.mg "enumerate" = none)(ha:PA X [a] j)(hs:starEach [a] X.env=[(false,eval a X.env)]:=by rfl):PI X (.Tuple elts k tpos) (.Call (.Name "enumerate" p) [a] [] pos) (aqq X.K j):=by
 intro pins s σ H R I h
 refine Call_ (acu I l hm al6 (PyProof.Rows.callWith_type1 (thn (ha pos pins s σ H _ I h) λus s1 ⟨vs,m,f,x,a,xs,v,w,q⟩=>?_) hs rfl))
 subst v
 obtain⟨u,rfl,r⟩:=acb x
 cases r
 obtain⟨its,y,pl,hz⟩:=f.list w
 refine call_enumerate_list pl.isList λz i g hsz kp=>?_
 have c:a<s1.heap.objs.size:=by obtain⟨o,n,e,_⟩:=pl;exact aJ4 e
 refine wpAny_pyIter_enum i ⟨s1.heap.objs.size+1,[s1.heap.objs.size+1,s1.heap.objs.size],_,_,m,rfl,f.kept (t':=s1.toks) kp,asq a _ _ (Nat.succ_ne_self _) (aB6 (aF9 c)) (aB6 c),⟨⟨_,i⟩,g⟩,λb hb=>?_,q⟩
 have d:s1.heap.objs.size<=b:=by
  rcases aA9.mp hb with rfl|hb
  ·exact Nat.le_succ _
  ·have:b=s1.heap.objs.size:=by simpa using hb
   exact Nat.le_of_eq this.symm
 exact f.fpOk d (f.hok.fresh d)
end
theorem avg{P:Program}{w:World}{K:Frag}{m:List Expr}{k:Nat}{pos:Pos}(z TI TO i1 f O G:Addr)(D:ZipApart z TI TO i1 f O G) :
  Turn P w K (.Tuple m k pos) (Itz K O G) [z,TI,TO,i1,f] z (λi h=>IsZip h z TI TO .none/\IsPair h TI (.ref i1) (.ref f)/\(∃ a b,IsPair h TO a b)/\h.IsListIter i1 O i/\h.IsListIter f G i) where
 mem:=by simp
 obj:=λi h st b hb=>by
  obtain⟨hz,c,⟨a,b',d⟩,⟨o1,e1,c1,d1⟩,⟨o2,e2,c2,d2⟩⟩:=st
  simp only[aA9,aI4,or_false] at hb
  rcases hb with rfl|rfl|rfl|rfl|rfl
  ·exact⟨_,hz,λv y=>by simp at y⟩
  ·exact⟨_,c,λv y=>by simp at y⟩
  ·exact⟨_,d,λv y=>by simp at y⟩
  ·exact⟨o1,e1,λv y=>by rw[d1] at y;cases y⟩
  ·exact⟨o2,e2,λv y=>by rw[d2] at y;cases y⟩
 keep:=λi h h' st q=>by
  obtain⟨hz,c,⟨a,b',d⟩,C,F⟩:=st
  exact⟨q z (by simp) _ hz,q TI (by simp) _ c,⟨a,b',q TO (by simp) _ d⟩,C.at λo x=>q i1 (by simp) o x,F.at λo x=>q f (by simp) o x⟩
 item:=by
  intro X L Z hK hc i pins s σ H E I hf st hg
  subst L Z hK
  obtain⟨xs,ys,x,y,j,l,R,hy⟩:=hg
  obtain⟨us,B,p1,_⟩:=I.list j
  obtain⟨vs,r,p2,_⟩:=I.list l
  obtain⟨u,hu,ru⟩:=B.get R
  obtain⟨v,hv,rv⟩:=r.get hy
  have hi:i<min us.toArray.size vs.toArray.size:=by
   have a1:=(aA1.mp hu).1
   have a2:=(aA1.mp hv).1
   simp;lia
  obtain⟨hz,c,d,C,F⟩:=st
  have W:=WalksT.zip2 (prog:=X.prog) (w:=X.w) (I.ok.hd hc) z TI TO i1 f O G D us.toArray vs.toArray
  refine W.item i s _ _ hi ⟨hz,c,d,C,F,p1.isList,p2.isList⟩ λT a3 h3 tk L hT J mid kk=>⟨_,rfl,?_⟩
  obtain⟨U,S,Y,a0,rfl⟩:=L
  have ex:U=u:=by
   have:us[i]?=some U:=by simpa using Y
   rw[hu] at this;cases this;rfl
  have ey:S=v:=by
   have:vs[i]?=some S:=by simpa using a0
   rw[hv] at this;cases this;rfl
  subst ex ey
  have N:=W.apart i T _ mid
  have sub:∀ b,b ∉ [z,TI,TO,i1,f]->b ∉ [z,TO,i1,f]:=λb hb y=>hb (by simp at y ⊢;rcases y with y|y|y|y <;> simp[y])
  have Tt:T ∉ [z,TI,TO,i1,f]:=λy=>by
   have:=(hf T y).1
   obtain⟨o,e,_⟩:=J
   simp only[aA9,aI4,or_false] at y
   rcases y with rfl|rfl|rfl|rfl|rfl
   ·exact N (by simp)
   ·exact absurd (aJ4 c) (Nat.not_lt.mpr hT)
   ·exact N (by simp)
   ·exact N (by simp)
   ·exact N (by simp)
  refine W.go m k pos i T { s with heap:=h3,toks:=tk } _ _ mid λh4 g k4=>?_
  have M:IsTup h4 T #[U,S]:=by
   obtain⟨o,e1,e2,n,e3⟩:=J
   exact⟨o,k4 T o N e1,e2,n,e3⟩
  refine⟨.ref T,upd H T (.tup [x,y]),I.turnNew hf (λb o hb q=>k4 b o (sub b hb) (kk b o (sub b hb) q)) hT ?_,rfl,⟨T,x,y,rfl,I.hok.fresh hT,rfl,λzs p=>by rw[I.list_inj p j];exact R,λzs p=>by rw[I.list_inj p l];exact hy⟩,⟨g.1,g.2.1,g.2.2.1,g.2.2.2.1,g.2.2.2.2.1⟩,λb hb=>?_⟩
  ·exact⟨by show(2:Nat)<=sizeLine;decide,[U,S],.cons ru (.cons rv .nil),M⟩
  ·rw[aaf]
   ·exact(hf b hb).1
   ·rintro rfl;exact Tt hb
 done:=by
  intro X L Z hK hc i pins s σ H E I hf st hg
  subst L Z hK
  obtain⟨xs,ys,j,l,R⟩:=hg
  obtain⟨us,B,p1,_⟩:=I.list j
  obtain⟨vs,r,p2,_⟩:=I.list l
  obtain⟨hz,c,d,C,F⟩:=st
  have W:=WalksT.zip2 (prog:=X.prog) (w:=X.w) (I.ok.hd hc) z TI TO i1 f O G D us.toArray vs.toArray
  have ei:min us.toArray.size vs.toArray.size=i:=by
   rw[← R,B.length,r.length];simp
  have sub:∀ b,b ∉ [z,TI,TO,i1,f]->b ∉ [z,TO,i1,f]:=λb hb y=>hb (by simp at y ⊢;rcases y with y|y|y|y <;> simp[y])
  rw[← ei] at C F
  exact W.done s _ _ ⟨hz,c,d,C,F,p1.isList,p2.isList⟩ λh3 tk kk=>⟨rfl,I.turnedL (t':=tk) hf λb o hb q=>kk b o (sub b hb) q⟩
 self:=λA i s Q E st h=>wpAny_pyIter_zip st.1 h
theorem a01{n a b:Nat}(c:a<n)(d:b<n):ZipApart (n+4) (n+2) (n+3) n (n+1) a b:=by constructor <;> (show(_:Nat) ≠ _;lia)
section
variable{X:Cx}{elts:List Expr}{k:Nat}{tpos:Pos}
def iZip(K:Frag)(ta:TA):TI:=λσ H R=>ta σ H λvs H1=>∃ a b xs ys,vs=[.ref a,.ref b]/\SqL K H1 a xs/\SqL K H1 b ys/\R (Itz K a b) H1
theorem a02{a b:Expr}{w:TA}{p pos:Pos}(z:Gl X "zip")(hm:X.mg "zip" = none)(ha:PA X [a,b] w)(hs:starEach [a,b] X.env=[(false,eval a X.env),(false,eval b X.env)]:=by rfl)(g:starEach [b] X.env=[(false,eval b X.env)]:=by rfl):PI X (.Tuple elts k tpos) (.Call (.Name "zip" p) [a,b] [] pos) (iZip X.K w):=by
 intro pins s σ H R I h
 refine Call_ (acu I z hm az9 (PyProof.Rows.callWith_type1 (thn (ha pos pins s σ H _ I h) λus s1 ⟨vs,A,f,G,a,b,xs,ys,F,l,m,q⟩=>?_) (by rw[hs,g]) (by rw[g];rfl)))
 subst F
 obtain⟨u,c,rfl,C,B⟩:=ala G
 cases C
 cases B
 obtain⟨_,_,v,_⟩:=f.list l
 obtain⟨_,_,p2,_⟩:=f.list m
 have x:a<s1.heap.objs.size:=by obtain⟨o,n,e,_⟩:=v;exact aJ4 e
 have y:b<s1.heap.objs.size:=by obtain⟨o,n,e,_⟩:=p2;exact aJ4 e
 refine call_zip_2 v.isList p2.isList λJ hz j i D E hsz kp=>?_
 refine wpAny_pyIter_zip hz ⟨s1.heap.objs.size+4,[s1.heap.objs.size+4,s1.heap.objs.size+2,s1.heap.objs.size+3,s1.heap.objs.size,s1.heap.objs.size+1],_,_,A,rfl,f.kept (t':=s1.toks) kp,avg _ _ _ _ _ a b (a01 x y),⟨hz,j,⟨_,_,i⟩,D,E⟩,λc r=>?_,q⟩
 have d:s1.heap.objs.size<=c:=by
  simp only[aA9,aI4,or_false] at r
  rcases r with rfl|rfl|rfl|rfl|rfl
  ·exact Nat.le_add_right _ 4
  ·exact Nat.le_add_right _ 2
  ·exact Nat.le_add_right _ 3
  ·exact aA6 _
  ·exact Nat.le_add_right _ 1
 exact f.fpOk d (f.hok.fresh d)
end
theorem aph:∀{xs:List V}{us:List Value},xs.length=us.length->(∀(i:Nat) v u,xs[i]?=some v->us[i]?=some u->RelV v u)->Vals xs us
 |[],[],_,_=>.nil
 |[],_::_,h,_=>by simp at h
 |_::_,[],h,_=>by simp at h
 |x::xs,u::us,h,k=>.cons (k 0 x u rfl rfl) (aph (by simpa using h) λi v w a b=>k (i+1) v w (by simpa using a) (by simpa using b))
theorem a03:bootBuiltins "abs" = some (.builtin "abs"):=by decide +kernel
theorem aoa(prog:Program)(w:World)(A:Around){bs:List Bool}{us:List Value}(r:Vals (bs.map V.bl) us):TruthOf prog w A (λi v=>us.toArray[i]?=some v) (λi=>bs.getD i false):=by
 intro i v s Q E c h
 have a:us[i]?=some v:=by simpa using c
 have hi:i<us.length:=(aA1.mp a).1
 have hb:i<bs.length:=by have:=r.length;simp at this;lia
 obtain⟨u,b,d⟩:=r.get (i:=i) (x:=.bl bs[i]) (by simp[hb])
 rw[a] at b;cases b
 cases (show v=Value.bool bs[i] from d)
 have e:bs.getD i false=bs[i]:=by simp[List.getD,hb]
 have h':Q (bs.getD i false) s:=h
 rw[e] at h'
 exact aK5 h'
section
variable{X:Cx}
theorem asr(bs:List Bool):((List.range bs.length).all λi=>bs.getD i false)=bs.all id:=by
 rw[aH9,aF5,aF5]
 constructor
 ·intro h b hb
  obtain⟨i,hi,e⟩:=aH7.mp hb
  have:=h i (aB9.mpr hi)
  simp[List.getD,hi,e] at this
  exact this
 ·intro h i hi
  have a:=aB9.mp hi
  have:=h bs[i] (aF3 a)
  simp[List.getD,a];exact this
def rAll(K:Frag):List V->Hp->VK->Prop:=λxs H Q=>∃(a:Addr)(bs:List Bool),xs=[.ref a]/\SqL K H a (bs.map V.bl)/\Q (.bl (bs.all id)) H
theorem akb(f:X.calm=true):abh X (.builtin "all") (rAll X.K):=by
 intro pins s σ H xs us Q I r h
 obtain⟨a,bs,rfl,ha,q⟩:=h
 obtain⟨u,rfl,i⟩:=acb r
 cases i
 obtain⟨its,d,c,_⟩:=I.list ha
 have g:a<s.heap.objs.size:=by obtain⟨o,n,e,_⟩:=c;exact aJ4 e
 have hz:its.toArray.size=bs.length:=by have:=d.length;simp at this;simp[this]
 refine call_all_walk (aK6 c.isList ⟨_,[s.heap.objs.size,a],_,_,_,_,_,rfl,Walks.list (A:=X.A.in1) (I.ok.hd f) _ a (aB6 g) its.toArray,⟨⟨_,aJ5 _ rfl,rfl,rfl⟩,c.isList.push _⟩,aoa _ _ _ d,λj l kp=>?_⟩)
 rw[hz,asr]
 refine⟨.bl _,H,I.kept λb o e=>kp b o (λz=>?_) (aJ3 _ e),rfl,q⟩
 exact absurd (aJ4 e) (by rw[aC2.mp z];exact aG5 _)
def rAbs:List V->Hp->VK->Prop:=λxs H Q=>∃ i:Int,xs=[.int i]/\Q (.int (if i<0 then -i else i)) H
theorem ass:abh X (.builtin "abs") rAbs:=by
 intro pins s σ H xs us Q I r h
 obtain⟨i,rfl,q⟩:=h
 obtain⟨u,rfl,t,rfl⟩:=acb r
 exact call_abs_int λt' a=>⟨.int _,H,I.tok _,⟨_,rfl⟩,q⟩
def amv(K:Frag):List V->Hp->VK->Prop:=λxs H Q=>∃ p ys,xs=[.ref p]/\(SqL K H p ys\/SqT K H p ys)/\∀ l,H l=none->Q (.ref l) (upd H l (.lst ys))
theorem aqr:abh X (.type "list") (amv X.K):=alw
def ast(ta:TA):TE:=λσ H Q=>ta σ H λvs H1=>∃ j:Int,vs=[.int j]/\0<=j/\j<=1000000/\∀ l,H1 l=none->Q (.ref l) (upd H1 l (.lst ((List.range j.toNat).map λ(i:Nat)=>V.int (i:Int))))
theorem amw{a:Expr}{y:TA}{C p2 pos d:Pos}(D:Gl X "list")(hm:X.mg "list" = none)(x:Gl X "range")(w:X.mg "range" = none)(z:X.calm=true)(ha:PA X [a] y)(hs:starEach [a] X.env=[(false,eval a X.env)]:=by rfl)
  (l:starEach [.Call (.Name "range" p2) [a] [] d] X.env=[(false,eval (.Call (.Name "range" p2) [a] [] d) X.env)]:=by rfl):PE X (.Call (.Name "list" C) [.Call (.Name "range" p2) [a] [] d] [] pos) (ast y):=by
 intro pins s σ H Q I h
 refine Call_ (acu I D hm ai6 (PyProof.Rows.callWith_type1 ?_ l rfl))
 rw[l]
 refine Calls.spliced_cons (Call_ (acu I x w boot_range (PyProof.Rows.callWith_type1 (thn (ha d pins s σ H _ I h) λus s1 ⟨vs,O,r,M,j,J,P,R,q⟩=>?_) hs rfl)))
 subst J
 obtain⟨u,rfl,t,rfl⟩:=acb M
 refine call_range_1 (Calls.spliced_nil ?_)
 have K:IsRange (s1.heap.push { cls:=.type "range",data:=.fields #[.int 0 s1.toks,.int j t,.int 1 (s1.toks+1)] }) s1.heap.objs.size 0 j 1 s1.toks t (s1.toks+1):=aJ5 _ rfl
 have hn:Builtin.Range.rangeSize 0 j 1=((j.toNat:Nat):Int):=by rw[rangeSize_one];split <;> lia
 refine call_list_range (s:={ s1 with heap:=s1.heap.push { cls:=.type "range",data:=.fields #[.int 0 s1.toks,.int j t,.int 1 (s1.toks+1)] },toks:=s1.toks+1+1 }) (r.ok.hd z) K (small_one (by lia) (by lia) (by lia) (by lia)) hn (by lia) λB L m c kp E items=>?_
 have A:∀ b o,s1.heap.get? b=some o->B.get? b=some o:=λb o e=>kp b o (aJ3 _ e)
 have f:s1.heap.objs.size<=(s1.heap.push { cls:=.type "range",data:=.fields #[.int 0 s1.toks,.int j t,.int 1 (s1.toks+1)] }).objs.size:=by rw[aK3];exact Nat.le_succ _
 refine⟨.ref _,_,r.laid (t':=L) (o:=.lst ((List.range j.toNat).map λ(i:Nat)=>V.int (i:Int))) A f ?_,rfl,q _ (r.hok.fresh f)⟩
 refine⟨by rw[aA3,aE1];exact aG6 (VL.big (by lia)),m.toList,c,?_,by simpa using E⟩
 obtain⟨G,p⟩:=items
 refine aph (by simp[G]) λi v u n N=>?_
 have g:m[i]?=some u:=by simpa using N
 obtain⟨t',F⟩:=p i u g
 rw[aA5] at n
 have hi:i<j.toNat:=by
  have:=(Array.getElem?_eq_some_iff.mp g).1
  lia
 rw[aA0 (by simpa using hi)] at n
 simp at n
 subst n
 exact⟨t',by rw[F];simp⟩
end
section
variable{X:Cx}{pins:List (Addr × Obj)}{σ:St}{H:Hp}{s:Shared}
theorem Inv.toFrz{a:Addr}{o:Obj}{u:HO}(I:Inv X pins σ H s)(e:H a=some u)(j:s.heap.get? a=some o)(f:∀ xs,u ≠ .tup xs)(h:∀ o v,u ≠ .frz o v)(nb:∀ ps,u ≠ .tbl ps)(l:∀ x,u ≠ .own x):Inv X pins σ (upd H a (.frz o u)) s:=by
 have ne:∀ b v,H b=some v->v ≠ u->b ≠ a:=λb v g i z=>by subst z;rw[e] at g;exact i (aC6 g).symm
 have J:=I.un (t':=s.toks) (H':=upd H a (.frz o u)) (h':=s.heap) ⟨λb o q _ _ _=>q,λb o q _ _ _=>⟨o.slots,q⟩,λb o q n _=>by rw[aaf (aam e n).symm];exact n,λb o q _=>⟨o,q⟩,λb xs q=>by rw[aaf (ne b _ q (λz=>f xs z.symm))];exact q,
  λb w v q=>by rw[aaf (ne b _ q (λz=>h w v z.symm))];exact q,λb ps q=>⟨#[],by rw[aaf (ne b _ q (λz=>nb ps z.symm)),q];simp⟩⟩ λb v q=>?_
 ·exact J
 ·have st:∀ c v,ObjOk X.prog X.w H s.heap c v->ObjOk X.prog X.w (upd H a (.frz o u)) s.heap c v:=λc v x=>x.stay (λ_ _ _ q=>q) (λd q=>by rw[aaf (ne d _ q (λz=>l c z.symm))];exact q) λd xs q=>by rw[aaf (ne d _ q (λz=>f xs z.symm))];exact q
  by_cases hb:b=a
  ·subst hb;rw[aaj] at q;cases q
   exact⟨j,st _ _ (I.hok b u e)⟩
  ·rw[aaf hb] at q
   exact st _ _ (I.hok b v q)
end
def Itd(a:Addr)(kvs:List (List Key × V))(o:Obj):It :=
 ⟨λi H=>i<kvs.length/\H a=some (.frz o (.dT kvs)),λi H x H'=>H'=H/\∃ b k,x=.ref b/\H b=some (.tup (k.map kV))/\(kvs[i]?).map (·.1)=some k,λi H=>kvs.length=i/\H a=some (.frz o (.dT kvs))⟩
theorem KT.get{H:Hp}:∀{kvs:List (List Key × V)}{xs:List (List Key × Addr × Value)}{i:Nat}{p:List Key × V},KT H kvs xs->kvs[i]?=some p->∃ q,xs[i]?=some q/\p.1=q.1/\H q.2.1=some (.tup (p.1.map kV))
 |_,_,_,_,.nil,e=>by simp at e
 |_,_,0,_,.cons r _,e=>by simp at e;subst e;exact⟨_,rfl,r.1,r.2.1⟩
 | _,_,i+1,p,.cons _ t,e=>by
  obtain⟨q,a,b⟩:=KT.get (i:=i) (p:=p) t (by simpa using e)
  exact⟨q,by simpa using a,b⟩
theorem ayj{P:Program}{w:World}{K:Frag}{tg:Expr}(a it:Addr){kvs:List (List Key × V)}{o:Obj}{es:Array DictEntry}{ep:Nat}(M:o.ExactDict)(hd:o.data=.dict es ep)(hz:es.size=kvs.length)(hn:a ≠ it) :
  Turn P w K tg (Itd a kvs o) [it] it (λi h=>h.IsKeyIter it a i es.size ep) where
 mem:=by simp
 obj:=λi h st b hb=>by
  have e:b=it:=by simpa using hb
  subst e
  obtain⟨u,e,c,d⟩:=st
  exact⟨u,e,λv z=>by rw[d] at z;cases z⟩
 keep:=λi h h' st q=>st.at λu e=>q it (by simp) u e
 item:=by
  intro X r A n L i pins s σ H E I hf st x
  subst r A n
  obtain⟨hi,l⟩:=x
  have g:i<es.size:=by lia
  obtain⟨j,z,y,xs,m,o',es',Q,N,h2,O,R,Z⟩:=(show ObjOk X.prog X.w H s.heap a (.frz o (.dT kvs)) from I.hok a _ l)
  rw[j] at N;cases N
  rw[hd] at O;cases O
  obtain⟨p,J⟩:∃ p,kvs[i]?=some p:=⟨_,aA0 hi⟩
  obtain⟨q,W,U,B⟩:=KT.get m J
  have f:es[i].key=.ref q.2.1:=by
   have:es.toList[i]?=some es[i]:=by simp[g]
   rw[R,aA5,W] at this
   simp at this
   rw[← this];rfl
  obtain⟨F,f1,Y,G,C,D⟩:=hf it (by simp)
  refine DI.raw_item st ⟨o,j,M,hd⟩ g λh' nx sb=>?_
  rw[f]
  have S:Inv X pins σ H { s with heap:=h' }:=I.turned (t':=s.toks) (λb u hb e=>(sb.2 b hb).trans e) F f1 G C D
  obtain⟨u,e,c,d⟩:=id nx
  exact⟨_,rfl,ap3 (s:={ s with heap:=h' }) e c d (by decide) ⟨.ref q.2.1,H,S,rfl,⟨rfl,q.2.1,p.1,rfl,B,by rw[J];rfl⟩,nx,λb hb=>(hf b hb).1⟩⟩
 done:=by
  intro X r A n L i pins s σ H E I hf st x
  subst r A n
  obtain⟨hi,l⟩:=x
  obtain⟨j,_⟩:=(show ObjOk X.prog X.w H s.heap a (.frz o (.dT kvs)) from I.hok a _ l)
  obtain⟨F,f1,Y,G,C,D⟩:=hf it (by simp)
  have e:i=es.size:=by lia
  subst e
  exact DI.raw_end (I.ok.hd L) st ⟨o,j,M,hd⟩ λh' T=>⟨rfl,I.turned (t':=s.toks) (λb u hb e=>T b u hb e) F f1 G C D⟩
 self:=λ_ _ _ _ _ st h=>wpAny_pyIter_keyiter st h
section
variable{X:Cx}{tg:Expr}
def iDT(te:TE):TI:=λσ H R=>te σ H λx H1=>∃ a kvs,x=.ref a/\H1 a=some (.dT kvs)/\∀ o,R (Itd a kvs o) (upd H1 a (.frz o (.dT kvs)))
theorem a2i{l:Expr}{te:TE}(A:PE X l te):PI X tg l (iDT te):=by
 intro pins s σ H R I h
 refine thn (A pins s σ H _ I h) λv s1 ⟨x,r,j,B,a,kvs,ex,g,q⟩=>?_
 subst ex
 cases B
 obtain⟨z,y,xs,c,o,es,ep,f,i,m,p,C⟩:=(show ObjOk X.prog X.w r s1.heap a (.dT kvs) from j.hok a _ g)
 have hz:es.size=kvs.length:=by
  have n:es.toList.length=xs.length:=by rw[p];simp
  have D:=Paired.length c
  simp at n;lia
 have J:=j.toFrz (u:=.dT kvs) g f (λ_ z=>nomatch z) (λ_ _ z=>nomatch z) (λ_ z=>nomatch z) λ_ z=>nomatch z
 have d:a<s1.heap.objs.size:=aJ4 f
 refine DI.raw_iter y ⟨o,f,i,m⟩ ⟨s1.heap.objs.size,[s1.heap.objs.size],_,_,_,rfl,J.kept (t':=s1.toks) λb u e=>aJ3 _ e,ayj a _ i m hz (aB6 d),⟨_,aJ5 _ rfl,rfl,rfl⟩,λb hb=>?_,q o⟩
 have e:b=s1.heap.objs.size:=by simpa using hb
 subst e
 exact J.fpOk (aA6 _) (J.hok.fresh (aA6 _))
end
end L2
namespace VL
open PySem PySem.Spec L2
def enD(ds:List PyData):List PyData:=(List.range ds.length).map λ(i:Nat)=>.tuple [.int (i:Int),ds.getD i .none]
def zipD(xs ys:List PyData):List PyData:=(xs.zip ys).map λp=>.tuple [p.1,p.2]
theorem afv{ds:List PyData}:(enD ds).length=ds.length:=by simp[enD]
theorem api{ds:List PyData}{i:Nat}{d:PyData}(h:(enD ds)[i]?=some d):∃ x,ds[i]?=some x/\d=.tuple [.int (i:Int),x]:=by
 unfold enD at h
 rw[aA5] at h
 by_cases hi:i<ds.length
 ·rw[aA0 (by simpa using hi)] at h
  simp at h
  refine⟨ds[i],aA0 hi,?_⟩
  rw[← h]
  simp[hi]
 ·rw[aF8.mpr (by simp;lia)] at h;cases h
theorem avh{xs ys:List PyData}{i:Nat}{d:PyData}(h:(zipD xs ys)[i]?=some d):∃ x y,xs[i]?=some x/\ys[i]?=some y/\d=.tuple [x,y]:=by
 unfold zipD at h
 rw[aA5] at h
 cases e:(xs.zip ys)[i]? with
 |none=>rw[e] at h;cases h
 | some p =>
  rw[e] at h
  cases h
  obtain⟨a,b⟩:=List.getElem?_zip_eq_some.mp e
  exact⟨p.1,p.2,a,b,rfl⟩
theorem Out.tup2{G H:Hp}{p:Addr}{x y:V}{d e:PyData}(g:Same G H)(h:H p=none)(a:Rp G x d)(b:Rp G y e):Out G H (.ref p) (upd G p (.tup [x,y])) (upd H p (.tup [x,y])) (.st (.tuple [d,e])) (λ_=>False):=Out.newT g h (.cons a (.cons b .nil))
section
variable{B:Bs}{env:En}{QI:List PyData->En->Prop}{QO:Sl->En->Prop}{Q':PyData->En->Prop}{K:Frag}{i:Nat}{ta:TA}
theorem avi(h:EvA B ta env λvs e=>∃ ds,vs=[.list ds]/\QI (enD ds) e):EvI B (aqq K ta) env QI:=λσ G H F R I k =>
 h σ G H F _ I λvs z s j ds o b f C c=>by
  obtain⟨xs,l,A⟩:=c
  subst l
  cases C with
  | cons r t =>
   cases t
   cases r with
   | @lst a us _ ha rs =>
    refine⟨a,us,rfl,SqL.of (b.gh _ _ ha),k _ z s j _ o b f ⟨λi G' H' g h hi=>?_,λi G' H' g h hi=>?_,λi G' H' x H'' d g h ft hd y=>?_⟩ A⟩
    ·have:i<us.length:=by rw[rs.length];rw[afv] at hi;exact hi
     exact⟨us,us[i],SqL.of (h _ _ (g _ _ ha)),aA0 this⟩
    ·exact⟨us,SqL.of (h _ _ (g _ _ ha)),by rw[rs.length];rw[afv] at hi;exact Nat.le_of_eq hi.symm⟩
    ·obtain⟨p,v,rfl,m,rfl,q⟩:=y
     obtain⟨dx,n,rfl⟩:=api hd
     obtain⟨u,D,w⟩:=rs.get n
     have:=q us (SqL.of (h _ _ (g _ _ ha)))
     rw[D] at this;cases this
     exact⟨_,Out.tup2 h m (.int _) (w.same g)⟩
theorem ayk(h:EvA B ta env λvs e=>∃ xs ys,vs=[.list xs,.list ys]/\QI (zipD xs ys) e):EvI B (iZip K ta) env QI:=λσ G H F R I k =>
 h σ G H F _ I λvs P J s ds c j o S n=>by
  obtain⟨xs,ys,z,Q⟩:=n
  subst z
  cases S with
  | cons r t =>
   cases t with
   | cons r2 t =>
    cases t
    cases r with
    | @lst a us _ ha rs =>
     cases r2 with
     | @lst b ws _ hb rs2 =>
      have M:(zipD xs ys).length=min us.length ws.length:=by simp[zipD,rs.length,rs2.length]
      refine⟨a,b,us,ws,rfl,SqL.of (j.gh _ _ ha),SqL.of (j.gh _ _ hb),k _ P J s _ c j o ⟨λi G' H' g h hi=>?_,λi G' H' g h hi=>?_,λi G' H' x H'' d g h ft hd y=>?_⟩ Q⟩
      ·have O:i<us.length:=by lia
       have C:i<ws.length:=by lia
       exact⟨us,ws,us[i],ws[i],SqL.of (h _ _ (g _ _ ha)),SqL.of (h _ _ (g _ _ hb)),aA0 O,aA0 C⟩
      ·exact⟨us,ws,SqL.of (h _ _ (g _ _ ha)),SqL.of (h _ _ (g _ _ hb)),by rw[← M];exact hi.symm⟩
      ·obtain⟨p,v,w,rfl,A,rfl,E,L⟩:=y
       obtain⟨dx,W,D,q,rfl⟩:=avh hd
       obtain⟨u,T,N⟩:=rs.get D
       obtain⟨U,f,l⟩:=rs2.get q
       have c:=E us (SqL.of (h _ _ (g _ _ ha)))
       have m:=L ws (SqL.of (h _ _ (g _ _ hb)))
       rw[T] at c;cases c
       rw[f] at m;cases m
       exact⟨_,Out.tup2 h A (N.same g) (l.same g)⟩
theorem RpT.len{G:Hp}:∀{kvs:List (List Key × V)}{es:List (List Key × PyData)},RpT G kvs es->kvs.length=es.length/\kvs.map (·.1)=es.map (·.1)
 |_,_,.nil=>⟨rfl,rfl⟩
 | _,_,.cons _ t=>by
  obtain⟨a,b⟩:=RpT.len t
  exact⟨by simp[a],by simp[b]⟩
theorem ahu{G:Hp}:∀(ks:List Key),Rps G (ks.map kV) (ks.map kD)
 |[]=>.nil
 | .inl i::r=>.cons (.int i) (ahu r)
 | .inr x::r=>.cons (.str x) (ahu r)
@[reducible] def tkD (ks:List Key):PyData:=.tuple (ks.map kD)
theorem a04{es:List (List Key × PyData)}(e:env[i]?=some (some (.own (OT es))))(q:QI (es.map λp=>tkD p.1) (env.set i none)):EvI B (iDT (tVar i)) env QI:=λσ G H F R I k=>by
 obtain⟨v,u,⟨a,kvs,rfl,ha,rt,hf⟩,hb⟩:=I.sl i _ e
 refine⟨_,u,a,kvs,rfl,ha,λo=>?_⟩
 have c:F i a:=(hf a).mpr rfl
 have D:=(I.drop i).aside (p:=a) (o:=.frz o (.dT kvs)) (λ_ z=>nomatch z) (I.fg i a c) (λj z=>by
  by_cases h:j=i
  ·subst h;exact putF_same.mp z
  ·rw[aa7 h] at z;exact h (I.fd j i a z c)) (hb a c)
 have J:=D.freeze (Fv:=(· = a)) (λb z=>by rw[z];exact hb a c) (λj b z y=>by
  rw[z] at y
  by_cases h:j=i
  ·subst h;exact putF_same.mp y
  ·rw[aa7 h] at y;exact h (I.fd j i a y c)) (λb z=>by rw[z];exact I.fg i a c)
 have m:jn G (upd H a (.frz o (.dT kvs))) (· = a) a=some (.frz o (.dT kvs)):=(afo (F:=(· = a)) rfl).trans aaj
 obtain⟨w,s⟩:=RpT.len rt
 refine k _ _ _ _ _ _ J (abo λb z=>by rw[z];exact I.fg i a c) ⟨λn G' H' g h hn=>⟨by simp at hn;lia,h _ _ (g _ _ m)⟩,λn G' H' g h hn=>⟨by simp at hn;lia,h _ _ (g _ _ m)⟩,λn G' H' x H'' d g h ft hd y=>?_⟩ q
 obtain⟨rfl,b,ks,rfl,l,r⟩:=y
 have:d=tkD ks:=by
  rw[aA5] at hd
  cases e2:es[n]? with
  |none=>rw[e2] at hd;cases hd
  | some p =>
   rw[e2] at hd;cases hd
   have f:(kvs.map (·.1))[n]?=some ks:=by rw[aA5];exact r
   rw[s,aA5,e2] at f
   simp at f
   show tkD p.1=tkD ks;rw[f]
 subst this
 exact⟨G',Out.refl h (.tup (ft b ks l) (ahu ks))⟩
@[reducible] def tiD (ns:List Int):PyData:=.tuple (ns.map .int)
def lexS(pss:List (List Int)):Prop:=pss.Pairwise λx y=>HT.lexLt y x=false
theorem ahv{G H:Hp}(ft:FT G H):∀{vs:List V},(∀ v∈vs,TupI H v)->Rps G vs ((vs.map (kH H)).map tiD)
 |[],_=>.nil
 | v::vs,h=>by
  obtain⟨t,ns,rfl,e,_⟩:=h v aB8
  rw[aD1,aD1,aih e]
  have:(ns.map V.int)=(ns.map (λi=>(Sum.inl i:Key))).map kV:=by rw[aE0];rfl
  refine .cons (.tup ?_ (Rps.ints ns)) (ahv ft λu a=>h u (aB5 _ a))
  rw[this];exact ft t _ (by rw[← this];exact e)
theorem ae6{G H:Hp}(gh:Same G H):∀{vs:List V}{pss:List (List Int)},Rps G vs (pss.map tiD)->(∀ ns∈pss,ns ≠ [])->(∀ v∈vs,TupI H v)/\vs.map (kH H)=pss
 |_,[],.nil,_=>⟨λv d=>by simp at d,rfl⟩
 | v::vs,ns::pss,.cons r t,hn=>by
  obtain⟨i1,c⟩:=ae6 gh t λb hm=>hn b (aB5 _ hm)
  cases r with
  | tup h rs =>
   have:=Rps.ints_inv rs
   subst this
   have e:=gh _ _ h
   refine⟨λu a=>?_,by rw[aD1,aih e,c]⟩
   rcases aA9.mp a with rfl|a
   ·exact⟨_,ns,rfl,e,hn ns aB8⟩
   ·exact i1 u a
theorem asu{pss:List (List Int)}(hn:∀ ns∈pss,ns ≠ [])(h:EvA B ta env λds e=>ds=[.list (pss.map tiD)]/\∀ b:List (List Int),b.Perm pss->lexS b->QO (.own (OL (b.map tiD))) e):EvO B (tCB (aii K) ta) env QO:=λσ G H F Q I k =>
 h σ G H F _ I λvs y f m ds q c j x g=>by
  obtain⟨n,w⟩:=g
  subst n
  cases x with
  | cons r t =>
   cases t
   cases r with
   | @lst a us _ ha rs =>
    obtain⟨t1,u⟩:=ae6 c.gh rs hn
    refine⟨a,us,rfl,SqL.of (c.gh _ _ ha),t1,λi p d hs hf=>?_⟩
    have l:∀ v∈i,TupI f v:=λv s=>t1 v (d.mem_iff.mp s)
    have o:=Out.newL c.gh hf (ahv c.ft l)
    refine k _ _ _ m _ _ q (c.out o).1 (j.trans o.gg) (c.out o).2 (w _ ?_ ?_)
    ·have:=d.map (kH f);rw[u] at this;exact this
    ·unfold lexS;rw[aG2];exact hs
end
section
variable{B:Bs}{env:En}{QO:Sl->En->Prop}{Q':PyData->En->Prop}{K:Frag}{i:Nat}{ta:TA}{R:Sl->Prop}
theorem Rps.bools_inv{G:Hp}:∀{bs:List Bool}{vs:List V},Rps G vs (bs.map PyData.bool)->vs=bs.map V.bl
 |[],_,.nil=>rfl
 | b::bs,_,.cons r t=>by
  cases r
  rw[Rps.bools_inv t];rfl
theorem apj{bs:List Bool}(h:R (.st (.bool (bs.all id)))):OpA (rAll K) [.list (bs.map .bool)] R:=λG H vs Q gh rs k=>by
 cases rs with
 | cons r t =>
  cases t
  cases r with
  | lst ha ra =>
   have:=Rps.bools_inv ra
   subst this
   exact⟨_,bs,rfl,SqL.of (gh _ _ ha),k _ _ _ _ _ (Out.refl gh (.bl _)) h⟩
theorem ayl{n:Int}(h:R (.st (.int (if n<0 then -n else n)))):OpA rAbs [.int n] R:=λG H vs Q gh rs k=>by
 obtain rfl:vs=[V.int n]:=Rps.ints_inv (ns:=[n]) rs
 exact⟨n,rfl,k _ _ _ _ _ (Out.refl gh (.int _)) h⟩
theorem avj{ds:List PyData}(h:R (.own (OL ds))):OpA (amv K) [.list ds] R:=λG H vs Q gh rs k=>by
 cases rs with
 | cons r t =>
  cases t
  cases r with
  |lst ha ra=>exact⟨_,_,rfl,.inl (SqL.of (gh _ _ ha)),λp a=>k _ _ _ _ _ (Out.newL gh a ra) h⟩
theorem asv{G:Hp}(n:Nat):Rps G ((List.range n).map λ(i:Nat)=>V.int (i:Int)) (rngD 0 n):=by
 unfold rngD
 refine amu (by simp) λi v d a hd=>?_
 rw[aA5] at a hd
 cases e:(List.range n)[i]? with
 |none=>rw[e] at a;cases a
 |some m=>rw[e] at a hd;cases a;cases hd;show Rp G (.int (m:Int)) (.int (0+(m:Int)));rw[Int.zero_add];exact .int _
theorem asw(h:EvA B ta env λds e=>∃ j:Int,ds=[.int j]/\0<=j/\j<=1000000/\QO (.own (OL (rngD 0 j.toNat))) e):EvO B (ast ta) env QO:=λσ G H F Q I k =>
 h σ G H F _ I λvs s r d ds i a c q b=>by
  obtain⟨j,f,l,m,n⟩:=b
  subst f
  obtain rfl:vs=[V.int j]:=Rps.ints_inv (ns:=[j]) q
  refine⟨j,rfl,l,m,λp g=>?_⟩
  have o:=Out.newL a.gh g (asv j.toNat)
  exact k _ _ _ d _ _ i (a.out o).1 (c.trans o.gg) (a.out o).2 n
end
section
variable{κ:Type} [DecidableEq κ] {α:Type}
def valD(es:List (κ × α))(k : κ):Option α:=(es.find? λe=>decide (e.1=k)).map (·.2)
def putD(es:List (κ × α))(k : κ)(d : α):List (κ × α):=if (es.any λe=>decide (e.1=k))=true then es.map (λe=>if e.1=k then (e.1,d) else e) else es++[(k,d)]
end
theorem RpT.any{G:Hp}{k:List Key}:∀{kvs:List (List Key × V)}{es:List (List Key × PyData)},RpT G kvs es->(kvs.any λe=>decide (e.1=k))=es.any λe=>decide (e.1=k)
 |_,_,.nil=>rfl
 |_,_,.cons r t=>by simp[RpT.any t]
theorem RpT.map{G:Hp}{k:List Key}{v:V}{d:PyData}(h:Rp G v d):∀{kvs:List (List Key × V)}{es:List (List Key × PyData)},RpT G kvs es->RpT G (kvs.map λe=>if e.1=k then (e.1,v) else e) (es.map λe=>if e.1=k then (e.1,d) else e)
 |_,_,.nil=>.nil
 | _,_,.cons (k:=k') r t=>by
  by_cases e:k'=k
  ·simp only[aD1,e,if_true];exact .cons h (RpT.map h t)
  ·simp only[aD1,e,if_false];exact .cons r (RpT.map h t)
theorem RpT.append{G:Hp}:∀{a b:List (List Key × V)}{c d:List (List Key × PyData)},RpT G a c->RpT G b d->RpT G (a++b) (c++d)
 |_,_,_,_,.nil,s=>s
 |_,_,_,_,.cons r t,s=>.cons r (RpT.append t s)
theorem RpT.put{G:Hp}{k:List Key}{v:V}{d:PyData}(h:Rp G v d){kvs:List (List Key × V)}{es:List (List Key × PyData)}(r:RpT G kvs es):RpT G (putK kvs k v) (putD es k d):=by
 unfold putK putD
 rw[r.any]
 split
 ·exact r.map h
 ·exact r.append (.cons h .nil)
theorem a2j{G:Hp}{v:V}{k:Key}(r:Rp G v (kD k)):v=kV k:=by
 cases k with
 |inl i=>cases r;rfl
 |inr x=>cases r;rfl
theorem asx{G:Hp}:∀{ks:List Key}{vs:List V},Rps G vs (ks.map kD)->vs=ks.map kV
 |[],_,.nil=>rfl
 |k::ks,_,.cons r t=>by rw[a2j r,asx t];rfl
section
variable{B:Bs}{env:En}{QO:Sl->En->Prop}{Q':PyData->En->Prop}{D':VEnds}{i:Nat}{te ty tv td:TE}
theorem asz(q:QO (.own (OT [])) env):EvO B arw env QO:=λσ G H F Q I k p a=>by
 have o:=Out.newDT (ds:=[]) I.gh a .nil
 exact k _ _ _ F _ _ env (I.out o).1 o.gg (I.out o).2 q
theorem as0{j:List (List Key × PyData)}(h:Ev B tv env λd m=>Has m i (OT j)/\Ev B ty m λy p=>∃ es ks,p[i]?=some (some (.own (OT es)))/\y=tkD ks/\es.length<=999999/\D'.nx (p.set i (some (.own (OT (putD es ks d)))))):EvS B (aqa (tVar i) ty tv) D' env:=λσ G H F D I r =>
 h σ G H F _ I λv L J C d m w A P z=>by
  obtain⟨N,O⟩:=z
  obtain⟨U,n,a,kvs,rfl,ha,rt,_⟩:=w.has N
  refine⟨_,n,O σ L J C _ w λS x H2 F2 y p o s E ⟨es,ks,c,K,T,M⟩=>?_⟩
  subst K
  obtain⟨R,f,⟨Q,u,l,q,g,hf⟩,hb⟩:=o.sl i _ c
  rw[n] at f;cases f;cases l
  cases E with
  | tup hk rs =>
   have:=asx rs
   subst this
   refine⟨a,_,rfl,DPut.t q (o.gh _ _ hk) (by rw[(RpT.len g).1];exact big (by lia)),?_⟩
   exact r.nx σ x _ _ _ (o.upd1 (A':=OT (putD es ks d)) c (.inl rfl) n hf ⟨a,_,rfl,aaj,g.put (P.same s),λb=>Iff.rfl⟩) (A.trans s) M
end
section
variable{B:Bs}{env:En}{QO:Sl->En->Prop}{Q':PyData->En->Prop}{QE:En->Prop}{D':VEnds}{K:Frag}{i:Nat}{ta:TA}
theorem apk{n:Nat}{a:TGs}{ds:List PyData}(b:ds.length=n)(h:EvGs B a ds env QE):EvG B (gLst K n a) (.st (.list ds)) env QE:=λσ G H F v Fv Q I x k=>by
 obtain⟨r,_⟩:=x.ok
 cases r with
 |lst ha rs=>exact⟨_,_,rfl,SqL.of (I.gh _ _ ha),by rw[rs.length,b],h σ G H F _ Q I rs k⟩
theorem aio{ns:List Int}{tl g:TO}(e:env[i]?=some (some (.scr ns)))(n:B.K=K)(h:EvOp B tl env λlo j=>EvOp B g j λhi c=>QO (.own (OL (cutD (ns.map .int) lo hi))) c):EvO B (tSl (rSlL K) (tVar i) tl g) env QO:=λσ G H F Q I k=>by
 subst n
 obtain⟨z,r,⟨a,v,x⟩,_⟩:=I.sl i _ e
 subst v
 refine⟨_,r,h σ G H F _ I λlo l H2 F2 j s d w=>w σ l H2 F2 _ s λhi y H3 m c b f u=>⟨a,_,rfl,b.gh.seq (f.seq (d.seq x)),λp q=>?_⟩⟩
 have o:=Out.newL (xs:=cutV (ns.map V.int) lo hi) (ds:=cutD (ns.map .int) lo hi) b.gh q (by
  unfold cutV cutD
  rw[aA3,aA3]
  exact((Rps.ints ns).drop _).take _)
 exact k _ _ _ m _ _ c (b.out o).1 (d.trans (f.trans o.gg)) (b.out o).2 u
theorem as4{ns:List Int}{tl d:TO}(e:env[i]?=some (some (.scr ns)))(f:B.K=K)(h:EvOp B tl env λlo j=>EvOp B d j λhi g=>Q' (.list (cutD (ns.map .int) lo hi)) g):Ev B (tSl (rSlL K) (tVar i) tl d) env Q':=ach (aio e f λσ G H F Q I k=>h σ G H F Q I λlo G' H' b a c g' q=>k lo G' H' b a c g' λσ G H F Q I k=>q σ G H F Q I λhi G' H' b a c g' q=>k hi G' H' b a c g' (ab7 q))
theorem akc(h:EvA B ta env λds e=>∃ ns:List Int,ds=[.list (ns.map .int)]/\ns.length<64/\∀ b:List Int,b.Perm ns->b.Pairwise (·<=·)->QO (.own (OL (b.map .int))) e):EvO B (tCB (age K) ta) env QO:=λσ G H F Q I k =>
 h σ G H F _ I λvs u s g ds l c f q d=>by
  obtain⟨ns,i,m,n⟩:=d
  subst i
  cases q with
  | cons r t =>
   cases t
   cases r with
   | @lst a us _ ha rs =>
    have:=Rps.ints_inv rs
    subst this
    refine⟨a,ns,rfl,SqL.of (c.gh _ _ ha),m,λb p j hs hf=>?_⟩
    have o:=Out.newL c.gh hf (Rps.ints b)
    exact k _ _ _ g _ _ l (c.out o).1 (f.trans o.gg) (c.out o).2 (n _ j hs)
theorem x_en{ds:List PyData}{R:List PyData->Prop}(h:R ds):∃ xs,[PyData.list ds]=[.list xs]/\R xs:=⟨ds,rfl,h⟩
theorem a2k{xs ys:List PyData}{R:List PyData->List PyData->Prop}(h:R xs ys):∃ us vs,[PyData.list xs,.list ys]=[.list us,.list vs]/\R us vs:=⟨xs,ys,rfl,h⟩
theorem aym{j:Int}{R:Int->Prop}(a:0<=j)(b:j<=1000000)(h:R j):∃ i:Int,[PyData.int j]=[.int i]/\0<=i/\i<=1000000/\R i:=⟨j,rfl,a,b,h⟩
theorem x_dT{es:List (List Key × PyData)}{a b:Int}{c:En}{R:List (List Key × PyData)->List Key->Prop}(e:c[i]?=some (some (.own (OT es))))(d:es.length<=999999)(q:R es [.inl a,.inl b]):∃ es ks,c[i]?=some (some (.own (OT es)))/\PyData.tuple [.int a,.int b]=tkD ks/\es.length<=999999/\R es ks:=⟨es,_,e,rfl,d,q⟩
end
def ltP(p q:Int × Int):Prop:=p.1<q.1\/(p.1=q.1/\p.2<q.2)
@[reducible] def p2 (p:Int × Int):List Int:=[p.1,p.2]
theorem lex2(p q:Int × Int):HT.lexLt (p2 p) (p2 q)=true ↔ ltP p q:=by
 obtain⟨a,b⟩:=p
 obtain⟨c,d⟩:=q
 simp[p2,HT.lexLt,ltP]
 split <;> lia
theorem aqs{a:List (List Int)}{ps:List (Int × Int)}(h:a.Perm (ps.map p2)):∃ qs:List (Int × Int),a=qs.map p2/\qs.Perm ps:=by
 refine⟨a.map λl=>(l.getD 0 0,l.getD 1 0),?_,?_⟩
 ·rw[aE0]
  symm
  conv=>rhs;rw[← List.map_id a]
  apply aF0
  intro l b
  obtain⟨p,_,rfl⟩:=aB7.mp (h.mem_iff.mp b)
  rfl
 ·have:=h.map λl=>(l.getD 0 0,l.getD 1 0)
  rw[aE0] at this
  have e:((λl:List Int=>(l.getD 0 0,l.getD 1 0)) ∘ p2)=id:=by funext p;rfl
  rw[e,List.map_id] at this
  exact this
def Rise(es:List (Int × Int)):Prop:=es.Pairwise ltP
theorem adq(p:Int × Int):¬ ltP p p:=by unfold ltP;lia
theorem ajk(p q:Int × Int):ltP p q\/p=q\/ltP q p:=by
 obtain⟨a,b⟩:=p
 obtain⟨c,d⟩:=q
 unfold ltP
 simp only[Prod.mk.injEq]
 lia
theorem aip{p q r:Int × Int}(h:ltP p q)(g:ltP q r):ltP p r:=by unfold ltP at *;lia
theorem ag5{qs ps:List (Int × Int)}(c:qs.Perm ps)(hn:ps.Nodup)(hs:lexS (qs.map p2)):Rise qs:=by
 have a:qs.Nodup:=c.nodup_iff.mpr hn
 unfold lexS at hs
 rw[aG2] at hs
 unfold Rise
 refine(List.Pairwise.and hs a).imp λ{p q} h=>?_
 have b:¬ ltP q p:=λz=>by rw[(lex2 q p).mpr z] at h;exact absurd h.1 (by simp)
 rcases ajk p q with z|z|z
 ·exact z
 ·exact absurd z h.2
 ·exact absurd z b
theorem Rise.nodup{es:List (Int × Int)}(h:Rise es):es.Nodup:=h.imp λ{p q} z (e:p=q)=>adq q (by rw[e] at z;exact z)
theorem Rise.eq:∀{as bs:List (Int × Int)},Rise as->Rise bs->(∀ p,p∈as ↔ p∈bs)->as=bs
 |[],[],_,_,_=>rfl
 |[],b::_,_,_,h=>by have:=(h b).mpr aB8;simp at this
 |a::_,[],_,_,h=>by have:=(h a).mp aB8;simp at this
 | a::as,b::bs,ha,hb,h=>by
  obtain⟨c,g⟩:=aI6.mp ha
  obtain⟨d,j⟩:=aI6.mp hb
  have e:a=b:=by
   rcases aA9.mp ((h a).mp aB8) with e|e
   ·exact e
   ·rcases aA9.mp ((h b).mpr aB8) with f|f
    ·exact f.symm
    ·exact absurd (aip (c b f) (d a e)) (adq a)
  subst e
  have:=Rise.eq g j λp=>by
   have i:=h p
   simp only[aA9] at i
   constructor
   ·intro m
    rcases i.mp (.inr m) with e|e
    ·subst e;exact absurd (c p m) (adq p)
    ·exact e
   ·intro m
    rcases i.mpr (.inr m) with e|e
    ·subst e;exact absurd (d p m) (adq p)
    ·exact e
  rw[this]
structure WebOk(n:Int)(es:List (Int × Int)):Prop where
 lo:1<=n
 hi:n<=60
 inn:∀ p∈es,0<=p.1/\p.1<p.2/\p.2<n
 rise:Rise es
theorem WebOk.in{n:Int}{es:List (Int × Int)}(h:WebOk n es):InN n es:=λp a=>by
 have:=h.inn p a;lia
theorem akd{n:Nat}{es:List (Int × Int)}(hn:es.Nodup)(hi:∀ p∈es,0<=p.1/\p.1<(n:Int)/\0<=p.2/\p.2<(n:Int)):es.length<=n * n:=by
 have h:(es.map λ(p:Int × Int)=>p.1 * (n:Int)+p.2).Nodup:=by
  unfold List.Nodup
  rw[aG2]
  refine aI1 ?_ hn
  intro p q c j d e
  have a:=hi p c
  have b:=hi q j
  apply d
  have f:p.1=q.1:=by
   rcases Int.lt_trichotomy p.1 q.1 with z|z|z
   ·have:(p.1+1) * n<=q.1 * n:=Int.mul_le_mul_of_nonneg_right (by lia) (by lia)
    rw[Int.add_mul] at this;lia
   ·exact z
   ·have:(q.1+1) * n<=p.1 * n:=Int.mul_le_mul_of_nonneg_right (by lia) (by lia)
    rw[Int.add_mul] at this;lia
  rw[f] at e
  exact Prod.ext f (by lia)
 have:=L2.few_places (n * n) _ h λv g=>by
  obtain⟨p,c,rfl⟩:=aB7.mp g
  have a:=hi p c
  have l:0<=p.1 * (n:Int):=Int.mul_nonneg a.1 (by lia)
  have i:(p.1+1) * (n:Int)<=n * n:=Int.mul_le_mul_of_nonneg_right (by lia) (by lia)
  rw[Int.add_mul] at i
  push_cast
  lia
 simpa using this
theorem WebOk.len{n:Int}{es:List (Int × Int)}(h:WebOk n es):es.length<=3600:=by
 have:=akd (n:=n.toNat) h.rise.nodup λp b=>by have:=h.inn p b;have:=h.lo;lia
 have a:n.toNat<=60:=by have:=h.hi;lia
 exact aD0 this (Nat.mul_le_mul a a)
def kE(ps:List (Int × Int)):List (List Key × PyData):=ps.map λp=>([Sum.inl p.1,Sum.inl p.2],.bool true)
def addP(ps:List (Int × Int))(p:Int × Int):List (Int × Int):=if p∈ps then ps else ps++[p]
theorem ae0{ps:List (Int × Int)}:(kE ps).length=ps.length:=by simp[kE]
theorem aiq(ps:List (Int × Int))(a b:Int):putD (kE ps) [Sum.inl a,Sum.inl b] (.bool true)=kE (addP ps (a,b)):=by
 have c:((kE ps).any λe=>decide (e.1=[Sum.inl a,Sum.inl b]))=decide ((a,b)∈ps):=by
  rw[aH9,List.any_eq_true,decide_eq_true_iff]
  constructor
  ·rintro⟨e,d,h⟩
   obtain⟨p,f,rfl⟩:=aB7.mp d
   simp at h
   obtain⟨g,p2⟩:=p
   simp at h
   rw[← h.1,← h.2];exact f
  ·intro h
   exact⟨_,aB7.mpr ⟨(a,b),h,rfl⟩,by simp⟩
 unfold putD
 rw[c]
 unfold addP
 by_cases h:(a,b)∈ps
 ·rw[aF6 (by simpa using h),aF6 h]
  unfold kE
  rw[aE0]
  apply aF0
  intro p _
  simp only[Function.comp]
  split <;> rfl
 ·rw[aF7 (by simpa using h),aF7 h]
  simp[kE]
theorem addP_mem{ps:List (Int × Int)}{p q:Int × Int}:q∈addP ps p ↔ q∈ps\/q=p:=by
 unfold addP
 split
 ·rename_i h
  exact⟨.inl,λz=>z.elim id λe=>e ▸ h⟩
 ·simp
theorem aqt{ps:List (Int × Int)}{p:Int × Int}(h:ps.Nodup):(addP ps p).Nodup:=by
 unfold addP
 split
 ·exact h
 ·rename_i hn
  rw[aE9]
  exact⟨h,by simp,λx b y a=>by simp at a;subst a;rintro rfl;exact hn b⟩
theorem ayn(ps:List (Int × Int)):(kE ps).map (λe=>tkD e.1)=ps.map prD:=by
 unfold kE;rw[aE0];rfl
theorem air(ps:List (Int × Int)):(ps.map p2).map tiD=ps.map prD:=by rw[aE0];rfl
theorem awq{ps:List (Int × Int)}:∀ ns∈ps.map p2,ns ≠ []:=λns h=>by
 obtain⟨p,_,rfl⟩:=aB7.mp h
 simp
section
variable{B:Bs}{env:En}{QO:Sl->En->Prop}{K:Frag}{i:Nat}{ta:TA}
theorem agj{ps:List (Int × Int)}(h:EvA B ta env λds e=>ds=[.list (ps.map prD)]/\∀ qs:List (Int × Int),qs.Perm ps->lexS (qs.map p2)->QO (.own (OL (qs.map prD))) e):EvO B (tCB (aii K) ta) env QO :=
 asu (pss:=ps.map p2) awq λσ G H F Q I k=>h σ G H F Q I λvs G' H' d ds e f g r ⟨c,q⟩=>k vs G' H' d ds e f g r ⟨by rw[air];exact c,λa b hs=>by
  obtain⟨qs,rfl,i⟩:=aqs b
  rw[air];exact q qs i hs⟩
end
def OW(d:PyData)(ds:List PyData):Own where
 P:=λG H v F=>∃ t l u vs,v=.ref t/\H t=some (.tup [u,.ref l])/\Rp G u d/\H l=some (.lst vs)/\Rps G vs ds/\∀ b,F b ↔ b=t\/b=l
 mono:=λ⟨t,l,u,vs,e,h1,r1,h2,r2,f⟩ g hh=>⟨t,l,u,vs,e,hh t _ ((f t).mpr (.inl rfl)) h1,r1.same g,hh l _ ((f l).mpr (.inr rfl)) h2,r2.same g,f⟩
 dom:=λ⟨t,l,u,vs,e,h1,r1,h2,r2,f⟩ b z=>by
  rcases(f b).mp z with rfl|rfl
  ·exact⟨_,h1⟩
  ·exact⟨_,h2⟩
theorem as6{d:PyData}{ds:List PyData}:Frz (OW d ds) (.tuple [d,.list ds]):=λG H v F ⟨t,l,u,vs,e,a,c,b,h,f⟩ n g=>by
 subst e
 exact .tup (by rw[afo ((f t).mpr (.inl rfl))];exact a) (.cons (c.same (abo n)) (.cons (.lst (by rw[afo ((f l).mpr (.inr rfl))];exact b) (h.same (abo n))) .nil))
theorem alk{d:PyData}{ds:List PyData}{R:PyData->Prop}(h:R (.tuple [d,.list ds])):FQ (.own (OW d ds)) R:=⟨_,as6,h⟩
section
variable{B:Bs}{env:En}{QO:Sl->En->Prop}{Q':PyData->En->Prop}{K:Frag}{i j:Nat}{ta te:TE}
theorem avk{u:V}{l:Addr}{ks:List Key}:HO.tup [u,.ref l] ≠ .tup (ks.map kV):=by
 intro z
 injection z with z
 match ks,z with
 |[],z=>cases z
 |[_],z=>cases z
 | [_,k],z =>
  simp at z
  cases k <;> simp[kV] at z
 |_::_::_::_,z=>simp at z
theorem avl{i:List PyData}(M:env[j]?=some (some (.own (OL i))))(h:Ev B ta env λd g=>∃ ds,g[j]?=some (some (.own (OL ds)))/\QO (.own (OW d ds)) (g.set j none)):EvO B (tTup (acd ta (acd (tVar j) tNil))) env QO:=λσ G H F Q I k =>
 h σ G H F _ I λv u C n d g c y L x=>by
  obtain⟨ds,K,q⟩:=x
  obtain⟨w,E,⟨l,vs,rfl,s,rs,hf⟩,hb⟩:=c.sl j _ K
  refine⟨_,E,⟨by show(2:Nat)<=sizeLine;decide,λp f=>?_⟩⟩
  have r:n j l:=(hf l).mpr rfl
  have pl:p ≠ l:=(aam s f).symm
  have D:=c.drop j
  have A:∀ m a,(a=p\/a=l)->¬ putF n j (λ_=>False) m a:=λm a ha z=>by
   by_cases hm:m=j
   ·subst hm;exact putF_same.mp z
   ·rw[aa7 hm] at z
    rcases ha with rfl|rfl
    ·exact c.no_f f m z
    ·exact hm (c.fd m j a z r)
  have J:VI B u (upd C p (.tup [v,.ref l])) σ (g.set j none) (putF n j λ_=>False):=D.grow (Same.refl _) (c.gh.trans (acl f)) (acl f) (λa o e=>.inl e) λa ks e=>by
   by_cases z:a=p
   ·subst z;rw[aaj] at e;exact absurd (aC6 e) avk
   ·rw[aaf z] at e;exact c.ft a ks e
  refine k _ u _ _ (λa=>a=p\/a=l) (.own (OW d ds)) _ J y ⟨⟨p,l,v,vs,rfl,aaj,L,by rw[aaf pl.symm];exact s,rs,λb=>Iff.rfl⟩,λa z=>?_,λa z=>?_,λa z=>?_,λm a z=>A m a z⟩ q
  ·rcases z with rfl|rfl
   ·exact c.no_b f
   ·exact hb a r
  ·rcases z with rfl|rfl
   ·exact c.no_g f
   ·exact c.fg j a r
  ·rcases z with rfl|rfl
   ·exact⟨_,aaj⟩
   ·exact⟨_,by rw[aaf pl.symm];exact s⟩
theorem x_ow{ds:List PyData}{a:En}{R:List PyData->Prop}(e:a[j]?=some (some (.own (OL ds))))(q:R ds):∃ ds,a[j]?=some (some (.own (OL ds)))/\R ds:=⟨ds,e,q⟩
end
section
variable{B:Bs}{env:En}{Q':PyData->En->Prop}{D':VEnds}{i:Nat}{ty tv:TE}
theorem aqu{a:List (List Key × PyData)}(f:env[i]?=some (some (.own (OT a))))(h:Ev B tv env λd c=>Has c i (OT a)/\Ev B ty c λy b=>∃ es ks,b[i]?=some (some (.own (OT es)))/\y=tkD ks/\es.length<=999999/\D'.nx (b.set i (some (.own (OT (putD es ks d)))))):EvS B (aqa (tVar i) ty tv) D' env:=as0 h
end
section
variable{R:Sl->Prop}{K:Frag}
theorem ayo{p q:Int × Int}(h:R (.st (.bool (HT.lexLt (p2 p) (p2 q))))):Op2 (rLtT K) (prD p) (prD q) R:=λG H g f Q gh b d k=>by
 cases b with
 | tup ha ra =>
  cases d with
  | tup hb rb =>
   have c:=Rps.ints_inv (ns:=p2 p) ra
   have a:=Rps.ints_inv (ns:=p2 q) rb
   subst c a
   exact⟨_,_,p2 p,p2 q,rfl,rfl,SqT.of (gh _ _ ha),SqT.of (gh _ _ hb),k _ _ _ _ _ (Out.refl gh (.bl _)) h⟩
end
theorem agk(p:Int × Int):aaq (prD p)=true:=rfl
theorem ab8(ps:List (Int × Int)):plainDs (ps.map prD)=true:=by
 rw[ahe]
 intro d hd
 obtain⟨p,_,rfl⟩:=aB7.mp hd
 rfl
theorem apl(p q:Int × Int):PyData.eqv (prD p) (prD q)=decide (p=q):=by
 rw[aH9,agd _ _ rfl rfl,decide_eq_true_iff]
 constructor
 ·intro h
  simp[prD] at h
  exact Prod.ext h.1 h.2
 ·rintro rfl;rfl
theorem ajl(ps:List (Int × Int))(q:Int × Int):((ps.map prD).any λz=>PyData.eqv z (prD q))=decide (q∈ps):=by
 rw[aH9,List.any_eq_true,decide_eq_true_iff]
 constructor
 ·rintro⟨d,hd,e⟩
  obtain⟨p,a,rfl⟩:=aB7.mp hd
  rw[apl] at e
  rw[← of_decide_eq_true e];exact a
 ·intro h
  exact⟨prD q,aB7.mpr ⟨q,h,rfl⟩,by rw[apl];exact aD8 rfl⟩
theorem aob{ds:List PyData}{m:Nat}(h:∀ d∈ds,d.depth<=m):PyData.depthAll ds<=m:=by
 induction ds with
 |nil=>simp[PyData.depthAll]
 | cons d ds ih =>
  simp only[PyData.depthAll]
  exact Nat.max_le.mpr ⟨h d aB8,ih λe a=>h e (aB5 _ a)⟩
theorem ae1(p:Int × Int):(prD p).depth<=1:=by simp[prD,PyData.depth,PyData.depthAll]
theorem ais(ps:List (Int × Int)):PyData.depthAll (ps.map prD)<=1:=aob λd hd=>by
 obtain⟨p,_,rfl⟩:=aB7.mp hd
 exact ae1 p
theorem amx{d:PyData}(h:aaq d=true):PyData.eqv d d=true:=(agd d d h h).mpr rfl
end VL
namespace VL
theorem amy{α:Type}(R : α->α->Prop)(tr:∀{a b c},R a b->R b c->R a c){xs:List α}:xs.Pairwise R ↔ ∀ i (h:i+1<xs.length),R (xs[i]'(by lia)) xs[i+1]:=by
 constructor
 ·intro h i hi
  exact aG8.mp h i (i+1) (by lia) hi (by lia)
 ·intro h
  rw[aG8]
  intro i j hi d f
  induction j with
  |zero=>lia
  | succ j ih =>
   by_cases e:i=j
   ·subst e;exact h i d
   ·exact tr (ih (by lia) (by lia)) (h j d)
end VL
namespace VL
open PySem PySem.Spec L2
section
variable{B:Bs}{env:En}{Q':PyData->En->Prop}{K:Frag}{E:XK}{i:Nat}
theorem avm{f:VP}{t:TA}{w:Own}(D:Has env i w)(h:EvA B t env λds g=>∃ A d,Has g i A/\Frz A d/\f (.st d::ds.map Sl.st) λs=>∃ d',s=.st d'/\ag4 d'=true/\Q' d' g):Ev B (ad8 (spP K f) [] E (acd (tVar i) t)) env Q':=λσ G H F Q I k=>by
 unfold ad8
 simp only[aF1]
 obtain⟨v,m,_⟩:=I.has D
 refine⟨v,m,h σ G H F _ I λvs C n l ds g b p M ⟨A,d,x,N,L⟩=>?_⟩
 obtain⟨O,c,r⟩:=b.has x
 rw[m] at c;cases c
 have j:=abo (H:=n) (b.fg i)
 refine⟨jn C n (l i),_,_,aql b.gh,λa ks e=>j _ _ (b.ft a ks e),.cons (s:=.st d) (N _ _ _ _ r (b.fg i) b.gh) (ArgsOk.of (M.same j)),L,λs q u G' H' Fv o=>?_⟩
 obtain⟨d',rfl,hs,q⟩:=q
 obtain⟨J,y,z⟩:=b.moment j o
 exact k u J H' l d' g z (p.trans y) (apd o.ok.1 hs) q
end
end VL
namespace VL
open PySem L2
theorem a2l{B:Bs}{t:TS}{D':VEnds}{e:En}(h:EvS B t D' e):EvS B t D' e:=h
theorem a2m{B:Bs}{g:TG}{s:Sl}{e:En}{Q:En->Prop}(h:EvG B g s e Q):EvG B g s e Q:=h
theorem a05{B:Bs}{g:TGs}{s:List PyData}{e:En}{Q:En->Prop}(h:EvGs B g s e Q):EvGs B g s e Q:=h
theorem g_Ev{B:Bs}{t:TE}{e:En}{Q:PyData->En->Prop}(h:Ev B t e Q):Ev B t e Q:=h
theorem a2n{B:Bs}{t:TE}{e:En}{Q:Sl->En->Prop}(h:EvO B t e Q):EvO B t e Q:=h
theorem a2o{B:Bs}{t:TT}{e:En}{Q:Bool->En->Prop}(h:EvT B t e Q):EvT B t e Q:=h
theorem a2p{B:Bs}{t:TA}{e:En}{Q:List PyData->En->Prop}(h:EvA B t e Q):EvA B t e Q:=h
theorem a2q{B:Bs}{t:TI}{e:En}{Q:List PyData->En->Prop}(h:EvI B t e Q):EvI B t e Q:=h
theorem a06{B:Bs}{t:TO}{e:En}{Q:Option Int->En->Prop}(h:EvOp B t e Q):EvOp B t e Q:=h
theorem a2r{r:R2}{x y:PyData}{R:Sl->Prop}(h:Op2 r x y R):Op2 r x y R:=h
theorem a2s{r:List V->Hp->VK->Prop}{x:List PyData}{R:Sl->Prop}(h:OpA r x R):OpA r x R:=h
theorem g_FQ{s:Sl}{R:PyData->Prop}(h:FQ s R):FQ s R:=h
theorem ayp{ds:List PyData}{R:List PyData->Prop}(h:ali ds R):ali ds R:=h
theorem ayq{ds:List PyData}{R:List PyData->Prop}(h:alj ds R):alj ds R:=h
structure PsOk(n:Int)(ps:List (Int × Int)):Prop where
 nd:ps.Nodup
 inn:∀ p∈ps,0<=p.1/\p.1<p.2/\p.2<n
theorem PsOk.nil(n:Int):PsOk n []:=⟨List.nodup_nil,λp a=>by simp at a⟩
theorem PsOk.add{n a b:Int}{ps:List (Int × Int)}(h:PsOk n ps)(c:0<=a)(f:a<b)(g:b<n):PsOk n (addP ps (a,b)) :=
 ⟨aqt h.nd,λp d=>by
  rcases addP_mem.mp d with q|q
  ·exact h.inn p q
  ·subst q;exact⟨c,f,g⟩⟩
theorem PsOk.len{n:Int}{ps:List (Int × Int)}(h:PsOk n ps)(hn:n<=100):ps.length<=10000:=by
 by_cases h0:0<=n
 ·have:=akd (n:=n.toNat) h.nd λp b=>by have:=h.inn p b;lia
  have a:n.toNat<=100:=by lia
  exact aD0 this (Nat.mul_le_mul a a)
 ·cases ps with
  |nil=>simp
  |cons p r=>have:=h.inn p aB8;lia
def Tr(n:Int)(ps:List (Int × Int)):Prop:=∀ k,1<=k->k<n->∃ h,0<=h/\h<k/\(h,k)∈ps
theorem Tr.add{n:Int}{ps:List (Int × Int)}{p:Int × Int}(h:Tr n ps):Tr n (addP ps p):=λk k1 d=>by
 obtain⟨x,a,b,c⟩:=h k k1 d
 exact⟨x,a,b,addP_mem.mpr (.inl c)⟩
def Conn(n:Int)(T:Int->Int->Prop):Prop:=∀ u v,0<=u->u<n->0<=v->v<n->∃ k,Gr.Walk T u k v
theorem Tr.conn{n:Int}{ps:List (Int × Int)}(h:Tr n ps):Conn n (Tied ps):=by
 have d:∀(m:Nat)(v:Int),v=m->v<n->∃ k,Gr.Walk (Tied ps) 0 k v:=by
  intro m
  induction m using Nat.strongRecOn with
  | ind m ih =>
   intro v i hn
   by_cases h0:m=0
   ·subst h0;have:v=0:=by lia
    subst this;exact⟨0,.refl⟩
   ·obtain⟨x,a,b,c⟩:=h v (by lia) hn
    obtain⟨k,w⟩:=ih x.toNat (by lia) x (by lia) (by lia)
    exact⟨k+1,.step w (.inl c)⟩
 intro u v o g l f
 obtain⟨k,w⟩:=d u.toNat u (by lia) g
 obtain⟨j,x⟩:=d v.toNat v (by lia) f
 exact⟨k+j,(w.rev λ_ _ t=>t.symm).app x⟩
theorem Conn.joined{n:Int}{es:List (Int × Int)}(h:Conn n (Tied es))(c:0<n):Joined n es:=λv b a=>by
 obtain⟨k,w⟩:=h 0 v (by lia) (by lia) b a
 obtain⟨d,_,hd⟩:=Gr.Dist.of_walk w
 exact⟨d,hd⟩
theorem Joined.conn{n:Int}{es:List (Int × Int)}(h:Joined n es):Conn n (Tied es):=λu v g c f a=>by
 obtain⟨d,hd⟩:=h u g c
 obtain⟨e,b⟩:=h v f a
 exact⟨d+e,(hd.1.rev λ_ _ t=>t.symm).app b.1⟩
theorem Conn.mono{n:Int}{T a:Int->Int->Prop}(h:Conn n T)(g:∀ u v,T u v->a u v):Conn n a:=λu v i d f b=>by
 obtain⟨k,w⟩:=h u v i d f b
 exact⟨k,w.rec .refl λ_ t c=>.step c (g _ _ t)⟩
def Order(n:Int)(row:List Int):Prop:=row.Perm ((List.range n.toNat).map λ(i:Nat)=>(i:Int))
theorem Order.len{n:Int}{row:List Int}(h:Order n row):row.length=n.toNat:=by have:=h.length_eq;simpa using this
theorem Order.nodup{n:Int}{row:List Int}(h:Order n row):row.Nodup:=by
 refine h.nodup_iff.mpr ?_
 unfold List.Nodup
 rw[aG2]
 exact List.nodup_range.imp λ{a b} c e=>c (by lia)
theorem Order.mem{n:Int}{row:List Int}(h:Order n row){v:Int}:v∈row ↔ 0<=v/\v<n:=by
 rw[h.mem_iff,aB7]
 constructor
 ·rintro⟨i,hi,rfl⟩
  have:=aB9.mp hi
  lia
 ·rintro⟨a,b⟩
  exact⟨v.toNat,aB9.mpr (by lia),by lia⟩
theorem Order.get{n:Int}{row:List Int}(h:Order n row){a:Int}(b:0<=a)(d:a<n):∃ x,row[a.toNat]?=some x/\atI row a=some x/\0<=x/\x<n:=by
 have c:a.toNat<row.length:=by rw[h.len];lia
 have e:row[a.toNat]?=some row[a.toNat]:=aA0 c
 have:=h.mem.mp (aA2 e)
 exact⟨_,e,afu b e,this.1,this.2⟩
theorem Order.inj{n:Int}{row:List Int}(h:Order n row){a b x:Int}(a0:0<=a)(b0:0<=b)(ha:row[a.toNat]?=some x)(hb:row[b.toNat]?=some x):a=b:=by
 obtain⟨c,g⟩:=aA1.mp ha
 obtain⟨d,f⟩:=aA1.mp hb
 have:=nodup_ix h.nodup c d (g.trans f.symm)
 lia
theorem Order.id(n:Int):Order n ((List.range n.toNat).map λ(i:Nat)=>(i:Int)):=List.Perm.refl _
def aaw(row:List Int)(a:Int):Int:=row.getD a.toNat 0
def reP(row:List Int)(p:Int × Int):Int × Int:=if aaw row p.1<aaw row p.2 then (aaw row p.1,aaw row p.2) else (aaw row p.2,aaw row p.1)
theorem Order.at{n:Int}{row:List Int}(h:Order n row){a:Int}(c:0<=a)(f:a<n):row[a.toNat]?=some (aaw row a)/\0<=aaw row a/\aaw row a<n:=by
 obtain⟨x,e,_,d,b⟩:=h.get c f
 have:aaw row a=x:=by unfold aaw;rw[aD4,e];rfl
 rw[this];exact⟨e,d,b⟩
theorem Order.atI{n:Int}{row:List Int}(h:Order n row){a:Int}(b:0<=a)(c:a<n):L2.atI row a=some (aaw row a):=afu b (h.at b c).1
theorem Order.ne{n:Int}{row:List Int}(h:Order n row){a b:Int}(a0:0<=a)(a1:a<n)(b0:0<=b)(b1:b<n)(c:a ≠ b):aaw row a ≠ aaw row b:=λe=>by
 have d:=(h.at a0 a1).1
 have f:=(h.at b0 b1).1
 rw[e] at d
 exact c (h.inj a0 b0 d f)
theorem PsOk.re{n:Int}{ps:List (Int × Int)}{row:List Int}(h:PsOk n ps)(o:Order n row):PsOk n (ps.map (reP row)):=by
 have inn:∀ p∈ps,0<=(reP row p).1/\(reP row p).1<(reP row p).2/\(reP row p).2<n:=λp c=>by
  obtain⟨p0,u,p2⟩:=h.inn p c
  have a:=o.at p0 (by lia)
  have b:=o.at (a:=p.2) (by lia) p2
  have ne:=o.ne p0 (by lia) (by lia) p2 (by lia)
  unfold reP
  split <;> dsimp only <;> lia
 refine⟨?_,λq g=>by obtain⟨p,c,rfl⟩:=aB7.mp g;exact inn p c⟩
 unfold List.Nodup
 rw[aG2]
 refine aI1 ?_ h.nd
 intro p q c g d e
 apply d
 obtain⟨p0,u,p2⟩:=h.inn p c
 obtain⟨j,v,l⟩:=h.inn q g
 have inj:∀ a b,0<=a->a<n->0<=b->b<n->aaw row a=aaw row b->a=b:=λa b a0 a1 b0 b1 e=>by
  apply aD5
  intro f
  exact o.ne a0 a1 b0 b1 f e
 have i:=inj p.1 q.1 p0 (by lia) j (by lia)
 have r:=inj p.2 q.2 (by lia) p2 (by lia) l
 have m:=inj p.1 q.2 p0 (by lia) (by lia) l
 have s:=inj p.2 q.1 (by lia) p2 j (by lia)
 unfold reP at e
 split at e <;> split at e <;> simp only[Prod.mk.injEq] at e
 ·exact Prod.ext (i e.1) (r e.2)
 ·have:=m e.1;have:=s e.2;lia
 ·have:=s e.1;have:=m e.2;lia
 ·exact Prod.ext (i e.2) (r e.1)
theorem Tied.re{ps:List (Int × Int)}{row:List Int}{u v:Int}(h:Tied ps u v):Tied (ps.map (reP row)) (aaw row u) (aaw row v):=by
 have c:∀ a b,(a,b)∈ps->Tied (ps.map (reP row)) (aaw row a) (aaw row b):=λa b hm=>by
  have:=List.mem_map_of_mem (f:=reP row) hm
  unfold reP at this
  dsimp only at this
  split at this
  ·exact .inl this
  ·exact .inr this
 rcases h with h|h
 ·exact c u v h
 ·exact(c v u h).symm
theorem Conn.re{n:Int}{ps:List (Int × Int)}{row:List Int}(h:Conn n (Tied ps))(o:Order n row):Conn n (Tied (ps.map (reP row))):=λu v p j m d=>by
 have c:∀ x,0<=x->x<n->∃ a,0<=a/\a<n/\aaw row a=x:=λx l f=>by
  obtain⟨i,hi,e⟩:=aH7.mp (o.mem.mpr ⟨l,f⟩)
  refine⟨i,by lia,by rw[o.len] at hi;lia,?_⟩
  unfold aaw
  simp[hi,e]
 obtain⟨a,a0,a1,rfl⟩:=c u p j
 obtain⟨b,b0,b1,rfl⟩:=c v m d
 obtain⟨k,w⟩:=h a b a0 a1 b0 b1
 exact⟨k,w.rec .refl λ_ t g=>.step g t.re⟩
theorem Tied.perm{qs ps:List (Int × Int)}(h:qs.Perm ps){u v:Int}:Tied qs u v ↔ Tied ps u v:=by unfold Tied;rw[h.mem_iff,h.mem_iff]
theorem amz{n:Int}{ps qs:List (Int × Int)}(b:1<=n)(c:n<=60)(h:PsOk n ps)(a:qs.Perm ps)(hs:lexS (qs.map p2)):WebOk n qs:=⟨b,c,λp hm=>h.inn p (a.mem_iff.mp hm),ag5 a h.nd hs⟩
theorem WebOk.ps{n:Int}{es:List (Int × Int)}(h:WebOk n es):PsOk n es:=⟨h.rise.nodup,h.inn⟩
theorem ait{α:Type}:∀{l:List α}{k:Nat}{x : α},l[k]?=some x->(x::l.eraseIdx k).Perm l
 |[],_,_,h=>by simp at h
 |a::l,0,x,h=>by simp at h;subst h;exact List.Perm.refl _
 | a::l,k+1,x,h=>by
  have b:=ait (l:=l) (k:=k) (x:=x) (by simpa using h)
  exact(List.Perm.swap a x _).trans (b.cons a)
theorem aqv{n:Int}{row left:List Int}{k:Nat}{x:Int}(h:Order n (row++left))(a:left[k]?=some x):Order n ((row++[x])++left.eraseIdx k):=by
 refine List.Perm.trans ?_ h
 rw[aB4]
 refine List.Perm.append_left row ?_
 exact ait a
section
variable{B:Bs}{env:En}{g:TG}{tif:TT}{te:TE}{K:Frag}{src:List (Option Nat)}{ds:List PyData}{e1:En}{R:List PyData->En->Prop}
theorem ake{A:Frag}{α:Type}{xs:List α}{fa fb : α->PyData}(f : α->PyData)(p : α->Bool)(g:noIo (aai src e1)=true)(J:xs.length<=999999)
  (h:∀ x∈xs,∀ a:Bs,a.K=K->EvT a tif (some (.st (fa x))::some (.st (fb x))::aai src e1) λb m=>b=p x/\m=some (.st (fa x))::some (.st (fb x))::aai src e1/\(b=true->Ev a te (some (.st (fa x))::some (.st (fb x))::aai src e1) λy l=>y=f x/\l=some (.st (fa x))::some (.st (fb x))::aai src e1))
  (z:R ((xs.filter p).map f) e1):LcV K (none::none::src) (gLst A 2 (aa5 (aar 0) (aa5 (aar 1) gNil))) tif te (xs.map λx=>.list [fa x,fb x]) e1 R:=by
 have c:noIo (aai (none::none::src) e1)=true:=by
  show((none::none::aai src e1).all λs=>!isIo s)=true
  rw[List.all_cons,List.all_cons]
  exact(aH2 _ _).mpr ⟨rfl,(aH2 _ _).mpr ⟨rfl,g⟩⟩
 refine⟨λi ys e=>ys=((xs.take i).filter p).map f/\∃ o o',e=stO o::stO o'::aai src e1,⟨by simp,none,none,rfl⟩,?_,?_,?_⟩
 ·rintro i ys e ⟨_,o,o',rfl⟩
  exact⟨⟨isIo_stO.symm,abt⟩,⟨isIo_stO.symm,abt⟩,acz acr⟩
 ·rintro i d ys e hd ⟨rfl,o,o',rfl⟩ a C
  rw[aA5] at hd
  cases hx:xs[i]? with
  |none=>rw[hx] at hd;cases hd
  | some x =>
   rw[hx] at hd
   cases hd
   have hi:i<xs.length:=(aA1.mp hx).1
   have r:xs.take (i+1)=xs.take i++[x]:=by rw[aH5,hx];rfl
   refine apk rfl (abg (aap (abg (aap (adp ?_)))))
   show EvT a tif (some (.st (fa x))::some (.st (fb x))::aai src e1) _
   intro σ G H F Q I k
   refine h x (aA2 hx) a C σ G H F Q I λb G' H' n m q g' ⟨hb,w,D⟩=>k b G' H' n m q g' ?_
   subst w
   by_cases hp:b=true
   ·rw[aF6 hp]
    intro σ G H F Q I k
    refine D hp σ G H F Q I λv G' H' n d' l q g' B ⟨u,j⟩=>k v G' H' n d' l q g' B ?_
    subst u j
    refine⟨?_,?_,some _,some _,rfl⟩
    ·have:=aF4 p (xs.take i)
     simp only[aA3]
     have E:(xs.take i).length<=i:=by simp;lia
     lia
    ·rw[r,List.filter_append,aE5]
     have:p x=true:=by rw[← hb];exact hp
     simp[this]
   ·rw[aF7 hp]
    refine⟨?_,some _,some _,rfl⟩
    rw[r,List.filter_append,aE5]
    have:p x=false:=by rw[← hb];simpa using hp
    simp[this]
 ·rintro ys e ⟨rfl,o,o',rfl⟩
  rw[aed c]
  simpa using z
end
theorem apm(n:Nat):rngD 0 n=((List.range n).map λ(i:Nat)=>(i:Int)).map PyData.int:=by simp[rngD]
theorem am0{B:Bs}{t:TS}{D':VEnds}{env:En}(J:En->Prop)(h:EvS B t { D' with nx:=J } env)(k:∀ e,J e->D'.nx e):EvS B t D' env:=λσ G H F D I r=>h σ G H F D I ⟨λσ G' H F env a g q=>r.nx _ _ _ _ _ a g (k _ q),r.rt,r.bk,r.ct⟩
theorem acs{B:Bs}{g:TG}{A:Own}{d:PyData}{env:En}{b:En->Prop}(f:Frz A d)(h:EvG B g (.st d) env b):EvG B g (.own A) env b:=λσ G H F v Fv Q I x k =>
 h σ _ H F v _ Q (I.freeze x.fb x.fd x.fg) (aen (f G H v Fv x.ok x.fg I.gh)) λa G' H' i c j g' q=>k a G' H' i c j ((abo x.fg).trans g') q
theorem cutR{R X:Prop}(h:R->X)(r:R):X:=h r
end VL
namespace VL
open PySem PySem.Spec L2
def ad2(e:En):Prop:=∀(j:Nat)(s:Sl),e[j]?=some (some s)->(∃ d,s=.st d)\/∃ ns:List Int,s=.scr ns
def Sls(K:Frag)(G:Hp)(σ:St)(e:En):Prop:=∀(j:Nat)(s:Sl),e[j]?=some (some s)->∃ v,σ[j]?=some (some v)/\((∃ d,s=.st d/\Rp G v d)\/∃(ns:List Int)(a:Addr),s=.scr ns/\v=.ref a/\SqL K G a (ns.map V.int))
theorem Sls.same{K:Frag}{G G':Hp}{σ:St}{e:En}(h:Sls K G σ e)(g:Same G G'):Sls K G' σ e:=λj s es=>by
 obtain⟨v,c,q⟩:=h j s es
 refine⟨v,c,?_⟩
 rcases q with ⟨d,b,r⟩|⟨ns,a,b,f,r⟩
 ·exact .inl ⟨d,b,r.same g⟩
 ·exact .inr ⟨ns,a,b,f,g.seq r⟩
def bsC(K:Frag)(G H:Hp)(σ:St):Bs:=⟨K,G,H,H,σ,noF⟩
theorem akf{K:Frag}{G H:Hp}{σ:St}{e:En}(gh:Same G H)(ft:FT G H)(ln : σ.length=e.length)(sl:Sls K G σ e):VI (bsC K G H σ) G H σ e noF:=by
 refine⟨gh,Same.refl _,λa o e=>.inl e,Same.refl _,Same.refl _,λa o e=>⟨o,e⟩,λi a z=>z.elim,λi a z=>z.elim,λi j a z=>z.elim,λi a z=>z.elim,λi s es=>?_,ln,ft⟩
 obtain⟨v,c,q⟩:=sl i s es
 refine⟨v,c,?_⟩
 rcases q with ⟨d,b,r⟩|⟨ns,a,b,f,r⟩
 ·subst b;exact⟨r,λa z=>z⟩
 ·subst b;exact⟨⟨a,f,r⟩,λa z=>z⟩
theorem aiu{B:Bs}{K:Frag}{G H:Hp}{σ:St}{e:En}{F:Nat->Addr->Prop}(I:VI B G H σ e F)(c:ad2 e)(b:B.K=K:=by rfl):Sls K G σ e:=λj s es=>by
 subst b
 obtain⟨v,f,q⟩:=I.sl j s es
 refine⟨v,f,?_⟩
 rcases c j s es with ⟨d,rfl⟩|⟨ns,rfl⟩
 ·exact .inl ⟨d,rfl,q.1⟩
 ·obtain⟨⟨a,g,h⟩,_⟩:=q
  exact .inr ⟨ns,a,rfl,g,h⟩
def LcV2(K:Frag)(src:List (Option Nat))(g:TG)(tif:TT)(wi2:TI)(g2:TG)(tif2:TT)(te:TE)(ds:List PyData)(e1:En)(R:List PyData->Prop):Prop:=∃ J:Nat->List PyData->En->Prop,J 0 [] (aai src e1)/\(∀ i ys e,J i ys e->ad2 e) /\
 (∀ i d ys e,ds[i]?=some d->J i ys e->∀ B':Bs,B'.K=K->EvG B' g (.st d) e λe2=>EvT B' tif e2 λb e3=>if b=true then EvI B' wi2 e3 λds2 e4=>∃ J2:Nat->List PyData->En->Prop,J2 0 ys e4/\(∀ j ys e,J2 j ys e->ad2 e) /\
  (∀ j d2 ys2 e,ds2[j]?=some d2->J2 j ys2 e->∀ B2:Bs,B2.K=K->EvG B2 g2 (.st d2) e λe5=>EvT B2 tif2 e5 λb e6=>if b=true then Ev B2 te e6 λy e7=>ys2.length<=999999/\J2 (j+1) (ys2++[y]) e7 else J2 (j+1) ys2 e6)/\(∀ ys2 e,J2 ds2.length ys2 e->J (i+1) ys2 e) else J (i+1) ys e3)/\∀ ys e,J ds.length ys e->R ys
section
variable{B:Bs}{env:En}
theorem ayr{src:List (Option Nat)}{wi:TI}{g:TG}{a9:TT}{b0:TI}{g2:TG}{N:TT}{te:TE}{QO:Sl->En->Prop}(h:EvI B wi env λds C=>LcV2 B.K src g a9 b0 g2 N te ds C λys=>QO (.own (OL ys)) C):EvO B (tLC2 src wi g a9 b0 g2 N te) env QO:=λσ G H F Q I k=>by
 refine h σ G H F _ I λJ G1 H1 L ds C W g1 it ⟨Jv,j0,jc,js,jd⟩ c n=>?_
 have fa:∀ j,¬ L j c:=W.no_f n
 have hb:B.H c=none:=W.no_b n
 -- between two turns
 let Wv:(List PyData->En->Prop)->List V->St->Hp->Prop:=λJ ys σI H=>∃ f e D,VI B f H σ C L/\Same G1 f/\H c=some (.lst ys)/\Rps f ys D/\f c=none/\J D e/\σI.length=e.length/\Sls B.K f σI e
 -- out of a frame within
 have leave:∀{l H3:Hp}{σI:St}{ys:List V},VI B l H3 σ C L->l c=none->H3 c=some (.lst ys)->∀{S T:Hp}{r:St}{F4:Nat->Addr->Prop}{e4:En},VI (bsC B.K l H3 σI) S T r e4 F4->VI B S T σ C L/\S c=none/\T c=some (.lst ys):=by
  intro l H3 σI ys U Z ac S T r F4 e4 E
  refine⟨U.grow E.g0 E.gh E.rs E.gn E.ft,?_,E.rs _ _ ac⟩
  cases e':S c with
  |none=>rfl
  | some u =>
   rcases E.gn c u e' with q|q
   ·change l c=_ at q;rw[Z] at q;cases q
   ·change H3 c=_ at q;rw[ac] at q;cases q
 have step:∀{f H2:Hp}{ys:List V}{x:V}{l H3:Hp}{d:PyData},VI B f H2 σ C L->f c=none->H2 c=some (.lst ys)->Out f H2 x l H3 (.st d) (λ_=>False)->VI B l H3 σ C L/\l c=none/\H3 c=some (.lst ys):=by
  intro f H2 ys x l H3 d M Z ac o
  refine⟨(M.out o).1,?_,o.hh _ _ ac⟩
  cases e':l c with
  |none=>rfl
  | some u =>
   rcases o.gn c u e' with q|q
   ·rw[Z] at q;cases q
   ·rw[ac] at q;cases q
 refine⟨λi m ys σI H=>m=ds.length-i/\i<=ds.length/\Wv (Jv i) ys σI H,⟨ds.length,by simp,aG1 _,?_⟩,?_⟩
 ·refine⟨G1,aai src C,[],W.aside (λ_ z=>nomatch z) (W.no_g n) fa hb,Same.refl _,aaj,.nil,W.no_g n,j0,by simp[pick,aai],λj s e=>?_⟩
  obtain⟨i,t,hs,ht,hp⟩:=agi e
  obtain⟨v,hv,q⟩:=W.sl i t ht
  refine⟨v,amt hs hv,?_⟩
  cases t with
  |st d=>cases hp;exact .inl ⟨d,rfl,q.1⟩
  | scr ns =>
   cases hp
   obtain⟨⟨a,ea,sq⟩,_⟩:=q
   exact .inr ⟨ns,a,rfl,ea,sq⟩
  |own A=>cases hp;rcases jc _ _ _ j0 j _ e with ⟨d,z⟩|⟨ns,z⟩ <;> cases z
  |io A=>cases hp;rcases jc _ _ _ j0 j _ e with ⟨d,z⟩|⟨ns,z⟩ <;> cases z
 ·rintro i m ys σI H2 ⟨rfl,hi,f,e,D,M,w,P,ry,Z,jv,ln,sl⟩
  by_cases hlt:i<ds.length
  ·refine .inr ⟨it.go i f H2 w M.gh hlt,Wv (Jv (i+1)),λc0 b5 H' hw=>⟨ds.length-(i+1),by lia,rfl,hlt,hw⟩,λx H3 y=>?_⟩
   obtain⟨l,o⟩:=it.yld i f H2 x H3 _ w M.gh M.ft (aA0 hlt) y
   obtain⟨U,a3,b3⟩:=step M Z P o
   have E3:=akf (K:=B.K) U.gh U.ft ln (sl.same o.gg)
   refine js i _ D e (aA0 hlt) jv (bsC B.K l H3 σI) rfl σI l H3 _ x _ _ E3 (aen o.ok.1) λr S T F4 e4 E g4 q4=>?_
   refine q4 r S T F4 _ E λb G5 H5 F5 e5 I5 g5 q5=>?_
   have a6:=ry.same (o.gg.trans (g4.trans g5))
   have s5:=w.trans (o.gg.trans (g4.trans g5))
   cases b with
   | false =>
    rw[aF7 aB0] at q5 ⊢
    obtain⟨K5,b8,b9⟩:=leave U a3 b3 I5
    exact⟨G5,e5,D,K5,s5,b9,a6,b8,q5,I5.ln,aiu I5 (jc _ _ _ q5)⟩
   | true =>
    rw[aF6 rfl] at q5 ⊢
    refine q5 r G5 H5 F5 _ I5 λJ2 G6 H6 F6 p e6 I6 g6 R ⟨Jw,w0,wc,ws,wd⟩=>?_
    obtain⟨K6,b6,c1⟩:=leave U a3 b3 I6
    have s6:=s5.trans g6
    let Wi:Nat->List V->St->Hp->Prop:=λj ys σI H=>∃ f e D,VI B f H σ C L/\Same G6 f/\H c=some (.lst ys)/\Rps f ys D/\f c=none/\Jw j D e/\σI.length=e.length/\Sls B.K f σI e
    refine⟨λj m ys σI H=>m=p.length-j/\j<=p.length/\Wi j ys σI H,⟨p.length,by simp,aG1 _,G6,e6,D,K6,Same.refl _,c1,a6.same g6,b6,w0,I6.ln,aiu I6 (wc _ _ _ w0)⟩,?_⟩
    rintro j m zs a0 H7 ⟨rfl,hj,G7,e7,zd,Y,X,O,rz,a4,jw,a2,a5⟩
    refine⟨O,?_⟩
    by_cases hlt2:j<p.length
    ·refine .inr ⟨R.go j G7 H7 X Y.gh hlt2,Wi (j+1),λc0 b5 H' hw=>⟨p.length-(j+1),by lia,rfl,hlt2,hw⟩,λx2 H8 y2=>?_⟩
     obtain⟨G8,o2⟩:=R.yld j G7 H7 x2 H8 _ X Y.gh Y.ft (aA0 hlt2) y2
     obtain⟨I8,b2,a1⟩:=step Y a4 O o2
     have E8:=akf (K:=B.K) I8.gh I8.ft a2 (a5.same o2.gg)
     refine ws j _ zd e7 (aA0 hlt2) jw (bsC B.K G8 H8 a0) rfl a0 G8 H8 _ x2 _ _ E8 (aen o2.ok.1) λa7 G9 H9 F9 e9 I9 g9 q9=>?_
     refine q9 a7 G9 H9 F9 _ I9 λb GA HA FA eA IA gA qA=>?_
     cases b with
     | false =>
      rw[aF7 aB0] at qA ⊢
      obtain⟨KA,b7,c2⟩:=leave I8 b2 a1 IA
      have sA:=o2.gg.trans (g9.trans gA)
      exact⟨GA,eA,zd,KA,X.trans sA,c2,rz.same sA,b7,qA,IA.ln,aiu IA (wc _ _ _ qA)⟩
     | true =>
      rw[aF6 rfl] at qA ⊢
      refine qA a7 GA HA FA _ IA λyv GB HB FB dB eB IB gB rB ⟨lB,qB⟩=>?_
      obtain⟨KB,a8,b4⟩:=leave I8 b2 a1 IB
      have sB:=o2.gg.trans (g9.trans (gA.trans gB))
      have b1:=rz.same sB
      refine⟨b4,by rw[b1.length];exact aE4 lB (by decide),GB,eB,zd++[dB],KB.aside (λ_ z=>nomatch z) a8 fa hb,X.trans sB,aaj,b1.append (.cons rB .nil),a8,qB,IB.ln,aiu IB (wc _ _ _ qB)⟩
    ·have ej:j=p.length:=by lia
     subst ej
     refine .inl ⟨R.stop _ G7 H7 X Y.gh rfl,G7,e7,zd,Y,s6.trans X,O,rz,a4,wd _ _ jw,a2,a5⟩
  ·have ei:i=ds.length:=by lia
   subst ei
   refine .inl ⟨it.stop _ f H2 w M.gh rfl,?_⟩
   refine k (.ref c) f H2 L (· = c) (.own (OL D)) C M (g1.trans w) ⟨⟨c,ys,rfl,P,ry,λb=>Iff.rfl⟩,λa z=>by rw[z];exact hb,λa z=>by rw[z];exact Z,λa z=>by rw[z];exact⟨_,P⟩,λj a z=>by rw[z];exact fa j⟩ (jd _ _ jv)
end
theorem aa6{o:Option PyData}{e:En}(h:ad2 e):ad2 (stO o::e):=λj s es=>by
 cases j with
 | zero =>
  cases o with
  |none=>simp[stO] at es
  | some d =>
   have:s=.st d:=by simpa[stO] using es.symm
   exact .inl ⟨d,this⟩
 |succ j=>exact h j s (by simpa using es)
theorem avn{α β:Type}{K:Frag}{src:List (Option Nat)}{g:En}{u:TI}{l:TT}{te:TE}{R:List PyData->Prop}{xs:List α}{c : α->PyData}(a : α->List β)(p : β->PyData)(f : α->β->PyData)(q : α->β->Bool)(W:ad2 (aai src g))
  (hl:(xs.flatMap λx=>((a x).filter (q x)).map (f x)).length<=999999)
  (h1:∀ x∈xs,∀ n:Bs,n.K=K->∀ o,EvI n u (some (.st (c x))::stO o::aai src g) λw D=>w=(a x).map p/\D=some (.st (c x))::stO o::aai src g)
  (h2:∀ x∈xs,∀ y∈a x,∀ n:Bs,n.K=K->EvT n l (some (.st (c x))::some (.st (p y))::aai src g) λb e6=>b=q x y/\e6=some (.st (c x))::some (.st (p y))::aai src g/\(b=true->Ev n te (some (.st (c x))::some (.st (p y))::aai src g) λz e7=>z=f x y/\e7=some (.st (c x))::some (.st (p y))::aai src g))
  (Z:R (xs.flatMap λx=>((a x).filter (q x)).map (f x))):LcV2 K (none::none::src) (aar 0) tYes u (aar 1) l te (xs.map c) g R:=by
 refine⟨λi ys e=>ys=(xs.take i).flatMap (λx=>((a x).filter (q x)).map (f x))/\∃ o o',e=stO o::stO o'::aai src g,⟨by simp,none,none,rfl⟩,?_,?_,?_⟩
 ·rintro i ys e ⟨_,o,o',rfl⟩
  exact aa6 (aa6 W)
 ·rintro i d ys e hd ⟨rfl,o,o',rfl⟩ n hB
  rw[aA5] at hd
  cases hx:xs[i]? with
  |none=>rw[hx] at hd;cases hd
  | some x =>
   rw[hx] at hd
   cases hd
   have C:=aA2 hx
   have U:xs.take (i+1)=xs.take i++[x]:=by rw[aH5,hx];rfl
   have P:((xs.take (i+1)).flatMap (λx=>((a x).filter (q x)).map (f x))).length<=999999:=by
    refine aD0 ?_ hl
    conv=>rhs;rw[← aC1 (i+1) xs,List.flatMap_append,aB1]
    exact Nat.le_add_right _ _
   refine aap (abx ?_)
   rw[aF6 rfl]
   show EvI n u (some (.st (c x))::stO o'::aai src g) _
   intro σ G H F Q I k
   refine h1 x C n hB o' σ G H F Q I λJ G' H' B w D E g' L ⟨S,r⟩=>k J G' H' B w D E g' L ?_
   subst S r
   refine⟨λj m e=>m=(xs.take i).flatMap (λx=>((a x).filter (q x)).map (f x))++(((a x).take j).filter (q x)).map (f x)/\∃ o',e=some (.st (c x))::stO o'::aai src g,⟨by simp,o',rfl⟩,?_,?_,?_⟩
   ·rintro j m e ⟨_,s,rfl⟩
    exact aa6 (o:=some (c x)) (aa6 W)
   ·rintro j d2 m e h ⟨rfl,s,rfl⟩ X N
    rw[aA5] at h
    cases hy:(a x)[j]? with
    |none=>rw[hy] at h;cases h
    | some y =>
     rw[hy] at h
     cases h
     have A:(a x).take (j+1)=(a x).take j++[y]:=by rw[aH5,hy];rfl
     refine aap ?_
     show EvT X l (some (.st (c x))::some (.st (p y))::aai src g) _
     intro σ G H F Q I k
     refine h2 x C y (aA2 hy) X N σ G H F Q I λb G' H' B e3 E g' ⟨hb,Y,hq⟩=>k b G' H' B e3 E g' ?_
     subst Y
     by_cases hp:b=true
     ·rw[aF6 hp]
      intro σ G H F Q I k
      refine hq hp σ G H F Q I λv G' H' B d' D E g' r' ⟨T,r⟩=>k v G' H' B d' D E g' r' ?_
      subst T r
      have M:q x y=true:=by rw[← hb];exact hp
      refine⟨?_,?_,some (p y),rfl⟩
      ·refine aD0 ?_ P
       rw[U,List.flatMap_append,aB1,aB1]
       refine Nat.add_le_add_left ?_ _
       simp only[List.flatMap_cons,List.flatMap_nil,aF1,aA3]
       exact(List.Sublist.filter (q x) (List.take_sublist j (a x))).length_le
      ·rw[A,List.filter_append,aE5,← aB4]
       simp[M]
     ·rw[aF7 hp]
      have O:q x y=false:=by rw[← hb];simpa using hp
      refine⟨?_,some (p y),rfl⟩
      rw[A,List.filter_append,aE5]
      simp[O]
   ·rintro m e ⟨rfl,s,rfl⟩
    refine⟨?_,some (c x),s,rfl⟩
    rw[U,List.flatMap_append]
    simp
 ·rintro ys e ⟨rfl,o,o',rfl⟩
  rw[aA3,aG9]
  exact Z
section
variable{B:Bs}{env:En}{Q':PyData->En->Prop}{QO:Sl->En->Prop}{c:TT}{ta tb:TE}
theorem ays(h:EvT B c env λb e=>if b=true then EvO B ta e QO else EvO B tb e QO):EvO B (tIf c ta tb) env QO:=λσ G H F Q I k =>
 h σ G H F _ I λb n l j o m i q=>by
  cases b with
  |true=>rw[aF6 rfl] at q ⊢;exact q σ n l j Q m λv G' H' a Fv d e f g r z=>k v G' H' a Fv d e f (i.trans g) r z
  |false=>rw[aF7 aB0] at q ⊢;exact q σ n l j Q m λv G' H' a Fv d e f g r z=>k v G' H' a Fv d e f (i.trans g) r z
end
def a07(e:En):Bool:=e.all λo=>match o with|some (.own _)=>false|some (.io _)=>false|_=>true
theorem akg{e:En}(h:a07 e=true):ad2 e:=λj s es=>by
 have:=aF5.mp h (some s) (aA2 es)
 cases s with
 |st d=>exact .inl ⟨d,rfl⟩
 |scr ns=>exact .inr ⟨ns,rfl⟩
 |own A=>simp at this
 |io A=>simp at this
end VL
namespace VL
open PySem PySem.Spec L2 PyProof.Rows
theorem aff{G:Hp}:∀{vs:List V}{ds:List PyData}{i:Nat}{v:V}{d:PyData},Rps G vs ds->vs[i]?=some v->ds[i]?=some d->Rp G v d
 |_,_,0,_,_,.cons r _,e1,e2=>by simp at e1 e2;subst e1 e2;exact r
 |_,_,i+1,_,_,.cons _ t,e1,e2=>aff t (i:=i) (by simpa using e1) (by simpa using e2)
theorem avo{K:Frag}{ds:List PyData}{R:Sl->Prop}(h:∀ d∈ds,∀ e∈ds,cmpD d e=true)(g:∀ d∈ds,aaq d=true/\d.depth<=60)(l:ds=[]->R (.st .none))(j:∀ d,ds[argBest (HT.btD ds) (ds.length-1)]?=some d->R (.st d)):OpA (aqj K) [.list ds] R:=λG H vs Q gh rs k=>by
 cases rs with
 | cons r t =>
  cases t
  cases r with
  | @lst a xs ds ha ra =>
   have f:=ra.length
   refine⟨a,xs,ds,rfl,SqL.of (gh _ _ ha),f,λi v d c b=>((aff ra c b).rep (g d (aA2 b)).1).same gh,h,g,λe=>?_,λv c=>?_⟩
   ·exact k _ _ _ _ _ (Out.refl gh .non) (l (aJ0.mp (by rw[← f,e];rfl)))
   ·rw[f] at c
    have hi:=(aA1.mp c).1
    have b:ds[argBest (HT.btD ds) (ds.length-1)]?=some (ds[argBest (HT.btD ds) (ds.length-1)]'(by lia)):=aA0 (by lia)
    exact k _ _ _ _ _ (Out.refl gh (aff ra c b)) (j _ b)
theorem apn{bt:Nat->Nat->Bool}:∀(m:Nat),argBest bt m<=m
 |0=>aA6 _
 | m+1=>by
  have:=apn (bt:=bt) m
  simp only[argBest]
  split <;> lia
theorem apo{bt:Nat->Nat->Bool}{n:Nat}(a:∀ i,i<n->bt i i=false)(tr:∀ i j k,i<n->j<n->k<n->bt i j=true->bt j k=true->bt i k=true):∀(m:Nat),m<n->∀ i,i<=m->bt i (argBest bt m)=false
 | 0,hm,i,hi=>by
  have:i=0:=by lia
  subst this;exact a 0 hm
 | m+1,hm,i,hi=>by
  have b:=apo a tr m (by lia)
  have hb:=apn (bt:=bt) m
  simp only[argBest]
  by_cases h:bt (m+1) (argBest bt m)=true
  ·rw[aF6 h]
   by_cases hi':i=m+1
   ·subst hi';exact a _ hm
   ·cases e:bt i (m+1) with
    |false=>rfl
    | true =>
     have:=tr i (m+1) (argBest bt m) (by lia) hm (by lia) e h
     rw[b i (by lia)] at this;cases this
  ·rw[aF7 h]
   by_cases hi':i=m+1
   ·subst hi';simpa using h
   ·exact b i (by lia)
abbrev Z3:=Int × (Int × Int)
@[reducible] def z3D (z:Z3):PyData:=.tuple [.int z.1,prD z.2]
def lt3(y z:Z3):Prop:=y.1<z.1\/(y.1=z.1/\ltP y.2 z.2)
theorem ayt(z:Z3):¬ lt3 z z:=by
 rintro(h|⟨_,h⟩)
 ·lia
 ·exact adq _ h
theorem a08{x y z:Z3}(h:lt3 x y)(g:lt3 y z):lt3 x z:=by
 rcases h with h|⟨h,h'⟩ <;> rcases g with g|⟨g,g'⟩
 ·exact .inl (by lia)
 ·exact .inl (by lia)
 ·exact .inl (by lia)
 ·exact .inr ⟨by lia,aip h' g'⟩
theorem a09(y z:Z3):ltv (z3D y) (z3D z)=true ↔ lt3 y z:=by
 obtain⟨a,b,c⟩:=y
 obtain⟨d,e,f⟩:=z
 simp only[z3D,prD,ltv,ltvs,PyData.eqv,lt3,ltP]
 by_cases h1:a=d <;> by_cases h2:b=e <;> by_cases h3:c=f <;> simp[h1,h2,h3,ltv,ltvs,PyData.eqv,PyData.eqvAll] <;> lia
theorem z3_ok{a:List Z3}:(∀ d∈a.map z3D,∀ e∈a.map z3D,cmpD d e=true)/\∀ d∈a.map z3D,aaq d=true/\d.depth<=60:=by
 refine⟨λd hd e b=>?_,λd hd=>?_⟩
 ·obtain⟨y,_,rfl⟩:=aB7.mp hd
  obtain⟨z,_,rfl⟩:=aB7.mp b
  simp[cmpD,cmpDs]
 ·obtain⟨y,_,rfl⟩:=aB7.mp hd
  exact⟨rfl,by simp[PyData.depth,PyData.depthAll]⟩
theorem ayv{c:List Z3}{d:PyData}(f:(c.map z3D)[argBest (HT.btD (c.map z3D)) ((c.map z3D).length-1)]?=some d):∃ z∈c,d=z3D z/\∀ y∈c,¬ lt3 y z:=by
 have g:∀ i j,i<c.length->j<c.length->(HT.btD (c.map z3D) i j=true ↔ lt3 (c.getD i (0,0,0)) (c.getD j (0,0,0))):=λi j hi m=>by
  rw[← a09]
  unfold HT.btD
  rw[aD4,aD4,aD4,aD4,aA5,aA5,aA0 hi,aA0 m]
  simp
 rw[aA3] at f
 generalize hk:argBest (HT.btD (c.map z3D)) (c.length-1)=b at f
 rw[aA5] at f
 cases ez:c[b]? with
 |none=>rw[ez] at f;cases f
 | some z =>
  rw[ez] at f
  cases f
  have hb:=(aA1.mp ez).1
  refine⟨z,aA2 ez,rfl,λy p o=>?_⟩
  obtain⟨i,hi,q⟩:=aH7.mp p
  have l:=apo (bt:=HT.btD (c.map z3D)) (n:=c.length) (λi hi=>by
    cases e:HT.btD (c.map z3D) i i with
    |false=>rfl
    |true=>exact absurd ((g i i hi hi).mp e) (ayt _)) (λi j k hi m h a b=>(g i k hi h).mpr (a08 ((g i j hi m).mp a) ((g j k m h).mp b))) (c.length-1) (by lia) i (by lia)
  rw[hk] at l
  have:HT.btD (c.map z3D) i b=true:=(g i b hi hb).mpr (by
   rw[aD4,aD4,ez,aA0 hi]
   simpa[q] using o)
  rw[l] at this;cases this
theorem avp{K:Frag}{a:List Z3}{R:Sl->Prop}(b:a=[]->R (.st .none))(f:∀ z∈a,(∀ y∈a,¬ lt3 y z)->R (.st (z3D z))):OpA (aqj K) [.list (a.map z3D)] R :=
 avo z3_ok.1 z3_ok.2 (λe=>b (by simpa using e)) λd c=>by
  obtain⟨z,hz,rfl,hm⟩:=ayv c
  exact f z hz hm
end VL
namespace VL
open PySem PySem.Spec L2
section
variable{B:Bs}{env:En}{QO:Sl->En->Prop}{i:Nat}
end
section
variable{X:Cx}
end
section
variable{R:Sl->Prop}
end
end VL
namespace L2
open PySem PySem.Spec PyProof.Rows
def isV(k:Int):Value->Bool
 | .int a _=>decide (a=k)
 |_=>false
theorem am1{ns:List Int}{us:List Value}(r:Vals (ns.map V.int) us)(k:Int):∀ i (h:i<us.length) (h':i<ns.length),isV k us[i]=decide (ns[i]=k):=by
 induction ns generalizing us with
 |nil=>intro i h h';simp at h'
 | cons n ns ih =>
  rw[aD1] at r
  cases r with
  | cons r1 r2 =>
   obtain⟨t,e⟩:=r1
   subst e
   intro i h h'
   cases i with
   |zero=>rfl
   |succ i=>exact ih r2 i (by simpa using h) (by simpa using h')
theorem aqw{ns:List Int}{us:List Value}(r:Vals (ns.map V.int) us)(k:Int)(t:Tok):∀ y∈us,MeetsSeq.EqGives y (.int k t) (isV k y):=by
 induction ns generalizing us with
 |nil=>rw[List.map_nil] at r;cases r;intro y a;simp at a
 | cons n ns ih =>
  rw[aD1] at r
  cases r with
  | cons r1 r2 =>
   obtain⟨u,e⟩:=r1
   subst e
   intro y a
   rcases aA9.mp a with rfl|a
   ·exact MeetsSeq.EqGives.int n k u t
   ·exact ih r2 y a
section
variable{X:Cx}
def as7:V->List V->Hp->VK->Prop:=λx vs H Q=>∃(l:Addr)(ns:List Int)(k:Int)(j:Nat),x=.ref l/\vs=[.int k]/\H l=some (.lst (ns.map V.int))/\ns[j]?=some k/\(∀ m,m<j->ns[m]? ≠ some k)/\Q (.int j) H
theorem am2:MtM X "list.index" as7:=by
 intro pins s σ H x vs v us Q I B o h
 obtain⟨l,ns,k,j,rfl,rfl,g,A,c,q⟩:=h
 cases B
 obtain⟨u,rfl,w⟩:=o.one
 obtain⟨t,rfl⟩:=w
 obtain⟨z,its,n,r,p,e⟩:=I.lstM g
 rw[aA3] at p z
 obtain⟨f,b⟩:=aA1.mp A
 have hz:sizeLine<2 ^ 62:=by decide
 refine call_meets F.slot_list_index ⟨_,e,rfl⟩ F.entry_list_index (F.args_list_index_2 _ _)
  (MeetsSeq.list_index l its.toArray n (.int k t) (isV k) (λy i=>aqw r k t y (by simpa using i)) j (by rw[aB2];lia) (by lia) ?_ (λm hm d=>?_)) ⟨e,?_⟩
 ·rw[List.getElem_toArray,am1 r k j (by lia) f,aD8 b]
 ·have a:m<ns.length:=by lia
  rw[List.getElem_toArray,am1 r k m (by lia) a]
  exact aD7 λe=>c m d (by rw[aA0 a,e])
 ·exact⟨.int j,H,I.tok _,⟨_,rfl⟩,q⟩
variable{e est:Expr}{te:TE}{ts:TO}{pos p2:Pos}
end
end L2
namespace VL
open PySem PySem.Spec L2
section
variable{B:Bs}{env:En}{QO:Sl->En->Prop}{Q':PyData->En->Prop}{te tl:TE}{ts:TO}{K:Frag}{i:Nat}
theorem avq(h:Ev B tl env λx g=>∃ ns:List Int,x=.list (ns.map .int)/\Ev B te g λy b=>∃(k:Int)(j:Nat),y=.int k/\ns[j]?=some k/\(∀ m,m<j->ns[m]? ≠ some k)/\Q' (.int j) b):Ev B (tBM K "list" as7 tl (acd te tNil)) env Q':=λσ G H F Q I k =>
 h σ G H F _ I λv J A r d g i p M o=>by
  obtain⟨ns,s,L⟩:=o
  subst s
  cases M with
  | @lst a vs _ ha rs =>
   have E:vs=ns.map V.int:=rs.ints_inv
   subst E
   refine⟨.inl ⟨rfl,_,SqL.of (i.gh _ _ ha)⟩,L σ J A r _ i λu n H2 F2 y b l f z ⟨c,j,C,D,w,q⟩=>?_⟩
   subst C
   cases z
   exact⟨a,ns,c,j,rfl,rfl,l.gh _ _ (f _ _ ha),D,w,k _ n H2 F2 _ b l (p.trans f) (.int _) q⟩
end
theorem ag6{α:Type} [DecidableEq α]:∀{as bs:List α},as.Nodup->(∀ a∈as,a∈bs)->as.length<=bs.length
 |[],_,_,_=>aG1 _
 | a::as,bs,hn,hs=>by
  have ha:a∈bs:=hs a (aB8 ..)
  have b:=aI5.mp hn
  have h:=ag6 (bs:=bs.erase a) b.2 λx c=>(List.mem_erase_of_ne (show x ≠ a from λe=>b.1 (by rw[← e];exact c))).mpr (hs x (aB5 _ c))
  rw[List.length_erase_of_mem ha] at h
  have:0<bs.length:=List.length_pos_of_mem ha
  simp only[aE6]
  lia
structure But(n:Int)(es rem:List (Int × Int)):Prop where
 rise:Rise es
 inn:∀ p∈es,0<=p.1/\p.1<p.2/\p.2<n
 all:∀ p:Int × Int,0<=p.1->p.1<p.2->p.2<n->p∈es\/p∈rem
end VL
namespace L2
open PySem PySem.Spec PyProof.Rows PySem.W
theorem arr0(x:Value)(more:Array Value):(#[x]++more)[0]?=some x:=by
 rw[Array.getElem?_append_left (Nat.zero_lt_succ 0)];rfl
theorem aqx{pos d:Pos}{c f:Value}:∀(l:List Value),TriplesOk l->codeAmong d (l++[rawInt pos.line,rawInt pos.col,c])=some f->codeAmong d l=some f\/f=c:=by
 intro l h e
 fun_induction TriplesOk l with
 | case1 =>
  simp only[List.nil_append,codeAmong,rawInt] at e
  split at e
  ·exact .inr (aC6 e).symm
  ·cases e
 | case2 a t b u x rest ih =>
  simp only[List.cons_append,codeAmong] at e ⊢
  split at e
  ·rename_i hc;rw[aF6 hc];exact .inl e
  ·rename_i hc;rw[aF7 hc];exact ih h e
 |case3 l h1 h2=>exact h.elim
def LamH(P:Addr)(H H':Hp):Prop:=H'=H\/∃ c,H c=none/\H'=upd H c (.own P)
theorem LamH.same{P:Addr}{H H':Hp}(l:LamH P H H'){a:Addr}{o:HO}(e:H a=some o):H' a=some o:=by
 rcases l with rfl|⟨c,n,rfl⟩
 ·exact e
 ·rw[aaf (aam e n)];exact e
section
variable{X:Cx}{pins:List (Addr × Obj)}{σ:St}{H:Hp}{s:Shared}{c P:Addr}
theorem avr{A:Around}{E:Value->Shared->Prop}{Q:Value->Shared->Prop}{a:Arguments}{body:Expr}{scope:Scope}{pos:Pos}(I:Inv X pins σ H s)(ht:tabIn X.K lamN=some (c,P))(hC:codeHdIn X.K c P=true)
  (j:X.env.code=.ref c) (hq:X.env.qual ++ "<lambda>" = lamQ) (N:closureFor scope X.env=pure []) (L:defaultsOf a X.env=([],[]))
  (h:∀ f g pm l H' s',Inv X pins σ H' s'->LamH P H H'->s'.heap.get? f=some (kla_obj "<lambda>" lamQ a body scope [] pm g l)->s'.heap.CodeRec (.ref g) lamQ->Q (.ref f) s') :
  wpAny (model X.prog X.w) A (eval (.Lambda a body scope pos) X.env) Q E s:=by
 refine kla_eval L ?_
 rw[hq]
 obtain⟨more,J⟩:=I.tab c P ht
 obtain⟨ps,T,p,F⟩:=I.hok P _ J
 have C:CodeHd s.heap c P:=codeHd_of_K I.kIn hC
 have W:s.heap.Ns mainGlobals X.mg:=I.mod.glob.keeps I.bk
 obtain⟨Z,ob,b1,b2,b3,b4,b5,b6⟩:=I.mod.bmain
 have m:=I.bk Z ob b3
 have a2:mainGlobals ≠ P:=λq=>by
  obtain⟨o,es,ep,e,hd,_⟩:=W
  rw[q,T] at e;cases e;cases hd
 have a0:Z ≠ P:=λq=>by
  rw[q,T] at m;cases m;cases b4
 have a3:Z ≠ mainGlobals:=λq=>by
  obtain⟨o,es,ep,e,hd,_⟩:=W
  rw[q,e] at m;cases m;rw[hd] at b6;cases b6
 have hB:s.heap.BuiltinsAt X.mg P:=⟨Z,ob,b1,b2,a3,a0,m,b4,b5,b6⟩
 cases hf:codeAmong pos ps.toList with
 | some cv =>
  obtain⟨g,oc,vs,q,t,t',rfl,e2,R,S,Y,B⟩:=F pos cv hf
  have a1:q=lamQ:=by
   have e7:(#[Value.str lamQ 0]++more)[0]?=some (Value.str lamQ 0):=arr0 _ _
   rw[e7] at B
   injection B with B
   injection B with B _
   exact B.symm
  subst a1
  refine kla_makeFunctionHit (mg:=X.mg) N I.ok.glob W j C T p hf hB λl h' tk y hsz=>?_
  refine h _ g _ l H _ (I.kept λb u e=>aJ3 _ (y b u e)) (.inl rfl) (aJ5 _ rfl) ?_
  exact⟨g,oc,vs,t,rfl,aJ3 _ (y _ _ R),S,Y⟩
 | none =>
  refine kla_makeFunction (mg:=X.mg) N I.ok.glob W j C T p hf a2 hB λg l h' tk hx O a4 G M=>?_
  have hn:H g=none:=I.hok.fresh O
  have nP:∀ b,H b=none->b ≠ P:=λb n z=>by rw[z,J] at n;cases n
  have y:∀ b o,b ≠ P->s.heap.get? b=some o->∀ x,(h'.push x).get? b=some o:=λb o nb e x=>aJ3 _ (hx b o nb e)
  obtain⟨c2,oc,vs,t,ec,R,S,Y⟩:=G
  cases ec
  have un:∀ x,Un X.fs [] H (upd H g (.own P)) s.heap (h'.push x):=λx=>by
   refine⟨λb o e n _ _=>y b o (nP b n) e x,λb o e n _ _=>⟨o.slots,y b o (nP b n) e x⟩,λb o e n _=>?_,λb o e _=>?_,λb xs e=>?_,λb o u e=>?_,λb gs e=>⟨#[],?_⟩⟩
   ·rw[aaf (aB6 (aC5 (aJ4 e) O))];exact n
   ·by_cases z:b=P
    ·subst z;exact⟨_,aJ3 _ M⟩
    ·exact⟨o,y b o z e x⟩
   ·rw[aaf (aam e hn)];exact e
   ·rw[aaf (aam e hn)];exact e
   ·rw[aaf (aam e hn),e];simp
  have hok:∀ x,HOk X.prog X.w (upd H g (.own P)) (h'.push x):=λx b u e=>by
   by_cases z:b=g
   ·subst z;rw[aaj] at e;cases e
    exact⟨oc,aJ3 _ R⟩
   ·rw [aaf z] at e
    by_cases z2:b=P
    ·subst z2
     rw[J] at e;cases e
     refine⟨_,aJ3 _ M,?_,λD cv i=>?_⟩
     ·rw[aG7]
      exact TriplesOk_snoc _ _ _ _ p
     ·rw[aG7] at i
      rcases aqx _ p i with i|i
      ·obtain⟨d,od,vd,q,t1,t2,r1,U,r3,r4,r5,r6⟩:=F D cv i
       refine⟨d,od,vd,q,t1,t2,r1,?_,y d od (λz3=>?_) r3 x,r4,r5,r6⟩
       ·rw[aaf (aam U hn)];exact U
       ·rw[z3,J] at U;cases U
      ·exact⟨g,oc,vs,lamQ,t,0,i,aaj,aJ3 _ R,S,Y,arr0 _ _⟩
    ·refine(I.hok b u e).stay (λd v hd r=>y d v ?_ r x) (λd r=>by rw[aaf (aam r hn)];exact r) λd xs r=>by rw[aaf (aam r hn)];exact r
     rcases hd with rfl|hd
     ·exact z2
     ·intro z3;rw[z3,J] at hd;cases hd
  refine h _ g _ l (upd H g (.own P)) _ (I.un (un _) (hok _)) (.inr ⟨g,hn,rfl⟩) (aJ5 _ rfl) ?_
  exact⟨g,oc,vs,t,rfl,aJ3 _ R,S,Y⟩
theorem avs{prog:Program}{w:World}{A:Around}{E:Value->Shared->Prop}{Q:Value->Shared->Prop}{s:Shared}{env:Env}{x:Str}{m:Str->Option Value}{b:Addr}{its:List Value}{u:Value}{j:Nat}{f p2 i:Pos}
  (d:env.scope.kind=.function) (g:env.kindOf x=some .local) (hn:s.heap.Ns env.locals m) (hm:m x=some (.ref b)) (c:IsTup s.heap b its.toArray) (a:its[0]?=some u)
  (hd:(x == ("__debug__" : Str))=false) (h:∀ l,Q u { s with toks:=l }) :
  wpAny (model prog w) A (eval (.Subscript (.Name x f) (.Constant (.int 0) j p2) i) env) Q E s:=by
 refine Subscript_ (wpAny_Name (wpAny_loadName_local d g hn hm ?_) hd)
 refine wpAny_Constant_int ?_
 have n:0<its.length:=(aA1.mp a).1
 exact subscriptTail_builtinR (x:=u) (IsTup.typeIs (s:={ s with toks:=_ }) c) slot_tuple_getitem.lookup
  (getItem_tuple (j:=0) (Q:=λr s'=>r=u/\Q r s') c (by decide) (by decide) (by rw[aB2];exact seqIndex_of (by decide) (by lia)) (by simpa using a) ⟨rfl,h _⟩) (by with_unfolding_all rfl)
abbrev lamBody(x:Str)(j:Nat)(p1 p2 p3:Pos):Expr:=.Subscript (.Name x p1) (.Constant (.int 0) j p2) p3
theorem avt{prog:Program}{w:World}{A:Around}{E:Value->Shared->Prop}{Q:Value->Shared->Prop}{s:Shared}{f p b:Addr}{c:Arguments}{scope:Scope}{pm l:Value}{x:Str}{its:List Value}{u:Value}{j:Nat}{C p2 F:Pos}
  (M:A.depth<recursionLimit) (hf:s.heap.get? f=some (kla_obj "<lambda>" lamQ c (lamBody x j C p2 F) scope [] pm p l)) (I:s.heap.CodeRec (.ref p) lamQ) (J:s.heap.NoLimit)
  (i:∀ v,bindArgs (kla_fn "<lambda>" lamQ c (lamBody x j C p2 F) scope [] pm (.ref p) l) ⟨[v],[]⟩=pure [(x,v)]) (D:scope.names.lookup x=some .local)
  (q:scope.isCoroutine=false) (m:scope.isGenerator=false) (B:scope.kind=.function) (g:∀ y∈scope.names,y.2 ≠ .cell) (hd:(x == ("__debug__" : Str))=false)
  (L:IsTup s.heap b its.toArray) (K:its[0]?=some u) (h:∀ h' G,(∀ d o,s.heap.get? d=some o->h'.get? d=some o)->Q u { s with heap:=h',toks:=G }) :
  wpAny (model prog w) A (call (.ref f) [.ref b]) Q E s:=by
 refine wpAny_call (kla_callFunE M hf rfl q m rfl I ?_)
 rw[i]
 refine aJ2 (wpAny_newFunctionEnv g (λy H=>?_) (λn r z=>?_) B)
 ·rw[aC2.mp H];exact D
 ·have a:∀ b o,s.heap.get? b=some o->n.get? b=some o:=λb o e=>z.extBut b o (aB6 (aJ4 e)) (aJ3 _ e)
  refine⟨J.keeps a,kla_codeExpr ?_⟩
  exact avs (b:=b) (its:=its) (u:=u) B D r (by simp) (L.keeps a) K hd λG=>h _ _ a
def adr(ks:List Int)(i:Nat):Prop:=∀ j,j<ks.length->ks.getD i 0<=ks.getD j 0/\(j<i->ks.getD i 0<ks.getD j 0)
def awr(K:Frag):List V->Hp->VK->Prop:=λxs H Q=>∃(a:Addr)(vs:List V)(ks:List Int),xs=[.ref a]/\SqL K H a vs/\vs.length=ks.length/\vs ≠ [] /\
 (∀(i:Nat) v k,vs[i]?=some v->ks[i]?=some k->∃ b r,v=.ref b/\SqT K H b (.int k::r))/\∀(P:Addr)(H':Hp) i v,vs[i]?=some v->adr ks i->LamH P H H'->Q v H'
theorem SqL.lam{K:Frag}{H':Hp}{a:Addr}{xs:List V}(l:LamH P H H')(h:SqL K H a xs):SqL K H' a xs:=by
 rcases h with (h|⟨o,h⟩)|h
 ·exact .inl (.inl (l.same h))
 ·exact .inl (.inr ⟨o,l.same h⟩)
 ·exact .inr h
theorem SqT.lam{K:Frag}{H':Hp}{a:Addr}{xs:List V}(l:LamH P H H')(h:SqT K H a xs):SqT K H' a xs:=by
 rcases h with (h|⟨o,h⟩)|h
 ·exact .inl (.inl (l.same h))
 ·exact .inl (.inr ⟨o,l.same h⟩)
 ·exact .inr h
theorem ayw{f M a:Addr}{c:Arguments}{scope:Scope}{pm U:Value}{x:Str}{j:Nat}{p1 p2 p3:Pos}{vs:List V}{ks:List Int}{Q:VK}(I:Inv X pins σ H s)(hh:X.A.handled=none)(hr:X.A.in1.depth<recursionLimit)
  (hf:s.heap.get? f=some (kla_obj "<lambda>" lamQ c (lamBody x j p1 p2 p3) scope [] pm M U)) (hc:s.heap.CodeRec (.ref M) lamQ)
  (E:∀ v,bindArgs (kla_fn "<lambda>" lamQ c (lamBody x j p1 p2 p3) scope [] pm (.ref M) U) ⟨[v],[]⟩=pure [(x,v)]) (hx:scope.names.lookup x=some .local)
  (a4:scope.isCoroutine=false) (O:scope.isGenerator=false) (hk:scope.kind=.function) (G:∀ y∈scope.names,y.2 ≠ .cell) (hd:(x == ("__debug__" : Str))=false)
  (hS:SqL X.K H a vs) (a5:vs.length=ks.length) (a3:vs ≠ []) (a0:∀(i:Nat) v k,vs[i]?=some v->ks[i]?=some k->∃ b r,v=.ref b/\SqT X.K H b (.int k::r))
  (hQ:∀ i v,vs[i]?=some v->adr ks i->Q v H) :
  wpAny (model X.prog X.w) X.A (call (.builtin "min") [.ref a] [(Str.ofString "key",.ref f)]) (EP X pins σ Q) X.xe s:=by
 obtain⟨its,rr,pl,_⟩:=I.list hS
 have J:its.length=vs.length:=rr.length.symm
 obtain⟨m,F⟩:=I.fr
 have N:=at3 (g:=X.base) (h:=s.heap) (L:=X.env.locals)
 have keep:∀(h:Heap)(own:List (Addr × Obj)),Fr X.base X.env.locals h m->News X.base X.env.locals h (ae7 X.base s.heap X.env.locals++own)->∀ b o,b ≠ X.env.locals->s.heap.get? b=some o->h.get? b=some o:=λh own B C b o nb e=>by
  cases q:X.base.get? b with
  | some u =>
   have e2:=I.bk b u q
   rw[e] at e2;cases e2
   exact B.keep b _ q
  |none=>exact(C (b,o) (aC7 _ (an2 nb q e))).1
 have W:∀ b o,s.heap.get? b=some o->(∀ es ep,o.data ≠ .dict es ep)->b ≠ X.env.locals:=λb o e nd z=>by
  obtain⟨o',es,ep,Y,d,_⟩:=F.ns
  rw[z,Y] at e;cases e;exact nd _ _ d
 have S:∀(h:Heap),(∀ b o,b ≠ X.env.locals->s.heap.get? b=some o->h.get? b=some o)->∀ b T,IsTup s.heap b T->IsTup h b T:=λh k b T ⟨o,e,a2,n,d⟩=>⟨o,k b o (W b o e λes ep z=>by rw[d] at z;cases z) e,a2,n,d⟩
 refine kmk_min (λi=>ks.getD i 0) hh F N (l:=a) (vs:=its) (λh B C=>?_) (by rw[J];exact aG0.mpr a3) (λi v R h tk own B C=>?_) λi v h' a6 R hb B C=>?_
 ·obtain⟨o,n,e,q1,q2,q3⟩:=pl
  have k:=keep h [] B (by rw[aF1];exact C)
  exact(PlainL.isList ⟨o,n,k a o (W a o e λes ep z=>by rw[q3] at z;cases z) e,q1,q2,q3⟩)
 ·have k:=keep h own B C
  have hi:i<vs.length:=by rw[← J];exact(aA1.mp R).1
  have ex:vs[i]?=some vs[i]:=aA0 hi
  have ek:ks[i]?=some (ks[i]'(by lia)):=aA0 (by lia)
  obtain⟨u,P,D⟩:=rr.get ex
  rw[R] at P;cases P
  obtain⟨b,r,eb,hT⟩:=a0 i _ _ ex ek
  rw[eb] at D
  cases D
  obtain⟨T,a1,tp,_⟩:=I.tuple hT
  obtain⟨u0,e0,r0⟩:=a1.get (i:=0) (x:=.int (ks[i]'(by lia))) rfl
  obtain⟨t0,rfl⟩:=r0
  obtain⟨c2,oc,vd,t2,ec,g1,g2,g3⟩:=hc
  cases ec
  refine avt (s:={ s with heap:=h,toks:=tk }) (b:=b) (its:=T) hr (k f _ (W f _ hf λes ep z=>by cases z) hf) ⟨M,oc,vd,t2,rfl,k M oc (W M oc g1 λes ep z=>by rw[g2] at z;cases z) g1,g2,g3⟩ (I.ok.mod.nolimit.keeps B.keep) E hx a4 O hk G hd (S h k b _ tp) e0 λh2 Z k2=>?_
  refine⟨h2,Z,t0,rfl,?_,⟨B.ns.keeps k2,λb o e=>k2 b o (B.keep b o e),B.above⟩,λp hp=>⟨k2 _ _ (C p hp).1,(C p hp).2⟩⟩
  simp[ek]
 ·have k:=keep h' [] B (by rw[aF1];exact C)
  have hi:i<vs.length:=by rw[← J];exact(aA1.mp R).1
  have ex:vs[i]?=some vs[i]:=aA0 hi
  obtain⟨u,P,D⟩:=rr.get ex
  rw[R] at P;cases P
  refine⟨vs[i],H,?_,D,hQ i _ ex λj hj=>hb j (by lia)⟩
  refine I.step (g':=s.gens) (d':=s.drawn) (ch:=[]) (λ_ z=>nomatch z) (λb o nb _ _ e _=>k b o nb e) (λb o nb _ _ e _=>⟨o.slots,k b o nb e⟩) (λ_ _ _ _ n=>n) (λb o _ e=>?_) (λ_ _ e=>e) (λ_ _ _ e=>e) (λb gs e=>⟨#[],by rw[e];simp⟩) (λm' hm=>?_) (λb u e=>?_) I.bare
  ·by_cases z:b=X.env.locals
   ·obtain⟨o',_,_,Y,_⟩:=B.ns
    exact⟨o',by rw[z];exact Y⟩
   ·exact⟨o,k b o z e⟩
  ·rw[hm.eq_nsMap,← F.ns.eq_nsMap];exact B.ns
  ·have nb:∀ d v,H d=some v->d ≠ X.env.locals:=λd v q z=>by rw[z,I.free] at q;cases q
   refine(I.hok b u e).stay (λd v hd r=>k d v ?_ r) (λ_ q=>q) λ_ _ q=>q
   rcases hd with rfl|hd
   ·exact nb _ _ e
   ·exact nb _ _ hd
variable{p pos kpos lpos p1 p2 p3:Pos}{e:Expr}{t:TA}{params:Arguments}{scope:Scope}{x:Str}{j:Nat}{k:Nat}
theorem ayx(hr:Room (k+1) X.A)(R:X.calm=true)(U:Gl X "min")(hm:X.mg "min" = none)(ha:PA X [e] t)(ht:tabIn X.K lamN=some (c,P))(hC:codeHdIn X.K c P=true)
  (m:X.env.code=.ref c) (hq:X.env.qual ++ "<lambda>" = lamQ) (z:closureFor scope X.env=pure []) (w:defaultsOf params X.env=([],[]))
  (g:∀ v pm L n,bindArgs (kla_fn "<lambda>" lamQ params (lamBody x j p1 p2 p3) scope [] pm (.ref L) n) ⟨[v],[]⟩=pure [(x,v)]) (T:scope.names.lookup x=some .local)
  (C:scope.isCoroutine=false) (q:scope.isGenerator=false) (N:scope.kind=.function) (d:∀ y∈scope.names,y.2 ≠ .cell) (hd:(x == ("__debug__" : Str))=false)
  (W:bootBuiltins "min" = some (.builtin "min"):=by decide +kernel)
  (O:backTo pos (starEach [e] X.env)=(false,eval e X.env)::backTo pos (starEach [] X.env):=by rfl)
  (G:(backTo pos (starEach [e] X.env)).any (·.1)=false:=by rfl) :
  PE X (.Call (.Name "min" p) [e] [⟨some "key",.Lambda params (lamBody x j p1 p2 p3) scope lpos,kpos⟩] pos) (tCB (awr X.K) t):=by
 intro pins s σ H Q I h
 refine wpAny_Call_Name_kw (acu I U hm W ?_ (by decide) (by decide))
 refine PyProof.Rows.callWith_kw (thn (ha pos pins s σ H _ I h) λus s1 ⟨vs,H1,Z,r1,q1⟩=>?_) O G
 obtain⟨a,xs,ks,rfl,Y,o,B,F,S⟩:=q1
 obtain⟨u,rfl,ru⟩:=acb r1
 cases ru
 show wpAny _ _ (evalAll [(do let v ← eval (.Lambda params (lamBody x j p1 p2 p3) scope lpos) X.env;standAt pos;pure v)]) _ _ s1
 refine wpAny_evalAll_cons (aJ1 (avr Z ht hC m hq z w λf L pm n H' s2 M l hf D=>aJ1 (wpAny_standAt (aJ2 ?_))))
 refine aJ2 ?_
 exact ayw M (M.ok.hd R) hr.in1.depth hf D (λv=>g v _ _ _) T C q N d hd (Y.lam l) o B (λi v k J E=>let ⟨b,r,e3,e4⟩:=F i v k J E;⟨b,r,e3,e4.lam l⟩) λi v J E=>S P H' i v J E l
end
def LamAt(K:Frag)(mg:Str->Option Value):Prop:=∃ f c P,mg lamN=some (.ref f)/\tabIn K lamN=some (c,P)/\codeHdIn K c P=true/\∀ oc od fd sl,K.lookup f=some ⟨oc,od,.func fd,sl⟩->fd.code=.ref c
theorem a1a{K:Frag}{mg:Str->Option Value}{h:Heap}{c P:Addr}(X:K.In h)(G:h.Ns mainGlobals mg)(a:tabIn K lamN=some (c,P))(b:codeHdIn K c P=true):LamAt K mg:=by
 have q:∃ f,nsIn K mainGlobals lamN=some (some (.ref f)):=by
  unfold tabIn at a
  split at a
  ·rename_i f hf;exact⟨f,hf⟩
  ·cases a
 obtain⟨f,hf⟩:=q
 have hm:=mg_of X G hf
 refine⟨f,c,P,hm,a,b,λoc od fd sl d=>?_⟩
 exact law_code X G a hm (X _ _ d) rfl
theorem LamAt.at{K:Frag}{mg:Str->Option Value}(L:LamAt K mg){f:Addr}{fd:FuncData}(hm:mg lamN=some (.ref f))(a:∃ oc od sl,K.lookup f=some ⟨oc,od,.func fd,sl⟩):∃ c P,tabIn K lamN=some (c,P)/\codeHdIn K c P=true/\fd.code=.ref c:=by
 obtain⟨i,c,P,b,g,d,h⟩:=L
 rw[hm] at b;cases b
 obtain⟨oc,od,sl,a⟩:=a
 exact⟨c,P,g,d,h _ _ _ _ a⟩
theorem Fun.okC{P:Program}{w:World}{K:Frag}{mg:Str->Option Value}{base:Heap}{x qual:Str}{st:Stmt}{f:Addr}{fd:FuncData}{N ps:List Str}{k:Nat}{sp:Sp}(F:Fun K x qual st f fd)(L:LamAt K mg)(hm:mg lamN=some (.ref f))(S:FnScope N ps (aak st))(len:∀ vs H Q E,sp vs H Q E->vs.length=ps.length)
  (a:∀(c T:Addr)(A:Around)(outer:List Env)(s:Shared)(H:Hp)(vs:List V)(Q:VK)(E:XK),tabIn K lamN=some (c,T)->codeHdIn K c T=true->Room k (A.deeper (envOfC qual (aak st) s.heap.objs.size f (.ref c)))->sp vs H Q E ->
   ∃ t,PSs (cxOf CX0 P w K mg base N qual (aak st) f (.ref c) A outer s H E).nox (ab1 st) t/\t { nx:=λ_ H'=>Q .non H',rt:=Q } (start N vs) H):FnOk P w K mg base CX0 (k+1) f fd ps sp:=by
 obtain⟨oc,od,kV,doc,pm,an,cdv,ct,osl,rfl,g,d⟩:=F.ex
 obtain⟨c,T,i,m,j⟩:=L.at hm ⟨_,_,_,g⟩
 have n:cdv=.ref c:=j
 subst n
 refine awj g d S len λA outer s H vs Q E l b=>?_
 obtain⟨t,h,q⟩:=a c T A outer s H vs Q E i m l b
 exact⟨t,h.nox,q⟩
theorem tabs0_some{p:Program}{a:List Str}{b:ExcName->Option Value}{mg mb:Str->Option Value}{K:Frag}{h:Heap}{c P:Addr}(T:Top p a b mg mb h)(X:K.In h)(f:((recsOf p).find? (λe=>e.name == lamN)).isSome=true)(g:tabIn K lamN=some (c,P))(i:K.lookup P=none):afb K h:=λl j q=>by
 rw[g] at q;cases q
 obtain⟨d,f⟩:=Option.isSome_iff_exists.mp f
 exact⟨(tab_of T X f g).1,(tab_of T X f g).2,i⟩
theorem tab_mk{K:Frag}{f c P:Addr}{oc d:Value}{od i:Option Addr}{fd:FuncData}{sl b:Array (Option Value)}{vs:Array Value}(a:nsIn K mainGlobals lamN=some (some (.ref f)))(l:K.lookup f=some ⟨oc,od,.func fd,sl⟩)(g:fd.code=.ref c)(h:K.lookup c=some ⟨d,i,.fields vs,b⟩)(j:vs[11]?=some (.ref P)):tabIn K lamN=some (c,P):=by
 unfold tabIn
 simp only[a,l,g,h,j]
theorem a1b{K:Frag}{c P:Addr}{o:Obj}(a:K.lookup c=some o)(h:codeHdIn [(c,o)] c P=true):codeHdIn K c P=true:=by
 unfold codeHdIn at *
 rw[a]
 rw[show List.lookup c [(c,o)]=some o by simp[List.lookup]] at h
 exact h
end L2
namespace VL
open PySem PySem.Spec L2
theorem Out.lam{G H H':Hp}{P:Addr}{v:V}{d:PyData}(g:Same G H)(r:Rp G v d)(l:LamH P H H'):Out G H v G H' (.st d) (λ_=>False) :=
 ⟨Same.refl _,λa o e=>l.same (g a o e),λa o e=>l.same e,λa o e=>.inl e,λa z=>z.elim,λa z=>z.elim,λa z=>z.elim,⟨r,λa z=>z⟩,λt a ks e=>by
  rcases l with rfl|⟨c,n,rfl⟩
  ·exact t a ks e
  ·by_cases z:a=c
   ·subst z;rw[aaj] at e;cases e
   ·rw[aaf z] at e;exact t a ks e⟩
theorem avu{K:Frag}{b:List (Int × List PyData)}{R:Sl->Prop}(n:b ≠ [])(m:∀ i z,b[i]?=some z->adr (b.map (·.1)) i->R (.st (.tuple (.int z.1::z.2)))) :
  OpA (awr K) [.list (b.map λz=>.tuple (.int z.1::z.2))] R:=λG H vs Q gh rs k=>by
 cases rs with
 | cons r t =>
  cases t
  cases r with
  | @lst a xs ds ha ra =>
   have f:=ra.length
   rw[aA3] at f
   refine⟨a,xs,b.map (·.1),rfl,SqL.of (gh _ _ ha),by rw[aA3];exact f,λe=>n (aJ0.mp (by rw[← f,e];rfl)),λi v k g d=>?_,λP H' i v g hm l=>?_⟩
   ·rw[aA5] at d
    cases c:b[i]? with
    |none=>rw[c] at d;cases d
    | some z =>
     rw[c] at d
     cases d
     have h:(b.map λz=>PyData.tuple (.int z.1::z.2))[i]?=some (.tuple (.int z.1::z.2)):=by rw[aA5,c];rfl
     have j:=aff ra g h
     cases j with
     | tup hb rb =>
      cases rb with
      |cons r3 _=>cases r3;exact⟨_,_,rfl,.inl (.inl (gh _ _ hb))⟩
   ·have hi:i<b.length:=by rw[← f];exact(aA1.mp g).1
    have c:b[i]?=some b[i]:=aA0 hi
    have h:(b.map λz=>PyData.tuple (.int z.1::z.2))[i]?=some (.tuple (.int b[i].1::b[i].2)):=by rw[aA5,c];rfl
    exact k _ _ _ _ _ (Out.lam gh (aff ra g h) l) (m i _ c hm)
end VL
namespace L2
open PySem PySem.Spec PyProof.Rows
theorem ak3{M:Model}{A:Around}{s:Shared}{E:Value->Shared->Prop}{a b:Value}{Q:Value->Shared->Prop}(ha:s.TypeIs a "list")(hb:s.TypeIs b "list")
  (h:wpAny M A (call (.builtin "list.__iadd__") [a,b]) Q E s):wpAny M A (inplaceOp .Add a b) Q E s:=by
 unfold inplaceOp
 refine aJ7 ?_
 have g:typeLookup (.type "list") (dunderI "add")=pure (some (.builtin "list.__iadd__")):=F.slot_list_iadd.lookup
 have c:fillsInplaceSlot (.type "list") "add" (Operator.Add == .Add)=pure false:=by
  unfold fillsInplaceSlot
  show(typeLookup (.type "list") (dunderI "add") >>= λf=>pure (f.isSome && !isSeqSlot f))=pure false
  rw[g]
  show(pure ((some (Value.builtin "list.__iadd__")).isSome && !isSeqSlot (some (Value.builtin "list.__iadd__"))):Sem Bool)=pure false
  rw[show isSeqSlot (some (Value.builtin "list.__iadd__"))=true by decide +kernel]
  rfl
 have d:seqSlot? (.type "list") (dunderI "add")=pure (some (.builtin "list.__iadd__")):=PySem.seqSlot_of g (by decide +kernel)
 refine aJ1 (wpAny_typeOf ha (aJ1 (wpAny_of_eq c ?_)))
 show wpAny M A (if false=true then _ else _) Q E s
 rw[aF7 aB0]
 refine aJ1 (binaryOp1_none (nm:="add") ha hb noFill_list_add ?_)
 refine aJ1 (wpAny_of_eq d ?_)
 exact aJ1 (wpAny_rule h)
def ipL:TIp:=λx y H Q=>∃ l b xs zs,x=.ref l/\y=.ref b/\H l=some (.lst xs)/\H b=some (.lst zs)/\xs.length+zs.length<=sizeLine/\Q (.ref l) (upd H l (.lst (xs++zs)))
theorem ayy{X:Cx}:PIp X .Add ipL:=by
 intro pins s σ H x y v u Q I p m h
 obtain⟨l,b,xs,A,rfl,rfl,d,o,hz,q⟩:=h
 cases p
 cases m
 obtain⟨z,its,n,r,w,e⟩:=I.lstM d
 obtain⟨B,a,i,j,g,f⟩:=I.lstM o
 have hsz:its.toArray.size+a.toArray.size<=sizeLine:=by rw[aB2,aB2];lia
 have c:¬ (!its.toArray.isEmpty && Builtin.List.listTooLong (its.toArray.size+a.toArray.size))=true:=by
  rw[alx hsz,Bool.and_false]
  exact aB0
 refine ak3 ⟨_,e,rfl⟩ ⟨_,f,rfl⟩ ?_
 refine call_meets F.slot_list_iadd ⟨_,e,rfl⟩ F.entry_list_iadd (F.args_list_iadd_2 _ _)
  (AutoSeq1.list___iadd___list_list_0 l its.toArray n b a.toArray i c (by rw[aB2];lia) (by lia)) ⟨e,f,?_⟩
 refine⟨.ref l,_,I.lset (its':=its++a) d e (by simp) (r.append j) ?_,rfl,q⟩
 rw[aB1]
 lia
end L2
namespace VL
open PySem PySem.Spec L2
variable{B:Bs}{env:En}{i:Nat}{te:TE}{D':VEnds}
theorem avv{α:Type}{l:List (Option α)}{i:Nat}{v : α}(h:l[i]?=some (some v)):l.set i (some v)=l:=by
 apply aG3
 intro j
 by_cases e:j=i
 ·subst e
  rw[List.getElem?_set_self (aA1.mp h).1,h]
 ·rw[List.getElem?_set_ne (Ne.symm e)]
theorem avw{g:List PyData}(A:Has env i (OL g))(h:Ev B te env λy m=>∃ ds ys,y=.list ys/\m[i]?=some (some (.own (OL ds)))/\ds.length+ys.length<=1000000/\D'.nx (m.set i (some (.own (OL (ds++ys)))))):EvS B (tAug i te ipL) D' env:=λσ G H F D I k=>by
 obtain⟨v,f,a,vs,z,ha,rs,_⟩:=I.has A
 subst z
 refine⟨_,f,h σ G H F _ I λu o H2 F2 y m l p r ⟨ds,ys,s,es,w,q⟩=>?_⟩
 subst s
 cases r with
 | lst hb rb =>
  obtain⟨E,d,C,x,j,n,c,hf⟩:=l.has (.inl es)
  rw[f] at d;cases d;cases j
  refine⟨a,_,_,_,rfl,rfl,n,l.gh _ _ hb,by rw[c.length,rb.length];exact aG6 (big w),?_⟩
  show D.nx (List.set σ i (some (V.ref a))) _
  rw[avv f]
  exact k.nx _ o _ _ _ (l.upd1 (A':=OL (ds++ys)) es (.inl rfl) f hf ⟨a,_,rfl,aaj,c.append rb,λb=>Iff.rfl⟩) p q
theorem avx{α:Type}{K r:Frag}{src:List (Option Nat)}{b:En}{te:TE}{R:List PyData->En->Prop}{xs:List α}{fa fb fc : α->PyData}(f : α->PyData)(j:noIo (aai src b)=true)(C:xs.length<=999999)
  (h:∀ x∈xs,∀ g:Bs,g.K=K->Ev g te (some (.st (fa x))::some (.st (fb x))::some (.st (fc x))::aai src b) λy m=>y=f x/\m=some (.st (fa x))::some (.st (fb x))::some (.st (fc x))::aai src b)
  (p:R (xs.map f) b):LcV K (none::none::none::src) (gTup r 3 (aa5 (aar 0) (aa5 (aar 1) (aa5 (aar 2) gNil)))) tYes te (xs.map λx=>.tuple [fa x,fb x,fc x]) b R:=by
 have c:noIo (aai (none::none::none::src) b)=true:=by
  show((none::none::none::aai src b).all λs=>!isIo s)=true
  rw[List.all_cons,List.all_cons,List.all_cons]
  exact(aH2 _ _).mpr ⟨rfl,(aH2 _ _).mpr ⟨rfl,(aH2 _ _).mpr ⟨rfl,j⟩⟩⟩
 refine⟨λi ys e=>ys=(xs.take i).map f/\∃ o o' a,e=stO o::stO o'::stO a::aai src b,⟨by simp,none,none,none,rfl⟩,?_,?_,?_⟩
 ·rintro i ys e ⟨_,o,o',a,rfl⟩
  exact⟨⟨isIo_stO.symm,abt⟩,⟨isIo_stO.symm,abt⟩,⟨isIo_stO.symm,abt⟩,acz acr⟩
 ·rintro i d ys e hd ⟨rfl,o,o',a,rfl⟩ g w
  rw[aA5] at hd
  cases hx:xs[i]? with
  |none=>rw[hx] at hd;cases hd
  | some x =>
   rw[hx] at hd
   cases hd
   have hi:i<xs.length:=(aA1.mp hx).1
   have q:xs.take (i+1)=xs.take i++[x]:=by rw[aH5,hx];rfl
   refine afd rfl (abg (aap (abg (aap (abg (aap (adp (abx ?_))))))))
   rw[aF6 rfl]
   show Ev g te (some (.st (fa x))::some (.st (fb x))::some (.st (fc x))::aai src b) _
   intro σ G H F Q I k
   refine h x (aA2 hx) g w σ G H F Q I λv G' H' z d' m A g' u ⟨n,l⟩=>k v G' H' z d' m A g' u ?_
   subst n l
   refine⟨?_,?_,some _,some _,some _,rfl⟩
   ·simp only[aA3]
    have B:(xs.take i).length<=i:=by simp;lia
    lia
   ·rw[q,aE5];rfl
 ·rintro ys e ⟨rfl,o,o',a,rfl⟩
  rw[aed c]
  simpa using p
theorem aqy{α β:Type}{K K1 K2:Frag}{src:List (Option Nat)}{g:En}{q:TI}{te:TE}{R:List PyData->Prop}{xs:List α}{fa fb fe : α->PyData}(b : α->List β)(fc fd : α->β->PyData)(f : α->β->PyData)(O:ad2 (aai src g))
  (W:(xs.flatMap λx=>(b x).map (f x)).length<=999999)
  (X:∀ x∈xs,∀ m:Bs,m.K=K->∀ o o',EvI m q (some (.st (fa x))::some (.st (fb x))::some (.st (fe x))::stO o::stO o'::aai src g) λr u=>r=(b x).map (λy=>.tuple [fc x y,fd x y])/\u=some (.st (fa x))::some (.st (fb x))::some (.st (fe x))::stO o::stO o'::aai src g)
  (T:∀ x∈xs,∀ y∈b x,∀ m:Bs,m.K=K->Ev m te (some (.st (fa x))::some (.st (fb x))::some (.st (fe x))::some (.st (fc x y))::some (.st (fd x y))::aai src g) λz Z=>z=f x y/\Z=some (.st (fa x))::some (.st (fb x))::some (.st (fe x))::some (.st (fc x y))::some (.st (fd x y))::aai src g)
  (S:R (xs.flatMap λx=>(b x).map (f x))):LcV2 K (none::none::none::none::none::src) (gTup K1 3 (aa5 (aar 0) (aa5 (aar 1) (aa5 (aar 2) gNil)))) tYes q (gTup K2 2 (aa5 (aar 3) (aa5 (aar 4) gNil))) tYes te (xs.map λx=>.tuple [fa x,fb x,fe x]) g R:=by
 refine⟨λi ys e=>ys=(xs.take i).flatMap (λx=>(b x).map (f x))/\∃ o o' l p a,e=stO o::stO o'::stO l::stO p::stO a::aai src g,⟨by simp,none,none,none,none,none,rfl⟩,?_,?_,?_⟩
 ·rintro i ys e ⟨_,o,o',l,p,a,rfl⟩
  exact aa6 (aa6 (aa6 (aa6 (aa6 O))))
 ·rintro i d ys e hd ⟨rfl,o,o',l,p,a,rfl⟩ m Y
  rw[aA5] at hd
  cases hx:xs[i]? with
  |none=>rw[hx] at hd;cases hd
  | some x =>
   rw[hx] at hd
   cases hd
   have s:=aA2 hx
   have N:xs.take (i+1)=xs.take i++[x]:=by rw[aH5,hx];rfl
   have D:((xs.take (i+1)).flatMap (λx=>(b x).map (f x))).length<=999999:=by
    refine aD0 ?_ W
    conv=>rhs;rw[← aC1 (i+1) xs,List.flatMap_append,aB1]
    exact Nat.le_add_right _ _
   refine afd rfl (abg (aap (abg (aap (abg (aap (adp (abx ?_))))))))
   rw[aF6 rfl]
   show EvI m q (some (.st (fa x))::some (.st (fb x))::some (.st (fe x))::stO p::stO a::aai src g) _
   intro σ G H F Q I k
   refine X x s m Y p a σ G H F Q I λJ G' H' C r u M g' w ⟨E,n⟩=>k J G' H' C r u M g' w ?_
   subst E n
   refine⟨λj h e=>h=(xs.take i).flatMap (λx=>(b x).map (f x))++((b x).take j).map (f x)/\∃ p a,e=some (.st (fa x))::some (.st (fb x))::some (.st (fe x))::stO p::stO a::aai src g,⟨by simp,p,a,rfl⟩,?_,?_,?_⟩
   ·rintro j h e ⟨_,p,a,rfl⟩
    exact aa6 (o:=some (fa x)) (aa6 (o:=some (fb x)) (aa6 (o:=some (fe x)) (aa6 (aa6 O))))
   ·rintro j d2 h e c ⟨rfl,p,a,rfl⟩ P B
    rw[aA5] at c
    cases hy:(b x)[j]? with
    |none=>rw[hy] at c;cases c
    | some y =>
     rw[hy] at c
     cases c
     have A:(b x).take (j+1)=(b x).take j++[y]:=by rw[aH5,hy];rfl
     refine afd rfl (abg (aap (abg (aap (adp (abx ?_))))))
     rw[aF6 rfl]
     show Ev P te (some (.st (fa x))::some (.st (fb x))::some (.st (fe x))::some (.st (fc x y))::some (.st (fd x y))::aai src g) _
     intro σ G H F Q I k
     refine T x s y (aA2 hy) P B σ G H F Q I λv G' H' C d' u M g' U ⟨L,n⟩=>k v G' H' C d' u M g' U ?_
     subst L n
     refine⟨?_,?_,some (fc x y),some (fd x y),rfl⟩
     ·refine aD0 ?_ D
      rw[N,List.flatMap_append,aB1,aB1]
      refine Nat.add_le_add_left ?_ _
      simp only[List.flatMap_cons,List.flatMap_nil,aF1,aA3]
      exact(List.take_sublist j (b x)).length_le
     ·rw[A,aE5,← aB4];rfl
   ·rintro h e ⟨rfl,p,a,rfl⟩
    refine⟨?_,some (fa x),some (fb x),some (fe x),p,a,rfl⟩
    rw[N,List.flatMap_append]
    simp
 ·rintro ys e ⟨rfl,o,o',l,p,a,rfl⟩
  rw[aA3,aG9]
  exact S
end VL
namespace L2
open PySem PySem.Spec PyProof.Rows
section
variable{prog:Program}{w:World}{A:Around}{E:Value->Shared->Prop}{s:Shared}
end
section
variable{X:Cx}{tg:Expr}
end
end L2
namespace VL
open PySem PySem.Spec L2
section
variable{B:Bs}{env:En}{g:TG}{tb:TS}{D':VEnds}{QI:List PyData->En->Prop}
end
end VL
namespace SS
open PySem
theorem ajm{l:List Nat}(c:l.Pairwise (· < ·)){i j:Nat}(b:i<=j)(a:j<l.length):l[i]'(by lia)<=l[j]:=by
 by_cases e:i=j
 ·subst e;exact aA6 _
 ·exact aG6 (aG8.mp c i j (by lia) a (by lia))
theorem ahw(xs:Array Nat)(j:Nat)(c:xs.toList.Pairwise (· < ·)):∀(a lo hi:Nat),hi-lo<=a->lo<=hi->hi<=xs.size->(∀ i (h:i<xs.toList.length),i<lo->xs.toList[i]<j)->(∀ i (h:i<xs.toList.length),hi<=i->j<=xs.toList[i]) ->
  SetTable.below.go xs j a lo hi<=xs.size/\(∀ i (h:i<xs.toList.length),i<SetTable.below.go xs j a lo hi->xs.toList[i]<j)/\(∀ i (h:i<xs.toList.length),SetTable.below.go xs j a lo hi<=i->j<=xs.toList[i])
 | 0,lo,hi,h1,h2,h3,h4,h5=>by
  unfold SetTable.below.go
  have:lo=hi:=by lia
  subst this
  exact⟨h3,h4,h5⟩
 | a+1,lo,hi,h1,h2,h3,h4,h5=>by
  unfold SetTable.below.go
  by_cases hl:lo<hi
  ·rw[aF6 hl]
   have hm:(lo+hi) / 2<xs.size:=by lia
   have d:(lo+hi) / 2<xs.toList.length:=by simpa using hm
   have f:xs.getD ((lo+hi) / 2) j=xs.toList[(lo+hi) / 2]:=by simp[Array.getD,hm]
   dsimp only
   rw[f]
   split
   ·rename_i hlt
    refine ahw xs j c a _ hi (by lia) (by lia) h3 (λi h b=>?_) h5
    exact aE4 (ajm c (by lia) d) hlt
   ·rename_i hge
    refine ahw xs j c a lo _ (by lia) (by lia) (by lia) h4 (λi h b=>?_)
    exact aD0 (by lia) (ajm c b h)
  ·rw[aF7 hl]
   have:lo=hi:=by lia
   subst this
   exact⟨h3,h4,h5⟩
theorem below_ok(xs:Array Nat)(j:Nat)(a:xs.toList.Pairwise (· < ·)) :
  SetTable.below xs j<=xs.size/\(∀ i (h:i<xs.toList.length),i<SetTable.below xs j->xs.toList[i]<j)/\(∀ i (h:i<xs.toList.length),SetTable.below xs j<=i->j<=xs.toList[i]) :=
 ahw xs j a _ 0 _ (by lia) (by lia) (aA6 _) (λi h hi=>by lia) (λi h hi=>by simp at h;lia)
theorem aqz(xs:Array Nat)(c:xs.toList.Pairwise (· < ·))(i:Nat)(hi:i<xs.toList.length):SetTable.below xs (xs.toList[i] + 1)=i+1:=by
 obtain⟨g,f,d⟩:=below_ok xs (xs.toList[i] + 1) c
 rcases Nat.lt_trichotomy (SetTable.below xs (xs.toList[i] + 1)) (i+1) with h|h|h
 ·have:=d i hi (by lia);lia
 ·exact h
 ·have hs:i+1<xs.toList.length:=by simp;lia
  have a:=f (i+1) hs (by lia)
  have b:=aG8.mp c i (i+1) hi hs (by lia)
  lia
theorem aq0(xs:Array Nat)(a:xs.toList.Pairwise (· < ·)):SetTable.below xs 0=0:=by
 obtain⟨c,b,d⟩:=below_ok xs 0 a
 rcases Nat.eq_zero_or_pos (SetTable.below xs 0) with h|h
 ·exact h
 ·have:=b 0 (by simp;lia) (by lia);lia
theorem put_rise{xs:Array Nat}{j:Nat}(c:xs.toList.Pairwise (· < ·))(hn:xs[SetTable.below xs j]? ≠ some j):(SetTable.insertAt xs (SetTable.below xs j) j).toList.Pairwise (· < ·):=by
 obtain⟨n,d,g⟩:=below_ok xs j c
 rw[SetTable.toList_insertAt]
 generalize SetTable.below xs j=p at n d g hn ⊢
 rw[← aD6] at hn
 generalize xs.toList=l at c d g hn ⊢
 have lo:∀ x∈l.take p,x<j:=λx f=>by
  obtain⟨i,hi,e⟩:=List.mem_take_iff_getElem.mp f
  rw[← e];exact d i (by lia) (by lia)
 have m:∀ x∈l.drop p,j<x:=λx f=>by
  obtain⟨i,hi,e⟩:=List.mem_drop_iff_getElem.mp f
  have h:p<l.length:=by lia
  have ne:l[p] ≠ j:=λe=>hn (by rw[aA0 h,e])
  have a:=g p h (aA6 _)
  have b:=ajm c (show p<=p+i by lia) (by lia:p+i<l.length)
  have o:l[p+i]=x:=by rw[← e]
  lia
 rw[aC9]
 refine⟨c.sublist (List.take_sublist _ _),aI6.mpr ⟨m,c.sublist (List.drop_sublist _ _)⟩,λa ha b hb=>?_⟩
 rcases aA9.mp hb with rfl|hb
 ·exact lo a ha
 ·exact Nat.lt_trans (lo a ha) (m b hb)
structure TbI(bt:Bool)(t:SetTable):Prop where
 led:bt=false->t.led=true
 dum:t.dummies = #[]
 ris:t.plain=true->t.place.toList.Pairwise (· < ·)
theorem TbI.fresh(bt:Bool)(f m:Nat):TbI bt (.fresh f m (!bt)):=⟨λh=>by subst h;rfl,rfl,λ_=>List.Pairwise.nil⟩
theorem has_nil(j:Nat):SetTable.has #[] j=false:=by unfold SetTable.has;simp
theorem TbI.put{bt:Bool}{t:SetTable}(x:TbI bt t){j:Nat}(hs:t.slot j=.empty):TbI bt (t.put j).1:=by
 refine⟨x.led,?_,λh=>?_⟩
 ·show(if SetTable.has t.dummies j=true then _ else t.dummies) = #[]
  rw[x.dum,has_nil];rfl
 ·show(SetTable.insertAt t.place (SetTable.below t.place j) j).toList.Pairwise (· < ·)
  refine put_rise (x.ris h) λe=>?_
  unfold SetTable.slot at hs
  dsimp only at hs
  rw[e] at hs
  simp at hs
theorem live_rise(owner:Array (Option Nat))(m:Nat):(((List.range m).filterMap λj=>(owner.getD j none).map (j,·)).map (·.1)).Pairwise (· < ·):=by
 rw[aG2,List.pairwise_filterMap]
 refine List.pairwise_lt_range.imp ?_
 intro a b f p c q d
 cases h1:owner.getD a none with
 |none=>rw[h1] at c;cases c
 | some i =>
  cases h2:owner.getD b none with
  |none=>rw[h2] at d;cases d
  |some k=>rw[h1] at c;rw[h2] at d;cases c;cases d;exact f
theorem akh{α:Type}(next:Nat->Nat):∀(n k:Nat)(left:List α)(out:Array α),left.length=n->(pickOrder.go next n k left out).toList.Perm (out.toList++left)
 | 0,k,left,out,h=>by
  unfold pickOrder.go
  rw[aH3 h];simp
 | n+1,k,left,out,h=>by
  unfold pickOrder.go
  have a:next k % left.length<left.length:=Nat.mod_lt _ (by lia)
  rw[aA0 a]
  dsimp only
  refine(akh next n (k+1) _ _ (by rw[List.length_eraseIdx];split <;> lia)).trans ?_
  rw[Array.toList_push,aB4]
  refine List.Perm.append_left _ ?_
  have e:left=left.take (next k % left.length)++left[next k % left.length]::left.drop (next k % left.length+1):=by
   rw[← List.drop_eq_getElem_cons a,aC1]
  rw[List.eraseIdx_eq_take_drop_succ]
  refine List.Perm.trans ?_ (List.Perm.of_eq e.symm)
  rw[List.singleton_append]
  exact List.perm_middle.symm
theorem ajn{α:Type}(next:Nat->Nat)(xs:Array α):(pickOrder next xs).toList.Perm xs.toList:=by
 unfold pickOrder
 simpa using akh next xs.size 0 xs.toList #[] (by simp)
end SS
namespace SS
open PySem PySem.W PyProof.Rows
section
variable{prog:Program}{w:World}{A:Around}{E:Value->Shared->Prop}{s:Shared}
def bt(w:World):Bool:=w.params.followText "set-order"
def kE(e:Int × Value):Int:=match e.2 with | .int k _=>k|_=>0
def a2t(prog:Program)(w:World)(e:Int × Value):Prop:=e.1=(intKind prog w).hash (kE e)/\∃ t,e.2=.int (kE e) t
def SetR(prog:Program)(w:World)(a:Addr)(es:Array (Int × Value))(ep:Nat)(t:SetTable)(h:Heap):Prop :=
 ∃ o,h.get? a=some o/\o.ExactSet/\o.data=.set es ep t/\t.fits es.size=true/\TbI (bt w) t
def SetI(prog:Program)(w:World)(a:Addr)(L:List Int)(h:Heap):Prop:=∃ es ep t,SetR prog w a es ep t h/\(∀ e∈es.toList,a2t prog w e)/\(es.toList.map kE).Perm L
theorem SetR.at{a:Addr}{es:Array (Int × Value)}{ep:Nat}{t:SetTable}{h h':Heap}(x:SetR prog w a es ep t h)(k:∀ o,h.get? a=some o->h'.get? a=some o):SetR prog w a es ep t h':=let ⟨o,e,r⟩:=x;⟨o,k o e,r⟩
theorem SetR.put{a:Addr}{es es':Array (Int × Value)}{ep:Nat}{t t':SetTable}{h:Heap}(x:SetR prog w a es ep t h)(hf:t'.fits es'.size=true)(f:TbI (bt w) t'):SetR prog w a es' (ep+1) t' (h.update a (Obj.putSet es' t')):=by
 obtain⟨o,c,d,hd,_⟩:=x
 have b:(h.update a (Obj.putSet es' t')).get? a=some { o with data:=.set es' (ep+1) t' }:=by
  have:=aK7 (Obj.putSet es' t') c (by rw[putSet_of es' t' hd];rfl)
  rw[putSet_of es' t' hd] at this;exact this
 exact⟨_,b,d,rfl,hf,f⟩
end
end SS
namespace SH
open PySem PySem.SetTable
def it:Nat->Nat->Nat
 |0,x=>x
 |n+1,x=>it n (5 * x+1)
theorem aiv:∀(a b x:Nat),it (a+b) x=it b (it a x)
 |0,b,x=>by rw[Nat.zero_add];rfl
 |a+1,b,x=>by rw[Nat.add_right_comm];exact aiv a b (5 * x+1)
theorem a1c(m:Nat):∃ c d:Nat,∀ x,it (2 ^ m) x=(1+2 ^ (m+2) * c) * x+2 ^ m * (2 * d+1):=by
 induction m with
 |zero=>exact⟨1,0,λx=>by show 5 * x+1=_;lia⟩
 | succ m ih =>
  obtain⟨c,d,h⟩:=ih
  refine⟨c+2 ^ (m+1) * (c * c),d+2 ^ m * c * (2 * d+1),λx=>?_⟩
  rw[show 2 ^ (m+1)=2 ^ m+2 ^ m by rw[Nat.pow_succ];lia,aiv,h,h]
  have b:2 ^ (m+2)=4 * 2 ^ m:=by rw[Nat.pow_add];lia
  have a:2 ^ (m+1+2)=8 * 2 ^ m:=by rw[Nat.pow_add,Nat.pow_succ];lia
  rw[b,a]
  generalize 2 ^ m=P
  grind
theorem a1d(m:Nat)(x j:Nat):∃ r,r<2 ^ m/\it r x % 2 ^ m=j % 2 ^ m:=by
 induction m with
 |zero=>exact⟨0,by decide,by rw[Nat.pow_zero,Nat.mod_one,Nat.mod_one]⟩
 | succ m ih =>
  obtain⟨r,p,e⟩:=ih
  obtain⟨c,d,h⟩:=a1c m
  have i:0<2 ^ m:=Nat.pow_pos (by decide)
  have g:2 ^ (m+1)=2 ^ m * 2:=Nat.pow_succ ..
  have l:2 ^ (m+2)=2 ^ m * 4:=by rw[Nat.pow_add]
  rw[g]
  have o:=Nat.mod_mul (x:=it r x) (a:=2 ^ m) (b:=2)
  have f:=Nat.mod_mul (x:=j) (a:=2 ^ m) (b:=2)
  by_cases hq:it r x / 2 ^ m % 2=j / 2 ^ m % 2
  ·exact⟨r,by lia,by rw[o,f,e,hq]⟩
  ·refine⟨r+2 ^ m,by lia,?_⟩
   rw[aiv,h,l]
   have n:(1+2 ^ m * 4 * c) * it r x+2 ^ m * (2 * d+1)=it r x+2 ^ m * (4 * (c * it r x)+2 * d+1):=by
    generalize 2 ^ m=P
    grind
   rw[n,Nat.mod_mul,f,Nat.add_mul_mod_self_left,e,Nat.add_mul_div_left _ _ i]
   have:(it r x / 2 ^ m+(4 * (c * it r x)+2 * d+1)) % 2=j / 2 ^ m % 2:=by
    generalize c * it r x=z
    lia
   rw[this]
theorem ayz(r x:Nat):it (r+1) x=5 * it r x+1:=by rw[aiv];rfl
def adv(mask:Nat)(p:Probe):Probe:=if p.more > 0 then { p with j:=p.j+1,more:=p.more-1 } else { p with j:=(leap mask p.i p.perturb).1,more:=runEnd mask (leap mask p.i p.perturb).1-(leap mask p.i p.perturb).1,i:=(leap mask p.i p.perturb).1,perturb:=(leap mask p.i p.perturb).2 }
def pr0(mask:Nat)(h:Int):Probe:={ j:=bits h % (mask+1),more:=runEnd mask (bits h % (mask+1))-bits h % (mask+1),i:=bits h % (mask+1),perturb:=bits h,dummy:=none }
def pr(mask:Nat)(h:Int):Nat->Probe
 |0=>pr0 mask h
 |k+1=>adv mask (pr mask h k)
theorem am3(mask:Nat)(h:Int):∀ k,(pr mask h k).dummy=none
 |0=>rfl
 | k+1=>by
  have:=am3 mask h k
  show(adv mask (pr mask h k)).dummy=none
  unfold adv
  split <;> exact this
def lp(mask:Nat)(h:Int):Nat->Nat × Nat
 |0=>(bits h % (mask+1),bits h)
 |n+1=>leap mask (lp mask h n).1 (lp mask h n).2
def pAt(mask:Nat)(q:Nat × Nat)(a:Nat):Probe:={ j:=q.1+a,more:=runEnd mask q.1-q.1-a,i:=q.1,perturb:=q.2,dummy:=none }
theorem a1e(mask i:Nat):runEnd mask i-i<=9:=by unfold runEnd;split <;> lia
theorem am4{mask:Nat}{h:Int}{s:Nat}{q:Nat × Nat}(e:pr mask h s=pAt mask q 0):∀ a,a<=runEnd mask q.1-q.1->pr mask h (s+a)=pAt mask q a
 |0,_=>e
 | a+1,ha=>by
  have b:=am4 e a (by lia)
  show adv mask (pr mask h (s+a))=_
  rw[b]
  unfold adv pAt
  rw[aF6 (by show runEnd mask q.1-q.1-a > 0;lia)]
  show Probe.mk _ _ _ _ _=Probe.mk _ _ _ _ _
  congr 1
theorem ay0{mask:Nat}{h:Int}{s:Nat}{q:Nat × Nat}(e:pr mask h s=pAt mask q 0):pr mask h (s+(runEnd mask q.1-q.1)+1)=pAt mask (leap mask q.1 q.2) 0:=by
 have:=am4 e _ (aA6 _)
 show adv mask (pr mask h (s+_))=_
 rw[this]
 unfold adv pAt
 rw[aF7 (by show ¬ (runEnd mask q.1-q.1-(runEnd mask q.1-q.1) > 0);lia)]
 rfl
def sp(mask:Nat)(h:Int):Nat->Nat
 |0=>0
 |n+1=>sp mask h n+(runEnd mask (lp mask h n).1-(lp mask h n).1)+1
theorem aws(mask:Nat)(h:Int):∀ n,sp mask h n<=10 * n
 |0=>aA6 _
 | n+1=>by
  have:=aws mask h n
  have:=a1e mask (lp mask h n).1
  unfold sp
  lia
theorem aq1(mask:Nat)(h:Int):∀ n,pr mask h (sp mask h n)=pAt mask (lp mask h n) 0
 |0=>rfl
 |n+1=>ay0 (aq1 mask h n)
theorem apq(mask:Nat)(h:Int):∀ n,(lp mask h n).2=bits h / 32 ^ n
 |0=>by show bits h=_;rw[Nat.pow_zero,Nat.div_one]
 | n+1=>by
  show(lp mask h n).2 / 32=_
  rw[apq mask h n,Nat.div_div_eq_div_mul,Nat.pow_succ]
theorem ay1(h:Int):bits h<2 ^ 64:=by
 unfold bits
 have a:=aE7 h (show(2 ^ 64:Int) ≠ 0 by decide)
 have b:=aE8 h (show(0:Int)<2 ^ 64 by decide)
 lia
theorem ay2(mask:Nat)(h:Int)(r:Nat):(lp mask h (13+r)).2=0:=by
 rw[apq]
 apply Nat.div_eq_of_lt
 refine aC5 (ay1 h) ?_
 rw[Nat.pow_add]
 exact aD0 (show 2 ^ 64<=32 ^ 13 by decide) (Nat.le_mul_of_pos_right _ (Nat.pow_pos (by decide)))
theorem awt(mask:Nat)(h:Int):∀ r,(lp mask h (13+r)).1 % (mask+1)=it r (lp mask h 13).1 % (mask+1)
 |0=>rfl
 | r+1=>by
  show((lp mask h (13+r)).1 * 5+1+(lp mask h (13+r)).2 / 32) % (mask+1) % (mask+1)=_
  rw[ay2,ayz,Nat.mod_mod,show 0 / 32=0 from rfl,Nat.add_zero,Nat.add_mod,Nat.mul_mod,awt mask h r,← Nat.mul_mod,← Nat.add_mod,Nat.mul_comm]
theorem awu(mask:Nat)(h:Int):∀ n,(lp mask h n).1<mask+1
 |0=>Nat.mod_lt _ (Nat.succ_pos _)
 |n+1=>Nat.mod_lt _ (Nat.succ_pos _)
theorem as8{mask m:Nat}(hm:mask+1=2 ^ m)(h:Int)(j:Nat)(b:j<=mask):∃ n,n<mask+14/\(lp mask h n).1=j:=by
 obtain⟨r,c,e⟩:=a1d m (lp mask h 13).1 j
 refine⟨13+r,by lia,?_⟩
 have a:=awt mask h r
 rw[hm,e,← hm,Nat.mod_eq_of_lt (awu mask h _),Nat.mod_eq_of_lt (show j<mask+1 by lia)] at a
 exact a
theorem a1f{mask m:Nat}(hm:mask+1=2 ^ m)(h:Int)(j:Nat)(a:j<=mask):∃ k,k<10 * turns mask/\(pr mask h k).j=j:=by
 obtain⟨n,hn,e⟩:=as8 hm h j a
 refine⟨sp mask h n,?_,by rw[aq1];exact e⟩
 have:=aws mask h n
 unfold turns
 lia
structure TOk(t:SetTable):Prop where
 ris:t.place.toList.Pairwise (· < ·)
 dum:t.dummies = #[]
 le:∀ j∈t.place.toList,j<=t.mask
 two:∃ m,t.mask+1=2 ^ m
 room:t.place.size<=t.mask
theorem ad3{t:SetTable}(x:TOk t){j i:Nat}:t.slot j=.live i ↔ t.place.toList[i]?=some j:=by
 have hb:=SS.below_ok t.place j x.ris
 unfold slot
 dsimp only
 rw[x.dum,SS.has_nil]
 constructor
 ·intro h
  split at h
  ·rename_i e
   cases h
   have e:=eq_of_beq e
   rw[aD6]
   exact e
  ·cases h
 ·intro h
  obtain⟨hi,e⟩:=aA1.mp h
  have b:below t.place j=i:=by
   rcases Nat.lt_trichotomy (below t.place j) i with a|a|a
   ·have c:=hb.2.2 (below t.place j) (by lia) (aA6 _)
    have d:=aG8.mp x.ris (below t.place j) i (by lia) hi a
    lia
   ·exact a
   ·have:=hb.2.1 i hi a
    lia
  rw[b,aF6 (by rw[← aD6,h];exact beq_self_eq_true _)]
theorem aiw{t:SetTable}(x:TOk t)(j:Nat):t.slot j=.empty\/∃ i,t.slot j=.live i:=by
 unfold slot
 dsimp only
 rw[x.dum,SS.has_nil]
 split
 ·exact .inr ⟨_,rfl⟩
 ·exact .inl rfl
theorem adn{t:SetTable}(x:TOk t){j:Nat}:t.slot j=.empty ↔ j ∉ t.place.toList:=by
 constructor
 ·intro h hm
  obtain⟨i,hi⟩:=aD3 hm
  rw[(ad3 x).mpr hi] at h
  cases h
 ·intro h
  rcases aiw x j with e|⟨i,e⟩
  ·exact e
  ·exact absurd (aA2 ((ad3 x).mp e)) h
theorem as9{t:SetTable}(x:TOk t):∃ j,j<=t.mask/\t.slot j=.empty:=by
 apply aD5
 intro hn
 have a:∀ j∈List.range (t.mask+1),j∈t.place.toList:=λj b=>by
  have b:=aB9.mp b
  apply aD5
  intro h
  exact hn ⟨j,by lia,(adn x).mpr h⟩
 have:=List.Nodup.length_le_of_subset List.nodup_range a
 rw[aE1,aA8] at this
 have:=x.room
 lia
theorem am5{t:SetTable}(x:TOk t){ha:Nat->Int}{h:Int}:∀(c k:Nat),(∃ k1,k<=k1/\k1<k+c/\t.slot (pr t.mask h k1).j=.empty) ->
  ∃ k1,k<=k1/\k1<k+c/\(∀ d,k<=d->d<k1->∃ i,t.slot (pr t.mask h d).j=.live i/\ha i ≠ h) /\
   ((t.slot (pr t.mask h k1).j=.empty ∧ probe.go t ha h c (pr t.mask h k)=some (.empty (pr t.mask h k1).j none)) ∨
    ∃ i,t.slot (pr t.mask h k1).j=.live i/\ha i=h/\probe.go t ha h c (pr t.mask h k)=some (.candidate (pr t.mask h k1).j i (pr t.mask h (k1+1))))
 |0,k,⟨k1,h1,h2,_⟩=>by lia
 | c+1,k,⟨k1,h1,h2,h3⟩=>by
  rcases aiw x (pr t.mask h k).j with e|⟨i,e⟩
  ·refine⟨k,aA6 _,by lia,λd a b=>by lia,.inl ⟨e,?_⟩⟩
   unfold probe.go
   rw[e,am3]
  ·by_cases hi:ha i=h
   ·refine⟨k,aA6 _,by lia,λd a b=>by lia,.inr ⟨i,e,hi,?_⟩⟩
    unfold probe.go
    rw[e]
    dsimp only
    rw[aF6 (by rw[hi];exact beq_self_eq_true _)]
    rfl
   ·have f:k+1<=k1:=by
     rcases Nat.lt_or_eq_of_le h1 with h|h
     ·exact h
     ·rw[← h,e] at h3;cases h3
    obtain⟨g,a1,p,l,o⟩:=am5 x (ha:=ha) (h:=h) c (k+1) ⟨k1,f,by lia,h3⟩
    have m:probe.go t ha h (c+1) (pr t.mask h k)=probe.go t ha h c (pr t.mask h (k+1)):=by
     conv=>lhs;unfold probe.go
     rw[e]
     dsimp only
     rw[aF7 (by intro z;exact hi (eq_of_beq z))]
     rfl
    refine⟨g,by lia,by lia,λd b1 n=>?_,?_⟩
    ·rcases Nat.lt_or_eq_of_le b1 with b|b
     ·exact l d (by lia) n
     ·exact⟨i,by rw[← b];exact e,hi⟩
    ·rw[m]
     exact o
def HI(t:SetTable)(es:List (Int × Value)):Prop:=es.length=t.place.size/\∀(i:Nat)(e:Int × Value)(j:Nat),es[i]?=some e->t.place.toList[i]?=some j->∃ k,(pr t.mask e.1 k).j=j/\∀ k',k'<k->t.slot (pr t.mask e.1 k').j ≠ .empty
theorem HI.found{t:SetTable}{es:List (Int × Value)}(x:TOk t)(g:HI t es){h:Int}{k1:Nat}(b:t.slot (pr t.mask h k1).j=.empty){i:Nat}{e:Int × Value}(hi:es[i]?=some e)(hh:e.1=h):∃ k,k<k1/\t.slot (pr t.mask h k).j=.live i:=by
 have d:i<t.place.toList.length:=by rw[aA8,← g.1];exact(aA1.mp hi).1
 obtain⟨k,f,c⟩:=g.2 i e _ hi (aA0 d)
 rw[hh] at f c
 have hs:t.slot (pr t.mask h k).j=.live i:=(ad3 x).mpr (by rw[f];exact aA0 d)
 refine⟨k,?_,hs⟩
 rcases Nat.lt_trichotomy k k1 with a|a|a
 ·exact a
 ·subst a;rw[b] at hs;cases hs
 ·exact absurd b (c k1 a)
theorem ins_get{α:Type}(l:List α)(p:Nat)(x : α)(b:p<=l.length)(i:Nat):(l.take p++x::l.drop p)[i]?=if i<p then l[i]? else if i=p then some x else l[i-1]?:=by
 have a:(l.take p).length=p:=by rw[aH1];lia
 by_cases h1:i<p
 ·rw[aF6 h1,aC3 (by lia),List.getElem?_take,aF6 h1]
 ·rw[aF7 h1,aC8 (by lia),a]
  by_cases h2:i=p
  ·rw[aF6 h2,h2,Nat.sub_self];rfl
  ·rw[aF7 h2]
   obtain⟨d,hd⟩:∃ d,i-p=d+1:=⟨i-p-1,by lia⟩
   rw[hd,List.getElem?_cons_succ,aI3,show p+d=i-1 by lia]
theorem ad4(t:SetTable)(j:Nat):(t.put j).1.place.toList=t.place.toList.take (below t.place j)++j::t.place.toList.drop (below t.place j):=SetTable.toList_insertAt ..
theorem avy(t:SetTable)(j:Nat):(t.put j).1.mask=t.mask:=rfl
theorem TOk.put{t:SetTable}(x:TOk t){j:Nat}(b:j<=t.mask)(c:t.slot j=.empty)(d:t.place.size+1<=t.mask):TOk (t.put j).1:=by
 have hb:=SS.below_ok t.place j x.ris
 refine⟨?_,?_,λq a=>?_,x.two,?_⟩
 ·refine SS.put_rise x.ris λe=>?_
  exact(adn x).mp c (by rw[← aD6] at e;exact aA2 e)
 ·show(if has t.dummies j=true then _ else t.dummies) = #[]
  rw[x.dum,SS.has_nil];rfl
 ·rw[ad4] at a
  rcases aA7.mp a with h|h
  ·exact x.le q (aC0 h)
  ·rcases aA9.mp h with h|h
   ·rw[h];exact b
   ·exact x.le q (aC4 h)
 ·have:(t.put j).1.place.toList.length=t.place.toList.length+1:=by
   rw[ad4,aB1,aE6,aH1,aI8]
   have:=hb.1
   simp only[aA8]
   lia
  simp only[aA8] at this
  rw[this]
  exact d
theorem HI.put{t:SetTable}{es:List (Int × Value)}(x:TOk t)(l:HI t es){j:Nat}(u:j<=t.mask)(w:t.place.size+1<=t.mask){e:Int × Value}{k1:Nat}(v:(pr t.mask e.1 k1).j=j)(r:t.slot j=.empty)(p:∀ d,d<k1->t.slot (pr t.mask e.1 d).j ≠ .empty) :
  HI (t.put j).1 (es.take (below t.place j)++e::es.drop (below t.place j)):=by
 have hb:=SS.below_ok t.place j x.ris
 have s:=x.put u r w
 have o:es.length=t.place.toList.length:=by rw[aA8];exact l.1
 have m:below t.place j<=t.place.toList.length:=by rw[aA8];exact hb.1
 have b:∀ q,t.slot q ≠ .empty->(t.put j).1.slot q ≠ .empty:=λq y z=>by
  rw[adn s] at z
  refine y ((adn x).mpr λhm=>z ?_)
  rw[ad4]
  rw[← aC1 (below t.place j) t.place.toList] at hm
  rcases aA7.mp hm with h|h
  ·exact aC7 _ h
  ·exact aB3 _ (aB5 _ h)
 refine⟨?_,λi n j' hi a=>?_⟩
 ·have f:(t.put j).1.place.toList.length=es.length+1:=by
   rw[ad4,aB1,aE6,aH1,aI8]
   lia
  rw[← aA8,f,aB1,aE6,aH1,aI8]
  lia
 ·rw[ad4,ins_get _ _ _ m] at a
  rw[ins_get _ _ _ (by lia)] at hi
  rw[avy]
  by_cases f:i<below t.place j
  ·rw[aF6 f] at hi a
   obtain⟨k,a1,g⟩:=l.2 i n j' hi a
   exact⟨k,a1,λd c=>b _ (g d c)⟩
  ·rw[aF7 f] at hi a
   by_cases h2:i=below t.place j
   ·rw[aF6 h2] at hi a
    cases hi
    cases a
    exact⟨k1,v,λd c=>b _ (p d c)⟩
   ·rw[aF7 h2] at hi a
    obtain⟨k,a1,g⟩:=l.2 (i-1) n j' hi a
    exact⟨k,a1,λd c=>b _ (g d c)⟩
def ow(owner:Array (Option Nat))(j:Nat):Option Nat:=owner.getD j none
theorem aq2(f:Nat->Bool):∀(n:Nat),(∃ k,(List.range n).find? f=some k/\k<n/\f k=true/\∀ a,a<k->f a=false)\/((List.range n).find? f=none/\∀ a,a<n->f a=false):=λn=>by
 cases h:(List.range n).find? f with
 | none =>
  refine .inr ⟨rfl,λa b=>?_⟩
  have:=List.find?_eq_none.mp h a (aB9.mpr b)
  simpa using this
 | some k =>
  refine .inl ⟨k,rfl,aB9.mp (List.mem_of_find?_eq_some h),List.find?_some h,λa b=>?_⟩
  rw[List.find?_range_eq_some] at h
  have:=h.2.2 a b
  simpa using this
theorem apr{mask:Nat}{owner:Array (Option Nat)}(hsz:owner.size=mask+1){h:Int}{ne m:Nat}(g:(lp mask h ne).1=m)(f:ow owner m=none)(i:m<=mask):∀(b n:Nat),n+b > ne->n<=ne->(∀ s',s'<sp mask h n->ow owner (pr mask h s').j ≠ none) ->
  ∃ s,layClean.free mask owner b (lp mask h n).1 (lp mask h n).2=some (pr mask h s).j/\ow owner (pr mask h s).j=none/\(pr mask h s).j<=mask/\∀ s',s'<s->ow owner (pr mask h s').j ≠ none
 |0,n,h1,h2,_=>by lia
 | b+1,n,h1,h2,hall=>by
  have B:=awu mask h n
  have v:runEnd mask (lp mask h n).1<=mask/\(lp mask h n).1<=runEnd mask (lp mask h n).1:=by unfold runEnd;split <;> lia
  have r:∀ j,j<=mask->owner.getD j (some 0)=ow owner j:=λj C=>by
   unfold ow
   simp[Array.getD,hsz,show j<mask+1 by lia]
  have d:∀ a,a<=runEnd mask (lp mask h n).1-(lp mask h n).1->(pr mask h (sp mask h n+a)).j=(lp mask h n).1+a:=λa ha=>by rw[am4 (aq1 mask h n) a ha];rfl
  have c:∀ K,K<=runEnd mask (lp mask h n).1-(lp mask h n).1+1->(∀ l,l<K->(owner.getD ((lp mask h n).1+l) (some 0)).isNone=false)->∀ s',s'<sp mask h n+K->ow owner (pr mask h s').j ≠ none:=λK A hf s' o=>by
   by_cases hs:s'<sp mask h n
   ·exact hall s' hs
   ·obtain⟨a,rfl⟩:∃ a,s'=sp mask h n+a:=⟨s'-sp mask h n,by lia⟩
    rw[d a (by lia),← r _ (by lia)]
    intro z
    have:=hf a (by lia)
    rw[z] at this
    cases this
  unfold layClean.free
  rcases aq2 (λk=>(owner.getD ((lp mask h n).1+k) (some 0)).isNone) (runEnd mask (lp mask h n).1+1-(lp mask h n).1) with ⟨k,e,y,q,p⟩|⟨e,hf⟩
  ·rw[e]
   refine⟨sp mask h n+k,by rw[d k (by lia)],?_,by rw[d k (by lia)];lia,c k (by lia) p⟩
   rw[d k (by lia),← r _ (by lia)]
   simpa using q
  ·rw[e]
   have u:n ≠ ne:=λz=>by
    subst z
    have:=hf 0 (by lia)
    rw[Nat.add_zero,g,r m i,f] at this
    cases this
   have x:=apr hsz g f i b (n+1) (by lia) (by lia) (λs' o=>c _ (aA6 _) (λl w=>hf l (by lia)) s' (by
    have:sp mask h (n+1)=sp mask h n+(runEnd mask (lp mask h n).1-(lp mask h n).1)+1:=rfl
    lia))
   exact x
structure Lay(mask:Nat)(hs:List Int)(owner:Array (Option Nat)):Prop where
 sz:owner.size=mask+1
 at':∀ k h,hs[k]?=some h->∃ s,(pr mask h s).j<=mask/\ow owner (pr mask h s).j=some k/\∀ s',s'<s->ow owner (pr mask h s').j ≠ none
 un:∀ j k,ow owner j=some k->k<hs.length
 inj:∀ j j' k,ow owner j=some k->ow owner j'=some k->j=j'
theorem a1g{owner:Array (Option Nat)}{j:Nat}(h:owner.size<=j):ow owner j=none:=by
 unfold ow
 simp[Array.getD,show ¬ (j<owner.size) by lia]
theorem Lay.start(mask:Nat):Lay mask [] (Array.replicate (mask+1) none):=by
 have hn:∀ j,ow (Array.replicate (mask+1) none) j=none:=λj=>by
  unfold ow
  simp only[Array.getD]
  split
  ·simp
  ·rfl
 exact⟨by simp,λk h a=>by simp at a,λj k e=>(by rw[hn] at e;cases e),λj j' k e=>(by rw[hn] at e;cases e)⟩
theorem Lay.gap{mask:Nat}{hs:List Int}{owner:Array (Option Nat)}(x:Lay mask hs owner)(m:hs.length<=mask):∃ j,j<=mask/\ow owner j=none:=by
 apply aD5
 intro hn
 have c:∀ j,j<=mask->∃ k,ow owner j=some k:=λj g=>by
  cases e:ow owner j with
  |some k=>exact⟨k,rfl⟩
  |none=>exact absurd ⟨j,g,e⟩ hn
 have i:((List.range (mask+1)).map λj=>(ow owner j).getD 0).Nodup:=by
  rw[List.Nodup,aG2]
  refine aI1 (λ{a b} ha hb h=>?_) List.nodup_range
  obtain⟨k,f⟩:=c a (by have:=aB9.mp ha;lia)
  obtain⟨l,d⟩:=c b (by have:=aB9.mp hb;lia)
  rw[f,d]
  intro e
  have e:k=l:=e
  subst e
  exact h (x.inj a b k f d)
 have:=List.Nodup.length_le_of_subset (l₂:=List.range hs.length) i λk f=>by
  obtain⟨j,g,rfl⟩:=aB7.mp f
  obtain⟨k,e⟩:=c j (by have:=aB9.mp g;lia)
  rw[e]
  exact aB9.mpr (x.un j k e)
 rw[aA3,aE1,aE1] at this
 lia
theorem agl{owner:Array (Option Nat)}{j q:Nat}{o:Option Nat}(a:j<owner.size):ow (owner.setIfInBounds j o) q=if q=j then o else ow owner q:=by
 unfold ow
 simp only[Array.getD,Array.size_setIfInBounds]
 by_cases e:q=j
 ·subst e
  simp[a]
 ·rw[aF7 e]
  split
  ·rename_i hq
   simp[Array.getElem_setIfInBounds,hq,Ne.symm e]
  ·rfl
theorem Lay.next{mask m:Nat}(hm:mask+1=2 ^ m){hs:List Int}{owner:Array (Option Nat)}(x:Lay mask hs owner)(v:hs.length<=mask)(h:Int) :
  ∃ j,layClean.free mask owner (turns mask) (bits h % (mask+1)) (bits h)=some j/\Lay mask (hs++[h]) (owner.setIfInBounds j (some hs.length)):=by
 obtain⟨y,i,n⟩:=x.gap v
 obtain⟨ne,r,C⟩:=as8 hm h y i
 obtain⟨s,o,A,w,u⟩:=apr x.sz C n i (turns mask) 0 (by unfold turns;lia) (aG1 _) (λs' a=>by cases a)
 have c:(pr mask h s).j<owner.size:=by rw[x.sz];lia
 have b:∀ q,ow owner q ≠ none->ow (owner.setIfInBounds (pr mask h s).j (some hs.length)) q ≠ none:=λq B=>by
  rw[agl c]
  split
  ·simp
  ·exact B
 refine⟨_,o,⟨by rw[Array.size_setIfInBounds];exact x.sz,λk h' g=>?_,λj k e=>?_,λj j' k e d=>?_⟩⟩
 ·by_cases hkl:k<hs.length
  ·rw[aC3 hkl] at g
   obtain⟨s2,a1,l,p⟩:=x.at' k h' g
   refine⟨s2,a1,?_,λs' a=>b _ (p s' a)⟩
   rw[agl c,aF7 (λz=>by rw[z,A] at l;cases l)]
   exact l
  ·have f:=(aA1.mp g).1
   rw[aB1] at f
   simp at f
   have:k=hs.length:=by lia
   subst this
   rw[aC8 (aA6 _),Nat.sub_self] at g
   cases g
   exact⟨s,w,by rw[agl c,aF6 rfl],λs' a=>b _ (u s' a)⟩
 ·rw[agl c] at e
  rw[aB1]
  split at e
  ·cases e;simp
  ·have:=x.un j k e;lia
 ·rw[agl c] at e d
  split at e
  ·rename_i h1
   cases e
   split at d
   ·rename_i h2;rw[h1,h2]
   ·have:=x.un j' _ d;lia
  ·split at d
   ·cases d
    have:=x.un j _ e;lia
   ·exact x.inj j j' k e d
theorem am6{mask m:Nat}(hm:mask+1=2 ^ m):∀(rest pre:List Int)(owner:Array (Option Nat)),Lay mask pre owner->pre.length+rest.length<=mask+1 ->
  ∃ a,rest.foldl (λ(b:Option (Array (Option Nat) × Nat)) h=>do
   let (owner,k) ← b
   let j ← layClean.free mask owner (turns mask) (bits h % (mask+1)) (bits h)
   pure (owner.setIfInBounds j (some k),k+1)) (some (owner,pre.length))=some (a,pre.length+rest.length)/\Lay mask (pre++rest) a
 |[],pre,owner,x,_=>⟨owner,rfl,by rw[aF1];exact x⟩
 | h::rest,pre,owner,x,hl=>by
  rw[aE6] at hl
  obtain⟨j,e,y⟩:=x.next hm (by lia) h
  obtain⟨o',a1,c⟩:=am6 hm rest (pre++[h]) _ y (by rw[aB1,List.length_singleton];lia)
  refine⟨o',?_,by rw[aB4] at c;exact c⟩
  rw[aB1,List.length_singleton] at a1
  rw[List.foldl_cons,aE6]
  have d:(do
   let (owner,k) ← (some (owner,pre.length):Option (Array (Option Nat) × Nat))
   let j ← layClean.free mask owner (turns mask) (bits h % (mask+1)) (bits h)
   pure (owner.setIfInBounds j (some k),k+1))=some (owner.setIfInBounds j (some pre.length),pre.length+1):=by
   show(layClean.free mask owner (turns mask) (bits h % (mask+1)) (bits h) >>= λj=>pure (owner.setIfInBounds j (some pre.length),pre.length+1))=_
   rw[e]
   rfl
  rw[d,a1]
  congr 2
  lia
theorem a1h{mask m:Nat}(hm:mask+1=2 ^ m)(hs:Array Int)(b:hs.size<=mask+1):∃ owner,layClean mask hs=some owner/\Lay mask hs.toList owner:=by
 obtain⟨o,e,x⟩:=am6 hm hs.toList [] _ (Lay.start mask) (by simpa using b)
 refine⟨o,?_,by simpa using x⟩
 unfold layClean
 rw[← Array.foldl_toList]
 have c:hs.toList.foldl (λ(a:Option (Array (Option Nat) × Nat)) h=>do
   let (owner,k) ← a
   let j ← layClean.free mask owner (turns mask) (bits h % (mask+1)) (bits h)
   pure (owner.setIfInBounds j (some k),k+1)) (some (Array.replicate (mask+1) none,0))=_:=e
 rw[c]
 rfl
def live(owner:Array (Option Nat))(mask:Nat):List (Nat × Nat):=(List.range (mask+1)).filterMap λj=>(owner.getD j none).map (j,·)
theorem live_mem{owner:Array (Option Nat)}{mask j k:Nat}:(j,k)∈live owner mask ↔ j<=mask/\ow owner j=some k:=by
 unfold live ow
 rw[List.mem_filterMap]
 constructor
 ·rintro⟨j',a,e⟩
  have a:=aB9.mp a
  cases h:owner.getD j' none with
  |none=>rw[h] at e;cases e
  |some k'=>rw[h] at e;cases e;exact⟨by lia,h⟩
 ·rintro⟨a,e⟩
  exact⟨j,aB9.mpr (by lia),by rw[e];rfl⟩
theorem ay3{mask:Nat}{hs:List Int}{owner:Array (Option Nat)}(x:Lay mask hs owner):((live owner mask).map (·.2)).Nodup:=by
 rw[List.Nodup,aG2]
 have d:((live owner mask).map (·.1)).Pairwise (· < ·):=SS.live_rise owner (mask+1)
 rw[aG2] at d
 refine aI1 (λ{a b} ha hb c e=>?_) d
 obtain⟨j,k⟩:=a
 obtain⟨j',f⟩:=b
 have e:k=f:=e
 subst e
 have:=x.inj j j' k (live_mem.mp ha).2 (live_mem.mp hb).2
 have c:j<j':=c
 lia
theorem ata{mask:Nat}{hs:List Int}{owner:Array (Option Nat)}(x:Lay mask hs owner):((live owner mask).map (·.2)).Perm (List.range hs.length):=by
 refine(List.perm_ext_iff_of_nodup (ay3 x) List.nodup_range).mpr λk=>?_
 rw[aB7,aB9]
 constructor
 ·rintro⟨⟨j,b⟩,h,rfl⟩
  exact x.un j _ (live_mem.mp h).2
 ·intro h
  obtain⟨s,a1,a,_⟩:=x.at' k _ (aA0 h)
  exact⟨((pr mask hs[k] s).j,k),live_mem.mpr ⟨a1,a⟩,rfl⟩
theorem aki{α:Type}(xs:List α)(d : α):∀(l:List Nat),(∀ k∈l,k<xs.length)->l.filterMap (xs[·]?)=l.map λk=>xs.getD k d
 |[],_=>rfl
 | k::l,h=>by
  have a:=h k aB8
  rw[List.filterMap_cons,aA0 a,aD1,aki xs d l λq b=>h q (aB5 _ b),aD4,aA0 a]
  rfl
theorem ay4{mask m finger moves:Nat}{led plain:Bool}(hm:mask+1=2 ^ m)(es:Array (Int × Value))(F:es.size<=mask) :
  ∃ t a es',laid mask finger moves led plain (es.map (·.1))=some (t,a)/\a.filterMap (es[·]?)=es'/\es'.size=es.size/\es'.toList.Perm es.toList/\TOk t/\HI t es'.toList/\t.mask=mask/\t.place.size=es.size/\t.led=led/\t.plain=plain:=by
 obtain⟨owner,e,x⟩:=a1h hm (es.map (·.1)) (by simp;lia)
 have d:(es.map (·.1)).toList.length=es.size:=by simp
 have u:=ata x
 rw[d] at u
 have n:(live owner mask).length=es.size:=by have:=u.length_eq;simpa using this
 have l:=aki es.toList (0,Value.none) ((live owner mask).map (·.2)) λk f=>by rw[aA8];exact aB9.mp (u.mem_iff.mp f)
 have c:((((live owner mask).map (·.2)).toArray).filterMap (es[·]?)).toList=((live owner mask).map (·.2)).map λk=>es.toList.getD k (0,.none):=by
  rw[← l]
  simp
 have o:(((live owner mask).map (·.1)).toArray).toList=(live owner mask).map (·.1):=by simp
 have y:TOk { mask,place:=((live owner mask).map (·.1)).toArray,dummies:=#[],finger,led,moves,plain }:=by
  refine⟨by show(((live owner mask).map (·.1)).toArray).toList.Pairwise _;rw[o];exact SS.live_rise owner (mask+1),rfl,λj b=>?_,⟨m,hm⟩,?_⟩
  ·have b:j∈(live owner mask).map (·.1):=by simpa using b
   obtain⟨⟨j',k⟩,h,rfl⟩:=aB7.mp b
   exact(live_mem.mp h).1
  ·simp only[aB2,aA3]
   lia
 refine⟨_,_,_,by unfold laid;rw[e];rfl,rfl,?_,?_,y,⟨?_,λi q j hi b=>?_⟩,rfl,?_,rfl,rfl⟩
 ·rw[← aA8]
  refine Eq.trans (congrArg List.length c) ?_
  rw[aA3,aA3]
  exact n
 ·refine(List.Perm.of_eq c).trans ?_
  have B:es.toList=(List.range es.size).map λk=>es.toList.getD k (0,.none):=by
   refine aG3 λk=>?_
   rw[aA5]
   by_cases f:k<es.size
   ·rw[aD9 f,aA0 (by rw[aA8];exact f),aI2,aD4,aA0 (by rw[aA8];exact f)]
    rfl
   ·rw[aE3 (by rw[aA8];lia),aE3 (by rw[aE1];lia)]
    rfl
  refine(u.map _).trans ?_
  rw[← B]
 ·refine Eq.trans (congrArg List.length c) ?_
  rw[aA3,aA3]
  simp
 ·have hi:=(congrArg (·[i]?) c).symm.trans hi
  have b:((live owner mask).map (·.1))[i]?=some j:=by simpa using b
  rw[aE0,aA5] at hi
  rw[aA5] at b
  cases hli:(live owner mask)[i]? with
  |none=>rw[hli] at b;cases b
  | some p =>
   obtain⟨j',k⟩:=p
   rw[hli] at hi b
   cases b
   have r:=live_mem.mp (aA2 hli)
   have g:k<es.size:=by have:=x.un _ _ r.2;rwa [d] at this
   have E:q=es.toList.getD k (0,.none):=by simpa using hi.symm
   have hh:(es.map (·.1)).toList[k]?=some q.1:=by
    rw[E,Array.toList_map,aA5,aA0 (by rw[aA8];exact g),aD4,aA0 (by rw[aA8];exact g)]
    rfl
   obtain⟨s,a1,A,C⟩:=x.at' k _ hh
   refine⟨s,x.inj _ _ k A r.2,λs' v z=>?_⟩
   have hn:=C s' v
   cases ho:ow owner (pr mask q.1 s').j with
   |none=>exact hn ho
   | some k' =>
    have w:(pr mask q.1 s').j<=mask:=by
     apply aD5
     intro D
     rw[a1g (by rw[x.sz];lia)] at ho
     cases ho
    refine(adn y).mp z ?_
    show _∈(((live owner mask).map (·.1)).toArray).toList
    rw[o]
    exact aB7.mpr ⟨_,live_mem.mpr ⟨w,ho⟩,rfl⟩
 ·simp only[aB2,aA3]
  exact n
theorem am7(n:Nat):∀(c a:Nat),n<2 ^ (a+c)->∃ b,sizeAbove.go n c (2 ^ a)=2 ^ b/\n<2 ^ b/\a<=b/\(2 ^ b=2 ^ a\/2 ^ b<=2 * n)
 |0,a,h=>⟨a,rfl,by simpa using h,aA6 _,.inl rfl⟩
 | c+1,a,h=>by
  unfold sizeAbove.go
  by_cases hs:2 ^ a<=n
  ·rw[aF6 hs,← Nat.pow_succ]
   obtain⟨b,f,g,i,d⟩:=am7 n c (a+1) (by rw[show a+1+c=a+(c+1) by lia];exact h)
   refine⟨b,f,g,by lia,.inr ?_⟩
   rcases d with d|d
   ·rw[d,Nat.pow_succ];lia
   ·exact d
  ·rw[aF7 hs]
   exact⟨a,rfl,by lia,aA6 _,.inl rfl⟩
theorem avz{n:Nat}(h:n<=100000):∃ m,sizeAbove n=2 ^ m/\n<2 ^ m/\3<=m/\(2 ^ m=8\/2 ^ m<=2 * n):=by
 obtain⟨b,a,c,d,f⟩:=am7 n 64 3 (aE4 h (by decide))
 exact⟨b,a,c,d,f⟩
theorem atb{m n:Nat}(h:2 ^ m<=2 * n)(hn:n<8192):2 ^ m<=8192:=by
 apply aD5
 intro b
 have:13<m:=(Nat.pow_lt_pow_iff_right (a:=2) (by decide)).mp (by show 2 ^ 13<2 ^ m;lia)
 have:=Nat.pow_le_pow_right (n:=2) (by decide) (show 14<=m by lia)
 lia
end SH
namespace SH
open PySem PySem.W PyProof.Rows
section
variable{prog:Program}{w:World}{A:Around}{E:Value->Shared->Prop}{s:Shared}{U:Addr->Prop}
abbrev TK(prog:Program)(w:World):=tupleKind (intKind prog w)
theorem ahg{ks:List Int}{a:Addr}{Q:Bool->Shared->Prop}(f:(TK prog w).is s.heap ks a)(h:Q false s):wpAny (model prog w) A (ofAClassStatement 8 (.ref a)) Q E s:=by
 have i:=IsTupleKey.typeIs f
 obtain⟨o,items,n,j,_,hd,hi⟩:=f
 unfold ofAClassStatement
 refine aJ1 (wpAny_typeOf i ?_)
 show wpAny _ _ (pure true >>= _) _ _ s
 refine aJ1 (aJ2 ?_)
 simp only[Bool.not_true,Bool.false_eq_true,if_false]
 refine aJ1 (wpAny_seqItems j hd ?_)
 refine aJ1 ?_
 show wpAny _ _ (forIn items _ _) _ _ s
 rw[← Array.forIn_toList]
 refine wpAny_forIn_list _ (λrest r s'=>r.1=none/\s'=s/\∀ v∈rest,carriedByValue v=true) _ ?_ ?_ _ _ ⟨rfl,rfl,hi.byValue⟩
 ·rintro v rest r s' ⟨d,rfl,b⟩
  have g:=b v aB8
  have e:ofAClassStatement 7 v=pure false:=by
   cases v <;> first|(simp[carriedByValue] at g;done)|(unfold ofAClassStatement;rfl)
  rw[e]
  refine aJ1 (aJ2 ?_)
  simp only[Bool.false_eq_true,if_false]
  exact aJ2 ⟨rfl,rfl,λu c=>b u (aB5 _ c)⟩
 ·rintro⟨m,l⟩ s' ⟨d,rfl,_⟩
  simp only at d
  subst d
  exact aJ2 h
theorem aq3{ks:List Int}{vs:List Value}(h:ItemsAre (intKind prog w) ks vs):∀ v∈vs,∃ i t,v=.int i t:=by
 induction h with
 |nil=>intro v a;cases a
 | cons h1 _ ih =>
  intro v a
  rcases aA9.mp a with rfl|a
  ·obtain⟨t,rfl⟩:=Value.isInt_shape h1
   exact⟨_,t,rfl⟩
  ·exact ih v a
theorem aoc{ks:List Int}{a:Addr}{Q:Bool->Shared->Prop}(f:(TK prog w).is s.heap ks a)(h:Q true s):wpAny (model prog w) A (hashByValue 8 (.ref a)) Q E s:=by
 have g:=IsTupleKey.typeIs f
 obtain⟨o,items,n,j,_,hd,hi⟩:=f
 unfold hashByValue
 refine aJ1 (wpAny_specialOf g F.slot_tuple_hash.lookup ?_)
 show wpAny _ _ (seqItems? (.ref a) >>= _) _ _ s
 refine aJ1 (wpAny_seqItems j hd ?_)
 refine aJ1 ?_
 show wpAny _ _ (forIn items _ _) _ _ s
 rw[← Array.forIn_toList]
 refine wpAny_forIn_list _ (λrest r s'=>r.1=none/\s'=s/\∀ v∈rest,∃ i t,v=Value.int i t) _ ?_ ?_ _ _ ⟨rfl,rfl,aq3 hi⟩
 ·rintro v rest r s' ⟨d,rfl,b⟩
  obtain⟨i,t,rfl⟩:=b v aB8
  have e:hashByValue 7 (.int i t)=pure true:=by unfold hashByValue;rfl
  rw[e]
  refine aJ1 (aJ2 ?_)
  simp only[Bool.not_true,Bool.false_eq_true,if_false]
  exact aJ2 ⟨rfl,rfl,λu c=>b u (aB5 _ c)⟩
 ·rintro⟨m,l⟩ s' ⟨d,rfl,_⟩
  simp only at d
  subst d
  exact aJ2 h
theorem a1i{j:List Int}{b0:Addr}{stored:List Value}{Q:Bool->Shared->Prop}(i:(TK prog w).is s.heap j b0)(g:∀ v∈stored,∃ k b,v=.ref b/\(TK prog w).is s.heap k b)(h:Q false s):wpAny (model prog w) A (searchCouldBeSeen (.ref b0) stored) Q E s:=by
 unfold searchCouldBeSeen
 refine aJ1 ?_
 refine wpAny_forIn_list _ (λrest r s'=>r.1=none/\s'=s/\∀ v∈rest,∃ k b,v=.ref b/\(TK prog w).is s.heap k b) _ ?_ ?_ _ _ ⟨rfl,rfl,g⟩
 ·rintro v rest r s' ⟨f,rfl,c⟩
  obtain⟨k,b,rfl,hb⟩:=c v aB8
  have a:∀ u∈rest,∃ k b,u=Value.ref b/\(TK prog w).is s'.heap k b:=λu d=>c u (aB5 _ d)
  dsimp only
  split
  ·exact aJ2 ⟨rfl,rfl,a⟩
  ·refine aJ1 ((TK prog w).quiet i ?_)
   simp only[Bool.not_true,Bool.false_eq_true,if_false]
   refine aJ1 ((TK prog w).quiet hb ?_)
   simp only[Bool.not_true,Bool.false_eq_true,if_false]
   refine aJ1 (ahg i ?_)
   simp only[Bool.false_eq_true,if_false]
   refine aJ1 (ahg hb ?_)
   simp only[Bool.false_eq_true,if_false]
   exact aJ2 ⟨rfl,rfl,a⟩
 ·rintro⟨m,l⟩ s' ⟨f,rfl,_⟩
  simp only at f
  subst f
  exact aJ2 h
theorem a2u(mask:Nat)(h:Int):∀ k,(pr mask h k).j+(pr mask h k).more<=mask:=λk=>by
 have run:∀ i,i<mask+1->i+(SetTable.runEnd mask i-i)<=mask:=λi hi=>by unfold SetTable.runEnd;split <;> lia
 induction k with
 |zero=>exact run _ (Nat.mod_lt _ (Nat.succ_pos _))
 | succ k ih =>
  show(adv mask (pr mask h k)).j+(adv mask (pr mask h k)).more<=mask
  unfold adv
  split
  ·dsimp only;lia
  ·exact run _ (Nat.mod_lt _ (Nat.succ_pos _))
structure ST(prog:Program)(w:World)(U:Addr->Prop)(a:Addr)(es:Array (Int × Value))(ep:Nat)(t:SetTable)(ks:List (List Int))(h:Heap):Prop where
 r:SS.SetR prog w a es ep t h
 ok:TOk t
 hi:HI t es.toList
 pl:t.plain=true
 msk:7<=t.mask/\t.mask<=8191
 len:ks.length=es.size
 gd:∀(i:Nat) e k,es.toList[i]?=some e->ks[i]?=some k->∃ b,e=((TK prog w).hash k,.ref b)/\(TK prog w).is h k b/\U b
 nd:ks.Nodup
theorem ST.stored{a:Addr}{es:Array (Int × Value)}{ep:Nat}{t:SetTable}{ks:List (List Int)}{h:Heap}(x:ST prog w U a es ep t ks h){e:Int × Value}(c:e∈es.toList):∃ k b,e=((TK prog w).hash k,.ref b)/\(TK prog w).is h k b/\U b:=by
 obtain⟨i,hi⟩:=aD3 c
 have g:i<ks.length:=by rw[x.len,← aA8];exact(aA1.mp hi).1
 obtain⟨b,d,f⟩:=x.gd i e _ hi (aA0 g)
 exact⟨_,b,d,f⟩
theorem aod{a b0:Addr}{es:Array (Int × Value)}{ep:Nat}{t:SetTable}{ks:List (List Int)}{n:List Int}{Q:SetFound->Shared->Prop}(hu:(TK prog w).room A)(x:ST prog w U a es ep t ks s.heap)(P:(TK prog w).is s.heap n b0)
  (h1:n∈ks->Q (.there none) s) (h2:n ∉ ks->∀ k1,(pr t.mask ((TK prog w).hash n) k1).j<=t.mask->t.slot (pr t.mask ((TK prog w).hash n) k1).j=.empty->(∀ l,l<k1->t.slot (pr t.mask ((TK prog w).hash n) l).j ≠ .empty)->Q (.free (pr t.mask ((TK prog w).hash n) k1).j false) s) :
  ∀(c D:Nat)(g:Option SetTable.Probe),c+D > 10 * SetTable.turns t.mask->g.getD (t.probeStart ((TK prog w).hash n))=pr t.mask ((TK prog w).hash n) D->(∀ l,l<D->∃ i,t.slot (pr t.mask ((TK prog w).hash n) l).j=.live i/\ks[i]? ≠ some n) ->
   wpAny (model prog w) A (setSearchFrom a (.ref b0) ((TK prog w).hash n) true c g) Q E s:=by
 obtain⟨o,ho,hx,hd,hf,hT⟩:=id x.r
 generalize hhx:(TK prog w).hash n=hx0 at *
 obtain⟨je,T,B⟩:=as9 x.ok
 obtain⟨m,hm⟩:=x.ok.two
 obtain⟨R,a6,H⟩:=a1f hm hx0 je T
 have X:t.gaveWay=false:=by
  unfold SetTable.gaveWay
  have:m ≠ 0:=λz=>by rw[z] at hm;have:=x.msk.1;simp at hm;lia
  obtain⟨m',rfl⟩:=Nat.exists_eq_succ_of_ne_zero this
  rw[Nat.pow_succ] at hm
  have:t.mask % 2=1:=by lia
  rw[this];rfl
 intro c
 induction c with
 | zero =>
  intro D g S _ p
  exfalso
  obtain⟨i,hi,_⟩:=p R (by lia)
  rw[H,B] at hi
  cases hi
 | succ c ih =>
  intro D g S a5 p
  have Y:D<=R:=by
   apply aD5
   intro hc
   obtain⟨i,hi,_⟩:=p R (by lia)
   rw[H,B] at hi
   cases hi
  unfold setSearchFrom
  refine aJ1 (wpAny_setState_of ho hd hf ?_)
  dsimp only
  rw[X]
  simp only[Bool.false_eq_true,if_false]
  rw[a5]
  obtain⟨k1,a1,a2,a3,a4⟩:=am5 x.ok (ha:=λi=>(es[i]?.map (·.1)).getD 0) (h:=hx0) (10 * SetTable.turns t.mask) D ⟨R,Y,by lia,by rw[H];exact B⟩
  have d:∀ l,l<k1->∃ i,t.slot (pr t.mask hx0 l).j=.live i/\ks[i]? ≠ some n:=λl u=>by
   by_cases hkk:l<D
   ·exact p l hkk
   ·obtain⟨i,hi,I⟩:=a3 l (by lia) u
    refine⟨i,hi,λZ=>?_⟩
    have J:=(ad3 x.ok).mp hi
    have f:i<es.toList.length:=by rw[x.hi.1,← aA8];exact(aA1.mp J).1
    obtain⟨b,L,_⟩:=x.gd i _ _ (aA0 f) Z
    apply I
    rw[← aD6,aA0 f,L]
    exact hhx
  generalize hp:t.probe _ hx0 (pr t.mask hx0 D)=pp
  rcases a4 with ⟨e,F⟩|⟨i,e,a7,F⟩
  ·have G:pp=some (.empty (pr t.mask hx0 k1).j none):=hp.symm.trans F
   subst G
   dsimp only
   refine aJ2 (h2 (λhm=>?_) k1 ?_ e λl u z=>?_)
   ·obtain⟨i,hi⟩:=aD3 hm
    have f:i<es.toList.length:=by rw[aA8,← x.len];exact(aA1.mp hi).1
    obtain⟨b,L,_⟩:=x.gd i _ _ (aA0 f) hi
    obtain⟨k,P,hs⟩:=x.hi.found x.ok e (aA0 f) (by rw[L];exact hhx)
    obtain⟨O,K,I⟩:=d k P
    rw[hs] at K
    cases K
    exact I hi
   ·exact aD0 (Nat.le_add_right _ _) (a2u t.mask hx0 k1)
   ·obtain⟨i,hi,_⟩:=d l u
    rw[z] at hi
    cases hi
  ·have G:pp=some (.candidate (pr t.mask hx0 k1).j i (pr t.mask hx0 (k1+1))):=hp.symm.trans F
   subst G
   have J:=(ad3 x.ok).mp e
   have f:i<es.toList.length:=by rw[x.hi.1,← aA8];exact(aA1.mp J).1
   have C:i<ks.length:=by rw[x.len,← aA8];exact f
   obtain⟨b,L,e2⟩:=x.gd i _ _ (aA0 f) (aA0 C)
   have N:es[i]?=some ((TK prog w).hash ks[i],.ref b):=by rw[← aD6,aA0 f,L]
   have rest:wpAny (model prog w) A (do
     let some (_,y):=es[i]?|unsupported "internal:set-entry"
     let equal ← holding [y] (eqBool y (.ref b0))
     let (es',_,t') ← setState a
     if true && equal then return .there none
     let some same:=t'.sameMemory t.moves t.mask|unsupported "set.changed-during-lookup:is-the-new-block-at-the-old-address"
     let still ← match (if same then t'.slot (pr t.mask hx0 k1).j else .empty) with
      | .live O=>match es'[O]? with
       |some (_,y')=>do pure (if ← isSame y' y then some O else none)
       |none=>pure none
      |_=>pure none
     match still with
     |none=>rule "set.search.anew";setSearchFrom a (.ref b0) hx0 true c none
     |some O=>if equal then return .there (some O) else setSearchFrom a (.ref b0) hx0 true c (some (pr t.mask hx0 (k1+1)))) Q E s:=by
    rw[N]
    dsimp only
    refine aJ1 (aJ7 ((TK prog w).eqBool hu e2.1 P ?_))
    refine aJ1 (wpAny_setState_of ho hd hf ?_)
    dsimp only
    by_cases heq:ks[i]=n
    ·rw[aD8 heq]
     simp only[Bool.and_self,if_true]
     exact aJ2 (h1 (by rw[← heq];exact aF3 C))
    ·rw[aD7 heq]
     simp only[Bool.and_false,Bool.false_eq_true,if_false]
     have a0:t.sameMemory t.moves t.mask=some true:=by
      unfold SetTable.sameMemory
      rw[aF6 (beq_self_eq_true _)]
     rw[a0]
     dsimp only
     rw[aF6 rfl,e]
     dsimp only
     rw[N]
     dsimp only
     refine aJ1 (wpAny_isSame_ref_self ?_)
     refine aJ1 (aJ2 ?_)
     rw[aF6 rfl]
     dsimp only
     refine ih (k1+1) (some _) (by lia) rfl λl u=>?_
     rcases Nat.lt_or_eq_of_le (Nat.le_of_lt_succ u) with W|M
     ·exact d l W
     ·refine⟨i,by rw[M];exact e,λz=>heq ?_⟩
      rw[aA0 C] at z
      exact aC6 z
   dsimp only
   cases hled:t.led with
   | true =>
    simp only[Bool.not_true,Bool.false_eq_true,if_false]
    exact rest
   | false =>
    simp only[Bool.not_false,if_true]
    refine aJ1 (a1i P (λv hv=>?_) ?_)
    ·obtain⟨q,hq,rfl⟩:=aB7.mp hv
     have hq:q∈es.toList:=by
      have:=Array.mem_toList_iff.mp hq
      exact Array.mem_toList_iff.mpr (Array.mem_filter.mp this).1
     obtain⟨k,b,rfl,hb⟩:=x.stored hq
     exact⟨k,b,rfl,hb.1⟩
    ·simp only[Bool.false_eq_true,if_false]
     exact rest
theorem ST.at{a:Addr}{es:Array (Int × Value)}{ep:Nat}{t:SetTable}{ks:List (List Int)}{h h':Heap}(x:ST prog w U a es ep t ks h)(k:∀ o,h.get? a=some o->h'.get? a=some o)(g:∀ b ks,U b->(TK prog w).is h ks b->(TK prog w).is h' ks b):ST prog w U a es ep t ks h' :=
 ⟨x.r.at k,x.ok,x.hi,x.pl,x.msk,x.len,λi e q j d=>let ⟨b,f,c⟩:=x.gd i e q j d;⟨b,f,g b q c.2 c.1,c.2⟩,x.nd⟩
def SetT(prog:Program)(w:World)(U:Addr->Prop)(a:Addr)(L:List (List Int))(h:Heap):Prop:=∃ es ep t ks,ST prog w U a es ep t ks h/\t.place.size * 5<t.mask * 3/\ks.Perm L
theorem am8{a b:Addr}{ks:List Int}{h h':Heap}(hs:Heap.SameBut a h h')(g:(TK prog w).is h ks b){o:Obj}(i:h.get? a=some o)(j:o.ExactSet):(TK prog w).is h' ks b:=by
 obtain⟨f,items,n,d,c,r⟩:=g
 refine⟨f,items,n,?_,c,r⟩
 rw[hs.2 b λz=>?_]
 ·exact d
 ·subst z
  rw[i] at d
  cases d
  rw[j.1] at c
  exact absurd c (by decide)
theorem aps{t:SetTable}{n:Nat}(x:TOk t)(h:t.place.size=n):t.fits n=true:=by
 unfold SetTable.fits SetTable.fill
 rw[x.dum,h,beq_self_eq_true,Bool.true_and,decide_eq_true_eq]
 have:=x.room
 show n+0<=t.mask
 lia
theorem am9{α:Type}(l:List α)(x : α)(p:Nat):(l.take p++x::l.drop p).Perm (x::l):=by
 have h:=List.perm_middle (a:=x) (l₁:=l.take p) (l₂:=l.drop p)
 rw[aC1] at h
 exact h
theorem av0{a:Addr}{es:Array (Int × Value)}{ep:Nat}{t:SetTable}{ks:List (List Int)}{Q:Unit->Shared->Prop}(x:ST prog w U a es ep t ks s.heap)(hz:es.size<=2040)(T:1<=es.size)
  (h:∀ h',Heap.SameBut a s.heap h'->∀ es' F t' y,ST prog w U a es' F t' y h'->t'.place.size * 5<t'.mask * 3->y.Perm ks->Q () { s with heap:=h' }):wpAny (model prog w) A (setRelay a (SetTable.grown es.size)) Q E s:=by
 obtain⟨o,O,hx,hd,hf,hT⟩:=id x.r
 have G:SetTable.grown es.size=es.size * 4:=by unfold SetTable.grown;rw[aF7 (by lia)]
 rw[G]
 obtain⟨m,R,Z,P,J⟩:=avz (n:=es.size * 4) (by lia)
 have h8:8<=2 ^ m:=Nat.pow_le_pow_right (n:=2) (by decide) P
 have X:2 ^ m<=8192:=by
  rcases J with h|h
  ·lia
  ·exact atb h (by lia)
 unfold setRelay
 refine aJ1 (wpAny_setState_of O hd hf ?_)
 dsimp only
 rw[R,aF7 (by rw[sizeLine_eq];lia)]
 obtain⟨l,d,c,e1,e2,M,S,g,K,a0,I,el,H⟩:=ay4 (mask:=2 ^ m-1) (m:=m) (finger:=t.finger) (moves:=t.movedTo (2 ^ m-1)) (led:=t.led) (plain:=t.plain) (by lia) es (by lia)
 have er:t.relaid (es.map (·.1)) (es.size * 4)=some (l,d):=by
  unfold SetTable.relaid
  rw[R]
  exact e1
 rw[er]
 refine aJ1 ?_
 show wpAny _ _ (do
  let es':=d.filterMap (es[·]?)
  if es'.size != es.size then unsupported "internal:set-table-lost-an-element"
  pure (es',l)) _ _ _
 rw[e2]
 dsimp only
 rw[aF7 (by rw[M];simp)]
 refine aJ2 ?_
 dsimp only
 refine wpAny_storeSet_of O hd ?_ (by rw[M,sizeLine_eq];lia)
 have sb:=Heap.SameBut.update s.heap a (Obj.putSet c l)
 have r2:=x.r.put (es':=c) (t':=l) (aps g (by rw[M];exact I)) ⟨λhb=>by rw[el];exact hT.led hb,g.dum,λ_=>g.ris⟩
 have Y:∀ q b,(TK prog w).is s.heap q b->(TK prog w).is (s.heap.update a (Obj.putSet c l)) q b:=λq b hq=>am8 sb hq O hx
 have B:∃ f:Int × Value->List Int,∀ e∈es.toList,∃ b,e=((TK prog w).hash (f e),.ref b)/\(TK prog w).is s.heap (f e) b/\U b:=by
  have:=Classical.skolem (p:=λ(e:Int × Value)(k:List Int)=>e∈es.toList->∃ b,e=((TK prog w).hash k,Value.ref b)/\(TK prog w).is s.heap k b/\U b)
  exact this.mp λe=>by
   by_cases he:e∈es.toList
   ·obtain⟨k,b,T,h2⟩:=x.stored he
    exact⟨k,λ_=>⟨b,T,h2⟩⟩
   ·exact⟨[],λz=>absurd z he⟩
 obtain⟨f,v⟩:=B
 have N:ks=es.toList.map f:=by
  refine aG3 λi=>?_
  rw[aA5]
  by_cases hi:i<ks.length
  ·have j:i<es.toList.length:=by rw[aA8,← x.len];exact hi
   rw[aA0 hi,aA0 j,aI2]
   obtain⟨b,D,C⟩:=x.gd i _ _ (aA0 j) (aA0 hi)
   obtain⟨b',g3,g4⟩:=v _ (aF3 j)
   have L:Value.ref b=.ref b':=(Prod.ext_iff.mp (D.symm.trans g3)).2
   cases L
   rw[(TK prog w).inj C.1 g4.1]
  ·rw[aE3 (by lia),aE3 (by rw[aA8,← x.len];lia)]
   rfl
 have u:(c.toList.map f).Perm ks:=by rw[N];exact S.map f
 refine h _ sb c _ l (c.toList.map f) ⟨r2,g,K,by rw[H];exact x.pl,by lia,by rw[aA3,aA8],λi e k D C=>?_,u.nodup_iff.mpr x.nd⟩ (by lia) u
 rw[aA5,D] at C
 cases C
 obtain⟨b,q1,W⟩:=v e (S.mem_iff.mp (aA2 D))
 exact⟨b,q1,Y _ b W.1,W.2⟩
theorem atc{a b0:Addr}{L:List (List Int)}{d:List Int}{Q:Bool->Shared->Prop}(hu:(TK prog w).room A)(x:SetT prog w U a L s.heap)(P:(TK prog w).is s.heap d b0)(hU:U b0)(hb:L.length+1<=2040)
  (h:∀ b h',Heap.SameBut a s.heap h'->SetT prog w U a (if d∈L then L else L++[d]) h'->Q b { s with heap:=h' }):wpAny (model prog w) A (setAddHashed a (.ref b0) ((TK prog w).hash d)) Q E s:=by
 obtain⟨es,ep,t,ks,x,a1,F⟩:=x
 obtain⟨o,N,hx,hd,hf,hT⟩:=id x.r
 have hsz:es.size=L.length:=by rw[← F.length_eq,x.len]
 have a5:t.place.size=es.size:=by have:=x.hi.1;rw[aA8] at this;lia
 unfold setAddHashed setAddHashedIn
 refine aJ7 (aJ1 (wpAny_setState_of N hd hf ?_))
 dsimp only
 have a4:byScan (.ref b0) es=false:=rfl
 rw[a4]
 simp only[Bool.false_eq_true,if_false]
 unfold setSearch
 refine aJ1 (aod hu x P (λhm=>?_) (λhm k1 hj M a2=>?_) 100000 0 none ?_ rfl λk' a3=>absurd a3 (Nat.not_lt_zero _))
 ·refine aJ2 ?_
  have e:s={ s with heap:=s.heap }:=by cases s;rfl
  have:=h false s.heap (Heap.SameBut.refl a s.heap) (by rw[aF6 (F.mem_iff.mp hm)];exact⟨es,ep,t,ks,x,a1,F⟩)
  rw[e];exact this
 ·have H:d ∉ L:=λz=>hm (F.mem_iff.mpr z)
  have g:t.place.size+1<=t.mask:=by have:=x.msk.1;lia
  obtain⟨j,J⟩:∃ j,j=(pr t.mask ((TK prog w).hash d) k1).j:=⟨_,rfl⟩
  rw[← J] at hj M ⊢
  dsimp only
  refine aJ1 (wpAny_setState_of N hd hf ?_)
  dsimp only
  have p:(t.put j).1.plain=true:=x.pl
  rw[aF6 p]
  refine aJ1 (aoc P ?_)
  rw[aF6 rfl]
  have a6:=(SS.below_ok t.place j x.ok.ris).1
  obtain⟨c,n⟩:∃ c,c=SetTable.insertAt es (t.put j).2 ((TK prog w).hash d,Value.ref b0):=⟨_,rfl⟩
  have f:c.toList=es.toList.take (SetTable.below t.place j)++((TK prog w).hash d,Value.ref b0)::es.toList.drop (SetTable.below t.place j):=by rw[n];exact SetTable.toList_insertAt ..
  have l:c.size=es.size+1:=by
   rw[← aA8,f,aB1,aE6,aH1,aI8,aA8]
   lia
  have v:=x.ok.put hj M g
  have D:HI (t.put j).1 c.toList:=by
   rw[f]
   exact x.hi.put x.ok hj g (e:=((TK prog w).hash d,Value.ref b0)) (k1:=k1) J.symm M a2
  have K:(t.put j).1.place.size=c.size:=by have:=D.1;rw[aA8] at this;exact this.symm
  have B:(t.put j).1.fits c.size=true:=aps v K
  rw[← n]
  refine aJ1 (wpAny_storeSet_of N hd ?_ (by rw[l];rw[sizeLine_eq];lia))
  have r1:=x.r.put (es':=c) (t':=(t.put j).1) B (hT.put M)
  have y:=Heap.SameBut.update s.heap a (Obj.putSet c (t.put j).1)
  have T:∀ q b,(TK prog w).is s.heap q b->(TK prog w).is (s.heap.update a (Obj.putSet c (t.put j).1)) q b:=λq b hq=>am8 y hq N hx
  have x1:ST prog w U a c (ep+1) (t.put j).1 (ks.take (SetTable.below t.place j)++d::ks.drop (SetTable.below t.place j)) (s.heap.update a (Obj.putSet c (t.put j).1)):=by
   have Y:SetTable.below t.place j<=ks.length:=by rw[x.len];lia
   have Z:SetTable.below t.place j<=es.toList.length:=by rw[aA8];lia
   refine⟨r1,v,D,p,x.msk,?_,λi e k u m=>?_,?_⟩
   ·rw[aB1,aE6,aH1,aI8,l,← x.len]
    lia
   ·rw[f,ins_get _ _ _ Z] at u
    rw[ins_get _ _ _ Y] at m
    by_cases c1:i<SetTable.below t.place j
    ·rw[aF6 c1] at u m
     obtain⟨b,W,C⟩:=x.gd i e k u m
     exact⟨b,W,T k b C.1,C.2⟩
    ·rw[aF7 c1] at u m
     by_cases c2:i=SetTable.below t.place j
     ·rw[aF6 c2] at u m
      cases u
      cases m
      exact⟨b0,rfl,T d b0 P,hU⟩
     ·rw[aF7 c2] at u m
      obtain⟨b,W,C⟩:=x.gd (i-1) e k u m
      exact⟨b,W,T k b C.1,C.2⟩
   ·refine(am9 ks d _).nodup_iff.mpr (aI5.mpr ⟨hm,x.nd⟩)
  have I:(ks.take (SetTable.below t.place j)++d::ks.drop (SetTable.below t.place j)).Perm (L++[d]):=(am9 ks d _).trans ((F.cons d).trans (List.perm_append_singleton d L).symm)
  by_cases hfull:(t.put j).1.tooFull=true
  ·rw[aF6 (by rw[hfull];rfl)]
   rw[← l]
   refine aJ1 (av0 (s:={ s with heap:=s.heap.update a (Obj.putSet c (t.put j).1) }) x1 (by lia) (by lia) λh' O S R t2 a0 x2 G X=>?_)
   refine aJ2 (h true h' (y.trans O) ?_)
   rw[aF7 H]
   exact⟨S,R,t2,a0,x2,G,X.trans I⟩
  ·rw[aF7 (by intro z;exact hfull (by simpa using z))]
   refine aJ2 ?_
   refine h true _ y ?_
   rw[aF7 H]
   refine⟨c,ep+1,_,_,x1,?_,I⟩
   unfold SetTable.tooFull SetTable.fill at hfull
   rw[v.dum] at hfull
   simp at hfull
   lia
 ·have:=x.msk.2
  unfold SetTable.turns
  lia
end
end SH
namespace SS
open PySem PySem.W PyProof.Rows
section
variable{prog:Program}{w:World}{A:Around}{E:Value->Shared->Prop}{s:Shared}
def ab5(w:World):Obj:={ cls:=.type "set",dict:=none,data:=.set #[] 0 (.fresh 0 0 (!bt w)) }
theorem av1(a:Value){Q₁:Value->Shared->Prop}(h:Q₁ (.ref s.heap.objs.size) { s with heap:=s.heap.push (ab5 w) }) :
  codeAny (model prog w) A (.call (.builtin "set.__new__") ⟨[.type "set",a],[]⟩) (wants Q₁ E) s:=by
 refine codeAny_of_tree ?_
 show wpAny _ A.in1 (do checkBuiltinCall "set.__new__" ⟨[.type "set",a],[]⟩;again (.builtin "set.__new__" ⟨[.type "set",a],[]⟩)) _ _ s
 refine aJ1 (wpAny_of_eq (PySem.F.newCall_set_1 a) (aJ2 ⟨plainId_quiet PySem.F.plain_set_new _,aK8 PySem.F.entry_set_new ?_⟩))
 rw[aK2 PySem.F.plain_set_new _]
 unfold Builtin.«set.__new__» Builtin.Frozenset.newClass
 have b:=sub_set_self
 obtain⟨c,g,d,f,os⟩:=s
 dsimp only
 wp_walk
 refine wpAny_askSetting (aJ2 ?_)
 dsimp only
 simp only[newObj]
 refine aJ1 (wpAny_alloc (aJ2 ?_))
 exact aJ2 h
section
variable{R:Result->Shared->Prop}{I:Addr}{fp wr:List Addr}{n:Nat}{P:Nat->Value->Prop}{St:Nat->Heap->Prop}
end
end
end SS
namespace SH
open PySem PySem.W PyProof.Rows SS
section
variable{prog:Program}{w:World}{A:Around}{E:Value->Shared->Prop}{s:Shared}{U:Addr->Prop}
theorem ay5(h:Heap):SetT prog w U h.objs.size [] (h.push (ab5 w)):=by
 have tok:TOk (SetTable.fresh 0 0 (!bt w)):=⟨List.Pairwise.nil,rfl,λj a=>(nomatch a),⟨3,rfl⟩,aG1 _⟩
 have hi:HI (SetTable.fresh 0 0 (!bt w)) ([]:List (Int × Value)):=⟨rfl,λi e j hi=>(nomatch hi)⟩
 exact⟨#[],0,_,[],⟨⟨_,aJ5 _ rfl,⟨rfl,rfl,rfl⟩,rfl,rfl,TbI.fresh _ _ _⟩,tok,hi,rfl,⟨aA6 7,show(7:Nat)<=8191 by decide⟩,rfl,λi e k hi=>(nomatch hi),List.nodup_nil⟩,show(0:Nat) * 5<7 * 3 by decide,.refl _⟩
section
variable{R:Result->Shared->Prop}{I:Addr}{fp wr:List Addr}{n:Nat}{P:Nat->Value->Prop}{St:Nat->Heap->Prop}
theorem a2v(W:Walks prog w A.in1 I fp wr n P St)(S:Addr)(N:S ∉ fp)(hu:(TK prog w).room A.in1)(h0:Heap)(val:Nat->List Int)(tup:Nat->Addr)(Q:∀ i v,P i v->v=.ref (tup i))(hU:∀ i,i<n->U (tup i))(X:∀ b,U b->b ≠ S/\b ∉ wr)(hb:n+1<=2040)
  (l:∀ h',(∀ b o,b ≠ S->b ∉ wr->h0.get? b=some o->h'.get? b=some o)->∀ i,i<n->(TK prog w).is h' (val i) (tup i)) :
  ∀(k i:Nat)(s:Shared)(L:List (List Int)),n-i=k->i<=n->St i s.heap->(∀ b o,b ≠ S->b ∉ wr->h0.get? b=some o->s.heap.get? b=some o)->SetT prog w U S L s.heap->L.Nodup->L.length<=i->(∀ x,x∈L ↔ ∃ j,j<i/\val j=x) ->
   (∀ h' H E,(∀ b o,b ≠ S->b ∉ wr->s.heap.get? b=some o->h'.get? b=some o)->SetT prog w U S E h'->E.Nodup->E.length<=n->(∀ x,x∈E ↔ ∃ j,j<n/\val j=x)->R (.ok (.ret .none)) { s with heap:=h',toks:=H }) ->
   codeAny (model prog w) A (.builtin "set.update.loop" ⟨[.ref S,.ref I],[]⟩) R s:=by
 have a0:S ∉ wr:=λh=>N (W.sub _ h)
 have mv:∀{h h':Heap}{L:List (List Int)},SetT prog w U S L h->(∀ b o,b ∉ wr->h.get? b=some o->h'.get? b=some o)->SetT prog w U S L h':=λ{h h' L} x hm=>by
  obtain⟨es,ep,t,ks,x,r⟩:=x
  exact⟨es,ep,t,ks,x.at (λo e=>hm S o a0 e) (λb ks hb ⟨o,items,m,e,q⟩=>⟨o,items,m,hm b o (X b hb).2 e,q⟩),r⟩
 intro k
 induction k with
 | zero =>
  intro i s L T hi u K hS f g c Z
  have a2:i=n:=by lia
  subst a2
  refine aK8 PyProof.Rows.F.entry_set_update_loop ?_
  rw[aK2 PyProof.Rows.F.plain_set_update_loop _]
  show wpAny _ A.in1 (pyNext (.ref I) >>= _) _ _ s
  refine aJ1 (W.done s _ _ u λh' H T=>?_)
  show wpAny _ A.in1 (ret Value.none) _ _ _
  exact aJ2 (Z h' H L (λb o _ hb e=>T b o hb e) (mv hS T) f g c)
 | succ k ih =>
  intro i s L T hi u K hS f g c Z
  have d:i<n:=by lia
  refine aK8 PyProof.Rows.F.entry_set_update_loop ?_
  rw[aK2 PyProof.Rows.F.plain_set_update_loop _]
  show wpAny _ A.in1 (pyNext (.ref I) >>= _) _ _ s
  refine aJ1 (W.item i s _ _ d u λv D H hP M B=>?_)
  have ev:=Q i v hP
  subst ev
  have a3:SetT prog w U S L D:=mv hS B
  have y:∀ b o,b ≠ S->b ∉ wr->h0.get? b=some o->D.get? b=some o:=λb o b1 p e=>B b o p (K b o b1 p e)
  show wpAny _ A.in1 (holding [Value.ref (tup i)] (setAdd S (.ref (tup i))) >>= _) _ _ _
  refine aJ1 (aJ7 ?_)
  unfold setAdd
  refine aJ7 ?_
  refine aJ1 ((TK prog w).pyHash hu (l D y i d) ?_)
  refine atc (s:={ s with heap:=D,toks:=H+(TK prog w).draws (val i) }) hu a3 (l D y i d) (hU i d) (by lia) λb h' C Y=>?_
  refine aJ2 ⟨plainId_quiet PyProof.Rows.F.plain_set_update_loop _,ih (i+1) _ _ (by lia) d (W.frame _ D _ M λb hb o e=>?_) (λb o b1 p e=>?_) Y ?_ ?_ ?_ λa1 J E G O n1 n2 n3=>?_⟩
  ·rw[C.2 b (λh:b=S=>N (by rw[← h];exact hb))];exact e
  ·show h'.get? b=some o
   rw[C.2 b b1];exact y b o b1 p e
  ·split
   ·exact f
   ·rename_i hm
    rw[aE9]
    refine⟨f,by simp,λa ha b hb=>?_⟩
    rw[aC2] at hb;subst hb
    exact λz=>hm (z ▸ ha)
  ·split
   ·lia
   ·rw[aB1,List.length_singleton];lia
  ·intro x
   have a4:x∈(if val i∈L then L else L++[val i]) ↔ x∈L\/x=val i:=by
    split
    ·rename_i hm;exact⟨.inl,λh=>h.elim id λe=>e ▸ hm⟩
    ·simp
   rw[a4,c x]
   constructor
   ·rintro(⟨j,a,b⟩|rfl)
    ·exact⟨j,by lia,b⟩
    ·exact⟨i,by lia,rfl⟩
   ·rintro⟨j,a,b⟩
    by_cases e:j=i
    ·subst e;exact .inr b.symm
    ·exact .inl ⟨j,by lia,b⟩
  ·refine Z a1 J E (λb o b1 p e=>G b o b1 p ?_) O n1 n2 n3
   show h'.get? b=some o
   rw[C.2 b b1]
   exact B b o p e
end
theorem call_setT{U:Addr->Prop}{l:Addr}{items:Array Value}{n:Nat}{val:Nat->List Int}{tup:Nat->Addr}{Q:Value->Shared->Prop}
  (hh:A.handled=none) (hu:(TK prog w).room A.in1.in1.in1) (hl:s.heap.IsList l items) (hP:∀(i:Nat)(v:Value),items[i]?=some v->v=Value.ref (tup i)) (hi:∀ i,i<items.size->(TK prog w).is s.heap (val i) (tup i)) (hU:∀ i,i<items.size->U (tup i)) (K:∀ b,U b->b<s.heap.objs.size) (hb:items.size+1<=2040)
  (h:∀(h':Heap)(y:Nat)(L:List (List Int)),SetT prog w U s.heap.objs.size L h'->L.Nodup->L.length<=items.size->(∀ x,x∈L ↔ ∃ j,j<items.size/\val j=x) ->
   (∀ b o,s.heap.get? b=some o->h'.get? b=some o)->Q (.ref s.heap.objs.size) { s with heap:=h',toks:=y }) :
  wpAny (model prog w) A (call (.type "set") [.ref l]) Q E s:=by
 obtain⟨c,tl,a1⟩:=PySem.F.called_set.mro
 have X:=PySem.F.called_set.made
 have a2:=PySem.F.called_set.sub
 refine wpAny_call (codeAny_of_tree ?_)
 show wpAny _ _ (callAny (.type "set") _) _ _ _
 refine aJ2 ⟨Code.quiet_builtin _ (by decide +kernel),aK8 PySem.F.entry_type_call ?_⟩
 rw[Around.under_plain (weight_type_call_type "set" [.ref l] []) rfl]
 have h1:=PySem.F.called_set.notType
 have h2:=PySem.F.called_set.canCreate
 have a6:=PySem.F.typeCall_set_1 (.ref l)
 repeat (any_goals (first|assumption|wp_step))
 refine aJ6 (av1 (.ref l) (E:=E) (Q₁:=λobj f=>obj=.ref s.heap.objs.size/\f={ s with heap:=s.heap.push (ab5 w) }) ⟨rfl,rfl⟩) λr f hr=>?_
 cases r with
 |error e=>exact hr
 | ok fl =>
  cases fl with
  | ret obj =>
   obtain⟨rfl,rfl⟩:=hr
   have hS:(s.heap.push (ab5 w)).get? s.heap.objs.size=some (ab5 w):=aJ5 _ rfl
   have hT:Shared.TypeIs { s with heap:=s.heap.push (ab5 w) } (.ref s.heap.objs.size) "set":=⟨_,hS,rfl⟩
   have a9:=PySem.F.called_set.init.lookup
   have a7:=PySem.F.called_set.init.bind (.ref s.heap.objs.size)
   repeat (any_goals (first|assumption|wp_step))
   refine aJ6 (codeAny_call_builtin (R:=wants (λr g=>r=.none/\∃ h' y L,g={ s with heap:=h',toks:=y }/\SetT prog w U s.heap.objs.size L h'/\L.Nodup/\L.length<=items.size/\(∀ x,x∈L ↔ ∃ j,j<items.size/\val j=x) /\
     (∀ b o,s.heap.get? b=some o->h'.get? b=some o)) E) PySem.F.called_set.init.plain PySem.F.entry_set_init (check_set_init_1 hT ?_)) λC g a=>?_
   ·obtain⟨ol,B,J,nl,D⟩:=hl
    obtain⟨a3,u,S,d⟩:=ol
    simp only at J D
    subst J;subst D
    have H:(s.heap.push (ab5 w)).get? l=some { cls:=.type "list",dict:=u,data:=.seq items nl,slots:=d }:=aJ3 _ B
    have a5:=PySem.F.sub_list_set
    have a4:=PySem.F.sub_list_frozenset
    have b0:(Value.type "list" == Value.type "dict")=false:=by decide
    have I:(s.heap.push (ab5 w)).IsList l items:=⟨_,H,rfl,nl,rfl⟩
    unfold Builtin.«set.__init__» noKeywords Builtin.Frozenset.updateFrom
    generalize hPI:pyIter=PI
    unfold ab5 at *
    wp_walk
    subst hPI
    refine aK6 I ?_
    refine aJ1 (wpAny_runValue ?_)
    have M:l<s.heap.objs.size:=aJ4 B
    have T:A.in1.in1.in1.handled=none:=by simp[hh]
    have z:l ≠ (s.heap.push (ab5 w)).objs.size:=by
     rw[aK3];exact aB6 (aF9 M)
    have W:s.heap.objs.size ∉ [(s.heap.push (ab5 w)).objs.size,l]:=by
     rw[aK3];simp only[aA9,aC2,aI4,or_false,not_or]
     exact⟨aB6 (aI7 _),Nat.ne_of_gt M⟩
    have a8:∀ i,i<items.size->tup i<s.heap.objs.size:=λi h=>let ⟨_,_,_,e,_⟩:=hi i h;aJ4 e
    refine a2v (U:=U) (Walks.list T _ l z items) s.heap.objs.size W hu s.heap val tup hP hU (λb hb=>⟨aB6 (K b hb),by rw[aC2,aK3];exact aB6 (aF9 (K b hb))⟩) hb
     (λh' kp i h=>let ⟨o,its,m,e,q⟩:=hi i h;⟨o,its,m,kp _ o (aB6 (aJ4 e)) (by rw[aC2,aK3];exact aB6 (aF9 (aJ4 e))) e,q⟩)
     (items.size-0) 0 _ [] (by lia) (aG1 _)
     ⟨⟨_,aJ5 _ rfl,rfl,rfl⟩,(I.push _)⟩ (λb o _ _ e=>aJ3 _ (aJ3 _ e)) (let ⟨es,ep,t,ks,x,r⟩:=ay5 s.heap;⟨es,ep,t,ks,x.at (λo e=>aJ3 _ e) (λb ks hb ⟨o,its,m,e,q⟩=>⟨o,its,m,aJ3 _ e,q⟩),r⟩) List.nodup_nil (aA6 _) (λx=>by simp) λh' y L hk p Y Z P=>?_
    show wpAny _ _ _ _ _ _
    refine aJ2 ?_
    show wpAny _ _ (ret Value.none) _ _ _
    refine aJ2 ⟨rfl,h',y,L,rfl,p,Y,Z,P,λb o e=>?_⟩
    have G:=aJ4 e
    have N:b ≠ s.heap.objs.size:=aB6 G
    have a0:b ≠ (s.heap.push (ab5 w)).objs.size:=by
     rw[aK3];exact aB6 (aF9 G)
    exact hk b o N (by rw[aC2];exact a0) (aJ3 _ (aJ3 _ e))
   ·cases C with
    |error e=>exact a
    | ok fl₂ =>
     cases fl₂ with
     | ret r =>
      obtain⟨rfl,h',y,L,rfl,p,Y,Z,P,O⟩:=a
      repeat (any_goals (first|assumption|wp_step))
      exact h _ _ _ p Y Z P O
     |_=>exact a.elim
  |_=>exact hr.elim
end
end SH
namespace SS
open PySem PySem.W PyProof.Rows
theorem slot_it_next:Slot "set_iterator" "__next__" "set_iterator.__next__" :=
 .of (owner:="set_iterator") (n:="__next__") (by rw[typeLookup_type,builtinLookup_eq_fast];kernel_rfl) (by decide +kernel) (by decide +kernel) (by decide +kernel)
  (by first|exact .inl (by decide +kernel)|exact .inr (by decide +kernel)) (by rw[isSubtype_type];kernel_rfl)
theorem agm:Slot "set_iterator" "__iter__" "set_iterator.__iter__" :=
 .of (owner:="set_iterator") (n:="__iter__") (by rw[typeLookup_type,builtinLookup_eq_fast];kernel_rfl) (by decide +kernel) (by decide +kernel) (by decide +kernel)
  (by first|exact .inl (by decide +kernel)|exact .inr (by decide +kernel)) (by rw[isSubtype_type];kernel_rfl)
theorem ana:Manifest.owners.lookup (String.ofList ['r','o','t','a','r','e','t','i','_','t','e','s'].reverse)=some Manifest.sig_set_iterator:=by kernel_rfl
theorem anb(a:Value):argsOk "set_iterator.__next__" ⟨[a],[]⟩:=by
 unfold argsOk;rw[signature?_of (id:="set_iterator.__next__") (n:=['_','_','t','x','e','n','_','_']) (o:=['r','o','t','a','r','e','t','i','_','t','e','s']) (by kernel_rfl) ana];kernel_rfl
theorem anc(a:Value):argsOk "set_iterator.__iter__" ⟨[a],[]⟩:=by
 unfold argsOk;rw[signature?_of (id:="set_iterator.__iter__") (n:=['_','_','r','e','t','i','_','_']) (o:=['r','o','t','a','r','e','t','i','_','t','e','s']) (by kernel_rfl) ana];kernel_rfl
theorem ak4:entryFor table "set_iterator.__next__" = some Builtin.«set_iterator.__next__»:=entryFor_of_tree (by kernel_rfl)
theorem ak5:entryFor table "set_iterator.__iter__" = some Builtin.«dict_keyiterator.__iter__»:=entryFor_alias (id':="dict_keyiterator.__iter__") (by kernel_rfl) rfl (by decide +kernel) (by kernel_rfl)
theorem ajo:entryFor table "set.__iter__" = some Builtin.«frozenset.__iter__»:=entryFor_alias (id':="frozenset.__iter__") (by kernel_rfl) rfl (by decide +kernel) (by kernel_rfl)
section
variable{prog:Program}{w:World}{A:Around}{E:Value->Shared->Prop}{s:Shared}{a I:Addr}{es:Array (Int × Value)}{ep:Nat}{t:SetTable}
def IsIt(h:Heap)(I:Addr)(vs:Array Value):Prop:=∃ o,h.get? I=some o/\o.cls=.type "set_iterator"/\o.data=.fields vs
theorem IsIt.ty{vs:Array Value}(x:IsIt s.heap I vs):s.TypeIs (.ref I) "set_iterator":=let ⟨o,e,c,_⟩:=x;⟨o,e,c⟩
theorem IsIt.at{h h':Heap}{vs:Array Value}(x:IsIt h I vs)(k:∀ o,h.get? I=some o->h'.get? I=some o):IsIt h' I vs:=let ⟨o,e,r⟩:=x;⟨o,k o e,r⟩
theorem SetR.ty(x:SetR prog w a es ep t s.heap):s.TypeIs (.ref a) "set":=let ⟨o,e,c,_⟩:=x;⟨o,e,c.1⟩
theorem ads{Q:(Array (Int × Value) × Nat × SetTable)->Shared->Prop}(x:SetR prog w a es ep t s.heap)(h:Q (es,ep,t) s):wpAny (model prog w) A (setState a) Q E s:=let ⟨_,b,_,hd,hf,_⟩:=x;wpAny_setState_of b hd hf h
theorem afw{Q:Array (Int × Value)->Shared->Prop}(x:SetR prog w a es ep t s.heap)(h:Q es s):wpAny (model prog w) A (setEntries a) Q E s:=by
 unfold setEntries;exact aJ1 (ads x (aJ2 h))
theorem ane{Q:Nat->Shared->Prop}(x:SetR prog w a es ep t s.heap)(h:Q ep s):wpAny (model prog w) A (setEpoch a) Q E s:=by
 unfold setEpoch;exact aJ1 (ads x (aJ2 h))
theorem ajp{Q:Bool->Shared->Prop}(h:Q (bt w) s):wpAny (model prog w) A setsByText Q E s:=by
 unfold setsByText;exact aJ1 (wpAny_askSetting (aJ2 h))
theorem atd{M:Model}{src:Source}{n:Nat}{Q:Nat->Shared->Prop}(hn:0<n)(h:∀ i d,i<n->Q i { s with drawn:=d }):wpAny M A (choose src n) Q E s:=fun Γ p _=>by
 unfold choose
 rw[Sem.wp_choose]
 exact⟨by lia,h _ _ (Nat.mod_lt _ hn)⟩
theorem apt{α:Type}{M:Model}:∀(n:Nat)(xs:List α)(s:Shared)(Q:List α->Shared->Prop),xs.length=n->(∀ ys d,ys.Perm xs->Q ys { s with drawn:=d })->wpAny M A (drawOrder n xs) Q E s
 | 0,xs,s,Q,hn,h=>by
  unfold drawOrder
  rw[aH3 hn] at h
  exact aJ2 (h [] s.drawn (List.Perm.refl _))
 |n+1,[],s,Q,hn,h=>by cases hn
 | n+1,x::xs,s,Q,hn,h=>by
  unfold drawOrder
  refine aJ1 (atd (by simp) λi d hi=>?_)
  rw[aA0 hi]
  dsimp only
  refine aJ1 (apt n _ _ _ (by rw[List.length_eraseIdx];split <;> lia) λys d' a=>aJ2 ?_)
  refine h _ d' ?_
  have e:(x::xs)=(x::xs).take i++(x::xs)[i]::(x::xs).drop (i+1):=by
   rw[← List.drop_eq_getElem_cons hi,aC1]
  refine(a.cons _).trans ?_
  rw[List.eraseIdx_eq_take_drop_succ]
  refine List.Perm.trans ?_ (List.Perm.of_eq e.symm)
  exact List.perm_middle.symm
def dr(w:World)(es:Array (Int × Value))(t:SetTable):Bool:=!bt w && (!t.plain && decide (es.size > 1))
def itO(f:Value)(a:Addr)(n ep:Nat):Obj:={ cls:=.type "set_iterator",data:=.fields #[f,rawInt (0:Nat),.ref a,rawInt n,rawInt ep] }
def tuO(pl:List Nat):Obj:={ cls:=.type "tuple",data:=.seq (pl.map λ(i:Nat)=>rawInt i).toArray }
theorem ay6{Q:Value->Shared->Prop}(x:SetR prog w a es ep t s.heap)(hz:es.size<=sizeLine)
  (c:dr w es t=false->Q (.ref s.heap.objs.size) { s with heap:=s.heap.push (itO (rawInt (0:Nat)) a es.size ep) })
  (f:dr w es t=true->∀ pl d,pl.Perm (List.range es.size)->Q (.ref (s.heap.objs.size+1)) { s with heap:=(s.heap.push (tuO pl)).push (itO (.ref s.heap.objs.size) a es.size ep),drawn:=d }):wpAny (model prog w) A (pyIter (.ref a)) Q E s:=by
 refine wpAny_pyIter_slot x.ty PySem.F.slot_set_iter (aK4 PySem.F.slot_set_iter x.ty ajo ?body (PySem.F.args_set_iter_1 _))
 unfold Builtin.«frozenset.__iter__»
 show wpAny _ _ (Builtin.Frozenset.sizeOf a >>= _) _ _ s
 unfold Builtin.Frozenset.sizeOf
 refine aJ1 (aJ1 (afw x (aJ2 ?_)))
 unfold setDrawn
 refine aJ1 (aJ1 (ads x (aJ1 (ajp (aJ2 ?_)))))
 show wpAny _ _ (if dr w es t=true then _ else _) _ _ s
 cases hd:dr w es t
 ·rw[aF7 (by decide)]
  refine aJ1 (aJ2 (aJ1 (ane x ?_)))
  unfold newFields
  refine aJ1 (aK1 (aJ2 ⟨_,rfl,"set_iterator",_,⟨_,aJ5 _ rfl,rfl⟩,slot_it_next.lookup,c hd⟩))
 ·rw[aF6 rfl]
  refine aJ1 (apt es.size (List.range es.size) s _ (by simp) λpl d b=>?_)
  refine aJ1 (wpAny_newTuple ?_ (by rw[aA3,b.length_eq,aE1];exact hz))
  refine aJ1 (ane (x.at λo e=>aJ3 _ e) ?_)
  unfold newFields
  refine aJ1 (aK1 (aJ2 ⟨_,rfl,"set_iterator",_,⟨_,aJ5 _ rfl,rfl⟩,slot_it_next.lookup,?_⟩))
  have:=f hd pl d b
  simp only[aK3]
  exact this
end
section
variable{prog:Program}{w:World}{A:Around}{E:Value->Shared->Prop}{s:Shared}{a I:Addr}{es:Array (Int × Value)}{ep:Nat}{t:SetTable}
def ord(w:World)(a:Addr)(es:Array (Int × Value))(ep:Nat):List (Int × Value):=if bt w=true then (pickOrder (w.params.setOrder a ep) es).toList else es.toList
theorem ord_perm:(ord w a es ep).Perm es.toList:=by
 unfold ord;split
 ·exact ajn _ _
 ·exact List.Perm.refl _
def sl(t:SetTable):Nat->Nat
 |0=>0
 |i+1=>t.place.getD i 0+1
theorem aq4(x:SetR prog w a es ep t s.heap)(hb:bt w=false)(hd:dr w es t=false):t.place.toList.Pairwise (· < ·):=by
 obtain⟨o,_,_,_,hf,c⟩:=x
 unfold dr at hd
 rw[hb] at hd
 cases hp:t.plain with
 |true=>exact c.ris hp
 | false =>
  rw[hp] at hd
  have d:es.size<=1:=by simpa using hd
  have b:t.place.toList.length<=1:=by
   simp only[SetTable.fits,aH2,aG4] at hf
   rw[aA8];lia
  match hl:t.place.toList with
  |[]=>exact .nil
  |[y]=>exact List.pairwise_singleton _ _
  |y::z::r=>rw[hl] at b;simp at b
theorem ay7{slot i:Nat}{Q:Option (Value × Nat)->Shared->Prop}(x:SetR prog w a es ep t s.heap)(hd:dr w es t=false)(hs:bt w=false->slot=sl t i)(hi:i<=es.size)
  (n:∀ e nx,(ord w a es ep)[i]?=some e->(bt w=false->nx=sl t (i+1))->Q (some (e.2,nx)) s) (m:i=es.size->Q none s):wpAny (model prog w) A (setNext a slot i ep) Q E s:=by
 unfold setNext
 refine aJ1 (ads x ?_)
 dsimp only
 refine aJ1 (ajp ?_)
 cases hb:bt w with
 | true =>
  rw[aF6 rfl]
  rw[aF7 (by simp)]
  refine aJ1 ?_
  unfold setWalk
  refine aJ1 (ads x ?_)
  dsimp only
  refine aJ1 (ajp ?_)
  rw[hb,aF6 rfl]
  refine aJ1 (wpAny_askSetting (aJ2 (aJ2 ?_)))
  show Q ((pickOrder (w.params.setOrder a ep) es)[i]?.map λe=>(e.2,slot)) s
  have f:ord w a es ep=(pickOrder (w.params.setOrder a ep) es).toList:=by unfold ord;rw[hb,aF6 rfl]
  rw[← aD6,← f]
  cases he:(ord w a es ep)[i]? with
  | none =>
   refine m ?_
   have:=aF8.mp he
   rw[ord_perm.length_eq,aA8] at this
   lia
  |some e=>exact n e slot he λz=>by rw[hb] at z;cases z
 | false =>
  rw[aF7 (by decide)]
  have b:=aq4 x hb hd
  obtain⟨o,B,y,p,hf,q⟩:=id x
  have u:t.place.size=es.size:=by
   simp only[SetTable.fits,aH2,aG4] at hf;exact hf.1
  have l:SetTable.below t.place slot=i:=by
   rw[hs hb]
   cases i with
   |zero=>exact aq0 _ b
   | succ j =>
    have r:j<t.place.toList.length:=by rw[aA8];lia
    have e:t.place.getD j 0=t.place.toList[j]:=by simp[Array.getD,show j<t.place.size by lia]
    show SetTable.below t.place (t.place.getD j 0+1)=j+1
    rw[e];exact aqz _ b j r
  refine aJ1 (aJ2 ?_)
  have h:(!t.plain && decide (es.size > 1))=false:=by unfold dr at hd;rw[hb] at hd;exact hd
  show wpAny _ _ (if (!t.plain && decide (es.size > 1))=true then _ else _) _ _ s
  rw[h,aF7 (by decide)]
  refine aJ1 ?_
  show wpAny _ _ (if (!t.led && !es.isEmpty)=true then _ else _) _ _ s
  rw[q.led hb]
  rw[aF7 (by simp)]
  refine aJ2 ?_
  rw[l]
  have f:ord w a es ep=es.toList:=by unfold ord;rw[hb,aF7 (by decide)]
  rcases Nat.lt_or_ge i es.size with d|g
  ·have c:es[i]?=some es[i]:=aA4 d
   have v:t.place[i]?=some t.place[i]:=aA4 (by lia)
   rw[c,v]
   refine aJ2 (n es[i] _ (by rw[f,aD6];exact c) λ_=>?_)
   show t.place[i] + 1=t.place.getD i 0+1
   simp[Array.getD,show i<t.place.size by lia]
  ·have c:es[i]?=none:=Array.getElem?_eq_none_iff.mpr g
   rw[c]
   exact aJ2 (m (by lia))
theorem upd2{h:Heap}{f x b n e:Value}{i:Value}(a:IsIt h I #[f,i,x,n,e])(j:Nat)(v:Value)(vs:Array Value)(g : #[f,i,x,n,e].setIfInBounds j v=vs):IsIt (h.update I (Obj.mapFields (·.setIfInBounds j v))) I vs:=by
 obtain⟨o,d,c,hd⟩:=a
 exact⟨_,aK7 _ d (Obj.isFreed_of_fields (Obj.data_mapFields hd _)),(Obj.cls_mapFields ..).trans c,by rw[Obj.data_mapFields hd,g]⟩
theorem adt{vs:Array Value}{i:Nat}{x:Value}{Q:Unit->Shared->Prop}(a:IsIt s.heap I vs)(hi:i<vs.size)(h:Q () { s with heap:=s.heap.update I (Obj.mapFields (·.setIfInBounds i x)) }):wpAny (model prog w) A (setField (.ref I) i x) Q E s:=by
 obtain⟨o,b,c,hd⟩:=a
 exact wpAny_setField b hd hi h
theorem apu{vs:Array Value}{Q:Option Value->Shared->Prop}(a:IsIt s.heap I vs)
  (h:wpAny (model prog w) A.in1 (Builtin.«set_iterator.__next__» ⟨[.ref I],[]⟩) (λfin s'=>∃ v,fin=.done (.ret v)/\Q (some v) s') (λe s'=>wpAny (model prog w) A (do if ← isInstance e (.type "StopIteration") then pure none else throw e) Q E s') s) :
  wpAny (model prog w) A (pyNext (.ref I)) Q E s:=by
 unfold pyNext
 refine aJ1 (wpAny_attempt (wpAny_callSpecial?_slot (name:=Str.ofString "__next__") a.ty slot_it_next (aK4 slot_it_next a.ty ak4 ?b (anb _))))
 case b =>
  refine aK0 h ?_ ?_
  ·rintro fin s' ⟨v,rfl,q⟩
   exact⟨v,rfl,aJ2 q⟩
  ·intro e s' q;exact q
theorem apv{Q:Option Value->Shared->Prop}{F:Type}{c:F->Shared->Prop}(hh:A.handled=none)(h:∀ h',(∀ b o,s.heap.get? b=some o->h'.get? b=some o)->Q none { s with heap:=h' }) :
  wpAny (model prog w) A.in1 (newExc (.type "StopIteration") [] >>= λe=>(raiseNew e:Sem F)) c (λe s'=>wpAny (model prog w) A (do if ← isInstance e (.type "StopIteration") then pure none else throw e) Q E s') s:=by
 refine aJ1 ?_
 simp only[newExc,newTuple];refine aJ1 (aK1 ?_ (by size_fits))
 refine aJ1 (m:=firstArgMember _ _) (wpAny_of_eq (a:=Value.none) (by first|rfl|(simp only[firstArgMember];rfl)) (aK1 ?_ (by size_fits)))
 simp only[raiseNew];refine aJ1 (wpAny_handled ?_)
 rw[show A.in1.handled=none from hh];refine aJ1 (aJ2 (wpAny_throw ?_))
 refine aJ1 (wpAny_isInstance (T:="StopIteration") (b:=true) ⟨_,aJ5 _ rfl,rfl⟩ isSubtype_stop ?_)
 exact aJ2 (h _ λb o e=>aJ3 _ (aJ3 _ e))
theorem apw{slot i:Nat}{Q:Option Value->Shared->Prop}(hh:A.handled=none)(l:a ≠ I)(c:IsIt s.heap I #[rawInt slot,rawInt i,.ref a,rawInt es.size,rawInt ep])(x:SetR prog w a es ep t s.heap)(hd:dr w es t=false)(hs:bt w=false->slot=sl t i)(hi:i<=es.size)
  (m:∀ e (nx:Nat) h',(ord w a es ep)[i]?=some e->(bt w=false->nx=sl t (i+1))->IsIt h' I #[rawInt nx,rawInt ((i+1:Nat):Int),.ref a,rawInt es.size,rawInt ep]->(∀ b o,b ≠ I->s.heap.get? b=some o->h'.get? b=some o)->Q (some e.2) { s with heap:=h' })
  (j:i=es.size->∀ h',(∀ b o,b ≠ I->s.heap.get? b=some o->h'.get? b=some o)->Q none { s with heap:=h' }):wpAny (model prog w) A (pyNext (.ref I)) Q E s:=by
 refine apu c ?_
 obtain⟨o,n,p,g⟩:=id c
 unfold Builtin.«set_iterator.__next__»
 refine aJ1 (aJ2 (aJ1 (wpAny_fieldsOf n g ?_)))
 show wpAny _ _ (setEntries a >>= _) _ _ s
 refine aJ1 (afw x ?_)
 rw[aF7 (by simp)]
 show wpAny _ _ (setNext a slot i ep >>= _) _ _ s
 refine aJ1 (ay7 x hd hs hi (λe nx h hn=>?_) λhz=>?_)
 ·dsimp only
  refine aJ1 (adt c (by simp) ?_)
  have d:=upd2 (b:=.none) c 0 (rawInt nx) #[rawInt nx,rawInt i,.ref a,rawInt es.size,rawInt ep] rfl
  refine aJ1 (adt (s:={ s with heap:=_ }) d (by simp) ?_)
  have f:=upd2 (b:=.none) d 1 (rawInt ((i+1:Nat):Int)) #[rawInt nx,rawInt ((i+1:Nat):Int),.ref a,rawInt es.size,rawInt ep] rfl
  refine aJ2 ⟨_,rfl,m e nx _ h hn f λb o hb e=>?_⟩
  exact(aJ9 _ _ (Ne.symm hb)).trans ((aJ9 _ _ (Ne.symm hb)).trans e)
 ·dsimp only
  refine aJ1 (adt c (by simp) ?_)
  refine apv (s:={ s with heap:=s.heap.update I _ }) hh λh' k=>j hz h' λb o hb e=>k b o ((aJ9 _ _ (Ne.symm hb)).trans e)
theorem apx{vs:Array Value}{Q:Value->Shared->Prop}(a:IsIt s.heap I vs)(h:Q (.ref I) s):wpAny (model prog w) A (pyIter (.ref I)) Q E s:=by
 refine wpAny_pyIter_slot a.ty agm (aK4 agm a.ty ak5 ?_ (anc _))
 show wpAny _ _ (ret (.ref I)) _ _ s
 exact aJ2 ⟨_,rfl,"set_iterator",_,a.ty,slot_it_next.lookup,h⟩
theorem walks(hh:A.handled=none)(c:a ≠ I)(hd:dr w es t=false):Walks prog w A I [I,a] [I] es.size (λi v=>((ord w a es ep).map (·.2))[i]?=some v)
  (λi h=>∃ slot:Nat,IsIt h I #[rawInt slot,rawInt i,.ref a,rawInt es.size,rawInt ep]/\SetR prog w a es ep t h/\(bt w=false->slot=sl t i)) where
 sub:=λb hb=>by simp at hb;simp[hb]
 frame:=λ_ _ _ st n=>let ⟨slot,d,f,j⟩:=st;⟨slot,d.at λo e=>n I (by simp) o e,f.at λo e=>n a (by simp) o e,j⟩
 item:=λi s Q E hi st g=>by
  obtain⟨slot,d,f,j⟩:=st
  refine apw hh c d f hd j (aG6 hi) (λe nx h' m hn l k=>?_) λhz=>by lia
  exact g _ h' s.toks (by rw[aA5,m];rfl) ⟨nx,l,f.at λo e=>k a o c e,hn⟩ λb o hb e=>k b o (λz=>hb (by simp[z])) e
 done:=λs Q E st g=>by
  obtain⟨slot,d,f,j⟩:=st
  refine apw hh c d f hd j (aA6 _) (λe nx h' m hn l k=>?_) λhz h' k=>g h' s.toks λb o hb e=>k b o (λz=>hb (by simp[z])) e
  have:=(aA1.mp m).1
  rw[ord_perm.length_eq,aA8] at this
  lia
 self:=λ_ _ _ _ st g=>let ⟨_,d,_,_⟩:=st;apx d g
theorem awv{i:Nat}{tu:Addr}{pl:List Nat}{Q:Option Value->Shared->Prop}(hh:A.handled=none)(c:IsIt s.heap I #[.ref tu,rawInt i,.ref a,rawInt es.size,rawInt ep])(r:s.heap.get? tu=some (tuO pl))(x:SetR prog w a es ep t s.heap)(h:pl.Perm (List.range es.size))(hi:i<=es.size)
  (v:∀ e h' j,pl[i]?=some j->es[j]?=some e->IsIt h' I #[.ref tu,rawInt ((i+1:Nat):Int),.ref a,rawInt es.size,rawInt ep]->(∀ b o,b ≠ I->s.heap.get? b=some o->h'.get? b=some o)->Q (some e.2) { s with heap:=h' })
  (q:i=es.size->∀ h',(∀ b o,b ≠ I->s.heap.get? b=some o->h'.get? b=some o)->Q none { s with heap:=h' }):wpAny (model prog w) A (pyNext (.ref I)) Q E s:=by
 refine apu c ?_
 obtain⟨o,y,z,f⟩:=id c
 unfold Builtin.«set_iterator.__next__»
 refine aJ1 (aJ2 (aJ1 (wpAny_fieldsOf y f ?_)))
 show wpAny _ _ (setEntries a >>= _) _ _ s
 refine aJ1 (afw x ?_)
 rw[aF7 (by simp)]
 show wpAny _ _ (seqItems? (.ref tu) >>= _) _ _ s
 refine aJ1 (wpAny_seqItems r rfl ?_)
 dsimp only
 have m:pl.length=es.size:=by rw[h.length_eq,aE1]
 have B:(rawInt (i:Int))=.int i 0:=rfl
 rcases Nat.lt_or_ge i es.size with p|u
 ·have l:pl[i]?=some pl[i]:=aA0 (by lia)
  have g:(pl.map λ(i:Nat)=>rawInt i).toArray[(i:Int).toNat]?=some (rawInt pl[i]):=by
   rw[Int.toNat_natCast,List.getElem?_toArray,aA5,l];rfl
  rw[g]
  have hm:pl[i]<es.size:=aB9.mp (h.mem_iff.mp (aF3 _))
  have n:es[pl[i]]?=some es[pl[i]]:=aA4 hm
  show wpAny _ _ (setNextDrawn a pl[i] ep >>= _) _ _ s
  unfold setNextDrawn
  refine aJ1 (aJ1 (ads x ?_))
  dsimp only
  rw[aF7 (by simp),n]
  refine aJ2 ?_
  refine aJ1 (adt c (by simp) ?_)
  have d:=upd2 (b:=.none) c 1 (rawInt ((i+1:Nat):Int)) #[.ref tu,rawInt ((i+1:Nat):Int),.ref a,rawInt es.size,rawInt ep] rfl
  exact aJ2 ⟨_,rfl,v _ _ _ l n d λb o hb e=>(aJ9 _ _ (Ne.symm hb)).trans e⟩
 ·have g:(pl.map λ(i:Nat)=>rawInt i).toArray[(i:Int).toNat]?=none:=by
   rw[Int.toNat_natCast,List.getElem?_toArray,aA5,aF8.mpr (by lia)];rfl
  rw[g]
  dsimp only
  refine aJ1 (adt c (by simp) ?_)
  have d:=upd2 (b:=.none) c 0 (rawInt 0) #[rawInt 0,rawInt i,.ref a,rawInt es.size,rawInt ep] rfl
  refine aJ1 (adt (s:={ s with heap:=_ }) d (by simp) ?_)
  refine apv (s:={ s with heap:=(s.heap.update I _).update I _ }) hh λh' k=>q (by lia) h' λb o hb e=>k b o ((aJ9 _ _ (Ne.symm hb)).trans ((aJ9 _ _ (Ne.symm hb)).trans e))
def ordD(es:Array (Int × Value))(pl:List Nat):List Value:=pl.map λj=>(es.toList.map (·.2)).getD j .none
theorem ate{pl:List Nat}(a:pl.Perm (List.range es.size)):(ordD es pl).Perm (es.toList.map (·.2)):=by
 refine(a.map _).trans (List.Perm.of_eq ?_)
 refine List.ext_getElem (by simp) λi b c=>?_
 have:i<es.size:=by simpa using b
 simp[aD4,this]
theorem a1j{tu:Addr}{pl:List Nat}(hh:A.handled=none)(q:a ≠ I)(p:tu ≠ I)(n:pl.Perm (List.range es.size)):Walks prog w A I [I,a,tu] [I] es.size (λi v=>(ordD es pl)[i]?=some v)
  (λi h=>IsIt h I #[.ref tu,rawInt i,.ref a,rawInt es.size,rawInt ep]/\SetR prog w a es ep t h/\h.get? tu=some (tuO pl)) where
 sub:=λb hb=>by simp at hb;simp[hb]
 frame:=λ_ _ _ st m=>let ⟨g,c,d⟩:=st;⟨g.at λo e=>m I (by simp) o e,c.at λo e=>m a (by simp) o e,m tu (by simp) _ d⟩
 item:=λi s Q E hi st f=>by
  obtain⟨g,c,d⟩:=st
  refine awv hh g d c n (aG6 hi) (λe h' j r u l k=>?_) λhz=>by lia
  refine f _ h' s.toks ?_ ⟨l,c.at λo e=>k a o q e,k tu _ p d⟩ λb o hb e=>k b o (λz=>hb (by simp[z])) e
  unfold ordD
  rw[aA5,r]
  simp[aD4,u]
 done:=λs Q E st f=>by
  obtain⟨g,c,d⟩:=st
  refine awv hh g d c n (aA6 _) (λe h' j r u l k=>?_) λhz h' k=>f h' s.toks λb o hb e=>k b o (λz=>hb (by simp[z])) e
  have:=(aA1.mp r).1
  rw[n.length_eq,aE1] at this
  lia
 self:=λ_ _ _ _ st f=>apx st.1 f
end
section
variable{prog:Program}{w:World}{A:Around}{E:Value->Shared->Prop}{s:Shared}{a:Addr}{es:Array (Int × Value)}{ep:Nat}{t:SetTable}
theorem ay8{Q:Bool->Shared->Prop}(d:s.TypeIs (.ref a) "set")(h:Q false s):wpAny (model prog w) A (Builtin.List.listLengthHint (.ref a)) Q E s:=by
 unfold Builtin.List.listLengthHint
 refine aJ1 (wpAny_specialOf d PySem.F.slot_set_len.lookup ?_)
 generalize hid:("set.__len__" : String)=id0
 wp_delta
 rw[show splitId id0=some ("set","__len__") from by subst hid;decide +kernel]
 subst hid
 refine aJ1 (wpAny_isInstance (T:="set") (b:=true) d sub_set_self ?_)
 refine wpAny_ite_split (λc=>absurd c (by decide)) (λ_=>?_)
 refine wpAny_ite_split (λ_=>?_) (λc=>absurd (by decide +kernel) c)
 refine aJ1 (wpAny_typeOf d ?_)
 exact aJ2 h
theorem av2{a:List Value}{b:Array Value}(h:ItemsOf (λi v=>a[i]?=some v) b a.length):b.toList=a:=by
 obtain⟨d,f⟩:=h
 refine List.ext_getElem (by simpa using d) λi a1 c=>?_
 have:=f i b.toList[i] (by rw[← aD6];exact aA0 a1)
 exact(aC6 ((aA0 c).symm.trans this)).symm
theorem a1k{R:Result->Shared->Prop}(hh:A.handled=none)(x:SetR prog w a es ep t s.heap)(hz:es.size<=sizeLine)(S:Addr)(C:S ≠ a)(res:Value)(z:Nat)(Q:s.heap.get? S=some { cls:=.type "list",data:=.seq #[] z })
  (X:∀ h' N d K c,(∀ b o,b ≠ S->s.heap.get? b=some o->h'.get? b=some o)->h'.get? S=some { cls:=.type "list",dict:=none,data:=.seq K c,slots:=#[] }->K.toList.Perm (es.toList.map (·.2))->R (.ok (.ret res)) { s with heap:=h',toks:=N,drawn:=d }) :
  wpAny (model prog w) A.in1 (Builtin.List.listExtendWith (.ref S) (.ref a) res)
   (λfin s'=>match fin with | .done f=>R (.ok f) s' | .again D=>D.quiet=true/\codeAny (model prog w) A D R s') (λe s'=>R (.error e) s') s:=by
 have L:∀(I:Addr)(fp:List Addr)(St:Nat->Heap->Prop)(g:List Value)(d:Drawn)(h:Heap)(n:Nat)(N:Nat),Walks prog w A.in1 I fp [I] es.size (λi v=>g[i]?=some v) St->S ∉ fp->s.heap.objs.size<=I->g.Perm (es.toList.map (·.2))->St 0 h->(∀ b o,b ≠ S->s.heap.get? b=some o->h.get? b=some o) ->
   h.get? S=some { cls:=.type "list",data:=.seq #[] n }->codeAny (model prog w) A (.builtin "list.extend.loop" ⟨[.ref S,.ref I,res],[]⟩) R { s with heap:=h,toks:=N,drawn:=d }:=by
  intro I fp St g d h n N W m M y P G j
  refine codeAny_extend_loopS W.toS hz S m res es.size 0 _ #[] n rfl (aG1 _) P j (ItemsOf.nil _) λs' H D hm O B=>?_
  have hl:es.size=g.length:=by rw[y.length_eq,aA3,aA8]
  rw[hl] at B
  rw[Moved.eq_with hm]
  refine X s'.heap s'.toks d H D (λb o hb e=>hm.heap b o (λl=>?_) (G b o hb e)) O (by rw[av2 B];exact y)
  rcases aA9.mp l with Z|l
  ·exact hb Z
  ·rw[aC2] at l
   subst l
   exact absurd (aJ4 e) (Nat.not_lt.mpr M)
 have p:=aJ4 Q
 have u:a<s.heap.objs.size:=let ⟨_,e,_⟩:=x;aJ4 e
 unfold Builtin.List.listExtendWith
 refine aJ1 (wpAny_typeOf (T:="set") x.ty ?_)
 have h1:Builtin.List.listSameRef (.ref S) (.ref a)=false:=by simp[Builtin.List.listSameRef,C]
 have Y:(Value.type "set" == Value.type "list")=false:=by decide
 have h3:(Value.type "set" == Value.type "tuple")=false:=by decide
 simp only[h1,Y,h3,Bool.or_false,Bool.false_eq_true,if_false]
 have r:∀(U:Bool)(I:Addr)(fp:List Addr)(St:Nat->Heap->Prop)(g:List Value)(d:Drawn)(h:Heap),Walks prog w A.in1 I fp [I] es.size (λi v=>g[i]?=some v) St->S ∉ fp->s.heap.objs.size<=I->g.Perm (es.toList.map (·.2))->St 0 h->(∀ b o,s.heap.get? b=some o->h.get? b=some o)->
   wpAny (model prog w) A.in1 (holding [.ref I] (Builtin.List.listLengthHint (.ref a)) >>= λroom=>if (room || U)=true then (rule "list.extend.makes-room" >>= λ_=>Builtin.List.listTouch (.ref S) >>= λ_=>again (.builtin "list.extend.loop" ⟨[.ref S,.ref I,res],[]⟩)) else again (.builtin "list.extend.loop" ⟨[.ref S,.ref I,res],[]⟩)) (λfin s'=>match fin with | .done f=>R (.ok f) s' | .again D=>D.quiet=true/\codeAny (model prog w) A D R s') (λe s'=>R (.error e) s') { s with heap:=h,drawn:=d }:=by
  intro U I fp St g d h W m M y st G
  have j:=G _ _ Q
  refine aJ1 (aJ7 (ay8 (s:={ s with heap:=h,drawn:=d }) (SetR.ty (s:={ s with heap:=h,drawn:=d }) (x.at λo e=>G a o e)) ?_))
  refine wpAny_ite_split (λ_=>?_) (λ_=>aJ2 ⟨plainId_quiet PySem.F.plain_extend_loop _,L I fp St g d h z _ W m M y st (λb o _ e=>G b o e) j⟩)
  refine aJ1 (wpAny_rule ?_)
  refine aJ1 ?_
  show wpAny _ _ (updateSeq S (·.push .none) >>= λ_=>updateSeq S (·.pop)) _ _ _
  refine aJ1 (wpAny_updateSeq j rfl ?_)
  have q:=aK7 (Obj.mapSeq (·.push Value.none)) j rfl
  refine wpAny_updateSeq (hz:=by seq_fits) q rfl ?_
  have E:=aK7 (Obj.mapSeq (·.pop)) q rfl
  refine aJ2 ⟨plainId_quiet PySem.F.plain_extend_loop _,L I fp St g d _ _ _ W m M y ?_ (λb o hb e=>?_) E⟩
  ·refine W.frame 0 _ _ st λb hb o e=>?_
   have J:b ≠ S:=λh=>m (h ▸ hb)
   exact(aJ9 _ _ (Ne.symm J)).trans ((aJ9 _ _ (Ne.symm J)).trans e)
  ·exact(aJ9 _ _ (Ne.symm hb)).trans ((aJ9 _ _ (Ne.symm hb)).trans (G b o e))
 refine aJ1 (ay6 x hz (λhd=>?_) λhd pl d y=>?_)
 ·exact r _ s.heap.objs.size _ _ ((ord w a es ep).map (·.2)) s.drawn _ (walks (A:=A.in1) (prog:=prog) (w:=w) (t:=t) (ep:=ep) hh (aB6 u) hd) (by simp only[aA9,aI4,or_false,not_or];exact⟨aB6 p,C⟩) (aA6 _) (ord_perm.map _)
   ⟨0,⟨_,aJ5 _ rfl,rfl,rfl⟩,x.at λo e=>aJ3 _ e,λ_=>rfl⟩ λb o e=>aJ3 _ e
 ·refine r _ (s.heap.objs.size+1) _ _ (ordD es pl) d _ (a1j (A:=A.in1) (prog:=prog) (w:=w) (t:=t) (ep:=ep) (tu:=s.heap.objs.size) hh (aB6 (aF9 u)) (aB6 (aI7 _)) y) (by simp only[aA9,aI4,or_false,not_or];exact⟨aB6 (aF9 p),C,aB6 p⟩) (Nat.le_succ _) (ate y)
   ⟨⟨itO (.ref s.heap.objs.size) a es.size ep,?_,rfl,rfl⟩,x.at λo e=>aJ3 _ (aJ3 _ e),aJ3 _ (aJ5 _ rfl)⟩ λb o e=>aJ3 _ (aJ3 _ e)
  have:=aJ5 (s.heap.push (tuO pl)) (o:=itO (.ref s.heap.objs.size) a es.size ep) rfl
  rw[aK3] at this
  exact this
theorem aoe{Q:List Value->Shared->Prop}(hh:A.handled=none)(x:SetR prog w a es ep t s.heap)(hz:es.size<=sizeLine)
  (m:∀ h' j d (vs:List Value),(∀ b o,s.heap.get? b=some o->h'.get? b=some o)->s.heap.objs.size<=h'.objs.size->vs.Perm (es.toList.map (·.2))->Q vs { s with heap:=h',toks:=j,drawn:=d }):wpAny (model prog w) A (collect (.ref a)) Q E s:=by
 unfold collect
 refine aJ1 (wpAny_runValue (aK8 PySem.F.entry_proto_collect ?a1))
 case a1 =>
  rw[aK2 PySem.F.plain_proto_collect _];show wpAny _ A.in1 (newList [] >>= λl=>again (.builtin "list.__iadd__" ⟨[l,.ref a],[]⟩)) _ _ s
  refine aJ1 (aK1 (aJ2 ⟨plainId_quiet PySem.F.plain_list_iadd _,aK8 PySem.F.entry_list_iadd ?a2⟩))
  case a2 =>
   rw[aK2 PySem.F.plain_list_iadd _];show wpAny _ A.in1 (Builtin.List.listExtendWith (.ref s.heap.objs.size) (.ref a) (.ref s.heap.objs.size)) _ _ _
   have n:(s.heap.push { cls:=.type "list",data:=.seq ([]:List Value).toArray }).get? s.heap.objs.size=some { cls:=.type "list",data:=.seq #[] 0 }:=aJ5 _ rfl
   have f:a<s.heap.objs.size:=let ⟨_,e,_⟩:=x;aJ4 e
   refine a1k (R:=wants (λv s'=>wpAny (model prog w) A (match v with | .ref a=>(do match (← load a).data with | .seq xs _=>pure xs.toList|_=>unsupported "internal:collect")|_=>unsupported "internal:collect") Q E s') E) (s:={ s with heap:=s.heap.push { cls:=.type "list",data:=.seq ([]:List Value).toArray } }) hh (x.at λo e=>aJ3 _ e) hz s.heap.objs.size (Nat.ne_of_gt f) _ 0 n (λh' j d i c k g h=>?a3)
   case a3 =>
    show wpAny (model prog w) A _ Q E _
    refine aJ1 (wpAny_load g ?a4)
    case a4=>exact aJ2 (m h' j d i.toList (λb o e=>k b o (aB6 (aJ4 e)) (aJ3 _ e)) (aG6 (aJ4 g)) h)
end
end SS
namespace SH
open PySem PySem.W PyProof.Rows SS
section
variable{prog:Program}{w:World}{A:Around}{E:Value->Shared->Prop}{s:Shared}{a:Addr}
def SetB(prog:Program)(w:World)(a:Addr)(bs:List Addr)(h:Heap):Prop:=∃ es ep t,SetR prog w a es ep t h/\(es.toList.map (·.2)).Perm (bs.map Value.ref)
theorem sorted_setT{bs:List Addr}{Q:Value->Shared->Prop}(hh:A.handled=none)(x:SetB prog w a bs s.heap)(hb:bs.length<=4000)
  (F:∀ vs:List Value,vs.Perm (bs.map Value.ref)->2<=vs.length->∀ h' f d,(∀ b o,s.heap.get? b=some o->h'.get? b=some o)->∃ κ S R,(∀(Q:SortKind->Shared->Prop),Q κ { s with heap:=h',toks:=f,drawn:=d }->wpAny (model prog w) A.in1.in1 (keyKind' vs.toArray) Q E { s with heap:=h',toks:=f,drawn:=d })/\TS.Cmp (model prog w) A.in1.in1 E { s with heap:=h',toks:=f,drawn:=d } κ S R/\(∀ v∈vs,S (v,v)) /\
   ∀(out:List Value) p c e,out.Perm vs->out.Pairwise (λx y=>R (y,y) (x,x)=false)->(∀ b o,s.heap.get? b=some o->c.get? b=some o)->s.heap.objs.size<=p->c.get? p=some (seqObj "list" out.toArray e)->Q (.ref p) { s with heap:=c,toks:=f,drawn:=d })
  (K:∀(vs:List Value) p c e f d,vs.Perm (bs.map Value.ref)->vs.length<2->(∀ b o,s.heap.get? b=some o->c.get? b=some o)->s.heap.objs.size<=p->c.get? p=some (seqObj "list" vs.toArray e)->Q (.ref p) { s with heap:=c,toks:=f,drawn:=d }) :
  wpAny (model prog w) A (call (.builtin "sorted") [.ref a]) Q E s:=by
 obtain⟨es,ep,t,x,G⟩:=x
 have hsz:es.size=bs.length:=by have:=G.length_eq;simpa using this
 have i:es.size<=sizeLine:=by rw[sizeLine_eq];lia
 refine Calls.call_function_entry kind_sorted plain_sorted entry_sorted (args_sorted1 _) ?_
 unfold Builtin.«sorted»
 refine aJ1 (m:=checkCount "sorted" 1 1 _) (aJ2 (aJ1 (aoe (A:=A.in1) hh x i λg f d vs kp hs I=>?_)))
 have j:=I.trans G
 have u:vs.length=bs.length:=by rw[j.length_eq,aA3]
 have l:vs.length<=sizeLine:=by rw[u,sizeLine_eq];lia
 refine aJ1 (wpAny_newList ?_ l)
 have h:(g.push (seqObj "list" vs.toArray 0)).get? g.objs.size=some (seqObj "list" vs.toArray 0):=aJ5 _ rfl
 have keep:∀ b o,s.heap.get? b=some o->(g.push (seqObj "list" vs.toArray 0)).get? b=some o:=λb o e=>aJ3 _ (kp b o e)
 have fin:∀ out:List Value,(∀ b o,s.heap.get? b=some o->(sortedHeap (g.push (seqObj "list" vs.toArray 0)) g.objs.size vs out.toArray).get? b=some o):=λout b o q=>by
  have lt:=aJ4 (kp b o q)
  rw[sortedHeap_old (aB6 lt) (by rw[size_push'];exact aF9 lt)]
  exact keep b o q
 refine aJ1 (aJ7 (aK4 slot_list_sort ⟨_,h,rfl⟩ entry_list_sort ?body (args_list_sort _)))
 case body =>
  refine TS.list_sort_any (s:={ s with heap:=g.push (seqObj "list" vs.toArray 0),toks:=f,drawn:=d }) h l (λD h' M=>?_) λz=>?_
  ·obtain⟨κ,S,R,H,C,J,r⟩:=F vs j D h' f d λb o e=>M b o (aB6 (aJ4 (kp b o e))) (keep b o e)
   refine⟨κ,S,R,H,C,J,λout N L=>⟨_,rfl,aJ2 ⟨_,rfl,?_⟩⟩⟩
   obtain⟨e,B⟩:=sortedHeap_at (vs:=vs) (out:=out.toArray) (n:=0) h
   exact r out _ _ e N L (fin out) hs B
  ·refine⟨_,rfl,aJ2 ⟨_,rfl,?_⟩⟩
   obtain⟨e,B⟩:=sortedHeap_at (vs:=vs) (out:=vs.toArray) (n:=0) h
   exact K vs _ _ e f d j z (fin vs) hs B
end
end SH
namespace SS
open PySem PySem.W PyProof.Rows
section
variable{prog:Program}{w:World}{A:Around}{E:Value->Shared->Prop}{s:Shared}{a:Addr}
end
end SS
namespace L2
open PySem PySem.W PyProof.Rows
section
variable{X:Cx}
theorem Inv.drawn'{pins:List (Addr × Obj)}{σ:St}{H:Hp}{s:Shared}(I:Inv X pins σ H s)(d:Drawn):Inv X pins σ H { s with drawn:=d }:=⟨I.ok,I.os,I.bare,I.base,I.loc,I.cell,I.free,I.freeC,I.pin,I.hok,I.len⟩
end
end L2
namespace VL
open PySem PySem.Spec L2
section
variable{B:Bs}{env:En}{QO:Sl->En->Prop}{K:Frag}{ta:TA}{P:Program}{w:World}
end
end VL
namespace L2
open PySem PySem.W PyProof.Rows
def aww(P:Program)(w:World)(K:Frag):List V->Hp->VK->Prop:=λxs H Q=>∃(a:Addr)(ts:List Addr)(ps:List (List Int)),xs=[.ref a]/\SqL K H a (ts.map V.ref)/\ts.length=ps.length/\ps.length<=2030 /\
 (∀(i:Nat) t k,ts[i]?=some t->ps[i]?=some k->H t=some (.tup (k.map V.int))) /\
 ∀(bs:List Addr)(L:List (List Int))(p:Addr),bs.length=L.length->L.length<=ps.length->(∀(i:Nat) b k,bs[i]?=some b->L[i]?=some k->H b=some (.tup (k.map V.int)))->L.Nodup->(∀ x,x∈L ↔ x∈ps)->H p=none->Q (.ref p) (upd H p (.ext (SH.SetB P w p bs)))
def apy(P:Program)(w:World):List V->Hp->VK->Prop:=λxs H Q=>∃(a:Addr)(bs:List Addr),xs=[.ref a]/\H a=some (.ext (SH.SetB P w a bs))/\bs.length<=4000/\(∀ b∈bs,TupI H (.ref b)) /\
 ∀(vs':List V)(p:Addr),vs'.Perm (bs.map V.ref)->vs'.Pairwise (λx y=>HT.lexLt (kH H y) (kH H x)=false)->H p=none->Q (.ref p) (upd H p (.lst vs'))
section
variable{X:Cx}
theorem anf{P:Program}{w:World}:∀{its:List Value}{k:List Int},IntsAre its k->ItemsAre (intKind P w) k its
 |_,_,.nil=>.nil
 |_,_,.cons i tk h=>.cons (intKind_is _ _ _ _) (anf h)
theorem awx{H:Hp}{h:Heap}{P:Program}{w:World}(ok:HOk P w H h){t:Addr}{k:List Int}(e:H t=some (.tup (k.map V.int))):(SH.TK P w).is h k t:=by
 obtain⟨_,its,c,o,d,b,n,a⟩:=(show ObjOk P w H h t (.tup (k.map V.int)) from ok t _ e)
 refine⟨o,its.toArray,n,d,b,a,?_⟩
 have hi:IntsAre its k:=by simpa using (acj c:IntsAre its.toArray.toList k)
 show ItemsAre (intKind P w) k its.toArray.toList
 rw[List.toList_toArray]
 exact anf hi
theorem call_setT(hc:X.calm=true)(G:X.A.units+64<cLine):abh X (.type "set") (aww X.prog X.w X.K):=by
 intro pins s σ H xs us Q I r h
 obtain⟨a,ts,ps,rfl,ha,hl,hz,Z,q⟩:=h
 obtain⟨u,rfl,O⟩:=acb r
 cases O
 obtain⟨its,S,W,_⟩:=I.list ha
 have m:its.length=ts.length:=by have:=S.length;rw[aA3] at this;lia
 have hsz:its.toArray.size=ts.length:=by simp[m]
 have J:∀{i},i<ts.length->ts[i]?=some (ts.getD i 0):=λ{i} hi=>by rw[aD4,aA0 hi];rfl
 have R:∀{i},i<ts.length->ps[i]?=some (ps.getD i []):=λ{i} hi=>by rw[aD4,aA0 (show i<ps.length by lia)];rfl
 have E:∀ i,i<ts.length->H (ts.getD i 0)=some (.tup ((ps.getD i []).map V.int)):=λi hi=>Z i _ _ (J hi) (R hi)
 refine SH.call_setT (n:=0) (U:=λb=>b∈ts) (items:=its.toArray) (val:=λi=>ps.getD i []) (tup:=λi=>ts.getD i 0) (I.ok.hd hc) (by show X.A.units+1+1+1<cLine;lia) W.isList (λi v D=>?_) (λi hi=>awx I.hok (E i (by lia))) (λi hi=>aA2 (J (by lia))) (λb hb=>?_) (by lia) λh' tk L Y nd nl hm kp=>?_
 ·have D:its[i]?=some v:=by simpa using D
  have hi:=(aA1.mp D).1
  have g:(ts.map V.ref)[i]?=some (.ref (ts.getD i 0)):=by rw[aA5,J (by lia)];rfl
  obtain⟨u,G,O⟩:=S.get g
  rw[D] at G
  cases G
  exact O
 ·obtain⟨i,hi⟩:=aD3 hb
  have f:=(aA1.mp hi).1
  have:=E i f
  rw[aD4,hi] at this
  exact ObjOk.lt (I.hok _ _ this)
 ·obtain⟨es,ep,t,ks,x,_,p⟩:=Y
  have d:∀(i:Nat)(e:Int × Value) k,es.toList[i]?=some e->ks[i]?=some k->∃ b,e.2=.ref b/\H b=some (.tup (k.map V.int)):=λi e k c C=>by
   obtain⟨b,g,P,e3⟩:=x.gd i e k c C
   refine⟨b,by rw[g],?_⟩
   obtain⟨j,l⟩:=aD3 e3
   have B:=(aA1.mp l).1
   have hb:=E j B
   rw[aD4,l] at hb
   have hb:H b=some (.tup ((ps.getD j []).map V.int)):=hb
   have h3:=awx (I.hok.kept kp) hb
   rw[(SH.TK X.prog X.w).inj P h3]
   exact hb
  have N:∃ bs:List Addr,es.toList.map (·.2)=bs.map Value.ref/\bs.length=ks.length/\∀(i:Nat) b k,bs[i]?=some b->ks[i]?=some k->H b=some (.tup (k.map V.int)):=by
   refine⟨es.toList.map λe=>match e.2 with | .ref b=>b|_=>0,?_,?_,λi b k c C=>?_⟩
   ·rw[aE0]
    refine aF0 λe z=>?_
    obtain⟨i,hi⟩:=aD3 z
    have f:i<ks.length:=by rw[x.len,← aA8];exact(aA1.mp hi).1
    obtain⟨b,g,_⟩:=d i e _ hi (aA0 f)
    simp only[Function.comp,g]
   ·rw[aA3,x.len,aA8]
   ·rw[aA5] at c
    cases z:es.toList[i]? with
    |none=>rw[z] at c;cases c
    | some e =>
     rw[z] at c
     obtain⟨b',g,P⟩:=d i e k z C
     rw[aI2,g] at c
     cases c
     exact P
  obtain⟨bs,b1,T,b3⟩:=N
  have F:=I.hok.fresh (a:=s.heap.objs.size) (aA6 _)
  have M:SH.SetB X.prog X.w s.heap.objs.size bs h':=⟨es,ep,t,x.r,by rw[b1]⟩
  refine⟨.ref s.heap.objs.size,_,I.laid (t':=tk) (o:=.ext (SH.SetB X.prog X.w s.heap.objs.size bs)) kp (aA6 _) ⟨M,?_,λc C ⟨es,ep,t,y,r⟩ k=>⟨es,ep,t,y.at k,r⟩⟩,rfl,q bs ks _ T ?_ b3 x.nd (λy=>?_) F⟩
  ·obtain⟨o,e,_⟩:=x.r
   exact⟨o,e⟩
  ·rw[p.length_eq];lia
  ·rw[p.mem_iff,hm]
   constructor
   ·rintro⟨j,l,e⟩
    rw[← e]
    exact aA2 (R (by lia))
   ·intro hy
    obtain⟨j,l⟩:=aD3 hy
    have B:=(aA1.mp l).1
    exact⟨j,by lia,by rw[aD4,l];rfl⟩
theorem ahh(S:X.calm=true):abh X (.builtin "sorted") (apy X.prog X.w):=by
 intro pins s σ H xs us Q I r h
 obtain⟨a,bs,rfl,ha,hz,U,q⟩:=h
 obtain⟨u,rfl,ru⟩:=acb r
 cases ru
 obtain⟨Z,_,_⟩:=(show ObjOk X.prog X.w H s.heap a (.ext (SH.SetB X.prog X.w a bs)) from I.hok a _ ha)
 have c:∀{us:List Value},us.Perm (bs.map Value.ref)->∀ u∈us,∃ b,u=.ref b/\b∈bs:=λ{us} g u B=>by
  obtain⟨b,hb,rfl⟩:=aB7.mp (g.mem_iff.mp B)
  exact⟨b,rfl,hb⟩
 have l:∀{us:List Value},us.Perm (bs.map Value.ref)->Vals (us.map adc) us/\(∀ v∈us.map adc,TupI H v)/\(us.map adc).Perm (bs.map V.ref):=λ{us} g=>by
  refine⟨agh λu B=>let ⟨b,e,_⟩:=c g u B;⟨b,e⟩,λv A=>?_,?_⟩
  ·obtain⟨u,B,rfl⟩:=aB7.mp A
   obtain⟨b,rfl,hb⟩:=c g u B
   exact U b hb
  ·have:=g.map adc
   rw[aE0] at this
   exact this
 have fin:∀(us out:List Value) p f e m d,us.Perm (bs.map Value.ref)->out.Perm us->(out.map adc).Pairwise (λx y=>HT.lexLt (kH H y) (kH H x)=false)->(∀ b o,s.heap.get? b=some o->f.get? b=some o)->s.heap.objs.size<=p->f.get? p=some (seqObj "list" out.toArray e)->EP X pins σ Q (.ref p) { s with heap:=f,toks:=m,drawn:=d }:=by
  intro us out p f e m d g n hs kp j z
  obtain⟨D,G,F⟩:=l (n.trans g)
  have L:out.length=bs.length:=by rw[(n.trans g).length_eq,aA3]
  have J:=I.laid (t':=m) (o:=.lst (out.map adc)) kp j (show ObjOk X.prog X.w _ f p (.lst (out.map adc)) from⟨by rw[aA3,L,sizeLine_eq];lia,out,e,D,by rw[z]⟩)
  exact⟨.ref p,_,J.drawn' d,rfl,q _ _ F hs (I.hok.fresh j)⟩
 refine SH.sorted_setT (I.ok.hd S) Z hz (λvs g a0 h' m d kp=>?_) λvs p f e m d g C kp j z=>?_
 ·obtain⟨D,G,F⟩:=l g
  obtain⟨⟨fs,k1,k2,Y⟩,P⟩:=ahr I kp D G
  have E:(Value.type "int" != Value.type "tuple")=true:=by rfl
  refine⟨tuples' true,TS.tS h' (λa=>kH H (.ref a)),TS.tR (λa=>kH H (.ref a)),λQ' O=>?_,TS.cmp_tups (s:={ s with heap:=h',toks:=m,drawn:=d }) (λa=>kH H (.ref a)),λv A=>?_,λout p f e n hs N j z=>fin vs out p f e m d g n ?_ N j z⟩
  ·refine PySem.W.kat_kind (T:=.type "int") (s:={ s with heap:=h',toks:=m,drawn:=d }) k1 (by lia) (λv A=>?_) (by rfl) ?_
   ·obtain⟨i,t,rfl⟩:=Y v A
    exact .now
   ·rw[E];exact O
  ·obtain⟨a,e,ht⟩:=P v A
   exact⟨rfl,a,e,ht⟩
  ·rw[aG2]
   refine aI1 ?_ hs
   intro x y K R M
   obtain⟨ax,rfl,_⟩:=c (n.trans g) x K
   obtain⟨ay,rfl,_⟩:=c (n.trans g) y R
   exact M
 ·exact fin vs vs p f e m d g (List.Perm.refl _) (amo (by rw[aA3];exact C)) kp j z
end
end L2
namespace VL
open PySem PySem.Spec L2
section
variable{B:Bs}{env:En}{QO:Sl->En->Prop}{K:Frag}{ta:TA}{P:Program}{w:World}
theorem aix(h:EvA B ta env λds e=>∃ ps:List (Int × Int),ds=[.list (ps.map prD)]/\ps.length<=2030/\∀ qs:List (Int × Int),qs.Nodup->(∀ x,x∈qs ↔ x∈ps)->lexS (qs.map p2)->QO (.own (OL (qs.map prD))) e):EvO B (tCB (apy P w) (acd (tCB (aww P w K) ta) tNil)) env QO:=λσ G H F Q I k =>
 h σ G H F _ I λvs G1 f F1 ds e1 n g1 r1 z_=>by
  obtain⟨ps,ed,hl,q1⟩:=z_
  subst ed
  cases r1 with
  | cons r t =>
   cases t
   cases r with
   | @lst a us _ ha rs =>
    rw[← air] at rs
    obtain⟨t1,t2⟩:=ae6 n.gh rs awq
    have R:us.length=ps.length:=by have:=congrArg List.length t2;simpa using this
    obtain⟨ts,O⟩:∃ ts:List Addr,us=ts.map V.ref:=⟨us.map λv=>match v with | .ref b=>b|_=>0,by
     rw[aE0]
     conv=>lhs;rw[← List.map_id us]
     refine aF0 λv Z=>?_
     obtain⟨b,_,rfl,_⟩:=t1 v Z
     rfl⟩
    subst O
    have T:ts.length=ps.length:=by simpa using R
    have hk:∀(i:Nat) t q,ts[i]?=some t->(ps.map p2)[i]?=some q->f t=some (.tup (q.map V.int)):=λi t q N Y=>by
     have h3:(ts.map V.ref)[i]?=some (.ref t):=by rw[aA5,N];rfl
     obtain⟨b,ns,e,hb,_⟩:=t1 _ (aA2 h3)
     cases e
     have h4:((ts.map V.ref).map (kH f))[i]?=some (kH f (.ref t)):=by rw[aA5,h3];rfl
     rw[t2,Y,aih hb] at h4
     cases h4
     exact hb
    refine⟨a,ts,ps.map p2,rfl,SqL.of (n.gh _ _ ha),by rw[aA3];exact T,by rw[aA3];exact hl,hk,λbs L p X U a1 nd hm hf=>?_⟩
    rw[aA3] at U
    have J:=n.aside (p:=p) (o:=.ext (SH.SetB P w p bs)) (λ_ z=>nomatch z) (n.no_g hf) (λj z=>n.no_f hf j z) (n.no_b hf)
    have M:∀(i:Nat) b q,bs[i]?=some b->L[i]?=some q->upd f p (.ext (SH.SetB P w p bs)) b=some (.tup (q.map V.int)):=λi b q N Y=>by
     have:=a1 i b q N Y
     rw[aaf (aam this hf)]
     exact this
    have m:∀ q∈L,∃ x∈ps,q=p2 x:=λq S=>by
     obtain⟨x,u,e⟩:=aB7.mp ((hm q).mp S)
     exact⟨x,u,e.symm⟩
    have C:∀ b∈bs,TupI (upd f p (.ext (SH.SetB P w p bs))) (.ref b):=λb hb=>by
     obtain⟨i,hi⟩:=aD3 hb
     have D:i<L.length:=by rw[← X];exact(aA1.mp hi).1
     refine⟨b,L[i],rfl,M i b _ hi (aA0 D),?_⟩
     obtain⟨x,_,e⟩:=m _ (aF3 D)
     rw[e]
     simp
    have W:(bs.map V.ref).map (kH (upd f p (.ext (SH.SetB P w p bs))))=L:=by
     refine aG3 λi=>?_
     rw[aA5,aA5]
     by_cases hi:i<bs.length
     ·rw[aA0 hi,aA0 (show i<L.length by lia),aI2,aI2,aih (M i _ _ (aA0 hi) (aA0 (by lia)))]
     ·rw[aE3 (by lia),aE3 (show L.length<=i by lia)]
      rfl
    refine⟨p,bs,rfl,aaj,by lia,C,λE p' hp hs a0=>?_⟩
    have tw:∀ v∈E,TupI (upd f p (.ext (SH.SetB P w p bs))) v:=λv Z=>by
     obtain⟨b,hb,rfl⟩:=aB7.mp (hp.mem_iff.mp Z)
     exact C b hb
    have o:=Out.newL J.gh a0 (ahv J.ft tw)
    have g:(E.map (kH (upd f p (.ext (SH.SetB P w p bs))))).Perm L:=by
     have:=hp.map (kH (upd f p (.ext (SH.SetB P w p bs))))
     rw[W] at this
     exact this
    obtain⟨qs,s⟩:∃ qs:List (Int × Int),E.map (kH (upd f p (.ext (SH.SetB P w p bs))))=qs.map p2:=⟨(E.map (kH (upd f p (.ext (SH.SetB P w p bs))))).map λl=>(l.getD 0 0,l.getD 1 0),by
     rw[aE0]
     conv=>lhs;rw[← List.map_id (E.map (kH (upd f p (.ext (SH.SetB P w p bs)))))]
     refine aF0 λq S=>?_
     obtain⟨x,_,rfl⟩:=m q (g.mem_iff.mp S)
     rfl⟩
    rw[s] at g o
    rw[air] at o
    have A:∀ x y:Int × Int,p2 x=p2 y->x=y:=λx y e=>by
     obtain⟨a,b⟩:=x
     obtain⟨c,d⟩:=y
     simp[p2] at e
     rw[e.1,e.2]
    refine k _ _ _ F1 _ _ e1 (J.out o).1 (g1.trans o.gg) (J.out o).2 (q1 qs ?_ (λx=>?_) ?_)
    ·have:=g.nodup_iff.mpr nd
     rw[List.Nodup,aG2] at this
     exact this.imp λ{x y} h e=>h (by rw[e])
    ·constructor
     ·intro u
      obtain⟨y,hy,e⟩:=m _ (g.mem_iff.mp (List.mem_map_of_mem u))
      rw[A x y e]
      exact hy
     ·intro u
      obtain⟨y,hy,e⟩:=aB7.mp (g.mem_iff.mpr ((hm (p2 x)).mpr (List.mem_map_of_mem u)))
      rw[← A y x e]
      exact hy
    ·rw[← s]
     unfold lexS
     rw[aG2]
     exact hs
end
end VL
namespace PopT
open PySem PyProof.Rows
section
variable{prog:Program}{w:World}{K:Type} [DecidableEq K] {knd:HeapKind prog w K} {A:Around} {E:Value->Shared->Prop} {s:Shared}
end
end PopT
namespace L2
open PySem PySem.Spec PySem.W PyProof.Rows
section
variable{X:Cx}{pins:List (Addr × Obj)}{σ:St}{H:Hp}{s:Shared}{a b:Addr}{A:Around}{E:Value->Shared->Prop}
end
section
variable{X:Cx}{o e f:Expr}{apos cpos:Pos}{td ty tx:TE}
end
end L2
namespace DNe
open PySem PyProof.Rows
end DNe
namespace L2
open PySem PySem.Spec PySem.W PyProof.Rows
end L2
namespace DNe
open PySem PyProof.Rows
section
variable{prog:Program}{w:World}{A:Around}{E:Value->Shared->Prop}{s:Shared}
end
end DNe
namespace L2
open PySem PySem.Spec PySem.W PyProof.Rows
end L2
namespace VL
open PySem PySem.Spec L2
section
variable{B:Bs}{env:En}{Q':PyData->En->Prop}{QO:Sl->En->Prop}{i:Nat}{ty:TE}
end
section
variable{B:Bs}{env:En}{QO:Sl->En->Prop}{Q':PyData->En->Prop}{K:Frag}{i:Nat}
end
theorem atf{α:Type}{K:Frag}{src:List (Option Nat)}{a:En}{te:TE}{c:TT}{R:List PyData->En->Prop}{xs:List α}{f : α->PyData}(g : α->PyData)(p : α->Bool)(m:noIo (aai src a)=true)(M:xs.length<=999999)
  (h:∀ x∈xs,∀ j:Bs,j.K=K->EvT j c (some (.st (f x))::aai src a) λb r=>b=p x/\r=some (.st (f x))::aai src a/\(b=true->Ev j te (some (.st (f x))::aai src a) λy q=>y=g x/\q=some (.st (f x))::aai src a))
  (C:R ((xs.filter p).map g) a):LcV K (none::src) (aar 0) c te (xs.map f) a R:=by
 have l:noIo (aai (none::src) a)=true:=by
  show((none::aai src a).all λs=>!isIo s)=true
  rw[List.all_cons]
  exact(aH2 _ _).mpr ⟨rfl,m⟩
 refine⟨λi ys e=>ys=((xs.take i).filter p).map g/\∃ o,e=stO o::aai src a,⟨by simp,none,rfl⟩,?_,?_,?_⟩
 ·rintro i ys e ⟨_,o,rfl⟩
  exact⟨⟨isIo_stO.symm,abt⟩,acz acr⟩
 ·rintro i d ys e hd ⟨rfl,o,rfl⟩ j E
  rw[aA5] at hd
  cases hx:xs[i]? with
  |none=>rw[hx] at hd;cases hd
  |some x =>
  rw[hx] at hd
  cases hd
  have hi:i<xs.length:=(aA1.mp hx).1
  have z:xs.take (i+1)=xs.take i++[x]:=by rw[aH5,hx];rfl
  refine aap ?_
  show EvT j c (some (.st (f x))::aai src a) _
  intro σ G H F Q I k
  refine h x (aA2 hx) j E σ G H F Q I λb G' H' u r w g' ⟨hb,B,J⟩=>k b G' H' u r w g' ?_
  subst B
  by_cases hp:b=true
  ·rw[aF6 hp]
   intro σ G H F Q I k
   refine J hp σ G H F Q I λv G' H' u d' q w g' D ⟨A,n⟩=>k v G' H' u d' q w g' D ?_
   subst A n
   refine⟨?_,?_,some _,rfl⟩
   ·have:=aF4 p (xs.take i)
    simp only[aA3]
    have L:(xs.take i).length<=i:=by simp;lia
    lia
   ·rw[z,List.filter_append,aE5]
    have:p x=true:=by rw[← hb];exact hp
    simp[this]
  ·rw[aF7 hp]
   refine⟨?_,some _,rfl⟩
   rw[z,List.filter_append,aE5]
   have:p x=false:=by rw[← hb];simpa using hp
   simp[this]
 ·rintro ys e ⟨rfl,o,rfl⟩
  rw[aed l,aA3,aG9]
  exact C
section
variable{B:Bs}{env:En}{QO:Sl->En->Prop}{Q':PyData->En->Prop}{K:Frag}{i:Nat}
end
end VL
namespace L2
open PySem PySem.Spec PyProof.Rows
def apz(r r' r'':R2)(ta tb tc td:TE):TE:=λσ H Q=>ta σ H λx H1=>tb σ H1 λy H2=>r x y H2 λz H3=>∃ k,z=.bl k /\
 (if k=true then tc σ H3 λw' H4=>r' y w' H4 λz2 H5=>∃ k2,z2=.bl k2/\(if k2=true then td σ H5 λu' H6=>r'' w' u' H6 Q else Q (.bl false) H5) else Q (.bl false) H3)
variable{X:Cx}{a b c d:Expr}{ta tb tc td:TE}{pos:Pos}
theorem atg{op g f:CmpOp}{r q j:R2}(S:OpR X (compareOp op) r)(l:OpR X (compareOp g) q)(i:OpR X (compareOp f) j)(ha:PE X a ta)(hb:PE X b tb)(hc:PE X c tc)(hd:PE X d td)
  (hm:lastMarks [op,g,f] [b,c,d]=false:=by with_unfolding_all rfl):PT X (.Compare a [op,g,f] [b,c,d] pos) (ap6 (apz r q j ta tb tc td)):=by
 intro pins s σ H Q I h
 refine isTrue_chain (thn (ha pins s σ H _ I h) λv s1 ⟨x,H1,N,T,R⟩=>test_link (thn (hb pins s1 σ H1 _ N R) λu s2 ⟨y,H2,I2,D,q2⟩ =>
  thn (S pins s2 σ H2 x y v u _ I2 T D q2) λd s3 ⟨z,H3,o,J,k,e,A⟩=>?_)) hm
 subst e
 cases J
 refine aK5 ?_
 cases k with
 | false =>
  obtain⟨k',n,m⟩:=A
  cases n
  exact ite_ff ⟨H3,o,m⟩
 | true =>
  refine ite_tt (test_link (thn (hc pins s3 σ H3 _ o A) λE s4 ⟨F,G,P,p,q4⟩=>thn (l pins s4 σ G y F u E _ P D p q4) λd' M ⟨z2,C,B,U,Z,e2,w⟩=>?_))
  subst e2
  cases U
  refine aK5 ?_
  cases Z with
  | false =>
   obtain⟨k',n,m⟩:=w
   cases n
   exact ite_ff ⟨C,B,m⟩
  | true =>
   refine ite_tt (test_last (thn (hd pins M σ C _ B w) λO L ⟨z3,W,I6,Y,K⟩=>thn (i pins L σ W F z3 E O _ I6 p Y K) λd2 s7 ⟨z4,H7,I7,r7,k3,e3,q7⟩=>?_))
   subst e3
   cases r7
   exact aK5 ⟨H7,I7,q7⟩
end L2
namespace VL
open PySem PySem.Spec L2
variable{B:Bs}{env:En}{Q':PyData->En->Prop}{ta tb tc td:TE}
theorem ath{r T i:R2}(h:Ev B ta env λx e1=>Ev B tb e1 λy p=>Op2 r x y λs=>∃ b,s=.st (.bool b)/\if b=true then Ev B tc p λz e3=>Op2 T y z λs'=>∃ c,s'=.st (.bool c)/\if c=true then Ev B td e3 λu M=>Op2 i z u λD=>FQ D λd=>Q' d M else Q' (.bool false) e3 else Q' (.bool false) p):Ev B (apz r T i ta tb tc td) env Q':=λσ G H F Q I k =>
 h σ G H F _ I λv1 G1 H1 F1 x e1 I1 K r1 q1=>q1 σ G1 H1 F1 _ I1 λv2 G2 H2 F2 y p I2 m r2 q2 =>
  q2 G2 H2 v1 v2 _ I2.gh (r1.same m) r2 λv G3 H3 s Fv o z_=>by
   obtain⟨b,es,l⟩:=z_
   have R:=(I2.out o).1
   have P:=o.ok
   subst es
   obtain⟨P,_⟩:=P
   cases P
   refine⟨b,rfl,?_⟩
   cases b with
   |false=>rw[aF7 aB0] at l ⊢;exact k _ G3 H3 F2 _ p R (K.trans (m.trans o.gg)) (.bl _) l
   | true =>
    rw[aF6 rfl] at l ⊢
    refine l σ G3 H3 F2 _ R λv3 G4 H4 F4 z M X w S q4=>q4 G4 H4 v2 v3 _ X.gh (r2.same (o.gg.trans w)) S λv5 Z Y s5 a0 g ⟨c,E,j⟩=>?_
    have U:=(X.out g).1
    have a:=g.ok
    subst E
    obtain⟨a,_⟩:=a
    cases a
    refine⟨c,rfl,?_⟩
    cases c with
    |false=>rw[aF7 aB0] at j ⊢;exact k _ Z Y F4 _ M U (K.trans (m.trans (o.gg.trans (w.trans g.gg)))) (.bl _) j
    | true =>
     rw[aF6 rfl] at j ⊢
     refine j σ Z Y F4 _ U λv6 G6 H6 F6 u W I6 g6 r6 q6=>q6 G6 H6 v3 v6 Q I6.gh (S.same (g.gg.trans g6)) r6 λC G7 O s7 L N n=>?_
     have J:=I6.out N
     have gg:=K.trans (m.trans (o.gg.trans (w.trans (g.gg.trans (g6.trans N.gg)))))
     cases s7 with
     |st d=>exact k C G7 O F6 d W J.1 gg N.ok.1 n
     | own A =>
      obtain⟨d,f,q⟩:=n
      exact k C _ O F6 d W (J.1.freeze J.2.fb J.2.fd J.2.fg) (gg.trans (abo J.2.fg)) (f G7 O C L J.2.ok J.2.fg J.1.gh) q
     |io A=>exact n.elim
     |scr ns=>exact n.elim
end VL
namespace G
open PySem L2 VL
def top(i:Nat):Stmt:=PySem.Challenge.pw_fewties_k18_whole_few_and_one.main.body.getD i (.Pass ⟨0,0,0,0⟩)
abbrev s_is_whole:Stmt:=top 7
abbrev s_is_between:Stmt:=top 8
abbrev s_need_number:Stmt:=top 9
abbrev s_is_place:Stmt:=top 10
abbrev s_is_tie:Stmt:=top 11
abbrev s_are_ties:Stmt:=top 12
abbrev s_is_rising:Stmt:=top 13
abbrev s_tied_places:Stmt:=top 14
abbrev s_far_from:Stmt:=top 15
abbrev s_need_place:Stmt:=top 16
abbrev s_all_far:Stmt:=top 17
abbrev s_is_joined:Stmt:=top 18
abbrev s_need_joined:Stmt:=top 20
abbrev s_far_rows:Stmt:=top 21
abbrev s_most_far:Stmt:=top 22
abbrev s_farthest_two:Stmt:=top 23
abbrev s_with_ties:Stmt:=top 27
abbrev s_free_ties:Stmt:=top 28
abbrev s_rows_with:Stmt:=top 29
abbrev s_row_with:Stmt:=top 30
abbrev s_best_tie:Stmt:=top 31
abbrev s_best_few:Stmt:=top 32
abbrev s_one_tie_more:Stmt:=top 33
abbrev s_law_draws:Stmt:=top 35
abbrev s_law_web:Stmt:=top 36
abbrev s_law_free:Stmt:=top 38
abbrev s_law_one_right:Stmt:=top 39
abbrev s_law:Stmt:=top 40
structure Txt(K:Frag)(mg:Str->Option Value):Prop where
 b_ValueError:mg "ValueError" = none
 b_all:mg "all" = none
 b_max:mg "max" = none
 b_sorted:mg "sorted" = none
 b_min:mg "min" = none
 b_list:mg "list" = none
 b_range:mg "range" = none
 b_enumerate:mg "enumerate" = none
 b_isinstance:mg "isinstance" = none
 b_int:mg "int" = none
 b_len:mg "len" = none
 b_abs:mg "abs" = none
 b_bool:mg "bool" = none
 b_tuple:mg "tuple" = none
 b_zip:mg "zip" = none
 b_set:mg "set" = none
 lam:LamAt K mg
 v_MOST_FEW:∃ t,mg "MOST_FEW" = some (.int 3 t)
 v_MOST_PLACES_FOR_FEW:∃ t,mg "MOST_PLACES_FOR_FEW" = some (.int 8 t)
 d_is_whole:∃ f fd,DefAt K mg "is_whole" s_is_whole ["thing"] f fd
 d_is_between:∃ f fd,DefAt K mg "is_between" s_is_between ["least","most","thing"] f fd
 d_need_number:∃ f fd,DefAt K mg "need_number" s_need_number ["least","most","thing"] f fd
 d_is_place:∃ f fd,DefAt K mg "is_place" s_is_place ["n","thing"] f fd
 d_is_tie:∃ f fd,DefAt K mg "is_tie" s_is_tie ["n","thing"] f fd
 d_are_ties:∃ f fd,DefAt K mg "are_ties" s_are_ties ["n","thing"] f fd
 d_is_rising:∃ f fd,DefAt K mg "is_rising" s_is_rising ["things"] f fd
 d_tied_places:∃ f fd,DefAt K mg "tied_places" s_tied_places ["web"] f fd
 d_far_from:∃ f fd,DefAt K mg "far_from" s_far_from ["tied","start"] f fd
 d_need_place:∃ f fd,DefAt K mg "need_place" s_need_place ["web","thing"] f fd
 d_all_far:∃ f fd,DefAt K mg "all_far" s_all_far ["web","a"] f fd
 d_is_joined:∃ f fd,DefAt K mg "is_joined" s_is_joined ["web"] f fd
 d_need_joined:∃ f fd,DefAt K mg "need_joined" s_need_joined ["web"] f fd
 d_far_rows:∃ f fd,DefAt K mg "far_rows" s_far_rows ["web"] f fd
 d_most_far:∃ f fd,DefAt K mg "most_far" s_most_far ["rows"] f fd
 d_farthest_two:∃ f fd,DefAt K mg "farthest_two" s_farthest_two ["web"] f fd
 d_with_ties:∃ f fd,DefAt K mg "with_ties" s_with_ties ["web","ties"] f fd
 d_free_ties:∃ f fd,DefAt K mg "free_ties" s_free_ties ["web"] f fd
 d_rows_with:∃ f fd,DefAt K mg "rows_with" s_rows_with ["rows","tie"] f fd
 d_row_with:∃ f fd,DefAt K mg "row_with" s_row_with ["rows","row","tie"] f fd
 d_best_tie:∃ f fd,DefAt K mg "best_tie" s_best_tie ["web"] f fd
 d_best_few:∃ f fd,DefAt K mg "best_few" s_best_few ["web","k"] f fd
 d_one_tie_more:∃ f fd,DefAt K mg "one_tie_more" s_one_tie_more ["level"] f fd
 d_law_draws:∃ f fd,DefAt K mg "_law_draws" s_law_draws ["script","many"] f fd
 d_law_web:∃ f fd,DefAt K mg "_law_web" s_law_web ["d","spot","most"] f fd
 d_law_free:∃ f fd,DefAt K mg "_law_free" s_law_free ["web"] f fd
 d_law_one_right:∃ f fd,DefAt K mg "_law_one_right" s_law_one_right ["web","k","told","d"] f fd
 d_law:∃ f fd,DefAt K mg "law" s_law ["script"] f fd
local macro_rules | `(tactic| row_cond sc) => `(tactic| exact ⟨rfl,rfl,rfl,by decide +kernel,rfl,by decide +kernel,by decide +kernel⟩)
local macro_rules | `(tactic| row_cond gn) => `(tactic| first | (with_reducible first | refine evg_n0 ?_ | refine a0r ?_ | refine a0s ?_ | refine a0t ?_ | refine a0u ?_ | refine a0v ?_ | refine a0w ?_ | refine a0x ?_ | refine a0y ?_ | refine a0z ?_ | refine ax6 ?_ | refine ax7 ?_ | refine ax8 ?_ | refine ax9 ?_ | refine aya ?_ | refine ayb ?_ | refine ayc ?_ | refine ayd ?_ | refine evg_n18 ?_ | refine evg_n19 ?_ | refine evg_n20 ?_ | refine evg_n21 ?_ | refine evg_n22 ?_ | refine evg_n23 ?_ | refine evg_n24 ?_ | refine evg_n25 ?_) | ((with_reducible refine aap ?_); dsimp only [List.set_cons_zero, List.set_cons_succ]))
local macro_rules | `(tactic| row_cond dc) => `(tactic| first | assumption | lia | (with_reducible rfl))
local macro_rules | `(tactic| row_cond ar) => `(tactic| first | assumption | (refine ⟨?_, ?_, ?_⟩ <;> decide) | (constructor <;> first | assumption | lia) | (show (0 : Int) < _; first | assumption | lia) | (left; constructor <;> first | assumption | lia) | (right; constructor <;> first | assumption | lia))
local macro_rules | `(tactic| row_cond hs) => `(tactic| first | exact Or.inl rfl | exact Or.inr rfl)
local macro_rules | `(tactic| row_cond fz) => `(tactic| first | exact ab3 | exact frz_OD | exact frz_OT | exact as6 | exact aji | assumption)
local macro_rules | `(tactic| row_cond le) => `(tactic| first | exact Nat.le_of_ble_eq_true rfl | assumption | lia | (simp only [List.length_append, List.length_map, List.length_cons, List.length_nil, List.length_set, List.length_replicate]; lia))
local macro_rules | `(tactic| row_cond ia) => `(tactic| first | assumption | exact at0 | exact at1 | exact at2 | exact rfl)
local macro_rules | `(tactic| row_cond ty) => `(tactic| first | exact a0o | exact ax4 | exact avd | exact ax5 | exact ty_str | exact ty_dict)
local macro_rules | `(tactic| row_cond sEvS) => `(tactic| first | (with_reducible refine auy (fun c_ hc_ => ?_)) | (with_reducible first | refine axs ?_ | refine ash ?_ | refine auu ?_) | ((with_reducible refine' ave ?h0 ?_); (case h0 => exact rfl)) | (with_reducible first | refine ao8 ?_ | refine axt ?_ | refine afp ?_) | ((with_reducible refine' aqu ?h0 ?_); (case h0 => exact rfl)) | ((with_reducible refine' ao9 ?h0 ?_); (case h0 => assumption)))
local macro_rules | `(tactic| row_cond sEvG) => `(tactic| first | row_cond gn | ((with_reducible refine' afd ?h0 ?_); (case h0 => exact rfl)) | ((with_reducible refine' avc ?h0 ?_); (case h0 => row_cond hs)) | ((with_reducible refine' apk ?h0 ?_); (case h0 => exact rfl)) | (with_reducible refine evg_st ?_))
local macro_rules | `(tactic| row_cond sEvGs) => `(tactic| first | (with_reducible first | refine abg ?_ | refine adp ?_))
local macro_rules | `(tactic| row_cond sEv) => `(tactic| first | ((with_reducible refine' a0b ?h0 ?_); (case h0 => exact rfl)) | (with_reducible refine a0c ?_) | ((with_reducible refine' a0m ?h0 ?_); (case h0 => row_cond hs)) | (with_reducible refine a19 ?_) | ((with_reducible refine' a0n ?h0 ?_); (case h0 => row_cond ty)) | ((with_reducible refine' a0l ?h0 ?h1 ?_); (case h0 => row_cond hs); (case h1 => row_cond fz)) | (with_reducible refine auz ?_) | ((with_reducible refine' axn ?h0 ?h1 ?_); (case h0 => exact rfl); (case h1 => row_cond fz); dsimp only [List.set_cons_zero, List.set_cons_succ]) | (with_reducible first | refine a0e ?_ | refine a0f ?_ | refine a18 ?_ | refine a0d ?_ | refine axq ?_ | refine axr ?_ | refine aut ?_ | refine ach (te:=tCB (aii _) _) ?_ | refine ach (te:=tCB (age _) _) ?_ | refine aqm ?_) | ((with_reducible refine' aqo ?h0 ?_); (case h0 => row_cond hs)) | ((with_reducible refine' avb ?h0 ?_); (case h0 => row_cond hs)) | (with_reducible refine ev_listR ?_) | ((with_reducible refine' a2h ?h0 ?_); (case h0 => decide)) | ((with_reducible refine' as4 ?h0 ?h1 ?_); (case h0 => exact rfl); (case h1 => assumption)) | (with_reducible first | refine ava ?_ | refine avq ?_))
local macro_rules | `(tactic| row_cond sEvO) => `(tactic| first | (with_reducible first | refine amp (r:=rCat) ?_ | refine amp (r:=rRep) ?_ | refine abl (te:=tOp _ _ _) ?_ | refine abl (te:=tVar _) ?_ | refine abl (te:=tC _) ?_ | refine ao5 ?_) | ((with_reducible refine' avl ?h0 ?_); (case h0 => exact rfl)) | (with_reducible refine ao4 ?_) | ((with_reducible refine' asj ?h0 ?h1 ?_); (case h0 => exact rfl); (case h1 => assumption)) | (with_reducible first | refine aj7 ?_ | refine ayf ?_) | ((with_reducible refine' asl ?h0 ?_); (case h0 => decide)) | (with_reducible first | refine ayr ?_ | refine ays ?_) | ((with_reducible refine' aio ?h0 ?h1 ?_); (case h0 => exact rfl); (case h1 => assumption)) | (with_reducible first | refine aj9 ?_ | refine asz ?_ | refine asw ?_ | refine asg (r:=amv _) ?_ | refine abl (te:=tIf _ _ _) ?_ | refine abl (te:=ap1 _ _) ?_ | refine abl (te:=ap2 _) ?_ | refine abl (te:=alp _ _ _ _ _) ?_ | refine abl (te:=tCB (rLen _) _) ?_ | refine abl (te:=tCB (rIsi _) _) ?_ | refine abl (te:=tCB alc _) ?_ | refine abl (te:=tCB ald _) ?_ | refine abl (te:=tCB ale _) ?_ | refine abl (te:=tCB rAbs _) ?_ | refine abl (te:=tCB (aie _) _) ?_ | refine abl (te:=tCB (rAll _) _) ?_ | refine abl (te:=tBM _ _ _ _ _) ?_))
local macro_rules | `(tactic| row_cond sEvT) => `(tactic| first | (with_reducible first | refine ahs ?_ | refine a2a ?_ | refine axo ?_ | refine a0g ?_ | refine ao6 ?_ | refine abx ?_) | (with_reducible refine axp ?_))
local macro_rules | `(tactic| row_cond sEvA) => `(tactic| first | (with_reducible first | refine aus ?_ | refine ao3 ?_))
local macro_rules | `(tactic| row_cond sEvI) => `(tactic| first | (with_reducible first | refine auw ?_ | refine aux ?_ | refine auv ?_ | refine avi ?_ | refine ayk ?_) | ((with_reducible refine' a04 ?h0 ?_); (case h0 => exact rfl); dsimp only [List.set_cons_zero, List.set_cons_succ]) | (with_reducible refine evi_tup ?_))
local macro_rules | `(tactic| row_cond sEvOp) => `(tactic| first | (with_reducible first | refine au8 ?_ | refine au9 ?_))
local macro_rules | `(tactic| row_cond sOp2) => `(tactic| first | (with_reducible first | refine axw ?_ | refine axx ?_) | ((with_reducible refine' a0k ?h0 ?_); (case h0 => row_cond ar)) | (with_reducible first | refine axy ?_ | refine axz ?_) | ((with_reducible refine' ax0 ?h0 ?_); (case h0 => row_cond ia)) | ((with_reducible refine' ax1 ?h0 ?_); (case h0 => row_cond ia)) | (with_reducible first | refine ax2 ?_ | refine au2 ?_) | ((with_reducible refine' apc ?h0 ?_); (case h0 => row_cond le)))
local macro_rules | `(tactic| row_cond sOp1) => `(tactic| first | (with_reducible refine op1_Ui ?_))
local macro_rules | `(tactic| row_cond sOpA) => `(tactic| first | (with_reducible first | refine au3 ?_ | refine au4 ?_ | refine au5 ?_ | refine au6 ?_ | refine au7 ?_ | refine ayl ?_ | refine avj ?_))
local macro_rules | `(tactic| row_cond sFQ) => `(tactic| first | (with_reducible first | refine alh ?_ | refine ab7 ?_ | refine alk ?_))
local macro_rules | `(tactic| row_cond sRngA1) => `(tactic| first | ((with_reducible refine' a0i ?h0 ?h1 ?_); (case h0 => lia); (case h1 => lia)))
local macro_rules | `(tactic| row_cond sRngA2) => `(tactic| first | ((with_reducible refine' a0j ?h0 ?_); (case h0 => lia)))
local macro_rules | `(tactic| row_cond sRest) => `(tactic| first | (with_reducible first | refine x_bl ?_ | refine x_st ?_ | refine a0h ?_ | refine a2b ?_) | ((with_reducible refine' a2f ?h0 ?h1 ?_); (case h0 => row_cond hs); (case h1 => row_cond ia)) | ((with_reducible refine' x_sc ?h0 ?_); (case h0 => exact rfl)) | ((with_reducible refine' a2e ?h0 ?_); (case h0 => row_cond le)) | (with_reducible first | refine acy ?_ | refine adl ?_ | refine agy ?_ | refine agz ?_) | ((with_reducible refine' ai5 ?h0 ?_); (case h0 => row_cond dc)) | ((with_reducible refine' agw ?h0 ?_); (case h0 => row_cond dc)) | ((with_reducible refine' aup ?h0 ?_); (case h0 => row_cond dc)) | ((with_reducible refine' auq ?h0 ?_); (case h0 => row_cond dc)) | ((with_reducible refine' a2g ?h0 ?_); (case h0 => first | exact rfl | row_cond hs)) | ((with_reducible refine' a0p ?h0 ?h1 ?_); (case h0 => exact rfl); (case h1 => row_cond le); dsimp only [List.set_cons_zero, List.set_cons_succ]) | ((with_reducible refine' aqp ?h0 ?h1 ?_); (case h0 => exact rfl); (case h1 => first | exact ixN0 | exact ixN1 | exact ixN2 | assumption); dsimp only [List.set_cons_zero, List.set_cons_succ, reS]) | (with_reducible first | refine a0q ?_ | refine avf ?_) | ((with_reducible refine' x_dT ?h0 ?h1 ?_); (case h0 => exact rfl); (case h1 => row_cond le); dsimp only [List.set_cons_zero, List.set_cons_succ]) | (with_reducible first | refine x_en ?_ | refine a2k ?_) | ((with_reducible refine' aym ?h0 ?h1 ?_); (case h0 => lia); (case h1 => lia)) | ((with_reducible refine' x_ow ?h0 ?_); (case h0 => exact rfl); dsimp only [List.set_cons_zero, List.set_cons_succ]))
local macro_rules | `(tactic| row_cond st) => `(tactic| first | ((with_reducible refine a2l ?_); row_cond sEvS) | ((with_reducible refine a2m ?_); row_cond sEvG) | ((with_reducible refine a05 ?_); row_cond sEvGs) | ((with_reducible refine g_Ev ?_); row_cond sEv) | ((with_reducible refine a2n ?_); row_cond sEvO) | ((with_reducible refine a2o ?_); row_cond sEvT) | ((with_reducible refine a2p ?_); row_cond sEvA) | ((with_reducible refine a2q ?_); row_cond sEvI) | ((with_reducible refine a06 ?_); row_cond sEvOp) | ((with_reducible refine a2r ?_); row_cond sOp2) | ((with_reducible refine g_Op1 ?_); row_cond sOp1) | ((with_reducible refine a2s ?_); row_cond sOpA) | ((with_reducible refine g_FQ ?_); row_cond sFQ) | ((with_reducible refine ayp ?_); row_cond sRngA1) | ((with_reducible refine ayq ?_); row_cond sRngA2) | row_cond sRest)
local macro_rules | `(tactic| row_cond go) => `(tactic| repeat row_cond st)
local macro_rules | `(tactic| row_cond hnx) => `(tactic| first | assumption | (apply Ne.symm; assumption) | exact aam (by assumption) (by assumption) | exact (aam (by assumption) (by assumption)).symm)
local macro_rules | `(tactic| row_cond hhp) => `(tactic| first | assumption | exact aaj | (rw [aaf (by row_cond hnx)]; row_cond hhp) | ((refine' Same.at ?ss ?hh); (case ss => assumption); (case hh => row_cond hhp)))
local macro_rules | `(tactic| row_cond hix) => `(tactic| first | assumption | exact at0 | exact at1 | exact at2)
local macro_rules | `(tactic| row_cond hst) => `(tactic| first | (with_reducible first | refine go_seq ?_ | refine go_asg ?_ | refine aot ?_ | refine go_op ?_ | refine go_c ?_ | refine go_I0 ?_ | refine go_U ?_ | refine ar3 ?_ | refine go_test ?_ | refine go_bl ?_ | refine go_ifS ?_ | refine go_and ?_ | refine go_ret ?_ | refine go_drop ?_ | refine go_next ?_ | refine go_cb ?_ | refine go_cons ?_ | refine ar2 ?_ | refine go_call ?_ | refine aow ?_ | refine aox ?_ | refine aoy ?_ | refine go_gsub ?_ | refine go_lstW ?_ | refine go_bmL ?_ | refine go_for ?_ | refine go_lc ?_ | refine go_irng1 ?_ | refine ar4 ?_ | refine acy ?_ | refine adl ?_) | ((with_reducible refine' go_var ?hv ?_); (case hv => exact rfl)) | ((with_reducible refine' afm ?ha ?hv ?_); (case ha => row_cond hhp); (case hv => row_cond hix)) | ((with_reducible refine go_I ?hc ?_); (case hc => row_cond ar)) | ((with_reducible refine' aov ?ha ?_); (case ha => row_cond hhp)) | ((with_reducible refine' aou ?ha ?hj ?_); (case ha => row_cond hhp); (case hj => first | exact ixN0 | exact ixN1 | exact ixN2)) | ((with_reducible refine' go_tyL ?ha ?_); (case ha => row_cond hhp)) | ((with_reducible refine' af9 ?ha ?hl ?_); (case ha => row_cond hhp); (case hl => exact aeu (by simp; lia))) | ((with_reducible refine' ai5 ?hc ?_); (case hc => row_cond dc)) | ((with_reducible refine' agw ?hc ?_); (case hc => row_cond dc)) | dsimp only [List.set_cons_zero, List.set_cons_succ])
local macro_rules | `(tactic| row_cond hgo) => `(tactic| repeat row_cond hst)
def isInt:PyData->Bool
 | .int _=>true
 |_=>false
def btwD(a b:Int):PyData->Bool
 | .int i=>decide (a<=i/\i<=b)
 |_=>false
def ay9:VP:=λss Q=>∃ d,ss=[.st d]/\Q (.st (.bool (isInt d)))
def ati:VP:=λss Q=>∃(a b:Int)(d:PyData),ss=[.st (.int a),.st (.int b),.st d]/\Q (.st (.bool (btwD a b d)))
def aza:VP:=λss Q=>∃(n:Int)(d:PyData),ss=[.st (.int n),.st d]/\Q (.st (.bool (btwD 0 (n-1) d)))
section
variable{P:Program}{w:World}{K:Frag}{mg:Str->Option Value}{base:Heap}
theorem sc_is_whole:FnScope ["thing"] ["thing"] (aak s_is_whole):=by row_cond sc
theorem ang(T:Txt K mg):Can P w K mg base "is_whole" 1 ["thing"] (spP K (ay9)):=by
 obtain⟨f,fd,D⟩:=T.d_is_whole
 refine D.can (D.fn.ok sc_is_whole (λvs H Q E h=>lenP h λss c q=>by obtain⟨d,rfl,k⟩:=q;rfl) (λcdv A outer s H vs Q E j h=>?_))
 have nd:=sc_is_whole.nd
 refine⟨_,(aag (aay (aeh (aav afk (by rfl) T.b_isinstance adh (aaa (pv 0) (aaa (agq (v:=.ty "int") rfl T.b_int al5 rfl) aab))) (af5 (azq (aav afk (by rfl) T.b_isinstance adh (aaa (pv 0) (aaa (agq (v:=.ty "bool") rfl T.b_bool axb rfl) aab)))))))),?_⟩
 refine aa8 h λss c q B g=>?_
 refine exS1 ss q λd a=>?_
 have k:=a
 clear a q
 show EvS B _ _ [some (.st d)]
 row_cond go
 cases d with
 |int i=>refine acy ?_; row_cond go; exact k
 |bool b=>refine acy ?_; row_cond go; exact k
 |_=>refine adl ?_;exact k
theorem sc_is_between:FnScope ["least","most","thing"] ["least","most","thing"] (aak s_is_between):=by row_cond sc
theorem afg(T:Txt K mg):Can P w K mg base "is_between" 2 ["least","most","thing"] (spP K (ati)):=by
 obtain⟨f,fd,D⟩:=T.d_is_between
 refine D.can (D.fn.ok sc_is_between (λvs H Q E h=>lenP h λss j q=>by obtain⟨a,b,d,rfl,k⟩:=q;rfl) (λcdv A outer s H vs Q E l h=>?_))
 have nd:=sc_is_between.nd
 refine⟨_,(aag (aay (aeh (aal (ang T) l (aaa (pv 2) aab)) (af5 (at6 agt agt (pv 0) (pv 2) (pv 1)))))),?_⟩
 refine aa8 h λss j q B m=>?_
 refine exS3 ss q λa b d c=>?_
 have k:=c
 clear c q
 show EvS B _ _ [some (.st (.int a)),some (.st (.int b)),some (.st d)]
 row_cond go
 refine⟨d,rfl,?_⟩
 row_cond go
 cases d with
 | int i =>
  refine acy ?_
  row_cond go
  refine acp (λg=>?_) (λg=>?_)
  ·row_cond go
   have e:decide (i<=b)=btwD a b (.int i):=by
    show _=decide (a<=i/\i<=b)
    rw[aH9];simp[g]
   rw[e];exact k
  ·have e:false=btwD a b (.int i):=by
    show _=decide (a<=i/\i<=b)
    exact(aD7 (λz=>g z.1)).symm
   rw[e];exact k
 |_=>exact adl k
theorem sc_is_place:FnScope ["n","thing"] ["n","thing"] (aak s_is_place):=by row_cond sc
theorem aeo(T:Txt K mg):Can P w K mg base "is_place" 3 ["n","thing"] (spP K (aza)):=by
 obtain⟨f,fd,D⟩:=T.d_is_place
 refine D.can (D.fn.ok sc_is_place (λvs H Q E h=>lenP h λss b q=>by obtain⟨n,d,rfl,k⟩:=q;rfl) (λcdv A outer s H vs Q E c h=>?_))
 have nd:=sc_is_place.nd
 refine⟨_,(aag (aay (aal (afg T) c (aaa aac (aaa (aae adk (pv 0) aac) (aaa (pv 1) aab)))))),?_⟩
 refine aa8 h λss b q B g=>?_
 refine exS2 ss q λn d a=>?_
 have k:=a
 clear a q
 show EvS B _ _ [some (.st (.int n)),some (.st d)]
 row_cond go
 exact⟨_,_,_,rfl,k⟩
def a1l:VP:=λss Q=>∃(n:Int)(es:List (Int × Int)),ss=[.st (webD n es)]/\0<=n/\n<=100/\InN n es/\es.length<=10000/\∀ tl,TiedL n (Tied es) tl->Q (.own (OLL (tlD tl)))
theorem sc_tied_places:FnScope ["web","n","ties","tied","a","b"] ["web"] (aak s_tied_places):=by row_cond sc
theorem ae2(T:Txt K mg):Can P w K mg base "tied_places" 1 ["web"] (spP K (a1l)):=by
 obtain⟨f,fd,D⟩:=T.d_tied_places
 refine D.can (D.fn.ok sc_tied_places (λvs H Q E h=>lenP h λss I q=>by obtain⟨n,es,rfl,L,O,p,x,k⟩:=q;rfl) (λcdv A outer s H vs Q E S h=>?_))
 have nd:=sc_tied_places.nd
 refine⟨_,(aad (adj (pv 0) (ab2 rfl (aas (aah (i:=1) nd rfl (Or.inl rfl)) (aas (aah (i:=2) nd rfl (Or.inl rfl)) abf))))
  (aad (afh (i:=3) nd rfl (Or.inl rfl) rfl (N:=["place"]) (src:=[none]) (by exact abd rfl rfl rfl rfl rfl rfl) (aba rfl T.b_range (aaa (pv 1) aab)) (λ_ _ _ _=>(aah (i:=0) (show List.Nodup (["place"]:List Str) by decide +kernel) rfl (Or.inl rfl) (hf:=Or.inr rfl))) (λ_ _ _ _=>abc) (λ_ _ _ _=>(abi aab)))
  (aad (abr aJ8 rfl (abm (pv 2)) (ab2 rfl (aas (aah (i:=4) nd rfl (Or.inl rfl)) (aas (aah (i:=5) nd rfl (Or.inl rfl)) abf)))
   (aad (abv (ada PySem.F.plainAttrs_list PySem.F.slot_list_append PySem.F.type_list_append abk (aat aau (pv 3) (pv 4) (λ_ _=>rfl)) (aaa (pv 5) aab)))
    (aag (abv (ada PySem.F.plainAttrs_list PySem.F.slot_list_append PySem.F.type_list_append abk (aat aau (pv 3) (pv 5) (λ_ _=>rfl)) (aaa (pv 4) aab))))))
  (aag (aay (pv 3)))))),?_⟩
 refine aa8 h λss I q B R=>?_
 refine exS2 ss q λn es c=>?_
 have L:=c.1
 have O:=c.2.1
 have p:=c.2.2.1
 have x:=c.2.2.2.1
 have k:=c.2.2.2.2
 clear c q
 show EvS B _ _ [some (.st (webD n es)),none,none,none,none,none]
 row_cond go
 rw[acq]
 refine⟨by lia,?_⟩
 row_cond go
 refine afr (λi e=>∃ C y tl,e=[some (.st (webD n es)),some (.st (.int n)),some (.st (.list (es.map prD))),some (.own (OLL (tlD tl))),C,y]/\TiedL n (Tied (es.take i)) tl/\∀ d∈tl,d.length<=2 * i)
  ⟨none,none,List.replicate n.toNat [],by simp[tlD],⟨by simp;lia,λi d hi w=>?_⟩,λd M=>?_⟩ ?_ ?_
 ·rw[aH8] at hi
  split at hi
  ·cases hi;simp[Tied]
  ·cases hi
 ·have:=List.eq_of_mem_replicate M
  subst this;simp
 ·rintro i ⟨a,b⟩ e z l
  refine exS3 e l λC y tl c=>?_
  have o:=c.1
  have m:=c.2
  clear c l
  have hi:i<es.length:=(aA1.mp z).1
  obtain⟨a0,a1,b0,b1⟩:=p _ (aA2 z)
  dsimp only at a0 a1 b0 b1
  row_cond go
  obtain⟨d,g,_⟩:=o.get a0 a1
  have J:=m d (aA2 g)
  refine aim (n:=a.toNat) (ds:=d.map .int) rfl rfl rfl (by rw[aA3];exact ain a0 (by rw[o.1];exact a1)) (ajj g) (by rw[aA3];lia) ?_
  dsimp only[List.set_cons_zero,List.set_cons_succ]
  have r:=o.put (q:=b) a0 a1 g
  rw[show d.map PyData.int++[.int b]=(d++[b]).map .int by simp,apf]
  have j:∀ us∈tl.set a.toNat (d++[b]),us.length<=2 * i+1:=λus G=>by
   rcases List.mem_or_eq_of_mem_set G with h|h
   ·have:=m us h;lia
   ·subst h;simp;lia
  generalize tl.set a.toNat (d++[b])=tl2 at r j
  row_cond go
  obtain⟨d,g,_⟩:=r.get b0 b1
  have J:=j d (aA2 g)
  refine aim (n:=b.toNat) (ds:=d.map .int) rfl rfl rfl (by rw[aA3];exact ain b0 (by rw[r.1];exact b1)) (ajj g) (by rw[aA3];lia) ?_
  dsimp only[List.set_cons_zero,List.set_cons_succ]
  rw[show d.map PyData.int++[.int a]=(d++[a]).map .int by simp,apf]
  refine⟨_,_,_,rfl,(r.put (q:=a) b0 b1 g).iff λu v=>(Tied.snoc z u v).symm,λus G=>?_⟩
  rcases List.mem_or_eq_of_mem_set G with h|h
  ·have:=j us h;lia
  ·subst h;simp;lia
 ·rintro e l
  refine exS3 e l λC y tl c=>?_
  have o:=c.1
  have m:=c.2
  clear c l
  rw[aG9] at o
  row_cond go
  exact k tl o
end
@[reducible] def tlV (tl:List (List Int)):PyData:=.list ((tlD tl).map .list)
def a2w:VP:=λss Q=>∃(n a:Int)(T:Int->Int->Prop)(tl:List (List Int)),ss=[.st (tlV tl),.st (.int a)]/\n<=100/\TiedL n T tl/\(∀ u v,T u v->0<=v/\v<n)/\0<=a/\a<n/\Q (.own (OL (lab n.toNat (Gr.farO T a))))
section
variable{P:Program}{w:World}{K:Frag}{mg:Str->Option Value}{base:Heap}
theorem sc_far_from:FnScope ["tied","start","far","edge","beyond","place","other"] ["tied","start"] (aak s_far_from):=by row_cond sc
theorem agn(T:Txt K mg):Can P w K mg base "far_from" 1 ["tied","start"] (spP K (a2w)):=by
 obtain⟨f,fd,D⟩:=T.d_far_from
 refine D.can (D.fn.ok sc_far_from (λvs H Q E h=>lenP h λss Q' q=>by obtain⟨n,a,T,tl,rfl,n1,W,hT,a0,a1,k⟩:=q;rfl) (λcdv A outer s H vs Q E hr h=>?_))
 have nd:=sc_far_from.nd
 refine ⟨_,(aad (aan (i:=2) nd rfl (Or.inl rfl) (aae az1 (abi (aaa af4 aab)) (aav abz (by rfl) T.b_len adg (aaa (pv 0) aab))))
  (aad (adj aac (ari (pv 2) (pv 1) alt))
  (aad (aan (i:=3) nd rfl (Or.inl rfl) (abi (aaa (pv 1) aab)))
  (aad (aln aJ8 (asb (pv 3))
   (aad (aan (i:=4) nd rfl (Or.inl rfl) (abi aab))
    (aad (abr aJ8 rfl (abm (pv 3)) (aah (i:=5) nd rfl (Or.inl rfl))
     (aag (abr aJ8 rfl (abm (aat aau (pv 0) (pv 5) (λ_ _=>rfl))) (aah (i:=6) nd rfl (Or.inl rfl))
       (aag (abw (aa4 axi (aat aau (pv 2) (pv 6) (λ_ _=>rfl)) af4 (aa2 _))
         (aad (adj (aae aax (aat aau (pv 2) (pv 5) (λ_ _=>rfl)) aac) (ari (pv 2) (pv 6) alt))
          (aag (abv (ada PySem.F.plainAttrs_list PySem.F.slot_list_append PySem.F.type_list_append abk (pv 4) (aaa (pv 6) aab)))))
         abb)))))
    (aag (aan (i:=3) nd rfl (Or.inl rfl) (pv 4))))))
  (aag (aay (pv 2))))))),?_⟩
 refine aa8 h λss Q' q B hK=>?_
 refine exS4 ss q λn a T tl b=>?_
 have n1:=b.1
 have W:=b.2.1
 have hT:=b.2.2.1
 have a0:=b.2.2.2.1
 have a1:=b.2.2.2.2.1
 have k:=b.2.2.2.2.2
 clear b q
 show EvS B _ _ [some (.st (tlV tl)),some (.st (.int a)),none,none,none,none,none]
 have hl:tl.length=n.toNat:=by have:=W.1;lia
 row_cond go
 refine ax3 (by first|lia|(simp;done)|(simp;lia)) (by first|lia|(simp;done)|(simp;lia)) (by first|lia|(simp;done)|(simp;lia)) ?_
 simp only[aA3,hl]
 rw[show((n.toNat:Nat):Int).toNat=n.toNat by lia,ayh]
 row_cond go
 refine aqp (j:=a.toNat) rfl (by rw[ade];exact ain a0 (by lia)) ?_
 dsimp only[List.set_cons_zero,List.set_cons_succ,reS]
 rw[show(PyData.int 0)=.int ((0:Nat):Int) from rfl,ape a0 (by lia)]
 row_cond go
 refine ajh 3 rfl ab3 ?_
 dsimp only[List.set_cons_zero,List.set_cons_succ]
 refine aj6 (λm e=>∃ v4 M y far edge r,e=[some (.st (tlV tl)),some (.st (.int a)),some (.own (OL (lab n.toNat far))),some (.st (.list (edge.map .int))),v4,M,y]/\Gr.Ring T a r far edge/\(∀ v∈edge,0<=v/\v<n)/\m=2 * cnt far n.toNat+(if edge=[] then 0 else 1))
  ⟨_,none,none,none,_,[a],0,rfl,Gr.Ring.start,λv N=>by simp at N;subst N;exact⟨a0,a1⟩,rfl⟩ ?_
 rintro m e l
 refine exS6 e l λv4 M y far edge r b=>?_
 have R:=b.1
 have hb:=b.2.1
 have a2:=b.2.2
 clear b l
 subst a2
 row_cond go
 rw[an9]
 cases hedge:edge with
 | nil =>
  subst hedge
  refine adl ?_
  row_cond go
  rw[aso (g:=Gr.farO T a) λv _ _=>R.fin v]
  exact k
 | cons e0 er =>
  refine acy ?_
  rw[← hedge]
  have Y:edge ≠ []:=by rw[hedge];simp
  row_cond go
  refine afr (λi e=>∃ M y c beyond,e=[some (.st (tlV tl)),some (.st (.int a)),some (.own (OL (lab n.toNat c))),some (.st (.list (edge.map .int))),some (.own (OL (beyond.map .int))),M,y]/\Gr.Mid T r far edge (λu=>u∈edge.take i) c beyond/\cnt c n.toNat+beyond.length=cnt far n.toNat/\∀ v∈beyond,0<=v/\v<n)
   ⟨M,y,far,[],rfl,Gr.Mid.start.imp λu J=>by simp at J,rfl,λv N=>by simp at N⟩ ?_ ?_
  ·rintro i p e hp l
   refine exS4 e l λM y c beyond b=>?_
   have C:=b.1
   have G:=b.2.1
   have o:=b.2.2
   clear b l
   have L:=aA2 hp
   obtain⟨p0,p1⟩:=hb p L
   obtain⟨ws,Z,hw⟩:=W.get p0 p1
   have a5:atI ((tlD tl).map PyData.list) p=some (.list (ws.map .int)):=adm (f:=PyData.list) (afu p0 (ajj Z))
   row_cond go
   have S:far p=some r:=(R.lab p r).mpr ⟨(R.edg p).mp L,aA6 _⟩
   refine afr (λj e=>∃ y c beyond,e=[some (.st (tlV tl)),some (.st (.int a)),some (.own (OL (lab n.toNat c))),some (.st (.list (edge.map .int))),some (.own (OL (beyond.map .int))),some (.st (.int p)),y]/\Gr.Mid T r far edge (λu=>u∈edge.take i) c beyond/\cnt c n.toNat+beyond.length=cnt far n.toNat/\(∀ v∈beyond,0<=v/\v<n)/\∀ x∈ws.take j,c x ≠ none)
    ⟨y,c,beyond,rfl,C,G,o,λx I=>by simp at I⟩ ?_ ?_
   ·rintro j u e J l
    refine exS3 e l λy c beyond b=>?_
    have C:=b.1
    have G:=b.2.1
    have o:=b.2.2.1
    have z:=b.2.2.2
    clear b l
    have tu:T p u:=(hw u).mp (aA2 J)
    obtain⟨O,u1⟩:=hT _ _ tu
    have a4:atI (lab n.toNat c) u=some (oD (c u)):=asn O (by lia)
    have a3:atI (lab n.toNat c) p=some (.int (r:Int)):=by
     rw[asn p0 (by lia),C.old p r S];rfl
    row_cond go
    rw[ayg]
    cases hf:c u with
    | none =>
     refine acy ?_
     row_cond go
     refine aqp (j:=u.toNat) rfl (by rw[ade];exact ain O (by lia)) ?_
     dsimp only[List.set_cons_zero,List.set_cons_succ,reS]
     rw[show(PyData.int ((r:Int)+1))=.int ((r+1:Nat):Int) by simp,ape O (by lia)]
     have a6:=aka (d:=r+1) O hf (n:=n.toNat) (by lia)
     have X:beyond.length<=cnt far n.toNat:=by lia
     have U:∀ m,cnt far m<=m:=λm=>by
      induction m with
      |zero=>exact aA6 _
      |succ m ih=>unfold cnt;split <;> lia
     have:=U n.toNat
     row_cond go
     refine⟨some (.st (.int u)),Gr.label c u (r+1),beyond++[u],by simp,C.add L tu hf,by simp;lia,λv N=>?_,λx I=>?_⟩
     ·rcases aA7.mp N with h|h
      ·exact o v h
      ·have:v=u:=by simpa using h
       subst this;exact⟨O,u1⟩
     ·by_cases hx2:x=u
      ·subst hx2;rw[Gr.label_same];simp
      ·rw[Gr.label_ne hx2]
       rcases ad6 J I with h|h
       ·exact z x h
       ·exact absurd h hx2
    | some d =>
     refine adl ?_
     row_cond go
     refine⟨_,c,beyond,rfl,C,G,o,λx I=>?_⟩
     rcases ad6 J I with h|h
     ·exact z x h
     ·subst h;rw[hf];simp
   ·rintro e l
    refine exS3 e l λy c beyond b=>?_
    have C:=b.1
    have G:=b.2.1
    have o:=b.2.2.1
    have z:=b.2.2.2
    clear b l
    rw[aG9] at z
    refine⟨_,_,c,beyond,rfl,?_,G,o⟩
    refine(C.did (u:=p) λx tx=>z x ((hw x).mpr tx)).imp λx I=>?_
    exact ad6 hp I
  ·rintro e l
   refine exS4 e l λM y c beyond b=>?_
   have C:=b.1
   have G:=b.2.1
   have o:=b.2.2
   clear b l
   row_cond go
   refine⟨_,?_,_,_,_,c,beyond,r+1,rfl,R.next C λu J=>by rw[aG9];exact J,o,rfl⟩
   rw[aF7 Y]
   cases beyond with
   |nil=>rw[aF6 rfl];simp at G;lia
   |cons b0 br=>rw[aF7 (by simp)];simp at G;lia
end
def aof:VP:=λss Q=>∃(n a:Int)(es:List (Int × Int)),ss=[.st (webD n es),.st (.int a)]/\0<=a/\a<n/\Q (.st .none)
def av3:VP:=λss Q=>∃(n a:Int)(es:List (Int × Int)),ss=[.st (webD n es),.st (.int a)]/\n<=100/\InN n es/\es.length<=10000/\0<=a/\a<n/\Q (.own (OL (lab n.toNat (Gr.farO (Tied es) a))))
def av4:VP:=λss Q=>∃(n:Int)(es:List (Int × Int)),ss=[.st (webD n es)]/\1<=n/\n<=100/\InN n es/\es.length<=10000/\∀ b:Bool,(b=true ↔ Joined n es)->Q (.st (.bool b))
section
variable{P:Program}{w:World}{K:Frag}{mg:Str->Option Value}{base:Heap}
theorem sc_need_place:FnScope ["web","thing"] ["web","thing"] (aak s_need_place):=by row_cond sc
theorem ajq(T:Txt K mg):Can P w K mg base "need_place" 4 ["web","thing"] (spP K (aof)):=by
 obtain⟨f,fd,D⟩:=T.d_need_place
 refine D.can (D.fn.ok sc_need_place (λvs H Q E h=>lenP h λss c q=>by obtain⟨n,a,es,rfl,a0,a1,k⟩:=q;rfl) (λcdv A outer s H vs Q E d h=>?_))
 have nd:=sc_need_place.nd
 refine⟨_,(aag (abw (adz (aeg (aal (aeo T) d (aaa (aat aau (pv 0) aac (λ_ _=>rfl)) (aaa (pv 1) aab)))))
   (aag aei)
   abb)),?_⟩
 refine aa8 h λss c q B g=>?_
 refine exS3 ss q λn a es b=>?_
 have a0:=b.1
 have a1:=b.2.1
 have k:=b.2.2
 clear b q
 show EvS B _ _ [some (.st (webD n es)),some (.st (.int a))]
 row_cond go
 refine⟨_,_,rfl,?_⟩
 row_cond go
 have e:btwD 0 (n-1) (.int a)=true:=aD8 ⟨a0,by lia⟩
 rw[e]
 row_cond go
 exact k
theorem sc_all_far:FnScope ["web","a"] ["web","a"] (aak s_all_far):=by row_cond sc
theorem aog(T:Txt K mg):Can P w K mg base "all_far" 5 ["web","a"] (spP K (av3)):=by
 obtain⟨f,fd,D⟩:=T.d_all_far
 refine D.can (D.fn.ok sc_all_far (λvs H Q E h=>lenP h λss j q=>by obtain⟨n,a,es,rfl,g,c,d,a0,a1,k⟩:=q;rfl) (λcdv A outer s H vs Q E i h=>?_))
 have nd:=sc_all_far.nd
 refine⟨_,(aad (abv (aal (ajq T) i (aaa (pv 0) (aaa (pv 1) aab))))
  (aag (aay (aal (agn T) i (aaa (aal (ae2 T) i (aaa (pv 0) aab)) (aaa (pv 1) aab)))))),?_⟩
 refine aa8 h λss j q B m=>?_
 refine exS3 ss q λn a es b=>?_
 have g:=b.1
 have c:=b.2.1
 have d:=b.2.2.1
 have a0:=b.2.2.2.1
 have a1:=b.2.2.2.2.1
 have k:=b.2.2.2.2.2
 clear b q
 show EvS B _ _ [some (.st (webD n es)),some (.st (.int a))]
 row_cond go
 refine⟨n,a,es,rfl,a0,a1,?_⟩
 row_cond go
 refine⟨n,es,rfl,by lia,g,c,d,λtl l=>?_⟩
 refine a00 ?_
 row_cond go
 exact⟨n,a,Tied es,tl,rfl,g,l,λu v h=>(h.in c).2,a0,a1,k⟩
theorem sc_is_joined:FnScope ["web"] ["web"] (aak s_is_joined):=by row_cond sc
theorem ak6(T:Txt K mg):Can P w K mg base "is_joined" 6 ["web"] (spP K (av4)):=by
 obtain⟨f,fd,D⟩:=T.d_is_joined
 refine D.can (D.fn.ok sc_is_joined (λvs H Q E h=>lenP h λss l q=>by obtain⟨n,es,rfl,o,i,b,c,k⟩:=q;rfl) (λcdv A outer s H vs Q E j h=>?_))
 have nd:=sc_is_joined.nd
 refine⟨_,(aag (aay (ac9 (aey j.units) af4 (aal (aog T) j (aaa (pv 0) (aaa aac aab))) rfl))),?_⟩
 refine aa8 h λss l q B p=>?_
 refine exS2 ss q λn es a=>?_
 have o:=a.1
 have i:=a.2.1
 have b:=a.2.2.1
 have c:=a.2.2.2.1
 have k:=a.2.2.2.2
 clear a q
 show EvS B _ _ [some (.st (webD n es))]
 row_cond go
 refine⟨n,0,es,rfl,i,b,c,by lia,by lia,?_⟩
 row_cond go
 refine ag3 rfl asp (by simp[PyData.depth]) ?_
 row_cond go
 refine k _ ?_
 rw[aF6 rfl,Bool.not_eq_true',← Bool.not_eq_true,ayi]
 constructor
 ·intro h v g m
  cases e:Gr.farO (Tied es) 0 v with
  |some d=>exact⟨d,Gr.farO_some.mp e⟩
  |none=>exact absurd ⟨v,g,by lia,e⟩ h
 ·rintro h ⟨v,g,m,e⟩
  obtain⟨d,hd⟩:=h v g (by lia)
  exact Gr.farO_none.mp e d hd
end
def dsF(es:List (Int × Int))(u v:Int):Int:=(((Gr.farO (Tied es) u v).getD 0:Nat):Int)
def rowD(n:Nat)(r:Int->Int):List PyData:=(List.range n).map λ(i:Nat)=>.int (r (i:Int))
def matD(n:Nat)(m:Int->Int->Int):List PyData:=(List.range n).map λ(u:Nat)=>.list (rowD n (m (u:Int)))
theorem atj{n:Nat}{r:Int->Int}{x:Int}(a:0<=x)(b:x<n):atI (rowD n r) x=some (.int (r x)):=by
 have:=ae8 (xs:=rowD n r) (j:=x.toNat) (v:=.int (r x)) (by
  unfold rowD
  rw[aA5,aA0 (by simp;lia)]
  simp[Int.max_eq_left a])
 rwa [show((x.toNat:Nat):Int)=x by lia] at this
theorem anh{n:Nat}{m:Int->Int->Int}{x:Int}(a:0<=x)(b:x<n):atI (matD n m) x=some (.list (rowD n (m x))):=by
 have:=ae8 (xs:=matD n m) (j:=x.toNat) (v:=.list (rowD n (m x))) (by
  unfold matD
  rw[aA5,aA0 (by simp;lia)]
  simp[Int.max_eq_left a])
 rwa [show((x.toNat:Nat):Int)=x by lia] at this
theorem ahx{n:Nat}{r:Int->Int}:rowD n r=((List.range n).map λ(i:Nat)=>r (i:Int)).map .int:=by simp[rowD]
theorem aiy{n:Int}{es:List (Int × Int)}(b:Joined n es){u v:Int}(h:0<=u)(f:u<n)(g:0<=v)(a:v<n):∃ d,Gr.farO (Tied es) u v=some d:=by
 cases e:Gr.farO (Tied es) u v with
 |some d=>exact⟨d,rfl⟩
 | none =>
  obtain⟨k,c⟩:=b.conn u v h f g a
  obtain⟨d,_,hd⟩:=Gr.Dist.of_walk c
  exact absurd hd (Gr.farO_none.mp e d)
theorem azb{n:Int}{es:List (Int × Int)}(b:Joined n es){u:Int}(c:0<=u)(a:u<n):lab n.toNat (Gr.farO (Tied es) u)=rowD n.toNat (dsF es u):=by
 unfold lab rowD
 refine aF0 λi hi=>?_
 obtain⟨d,e⟩:=aiy b c a (show 0<=(i:Int) by lia) (by have:=aB9.mp hi;lia)
 simp only[dsF,e,oD,Option.getD_some]
theorem adu{α:Type}{K:Frag}{src:List (Option Nat)}{a:En}{te:TE}{R:List PyData->En->Prop}{xs:List α}{f : α->PyData}(g : α->PyData)(l:noIo (aai src a)=true)(A:xs.length<=999999)
  (h:∀ x∈xs,∀ c:Bs,c.K=K->Ev c te (some (.st (f x))::aai src a) λy j=>y=g x/\j=some (.st (f x))::aai src a)
  (p:R (xs.map g) a):LcV K (none::src) (aar 0) tYes te (xs.map f) a R:=by
 have b:noIo (aai (none::src) a)=true:=by
  show((none::aai src a).all λs=>!isIo s)=true
  rw[List.all_cons]
  exact(aH2 _ _).mpr ⟨rfl,l⟩
 refine⟨λi ys e=>ys=(xs.take i).map g/\∃ o,e=stO o::aai src a,⟨by simp,none,rfl⟩,?_,?_,?_⟩
 ·rintro i ys e ⟨_,o,rfl⟩
  exact⟨⟨isIo_stO.symm,abt⟩,acz acr⟩
 ·rintro i d ys e hd ⟨rfl,o,rfl⟩ c r
  rw[aA5] at hd
  cases hx:xs[i]? with
  |none=>rw[hx] at hd;cases hd
  | some x =>
   rw[hx] at hd
   cases hd
   have hi:i<xs.length:=(aA1.mp hx).1
   have q:xs.take (i+1)=xs.take i++[x]:=by rw[aH5,hx];rfl
   refine aap (abx ?_)
   rw[aF6 rfl]
   intro σ G H F Q I k
   refine h x (aA2 hx) c r σ G H F Q I λv G' H' u d' j w g' z ⟨n,m⟩=>k v G' H' u d' j w g' z ?_
   subst n m
   refine⟨by simp;lia,by rw[q];simp,some _,rfl⟩
 ·rintro ys e ⟨rfl,o,rfl⟩
  rw[aed b]
  simpa using p
theorem ani{ns:List Int}{x y:Int}(h:afl ns x)(g:afl ns y):x=y:=Int.le_antisymm (g.2 x h.1) (h.2 y g.1)
theorem ag7:∀{ns:List Int},ns ≠ []->∃ x,afl ns x
 |[a],_=>⟨a,by simp[afl]⟩
 | a::b::r,_=>by
  obtain⟨x,d,hm⟩:=ag7 (ns:=b::r) (by simp)
  by_cases h:a<=x
  ·exact⟨x,aB5 _ d,λy c=>by
    rcases aA9.mp c with rfl|c
    ·exact h
    ·exact hm y c⟩
  ·exact⟨a,aB8,λy c=>by
    rcases aA9.mp c with rfl|c
    ·exact Int.le_refl _
    ·have:=hm y c;lia⟩
theorem ajr{n:Nat}(b:1<=n)(m:Int->Int->Int):∃ a:Nat->Int,∀ u:Nat,afl ((List.range n).map λ(i:Nat)=>m (u:Int) (i:Int)) (a u) :=
 ⟨λu=>Classical.choose (ag7 (ns:=(List.range n).map λ(i:Nat)=>m (u:Int) (i:Int)) (by simp;lia)),λu=>Classical.choose_spec (ag7 (ns:=(List.range n).map λ(i:Nat)=>m (u:Int) (i:Int)) (by simp;lia))⟩
theorem anj{n:Nat}{r q:Int->Int}:zipD (rowD n r) (rowD n q)=(List.range n).map λ(i:Nat)=>.tuple [.int (r (i:Int)),.int (q (i:Int))]:=by
 unfold zipD rowD
 rw[List.zip_map',aE0]
 rfl
def ank:VP:=λss Q=>∃(n:Int)(es:List (Int × Int)),ss=[.st (webD n es)]/\1<=n/\n<=100/\InN n es/\es.length<=10000/\Joined n es/\Q (.st .none)
def atk:VP:=λss Q=>∃(n:Int)(es:List (Int × Int)),ss=[.st (webD n es)]/\1<=n/\n<=100/\InN n es/\es.length<=10000/\Joined n es/\Q (.own (OL (matD n.toNat (dsF es))))
def aa9(n:Nat)(m:Int->Int->Int)(x:Int):Prop:=(∃ u v:Int,0<=u/\u<n/\0<=v/\v<n/\m u v=x)/\∀ u v:Int,0<=u->u<n->0<=v->v<n->m u v<=x
def atl:VP:=λss Q=>∃(n:Nat)(m:Int->Int->Int),ss=[.st (.list (matD n m))]/\1<=n/\n<=1000/\∀ x,aa9 n m x->Q (.st (.int x))
def rwF(m:Int->Int->Int)(r:Int->Int)(a b x:Int):Int:=if r a<r b then (if r a+1+m b x<r x then r a+1+m b x else r x) else (if r b+1+m a x<r x then r b+1+m a x else r x)
def atm:VP:=λss Q=>∃(n:Nat)(m:Int->Int->Int)(r:Int->Int)(a b:Int),ss=[.st (.list (matD n m)),.st (.list (rowD n r)),.st (prD (a,b))]/\n<=1000/\0<=a/\a<n/\0<=b/\b<n/\Q (.own (OL (rowD n (rwF m r a b))))
def aq5:VP:=λss Q=>∃(n:Nat)(m:Int->Int->Int)(a b:Int),ss=[.st (.list (matD n m)),.st (prD (a,b))]/\n<=1000/\0<=a/\a<n/\0<=b/\b<n/\Q (.own (OL (matD n λu=>rwF m (m u) a b)))
structure FreeAll(n:Int)(es fs:List (Int × Int)):Prop where
 mem:∀ p:Int × Int,p∈fs ↔ (0<=p.1/\p.1<p.2/\p.2<n/\p ∉ es)
 rise:Rise fs
theorem FreeAll.eq{n:Int}{es fs a:List (Int × Int)}(h:FreeAll n es fs)(g:FreeAll n es a):fs=a:=h.rise.eq g.rise λp=>by rw[h.mem,g.mem]
def yfF(n:Int)(x:Nat):List Int:=(List.range (n-(0+(x:Int)+1)).toNat).map λ(j:Nat)=>0+(x:Int)+1+(j:Int)
theorem azc{n:Int}{x:Nat}{y:Int}:y∈yfF n x ↔ (x:Int)<y/\y<n:=by
 unfold yfF
 simp only[aB7,aB9]
 constructor
 ·rintro⟨j,a,rfl⟩;lia
 ·intro h;exact⟨(y-x-1).toNat,by lia,by lia⟩
theorem yfF_lt{n:Int}{x:Nat}:(yfF n x).Pairwise (· < ·):=by
 unfold yfF
 rw[aG2]
 exact List.pairwise_lt_range.imp λ{a b} h=>by lia
def act(n:Int)(es:List (Int × Int)):List (Int × Int):=(List.range n.toNat).flatMap λx=>((yfF n x).filter λy=>!decide (((x:Int),y)∈es)).map λy=>((x:Int),y)
theorem ae3(n:Int)(es:List (Int × Int)):FreeAll n es (act n es):=by
 refine⟨λp=>?_,?_⟩
 ·unfold act
  simp only[List.mem_flatMap,aB9,aB7,aE2,azc]
  constructor
  ·rintro⟨x,j,y,⟨⟨f,d⟩,c⟩,rfl⟩
   refine⟨by simp only;lia,f,d,by simpa using c⟩
  ·rintro⟨l,f,d,c⟩
   refine⟨p.1.toNat,by lia,p.2,⟨⟨by lia,d⟩,?_⟩,?_⟩
   ·rw[show((p.1.toNat:Nat):Int)=p.1 by lia];simpa using c
   ·rw[show((p.1.toNat:Nat):Int)=p.1 by lia]
 ·unfold act Rise
  rw[List.pairwise_flatMap]
  refine⟨λx j=>?_,?_⟩
  ·rw[aG2]
   exact(yfF_lt.filter _).imp λ{a b} h=>.inr ⟨rfl,h⟩
  ·refine List.pairwise_lt_range.imp λ{a b} h p g q i=>?_
   obtain⟨_,_,rfl⟩:=aB7.mp g
   obtain⟨_,_,rfl⟩:=aB7.mp i
   exact .inl (by simp only;lia)
theorem FreeAll.len{n:Int}{es fs:List (Int × Int)}(h:FreeAll n es fs)(b:n<=100):fs.length<=10000:=PsOk.len ⟨h.rise.nodup,λp a=>by have:=(h.mem p).mp a;lia⟩ b
def aq6:VP:=λss Q=>∃(n:Int)(es:List (Int × Int)),ss=[.st (webD n es)]/\0<=n/\n<=100/\∀ fs,FreeAll n es fs->Q (.own (OL (fs.map prD)))
section
variable{P:Program}{w:World}{K:Frag}{mg:Str->Option Value}{base:Heap}
theorem sc_need_joined:FnScope ["web"] ["web"] (aak s_need_joined):=by row_cond sc
theorem aiz(T:Txt K mg):Can P w K mg base "need_joined" 7 ["web"] (spP K (ank)):=by
 obtain⟨f,fd,D⟩:=T.d_need_joined
 refine D.can (D.fn.ok sc_need_joined (λvs H Q E h=>lenP h λss l q=>by obtain⟨n,es,rfl,g,j,c,d,i,k⟩:=q;rfl) (λcdv A outer s H vs Q E m h=>?_))
 have nd:=sc_need_joined.nd
 refine⟨_,(aag (abw (adz (aeg (aal (ak6 T) m (aaa (pv 0) aab))))
   (aag aei)
   abb)),?_⟩
 refine aa8 h λss l q B o=>?_
 refine exS2 ss q λn es a=>?_
 have g:=a.1
 have j:=a.2.1
 have c:=a.2.2.1
 have d:=a.2.2.2.1
 have i:=a.2.2.2.2.1
 have k:=a.2.2.2.2.2
 clear a q
 show EvS B _ _ [some (.st (webD n es))]
 row_cond go
 refine⟨n,es,rfl,g,j,c,d,λb hb=>?_⟩
 have:b=true:=hb.mpr i
 subst this
 row_cond go
 exact k
theorem sc_far_rows:FnScope ["web","tied"] ["web"] (aak s_far_rows):=by row_cond sc
theorem aep(T:Txt K mg):Can P w K mg base "far_rows" 8 ["web"] (spP K (atk)):=by
 obtain⟨f,fd,D⟩:=T.d_far_rows
 refine D.can (D.fn.ok sc_far_rows (λvs H Q E h=>lenP h λss r q=>by obtain⟨n,es,rfl,o,d,b,c,j,k⟩:=q;rfl) (λcdv A outer s H vs Q E m h=>?_))
 have nd:=sc_far_rows.nd
 refine⟨_,(aad (abv (aal (aiz T) m (aaa (pv 0) aab)))
  (aad (aan (i:=1) nd rfl (Or.inr rfl) (aal (ae2 T) m (aaa (pv 0) aab)))
  (aag (aay (adb rfl (N:=["place","tied"]) (src:=[none,some 1]) (by exact abd rfl rfl rfl rfl rfl rfl) (aba rfl T.b_range (aaa (aav abz (by rfl) T.b_len adg (aaa (pv 1) aab)) aab)) (λ_ _ _ _=>(aah (i:=0) (show List.Nodup (["place","tied"]:List Str) by decide +kernel) rfl (Or.inl rfl) (hf:=Or.inr rfl))) (λ_ _ _ _=>abc) (λ_ _ _ _=>(aal (agn T) m (aaa (pv 1) (aaa (pv 0) aab))))))))),?_⟩
 refine aa8 h λss r q B z=>?_
 refine exS2 ss q λn es a=>?_
 have o:=a.1
 have d:=a.2.1
 have b:=a.2.2.1
 have c:=a.2.2.2.1
 have j:=a.2.2.2.2.1
 have k:=a.2.2.2.2.2
 clear a q
 show EvS B _ _ [some (.st (webD n es)),none]
 row_cond go
 refine⟨n,es,rfl,o,d,b,c,j,?_⟩
 row_cond go
 refine⟨n,es,rfl,by lia,d,b,c,λtl p=>?_⟩
 refine acs aji ?_
 have x:tl.length=n.toNat:=by have:=p.1;lia
 have g:((tlD tl).map PyData.list).length=n.toNat:=by simp[tlD,x]
 row_cond go
 rw[g,show(((n.toNat:Nat):Int)).toNat=n.toNat by lia]
 unfold rngD
 refine adu (λu:Nat=>.list (rowD n.toNat (dsF es (u:Int)))) rfl (by simp;lia) (λu y C F=>?_) ?_
 ·have l:(u:Int)<n:=by have:=aB9.mp y;lia
  row_cond go
  refine⟨n,0+(u:Int),Tied es,tl,rfl,d,p,λu v h=>(h.in b).2,by lia,by lia,ab7 ⟨?_,rfl⟩⟩
  rw[Int.zero_add,azb j (by lia) l]
 ·row_cond go
  exact k
theorem sc_most_far:FnScope ["rows"] ["rows"] (aak s_most_far):=by row_cond sc
theorem aeq(T:Txt K mg):Can P w K mg base "most_far" 1 ["rows"] (spP K (atl)):=by
 obtain⟨f,fd,D⟩:=T.d_most_far
 refine D.can (D.fn.ok sc_most_far (λvs H Q E h=>lenP h λss l q=>by obtain⟨n,m,rfl,g,y,k⟩:=q;rfl) (λcdv A outer s H vs Q E L h=>?_))
 have nd:=sc_most_far.nd
 refine⟨_,(aag (aay (aav (agf rfl) (by rfl) T.b_max aga (aaa (adb rfl (N:=["row"]) (src:=[none]) (by exact abd rfl rfl rfl rfl rfl rfl) (abm (pv 0)) (λ_ _ _ _=>(aah (i:=0) (show List.Nodup (["row"]:List Str) by decide +kernel) rfl (Or.inl rfl) (hf:=Or.inr rfl))) (λ_ _ _ _=>abc) (λ_ _ _ _=>(aav (show abh _ (.builtin "max") (aie K) from(agf rfl)) (by rfl) T.b_max aga (aaa (pv 0) aab)))) aab)))),?_⟩
 refine aa8 h λss l q B C=>?_
 refine exS2 ss q λn m a=>?_
 have g:=a.1
 have y:=a.2.1
 have k:=a.2.2
 clear a q
 show EvS B _ _ [some (.st (.list (matD n m)))]
 obtain⟨d,b⟩:=ajr g m
 row_cond go
 unfold matD
 refine adu (λu:Nat=>.int (d u)) rfl (by simp;lia) (λu O G J=>?_) ?_
 ·row_cond go
  rw[ahx]
  exact aht (by simp;lia) λx c=>⟨by rw[ani c (b u)],rfl⟩
 ·row_cond go
  rw[show(List.range n).map (λu:Nat=>PyData.int (d u))=((List.range n).map d).map .int by rw[aE0];rfl]
  refine aht (by simp;lia) λx c=>?_
  row_cond go
  refine k x ⟨?_,λu v R I M z=>?_⟩
  ·obtain⟨i,hi,e⟩:=aB7.mp c.1
   obtain⟨j,p,r⟩:=aB7.mp (b i).1
   exact⟨i,j,by lia,by have:=aB9.mp hi;lia,by lia,by have:=aB9.mp p;lia,r.trans e⟩
  ·have o:=(b u.toNat).2 (m ((u.toNat:Nat):Int) ((v.toNat:Nat):Int)) (aB7.mpr ⟨v.toNat,aB9.mpr (by lia),rfl⟩)
   have F:=c.2 (d u.toNat) (aB7.mpr ⟨u.toNat,aB9.mpr (by lia),rfl⟩)
   rw[show((u.toNat:Nat):Int)=u by lia,show((v.toNat:Nat):Int)=v by lia] at o
   lia
theorem sc_row_with:FnScope ["rows","row","tie","a","b","near","beyond","over"] ["rows","row","tie"] (aak s_row_with):=by row_cond sc
theorem anl(T:Txt K mg):Can P w K mg base "row_with" 1 ["rows","row","tie"] (spP K (atm)):=by
 obtain⟨f,fd,D⟩:=T.d_row_with
 refine D.can (D.fn.ok sc_row_with (λvs H Q E h=>lenP h λss j q=>by obtain⟨n,m,r,a,b,rfl,o,a0,a1,b0,b1,k⟩:=q;rfl) (λcdv A outer s H vs Q E x h=>?_))
 have nd:=sc_row_with.nd
 refine⟨_,(aad (adj (pv 2) (ab2 rfl (aas (aah (i:=3) nd rfl (Or.inl rfl)) (aas (aah (i:=4) nd rfl (Or.inl rfl)) abf))))
  (aad (adj (at4 (aa4 aet (aat aau (pv 1) (pv 3) (λ_ _=>rfl)) (aat aau (pv 1) (pv 4) (λ_ _=>rfl)) (aa2 _)) (abe (aaa (pv 3) (aaa (pv 4) aab))) (abe (aaa (pv 4) (aaa (pv 3) aab)))) (ab2 rfl (aas (aah (i:=5) nd rfl (Or.inl rfl)) (aas (aah (i:=6) nd rfl (Or.inl rfl)) abf))))
  (aad (aan (i:=7) nd rfl (Or.inr rfl) (aae aax (aat aau (pv 1) (pv 5) (λ_ _=>rfl)) aac))
  (aag (aay (adb rfl (N:=["far","rest","over"]) (src:=[none,none,some 7]) (by exact abd rfl rfl rfl rfl rfl rfl) (a02 rfl T.b_zip (aaa (pv 1) (aaa (aat aau (pv 0) (pv 6) (λ_ _=>rfl)) aab))) (λ_ _ _ _=>(show PG _ _ (gTup K 2 (aa5 (aar 0) (aa5 (aar 1) gNil))) from(ab2 rfl (aas (aah (i:=0) (show List.Nodup (["far","rest","over"]:List Str) by decide +kernel) rfl (Or.inl rfl) (hf:=Or.inr rfl)) (aas (aah (i:=1) (show List.Nodup (["far","rest","over"]:List Str) by decide +kernel) rfl (Or.inl rfl) (hf:=Or.inr rfl)) abf))))) (λ_ _ _ _=>abc) (λ_ _ _ _=>(aav (afi rfl) (by rfl) T.b_min al4 (aaa (pv 0) (aaa (aae aax (pv 2) (pv 1)) aab)))))))))),?_⟩
 refine aa8 h λss j q B v=>?_
 refine exS5 ss q λn m r a b c=>?_
 have o:=c.1
 have a0:=c.2.1
 have a1:=c.2.2.1
 have b0:=c.2.2.2.1
 have b1:=c.2.2.2.2.1
 have k:=c.2.2.2.2.2
 clear c q
 show EvS B _ _ [some (.st (.list (matD n m))),some (.st (.list (rowD n r))),some (.st (prD (a,b))),none,none,none,none,none]
 have p:=atj (r:=r) a0 a1
 have rb:=atj (r:=r) b0 b1
 have u:=anh (m:=m) a0 a1
 have mb:=anh (m:=m) b0 b1
 row_cond go
 refine acp (λd=>?_) (λd=>?_)
 ·row_cond go
  rw[anj]
  refine aft (xs:=List.range n) (fa:=λi:Nat=>.int (r (i:Int))) (fb:=λi:Nat=>.int (m b (i:Int))) (λi:Nat=>.int (rwF m r a b (i:Int))) (λ_=>true) rfl (by simp;lia) (λi hi g l=>?_) ?_
  ·refine abx ⟨rfl,rfl,λ_=>?_⟩
   row_cond go
   unfold rwF
   rw[aF6 d]
   exact⟨rfl,rfl⟩
  ·rw[acn]
   row_cond go
   exact k
 ·row_cond go
  rw[anj]
  refine aft (xs:=List.range n) (fa:=λi:Nat=>.int (r (i:Int))) (fb:=λi:Nat=>.int (m a (i:Int))) (λi:Nat=>.int (rwF m r a b (i:Int))) (λ_=>true) rfl (by simp;lia) (λi hi g l=>?_) ?_
  ·refine abx ⟨rfl,rfl,λ_=>?_⟩
   row_cond go
   unfold rwF
   rw[aF7 d]
   exact⟨rfl,rfl⟩
  ·rw[acn]
   row_cond go
   exact k
theorem sc_rows_with:FnScope ["rows","tie"] ["rows","tie"] (aak s_rows_with):=by row_cond sc
theorem af2(T:Txt K mg):Can P w K mg base "rows_with" 2 ["rows","tie"] (spP K (aq5)):=by
 obtain⟨f,fd,D⟩:=T.d_rows_with
 refine D.can (D.fn.ok sc_rows_with (λvs H Q E h=>lenP h λss g q=>by obtain⟨n,m,a,b,rfl,d,a0,a1,b0,b1,k⟩:=q;rfl) (λcdv A outer s H vs Q E j h=>?_))
 have nd:=sc_rows_with.nd
 refine⟨_,(aag (aay (adb rfl (N:=["row","rows","tie"]) (src:=[none,some 0,some 1]) (by exact abd rfl rfl rfl rfl rfl rfl) (abm (pv 0)) (λ_ _ _ _=>(aah (i:=0) (show List.Nodup (["row","rows","tie"]:List Str) by decide +kernel) rfl (Or.inl rfl) (hf:=Or.inr rfl))) (λ_ _ _ _=>abc) (λ_ _ _ _=>(aal (anl T) j (aaa (pv 1) (aaa (pv 0) (aaa (pv 2) aab)))))))),?_⟩
 refine aa8 h λss g q B l=>?_
 refine exS4 ss q λn m a b c=>?_
 have d:=c.1
 have a0:=c.2.1
 have a1:=c.2.2.1
 have b0:=c.2.2.2.1
 have b1:=c.2.2.2.2.1
 have k:=c.2.2.2.2.2
 clear c q
 show EvS B _ _ [some (.st (.list (matD n m))),some (.st (prD (a,b)))]
 row_cond go
 unfold matD
 refine adu (f:=λu:Nat=>.list (rowD n (m (u:Int)))) (λu:Nat=>.list (rowD n (rwF m (m (u:Int)) a b))) rfl (by simp;lia) (λu r o p=>?_) ?_
 ·row_cond go
  refine⟨n,m,m (u:Int),a,b,rfl,d,a0,a1,b0,b1,ab7 ⟨rfl,rfl⟩⟩
 ·row_cond go
  exact k
theorem sc_free_ties:FnScope ["web","n","ties"] ["web"] (aak s_free_ties):=by row_cond sc
theorem af3(T:Txt K mg):Can P w K mg base "free_ties" 1 ["web"] (spP K (aq6)):=by
 obtain⟨f,fd,D⟩:=T.d_free_ties
 refine D.can (D.fn.ok sc_free_ties (λvs H Q E h=>lenP h λss l q=>by obtain⟨n,es,rfl,m,j,k⟩:=q;rfl) (λcdv A outer s H vs Q E v h=>?_))
 have nd:=sc_free_ties.nd
 refine⟨_,(aad (adj (pv 0) (ab2 rfl (aas (aah (i:=1) nd rfl (Or.inr rfl)) (aas (aah (i:=2) nd rfl (Or.inr rfl)) abf))))
  (aag (aay (ar1 rfl (N:=["a","b","n","ties"]) (src:=[none,none,some 1,some 2]) (by exact abd rfl rfl rfl rfl rfl rfl) (aba rfl T.b_range (aaa (pv 1) aab)) (λ_ _ _ _=>(aah (i:=0) (show List.Nodup (["a","b","n","ties"]:List Str) by decide +kernel) rfl (Or.inl rfl) (hf:=Or.inr rfl))) (λ_ _ _ _=>abc) (λ_ _ _ _=>(aes rfl T.b_range (aaa (aae aax (pv 0) aac) (aaa (pv 2) aab)))) (λ_ _ _ _=>(aah (i:=1) (show List.Nodup (["a","b","n","ties"]:List Str) by decide +kernel) rfl (Or.inl rfl) (hf:=Or.inr rfl))) (λ_ _ _ _=>aor (aa4 (aey v.units) (abe (aaa (pv 0) (aaa (pv 1) aab))) (pv 3) rfl)) (λ_ _ _ _=>(abe (aaa (pv 0) (aaa (pv 1) aab)))))))),?_⟩
 refine aa8 h λss l q B C=>?_
 refine exS2 ss q λn es a=>?_
 have m:=a.1
 have j:=a.2.1
 have k:=a.2.2
 clear a q
 show EvS B _ _ [some (.st (webD n es)),none,none]
 row_cond go
 have d:=ae3 n es
 have g:=d.len j
 have b:((List.range n.toNat).flatMap λx=>((yfF n x).filter λy=>!decide (((x:Int),y)∈es)).map λy=>PyData.tuple [.int (0+(x:Int)),.int y])=(act n es).map prD:=by
  unfold act
  rw[List.map_flatMap]
  congr 1
  funext x
  rw[aE0]
  refine aF0 λy _=>?_
  simp[prD]
 unfold rngD
 refine avn (xs:=List.range n.toNat) (yfF n) .int (λx y=>.tuple [.int (0+(x:Int)),.int y]) (λx y=>!decide (((x:Int),y)∈es)) ?_ ?_ ?_ ?_ ?_
 ·exact akg rfl
 ·rw[b,aA3];lia
 ·intro x c r u o
  have p:(x:Int)<n:=by have:=aB9.mp c;lia
  row_cond go
  unfold yfF rngD
  rw[aE0]
  exact⟨rfl,rfl⟩
 ·intro x c y z r u
  row_cond go
  refine ag3 (agk (_,_)) (ab8 es) (aD0 (ae1 (_,_)) (by decide)) ?_
  rw[aF6 rfl,show PyData.tuple [PyData.int (0+(x:Int)),PyData.int y]=prD (0+(x:Int),y) from rfl,ajl]
  refine⟨_,rfl,by rw[Int.zero_add],rfl,λ_=>?_⟩
  row_cond go
  exact rfl
 ·rw[b]
  exact k _ d
end
def mW(es:List (Int × Int))(p:Int × Int):Int->Int->Int:=λu=>rwF (dsF es) (dsF es u) p.1 p.2
theorem ag8{n:Nat}(d:1<=n)(m:Int->Int->Int):∃ x,aa9 n m x:=by
 obtain⟨c,a⟩:=ajr d m
 obtain⟨x,b⟩:=ag7 (ns:=(List.range n).map c) (by simp;lia)
 refine⟨x,?_,λu v r p q l=>?_⟩
 ·obtain⟨i,hi,e⟩:=aB7.mp b.1
  obtain⟨j,g,h⟩:=aB7.mp (a i).1
  exact⟨i,j,by lia,by have:=aB9.mp hi;lia,by lia,by have:=aB9.mp g;lia,h.trans e⟩
 ·have f:=(a u.toNat).2 (m ((u.toNat:Nat):Int) ((v.toNat:Nat):Int)) (aB7.mpr ⟨v.toNat,aB9.mpr (by lia),rfl⟩)
  have o:=b.2 (c u.toNat) (aB7.mpr ⟨u.toNat,aB9.mpr (by lia),rfl⟩)
  rw[show((u.toNat:Nat):Int)=u by lia,show((v.toNat:Nat):Int)=v by lia] at f
  lia
theorem ac0{n:Nat}{m:Int->Int->Int}{x y:Int}(h:aa9 n m x)(g:aa9 n m y):x=y:=by
 obtain⟨u,v,a,b,c,d,e⟩:=h.1
 obtain⟨f,o,i,j,l,d',p⟩:=g.1
 have:=g.2 u v a b c d
 have:=h.2 f o i j l d'
 lia
def tpF(n:Nat)(n0:1<=n)(es:List (Int × Int))(p:Int × Int):Int:=Classical.choose (ag8 n0 (mW es p))
theorem ajs{n:Nat}(a:1<=n)(es:List (Int × Int))(p:Int × Int):aa9 n (mW es p) (tpF n a es p):=Classical.choose_spec (ag8 a (mW es p))
def o3D:Option Z3->PyData
 |none=>.none
 |some z=>z3D z
def BestOk(n:Int)(es:List (Int × Int))(o:Option Z3):Prop:=∀ fs,FreeAll n es fs->match o with
 |none=>fs=[]
 |some z=>z.2∈fs/\aa9 n.toNat (mW es z.2) z.1/\∀ y:Z3,y.2∈fs->aa9 n.toNat (mW es y.2) y.1->¬ lt3 y z
def atn:VP:=λss Q=>∃(n:Int)(es:List (Int × Int)),ss=[.st (webD n es)]/\1<=n/\n<=100/\InN n es/\es.length<=10000/\Joined n es/\∀ o,BestOk n es o->Q (.st (o3D o))
section
variable{P:Program}{w:World}{K:Frag}{mg:Str->Option Value}{base:Heap}
theorem sc_best_tie:FnScope ["web","rows"] ["web"] (aak s_best_tie):=by row_cond sc
theorem anm(T:Txt K mg):Can P w K mg base "best_tie" 9 ["web"] (spP K (atn)):=by
 obtain⟨f,fd,D⟩:=T.d_best_tie
 refine D.can (D.fn.ok sc_best_tie (λvs H Q E h=>lenP h λss C q=>by obtain⟨n,es,rfl,u,j,b,c,v,k⟩:=q;rfl) (λcdv A outer s H vs Q E g h=>?_))
 have nd:=sc_best_tie.nd
 refine⟨_,(aad (aan (i:=1) nd rfl (Or.inr rfl) (aal (aep T) g (aaa (pv 0) aab)))
  (aag (aay (axl g.units rfl (by rfl) T.b_min (aaa (adb rfl (N:=["tie","rows"]) (src:=[none,some 1]) (by exact abd rfl rfl rfl rfl rfl rfl) (abm (aal (af3 T) g (aaa (pv 0) aab))) (λ_ _ _ _=>(aah (i:=0) (show List.Nodup (["tie","rows"]:List Str) by decide +kernel) rfl (Or.inl rfl) (hf:=Or.inr rfl))) (λ_ _ _ _=>abc) (λ_ _ _ _=>(abe (aaa (aal (aeq T) g (aaa (aal (af2 T) g (aaa (pv 1) (aaa (pv 0) aab))) aab)) (aaa (pv 0) aab))))) aab) af4)))),?_⟩
 refine aa8 h λss C q B M=>?_
 refine exS2 ss q λn es a=>?_
 have u:=a.1
 have j:=a.2.1
 have b:=a.2.2.1
 have c:=a.2.2.2.1
 have v:=a.2.2.2.2.1
 have k:=a.2.2.2.2.2
 clear a q
 show EvS B _ _ [some (.st (webD n es)),none]
 row_cond go
 refine⟨n,es,rfl,u,j,b,c,v,acs ab3 ?_⟩
 row_cond go
 refine abl (aqm ?_)
 row_cond go
 refine⟨n,es,rfl,by lia,j,λfs l=>ab7 ?_⟩
 have I:=l.len j
 have hn:1<=n.toNat:=by lia
 row_cond go
 refine adu (f:=prD) (λp=>z3D (tpF n.toNat hn es p,p)) rfl (by lia) (λp r O R=>?_) ?_
 ·have hm:=(l.mem p).mp r
  row_cond go
  refine⟨n.toNat,dsF es,p.1,p.2,rfl,by lia,by lia,by lia,by lia,by lia,ab7 ?_⟩
  row_cond go
  refine⟨n.toNat,mW es p,rfl,hn,by lia,λx G=>?_⟩
  row_cond go
  exact⟨by rw[ac0 G (ajs hn es p)],rfl⟩
 ·row_cond go
  rw[show(fs.map λp=>z3D (tpF n.toNat hn es p,p))=(fs.map λp=>((tpF n.toNat hn es p,p):Z3)).map z3D by rw[aE0];rfl]
  refine avp (λe=>?_) λz hz d=>?_
  ·refine k none λJ m=>?_
   have:fs=[]:=by simpa using e
   rw[← l.eq m];exact this
  ·obtain⟨p,r,rfl⟩:=aB7.mp hz
   refine k (some (tpF n.toNat hn es p,p)) λJ m=>?_
   rw[← l.eq m]
   refine⟨r,ajs hn es p,λy F L o=>d y (aB7.mpr ⟨y.2,F,?_⟩) o⟩
   exact Prod.ext (ac0 (ajs hn es y.2) L) rfl
end
def ato:VP:=λss Q=>∃(a b c:Int),ss=[.st (.int a),.st (.int b),.st (.int c)]/\a<=c/\c<=b/\Q (.st .none)
section
variable{P:Program}{w:World}{K:Frag}{mg:Str->Option Value}{base:Heap}
theorem sc_need_number:FnScope ["least","most","thing"] ["least","most","thing"] (aak s_need_number):=by row_cond sc
theorem ae4(T:Txt K mg):Can P w K mg base "need_number" 3 ["least","most","thing"] (spP K (ato)):=by
 obtain⟨f,fd,D⟩:=T.d_need_number
 refine D.can (D.fn.ok sc_need_number (λvs H Q E h=>lenP h λss g q=>by obtain⟨a,b,c,rfl,j,i,k⟩:=q;rfl) (λcdv A outer s H vs Q E l h=>?_))
 have nd:=sc_need_number.nd
 refine⟨_,(aag (abw (adz (aeg (aal (afg T) l (aaa (pv 0) (aaa (pv 1) (aaa (pv 2) aab))))))
   (aag aei)
   abb)),?_⟩
 refine aa8 h λss g q B m=>?_
 refine exS3 ss q λa b c d=>?_
 have j:=d.1
 have i:=d.2.1
 have k:=d.2.2
 clear d q
 show EvS B _ _ [some (.st (.int a)),some (.st (.int b)),some (.st (.int c))]
 row_cond go
 refine⟨a,b,.int c,rfl,?_⟩
 have:btwD a b (.int c)=true:=by simp[btwD];lia
 rw[this]
 row_cond go
 exact k
end
def tpM(n:Nat)(n0:1<=n)(m:Int->Int->Int):Int:=Classical.choose (ag8 n0 m)
theorem ap0{n:Nat}(a:1<=n)(m:Int->Int->Int):aa9 n m (tpM n a m):=Classical.choose_spec (ag8 a m)
def Agree(n:Int)(m q:Int->Int->Int):Prop:=∀ u v,0<=u->u<n->0<=v->v<n->m u v=q u v
theorem Agree.top{n:Nat}{m q:Int->Int->Int}{x:Int}(h:Agree n m q)(t:aa9 n m x):aa9 n q x:=by
 refine⟨?_,λu v a b c d=>by rw[← h u v a b c d];exact t.2 u v a b c d⟩
 obtain⟨u,v,a,b,c,d,e⟩:=t.1
 exact⟨u,v,a,b,c,d,by rw[← h u v a b c d];exact e⟩
structure FI where
 ts:List (Int × Int)
 ls:List (Int × Int)
 m:Int->Int->Int
def fiD(n:Nat)(x:FI):PyData:=.tuple [.list (x.ts.map prD),.list (x.ls.map prD),.list (matD n x.m)]
def wF(m:Int->Int->Int)(p:Int × Int):Int->Int->Int:=λu=>rwF m (m u) p.1 p.2
def nxF(x:FI)(i:Nat):FI:=⟨x.ts++[x.ls.getD i (0,0)],x.ls.drop (i+1),wF x.m (x.ls.getD i (0,0))⟩
def moF(x:FI):List FI:=(List.range x.ls.length).map (nxF x)
def lvF(m:Int->Int->Int)(fs:List (Int × Int)):Nat->List FI
 |0=>[⟨[],fs,m⟩]
 |j+1=>(lvF m fs j).flatMap moF
def trF(m:Int->Int->Int)(fs:List (Int × Int)):Nat->List FI
 |0=>lvF m fs 0
 |j+1=>trF m fs j++lvF m fs (j+1)
def FOk(m:Int->Int->Int)(fs:List (Int × Int))(j:Nat)(x:FI):Prop:=(x.ts++x.ls).Sublist fs/\x.ts.length=j/\x.m=x.ts.foldl wF m
theorem adw{α:Type}{l:List α}{i:Nat}(d : α)(h:i<l.length):l.getD i d=l[i]:=by
 rw[aD4,aA0 h];rfl
theorem azd{α:Type}{l:List α}{i:Nat}(d : α)(h:i<l.length):l.drop i=l.getD i d::l.drop (i+1):=by
 rw[List.drop_eq_getElem_cons h,adw _ h]
theorem a2x{m:Int->Int->Int}{fs:List (Int × Int)}{j i:Nat}{x:FI}(h:FOk m fs j x)(hi:i<x.ls.length):FOk m fs (j+1) (nxF x i):=by
 refine⟨List.Sublist.trans ?_ h.1,by simp[nxF,h.2.1],by simp[nxF,h.2.2,List.foldl_append]⟩
 show(x.ts++[x.ls.getD i (0,0)]++x.ls.drop (i+1)).Sublist _
 rw[aB4,List.singleton_append,← azd _ hi]
 exact List.Sublist.append_left (List.drop_sublist _ _) _
theorem aeb{m:Int->Int->Int}{fs:List (Int × Int)}:∀{j:Nat}{x:FI},x∈lvF m fs j->FOk m fs j x
 | 0,x,h=>by
  cases aC2.mp h
  exact⟨by simp,rfl,rfl⟩
 | j+1,x,h=>by
  obtain⟨y,a,b⟩:=List.mem_flatMap.mp h
  obtain⟨i,hi,rfl⟩:=aB7.mp b
  exact a2x (aeb a) (aB9.mp hi)
theorem aq7{m:Int->Int->Int}{fs:List (Int × Int)}:∀{k:Nat}{x:FI},x∈trF m fs k->∃ j,j<=k/\x∈lvF m fs j
 |0,x,h=>⟨0,aA6 _,h⟩
 | k+1,x,h=>by
  rcases aA7.mp h with h|h
  ·obtain⟨j,b,a⟩:=aq7 h
   exact⟨j,by lia,a⟩
  ·exact⟨k+1,aA6 _,h⟩
theorem ahy{α β:Type}{f : α->List β}{c:Nat}:∀{l:List α},(∀ x∈l,(f x).length<=c)->(l.flatMap f).length<=l.length * c
 |[],_=>by simp
 | a::l,h=>by
  have:=ahy (l:=l) λx b=>h x (aB5 _ b)
  have d:=h a aB8
  rw[List.flatMap_cons,aB1,aE6,Nat.add_mul]
  lia
theorem awy{m:Int->Int->Int}{fs:List (Int × Int)}{j:Nat}{x:FI}(h:FOk m fs j x):x.ls.length<=fs.length:=by
 have:=h.1.length_le
 rw[aB1] at this
 lia
theorem ai0{m:Int->Int->Int}{fs:List (Int × Int)}{c:Nat}(a:fs.length<=c):∀ j,(lvF m fs j).length<=c ^ j
 |0=>by simp[lvF]
 | j+1=>by
  refine aD0 (ahy (c:=c) λx b=>?_) ?_
  ·have:=awy (aeb b)
   simp[moF];lia
  ·rw[Nat.pow_succ]
   exact Nat.mul_le_mul_right _ (ai0 a j)
theorem ann{m:Int->Int->Int}{fs:List (Int × Int)}{c:Nat}(a:fs.length<=c+1):∀ j,(trF m fs j).length<=(j+1) * (c+1) ^ j
 |0=>by simp[trF,lvF]
 | j+1=>by
  have d:=ann (m:=m) a j
  have f:=ai0 (m:=m) a (j+1)
  have b:(c+1) ^ j<=(c+1) ^ (j+1):=Nat.pow_le_pow_right (by lia) (by lia)
  have g:=Nat.mul_le_mul_left (j+1) b
  show(trF m fs j++lvF m fs (j+1)).length<=_
  rw[aB1,show j+1+1=(j+1)+1 from rfl,Nat.succ_mul]
  lia
theorem awz{m:Int->Int->Int}{fs:List (Int × Int)}:∀{k:Nat},trF m fs k ≠ []
 |0,e=>by cases e
 |k+1,e=>awz (List.append_eq_nil_iff.mp e).1
theorem a1m{m:Int->Int->Int}{fs:List (Int × Int)}{j:Nat}{x:FI}(h:FOk m fs j x){p:Int × Int}(a:p∈x.ls):p∈fs:=h.1.subset (aA7.mpr (.inr a))
theorem ano{n:Int}{es fs:List (Int × Int)}(h:FreeAll n es fs)(d:n<=8):fs.length<=28:=by
 have:=ag6 (bs:=(List.range 8).flatMap λ(a:Nat)=>(List.range a).map λ(b:Nat)=>((b:Int),(a:Int))) h.rise.nodup λp c=>by
  have:=(h.mem p).mp c
  exact List.mem_flatMap.mpr ⟨p.2.toNat,aB9.mpr (by lia),aB7.mpr ⟨p.1.toNat,aB9.mpr (by lia),Prod.ext (by simp only;lia) (by simp only;lia)⟩⟩
 exact aD0 this (by decide)
theorem anp(ls:List (Int × Int)){i:Nat}(h:i<ls.length):cutD (ls.map prD) (some ((i:Int)+1)) none=(ls.drop (i+1)).map prD:=by
 unfold cutD
 rw[aA3,HT.sIx_none,show((i:Int)+1)=((i+1:Nat):Int) from rfl,HT.sIx_nat,show min (i+1) ls.length=i+1 by lia,← List.map_drop,aF2 (by rw[aA3,aI8];lia)]
def a1n:VP:=λss Q=>∃(n j:Nat)(m:Int->Int->Int)(fs:List (Int × Int))(xs:List FI),ss=[.st (.list (xs.map (fiD n)))]/\n<=1000/\(∀ x∈xs,FOk m fs j x)/\j<=100/\fs.length<=64/\xs.length<=10000/\(∀ p∈fs,0<=p.1/\p.1<n/\0<=p.2/\p.2<n)/\Q (.own (OL ((xs.flatMap moF).map (fiD n))))
def fewD(x:Int)(ts:List (Int × Int)):PyData:=.tuple [.int x,.list (ts.map prD)]
def a2y:VP:=λss Q=>∃(n k:Int)(es:List (Int × Int)),ss=[.st (webD n es),.st (.int k)]/\1<=n/\n<=8/\InN n es/\es.length<=10000/\Joined n es/\1<=k/\k<=3 /\
 ∀ fs (n0:1<=n.toNat) i x,FreeAll n es fs->(trF (dsF es) fs k.toNat)[i]?=some x->adr ((trF (dsF es) fs k.toNat).map λy=>tpM n.toNat n0 y.m) i->Q (.st (fewD (tpM n.toNat n0 x.m) x.ts))
section
variable{P:Program}{w:World}{K:Frag}{mg:Str->Option Value}{base:Heap}
theorem sc_one_tie_more:FnScope ["level"] ["level"] (aak s_one_tie_more):=by row_cond sc
theorem ahz(T:Txt K mg):Can P w K mg base "one_tie_more" 3 ["level"] (spP K (a1n)):=by
 obtain⟨f,fd,D⟩:=T.d_one_tie_more
 refine D.can (D.fn.ok sc_one_tie_more (λvs H Q E h=>lenP h λss y q=>by obtain⟨n,j,m,fs,xs,rfl,v,hok,G,l,r,g,k⟩:=q;rfl) (λcdv A outer s H vs Q E J h=>?_))
 have nd:=sc_one_tie_more.nd
 refine⟨_,(aag (aay (ar1 rfl (N:=["ties","left","rows","at","tie"]) (src:=[none,none,none,none,none]) (by exact abd rfl rfl rfl rfl rfl rfl) (abm (pv 0)) (λ_ _ _ _=>(show PG _ _ (gTup K 3 (aa5 (aar 0) (aa5 (aar 1) (aa5 (aar 2) gNil)))) from(ab2 rfl (aas (aah (i:=0) (show List.Nodup (["ties","left","rows","at","tie"]:List Str) by decide +kernel) rfl (Or.inl rfl) (hf:=Or.inr rfl)) (aas (aah (i:=1) (show List.Nodup (["ties","left","rows","at","tie"]:List Str) by decide +kernel) rfl (Or.inl rfl) (hf:=Or.inr rfl)) (aas (aah (i:=2) (show List.Nodup (["ties","left","rows","at","tie"]:List Str) by decide +kernel) rfl (Or.inl rfl) (hf:=Or.inr rfl)) abf)))))) (λ_ _ _ _=>abc) (λ_ _ _ _=>(show PI _ _ _ (aqq K _) from apg (by rfl) T.b_enumerate (aaa (pv 1) aab))) (λ_ _ _ _=>(show PG _ _ (gTup K 2 (aa5 (aar 3) (aa5 (aar 4) gNil))) from(ab2 rfl (aas (aah (i:=3) (show List.Nodup (["ties","left","rows","at","tie"]:List Str) by decide +kernel) rfl (Or.inl rfl) (hf:=Or.inr rfl)) (aas (aah (i:=4) (show List.Nodup (["ties","left","rows","at","tie"]:List Str) by decide +kernel) rfl (Or.inl rfl) (hf:=Or.inr rfl)) abf))))) (λ_ _ _ _=>abc) (λ_ _ _ _=>(abe (aaa (aae alz (pv 0) (abi (aaa (pv 4) aab))) (aaa (aek (show SlR _ (rSlL K) from ae9) (pv 1) (aec (aae aax (pv 3) aac)) agu) (aaa (aal (af2 T) J (aaa (pv 2) (aaa (pv 4) aab))) aab)))))))),?_⟩
 refine aa8 h λss y q B L=>?_
 refine exS5 ss q λn j m fs xs a=>?_
 have v:=a.1
 have hok:=a.2.1
 have G:=a.2.2.1
 have l:=a.2.2.2.1
 have r:=a.2.2.2.2.1
 have g:=a.2.2.2.2.2.1
 have k:=a.2.2.2.2.2.2
 clear a q
 show EvS B _ _ [some (.st (.list (xs.map (fiD n))))]
 have u:∀ x∈xs,x.ls.length<=64:=λx d=>aD0 (awy (hok x d)) l
 row_cond go
 refine aqy (xs:=xs) (fa:=λx=>.list (x.ts.map prD)) (fb:=λx=>.list (x.ls.map prD)) (fe:=λx=>.list (matD n x.m)) (λx=>List.range x.ls.length) (λx i=>.int (i:Int)) (λx i=>prD (x.ls.getD i (0,0))) (λx i=>fiD n (nxF x i)) (akg rfl) ?_ ?_ ?_ ?_
 ·refine aD0 (ahy (c:=64) λx d=>?_) (by lia)
  rw[aA3,aE1]
  exact u x d
 ·intro x d F I o o'
  row_cond go
  refine⟨?_,rfl⟩
  unfold enD
  rw[aA3]
  refine aF0 λi hi=>?_
  have b:=aB9.mp hi
  rw[adw _ (by simpa using b),List.getElem_map,adw _ b]
 ·intro x d i hi F I
  have b:=aB9.mp hi
  have C:x.ls.getD i (0,0)∈x.ls:=by rw[adw _ b];exact aF3 b
  have p:=g _ (a1m (hok x d) C)
  have z:=(hok x d).2.1
  row_cond go
  refine⟨n,x.m,(x.ls.getD i (0,0)).1,(x.ls.getD i (0,0)).2,rfl,v,p.1,p.2.1,p.2.2.1,p.2.2.2,ab7 ?_⟩
  row_cond go
  rw[anp _ b]
  refine⟨?_,rfl⟩
  show PyData.tuple _=PyData.tuple [.list ((x.ts++[x.ls.getD i (0,0)]).map prD),_,_]
  rw[aE5]
  rfl
 ·have e:(xs.flatMap λx=>(List.range x.ls.length).map λi=>fiD n (nxF x i))=(xs.flatMap moF).map (fiD n):=by
   rw[List.map_flatMap]
   congr 1
   funext x
   unfold moF
   rw[aE0];rfl
  rw[e]
  exact k
theorem sc_best_few:FnScope ["web","k","rows","level","tried","again"] ["web","k"] (aak s_best_few):=by row_cond sc
theorem ago(T:Txt K mg):Can P w K mg base "best_few" 9 ["web","k"] (spP K (a2y)):=by
 obtain⟨f,fd,D⟩:=T.d_best_few
 obtain⟨l,d⟩:=T.v_MOST_FEW
 obtain⟨b,a⟩:=T.v_MOST_PLACES_FOR_FEW
 refine D.can (D.fn.okC T.lam D.mgx sc_best_few (λvs H Q E h=>lenP h λss Z q=>by obtain⟨n,k,es,rfl,W,X,C,F,S,k0,k3,R⟩:=q;rfl) (λcdv a0 A outer s H vs Q E M I o h=>?_))
 have nd:=sc_best_few.nd
 refine⟨_,(aad (aan (i:=2) nd rfl (Or.inl rfl) (aal (aep T) o (aaa (pv 0) aab)))
  (aad (abv (aal (ae4 T) o (aaa aac (aaa (aoj (v:=.int 3) rfl d ⟨_,rfl⟩) (aaa (pv 1) aab)))))
  (aad (abv (aal (ae4 T) o (aaa aac (aaa (aoj (v:=.int 8) rfl a ⟨_,rfl⟩) (aaa (aat aau (pv 0) aac (λ_ _=>rfl)) aab)))))
  (aad (aan (i:=3) nd rfl (Or.inl rfl) (abi (aaa (abe (aaa (abi aab) (aaa (aal (af3 T) o (aaa (pv 0) aab)) (aaa (pv 2) aab)))) aab)))
  (aad (aan (i:=4) nd rfl (Or.inl rfl) (ad0 aqr (by rfl) T.b_list ai6 (aaa (pv 3) aab)))
  (aad (abr aJ8 rfl (aba rfl T.b_range (aaa (pv 1) aab)) (aah (i:=5) nd rfl (Or.inl rfl))
   (aad (aan (i:=3) nd rfl (Or.inl rfl) (aal (ahz T) o (aaa (pv 3) aab)))
    (aag (azs (i:=4) nd rfl (Or.inl rfl) (pv 3) ayy))))
  (aag (aay (ayx o rfl (by rfl) T.b_min (aaa (adb rfl (N:=["ties","left","told"]) (src:=[none,none,none]) (by exact abd rfl rfl rfl rfl rfl rfl) (abm (pv 4)) (λ_ _ _ _=>(show PG _ _ (gTup K 3 (aa5 (aar 0) (aa5 (aar 1) (aa5 (aar 2) gNil)))) from(ab2 rfl (aas (aah (i:=0) (show List.Nodup (["ties","left","told"]:List Str) by decide +kernel) rfl (Or.inl rfl) (hf:=Or.inr rfl)) (aas (aah (i:=1) (show List.Nodup (["ties","left","told"]:List Str) by decide +kernel) rfl (Or.inl rfl) (hf:=Or.inr rfl)) (aas (aah (i:=2) (show List.Nodup (["ties","left","told"]:List Str) by decide +kernel) rfl (Or.inl rfl) (hf:=Or.inr rfl)) abf)))))) (λ_ _ _ _=>abc) (λ_ _ _ _=>(abe (aaa (aal (aeq T) o (aaa (pv 2) aab)) (aaa (pv 0) aab))))) aab) M I rfl (by rfl) (by rfl) (by rfl) (λ_ _ _ _=>rfl) rfl rfl rfl rfl (by decide +kernel) (by decide)))))))))),?_⟩
 refine aa8 h λss Z q B hK=>?_
 refine exS3 ss q λn k es c=>?_
 have W:=c.1
 have X:=c.2.1
 have C:=c.2.2.1
 have F:=c.2.2.2.1
 have S:=c.2.2.2.2.1
 have k0:=c.2.2.2.2.2.1
 have k3:=c.2.2.2.2.2.2.1
 have R:=c.2.2.2.2.2.2.2
 clear c q
 show EvS B _ _ [some (.st (webD n es)),some (.st (.int k)),none,none,none,none]
 have hn:1<=n.toNat:=by lia
 row_cond go
 refine⟨n,es,rfl,W,by lia,C,F,S,acs ab3 ?_⟩
 row_cond go
 refine⟨1,3,k,rfl,by lia,by lia,?_⟩
 row_cond go
 refine⟨1,8,n,rfl,by lia,by lia,?_⟩
 row_cond go
 refine⟨n,es,rfl,by lia,by lia,λfs J=>ab7 ?_⟩
 have j:=ano J X
 have u:∀ p∈fs,0<=p.1/\p.1<(n.toNat:Int)/\0<=p.2/\p.2<(n.toNat:Int):=λp Y=>by
  have:=(J.mem p).mp Y
  lia
 row_cond go
 refine aby (λi e=>∃ O,e=[some (.st (webD n es)),some (.st (.int k)),some (.st (.list (matD n.toNat (dsF es)))),some (.st (.list ((lvF (dsF es) fs i).map (fiD n.toNat)))),some (.own (OL ((trF (dsF es) fs i).map (fiD n.toNat)))),O]) ⟨none,rfl⟩ ?_ ?_
 ·rintro i e hi g
  refine exE1 e g λO=>?_
  clear g
  have a1:i<3:=by lia
  have U:(lvF (dsF es) fs i).length<=4096:=by
   refine aD0 (ai0 j i) ?_
   have:i=0\/i=1\/i=2:=by lia
   rcases this with rfl|rfl|rfl <;> decide
  row_cond go
  refine⟨n.toNat,i,dsF es,fs,lvF (dsF es) fs i,rfl,by lia,λx r=>aeb r,by lia,by lia,by lia,u,acs ab3 ?_⟩
  row_cond go
  refine avw (.inl rfl) ?_
  row_cond go
  refine⟨_,_,rfl,rfl,?_,some (.st (.int (0+(i:Int)))),?_⟩
  ·rw[aA3,aA3]
   have h1:=ann (m:=dsF es) j i
   have h2:=ai0 (m:=dsF es) j (i+1)
   have:i=0\/i=1\/i=2:=by lia
   have h3:(28:Nat) ^ (i+1)<=262144:=by rcases this with rfl|rfl|rfl <;> decide
   have h4:(i+1) * (27+1) ^ i<=20000:=by rcases this with rfl|rfl|rfl <;> decide
   have h5:(List.flatMap moF (lvF (dsF es) fs i)).length=(lvF (dsF es) fs (i+1)).length:=rfl
   lia
  ·rw[← aE5]
   rfl
 ·rintro e g
  refine exE1 e g λO=>?_
  clear g
  refine ajh (i:=4) rfl ab3 ?_
  row_cond go
  refine abl (aqm ?_)
  row_cond go
  have G:k.toNat=0\/k.toNat=1\/k.toNat=2\/k.toNat=3:=by lia
  have L:(trF (dsF es) fs k.toNat).length<=999999:=by
   refine aD0 (ann (m:=dsF es) j k.toNat) ?_
   rcases G with e|e|e|e <;> rw[e] <;> decide
  refine avx (xs:=trF (dsF es) fs k.toNat) (fa:=λx=>.list (x.ts.map prD)) (fb:=λx=>.list (x.ls.map prD)) (fc:=λx=>.list (matD n.toNat x.m)) (λx=>.tuple [.int (tpM n.toNat hn x.m),.list (x.ts.map prD)]) rfl L (λx r B' hB=>?_) ?_
  ·row_cond go
   refine⟨n.toNat,x.m,rfl,hn,by lia,λy hy=>?_⟩
   row_cond go
   exact⟨by rw[ac0 hy (ap0 hn x.m)],rfl⟩
  ·row_cond go
   rw[show((trF (dsF es) fs k.toNat).map λx=>PyData.tuple [.int (tpM n.toNat hn x.m),.list (x.ts.map prD)])=((trF (dsF es) fs k.toNat).map λx=>((tpM n.toNat hn x.m,[.list (x.ts.map prD)]):Int × List PyData)).map (λz=>.tuple (.int z.1::z.2)) by rw[aE0];rfl]
   refine avu ?_ λi z hz hm=>alh ?_
   ·intro e
    have:=congrArg List.length e
    rw[aA3] at this
    exact awz (aJ0.mp this)
   ·rw[aA5] at hz
    cases r:(trF (dsF es) fs k.toNat)[i]? with
    |none=>rw[r] at hz;cases hz
    | some x =>
     rw[r] at hz
     cases hz
     rw[aE0] at hm
     exact R fs hn i x J r hm
end
def aci(n:Int):PyData->Bool
 | .tuple [.int a,.int b]=>decide (0<=a/\a<=n-1) && decide (0<=b/\b<=n-1) && decide (a<b)
 |_=>false
def afx(n:Int):PyData->Bool
 | .list ds=>ds.all (aci n)
 |_=>false
def a2z:VP:=λss Q=>∃(n:Int)(d:PyData),ss=[.st (.int n),.st d]/\Q (.st (.bool (aci n d)))
def a1o:VP:=λss Q=>∃(n:Int)(d:PyData),ss=[.st (.int n),.st d]/\(∀ ds,d=.list ds->ds.length<=100000)/\Q (.st (.bool (afx n d)))
def av5:VP:=λss Q=>∃(ps:List (Int × Int)),ss=[.st (.list (ps.map prD))]/\ps.length<=100000/\∀ b:Bool,(b=true ↔ Rise ps)->Q (.st (.bool b))
structure PutOk(n:Int)(es fs:List (Int × Int)):Prop where
 inn:∀ p∈fs,0<=p.1/\p.1<p.2/\p.2<n
 nd:(es++fs).Nodup
def a1p:VP:=λss Q=>∃(n:Int)(es fs:List (Int × Int)),ss=[.st (webD n es),.st (.list (fs.map prD))]/\es.length<=10000/\fs.length<=10000/\PutOk n es fs/\∀ qs,Rise qs->qs.Perm (es++fs)->Q (.own (OW (.int n) (qs.map prD)))
section
variable{P:Program}{w:World}{K:Frag}{mg:Str->Option Value}{base:Heap}
theorem sc_is_tie:FnScope ["n","thing","a","b"] ["n","thing"] (aak s_is_tie):=by row_cond sc
theorem aq8 (T:Txt K mg):Can P w K mg base "is_tie" 4 ["n","thing"] (spP K (a2z)):=by
 obtain⟨f,fd,D⟩:=T.d_is_tie
 refine D.can (D.fn.ok sc_is_tie (λvs H Q E h=>lenP h λss m q=>by obtain⟨n,d,rfl,k⟩:=q;rfl) (λcdv A outer s H vs Q E l h=>?_))
 have nd:=sc_is_tie.nd
 refine⟨_,(aad (abw (PW.pt (ak9 (adz (aeg (aav afk (by rfl) T.b_isinstance adh (aaa (pv 1) (aaa (agq (v:=.ty "tuple") rfl T.b_tuple auf rfl) aab))))) (ah1 (aa4 awh (aav abz (by rfl) T.b_len adg (aaa (pv 1) aab)) aac (aa2 _)))))
   (aag (aay ac1))
   abb)
  (aad (adj (pv 1) (ab2 rfl (aas (aah (i:=2) nd rfl (Or.inl rfl)) (aas (aah (i:=3) nd rfl (Or.inl rfl)) abf))))
  (aag (aay (aeh (aal (aeo T) l (aaa (pv 0) (aaa (pv 2) aab))) (aeh (aal (aeo T) l (aaa (pv 0) (aaa (pv 3) aab))) (af5 (ac9 aet (pv 2) (pv 3) (aa2 _))))))))),?_⟩
 refine aa8 h λss m q B o=>?_
 refine exS2 ss q λn d g=>?_
 have k:=g
 clear g q
 show EvS B _ _ [some (.st (.int n)),some (.st d),none,none]
 row_cond go
 cases d with
 | tuple xs =>
  refine agy ?_
  row_cond go
  rcases(show xs.length=2\/xs.length ≠ 2 by lia) with j|j
  ·match xs,j with
   | [x,y],_ =>
    row_cond go
    refine⟨n,x,rfl,?_⟩
    row_cond go
    have c:aci n (.tuple [x,y])=(btwD 0 (n-1) x && (btwD 0 (n-1) y && match x,y with | .int a,.int b=>decide (a<b)|_,_=>false)):=by
     cases x <;> cases y <;> simp[aci,btwD,Bool.and_assoc]
    cases hx:btwD 0 (n-1) x with
    | false =>
     rw[hx,Bool.false_and] at c
     refine adl ?_
     rw[← c];exact k
    | true =>
     refine acy ?_
     row_cond go
     refine⟨n,y,rfl,?_⟩
     row_cond go
     cases hy:btwD 0 (n-1) y with
     | false =>
      rw[hx,hy] at c
      refine adl ?_
      rw[show false=aci n (.tuple [x,y]) by rw[c];rfl];exact k
     | true =>
      refine acy ?_
      cases x with
      | int a =>
       cases y with
       | int b =>
        row_cond go
        rw[hx,hy] at c
        rw[show decide (a<b)=aci n (.tuple [.int a,.int b]) by rw[c];rfl];exact k
       |_=>simp[btwD] at hy
      |_=>simp[btwD] at hx
  ·row_cond go
   have:aci n (.tuple xs)=false:=by
    match xs,j with
    |[],_=>rfl
    |[x],_=>cases x <;> rfl
    |[_,_],h=>exact absurd rfl h
    |x::y::_::_,_=>cases x <;> cases y <;> rfl
   rw[← this];exact k
 | _ =>
  refine agz ?_
  row_cond go
  exact k
theorem sc_are_ties:FnScope ["n","thing"] ["n","thing"] (aak s_are_ties):=by row_cond sc
theorem anq(T:Txt K mg):Can P w K mg base "are_ties" 5 ["n","thing"] (spP K (a1o)):=by
 obtain⟨f,fd,D⟩:=T.d_are_ties
 refine D.can (D.fn.ok sc_are_ties (λvs H Q E h=>lenP h λss c q=>by obtain⟨n,d,rfl,b,k⟩:=q;rfl) (λcdv A outer s H vs Q E g h=>?_))
 have nd:=sc_are_ties.nd
 refine⟨_,(aag (aay (aeh (aav afk (by rfl) T.b_isinstance adh (aaa (pv 1) (aaa (agq (v:=.ty "list") rfl T.b_list ai6 rfl) aab))) (af5 (aav (akb rfl) (by rfl) T.b_all ar5 (aaa (adb rfl (N:=["tie","n"]) (src:=[none,some 0]) (by exact abd rfl rfl rfl rfl rfl rfl) (abm (pv 1)) (λ_ _ _ _=>(aah (i:=0) (show List.Nodup (["tie","n"]:List Str) by decide +kernel) rfl (Or.inl rfl) (hf:=Or.inr rfl))) (λ_ _ _ _=>abc) (λ_ _ _ _=>(aal (aq8 T) g (aaa (pv 1) (aaa (pv 0) aab))))) aab)))))),?_⟩
 refine aa8 h λss c q B j=>?_
 refine exS2 ss q λn d a=>?_
 have b:=a.1
 have k:=a.2
 clear a q
 show EvS B _ _ [some (.st (.int n)),some (.st d)]
 row_cond go
 cases d with
 | list ds =>
  have b:=b ds rfl
  refine acy ?_
  row_cond go
  refine apa (λt=>.bool (aci n t)) rfl (by lia) (λt _ l m=>?_) ?_
  ·row_cond go
   exact⟨n,t,rfl,rfl,rfl⟩
  ·row_cond go
   rw[show(ds.map λt=>PyData.bool (aci n t))=(ds.map (aci n)).map .bool by rw[aE0];rfl]
   refine apj ?_
   row_cond go
   rw[show(ds.map (aci n)).all id=afx n (.list ds) by simp[afx,List.all_map]]
   exact k
 | _ =>
  refine adl ?_
  exact k
theorem sc_is_rising:FnScope ["things"] ["things"] (aak s_is_rising):=by row_cond sc
theorem ak7(T:Txt K mg):Can P w K mg base "is_rising" 1 ["things"] (spP K (av5)):=by
 obtain⟨f,fd,D⟩:=T.d_is_rising
 refine D.can (D.fn.ok sc_is_rising (λvs H Q E h=>lenP h λss l q=>by obtain⟨ps,rfl,m,k⟩:=q;rfl) (λcdv A outer s H vs Q E n h=>?_))
 have nd:=sc_is_rising.nd
 refine⟨_,(aag (aay (aav (akb rfl) (by rfl) T.b_all ar5 (aaa (adb rfl (N:=["at","things"]) (src:=[none,some 0]) (by exact abd rfl rfl rfl rfl rfl rfl) (aba rfl T.b_range (aaa (aae adk (aav abz (by rfl) T.b_len adg (aaa (pv 0) aab)) aac) aab)) (λ_ _ _ _=>(aah (i:=0) (show List.Nodup (["at","things"]:List Str) by decide +kernel) rfl (Or.inl rfl) (hf:=Or.inr rfl))) (λ_ _ _ _=>abc) (λ_ _ _ _=>(ac9 (show OpR _ (compareOp .Lt) (rLtT K) from azy n.units0) (aat (show IxR _ (ack K) from aau) (pv 1) (pv 0) (λ_ _=>rfl)) (aat (show IxR _ (ack K) from aau) (pv 1) (aae aax (pv 0) aac) (λ_ _=>rfl)) (aa2 _)))) aab)))),?_⟩
 refine aa8 h λss l q B r=>?_
 refine exS1 ss q λps a=>?_
 have m:=a.1
 have k:=a.2
 clear a q
 show EvS B _ _ [some (.st (.list (ps.map prD)))]
 row_cond go
 rw[aA3]
 row_cond go
 refine apa (λd=>match d with | .int i=>.bool (match ps[i.toNat]?,ps[i.toNat+1]? with|some p,some q=>HT.lexLt (p2 p) (p2 q)|_,_=>false)|_=>.none) rfl (by rw[acq];lia) (λd hd u v=>?_) ?_
 ·obtain⟨i,hi⟩:=List.mem_iff_getElem?.mp hd
  obtain⟨hi,rfl⟩:=afq hi
  have j:i<ps.length:=by lia
  have c:i+1<ps.length:=by lia
  have a1:atI (ps.map prD) (0+(i:Int))=some (prD ps[i]):=adm (f:=prD) (afu (by lia) (by rw[show(0+(i:Int)).toNat=i by lia];exact aA0 j))
  have o:atI (ps.map prD) (0+(i:Int)+1)=some (prD ps[i+1]):=adm (f:=prD) (afu (by lia) (by rw[show(0+(i:Int)+1).toNat=i+1 by lia];exact aA0 c))
  row_cond go
  refine ayo ?_
  row_cond go
  refine⟨?_,rfl⟩
  simp[j,c]
 ·row_cond go
  have e:(rngD 0 ((ps.length:Int)-1).toNat).map (λd=>match d with | .int i=>PyData.bool (match ps[i.toNat]?,ps[i.toNat+1]? with|some p,some q=>HT.lexLt (p2 p) (p2 q)|_,_=>false)|_=>.none)=((List.range (ps.length-1)).map λi=>match ps[i]?,ps[i+1]? with|some p,some q=>HT.lexLt (p2 p) (p2 q)|_,_=>false).map .bool:=by
   unfold rngD
   rw[aE0,aE0,show((ps.length:Int)-1).toNat=ps.length-1 by lia]
   apply aF0
   intro i _
   simp
  rw[e]
  refine apj ?_
  row_cond go
  refine k _ ?_
  rw[List.all_map,aF5]
  unfold Rise
  rw[amy ltP (λh g=>aip h g)]
  constructor
  ·intro h i hi
   have:=h i (aB9.mpr (by lia))
   simp[show i<ps.length by lia,hi] at this
   exact(lex2 _ _).mp this
  ·intro h i hi
   have b:i+1<ps.length:=by have:=aB9.mp hi;lia
   have:=(lex2 _ _).mpr (h i b)
   simp[show i<ps.length by lia,b,this]
theorem sc_with_ties:FnScope ["web","ties","n","there","every"] ["web","ties"] (aak s_with_ties):=by row_cond sc
theorem ad7(T:Txt K mg):Can P w K mg base "with_ties" 6 ["web","ties"] (spP K (a1p)):=by
 obtain⟨f,fd,D⟩:=T.d_with_ties
 refine D.can (D.fn.ok sc_with_ties (λvs H Q E h=>lenP h λss j q=>by obtain⟨n,es,fs,rfl,l,m,g,k⟩:=q;rfl) (λcdv A outer s H vs Q E d h=>?_))
 have nd:=sc_with_ties.nd
 refine⟨_,(aad (adj (pv 0) (ab2 rfl (aas (aah (i:=2) nd rfl (Or.inl rfl)) (aas (aah (i:=3) nd rfl (Or.inl rfl)) abf))))
  (aad (abw (adz (aeg (aal (anq T) d (aaa (pv 2) (aaa (pv 1) aab)))))
   (aag aei)
   abb)
  (aad (aan (i:=4) nd rfl (Or.inl rfl) (aav afn (by rfl) T.b_sorted acv (aaa (aae alz (pv 3) (pv 1)) aab)))
  (aad (abw (adz (aeg (aal (ak7 T) d (aaa (pv 4) aab))))
   (aag aei)
   abb)
  (aag (aay (abe (aaa (pv 2) (aaa (pv 4) aab))))))))),?_⟩
 refine aa8 h λss j q B r=>?_
 refine exS3 ss q λn es fs a=>?_
 have l:=a.1
 have m:=a.2.1
 have g:=a.2.2.1
 have k:=a.2.2.2
 clear a q
 show EvS B _ _ [some (.st (webD n es)),some (.st (.list (fs.map prD))),none,none,none]
 row_cond go
 refine⟨n,_,rfl,λds e=>by cases e;rw[aA3];lia,?_⟩
 row_cond go
 have o:afx n (.list (fs.map prD))=true:=by
  show((fs.map prD).all (aci n))=true
  rw[List.all_map,aF5]
  intro p c
  have:=g.inn p c
  simp[aci,prD];lia
 rw[o]
 row_cond go
 refine agj (ps:=es++fs) ?_
 row_cond go
 rw[← aE5]
 refine⟨rfl,λqs c hs=>?_⟩
 have d:Rise qs:=ag5 c g.nd hs
 refine aap ?_
 dsimp only[List.set_cons_zero,List.set_cons_succ]
 try refine' ao9 (by assumption) ?_
 refine ao7 (ash (ao6 (ahs (avm (.inl rfl) (ao3 ⟨_,_,.inl rfl,ab3,qs,rfl,by rw[c.length_eq,aB1];lia,λb hb=>?_⟩)))))
 row_cond go
 rw[hb.mpr d]
 row_cond go
 exact k qs d c
end
theorem a1q{p:Int × Int}{a b c:Int}(h:ltP p (a,b))(d:b<=c):ltP p (a,c):=by
 unfold ltP at *
 simp only at *
 lia
theorem aze(fs:List (Int × Int))(a b:Int):fs.map prD++[.tuple [.int a,.int b]]=(fs++[(a,b)]).map prD:=by simp[prD]
structure FreeTo(n:Int)(es fs:List (Int × Int))(a b:Int):Prop where
 mem:∀ p:Int × Int,p∈fs ↔ (0<=p.1/\p.1<p.2/\p.2<n/\p ∉ es/\ltP p (a,b))
 rise:Rise fs
theorem FreeTo.len{n a b:Int}{es fs:List (Int × Int)}(h:FreeTo n es fs a b)(d:n<=100):fs.length<=10000:=PsOk.len ⟨h.rise.nodup,λp c=>by have:=(h.mem p).mp c;lia⟩ d
theorem FreeTo.skip{n a b c d:Int}{es fs:List (Int × Int)}(h:FreeTo n es fs a b)(m:∀ p:Int × Int,0<=p.1->p.1<p.2->p.2<n->p ∉ es->(ltP p (c,d) ↔ ltP p (a,b))):FreeTo n es fs c d :=
 ⟨λp=>by
  rw[h.mem]
  constructor
  ·rintro⟨f,i,g,j,l⟩;exact⟨f,i,g,j,(m p f i g j).mpr l⟩
  ·rintro⟨f,i,g,j,l⟩;exact⟨f,i,g,j,(m p f i g j).mp l⟩,h.rise⟩
theorem FreeTo.snoc{n a b c:Int}{es fs:List (Int × Int)}(h:FreeTo n es fs a b)(u:0<=a)(r:a<b)(o:b<n)(s:(a,b) ∉ es)(l:c=b+1):FreeTo n es (fs++[(a,b)]) a c:=by
 subst l
 refine⟨λp=>?_,aC9.mpr ⟨h.rise,List.pairwise_singleton _ _,λp m q w=>?_⟩⟩
 ·rw [aA7,h.mem,aC2]
  constructor
  ·rintro(⟨g,f,i,j,d⟩|rfl)
   ·exact⟨g,f,i,j,a1q d (by lia)⟩
   ·exact⟨u,r,o,s,.inr ⟨rfl,by simp only;lia⟩⟩
  ·rintro⟨g,f,i,j,d⟩
   by_cases e:p=(a,b)
   ·exact .inr e
   ·refine .inl ⟨g,f,i,j,?_⟩
    rcases d with d|⟨d,x⟩
    ·exact .inl d
    ·refine .inr ⟨d,?_⟩
     simp only at *
     have:p.2 ≠ b:=λv=>e (Prod.ext d v)
     lia
 ·have:q=(a,b):=by simpa using w
  subst this;exact((h.mem p).mp m).2.2.2.2
def a1r:VP:=λss Q=>∃(n:Int)(es:List (Int × Int)),ss=[.st (webD n es)]/\0<=n/\n<=100/\∀ fs,FreeAll n es fs->Q (.own (OL (fs.map prD)))
section
variable{P:Program}{w:World}{K:Frag}{mg:Str->Option Value}{base:Heap}
theorem sc_law_free:FnScope ["web","found","a","b"] ["web"] (aak s_law_free):=by row_cond sc
theorem anr(T:Txt K mg):Can P w K mg base "_law_free" 1 ["web"] (spP K (a1r)):=by
 obtain⟨f,fd,D⟩:=T.d_law_free
 refine D.can (D.fn.ok sc_law_free (λvs H Q E h=>lenP h λss G q=>by obtain⟨n,es,rfl,r,hn,k⟩:=q;rfl) (λcdv A outer s H vs Q E M h=>?_))
 have nd:=sc_law_free.nd
 refine⟨_,(aad (aan (i:=1) nd rfl (Or.inl rfl) (abi aab))
  (aad (abr aJ8 rfl (aba rfl T.b_range (aaa (aat aau (pv 0) aac (λ_ _=>rfl)) aab)) (aah (i:=2) nd rfl (Or.inl rfl))
   (aag (abr aJ8 rfl (aes rfl T.b_range (aaa (aae aax (pv 2) aac) (aaa (aat aau (pv 0) aac (λ_ _=>rfl)) aab))) (aah (i:=3) nd rfl (Or.inl rfl))
     (aag (abw (aa4 (aey M.units) (abe (aaa (pv 2) (aaa (pv 3) aab))) (aat aau (pv 0) aac (λ_ _=>rfl)) rfl)
       (aag (abv (ada PySem.F.plainAttrs_list PySem.F.slot_list_append PySem.F.type_list_append abk (pv 1) (aaa (abe (aaa (pv 2) (aaa (pv 3) aab))) aab))))
       abb)))))
  (aag (aay (pv 1))))),?_⟩
 refine aa8 h λss G q B N=>?_
 refine exS2 ss q λn es a=>?_
 have r:=a.1
 have hn:=a.2.1
 have k:=a.2.2
 clear a q
 show EvS B _ _ [some (.st (webD n es)),none,none,none]
 row_cond go
 refine aby (λi e=>∃ u d fs,e=[some (.st (webD n es)),some (.own (OL (fs.map prD))),u,d]/\FreeTo n es fs (i:Int) ((i:Int)+1)) ⟨none,none,[],rfl,⟨λp=>?_,List.Pairwise.nil⟩⟩ ?_ ?_
 ·simp only[aI4,false_iff,ltP]
  rintro⟨m,g,o,l,C⟩
  push_cast at C
  lia
 ·rintro i e hi b
  refine exS3 e b λu d fs a=>?_
  have c:=a
  clear a b
  have I:0+(i:Int)<n:=by lia
  row_cond go
  refine aby (λj e=>∃ d fs,e=[some (.st (webD n es)),some (.own (OL (fs.map prD))),some (.st (.int (0+(i:Int)))),d]/\FreeTo n es fs (0+(i:Int)) (0+(i:Int)+1+j)) ⟨_,fs,rfl,?_⟩ ?_ ?_
  ·rw[Int.zero_add];simpa using c
  ·clear c fs d
   rintro j e O b
   refine exS2 e b λd fs a=>?_
   have c:=a
   clear a b
   have v:0+(i:Int)+1+(j:Int)<n:=by lia
   row_cond go
   refine ag3 (agk (_,_)) (ab8 es) (aD0 (ae1 (_,_)) (by decide)) ?_
   row_cond go
   rw[aF6 rfl,show PyData.tuple [PyData.int (0+(i:Int)),PyData.int (0+(i:Int)+1+(j:Int))]=prD (0+(i:Int),0+(i:Int)+1+(j:Int)) from rfl,ajl]
   have z:=c.len hn
   by_cases hm:(0+(i:Int),0+(i:Int)+1+(j:Int))∈es
   ·rw[aD8 hm]
    row_cond go
    refine⟨_,fs,rfl,c.skip λp J y L x=>?_⟩
    have:p ≠ (0+(i:Int),0+(i:Int)+1+(j:Int)):=λe=>x (e ▸ hm)
    have:¬ (p.1=0+(i:Int)/\p.2=0+(i:Int)+1+(j:Int)):=λe=>this (Prod.ext e.1 e.2)
    unfold ltP
    push_cast
    lia
   ·rw[aD7 hm]
    row_cond go
    rw[aze]
    exact⟨_,_,rfl,c.snoc (by lia) (by lia) v hm (by push_cast;lia)⟩
  ·rintro e b
   refine exS2 e b λd fs a=>?_
   have c:=a
   clear a b
   refine⟨_,_,fs,rfl,c.skip λp J y L x=>?_⟩
   unfold ltP
   push_cast
   lia
 ·rintro e b
  refine exS3 e b λu d fs a=>?_
  have c:=a
  clear a b
  row_cond go
  refine k fs ⟨λp=>?_,c.rise⟩
  rw[c.mem]
  constructor
  ·rintro⟨m,g,o,l,_⟩;exact⟨m,g,o,l⟩
  ·rintro⟨m,g,o,l⟩;exact⟨m,g,o,l,.inl (by simp only;lia)⟩
end
def DrawsOk(ds:List Int):Prop:=∀ x∈ds,0<=x/\x<10007
theorem DrawsOk.snoc{ds:List Int}{x:Int}(h:DrawsOk ds)(b:0<=x)(c:x<10007):DrawsOk (ds++[x]):=λy a=>by
 rcases aA7.mp a with a|a
 ·exact h y a
 ·have:y=x:=by simpa using a
  subst this;exact⟨b,c⟩
theorem av6{xs:List PyData}{lo hi:Option Int}{d:PyData}(h:d∈cutD xs lo hi):d∈xs:=aC4 (aC0 h)
theorem av7{xs:List PyData}{lo hi:Option Int}:(cutD xs lo hi).length<=xs.length:=by unfold cutD;simp;lia
theorem afy(ds:List Int)(x:Int):ds.map PyData.int++[.int x]=(ds++[x]).map .int:=by simp
def azf:VP:=λss Q=>∃(ns:List Int)(many:Int),ss=[.scr ns,.st (.int many)]/\ns.length<=63/\0<=many/\many<=1000/\∀ ds:List Int,many<=ds.length->ds.length<=3000->DrawsOk ds->Q (.own (OL (ds.map .int)))
section
variable{P:Program}{w:World}{K:Frag}{mg:Str->Option Value}{base:Heap}
theorem sc_law_draws:FnScope ["script","many","drawn","base","k","cell","number","one"] ["script","many"] (aak s_law_draws):=by row_cond sc
theorem ak8 (T:Txt K mg):Can P w K mg base "_law_draws" 1 ["script","many"] (spP K (azf)):=by
 obtain⟨f,fd,D⟩:=T.d_law_draws
 refine D.can (D.fn.ok sc_law_draws (λvs H Q E h=>lenP h λss N q=>by obtain⟨ns,many,rfl,v,R,U,k⟩:=q;rfl) (λcdv A outer s H vs Q E hr h=>?_))
 have nd:=sc_law_draws.nd
 refine ⟨_,(aad (aan (i:=2) nd rfl (Or.inl rfl) (abi aab))
  (aad (aan (i:=3) nd rfl (Or.inl rfl) aac)
  (aad (abr aJ8 rfl (apg rfl T.b_enumerate (aaa (aek ae9 (pv 0) agu (aec aac)) aab)) (ab2 rfl (aas (aah (i:=4) nd rfl (Or.inl rfl)) (aas (aah (i:=5) nd rfl (Or.inl rfl)) abf)))
   (aad (aan (i:=6) nd rfl (Or.inl rfl) (aav ass (by rfl) T.b_abs a03 (aaa (pv 5) aab)))
    (aad (aan (i:=3) nd rfl (Or.inl rfl) (aae aa0 (aae aax (aae ace (pv 3) aac) (pv 6)) aac))
    (aag (abw (aa4 awi (pv 6) (axh (n:=1000000000000000000) (by decide) (by refine⟨by decide,by decide,by decide⟩)) (aa2 _))
     (aag (aln aJ8 (PW.pt (ah2 (aa4 ah3 (pv 6) aac (aa2 _)) (agr (aa4 aet (aav abz (by rfl) T.b_len adg (aaa (pv 2) aab)) (pv 1) (aa2 _)))))
       (aad (abv (ada PySem.F.plainAttrs_list PySem.F.slot_list_append PySem.F.type_list_append abk (pv 2) (aaa (aae aa0 (pv 6) aac) aab)))
        (aag (aan (i:=6) nd rfl (Or.inl rfl) (aae ab4 (pv 6) aac))))))
     (aad (aan (i:=7) nd rfl (Or.inl rfl) (aae aa0 (aae ace (aae aax (aae aax (aae aa0 (pv 6) aac) (pv 4)) aac) aac) aac))
      (aad (aan (i:=7) nd rfl (Or.inl rfl) (aae aa0 (aae ace (pv 7) (pv 7)) aac))
      (aad (abv (ada PySem.F.plainAttrs_list PySem.F.slot_list_append PySem.F.type_list_append abk (pv 2) (aaa (aae aa0 (aae ab4 (pv 7) aac) aac) aab)))
      (aad (aan (i:=7) nd rfl (Or.inl rfl) (aae aa0 (aae aax (aae aax (aae ace (pv 7) aac) (aae ace aac (pv 4))) aac) aac))
      (aad (aan (i:=7) nd rfl (Or.inl rfl) (aae aa0 (aae ace (pv 7) (pv 7)) aac))
      (aag (abv (ada PySem.F.plainAttrs_list PySem.F.slot_list_append PySem.F.type_list_append abk (pv 2) (aaa (aae aa0 (aae ab4 (pv 7) aac) aac) aab))))))))))))))
  (aad (abr aJ8 rfl (aba rfl T.b_range (aaa (aae adk (pv 1) (aav abz (by rfl) T.b_len adg (aaa (pv 2) aab))) aab)) (aah (i:=4) nd rfl (Or.inl rfl))
   (aad (aan (i:=7) nd rfl (Or.inl rfl) (aae aa0 (aae aax (aae aax (pv 3) (aae ace aac (pv 4))) aac) aac))
    (aad (aan (i:=7) nd rfl (Or.inl rfl) (aae aa0 (aae ace (pv 7) (pv 7)) aac))
    (aad (aan (i:=7) nd rfl (Or.inl rfl) (aae aa0 (aae aax (aae ace (pv 7) aac) (pv 4)) aac))
    (aag (abv (ada PySem.F.plainAttrs_list PySem.F.slot_list_append PySem.F.type_list_append abk (pv 2) (aaa (aae aa0 (aae ab4 (aae aa0 (aae ace (pv 7) (pv 7)) aac) aac) aac) aab))))))))
  (aag (aay (pv 2))))))),?_⟩
 refine aa8 h λss N q B Y=>?_
 refine exS2 ss q λns many a=>?_
 have v:=a.1
 have R:=a.2.1
 have U:=a.2.2.1
 have k:=a.2.2.2
 clear a q
 show EvS B _ _ [some (.scr ns),some (.st (.int many)),none,none,none,none,none,none]
 row_cond go
 have G:(cutD (ns.map PyData.int) none (some 63)).length<=63:=aD0 av7 (by simpa using v)
 refine⟨λi e=>∃ u p r o ds bs,e=[some (.scr ns),some (.st (.int many)),some (.own (OL (ds.map .int))),some (.st (.int bs)),u,p,r,o]/\0<=bs/\bs<2147483629/\DrawsOk ds/\(ds.length:Int)<=2 * i+many,
  ⟨none,none,none,none,[],7,rfl,by lia,by lia,λx z=>by simp at z,by simp;lia⟩,?_,?_⟩
 ·rintro i d e hd b
  refine exS6 e b λu p r o ds bs a=>?_
  have b0:=a.1
  have b1:=a.2.1
  have l:=a.2.2.1
  have j:=a.2.2.2
  clear a b
  obtain⟨x,z,rfl⟩:=api hd
  have hi:i<63:=aC5 (aA1.mp z).1 G
  obtain⟨c,_,rfl⟩:=aB7.mp (av6 (aA2 z))
  row_cond go
  have y:0<=(if c<0 then -c else c):=by split <;> lia
  generalize (if c<0 then -c else c)=num0 at y
  refine acp (λL=>?_) (λX=>?_)
  ·row_cond go
   refine aj6 (λm e=>∃ g ds,e=[some (.scr ns),some (.st (.int many)),some (.own (OL (ds.map .int))),some (.st (.int ((bs * 31+num0) % 2147483629))),some (.st (.int (i:Int))),some (.st (.int c)),some (.st (.int g)),o]/\0<=g/\DrawsOk ds/\(ds.length:Int)<=2 * i+many/\m=g.toNat) ⟨_,num0,ds,rfl,y,l,j,rfl⟩ ?_
   rintro m e b
   refine exS2 e b λg ds a=>?_
   have Z:=a.1
   have l:=a.2.1
   have j:=a.2.2.1
   have C:=a.2.2.2
   clear a b
   subst C
   row_cond go
   refine acp (λO=>?_) (λO=>?_)
   ·row_cond go
    rw[aA3]
    refine acp (λW=>?_) (λW=>?_)
    ·row_cond go
     refine⟨(g / 10007).toNat,by lia,g / 10007,ds++[g % 10007],by simp,by lia,l.snoc (by lia) (by lia),by simp;lia,rfl⟩
    ·row_cond go
     exact⟨_,_,_,_,ds,_,rfl,by lia,by lia,l,by push_cast;lia⟩
   ·row_cond go
    exact⟨_,_,_,_,ds,_,rfl,by lia,by lia,l,by push_cast;lia⟩
  ·row_cond go
   rw[afy,afy]
   refine⟨_,_,_,_,_,_,rfl,by lia,by lia,(l.snoc (by lia) (by lia)).snoc (by lia) (by lia),by simp;lia⟩
 ·rintro e b
  refine exS6 e b λu p r o ds bs a=>?_
  have b0:=a.1
  have b1:=a.2.1
  have l:=a.2.2.1
  have j:=a.2.2.2
  clear a b
  rw[afv] at j
  row_cond go
  rw[aA3]
  have M:(ds.length:Int)<=1126:=by lia
  row_cond go
  refine aby (λi e=>∃ u p r o es,e=[some (.scr ns),some (.st (.int many)),some (.own (OL (es.map .int))),some (.st (.int bs)),u,p,r,o]/\DrawsOk es/\es.length=ds.length+i) ⟨_,_,_,_,ds,rfl,l,rfl⟩ ?_ ?_
  ·rintro i e hi b
   refine exS5 e b λu p r o es a=>?_
   have I:=a.1
   have J:=a.2
   clear a b
   have S:(i:Int)<1000:=by lia
   row_cond go
   rw[afy]
   exact⟨_,_,_,_,_,rfl,I.snoc (by lia) (by lia),by simp;lia⟩
  ·rintro e b
   refine exS5 e b λu p r o es a=>?_
   have I:=a.1
   have J:=a.2
   clear a b
   row_cond go
   exact k es (by lia) (by lia) I
end
theorem DrawsOk.at{ds:List Int}(h:DrawsOk ds){i:Int}(a:0<=i)(c:i<ds.length):∃ x,atI (ds.map PyData.int) i=some (.int x)/\0<=x/\x<10007:=by
 have b:i.toNat<ds.length:=by lia
 have e:ds[i.toNat]?=some ds[i.toNat]:=aA0 b
 have:=h _ (aA2 e)
 exact⟨_,adm (f:=PyData.int) (afu a e),this.1,this.2⟩
def a20:VP:=λss Q=>∃(ds:List Int)(spot most:Int),ss=[.st (.list (ds.map .int)),.st (.int spot),.st (.int most)]/\DrawsOk ds/\0<=spot/\spot+50<=ds.length/\ds.length<=3000/\1<=most/\most<=60/\∀ n es,WebOk n es->n<=most->Joined n es->Q (.st (webD n es))
theorem at5{a b c d e:Int}{i:Int}(g:0<=i)(f:i<5):∃ y,atI [PyData.int a,PyData.int b,PyData.int c,PyData.int d,PyData.int e] i=some (PyData.int y)/\(y=a\/y=b\/y=c\/y=d\/y=e):=by
 rcases(show i=0\/i=1\/i=2\/i=3\/i=4 by lia) with rfl|rfl|rfl|rfl|rfl
 ·exact⟨a,rfl,by simp⟩
 ·exact⟨b,rfl,by simp⟩
 ·exact⟨c,rfl,by simp⟩
 ·exact⟨d,rfl,by simp⟩
 ·exact⟨e,rfl,by simp⟩
theorem a1s{a r n:Int}(a0:0<=a)(a1:a<n)(b:0<=r)(c:r<n-1):(a+1+r) % n ≠ a:=by
 by_cases h:a+1+r<n
 ·rw[Int.emod_eq_of_lt (by lia) h];lia
 ·have e:a+1+r=(a+1+r-n)+n * 1:=by lia
  rw[e,Int.add_mul_emod_self_left,Int.emod_eq_of_lt (by lia) (by lia)];lia
theorem akj{α β:Type}(f : α->β):∀(l:List α)(k:Nat),(l.map f).eraseIdx k=(l.eraseIdx k).map f
 |[],_=>rfl
 |_::_,0=>rfl
 |a::l,k+1=>by simp[akj f l k]
theorem a1t{j:Int}{n:Nat}(b:0<=j)(a:j<n):seqIndex? j n=some j.toNat:=by unfold seqIndex?;simp;lia
theorem a1u{left:List Int}{k:Nat}{y:Int}(a:left[k]?=some y):(left.map PyData.int)[k]?=some (.int y):=by rw[aA5,a];rfl
theorem aw0{x y:Int}{ns:List Int}(d:ns.Perm [x,y])(hs:ns.Pairwise (·<=·)):ns=if x<y then [x,y] else [y,x]:=by
 have c:(if x<y then [x,y] else [y,x]).Perm [x,y]:=by
  split
  ·exact List.Perm.refl _
  ·exact List.Perm.swap _ _ _
 have f:(if x<y then [x,y] else [y,x]).Pairwise (·<=·):=by
  split <;> simp <;> lia
 exact(d.trans c.symm).eq_of_pairwise (λa b _ _ h g=>Int.le_antisymm h g) hs f
section
variable{P:Program}{w:World}{K:Frag}{mg:Str->Option Value}{base:Heap}
theorem sc_law_web:FnScope ["d","spot","most","n","way","ties","k","x","head","a","b","kind","cut","two","order","left","at","turned"] ["d","spot","most"] (aak s_law_web):=by row_cond sc
theorem aoh (T:Txt K mg):Can P w K mg base "_law_web" 1 ["d","spot","most"] (spP K (a20)):=by
 obtain⟨f,fd,D⟩:=T.d_law_web
 refine D.can (D.fn.ok sc_law_web (λvs H Q E h=>lenP h λss Q' q=>by obtain⟨ds,spot,most,rfl,W,s0,s1,hl,m0,m1,k⟩:=q;rfl) (λcdv A outer s H vs Q E hr h=>?_))
 have nd:=sc_law_web.nd
 refine⟨_,(aad (aan (i:=3) nd rfl (Or.inl rfl) (aae aax aac (aae aa0 (aat aau (pv 0) (pv 1) (λ_ _=>rfl)) (pv 2))))
  (aad (aan (i:=4) nd rfl (Or.inl rfl) (aae aa0 (aae ab4 (aat aau (pv 0) (pv 1) (λ_ _=>rfl)) aac) aac))
  (aad (aan (i:=5) nd rfl (Or.inl rfl) aub)
  (aad (abr aJ8 rfl (aes rfl T.b_range (aaa aac (aaa (pv 3) aab))) (aah (i:=6) nd rfl (Or.inl rfl))
   (aad (aan (i:=7) nd rfl (Or.inl rfl) (aat aau (pv 0) (aae aax (aae aax (pv 1) aac) (aae aa0 (pv 6) aac)) (λ_ _=>rfl)))
    (aad (aan (i:=8) nd rfl (Or.inl rfl) (aat aau (abi (aaa (aae adk (pv 6) aac) (aaa aac (aaa (aae aa0 (pv 7) (pv 6)) (aaa (aav (ah7 rfl) (by rfl) T.b_max aga (aaa aac (aaa (aae adk (aae adk (pv 6) aac) (aae aa0 (pv 7) aac)) aab))) (aaa (aae adk (pv 6) aac) aab)))))) (pv 4) (λ_ _=>rfl)))
    (aag (agv (alb hr) (pv 5) (abe (aaa (pv 8) (aaa (pv 6) aab))) ac1 rfl)))))
  (aad (abw (PW.pt (ah2 (aa4 ap5 (pv 4) aac (aa2 _)) (agr (aa4 ah3 (pv 3) aac (aa2 _)))))
   (aag (agv (alb hr) (pv 5) (abe (aaa aac (aaa (aae adk (pv 3) aac) aab))) ac1 rfl))
   abb)
  (aad (abr aJ8 rfl (aba rfl T.b_range (aaa (aae ace (aat aau (abi (aaa aac (aaa aac (aaa aac (aaa aac (aaa (aae ab4 (pv 3) aac) aab)))))) (aae aa0 (aat aau (pv 0) (aae aax (pv 1) aac) (λ_ _=>rfl)) aac) (λ_ _=>rfl)) (ad0 ah8 (by rfl) T.b_int al5 (aaa (ac9 ah3 (pv 3) aac (aa2 _)) aab))) aab)) (aah (i:=6) nd rfl (Or.inl rfl))
   (aad (aan (i:=9) nd rfl (Or.inl rfl) (aae aa0 (aat aau (pv 0) (aae aax (aae aax (pv 1) aac) (aae aa0 (pv 6) aac)) (λ_ _=>rfl)) (pv 3)))
    (aad (aan (i:=10) nd rfl (Or.inl rfl) (aae aa0 (aae aax (aae aax (pv 9) aac) (aae aa0 (aat aau (pv 0) (aae aax (aae aax (pv 1) aac) (aae aa0 (pv 6) aac)) (λ_ _=>rfl)) (aae adk (pv 3) aac))) (pv 3)))
    (aag (agv (alb hr) (pv 5) (abe (aaa (aav (afi rfl) (by rfl) T.b_min al4 (aaa (pv 9) (aaa (pv 10) aab))) (aaa (aav (ah7 rfl) (by rfl) T.b_max aga (aaa (pv 9) (aaa (pv 10) aab))) aab))) ac1 rfl)))))
  (aad (aan (i:=11) nd rfl (Or.inl rfl) (aae aa0 (aae ab4 (aat aau (pv 0) (aae aax (pv 1) aac) (λ_ _=>rfl)) aac) aac))
  (aad (aan (i:=12) nd rfl (Or.inl rfl) (aae aax aac (aae aa0 (aae ab4 (aat aau (pv 0) (aae aax (pv 1) aac) (λ_ _=>rfl)) aac) (aav (afi rfl) (by rfl) T.b_min al4 (aaa (pv 3) (aaa aac aab))))))
  (aad (abr aJ8 rfl (aba rfl T.b_range (aaa (pv 3) aab)) (aah (i:=10) nd rfl (Or.inl rfl))
   (aag (abr aJ8 rfl (aba rfl T.b_range (aaa (pv 10) aab)) (aah (i:=9) nd rfl (Or.inl rfl))
     (aad (aan (i:=13) nd rfl (Or.inl rfl) (aeh (ac9 ap5 (pv 11) aac (aa2 _)) (aeh (ac9 awi (pv 9) (pv 12) (aa2 _)) (af5 (ac9 aet (pv 3) aac (aa2 _))))))
      (aag (abw (PW.pt (ah2 (aa4 aet (pv 11) aac (aa2 _)) (agr (PW.pt (ak9 (aa4 aet (pv 10) (pv 12) (aa2 _)) (ah1 (asb (pv 13))))))))
       (aag (agv (alb hr) (pv 5) (abe (aaa (pv 9) (aaa (pv 10) aab))) ac1 rfl))
       abb))))))
  (aad (aan (i:=14) nd rfl (Or.inr rfl) (amw rfl T.b_list rfl T.b_range rfl (aaa (pv 3) aab)))
  (aad (abw (aa4 ah3 (aae aa0 (aae ab4 (aat aau (pv 0) (aae aax (pv 1) aac) (λ_ _=>rfl)) aac) aac) aac (aa2 _))
   (aad (aan (i:=15) nd rfl (Or.inl rfl) (amw rfl T.b_list rfl T.b_range rfl (aaa (pv 3) aab)))
    (aad (aan (i:=14) nd rfl (Or.inr rfl) (abi aab))
    (aag (abr aJ8 rfl (aba rfl T.b_range (aaa (pv 3) aab)) (aah (i:=6) nd rfl (Or.inl rfl))
     (aad (aan (i:=16) nd rfl (Or.inl rfl) (aae ab4 (aat aau (pv 0) (aae aax (aae aax (pv 1) aac) (aae aa0 (pv 6) aac)) (λ_ _=>rfl)) (aae aax aac (aae ab4 (pv 6) aac))))
      (aag (abv (ada PySem.F.plainAttrs_list PySem.F.slot_list_append PySem.F.type_list_append abk (pv 14) (aaa (ada PySem.F.plainAttrs_list PySem.F.slot_list_pop PySem.F.type_list_pop at9 (pv 15) (aaa (aae aa0 (pv 16) (aav abz (by rfl) T.b_len adg (aaa (pv 15) aab))) aab)) aab)))))))))
   abb)
  (aad (afh (i:=17) nd rfl (Or.inl rfl) rfl (N:=["a","b","order"]) (src:=[none,none,some 14]) (by exact abd rfl rfl rfl rfl rfl rfl) (a2i (pv 5)) (λ_ _ _ _=>(show PG _ _ (gTup K 2 (aa5 (aar 0) (aa5 (aar 1) gNil))) from(ab2 rfl (aas (aah (i:=0) (show List.Nodup (["a","b","order"]:List Str) by decide +kernel) rfl (Or.inl rfl) (hf:=Or.inr rfl)) (aas (aah (i:=1) (show List.Nodup (["a","b","order"]:List Str) by decide +kernel) rfl (Or.inl rfl) (hf:=Or.inr rfl)) abf))))) (λ_ _ _ _=>abc) (λ_ _ _ _=>(aav (show abh _ (.builtin "sorted") (age K) from aic) (by rfl) T.b_sorted acv (aaa (abi (aaa (aat (show IxR _ (ack K) from aau) (pv 2) (pv 0) (λ_ _=>rfl)) (aaa (aat (show IxR _ (ack K) from aau) (pv 2) (pv 1) (λ_ _=>rfl)) aab))) aab))))
  (aag (aay (abe (aaa (pv 3) (aaa (aav afn (by rfl) T.b_sorted acv (aaa (adb rfl (N:=["a","b"]) (src:=[none,none]) (by exact abd rfl rfl rfl rfl rfl rfl) (abm (pv 17)) (λ_ _ _ _=>(show PG _ _ (gLst K 2 (aa5 (aar 0) (aa5 (aar 1) gNil))) from(ar9 rfl (aas (aah (i:=0) (show List.Nodup (["a","b"]:List Str) by decide +kernel) rfl (Or.inl rfl) (hf:=Or.inr rfl)) (aas (aah (i:=1) (show List.Nodup (["a","b"]:List Str) by decide +kernel) rfl (Or.inl rfl) (hf:=Or.inr rfl)) abf))))) (λ_ _ _ _=>abc) (λ_ _ _ _=>(abe (aaa (pv 0) (aaa (pv 1) aab))))) aab)) aab))))))))))))))))),?_⟩
 refine aa8 h λss Q' q B hK=>?_
 refine exS3 ss q λds spot most g=>?_
 have W:=g.1
 have s0:=g.2.1
 have s1:=g.2.2.1
 have hl:=g.2.2.2.1
 have m0:=g.2.2.2.2.1
 have m1:=g.2.2.2.2.2.1
 have k:=g.2.2.2.2.2.2
 clear g q
 show EvS B _ _ [some (.st (.list (ds.map .int))),some (.st (.int spot)),some (.st (.int most)),none,none,none,none,none,none,none,none,none,none,none,none,none,none,none]
 obtain⟨Y,a0,b6,b8⟩:=W.at (i:=spot) s0 (by lia)
 obtain⟨d1,a1,b7,b9⟩:=W.at (i:=spot+1) (by lia) (by lia)
 row_cond go
 have a3:1<=1+Y % most:=by have:=aE7 Y (show most ≠ 0 by lia);lia
 have a2:1+Y % most<=most:=by have:=aE8 Y (show 0<most by lia);lia
 generalize 1+Y % most=n at a3 a2
 generalize hw:Y / 64 % 5=way
 have b1:0<=way:=by lia
 have b2:way<5:=by lia
 have b5:(spot:Int)<=2950:=by lia
 row_cond go
 refine aby (λi e=>∃ o C G ps,e=[some (.st (.list (ds.map .int))),some (.st (.int spot)),some (.st (.int most)),some (.st (.int n)),some (.st (.int way)),some (.own (OT (kE ps))),o,C,G,none,none,none,none,none,none,none,none,none]/\PsOk n ps/\Tr (1+i) ps) ⟨_,_,_,[],rfl,PsOk.nil n,λk _ _=>by lia⟩ ?_ ?_
 ·rintro i e hi l
  refine exS4 e l λo C G ps g=>?_
  have m:=g.1
  have r:=g.2
  clear g l
  have b3:(i:Int)<n-1:=by lia
  obtain⟨x,ax,xl,xh⟩:=W.at (i:=spot+2+(1+(i:Int)) % 20) (by lia) (by lia)
  have x0:=aE7 x (show 1+(i:Int) ≠ 0 by lia)
  have x1:=aE8 x (show 0<1+(i:Int) by lia)
  obtain⟨hd,ah,hh⟩:=at5 (a:=1+(i:Int)-1) (b:=0) (c:=x % (1+(i:Int))) (d:=if 1+(i:Int)-1-x % 3 > 0 then 1+(i:Int)-1-x % 3 else 0) (e:=1+(i:Int)-1) b1 b2
  have h0:0<=hd/\hd<1+(i:Int):=by
   generalize x % (1+(i:Int))=z at *
   split at hh <;> lia
  clear hh
  have hL:(kE ps).length<=999999:=by rw[ae0];exact aD0 (m.len (by lia)) (by decide)
  row_cond go
  rw[aiq]
  refine⟨_,_,_,_,rfl,m.add h0.1 h0.2 (by lia),λk k1 k2=>?_⟩
  by_cases hk:k=1+(i:Int)
  ·subst hk;exact⟨hd,h0.1,h0.2,addP_mem.mpr (.inr rfl)⟩
  ·obtain⟨h,z0,z1,z2⟩:=r k k1 (by push_cast at k2;lia);exact⟨h,z0,z1,addP_mem.mpr (.inl z2)⟩
 ·rintro e l
  refine exS4 e l λo C G ps g=>?_
  have m:=g.1
  have r:=g.2
  clear g l
  replace r:Tr n ps:=λk k1 k2=>r k k1 (by lia)
  row_cond go
  refine' cutR (R:=∀ ps,PsOk n ps->Tr n ps->EvS B _ _ [some (.st (.list (ds.map .int))),some (.st (.int spot)),some (.st (.int most)),some (.st (.int n)),some (.st (.int way)),some (.own (OT (kE ps))),o,C,G,none,none,none,none,none,none,none,none,none]) (λR=>?K1) ?K2
  case K1 =>
   refine acp (λ_=>?_) (λ_=>?_)
   ·row_cond go
    refine acp (λhn=>?_) (λhn=>?_)
    ·refine am0 (λe=>∃ ps,e=[some (.st (.list (ds.map .int))),some (.st (.int spot)),some (.st (.int most)),some (.st (.int n)),some (.st (.int way)),some (.own (OT (kE ps))),o,C,G,none,none,none,none,none,none,none,none,none]/\PsOk n ps/\Tr n ps) ?_ ?_
     ·have hL:(kE ps).length<=999999:=by rw[ae0];exact aD0 (m.len (by lia)) (by decide)
      row_cond go
      rw[aiq]
      exact⟨_,rfl,m.add (by lia) (by lia) (by lia),r.add⟩
     ·rintro e l
      refine exS1 e l λps g=>?_
      have m:=g.1
      have r:=g.2
      clear g l
      exact R ps m r
    ·refine afp ?_
     exact R ps m r
   ·refine afp ?_
    exact R ps m r
  case K2 =>
   clear m r ps
   intro ps m r
   obtain⟨X,a5,h5⟩:=at5 (a:=0) (b:=0) (c:=1) (d:=2) (e:=n / 2) (i:=d1 % 5) (by lia) (by lia)
   have y0:0<=X/\X<=30:=by lia
   clear h5
   row_cond go
   have hm : -(2 ^ 62)<=X * (if decide (1<n)=true then 1 else 0)/\X * (if decide (1<n)=true then 1 else 0)<2 ^ 62/\(0<X * (if decide (1<n)=true then 1 else 0)->1<n):=by
    by_cases hn:1<n
    ·rw[aF6 (aD8 hn)];lia
    ·rw[aF7 (by simpa using hn)];lia
   generalize (X * if decide (1<n)=true then 1 else 0)=tot at hm
   obtain⟨t0,t1,t2⟩:=hm
   row_cond go
   refine aby (λi e=>∃ o C G M I ps,e=[some (.st (.list (ds.map .int))),some (.st (.int spot)),some (.st (.int most)),some (.st (.int n)),some (.st (.int way)),some (.own (OT (kE ps))),o,C,G,M,I,none,none,none,none,none,none,none]/\PsOk n ps/\Tr n ps) ⟨_,_,_,_,_,ps,rfl,m,r⟩ ?_ ?_
   ·clear m r o C G ps
    rintro i e hi l
    refine exS6 e l λo C G M I ps g=>?_
    have m:=g.1
    have r:=g.2
    clear g l
    have hn:1<n:=t2 (by lia)
    obtain⟨x,ax,xl,xh⟩:=W.at (i:=spot+22+(0+(i:Int)) % 8) (by lia) (by lia)
    obtain⟨y,ay,yl,yh⟩:=W.at (i:=spot+30+(0+(i:Int)) % 8) (by lia) (by lia)
    have hL:(kE ps).length<=999999:=by rw[ae0];exact aD0 (m.len (by lia)) (by decide)
    have u0:=aE7 x (show n ≠ 0 by lia)
    have u1:=aE8 x (show 0<n by lia)
    have w0:=aE7 y (show n-1 ≠ 0 by lia)
    have w1:=aE8 y (show 0<n-1 by lia)
    have z0:=aE7 (x % n+1+y % (n-1)) (show n ≠ 0 by lia)
    have z1:=aE8 (x % n+1+y % (n-1)) (show 0<n by lia)
    have zn:=a1s u0 u1 w0 w1
    row_cond go
    rw[aiq]
    generalize (x % n+1+y % (n-1)) % n=q at *
    generalize x % n=p at *
    refine⟨_,_,_,_,_,_,rfl,m.add ?_ ?_ ?_,r.add⟩ <;> (by_cases hb:q<p) <;> simp[hb] <;> lia
   ·clear m r o C G ps
    rintro e l
    refine exS6 e l λo C G M I ps g=>?_
    have m:=g.1
    have r:=g.2
    clear g l
    row_cond go
    generalize d1 / 15 % 8=kind
    generalize (2+d1 / 120 % _:Int)=cut
    refine aby (λi e=>∃ o C G M I J ps,e=[some (.st (.list (ds.map .int))),some (.st (.int spot)),some (.st (.int most)),some (.st (.int n)),some (.st (.int way)),some (.own (OT (kE ps))),o,C,G,M,I,some (.st (.int kind)),some (.st (.int cut)),J,none,none,none,none]/\PsOk n ps/\Tr n ps) ⟨_,_,_,_,_,_,ps,rfl,m,r⟩ ?_ ?_
    ·clear m r o C G M I ps
     rintro b e hb l
     refine exS7 e l λo C G M I J ps g=>?_
     have m:=g.1
     have r:=g.2
     clear g l
     have a6:0+(b:Int)<n:=by lia
     row_cond go
     refine aby (λi e=>∃ o C G M J ps,e=[some (.st (.list (ds.map .int))),some (.st (.int spot)),some (.st (.int most)),some (.st (.int n)),some (.st (.int way)),some (.own (OT (kE ps))),o,C,G,M,some (.st (.int (0+(b:Int)))),some (.st (.int kind)),some (.st (.int cut)),J,none,none,none,none]/\PsOk n ps/\Tr n ps) ⟨_,_,_,_,_,ps,rfl,m,r⟩ ?_ ?_
     ·clear m r o C G M J ps
      rintro a e ha l
      refine exS6 e l λo C G M J ps g=>?_
      have m:=g.1
      have r:=g.2
      clear g l
      have a7:0+(a:Int)<0+b:=by lia
      have hL:(kE ps).length<=999999:=by rw[ae0];exact aD0 (m.len (by lia)) (by decide)
      row_cond go
      refine' cutR (R:=∀ bb:Bool,EvS B _ _ [some (.st (.list (ds.map .int))),some (.st (.int spot)),some (.st (.int most)),some (.st (.int n)),some (.st (.int way)),some (.own (OT (kE ps))),o,C,G,some (.st (.int (0+(a:Int)))),some (.st (.int (0+(b:Int)))),some (.st (.int kind)),some (.st (.int cut)),some (.st (.bool bb)),none,none,none,none]) (λR=>?K1) ?K2
      case K1 =>
       refine acp (λ_=>?_) (λ_=>?_)
       ·repeat (first|exact R _|row_cond st)
        refine acp (λ_=>?_) (λ_=>?_)
        ·repeat (first|exact R _|row_cond st)
        ·repeat (first|exact R _|row_cond st)
       ·repeat (first|exact R _|row_cond st)
      case K2 =>
       have U:PsOk n (addP ps (0+(a:Int),0+(b:Int)))/\Tr n (addP ps (0+(a:Int),0+(b:Int))):=⟨m.add (by lia) a7 a6,r.add⟩
       rintro(_|_) <;> row_cond go <;> refine acp (λ_=>?_) (λ_=>?_) <;> row_cond go <;> first|exact⟨_,_,_,_,_,_,rfl,m,r⟩|(refine acp (λ_=>?_) (λ_=>?_) <;> row_cond go <;> first|exact⟨_,_,_,_,_,_,rfl,m,r⟩|(rw[aiq];exact⟨_,_,_,_,_,_,rfl,U.1,U.2⟩))
     ·rintro e l
      refine exS6 e l λo C G M J ps g=>?_
      have m:=g.1
      have r:=g.2
      clear g l
      exact⟨_,_,_,_,_,_,ps,rfl,m,r⟩
    ·clear m r o C G M I ps
     rintro e l
     refine exS7 e l λo C G M I J ps g=>?_
     have m:=g.1
     have r:=g.2
     clear g l
     row_cond go
     refine' cutR (R:=∀ row o S L,Order n row->EvS B _ _ [some (.st (.list (ds.map .int))),some (.st (.int spot)),some (.st (.int most)),some (.st (.int n)),some (.st (.int way)),some (.own (OT (kE ps))),o,C,G,M,I,some (.st (.int kind)),some (.st (.int cut)),J,some (.own (OL (row.map .int))),S,L,none]) (λR=>?K1) ?K2
     case K1 =>
      rw[apm]
      refine acp (λ_=>?_) (λ_=>?_)
      ·refine am0 (λe=>∃ row o S L,e=[some (.st (.list (ds.map .int))),some (.st (.int spot)),some (.st (.int most)),some (.st (.int n)),some (.st (.int way)),some (.own (OT (kE ps))),o,C,G,M,I,some (.st (.int kind)),some (.st (.int cut)),J,some (.own (OL (row.map .int))),S,L,none]/\Order n row) ?_ ?_
       ·row_cond go
        refine aby (λi e=>∃ row left o L,e=[some (.st (.list (ds.map .int))),some (.st (.int spot)),some (.st (.int most)),some (.st (.int n)),some (.st (.int way)),some (.own (OT (kE ps))),o,C,G,M,I,some (.st (.int kind)),some (.st (.int cut)),J,some (.own (OL (row.map .int))),some (.own (OL (left.map .int))),L,none]/\Order n (row++left)/\row.length=i) ⟨[],_,_,_,by rw[apm];rfl,Order.id n,rfl⟩ ?_ ?_
        ·rintro i e hi l
         refine exS4 e l λrow left o L g=>?_
         have O:=g.1
         have a9:=g.2
         clear g l
         have Z:left.length=n.toNat-i:=by have:=O.len;simp at this;lia
         obtain⟨x,ax,xl,xh⟩:=W.at (i:=spot+38+(0+(i:Int)) % 12) (by lia) (by lia)
         iterate 30 (row_cond st)
         have a8:1<=1+(0+(i:Int)) / 12/\1+(0+(i:Int)) / 12<=100:=by lia
         row_cond st
         (generalize 1+(0+(i:Int)) / 12=z12 at a8)
         row_cond st
         row_cond st
         (generalize x / z12=q)
         row_cond go
         rw[aA3]
         have q0:=aE7 q (show(left.length:Int) ≠ 0 by lia)
         have q1:=aE8 q (show 0<(left.length:Int) by lia)
         row_cond go
         (generalize q % (left.length:Int)=j at q0 q1)
         obtain⟨y,hy⟩:∃ y,left[j.toNat]?=some y:=⟨_,aA0 (show j.toNat<left.length by lia)⟩
         refine⟨_,left.map .int,j,j.toNat,.int y,rfl,rfl,.inl rfl,by lia,by lia,a1t q0 (by rw[aA3];exact q1),a1u hy,?_⟩
         rw[akj]
         dsimp only[List.set_cons_zero,List.set_cons_succ,reS]
         row_cond go
         refine⟨_,rfl,by rw[aA3];lia,?_⟩
         refine⟨row++[y],left.eraseIdx j.toNat,_,_,by rw[afy],aqv O hy,by simp;lia⟩
        ·rintro e l
         refine exS4 e l λrow left o L g=>?_
         have O:=g.1
         have a9:=g.2
         clear g l
         have Z:left=[]:=by have:=O.len;simp at this;exact aJ0.mp (by lia)
         subst Z
         rw[aF1] at O
         exact⟨row,_,_,_,rfl,O⟩
       ·rintro e l
        refine exS4 e l λrow o S L g=>?_
        have O:=g
        clear g l
        exact R row o S L O
      ·refine afp ?_
       exact R _ _ _ _ (Order.id n)
     case K2 =>
      clear o
      intro row o S L O
      refine ajh 14 rfl ab3 ?_
      row_cond go
      rw[ayn]
      refine aft (xs:=ps) (fa:=λp=>.int p.1) (fb:=λp=>.int p.2) (λp=>.list [.int (reP row p).1,.int (reP row p).2]) (λ_=>true) rfl (aD0 (m.len (by lia)) (by decide)) ?_ ?_
      ·intro p hp B' hB
       have hq:=m.inn p hp
       have r1:=adm (f:=PyData.int) (O.atI (a:=p.1) (by lia) (by lia))
       have r2:=adm (f:=PyData.int) (O.atI (a:=p.2) (by lia) (by lia))
       refine abx ⟨rfl,rfl,λ_=>?_⟩
       refine ach (akc ?_)
       row_cond go
       refine⟨[aaw row p.1,aaw row p.2],rfl,by simp,λb4 b0 a4=>ab7 ⟨?_,rfl⟩⟩
       rw[aw0 b0 a4]
       unfold reP
       split <;> rfl
      ·rw[acn]
       row_cond go
       refine agj (ps:=ps.map (reP row)) ?_
       row_cond go
       refine ake (xs:=ps) (fa:=λp=>.int (reP row p).1) (fb:=λp=>.int (reP row p).2) (λp=>prD (reP row p)) (λ_=>true) rfl (aD0 (m.len (by lia)) (by decide)) ?_ ?_
       ·intro p hp B' hB
        refine abx ⟨rfl,rfl,λ_=>?_⟩
        row_cond go
        exact rfl
       ·rw[acn]
        row_cond go
        refine⟨by rw[aE0];rfl,λqs hq hs=>ab7 ?_⟩
        row_cond go
        refine k n qs (amz a3 (by lia) (m.re O) hq hs) a2 ?_
        exact Conn.joined ((r.conn.re O).mono λu v h=>(Tied.perm hq).mpr h) (by lia)
end
theorem abj{n:Int}{es:List (Int × Int)}(c:Joined n es){u v:Int}(f:0<=u)(b:u<n)(g:0<=v)(a:v<n):0<=dsF es u v/\Gr.Dist (Tied es) u v (dsF es u v).toNat:=by
 obtain⟨d,e⟩:=aiy c f b g a
 simp only[dsF,e,Option.getD_some]
 exact⟨by lia,by rw[show((d:Nat):Int).toNat=d by lia];exact Gr.farO_some.mp e⟩
theorem atp{es:List (Int × Int)}{u v:Int}{d:Nat}(h:Gr.Dist (Tied es) u v d):dsF es u v=d:=by
 simp only[dsF,Gr.farO_some.mpr h,Option.getD_some]
theorem ans{es a:List (Int × Int)}(h:∀ u v,Tied es u v ↔ Tied a u v):dsF es=dsF a:=by
 have:Tied es=Tied a:=funext λu=>funext λv=>propext (h u v)
 unfold dsF
 rw[this]
theorem ahi{n:Int}{es a:List (Int × Int)}(h:∀ u v,Tied es u v ↔ Tied a u v)(b:Joined n es):Joined n a:=by
 have:Tied es=Tied a:=funext λu=>funext λv=>propext (h u v)
 unfold Joined at *
 rw[← this]
 exact b
theorem tied_snoc{es:List (Int × Int)}{a b u v:Int}:Tied (es++[(a,b)]) u v ↔ Tied es u v\/(u=a/\v=b)\/(u=b/\v=a):=by
 unfold Tied
 simp only[aA7,aC2,Prod.mk.injEq]
 constructor
 ·rintro((h|h)|h|h)
  ·exact .inl (.inl h)
  ·exact .inr (.inl h)
  ·exact .inl (.inr h)
  ·exact .inr (.inr ⟨h.2,h.1⟩)
 ·rintro((h|h)|h|h)
  ·exact .inl (.inl h)
  ·exact .inr (.inl h)
  ·exact .inl (.inr h)
  ·exact .inr (.inr ⟨h.2,h.1⟩)
theorem ad5{T a:Int->Int->Prop}(g:∀ u v,T u v->a u v){u v:Int}{k:Nat}(w:Gr.Walk T u k v):Gr.Walk a u k v:=w.rec .refl λ_ t b=>.step b (g _ _ t)
theorem ady{n:Int}{es c:List (Int × Int)}(a:Joined n es)(b:0<n):Joined n (es++c):=Conn.joined (a.conn.mono λu v t=>t.imp (λz=>aA7.mpr (.inl z)) (λz=>aA7.mpr (.inl z))) b
theorem ah0{n:Int}{es:List (Int × Int)}(c:Joined n es)(b:InN n es){u v w:Int}(f:0<=u)(d:u<n)(t:Tied es v w):dsF es u w<=dsF es u v+1:=by
 have a:=t.in b
 have g:=abj c f d a.1.1 a.1.2
 have h:=abj c f d a.2.1 a.2.2
 have:=h.2.2 _ (.step g.2.1 t)
 lia
theorem aer(es:List (Int × Int))(u:Int):dsF es u u=0:=by rw[atp (Gr.Dist.self _ u)];rfl
theorem ant{n:Int}{es:List (Int × Int)}(a:Joined n es){u c x:Int}(i:0<=u)(h:u<n)(g:0<=c)(b:c<n)(f:0<=x)(d:x<n):dsF es u x<=dsF es u c+dsF es c x:=by
 have j:=abj a i h f d
 have l:=abj a i h g b
 have m:=abj a g b f d
 have:=j.2.2 _ (l.2.1.app m.2.1)
 lia
theorem atq{n a b:Int}{es:List (Int × Int)}(c:Joined n es)(d:InN n es)(a0:0<=a)(a1:a<n)(b0:0<=b)(b1:b<n){u x:Int}(g:0<=u)(f:u<n)(i:0<=x)(h:x<n):dsF (es++[(a,b)]) u x=rwF (dsF es) (dsF es u) a b x:=by
 have q:Joined n (es++[(a,b)]):=ady c (by lia)
 have l:=abj q g f i h
 have j:∀ u v,Tied es u v->Tied (es++[(a,b)]) u v:=λu v t=>tied_snoc.mpr (.inl t)
 have ha:=abj c g f a0 a1
 have hb:=abj c g f b0 b1
 have p:=abj c g f i h
 have o:=abj c a0 a1 i h
 have r:=abj c b0 b1 i h
 have B:=l.2.2 _ (ad5 j p.2.1)
 have A:=l.2.2 _ (Gr.Walk.app (.step (ad5 j ha.2.1) (tied_snoc.mpr (.inr (.inl ⟨rfl,rfl⟩)))) (ad5 j r.2.1))
 have D:=l.2.2 _ (Gr.Walk.app (.step (ad5 j hb.2.1) (tied_snoc.mpr (.inr (.inr ⟨rfl,rfl⟩)))) (ad5 j o.2.1))
 have m:∀(k:Nat)(y:Int),Gr.Walk (Tied (es++[(a,b)])) u k y->0<=y/\y<n/\(dsF es u y<=k\/dsF es u a+1+dsF es b y<=k\/dsF es u b+1+dsF es a y<=k):=by
  intro k y w
  induction w with
  |refl=>exact⟨g,f,.inl (by rw[aer];simp)⟩
  | @step k v y w t s =>
   obtain⟨F,z,s⟩:=s
   rcases tied_snoc.mp t with t|⟨rfl,rfl⟩|⟨rfl,rfl⟩
   ·have s1:=ah0 c d g f t
    have s2:=ah0 c d a0 a1 t
    have C:=ah0 c d b0 b1 t
    have:=t.in d
    exact⟨this.2.1,this.2.2,by push_cast;lia⟩
   ·have:=aer es v
    have:=aer es y
    have:=(abj c b0 b1 a0 a1).1
    exact⟨b0,b1,by push_cast;lia⟩
   ·have:=aer es v
    have:=aer es y
    have:=(abj c a0 a1 b0 b1).1
    exact⟨a0,a1,by push_cast;lia⟩
 have lo:=(m _ x l.2.1).2.2
 have t1:=ant c g f a0 a1 i h
 have E:=ant c g f b0 b1 i h
 unfold rwF
 split <;> split <;> lia
theorem anu{n:Nat}{m f:Int->Int->Int}(h:∀ u x:Int,0<=u->u<n->0<=x->x<n->m u x=f u x){y:Int}(i:aa9 n m y):aa9 n f y:=by
 obtain⟨⟨u,v,d,b,c,a,e⟩,g⟩:=i
 exact⟨⟨u,v,d,b,c,a,by rw[← h u v d b c a,e]⟩,λu v d b c a=>by rw[← h u v d b c a];exact g u v d b c a⟩
theorem azg{n:Int}{es:List (Int × Int)}{p:Int × Int}(h:Joined n es)(b:InN n es)(a0:0<=p.1)(a1:p.1<n)(b0:0<=p.2)(b1:p.2<n){y:Int}:aa9 n.toNat (mW es p) y ↔ aa9 n.toNat (dsF (es++[p])) y:=by
 have a:∀ u x:Int,0<=u->u<(n.toNat:Int)->0<=x->x<(n.toNat:Int)->mW es p u x=dsF (es++[p]) u x:=λu x d g c f=>by
  unfold mW
  rw[atq h b a0 a1 b0 b1 d (by lia) c (by lia)]
 exact⟨anu a,anu λu x d g c f=>(a u x d g c f).symm⟩
theorem adf{n:Int}{row:List Int}(o:Order n row){y:Int}(c:0<=y)(b:y<n):∃ x,0<=x/\x<n/\aaw row x=y:=by
 obtain⟨i,hi⟩:=List.mem_iff_getElem?.mp (o.mem.mpr ⟨c,b⟩)
 have d:=o.len
 have:i<row.length:=(aA1.mp hi).1
 refine⟨(i:Int),by lia,by lia,?_⟩
 have:=(o.at (a:=(i:Int)) (by lia) (by lia)).1
 rw[Int.toNat_natCast,hi] at this
 exact(aC6 this).symm
theorem atr{n:Int}{ps:List (Int × Int)}{row:List Int}(o:Order n row)(d:InN n ps){v y:Int}(j:0<=v)(i:v<n)(t:Tied (ps.map (reP row)) (aaw row v) y):∃ w,0<=w/\w<n/\y=aaw row w/\Tied ps v w:=by
 have inj:∀{a b:Int},0<=a->a<n->0<=b->b<n->aaw row a=aaw row b->a=b:=λa0 a1 b0 b1 e=>by
  apply aD5
  intro h
  exact o.ne a0 a1 b0 b1 h e
 have:∃ p∈ps,(aaw row p.1=aaw row v/\aaw row p.2=y)\/(aaw row p.2=aaw row v/\aaw row p.1=y):=by
  rcases t with t|t
  ·obtain⟨p,c,e⟩:=aB7.mp t
   refine⟨p,c,?_⟩
   unfold reP at e
   split at e
   ·exact .inl ⟨congrArg Prod.fst e,congrArg Prod.snd e⟩
   ·exact .inr ⟨congrArg Prod.fst e,congrArg Prod.snd e⟩
  ·obtain⟨p,c,e⟩:=aB7.mp t
   refine⟨p,c,?_⟩
   unfold reP at e
   split at e
   ·exact .inr ⟨congrArg Prod.snd e,congrArg Prod.fst e⟩
   ·exact .inl ⟨congrArg Prod.snd e,congrArg Prod.fst e⟩
 obtain⟨p,c,h⟩:=this
 have hb:=d p c
 rcases h with ⟨g,f⟩|⟨g,f⟩
 ·have e:=inj hb.1 hb.2.1 j i g
  exact⟨p.2,hb.2.2.1,hb.2.2.2,f.symm,.inl (by rw[← e];exact c)⟩
 ·have e:=inj hb.2.2.1 hb.2.2.2 j i g
  exact⟨p.1,hb.1,hb.2.1,f.symm,.inr (by rw[← e];exact c)⟩
theorem alm{n:Int}{ps:List (Int × Int)}{row:List Int}(o:Order n row)(a:InN n ps)(p:Joined n ps){u v:Int}(l:0<=u)(i:u<n)(j:0<=v)(g:v<n):dsF (ps.map (reP row)) (aaw row u) (aaw row v)=dsF ps u v:=by
 have h:=abj p l i j g
 have r:∀{k:Nat}{y:Int},Gr.Walk (Tied ps) u k y->Gr.Walk (Tied (ps.map (reP row))) (aaw row u) k (aaw row y):=λw=>by
  induction w with
  |refl=>exact .refl
  |step _ t ih=>exact .step ih t.re
 have dn:∀{k:Nat}{y:Int},Gr.Walk (Tied (ps.map (reP row))) (aaw row u) k y->∃ w,0<=w/\w<n/\y=aaw row w/\Gr.Walk (Tied ps) u k w:=λw=>by
  induction w with
  |refl=>exact⟨u,l,i,rfl,.refl⟩
  | step _ t ih =>
   obtain⟨z,b,f,e,w⟩:=ih
   subst e
   obtain⟨q,s,x,e,t'⟩:=atr o a b f t
   exact⟨q,s,x,e,.step w t'⟩
 rw[atp (d:=(dsF ps u v).toNat) ⟨r h.2.1,λk w=>?_⟩]
 ·lia
 ·obtain⟨z,b,f,e,m⟩:=dn w
  have:v=z:=by
   apply aD5
   intro c
   exact o.ne j g b f c e
  subst this
  exact h.2.2 _ m
theorem a1v{n:Int}{ps:List (Int × Int)}{row:List Int}(o:Order n row)(a:InN n ps)(b:Joined n ps){y:Int}:aa9 n.toNat (dsF (ps.map (reP row))) y ↔ aa9 n.toNat (dsF ps) y:=by
 constructor
 ·rintro⟨⟨u,v,f,s,d,m,e⟩,g⟩
  obtain⟨j,a0,a1,rfl⟩:=adf o f (by lia)
  obtain⟨l,b0,b1,rfl⟩:=adf o d (by lia)
  rw[alm o a b a0 a1 b0 b1] at e
  refine⟨⟨j,l,a0,by lia,b0,by lia,e⟩,λp q p0 r c w=>?_⟩
  rw[← alm o a b p0 (by lia) c (by lia)]
  have h:=(o.at p0 (show p<n by lia)).2
  have i:=(o.at c (show q<n by lia)).2
  exact g _ _ h.1 (by lia) i.1 (by lia)
 ·rintro⟨⟨u,v,f,s,d,m,e⟩,g⟩
  have h:=(o.at f (show u<n by lia)).2
  have i:=(o.at d (show v<n by lia)).2
  refine⟨⟨_,_,h.1,by lia,i.1,by lia,by rw[alm o a b f (by lia) d (by lia)];exact e⟩,λp q p0 r c w=>?_⟩
  obtain⟨j,a0,a1,rfl⟩:=adf o p0 (by lia)
  obtain⟨l,b0,b1,rfl⟩:=adf o c (by lia)
  rw[alm o a b a0 a1 b0 b1]
  exact g _ _ a0 (by lia) b0 (by lia)
structure FarOk(n:Int)(es:List (Int × Int))(x a b:Int):Prop where
 top:aa9 n.toNat (dsF es) x
 a0:0<=a
 a1:a<n
 b0:0<=b
 b1:b<n
 eq:dsF es a b=x
 fst:∀ u v:Int,0<=u->u<n->0<=v->v<n->dsF es u v=x->a<u\/(a=u/\b<=v)
def aq9:VP:=λss Q=>∃(n:Int)(es:List (Int × Int)),ss=[.st (webD n es)]/\1<=n/\n<=100/\InN n es/\es.length<=10000/\Joined n es/\∀ x a b,FarOk n es x a b->Q (.st (.tuple [.int x,.int a,.int b]))
theorem anv{ns:List Int}{k:Int}(h:k∈ns):∃ j:Nat,ns[j]?=some k/\∀ m:Nat,m<j->ns[m]? ≠ some k:=by
 induction ns with
 |nil=>simp at h
 | cons n ns ih =>
  by_cases e:n=k
  ·exact⟨0,by rw[e];rfl,λm hm=>by lia⟩
  ·obtain⟨j,a,b⟩:=ih ((aA9.mp h).resolve_left λz=>e z.symm)
   refine⟨j+1,a,λm hm=>?_⟩
   cases m with
   |zero=>simpa using e
   |succ m=>exact b m (by lia)
section
variable{P:Program}{w:World}{K:Frag}{mg:Str->Option Value}{base:Heap}
theorem sc_farthest_two:FnScope ["web","rows","far","a"] ["web"] (aak s_farthest_two):=by row_cond sc
theorem aco(T:Txt K mg):Can P w K mg base "farthest_two" 9 ["web"] (spP K (aq9)):=by
 obtain⟨f,fd,D⟩:=T.d_farthest_two
 refine D.can (D.fn.ok sc_farthest_two (λvs H Q E h=>lenP h λss Q' q=>by obtain⟨n,es,rfl,n0,n1,m,o,W,k⟩:=q;rfl) (λcdv A outer s H vs Q E Y h=>?_))
 have nd:=sc_farthest_two.nd
 refine⟨_,(aad (aan (i:=1) nd rfl (Or.inl rfl) (aal (aep T) Y (aaa (pv 0) aab)))
  (aad (aan (i:=2) nd rfl (Or.inl rfl) (aal (aeq T) Y (aaa (pv 1) aab)))
  (aad (aan (i:=3) nd rfl (Or.inl rfl) (ada PySem.F.plainAttrs_list PySem.F.slot_list_index PySem.F.type_list_index am2 (adb rfl (N:=["row"]) (src:=[none]) (by exact abd rfl rfl rfl rfl rfl rfl) (abm (pv 1)) (λ_ _ _ _=>(aah (i:=0) (show List.Nodup (["row"]:List Str) by decide +kernel) rfl (Or.inl rfl) (hf:=Or.inr rfl))) (λ_ _ _ _=>abc) (λ_ _ _ _=>(aav (show abh _ (.builtin "max") (aie K) from(agf rfl)) (by rfl) T.b_max aga (aaa (pv 0) aab)))) (aaa (pv 2) aab)))
  (aag (aay (abe (aaa (pv 2) (aaa (pv 3) (aaa (ada PySem.F.plainAttrs_list PySem.F.slot_list_index PySem.F.type_list_index am2 (aat aau (pv 1) (pv 3) (λ_ _=>rfl)) (aaa (pv 2) aab)) aab))))))))),?_⟩
 refine aa8 h λss Q' q B hK=>?_
 refine exS2 ss q λn es c=>?_
 have n0:=c.1
 have n1:=c.2.1
 have m:=c.2.2.1
 have o:=c.2.2.2.1
 have W:=c.2.2.2.2.1
 have k:=c.2.2.2.2.2
 clear c q
 show EvS B _ _ [some (.st (webD n es)),none,none,none]
 have hn:1<=n.toNat:=by lia
 obtain⟨y,d⟩:=ajr hn (dsF es)
 row_cond go
 refine⟨n,es,rfl,n0,n1,m,o,W,acs ab3 ?_⟩
 row_cond go
 refine⟨n.toNat,dsF es,rfl,hn,by lia,λx l=>?_⟩
 have I:x∈(List.range n.toNat).map y:=by
  obtain⟨⟨u,v,U,X,v0,v1,e⟩,g⟩:=l
  refine aB7.mpr ⟨u.toNat,aB9.mpr (by lia),?_⟩
  have z:=(d u.toNat).2 (dsF es ((u.toNat:Nat):Int) ((v.toNat:Nat):Int)) (aB7.mpr ⟨v.toNat,aB9.mpr (by lia),rfl⟩)
  rw[show((u.toNat:Nat):Int)=u by lia,show((v.toNat:Nat):Int)=v by lia,e] at z
  obtain⟨j,C,R⟩:=aB7.mp (d u.toNat).1
  have:=g u j U X (by lia) (by have:=aB9.mp C;lia)
  rw[show((u.toNat:Nat):Int)=u by lia] at R
  lia
 obtain⟨a,ha,p⟩:=anv I
 have M:a<n.toNat:=by have:=(aA1.mp ha).1;simpa using this
 have L:y a=x:=by
  rw[aA5,aD9 M] at ha
  simpa using ha
 have S:x∈(List.range n.toNat).map λ(i:Nat)=>dsF es (a:Int) (i:Int):=by rw[← L];exact(d a).1
 obtain⟨b,hb,r⟩:=anv S
 have O:b<n.toNat:=by have:=(aA1.mp hb).1;simpa using this
 have G:dsF es (a:Int) (b:Int)=x:=by
  rw[aA5,aD9 O] at hb
  simpa using hb
 have Z:atI (matD n.toNat (dsF es)) (a:Int)=some (.list (rowD n.toNat (dsF es (a:Int)))):=anh (by lia) (by lia)
 row_cond go
 unfold matD
 refine adu (λu:Nat=>.int (y u)) rfl (by simp;lia) (λu hu B' hB=>?_) ?_
 ·row_cond go
  rw[ahx]
  exact aht (by simp;lia) λx l=>⟨by rw[ani l (d u)],rfl⟩
 ·refine⟨(List.range n.toNat).map y,by rw[aE0];rfl,?_⟩
  row_cond go
  refine⟨x,a,rfl,ha,p,?_⟩
  row_cond go
  refine⟨(List.range n.toNat).map λ(i:Nat)=>dsF es (a:Int) (i:Int),by rw[ahx],?_⟩
  row_cond go
  refine⟨x,b,rfl,hb,r,?_⟩
  row_cond go
  refine k x a b ⟨l,by lia,by lia,by lia,by lia,G,λu v U X v0 v1 e=>?_⟩
  have hu:(a:Int)<=u:=by
   apply aD5
   intro J
   refine p u.toNat (by lia) ?_
   rw[aA5,aD9 (by lia)]
   have z:=(d u.toNat).2 (dsF es ((u.toNat:Nat):Int) ((v.toNat:Nat):Int)) (aB7.mpr ⟨v.toNat,aB9.mpr (by lia),rfl⟩)
   rw[show((u.toNat:Nat):Int)=u by lia,show((v.toNat:Nat):Int)=v by lia,e] at z
   obtain⟨j,C,R⟩:=aB7.mp (d u.toNat).1
   have:=l.2 u j U (by lia) (by lia) (by have:=aB9.mp C;lia)
   rw[show((u.toNat:Nat):Int)=u by lia] at R
   simp only[aI2,Option.some.injEq]
   lia
  by_cases hau:(a:Int)<u
  ·exact .inl hau
  ·refine .inr ⟨by lia,?_⟩
   apply aD5
   intro J
   refine r v.toNat (by lia) ?_
   rw[aA5,aD9 (by lia)]
   simp only[aI2,Option.some.injEq]
   rw[show((v.toNat:Nat):Int)=v by lia,show(a:Int)=u by lia]
   exact e
end
theorem ats{m:Int->Int->Int}{fs:List (Int × Int)}:∀(us:List (Int × Int)){j:Nat}{x:FI},x∈lvF m fs j->us.Sublist x.ls->∃ y,y∈lvF m fs (j+us.length)/\y.ts=x.ts++us
 |[],j,x,hx,_=>⟨x,hx,by simp⟩
 | p::us,j,x,hx,hs=>by
  obtain⟨n,b,e,i,f⟩:=List.cons_sublist_iff.mp hs
  obtain⟨s,t,g⟩:=List.append_of_mem i
  have a:x.ls=s++p::(t++b):=by rw[e,g];simp
  have hi:s.length<x.ls.length:=by rw[a];simp
  have h:x.ls.getD s.length (0,0)=p:=by rw[adw _ hi];simp[a]
  have d:x.ls.drop (s.length+1)=t++b:=by rw[a,List.drop_append];simp
  have hm:nxF x s.length∈lvF m fs (j+1):=List.mem_flatMap.mpr ⟨x,hx,aB7.mpr ⟨s.length,aB9.mpr hi,rfl⟩⟩
  obtain⟨y,c,l⟩:=ats us hm (by show us.Sublist (x.ls.drop (s.length+1));rw[d];exact f.trans (List.sublist_append_right _ _))
  refine⟨y,by rw[aE6,show j+(us.length+1)=j+1+us.length by lia];exact c,?_⟩
  rw[l]
  show x.ts++[x.ls.getD s.length (0,0)]++us=_
  rw[h];simp
theorem aw1{m:Int->Int->Int}{fs:List (Int × Int)}{x:FI}:∀{k j:Nat},j<=k->x∈lvF m fs j->x∈trF m fs k
 | 0,j,hj,hx=>by
  have:j=0:=by lia
  subst this;exact hx
 | k+1,j,hj,hx=>by
  by_cases e:j=k+1
  ·subst e;exact aA7.mpr (.inr hx)
  ·exact aA7.mpr (.inl (aw1 (by lia) hx))
theorem a1w{m:Int->Int->Int}{fs us:List (Int × Int)}{k:Nat}(hs:us.Sublist fs)(c:us.length<=k):∃ y,y∈trF m fs k/\y.ts=us:=by
 obtain⟨y,a,b⟩:=ats (m:=m) (fs:=fs) us (j:=0) (x:=⟨[],fs,m⟩) (aC2.mpr rfl) hs
 exact⟨y,aw1 (by lia) a,by simpa using b⟩
theorem anw{m:Int->Int->Int}{fs:List (Int × Int)}{x y:FI}:∀{k i j:Nat},(trF m fs k)[i]?=some x->(trF m fs k)[j]?=some y->y.ts.length<x.ts.length->j<i
 | 0,i,j,hx,hy,hl=>by
  have f:=(aeb (j:=0) (aA2 hx)).2.1
  lia
 | k+1,i,j,hx,hy,hl=>by
  have c:(trF m fs k++lvF m fs (k+1))[i]?=some x:=hx
  have b:(trF m fs k++lvF m fs (k+1))[j]?=some y:=hy
  by_cases hi:i<(trF m fs k).length
  ·rw[aC3 hi] at c
   by_cases hj:j<(trF m fs k).length
   ·rw[aC3 hj] at b
    exact anw c b hl
   ·rw[aC8 (by lia)] at b
    have f:=(aeb (aA2 b)).2.1
    obtain⟨a,ha,d⟩:=aq7 (aA2 c)
    have g:=(aeb d).2.1
    lia
  ·by_cases hj:j<(trF m fs k).length
   ·lia
   ·rw[aC8 (by lia)] at c b
    have f:=(aeb (aA2 c)).2.1
    have g:=(aeb (aA2 b)).2.1
    lia
structure FewOk(n:Int)(es fs:List (Int × Int))(k x:Int)(ts:List (Int × Int)):Prop where
 sub:ts.Sublist fs
 len:(ts.length:Int)<=k
 top:aa9 n.toNat (dsF (es++ts)) x
 min:∀ us y,us.Sublist fs->(us.length:Int)<=k->aa9 n.toNat (dsF (es++us)) y->x<=y/\(us.length<ts.length->x<y)
theorem ara{n:Int}{m q:Int->Int->Int}{p:Int × Int}(h:Agree n m q)(p0:0<=p.1)(f:p.1<n)(i:0<=p.2)(g:p.2<n):Agree n (wF m p) (wF q p):=λu v d b c a=>by
 unfold wF rwF
 rw[h u p.1 d b p0 f,h u p.2 d b i g,h u v d b c a,h p.1 v p0 f c a,h p.2 v i g c a]
theorem akk{n:Int}(l:1<=n):∀{ts es:List (Int × Int)}{m:Int->Int->Int},Joined n es->InN n es->InN n ts->Agree n m (dsF es)->Agree n (ts.foldl wF m) (dsF (es++ts))
 |[],es,m,_,_,_,h=>by rw[aF1];exact h
 | p::ts,es,m,hJ,hin,ht,h=>by
  have c:=ht p (by simp)
  rw[show es++p::ts=(es++[p])++ts by simp]
  refine akk l (ady hJ (by lia)) (λq d=>?_) (λq d=>ht q (aB5 _ d)) ?_
  ·rcases aA7.mp d with d|d
   ·exact hin q d
   ·rw[aC2.mp d];exact c
  ·intro u v j g i f
   rw[ara h c.1 c.2.1 c.2.2.1 c.2.2.2 u v j g i f]
   exact(atq (a:=p.1) (b:=p.2) hJ hin c.1 c.2.1 c.2.2.1 c.2.2.2 j g i f).symm
theorem FreeAll.inN{n:Int}{es fs us:List (Int × Int)}(h:FreeAll n es fs)(hs:us.Sublist fs):InN n us:=λp a=>by
 have:=(h.mem p).mp (hs.subset a)
 lia
theorem anx{n:Int}{es fs:List (Int × Int)}{k:Nat}{y:FI}(h:1<=n)(b:1<=n.toNat)(d:Joined n es)(a:InN n es)(i:FreeAll n es fs)(c:y∈trF (dsF es) fs k):y.ts.Sublist fs/\y.ts.length<=k/\aa9 n.toNat (dsF (es++y.ts)) (tpM n.toNat b y.m):=by
 obtain⟨j,o,hm⟩:=aq7 c
 obtain⟨f,l,g⟩:=aeb hm
 have hs:y.ts.Sublist fs:=(List.sublist_append_left _ _).trans f
 refine⟨hs,by lia,Agree.top ?_ (ap0 b y.m)⟩
 rw[g,show((n.toNat:Nat):Int)=n by lia]
 exact akk h d a (i.inN hs) λ_ _ _ _ _ _=>rfl
theorem anz{n k:Int}{es fs:List (Int × Int)}{i:Nat}{x:FI}(p:1<=n)(a:1<=n.toNat)(D:0<=k)(o:Joined n es)(b:InN n es)(q:FreeAll n es fs)(d:(trF (dsF es) fs k.toNat)[i]?=some x)(hm:adr ((trF (dsF es) fs k.toNat).map λy=>tpM n.toNat a y.m) i):FewOk n es fs k (tpM n.toNat a x.m) x.ts:=by
 obtain⟨u,B,v⟩:=anx p a o b q (aA2 d)
 have hi:i<(trF (dsF es) fs k.toNat).length:=(aA1.mp d).1
 have r:((trF (dsF es) fs k.toNat).map λy=>tpM n.toNat a y.m).getD i 0=tpM n.toNat a x.m:=by
  rw[aD4,aA5,d];rfl
 refine⟨u,by lia,v,λus y A C s=>?_⟩
 obtain⟨z,hz,l⟩:=a1w (m:=dsF es) (k:=k.toNat) A (by lia)
 obtain⟨j,g⟩:=List.mem_iff_getElem?.mp hz
 have h:j<(trF (dsF es) fs k.toNat).length:=(aA1.mp g).1
 have w:((trF (dsF es) fs k.toNat).map λy=>tpM n.toNat a y.m).getD j 0=tpM n.toNat a z.m:=by
  rw[aD4,aA5,g];rfl
 have c:=(anx p a o b q hz).2.2
 rw[l] at c
 have hf:=hm j (by rw[aA3];exact h)
 rw[r,w,ac0 c s] at hf
 exact⟨hf.1,λf=>hf.2 (anw d g (by rw[l];exact f))⟩
theorem av8{fs us:List (Int × Int)}(hf:Rise fs)(b:Rise us)(h:∀ p∈us,p∈fs):us.Sublist fs:=by
 have e:us=fs.filter λp=>decide (p∈us):=b.eq (hf.filter _) λp=>by
  rw[aE2,decide_eq_true_eq]
  exact⟨λa=>⟨h p a,a⟩,λa=>a.2⟩
 rw[e]
 exact List.filter_sublist
def arb:VP:=λss Q=>∃(n k far:Int)(es fs ts:List (Int × Int))(xs:List Int),ss=[.st (webD n es),.st (.int k),.st (.tuple [.int far,.list (ts.map prD)]),.st (.list (xs.map .int))]/\WebOk n es/\n<=8/\Joined n es/\FreeAll n es fs/\FewOk n es fs k far ts/\1<=k/\k<=3/\(∀ x∈xs,0<=x/\x<10007)/\xs.length<=100/\Q (.st (.bool true))
theorem att(ts:List (Int × Int)):(PyData.list (ts.map prD)).depth<=60:=by
 have:=ais ts
 simp only[PyData.depth]
 lia
theorem afz{n:Int}{es fs us:List (Int × Int)}(d:WebOk n es)(b:FreeAll n es fs)(hs:us.Sublist fs):PutOk n es us:=by
 refine⟨λp a=>?_,aE9.mpr ⟨d.ps.nd,b.rise.nodup.sublist hs,λp a q c e=>?_⟩⟩
 ·have:=(b.mem p).mp (hs.subset a)
  lia
 ·exact((b.mem q).mp (hs.subset c)).2.2.2 (e ▸ a)
theorem a1x(ls:List (Int × Int)){i:Nat}(h:i<ls.length):cutD (ls.map prD) none (some (0+(i:Int)))=(ls.take i).map prD:=by
 unfold cutD
 rw[aA3,HT.sIx_none,Int.zero_add,HT.sIx_nat,show min i ls.length=i by lia,List.drop_zero,Nat.sub_zero,← List.map_take]
structure WithOk(n:Int)(es us ps:List (Int × Int)):Prop where
 web:WebOk n ps
 jn:Joined n ps
 ds:dsF ps=dsF (es++us)
theorem ajt{n:Int}{es fs us ps:List (Int × Int)}(a:WebOk n es)(c:Joined n es)(f:FreeAll n es fs)(hs:us.Sublist fs)(g:Rise ps)(b:ps.Perm (es++us)):WithOk n es us ps:=by
 have d:=afz a f hs
 refine⟨⟨a.lo,a.hi,λp h=>?_,g⟩,ahi (λu v=>(Tied.perm b).symm) (ady c (by have:=a.lo;lia)),ans λu v=>Tied.perm b⟩
 rcases aA7.mp (b.mem_iff.mp h) with h|h
 ·exact a.inn p h
 ·exact d.inn p h
section
variable{P:Program}{w:World}{K:Frag}{mg:Str->Option Value}{base:Heap}
theorem sc_law_one_right:FnScope ["web","k","told","d","far","ties","free","at","x","some","j"] ["web","k","told","d"] (aak s_law_one_right):=by row_cond sc
theorem ahc(T:Txt K mg):Can P w K mg base "_law_one_right" 10 ["web","k","told","d"] (spP K (arb)):=by
 obtain⟨f,fd,D⟩:=T.d_law_one_right
 refine D.can (D.fn.ok sc_law_one_right (λvs H Q E h=>lenP h λss Q' q=>by obtain⟨n,k,far,es,fs,ts,xs,rfl,y,a4,hJ,u,v,k0,k3,X,c2,kk⟩:=q;rfl) (λcdv A outer s H vs Q E o h=>?_))
 have nd:=sc_law_one_right.nd
 refine⟨_,(aad (adj (pv 2) (ab2 rfl (aas (aah (i:=4) nd rfl (Or.inl rfl)) (aas (aah (i:=5) nd rfl (Or.inl rfl)) abf))))
  (aad (aan (i:=6) nd rfl (Or.inr rfl) (aal (anr T) o (aaa (pv 0) aab)))
  (aad (abw (PW.pt (ak9 (aa4 ah3 (aav abz (by rfl) T.b_len adg (aaa (pv 5) aab)) (pv 1) (aa2 _)) (ah1 (aa4 (aib o.units) (pv 5) (aav (ahh rfl) (by rfl) T.b_sorted acv (aaa (ad0 (call_setT rfl o.units) (by rfl) T.b_set ar6 (aaa (pv 5) aab)) aab)) (aa2 _)))))
   (aag (aay ac1))
   abb)
  (aad (abw (aa4 (aib o.units) (adb rfl (N:=["tie","free"]) (src:=[none,some 6]) (by exact abd rfl rfl rfl rfl rfl rfl) (abm (pv 5)) (λ_ _ _ _=>(aah (i:=0) (show List.Nodup (["tie","free"]:List Str) by decide +kernel) rfl (Or.inl rfl) (hf:=Or.inr rfl))) (λ_ _ _ _=>aor (aa4 (aey o.units) (pv 0) (pv 1) rfl)) (λ_ _ _ _=>(pv 0))) (abi aab) (aa2 _))
   (aag (aay ac1))
   abb)
  (aad (abw (aa4 awh (aat aau (aal (aco T) o (aaa (aal (ad7 T) o (aaa (pv 0) (aaa (pv 5) aab))) aab)) aac (λ_ _=>rfl)) (pv 4) (aa2 _))
   (aag (aay ac1))
   abb)
  (aad (abr aJ8 rfl (aba rfl T.b_range (aaa (aav abz (by rfl) T.b_len adg (aaa (pv 5) aab)) aab)) (aah (i:=7) nd rfl (Or.inl rfl))
   (aag (abw (aa4 agt (aat aau (aal (aco T) o (aaa (aal (ad7 T) o (aaa (pv 0) (aaa (aae alz (aek ae9 (pv 5) agu (aec (pv 7))) (aek ae9 (pv 5) (aec (aae aax (pv 7) aac)) agu)) aab))) aab)) aac (λ_ _=>rfl)) (pv 4) (aa2 _))
     (aag (aay ac1))
     abb)))
  (aad (abr aJ8 rfl (abm (pv 3)) (aah (i:=8) nd rfl (Or.inl rfl))
   (aad (aan (i:=9) nd rfl (Or.inl rfl) (abi aab))
    (aad (abr aJ8 rfl (aba rfl T.b_range (aaa (aae ace (pv 1) (ad0 ah8 (by rfl) T.b_int al5 (aaa (ac9 (aib o.units) (pv 6) (abi aab) (aa2 _)) aab))) aab)) (aah (i:=10) nd rfl (Or.inl rfl))
     (aag (abv (ada PySem.F.plainAttrs_list PySem.F.slot_list_append PySem.F.type_list_append abk (pv 9) (aaa (aat aau (pv 6) (aae aa0 (aae ab4 (pv 8) (aae aax aac (aae ace aac (pv 10)))) (aav abz (by rfl) T.b_len adg (aaa (pv 6) aab))) (λ_ _=>rfl)) aab)))))
    (aad (aan (i:=9) nd rfl (Or.inl rfl) (aav (ahh rfl) (by rfl) T.b_sorted acv (aaa (ad0 (call_setT rfl o.units) (by rfl) T.b_set ar6 (aaa (pv 9) aab)) aab)))
    (aag (abw (aa4 aet (aat aau (aal (aco T) o (aaa (aal (ad7 T) o (aaa (pv 0) (aaa (pv 9) aab))) aab)) aac (λ_ _=>rfl)) (pv 4) (aa2 _))
     (aag (aay ac1))
     abb))))))
  (aag (aay ac1))))))))),?_⟩
 refine aa8 h λss Q' q B hK=>?_
 refine exS7 ss q λn k far es fs ts xs a=>?_
 have y:=a.1
 have a4:=a.2.1
 have hJ:=a.2.2.1
 have u:=a.2.2.2.1
 have v:=a.2.2.2.2.1
 have k0:=a.2.2.2.2.2.1
 have k3:=a.2.2.2.2.2.2.1
 have X:=a.2.2.2.2.2.2.2.1
 have c2:=a.2.2.2.2.2.2.2.2.1
 have kk:=a.2.2.2.2.2.2.2.2.2
 clear a q
 show EvS B _ _ [some (.st (webD n es)),some (.st (.int k)),some (.st (.tuple [.int far,.list (ts.map prD)])),some (.st (.list (xs.map .int))),none,none,none,none,none,none,none]
 have M:=y.lo
 have d2:=y.len
 have d9:=ano u a4
 have d4:=v.len
 row_cond go
 refine⟨n,es,rfl,by lia,by lia,λe0 c0=>acs ab3 ?_⟩
 obtain rfl:=u.eq c0
 row_cond go
 have a5:Rise ts:=u.rise.sublist v.sub
 refine agw (by rw[aA3];lia) ?_
 repeat (first|(refine ach (aix ?_))|row_cond st)
 refine⟨ts,rfl,by lia,λqs nd hm hs=>ab7 ?_⟩
 obtain rfl:qs=ts:=(ag5 (.refl _) nd hs).eq a5 hm
 refine ag2 (ab8 qs) (ab8 qs) (att qs) ?_
 row_cond go
 rw[amx (d:=.list (qs.map prD)) (ab8 qs)]
 row_cond go
 refine atf (xs:=qs) (f:=prD) prD (λ_=>false) rfl (by lia) (λp Z B' hB=>?_) ?_
 ·row_cond go
  refine ag3 (agk p) (ab8 fs) (aD0 (ae1 p) (by decide)) ?_
  rw[aF6 rfl,ajl,aD8 (v.sub.subset Z)]
  row_cond go
  exact λh=>nomatch h
 ·rw [show(qs.filter λ_=>false)=[] by simp]
  row_cond go
  refine ag2 rfl rfl (by decide) ?_
  rw[show PyData.eqv (.list (List.map prD [])) (.list [])=true from rfl]
  row_cond go
  refine⟨n,es,qs,rfl,by lia,by lia,afz y u v.sub,λc8 c7 a9=>alk ?_⟩
  have C:=ajt y hJ u v.sub c7 a9
  have d8:=C.web.len
  row_cond go
  refine⟨n,c8,rfl,M,by lia,C.web.in,by lia,C.jn,λJ a1 b1 c3=>?_⟩
  obtain rfl:J=far:=ac0 (by rw[← C.ds];exact c3.top) v.top
  row_cond go
  rw[aA3]
  row_cond go
  refine aby (λi e=>∃ U,e=[some (.st (webD n es)),some (.st (.int k)),some (.st (.tuple [.int J,.list (qs.map prD)])),some (.st (.list (xs.map .int))),some (.st (.int J)),some (.st (.list (qs.map prD))),some (.st (.list (fs.map prD))),U,none,none,none]) ⟨_,rfl⟩ ?_ ?_
  ·rintro i e hi b
   refine exE1 e b λU=>?_
   clear b
   have O:i<qs.length:=by lia
   row_cond go
   rw[a1x _ O,show 0+(i:Int)+1=(i:Int)+1 by lia,anp _ O]
   refine apc (by rw[aA3,aA3,aH1,aI8];lia) (ab7 ?_)
   rw[← aE5,← List.eraseIdx_eq_take_drop_succ]
   have l:(qs.eraseIdx i).Sublist fs:=(List.eraseIdx_sublist _ _).trans v.sub
   have b8:(qs.eraseIdx i).length=qs.length-1:=by rw[List.length_eraseIdx];simp[O]
   row_cond go
   refine⟨n,es,qs.eraseIdx i,rfl,by lia,by lia,afz y u l,λb4 c4 c5=>alk ?_⟩
   have G:=ajt y hJ u l c4 c5
   have d3:=G.web.len
   row_cond go
   refine⟨n,b4,rfl,M,by lia,G.web.in,by lia,G.jn,λx2 a2 b2 b6=>?_⟩
   have d5:=(v.min _ x2 l (by lia) (by rw[← G.ds];exact b6.top)).2 (by lia)
   row_cond go
   exact⟨_,rfl⟩
  ·rintro e b
   refine exE1 e b λU=>?_
   clear b
   row_cond go
   refine afr (λi e=>∃ v8 v9 g,e=[some (.st (webD n es)),some (.st (.int k)),some (.st (.tuple [.int J,.list (qs.map prD)])),some (.st (.list (xs.map .int))),some (.st (.int J)),some (.st (.list (qs.map prD))),some (.st (.list (fs.map prD))),U,v8,v9,g]) ⟨_,_,_,rfl⟩ ?_ ?_
   ·rintro i x e hx b
    refine exE3 e b λv8 v9 g=>?_
    clear b
    have d0:=X x (aA2 hx)
    refine aap ?_
    dsimp only[List.set_cons_zero,List.set_cons_succ]
    row_cond go
    refine ag2 (ab8 fs) rfl (att fs) ?_
    obtain⟨c,hc,c1⟩:∃ c:Bool,(!PyData.eqv (.list (fs.map prD)) (.list []))=c/\(c=true->fs ≠ []):=by
     cases fs with
     |nil=>exact⟨false,rfl,λh=>nomatch h⟩
     |cons p r=>exact⟨true,rfl,λ_ h=>nomatch h⟩
    rw[hc]
    row_cond go
    obtain⟨m,b9,m0,mk,b7⟩:∃ m:Int,(k * if c=true then 1 else 0)=m/\0<=m/\m<=k/\(0<m->0<fs.length):=by
     refine⟨_,rfl,by split <;> lia,by split <;> lia,λh=>aG0.mpr (c1 ?_)⟩
     cases c with
     |true=>rfl
     |false=>simp at h
    rw[b9]
    row_cond go
    refine aby (λj e=>∃ I g,e=[some (.st (webD n es)),some (.st (.int k)),some (.st (.tuple [.int J,.list (qs.map prD)])),some (.st (.list (xs.map .int))),some (.st (.int J)),some (.st (.list (qs.map prD))),some (.st (.list (fs.map prD))),U,some (.st (.int x)),some (.own (OL (I.map prD))),g]/\I.length=j/\∀ p∈I,p∈fs) ⟨[],_,rfl,rfl,λp h=>absurd h aI4⟩ ?_ ?_
    ·rintro j e hj b
     refine exS2 e b λI g a=>?_
     have W:=a.1
     have L:=a.2
     clear a b
     have d6:=b7 (by lia)
     have d1:CDiv x (1+40 * (0+(j:Int))):=⟨by lia,by lia⟩
     have R:(0:Int)<((fs.map prD).length:Int):=by rw[aA3];lia
     have q0:=aE7 (x / (1+40 * (0+(j:Int)))) (show((fs.map prD).length:Int) ≠ 0 by lia)
     have q1:=aE8 (x / (1+40 * (0+(j:Int)))) R
     rw[aA3] at q0 q1 R
     obtain⟨p,a0⟩:∃ p,fs[(x / (1+40 * (0+(j:Int))) % (fs.length:Int)).toNat]?=some p:=⟨_,aA0 (show(x / (1+40 * (0+(j:Int))) % (fs.length:Int)).toNat<fs.length by lia)⟩
     have d7:atI (fs.map prD) (x / (1+40 * (0+(j:Int))) % (fs.length:Int))=some (prD p):=adm (f:=prD) (afu q0 a0)
     iterate 25 row_cond st
     rw[aA3]
     row_cond go
     refine⟨I++[p],_,by rw[aE5];rfl,by rw[aB1,W];rfl,λq S=>?_⟩
     rcases aA7.mp S with S|S
     ·exact L q S
     ·rw[aC2.mp S];exact aA2 a0
    ·rintro e b
     refine exS2 e b λI g a=>?_
     have W:=a.1
     have L:=a.2
     clear a b
     repeat (first|(refine aix ?_)|row_cond st)
     refine⟨I,rfl,by lia,λus nd Y a6=>acs ab3 ?_⟩
     have a8:=ag5 (.refl _) nd a6
     have l:us.Sublist fs:=av8 u.rise a8 λp Z=>L p ((Y p).mp Z)
     have b8:us.length<=I.length:=ag6 nd λp Z=>(Y p).mp Z
     row_cond go
     refine⟨n,es,us,rfl,by lia,by lia,afz y u l,λa7 b5 c6=>alk ?_⟩
     have z:=ajt y hJ u l b5 c6
     have c9:=z.web.len
     row_cond go
     refine⟨n,a7,rfl,M,by lia,z.web.in,by lia,z.jn,λx3 a3 b3 b0=>?_⟩
     have e1:=(v.min _ x3 l (by lia) (by rw[← z.ds];exact b0.top)).1
     row_cond go
     exact⟨_,_,_,rfl⟩
   ·rintro e b
    refine exE3 e b λv8 v9 g=>?_
    clear b
    row_cond go
    exact kk
end
structure ReOk(n:Int)(es qs:List (Int × Int))(row:List Int):Prop where
 ord:Order n row
 perm:qs.Perm (es.map (reP row))
theorem a1y{n:Int}{row:List Int}(f:Order n row){p:Int × Int}(a:0<=p.1)(d:p.1<p.2)(b:p.2<n):0<=(reP row p).1/\(reP row p).1<(reP row p).2/\(reP row p).2<n :=
 (PsOk.re (ps:=[p]) ⟨by simp,λq c=>by rw[aC2.mp c];exact⟨a,d,b⟩⟩ f).inn _ (by simp)
theorem atu{n:Int}{row:List Int}(i:Order n row){p q:Int × Int}(p0:0<=p.1)(j:p.1<p.2)(p2:p.2<n)(f:0<=q.1)(l:q.1<q.2)(g:q.2<n)(e:reP row p=reP row q):p=q:=by
 have inj:∀{a b:Int},0<=a->a<n->0<=b->b<n->aaw row a=aaw row b->a=b:=λa0 a1 b0 b1 e=>by
  apply aD5
  intro h
  exact i.ne a0 a1 b0 b1 h e
 unfold reP at e
 split at e <;> split at e <;> have c:=congrArg Prod.fst e <;> have d:=congrArg Prod.snd e <;> simp only at c d
 ·exact Prod.ext (inj p0 (by lia) f (by lia) c) (inj (by lia) p2 (by lia) g d)
 ·have:=inj p0 (by lia) (by lia) g c
  have:=inj (by lia) p2 f (by lia) d
  lia
 ·have:=inj (by lia) p2 f (by lia) c
  have:=inj p0 (by lia) (by lia) g d
  lia
 ·exact Prod.ext (inj p0 (by lia) f (by lia) d) (inj (by lia) p2 (by lia) g c)
theorem azh{n:Int}{es qs fs d:List (Int × Int)}{row:List Int}(i:WebOk n es)(h:ReOk n es qs row)(j:FreeAll n es fs)(f:FreeAll n qs d){p:Int × Int}(g:p∈fs):reP row p∈d:=by
 have a:=(j.mem p).mp g
 have c:=a1y h.ord a.1 a.2.1 a.2.2.1
 refine(f.mem _).mpr ⟨c.1,c.2.1,c.2.2,λhm=>?_⟩
 obtain⟨q,b,e⟩:=aB7.mp (h.perm.mem_iff.mp hm)
 have hi:=i.inn q b
 have:=atu h.ord hi.1 hi.2.1 hi.2.2 a.1 a.2.1 a.2.2.1 e
 exact a.2.2.2 (this ▸ b)
theorem azi{n:Int}{es qs fs i:List (Int × Int)}{row:List Int}(h:ReOk n es qs row)(m:FreeAll n es fs)(j:FreeAll n qs i){t:Int × Int}(c:t∈i):∃ p,p∈fs/\reP row p=t:=by
 have c:=(j.mem t).mp c
 obtain⟨a,a0,a1,g⟩:=adf h.ord c.1 (by lia)
 obtain⟨b,b0,b1,f⟩:=adf h.ord (show 0<=t.2 by lia) c.2.2.1
 have l:a ≠ b:=λe=>by rw[e,f] at g;lia
 have d:reP row (if a<b then (a,b) else (b,a))=t:=by
  unfold reP
  split
  ·simp only[g,f]
   rw[aF6 c.2.1]
  ·simp only[g,f]
   rw[aF7 (by lia)]
 refine⟨_,(m.mem _).mpr ⟨?_,?_,?_,λhm=>?_⟩,d⟩
 ·split <;> assumption
 ·split <;> simp only <;> lia
 ·split <;> assumption
 ·exact c.2.2.2 (h.perm.mem_iff.mpr (aB7.mpr ⟨_,hm,d⟩))
theorem av9{as bs:List (Int × Int)}(h:∀ p,p∈as ↔ p∈bs)(u v:Int):Tied as u v ↔ Tied bs u v:=or_congr (h _) (h _)
theorem atv{n y:Int}{es qs us vs:List (Int × Int)}{row:List Int}(b:InN n es)(c:Joined n es)(g:1<=n)(h:ReOk n es qs row)(d:InN n us)(f:∀ p,p∈vs ↔ p∈us.map (reP row)):aa9 n.toNat (dsF (qs++vs)) y ↔ aa9 n.toNat (dsF (es++us)) y:=by
 have e:dsF (qs++vs)=dsF ((es++us).map (reP row)):=ans λu v=>av9 (λp=>by
  rw[aE5,aA7,aA7,f,h.perm.mem_iff]) u v
 rw[e]
 refine a1v h.ord (λp a=>?_) (ady c (by lia))
 rcases aA7.mp a with a|a
 ·exact b p a
 ·exact d p a
theorem a1z{n k x y:Int}{es qs fs r ts us:List (Int × Int)}{row:List Int}(m:WebOk n es)(w:Joined n es)(h:ReOk n es qs row)(f:FreeAll n es fs)(o:FreeAll n qs r)(g:FewOk n es fs k x ts)(l:FewOk n qs r k y us):x=y:=by
 have v:=m.lo
 have C:y<=x:=by
  let vs:=r.filter λp=>decide (p∈ts.map (reP row))
  have i:∀ p,p∈vs ↔ p∈ts.map (reP row):=λp=>by
   rw[aE2,decide_eq_true_eq]
   refine⟨λz=>z.2,λz=>⟨?_,z⟩⟩
   obtain⟨q,j,rfl⟩:=aB7.mp z
   exact azh m h f o (g.sub.subset j)
  have A:vs.length<=ts.length:=by
   have:=ag6 (bs:=ts.map (reP row)) (o.rise.nodup.sublist (List.filter_sublist (p:=λp=>decide (p∈ts.map (reP row))))) λp d=>(i p).mp d
   rw[aA3] at this
   exact this
  have:=g.len
  exact(l.min vs x List.filter_sublist (by lia) ((atv m.in w v h (f.inN g.sub) i).mpr g.top)).1
 have B:x<=y:=by
  let vs:=fs.filter λp=>decide (reP row p∈us)
  have c:vs.Sublist fs:=List.filter_sublist
  have i:∀ p,p∈us ↔ p∈vs.map (reP row):=λp=>by
   constructor
   ·intro d
    obtain⟨q,j,rfl⟩:=azi h f o (l.sub.subset d)
    exact aB7.mpr ⟨q,aE2.mpr ⟨j,aD8 d⟩,rfl⟩
   ·intro d
    obtain⟨q,j,rfl⟩:=aB7.mp d
    exact of_decide_eq_true (aE2.mp j).2
  have A:vs.length<=us.length:=by
   have u:(vs.map (reP row)).Nodup:=by
    rw[List.Nodup,aG2]
    refine aI1 (λ{a b} ha hb s e=>s ?_) (f.rise.nodup.sublist c)
    have ia:=(f.mem a).mp (c.subset ha)
    have ib:=(f.mem b).mp (c.subset hb)
    exact atu h.ord ia.1 ia.2.1 ia.2.2.1 ib.1 ib.2.1 ib.2.2.1 e
   have:=ag6 u λp d=>(i p).mpr d
   rw[aA3] at this
   exact this
  have:=l.len
  exact(g.min vs y c (by lia) ((atv m.in w v h (f.inN c) i).mp l.top)).1
 lia
def af0(n:Int)(es fs:List (Int × Int))(x:Int)(ts:List (Int × Int)):Prop:=∀ p,ts=[p]->∀ q∈fs,ltP q p->∀ y,aa9 n.toNat (dsF (es++[q])) y->x<y
theorem atw{n:Int}{es fs:List (Int × Int)}{i:Nat}{x:FI}(B:1<=n)(d:1<=n.toNat)(w:Joined n es)(h:InN n es)(r:FreeAll n es fs)(f:(trF (dsF es) fs 1)[i]?=some x)(hm:adr ((trF (dsF es) fs 1).map λy=>tpM n.toNat d y.m) i):af0 n es fs (tpM n.toNat d x.m) x.ts:=by
 intro p o q D c y u
 have j:trF (dsF es) fs 1=⟨[],fs,dsF es⟩::(List.range fs.length).map (nxF ⟨[],fs,dsF es⟩):=by
  show lvF (dsF es) fs 0++(lvF (dsF es) fs 0).flatMap moF=_
  simp[lvF,moF]
 have at1:∀ a,a<fs.length->(trF (dsF es) fs 1)[a+1]?=some (nxF ⟨[],fs,dsF es⟩ a):=λa ha=>by
  rw[j,List.getElem?_cons_succ,aA5,aD9 ha];rfl
 cases i with
 | zero =>
  rw[j] at f
  cases f
  cases o
 | succ a =>
  have ha:a<fs.length:=by
   have:=(aA1.mp f).1
   rw[j] at this
   simpa using this
  rw[at1 a ha] at f
  cases f
  have ep:fs.getD a (0,0)=p:=by
   have:[]++[fs.getD a (0,0)]=[p]:=o
   simpa using this
  rw[adw _ ha] at ep
  obtain⟨b,hb,l⟩:=List.getElem_of_mem D
  have A:b<a:=by
   rcases Nat.lt_trichotomy b a with z|z|z
   ·exact z
   ·subst z
    rw[l] at ep
    rw[ep] at c
    exact absurd c (adq p)
   ·have:=aG8.mp r.rise a b ha hb z
    rw[ep,l] at this
    exact absurd (aip c this) (adq q)
  have hz:=at1 b hb
  have s:((trF (dsF es) fs 1).map λy=>tpM n.toNat d y.m).getD (a+1) 0=tpM n.toNat d (nxF ⟨[],fs,dsF es⟩ a).m:=by
   rw[aD4,aA5,at1 a ha];rfl
  have C:((trF (dsF es) fs 1).map λy=>tpM n.toNat d y.m).getD (b+1) 0=tpM n.toNat d (nxF ⟨[],fs,dsF es⟩ b).m:=by
   rw[aD4,aA5,hz];rfl
  have g:=(anx B d w h r (aA2 hz)).2.2
  have v:(nxF ⟨[],fs,dsF es⟩ b).ts=[q]:=by
   show []++[fs.getD b (0,0)]=[q]
   rw[adw _ hb,l];rfl
  rw[v] at g
  have hf:=(hm (b+1) (by rw[aA3];exact(aA1.mp hz).1)).2 (by lia)
  rw[s,C,ac0 g u] at hf
  exact hf
theorem azj{n x f a:Int}{b:Int × Int}{es fs ts:List (Int × Int)}(F:1<=n)(A:Joined n es)(q:InN n es)(v:FreeAll n es fs)(d:FewOk n es fs 1 x ts)(D:af0 n es fs x ts)(hb:aa9 n.toNat (dsF es) a)(E:BestOk n es (some (f,b))):(f<a->x=f/\ts=[b])/\(¬ f<a->x=a/\ts=[]):=by
 obtain⟨g,l,o⟩:b∈fs/\aa9 n.toNat (mW es b) f/\∀ y:Z3,y.2∈fs->aa9 n.toNat (mW es y.2) y.1->¬ lt3 y (f,b):=E fs v
 have top:∀ p∈fs,∀ y,aa9 n.toNat (mW es p) y ↔ aa9 n.toNat (dsF (es++[p])) y:=λp r y=>by
  have:=(v.mem p).mp r
  exact azg A q this.1 (by lia) (by lia) this.2.2.1
 have m:=d.len
 have i:=d.min [] a (List.nil_sublist _) (by simp) (by rw[aF1];exact hb)
 have u:ts=[]->x=a:=λe=>by
  have:=d.top
  rw[e,aF1] at this
  exact ac0 this hb
 have B:=d.min [b] f (List.singleton_sublist.mpr g) (by simp) ((top b g f).mp l)
 have h:ts ≠ []->∃ p,ts=[p]/\p∈fs/\¬ lt3 (x,p) (f,b):=λc=>by
  match ts,c,m,d with
  |[p],_,_,d=>exact⟨p,rfl,d.sub.subset (by simp),o (x,p) (d.sub.subset (by simp)) ((top p (d.sub.subset (by simp)) x).mpr d.top)⟩
  |_::_::_,_,hl,_=>simp at hl;lia
 constructor
 ·intro w
  have c:ts ≠ []:=λe=>by
   have:=u e
   lia
  obtain⟨p,e,r,hn⟩:=h c
  have j:x=f:=by
   apply aD5
   intro z
   exact hn (.inl (by simp only;lia))
  refine⟨j,?_⟩
  rcases ajk p b with z|z|z
  ·exact absurd (.inr ⟨j,z⟩) hn
  ·rw[e,z]
  ·have:=D p e b g z f ((top b g f).mp l)
   lia
 ·intro C
  have s:ts=[]:=by
   apply aD5
   intro c
   obtain⟨p,e,r,hn⟩:=h c
   have G:=i.2 (by rw[e];simp)
   exact hn (.inl (by simp only;lia))
  exact⟨u s,s⟩
def arc(K:Frag):Sp:=λvs H Q _=>∃(a:Addr)(ns:List Int),vs=[.ref a]/\SqL K H a (ns.map V.int)/\ns.length<=63/\∀ H',Q (.bl true) H'
def aw2:VP:=λss Q=>∃ ns:List Int,ss=[.scr ns]/\ns.length<=63/\Q (.st (.bool true))
theorem awa{K:Frag}{vs:List V}{H:Hp}{Q:VK}{E:XK}(h:arc K vs H Q E):spP K aw2 vs H Q E:=by
 obtain⟨a,ns,rfl,b,c,k⟩:=h
 refine⟨H,[.scr ns],λs=>s=.st (.bool true),Same.refl _,λa ks h=>h,.cons ⟨a,rfl,b⟩ .nil,⟨ns,rfl,c,rfl⟩,λs e v G' H' Fv o=>?_⟩
 subst e
 have r:=o.ok.1
 cases r
 exact k _
theorem atx{n c:Int}(p:1<=n):Order n ((List.range n.toNat).map λ(i:Nat)=>((0+(i:Int))+c) % n):=by
 have f:((List.range n.toNat).map λ(i:Nat)=>(i:Int)).Nodup:=by
  rw[List.Nodup,aG2]
  exact List.pairwise_lt_range.imp λ{a b} h e=>by lia
 have d:∀ x y:Int,0<=x->x<n->0<=y->y<n->(x+c) % n=(y+c) % n->x=y:=λx y u q r s e=>by
  have h:=Int.emod_eq_emod_iff_emod_sub_eq_zero.mp e
  rw[show x+c-(y+c)=x-y by lia] at h
  have hd:=Int.dvd_of_emod_eq_zero h
  obtain⟨k,l⟩:=hd
  have j:k=0:=by
   rcases Int.lt_trichotomy k 0 with z|z|z
   ·have:=Int.mul_le_mul_of_nonneg_left (show k<=-1 by lia) (show 0<=n by lia)
    rw[Int.mul_neg,Int.mul_one] at this
    lia
   ·exact z
   ·have:=Int.mul_le_mul_of_nonneg_left (show 1<=k by lia) (show 0<=n by lia)
    rw[Int.mul_one] at this
    lia
  rw[j,Int.mul_zero] at l
  lia
 have g:((List.range n.toNat).map λ(i:Nat)=>((0+(i:Int))+c) % n).Nodup:=by
  rw[List.Nodup,aG2]
  refine aI1 (λ{a b} ha hb h e=>?_) List.pairwise_lt_range
  have ha:=aB9.mp ha
  have hb:=aB9.mp hb
  have:=d (0+(a:Int)) (0+(b:Int)) (by lia) (by lia) (by lia) (by lia) e
  lia
 refine(List.perm_ext_iff_of_nodup g f).mpr λa=>?_
 have hn:(n:Int) ≠ 0:=by lia
 constructor
 ·intro h
  obtain⟨i,_,rfl⟩:=aB7.mp h
  have o:=aE7 (0+(i:Int)+c) hn
  have m:=aE8 (0+(i:Int)+c) (show 0<n by lia)
  exact aB7.mpr ⟨((0+(i:Int)+c) % n).toNat,aB9.mpr (by lia),by lia⟩
 ·intro h
  obtain⟨i,hi,rfl⟩:=aB7.mp h
  have hi:=aB9.mp hi
  have o:=aE7 ((i:Int)-c) hn
  have m:=aE8 ((i:Int)-c) (show 0<n by lia)
  refine aB7.mpr ⟨(((i:Int)-c) % n).toNat,aB9.mpr (by lia),?_⟩
  rw[show(0:Int)+((((i:Int)-c) % n).toNat:Int)=((i:Int)-c) % n by lia,Int.emod_add_emod,show(i:Int)-c+c=i by lia]
  exact Int.emod_eq_of_lt (by lia) (by lia)
theorem aty(ds:List Int):∃ a:List Int,cutD (ds.map PyData.int) (some 60) (some 66)=a.map .int/\(∀ x∈a,x∈ds)/\a.length<=100:=by
 refine⟨(ds.drop (min 60 ds.length)).take (min 66 ds.length-min 60 ds.length),?_,λx b=>aC4 (aC0 b),by rw[aH1];lia⟩
 unfold cutD
 rw[aA3,show(some 60:Option Int)=some ((60:Nat):Int) from rfl,show(some 66:Option Int)=some ((66:Nat):Int) from rfl,HT.sIx_nat,HT.sIx_nat,← List.map_drop,← List.map_take]
theorem ae5(x:Int)(ts:List (Int × Int)):aaq (fewD x ts)=true/\(fewD x ts).depth<=60:=by
 refine⟨?_,?_⟩
 ·show plainDs [.int x,.list (ts.map prD)]=true
  simp only[plainDs,aaq,Bool.true_and,Bool.and_true]
  exact ab8 ts
 ·have:=ais ts
  simp only[fewD,PyData.depth,PyData.depthAll]
  lia
section
variable{P:Program}{w:World}{K:Frag}{mg:Str->Option Value}{base:Heap}
theorem sc_law:FnScope ["script","d","web","before","one","told","due","k","order","turned","other"] ["script"] (aak s_law):=by row_cond sc
theorem azk(T:Txt K mg){f:Addr}{fd:FuncData}(D:DefAt K mg "law" s_law ["script"] f fd):FnOk P w K mg base CX0 12 f fd ["script"] (spP K (aw2)):=by
 refine D.fn.ok sc_law (λvs H Q E h=>lenP h λss Q' q=>by obtain⟨ns,rfl,a1,kk⟩:=q;rfl) (λcdv A outer s H vs Q E W h=>?_)
 have nd:=sc_law.nd
 refine⟨_,(aad (aan (i:=1) nd rfl (Or.inr rfl) (aal (ak8 T) W (aaa (pv 0) (aaa aac aab))))
  (aad (aan (i:=2) nd rfl (Or.inr rfl) (aal (aoh T) W (aaa (pv 1) (aaa aac (aaa aac aab)))))
  (aad (aan (i:=3) nd rfl (Or.inl rfl) (aat aau (aal (aco T) W (aaa (pv 2) aab)) aac (λ_ _=>rfl)))
  (aad (aan (i:=4) nd rfl (Or.inl rfl) (aal (anm T) W (aaa (pv 2) aab)))
  (aad (afh (i:=5) nd rfl (Or.inl rfl) rfl (N:=["k","web"]) (src:=[none,some 2]) (by exact abd rfl rfl rfl rfl rfl rfl) (aes rfl T.b_range (aaa aac (aaa aac aab))) (λ_ _ _ _=>(aah (i:=0) (show List.Nodup (["k","web"]:List Str) by decide +kernel) rfl (Or.inl rfl) (hf:=Or.inr rfl))) (λ_ _ _ _=>abc) (λ_ _ _ _=>(aal (ago T) W (aaa (pv 1) (aaa (pv 0) aab)))))
  (aad (aan (i:=6) nd rfl (Or.inl rfl) (abe (aaa (pv 3) (aaa (abi aab) aab))))
  (aad (abw (PW.pt (ah2 (aa4 aun (pv 4) af4 (aa2 _)) (agr (aa4 aet (aat aau (pv 4) aac (λ_ _=>rfl)) (pv 3) (aa2 _)))))
   (aag (aan (i:=6) nd rfl (Or.inl rfl) (abe (aaa (aat aau (pv 4) aac (λ_ _=>rfl)) (aaa (abi (aaa (aat aau (pv 4) aac (λ_ _=>rfl)) aab)) aab)))))
   abb)
  (aad (abw (PW.pt (ak9 (aa4 (aib W.units) (aat aau (pv 5) aac (λ_ _=>rfl)) (pv 6) (aa2 _)) (ah1 (adz (atg agt agt agt (aat aau (aat aau (pv 5) aac (λ_ _=>rfl)) aac (λ_ _=>rfl)) (aat aau (aat aau (pv 5) aac (λ_ _=>rfl)) aac (λ_ _=>rfl)) (aat aau (aat aau (pv 5) aac (λ_ _=>rfl)) aac (λ_ _=>rfl)) (pv 3))))))
   (aag (aay ac1))
   abb)
  (aad (abr aJ8 rfl (aba rfl T.b_range (aaa aac aab)) (aah (i:=7) nd rfl (Or.inl rfl))
   (aag (abw (adz (aeg (aal (ahc T) W (aaa (pv 2) (aaa (aae aax (pv 7) aac) (aaa (aat aau (pv 5) (pv 7) (λ_ _=>rfl)) (aaa (aek ae9 (pv 1) (aec aac) (aec aac)) aab)))))))
     (aag (aay ac1))
     abb)))
  (aad (aan (i:=8) nd rfl (Or.inr rfl) (adb rfl (N:=["place","web","d"]) (src:=[none,some 2,some 1]) (by exact abd rfl rfl rfl rfl rfl rfl) (aba rfl T.b_range (aaa (aat aau (pv 2) aac (λ_ _=>rfl)) aab)) (λ_ _ _ _=>(aah (i:=0) (show List.Nodup (["place","web","d"]:List Str) by decide +kernel) rfl (Or.inl rfl) (hf:=Or.inr rfl))) (λ_ _ _ _=>abc) (λ_ _ _ _=>(aae aa0 (aae aax (pv 0) (aat (show IxR _ (ack K) from aau) (pv 2) aac (λ_ _=>rfl))) (aat (show IxR _ (ack K) from aau) (pv 1) aac (λ_ _=>rfl))))))
  (aad (afh (i:=9) nd rfl (Or.inl rfl) rfl (N:=["a","b","order"]) (src:=[none,none,some 8]) (by exact abd rfl rfl rfl rfl rfl rfl) (abm (aat aau (pv 2) aac (λ_ _=>rfl))) (λ_ _ _ _=>(show PG _ _ (gTup K 2 (aa5 (aar 0) (aa5 (aar 1) gNil))) from(ab2 rfl (aas (aah (i:=0) (show List.Nodup (["a","b","order"]:List Str) by decide +kernel) rfl (Or.inl rfl) (hf:=Or.inr rfl)) (aas (aah (i:=1) (show List.Nodup (["a","b","order"]:List Str) by decide +kernel) rfl (Or.inl rfl) (hf:=Or.inr rfl)) abf))))) (λ_ _ _ _=>abc) (λ_ _ _ _=>(aav (show abh _ (.builtin "sorted") (age K) from aic) (by rfl) T.b_sorted acv (aaa (abi (aaa (aat (show IxR _ (ack K) from aau) (pv 2) (pv 0) (λ_ _=>rfl)) (aaa (aat (show IxR _ (ack K) from aau) (pv 2) (pv 1) (λ_ _=>rfl)) aab))) aab))))
  (aad (aan (i:=10) nd rfl (Or.inl rfl) (abe (aaa (aat aau (pv 2) aac (λ_ _=>rfl)) (aaa (aav afn (by rfl) T.b_sorted acv (aaa (adb rfl (N:=["a","b"]) (src:=[none,none]) (by exact abd rfl rfl rfl rfl rfl rfl) (abm (pv 9)) (λ_ _ _ _=>(show PG _ _ (gLst K 2 (aa5 (aar 0) (aa5 (aar 1) gNil))) from(ar9 rfl (aas (aah (i:=0) (show List.Nodup (["a","b"]:List Str) by decide +kernel) rfl (Or.inl rfl) (hf:=Or.inr rfl)) (aas (aah (i:=1) (show List.Nodup (["a","b"]:List Str) by decide +kernel) rfl (Or.inl rfl) (hf:=Or.inr rfl)) abf))))) (λ_ _ _ _=>abc) (λ_ _ _ _=>(abe (aaa (pv 0) (aaa (pv 1) aab))))) aab)) aab))))
  (aag (aay (ac9 ap5 (aat aau (aal (ago T) W (aaa (pv 10) (aaa aac aab))) aac (λ_ _=>rfl)) (aat aau (aat aau (pv 5) aac (λ_ _=>rfl)) aac (λ_ _=>rfl)) (aa2 _)))))))))))))))),?_⟩
 refine aa8 h λss Q' q B hK=>?_
 refine exS1 ss q λns l=>?_
 have a1:=l.1
 have kk:=l.2
 clear l q
 show EvS B _ _ [some (.scr ns),none,none,none,none,none,none,none,none,none,none]
 row_cond go
 refine⟨ns,110,rfl,a1,by decide,by decide,λds b9 hl hD=>acs ab3 ?_⟩
 row_cond go
 refine⟨ds,0,7,rfl,hD,by lia,by lia,hl,by lia,by lia,λn es Y b8 O=>?_⟩
 have r:=Y.lo
 have b3:=Y.len
 have G:=Y.in
 row_cond go
 refine⟨n,es,rfl,r,by lia,G,by lia,O,λF fa fb L=>?_⟩
 row_cond go
 refine⟨n,es,rfl,by lia,by lia,G,by lia,O,λo hB=>?_⟩
 row_cond go
 have X:=ae3 n es
 refine⟨λj ys e=>∃(o:Option PyData)(J:List (Int × List (Int × Int))),e=[stO o,some (.st (webD n es))]/\ys=J.map (λw=>fewD w.1 w.2)/\J.length=j/\∀(i:Nat) w,J[i]?=some w->FewOk n es (act n es) (1+(i:Int)) w.1 w.2/\(i=0->af0 n es (act n es) w.1 w.2),⟨none,[],rfl,rfl,rfl,λi s h=>by simp at h⟩,?_,?_,?_⟩
 ·rintro i ys e g
  refine exS2 e g λo J l=>?_
  clear l g
  exact⟨⟨isIo_stO.symm,abt⟩,⟨rfl,rfl⟩,True.intro⟩
 ·rintro i d ys e hd ⟨o,J,rfl,rfl,C,I⟩ B' hB
  obtain⟨hi,rfl⟩:=afq hd
  have b2:i<3:=hi
  refine aap (abx ?_)
  rw[aF6 rfl]
  show Ev B' _ [some (.st (.int (1+(i:Int)))),some (.st (webD n es))] _
  row_cond go
  refine⟨n,1+(i:Int),es,rfl,r,by lia,G,by lia,O,by lia,by lia,λfs hn j x b1 hx hm=>alh ?_⟩
  obtain rfl:=b1.eq X
  refine⟨by rw[aA3];lia,some (.int (1+(i:Int))),J++[(tpM n.toNat hn x.m,x.ts)],rfl,by rw[aE5];rfl,by rw[aB1,C];rfl,λi' s' h'=>?_⟩
  by_cases hii:i'<J.length
  ·rw[aC3 hii] at h'
   exact I i' s' h'
  ·rw[aC8 (by lia)] at h'
   have e0:i'=J.length:=by
    have:=(aA1.mp h').1
    simp at this;lia
   subst e0
   rw[Nat.sub_self] at h'
   cases h'
   rw[C]
   refine⟨anz r hn (by lia) O G X hx hm,λe=>?_⟩
   subst e
   exact atw r hn O G X hx hm
 ·rintro ys e g
  refine exS2 e g λo' J l=>?_
  have a7:=l.1
  have C:=l.2.1
  have I:=l.2.2
  clear l g
  subst a7
  rw[acq] at C
  obtain⟨⟨y,t1⟩,⟨M,U⟩,⟨x3,t3⟩,rfl⟩:∃ s0 s1 s2,J=[s0,s1,s2]:=by
   match J,C with
   |[a,b,c],_=>exact⟨a,b,c,rfl⟩
  have hA:=I 0 (y,t1) rfl
  have h2:FewOk n es (act n es) 2 M U:=(I 1 (M,U) rfl).1
  have h3:FewOk n es (act n es) 3 x3 t3:=(I 2 (x3,t3) rfl).1
  have S:FewOk n es (act n es) 1 y t1:=hA.1
  have a4:af0 n es (act n es) y t1:=hA.2 rfl
  clear I C hA
  show EvG B (aar 5) (.own (OL [fewD y t1,fewD M U,fewD x3 t3])) [some (.scr ns),some (.st (.list (ds.map .int))),some (.st (webD n es)),some (.st (.int F)),some (.st (o3D o)),none,none,none,none,none,none] _
  refine acs ab3 ?_
  row_cond go
  rename_i c_ hc_
  refine' cutR (R:=EvS B c_ { nx:=λx=>Q' (.st .none),rt:=λs x=>Q' s } [some (.scr ns),some (.st (.list (ds.map .int))),some (.st (webD n es)),some (.st (.int F)),some (.st (o3D o)),some (.st (.list [fewD y t1,fewD M U,fewD x3 t3])),some (.st (fewD y t1)),none,none,none,none]) (λR=>?K1) ?K2
  case K1 =>
   cases o with
   | none =>
    have a8:act n es=[]:=hB _ X
    have Z:t1=[]:=by
     have:=S.sub
     rw[a8] at this
     exact List.sublist_nil.mp this
    have a3:y=F:=by
     have:=S.top
     rw[Z,aF1] at this
     exact ac0 this L.top
    rw[Z,a3] at R
    rw[Z,a3]
    refine agy ?_
    repeat (first|exact R|row_cond st)
   | some z =>
    obtain⟨f1,p1⟩:=z
    have hf:=azj r O G X S a4 L.top hB
    rw[show o3D (some (f1,p1))=.tuple [.int f1,prD p1] from rfl] at R ⊢
    refine agz ?_
    by_cases hlt:f1<F
    ·obtain⟨e1,e2⟩:=hf.1 hlt
     rw[e1,e2] at R ⊢
     repeat (first|exact R|row_cond st)
    ·obtain⟨e1,e2⟩:=hf.2 hlt
     rw[e1,e2] at R ⊢
     repeat (first|exact R|row_cond st)
  case K2 =>
   have b5:=(h2.min t1 y S.sub (by have:=S.len;lia) S.top).1
   have c0:=(h3.min U M h2.sub (by have:=h2.len;lia) h2.top).1
   have b7:=(S.min [] F (List.nil_sublist _) (by simp) (by rw[aF1];exact L.top)).1
   dsimp only[fewD]
   row_cond go
   refine ag2 (ae5 y t1).1 (ae5 y t1).1 (ae5 y t1).2 ?_
   rw[show PyData.eqv (.tuple [.int y,.list (t1.map prD)]) (.tuple [.int y,.list (t1.map prD)])=true from amx (ae5 y t1).1]
   repeat (first|(refine ath ?_)|row_cond st)
   refine aby (λi e=>∃ v7,e=[some (.scr ns),some (.st (.list (ds.map .int))),some (.st (webD n es)),some (.st (.int F)),some (.st (o3D o)),some (.st (.list [.tuple [.int y,.list (t1.map prD)],.tuple [.int M,.list (U.map prD)],.tuple [.int x3,.list (t3.map prD)]])),some (.st (.tuple [.int y,.list (t1.map prD)])),v7,none,none,none]) ⟨_,rfl⟩ ?_ ?_
   ·rintro i e hi g
    refine exE1 e g λv7=>?_
    clear g
    have b2:i<3:=hi
    obtain⟨xk,tk,hk,ak⟩:∃ xk tk,FewOk n es (act n es) (0+(i:Int)+1) xk tk/\atI [PyData.tuple [.int y,.list (t1.map prD)],.tuple [.int M,.list (U.map prD)],.tuple [.int x3,.list (t3.map prD)]] (0+(i:Int))=some (.tuple [.int xk,.list (tk.map prD)]):=by
     have:i=0\/i=1\/i=2:=by lia
     rcases this with rfl|rfl|rfl
     ·exact⟨y,t1,S,rfl⟩
     ·exact⟨M,U,h2,rfl⟩
     ·exact⟨x3,t3,h3,rfl⟩
    obtain⟨zs,hz,a9,a5⟩:=aty ds
    row_cond go
    rw[hz]
    refine⟨n,0+(i:Int)+1,xk,es,act n es,tk,zs,rfl,Y,by lia,O,X,hk,by lia,by lia,λx hx=>hD x (a9 x hx),a5,?_⟩
    row_cond go
    exact⟨_,rfl⟩
   ·rintro e g
    refine exE1 e g λv7=>?_
    clear g
    row_cond go
    obtain⟨c,ac,_,_⟩:=hD.at (i:=70) (by lia) (by lia)
    have hO:=atx (c:=c) r
    have hP:=Y.ps
    unfold rngD
    refine adu (f:=λ(i:Nat)=>.int (0+(i:Int))) (λi:Nat=>.int ((0+(i:Int)+c) % n)) rfl (by rw[aE1];lia) (λi hi B' hB=>?_) ?_
    ·row_cond go
     exact rfl
    ·rw[show((List.range n.toNat).map λi:Nat=>PyData.int ((0+(i:Int)+c) % n))=((List.range n.toNat).map λi:Nat=>(0+(i:Int)+c) % n).map .int by rw[aE0];rfl]
     (generalize ((List.range n.toNat).map λi:Nat=>(0+(i:Int)+c) % n)=row at hO)
     refine acs ab3 ?_
     row_cond go
     refine aft (xs:=es) (fa:=λp=>.int p.1) (fb:=λp=>.int p.2) (λp=>.list [.int (reP row p).1,.int (reP row p).2]) (λ_=>true) rfl (by lia) ?_ ?_
     ·intro p hp B' hB
      have hq:=hP.inn p hp
      have r1:=adm (f:=PyData.int) (hO.atI (a:=p.1) (by lia) (by lia))
      have r2:=adm (f:=PyData.int) (hO.atI (a:=p.2) (by lia) (by lia))
      refine abx ⟨rfl,rfl,λ_=>?_⟩
      refine ach (akc ?_)
      row_cond go
      refine⟨[aaw row p.1,aaw row p.2],rfl,by simp,λb4 b0 a6=>ab7 ⟨?_,rfl⟩⟩
      rw[aw0 b0 a6]
      unfold reP
      split <;> rfl
     ·rw[acn]
      row_cond go
      refine agj (ps:=es.map (reP row)) ?_
      row_cond go
      refine ake (xs:=es) (fa:=λp=>.int (reP row p).1) (fb:=λp=>.int (reP row p).2) (λp=>prD (reP row p)) (λ_=>true) rfl (by lia) ?_ ?_
      ·intro p hp B' hB
       refine abx ⟨rfl,rfl,λ_=>?_⟩
       row_cond go
       exact rfl
      ·rw[acn]
       row_cond go
       refine⟨by rw[aE0];rfl,λqs hq hs=>ab7 ?_⟩
       have a0:=amz r Y.hi (hP.re hO) hq hs
       have a2:Joined n qs:=ahi (λu v=>(Tied.perm hq).symm) (Conn.joined (O.conn.re hO) (by lia))
       have b6:=a0.len
       row_cond go
       refine⟨n,2,qs,rfl,r,by lia,a0.in,by lia,a2,by lia,by lia,λgs hn j x hG hx hm=>alh ?_⟩
       have hY:=anz r hn (by lia) a2 a0.in hG hx hm
       have ex:=a1z Y O ⟨hO,hq⟩ X hG h2 hY
       rw[← ex]
       dsimp only[fewD]
       row_cond go
       rw[aD8 (rfl:M=M)]
       exact kk
theorem a10(T:Txt K mg){f:Addr}{fd:FuncData}(D:DefAt K mg "law" s_law ["script"] f fd):FnOk P w K mg base CX0 12 f fd ["script"] (arc K):=(azk T D).imp λ_ _ _ _ h=>awa h
end
theorem len0{α:Type}{us:List α}(h:us.length=0):us=[]:=aH3 h
theorem len1{α:Type}{us:List α}(h:us.length=1):∃ a0,us=[a0]:=by
 cases us with
 |nil=>cases h
 |cons a us=>exact⟨a,by rw[len0 (Nat.succ.inj h)]⟩
theorem len2{α:Type}{us:List α}(h:us.length=2):∃ a0 a1,us=[a0,a1]:=by
 cases us with
 |nil=>cases h
 |cons a us=>obtain⟨a1,e⟩:=len1 (Nat.succ.inj h);exact⟨a,a1,by rw[e]⟩
theorem len3{α:Type}{us:List α}(h:us.length=3):∃ a0 a1 b,us=[a0,a1,b]:=by
 cases us with
 |nil=>cases h
 |cons a us=>obtain⟨a1,b,e⟩:=len2 (Nat.succ.inj h);exact⟨a,a1,b,by rw[e]⟩
theorem len4{α:Type}{us:List α}(h:us.length=4):∃ a0 a1 b c,us=[a0,a1,b,c]:=by
 cases us with
 |nil=>cases h
 |cons a us=>obtain⟨a1,b,c,e⟩:=len3 (Nat.succ.inj h);exact⟨a,a1,b,c,by rw[e]⟩
def Bnd(x:Str)(st:Stmt)(ps:List Str):Prop:=∀(kV doc pm:Value)(an:Option Addr)(cdv ct:Value)(us:List Value),us.length=ps.length->bindArgs (fnOf x x (acf st) (ab1 st) (aak st) .none kV doc pm an cdv ct) ⟨us,[]⟩=pure (ps.zip us)
def FnIn(K:Frag)(x:Str)(st:Stmt):Prop:=∃ f oc od kV dc pm an cd ct sl,nsIn K mainGlobals x=some (some (.ref f))/\K.lookup f=some ⟨oc,od,.func (fnOf x x (acf st) (ab1 st) (aak st) .none kV dc pm an cd ct),sl⟩/\codeIn K cd x=true/\keepIn K (.ref f)=true
theorem fn_in{K:Frag}{x:Str}{st:Stmt}{f:Addr}{od an:Option Addr}{sl:Array (Option Value)}{oc kV d pm b ct:Value}(a:nsIn K mainGlobals x=some (some (.ref f)))(l:K.lookup f=some ⟨oc,od,.func (fnOf x x (acf st) (ab1 st) (aak st) .none kV d pm an b ct),sl⟩)(c:codeIn K b x=true)(k:keepIn K (.ref f)=true):FnIn K x st:=⟨f,oc,od,kV,d,pm,an,b,ct,sl,a,l,c,k⟩
theorem bnd1{st:Stmt}{x:Str}{ps:List Str}(c:ps.length=1)(h:∀(kV doc pm:Value)(an:Option Addr)(cdv ct:Value)(b:Value),bindArgs (fnOf x x (acf st) (ab1 st) (aak st) .none kV doc pm an cdv ct) ⟨[b],[]⟩=pure (ps.zip [b])):Bnd x st ps:=by
 intro kV doc pm an cdv ct us a
 rw[c] at a
 obtain⟨_,rfl⟩:=len1 a
 exact h _ _ _ _ _ _ _
theorem bnd2{st:Stmt}{x:Str}{ps:List Str}(d:ps.length=2)(h:∀(kV doc pm:Value)(an:Option Addr)(cdv ct:Value)(c b:Value),bindArgs (fnOf x x (acf st) (ab1 st) (aak st) .none kV doc pm an cdv ct) ⟨[c,b],[]⟩=pure (ps.zip [c,b])):Bnd x st ps:=by
 intro kV doc pm an cdv ct us a
 rw[d] at a
 obtain⟨_,_,rfl⟩:=len2 a
 exact h _ _ _ _ _ _ _ _
theorem bnd3{st:Stmt}{x:Str}{ps:List Str}(f:ps.length=3)(h:∀(kV doc pm:Value)(an:Option Addr)(cdv ct:Value)(d c b:Value),bindArgs (fnOf x x (acf st) (ab1 st) (aak st) .none kV doc pm an cdv ct) ⟨[d,c,b],[]⟩=pure (ps.zip [d,c,b])):Bnd x st ps:=by
 intro kV doc pm an cdv ct us a
 rw[f] at a
 obtain⟨_,_,_,rfl⟩:=len3 a
 exact h _ _ _ _ _ _ _ _ _
theorem bnd4{st:Stmt}{x:Str}{ps:List Str}(g:ps.length=4)(h:∀(kV doc pm:Value)(an:Option Addr)(cdv ct:Value)(f c b d:Value),bindArgs (fnOf x x (acf st) (ab1 st) (aak st) .none kV doc pm an cdv ct) ⟨[f,c,b,d],[]⟩=pure (ps.zip [f,c,b,d])):Bnd x st ps:=by
 intro kV doc pm an cdv ct us a
 rw[g] at a
 obtain⟨_,_,_,_,rfl⟩:=len4 a
 exact h _ _ _ _ _ _ _ _ _ _
theorem aa3{K:Frag}{h:Heap}{mg:Str->Option Value}{x:Str}{st:Stmt}{ps:List Str}(X:K.In h)(G:h.Ns mainGlobals mg)(q:FnIn K x st)
  (hb:Bnd x st ps):∃ f fd,DefAt K mg x st ps f fd:=by
 obtain⟨f,oc,od,kV,b,pm,an,d,ct,sl,a,l,c,k⟩:=q
 exact⟨_,_,have F:=az3 (st:=st) l c k;⟨F,mg_of X G a,F.binds hb⟩⟩
theorem txt_mk{K:Frag}{h:Heap}{mg:Str->Option Value}(X:K.In h)(G:h.Ns mainGlobals mg)
  {g:Tok} {a:Tok} {P o Q:Addr} {M s:Value} {N v:Option Addr} {r:FuncData} {O u:Array (Option Value)} {J:Array Value} 
  (h0:FnIn K "is_whole" s_is_whole)
  (h1:FnIn K "is_between" s_is_between)
  (h2:FnIn K "need_number" s_need_number)
  (h3:FnIn K "is_place" s_is_place)
  (h4:FnIn K "is_tie" s_is_tie)
  (h5:FnIn K "are_ties" s_are_ties)
  (h6:FnIn K "is_rising" s_is_rising)
  (h7:FnIn K "tied_places" s_tied_places)
  (h8:FnIn K "far_from" s_far_from)
  (h9:FnIn K "need_place" s_need_place)
  (Z:FnIn K "all_far" s_all_far)
  (b1:FnIn K "is_joined" s_is_joined)
  (T:FnIn K "need_joined" s_need_joined)
  (R:FnIn K "far_rows" s_far_rows)
  (b0:FnIn K "most_far" s_most_far)
  (a3:FnIn K "farthest_two" s_farthest_two)
  (S:FnIn K "with_ties" s_with_ties)
  (a8:FnIn K "free_ties" s_free_ties)
  (a1:FnIn K "rows_with" s_rows_with)
  (a5:FnIn K "row_with" s_row_with)
  (a7:FnIn K "best_tie" s_best_tie)
  (U:FnIn K "best_few" s_best_few)
  (a0:FnIn K "one_tie_more" s_one_tie_more)
  (Y:FnIn K "_law_draws" s_law_draws)
  (a2:FnIn K "_law_web" s_law_web)
  (a6:FnIn K "_law_free" s_law_free)
  (a4:FnIn K "_law_one_right" s_law_one_right)
  (a9:FnIn K "law" s_law)
  (d:nsIn K mainGlobals "ValueError" = some none)
  (E:nsIn K mainGlobals "all" = some none)
  (H:nsIn K mainGlobals "max" = some none)
  (j:nsIn K mainGlobals "sorted" = some none)
  (z:nsIn K mainGlobals "min" = some none)
  (p:nsIn K mainGlobals "list" = some none)
  (m:nsIn K mainGlobals "range" = some none)
  (f:nsIn K mainGlobals "enumerate" = some none)
  (c:nsIn K mainGlobals "isinstance" = some none)
  (I:nsIn K mainGlobals "int" = some none)
  (y:nsIn K mainGlobals "len" = some none)
  (F:nsIn K mainGlobals "abs" = some none)
  (q:nsIn K mainGlobals "bool" = some none)
  (n:nsIn K mainGlobals "tuple" = some none)
  (A:nsIn K mainGlobals "zip" = some none)
  (B:nsIn K mainGlobals "set" = some none)
  (i:nsIn K mainGlobals "MOST_FEW" = some (some (.int 3 g)))
  (b:nsIn K mainGlobals "MOST_PLACES_FOR_FEW" = some (some (.int 8 a)))
  (w:nsIn K mainGlobals lamN=some (some (.ref P))) (D:K.lookup P=some ⟨M,N,.func r,O⟩) (L:r.code=.ref o) (l:K.lookup o=some ⟨s,v,.fields J,u⟩) (x:J[11]?=some (.ref Q)) (C:PySem.W.codeHdIn [(o,⟨s,v,.fields J,u⟩)] o Q=true)
  : Txt K mg where
  lam:=a1a X G (tab_mk w D L l x) (a1b l C)
  b_ValueError:=mg_none_of X G d
  b_all:=mg_none_of X G E
  b_max:=mg_none_of X G H
  b_sorted:=mg_none_of X G j
  b_min:=mg_none_of X G z
  b_list:=mg_none_of X G p
  b_range:=mg_none_of X G m
  b_enumerate:=mg_none_of X G f
  b_isinstance:=mg_none_of X G c
  b_int:=mg_none_of X G I
  b_len:=mg_none_of X G y
  b_abs:=mg_none_of X G F
  b_bool:=mg_none_of X G q
  b_tuple:=mg_none_of X G n
  b_zip:=mg_none_of X G A
  b_set:=mg_none_of X G B
  v_MOST_FEW:=⟨_,mg_of X G i⟩
  v_MOST_PLACES_FOR_FEW:=⟨_,mg_of X G b⟩
  d_is_whole:=aa3 X G h0 (bnd1 rfl λ_ _ _ _ _ _ _=>rfl)
  d_is_between:=aa3 X G h1 (bnd3 rfl λ_ _ _ _ _ _ _ _ _=>rfl)
  d_need_number:=aa3 X G h2 (bnd3 rfl λ_ _ _ _ _ _ _ _ _=>rfl)
  d_is_place:=aa3 X G h3 (bnd2 rfl λ_ _ _ _ _ _ _ _=>rfl)
  d_is_tie:=aa3 X G h4 (bnd2 rfl λ_ _ _ _ _ _ _ _=>rfl)
  d_are_ties:=aa3 X G h5 (bnd2 rfl λ_ _ _ _ _ _ _ _=>rfl)
  d_is_rising:=aa3 X G h6 (bnd1 rfl λ_ _ _ _ _ _ _=>rfl)
  d_tied_places:=aa3 X G h7 (bnd1 rfl λ_ _ _ _ _ _ _=>rfl)
  d_far_from:=aa3 X G h8 (bnd2 rfl λ_ _ _ _ _ _ _ _=>rfl)
  d_need_place:=aa3 X G h9 (bnd2 rfl λ_ _ _ _ _ _ _ _=>rfl)
  d_all_far:=aa3 X G Z (bnd2 rfl λ_ _ _ _ _ _ _ _=>rfl)
  d_is_joined:=aa3 X G b1 (bnd1 rfl λ_ _ _ _ _ _ _=>rfl)
  d_need_joined:=aa3 X G T (bnd1 rfl λ_ _ _ _ _ _ _=>rfl)
  d_far_rows:=aa3 X G R (bnd1 rfl λ_ _ _ _ _ _ _=>rfl)
  d_most_far:=aa3 X G b0 (bnd1 rfl λ_ _ _ _ _ _ _=>rfl)
  d_farthest_two:=aa3 X G a3 (bnd1 rfl λ_ _ _ _ _ _ _=>rfl)
  d_with_ties:=aa3 X G S (bnd2 rfl λ_ _ _ _ _ _ _ _=>rfl)
  d_free_ties:=aa3 X G a8 (bnd1 rfl λ_ _ _ _ _ _ _=>rfl)
  d_rows_with:=aa3 X G a1 (bnd2 rfl λ_ _ _ _ _ _ _ _=>rfl)
  d_row_with:=aa3 X G a5 (bnd3 rfl λ_ _ _ _ _ _ _ _ _=>rfl)
  d_best_tie:=aa3 X G a7 (bnd1 rfl λ_ _ _ _ _ _ _=>rfl)
  d_best_few:=aa3 X G U (bnd2 rfl λ_ _ _ _ _ _ _ _=>rfl)
  d_one_tie_more:=aa3 X G a0 (bnd1 rfl λ_ _ _ _ _ _ _=>rfl)
  d_law_draws:=aa3 X G Y (bnd2 rfl λ_ _ _ _ _ _ _ _=>rfl)
  d_law_web:=aa3 X G a2 (bnd3 rfl λ_ _ _ _ _ _ _ _ _=>rfl)
  d_law_free:=aa3 X G a6 (bnd1 rfl λ_ _ _ _ _ _ _=>rfl)
  d_law_one_right:=aa3 X G a4 (bnd4 rfl λ_ _ _ _ _ _ _ _ _ _=>rfl)
  d_law:=aa3 X G a9 (bnd1 rfl λ_ _ _ _ _ _ _=>rfl)
theorem walk{l:PySem.W.OpenLaw}{q:Program}{b:List Str}{y:(Str->Option Value)->Heap->Prop}{o:World->Heap->Prop}{d:DefRec}{K:Params->Frag}(hn:l.most=some 63)(g:d.params.defaults=[])(i:d.name = "law")
  (r:∀(w:World)(h:Heap),o w h->(K w.params).In h)
  (j:∀(w:World)(lo:List Str)(mg mb:Str->Option Value)(c:ExcName->Option Value)(h:Heap),PyProof.Rows.Top q lo c mg mb h->o w h->afb (K w.params) h)
  (F:∀(w:World)(mg:Str->Option Value)(h:Heap),(K w.params).In h->h.Ns mainGlobals mg->Txt (K w.params) mg) :
  PySem.W.WalkO q b y o l.row.toRowW d [] (λf vs=>PySem.call f vs):=by
 refine L2.walk_of (n:=63) (k:=12) (x:="script") (CX:=λ_=>CX0) (sp:=λw=>arc (K w.params)) hn (by decide) g ⟨rfl,by decide,by decide,rfl⟩ r j (λw mg fa h X G e=>?_) (λ_ _ a ns v _ p=>⟨a,ns,rfl,p,v,λ_=>rfl⟩) λ_ _ _ _ _ z=>z
 have T:=F w mg h X G
 rw[i] at e
 obtain⟨f1,m,D⟩:=T.d_law
 have A:=e.symm.trans D.mgx
 cases A
 refine⟨m,λs u=>?_,λbase _ _=>?_⟩
 ·obtain⟨oc,od,kV,doc,pm,an,cdv,ct,osl,rfl,C,B⟩:=D.fn.ex
  exact .of_eq rfl
 ·exact a10 T D
end G
end
namespace PySem.W.Fast
theorem tw3807357951564462404:True:=trivial
theorem tw17432477642152601048:True:=trivial
theorem tw2640464967871941609:True:=trivial
theorem tw2963714557895061846:True:=trivial
theorem tw7997077809796460680:True:=trivial
theorem tw14074961077971886264:True:=trivial
theorem tw1720639010351129878:True:=trivial
theorem tw8925530941032601305:True:=trivial
theorem tw4575193961552436280:True:=trivial
theorem tw8886081683190051915:True:=trivial
theorem tw3406304852493022747:True:=trivial
theorem tw3077710801606423411:True:=trivial
theorem tw2610476004739723070:True:=trivial
theorem tw10525294409059656622:True:=trivial
theorem tw4291497044061221763:True:=trivial
theorem tw15685927222133146008:True:=trivial
theorem tw7051310000573695286:True:=trivial
theorem tw9259547540793973329:True:=trivial
theorem tw7016105282956016357:True:=trivial
theorem tw12500709127948110116:True:=trivial
theorem tw10628148477825422193:True:=trivial
theorem tw492029990561079560:True:=trivial
theorem tw16980065473682709788:True:=trivial
theorem tw1990063149907804222:True:=trivial
theorem tw236101364231726310:True:=trivial
theorem tw7001604278654589503:True:=trivial
theorem tw9141385155512646944:True:=trivial
theorem tw14812327424283893339:True:=trivial
theorem tw7054993572333326086:True:=trivial
theorem tw13718263424838001246:True:=trivial
theorem tw11029915201059187839:True:=trivial
theorem tw7446870467591098446:True:=trivial
theorem tw16381791046571392980:True:=trivial
theorem tw12563163794189621580:True:=trivial
theorem tw18411195613419032294:True:=trivial
theorem tw12571496627128256786:True:=trivial
theorem tw11421460995343494919:True:=trivial
theorem tw208174725881761054:True:=trivial
theorem tw9913836633774334322:True:=trivial
theorem tw5013170599430415174:True:=trivial
theorem tw17536257425059159417:True:=trivial
theorem tw10567365482662238282:True:=trivial
theorem tw11294822122875900542:True:=trivial
theorem tw7455171517888941323:True:=trivial
theorem tw13605724153306365237:True:=trivial
theorem tw5764798441314677162:True:=trivial
theorem tw14617463163720332229:True:=trivial
theorem tw18055805452355509137:True:=trivial
theorem tw6893001983644160257:True:=trivial
theorem tw2361076402494248330:True:=trivial
theorem tw7585221353395908390:True:=trivial
theorem tw4512187024707914143:True:=trivial
theorem tw11816901784705431280:True:=trivial
theorem tw7214218114490485725:True:=trivial
theorem tw3715393058265676063:True:=trivial
theorem tw4871373612411673083:True:=trivial
theorem tw11343614785672110800:True:=trivial
theorem tw15798677786443977504:True:=trivial
theorem tw3140662797810321132:True:=trivial
theorem tw14780648327482868623:True:=trivial
theorem tw7347114517300514575:True:=trivial
theorem tw8052593128905899291:True:=trivial
theorem tw14879453666168219:True:=trivial
theorem tw8833763918874568538:True:=trivial
theorem tw5661271030943738873:True:=trivial
theorem tw17256954549214689989:True:=trivial
theorem tw5145774145296801700:True:=trivial
theorem tw15626338294840258081:True:=trivial
theorem tw430954840823844265:True:=trivial
theorem tw3984942781731293161:True:=trivial
theorem tw16377936620007884884:True:=trivial
theorem tw14103154790131361219:True:=trivial
theorem tw15179782902087281334:True:=trivial
theorem tw5442027158638159711:True:=trivial
theorem tw14965583108197948023:True:=trivial
theorem tw11704854179447820195:True:=trivial
theorem tw10114986022719723356:True:=trivial
theorem tw11835473036710243393:True:=trivial
theorem tw13106643694169373296:True:=trivial
theorem tw5310431265401863163:True:=trivial
theorem tw3491336032613756338:True:=trivial
theorem tw1779041574202661120:True:=trivial
theorem tw11209847829965576364:True:=trivial
theorem tw3404733039224042900:True:=trivial
theorem tw18435823824908565735:True:=trivial
theorem tw16001698458114104948:True:=trivial
theorem tw7414099274466393567:True:=trivial
theorem tw7239887505213440856:True:=trivial
theorem tw12568501450714786463:True:=trivial
theorem tw11263304252032300056:True:=trivial
theorem tw4843655959180431921:True:=trivial
theorem tw12116929593389145082:True:=trivial
theorem tw2890523464767004589:True:=trivial
theorem tw7215691772311504441:True:=trivial
theorem tw8518571517497906717:True:=trivial
theorem tw6866872207898748981:True:=trivial
theorem tw3865875396285913481:True:=trivial
theorem tw1012625637007015256:True:=trivial
theorem tw2204860527067072884:True:=trivial
theorem tw615999462397233647:True:=trivial
theorem tw7711492190395782021:True:=trivial
theorem tw9839858102444719515:True:=trivial
theorem tw6199471660207544185:True:=trivial
theorem tw8033865909143491493:True:=trivial
theorem tw10219684581169031712:True:=trivial
theorem tw13486870801229401616:True:=trivial
theorem tw8931238285334347226:True:=trivial
theorem tw14345967033142196432:True:=trivial
theorem tw17943687497161282003:True:=trivial
theorem tw3180971749706523578:True:=trivial
theorem tw17054793998123709028:True:=trivial
theorem tw15255005256179662457:True:=trivial
theorem tw381217820586462968:True:=trivial
theorem tw613344696985824002:True:=trivial
theorem tw13316789122222155598:True:=trivial
theorem tw17854496212806457387:True:=trivial
theorem tw14038121692607773775:True:=trivial
theorem tw13188218930068951257:True:=trivial
theorem tw8962194025903638873:True:=trivial
theorem tw8287926490000578885:True:=trivial
theorem tw3373131542350577555:True:=trivial
theorem tw7317236816932712313:True:=trivial
theorem tw18127541738355106675:True:=trivial
theorem tw3120309077704654299:True:=trivial
theorem tw16387313413980738351:True:=trivial
theorem tw14259274925352164397:True:=trivial
theorem tw2131794152630857690:True:=trivial
theorem tw14255585923340032749:True:=trivial
theorem tw7606621370877143513:True:=trivial
theorem tw3120357827990836856:True:=trivial
theorem tw2033788511802567995:True:=trivial
theorem tw14418714887009481442:True:=trivial
theorem tw12383029220038017339:True:=trivial
theorem tw3517514485464106880:True:=trivial
theorem tw13926236017404582347:True:=trivial
theorem tw12693128898091001617:True:=trivial
theorem tw12784141986428172152:True:=trivial
theorem tw11752265521381640619:True:=trivial
theorem tw10131721838713389910:True:=trivial
theorem tw4469971706836064929:True:=trivial
theorem tw13045897130864914370:True:=trivial
theorem tw17070629593004610524:True:=trivial
theorem tw16206277335529296916:True:=trivial
theorem tw14540289174919191575:True:=trivial
theorem tw4743626842640970909:True:=trivial
theorem tw16885968402657173928:True:=trivial
theorem tw16376159642565982212:True:=trivial
theorem tw9512135533614393607:True:=trivial
theorem tw3285161411349699628:True:=trivial
theorem tw17521927782787771889:True:=trivial
theorem tw16553478048462330137:True:=trivial
theorem tw10934180098743640406:True:=trivial
theorem tw1717047384187193980:True:=trivial
theorem tw4226311656669358562:True:=trivial
theorem tw10671311395604375514:True:=trivial
theorem tw15208231906382093124:True:=trivial
theorem tw13020320082717166990:True:=trivial
end PySem.W.Fast
open PySem PySem.W PyProof.Rows
set_option maxRecDepth 100000 in
set_option maxHeartbeats 0 in
theorem PySem.Challenge.cw_fewties_k18_whole_few_and_one_holds : PySem.Challenge.rw_fewties_k18_whole_few_and_one.Holds := by
 w_on;o_law;k_head;(case hw=>w_witness2)
 k_fill
 refine G.walk (l:=PySem.Challenge.rw_fewties_k18_whole_few_and_one) rfl rfl rfl (fun w h Y=>PySem.W.km_in_of Y) ?TB ?F
 case TB =>
  intro w lo mg mb mean h T Y
  refine' L2.tabs0_some T (PySem.W.km_in_of Y) (by kernel_rfl) (L2.tab_mk ?a_ ?l_ ?c_ ?k_ ?v_) ?hl_
  case a_=>k_is
  case l_=>k_is
  case c_=>exact rfl
  case k_=>k_is
  case v_=>exact rfl
  case hl_=>kernel_rfl
 case F =>
  intro w mg h KX GG
  refine' G.txt_mk KX GG ..
  all_goals try (refine' G.fn_in ?a_ ?l_ ?c_ ?k_;(case a_=>k_is);(case l_=>k_is);(case c_=>k_is);(case k_=>k_is))
  all_goals try k_is
  all_goals try exact rfl
  all_goals try k_is
  all_goals try exact rfl
  all_goals try kernel_rfl
#print axioms PySem.Challenge.cw_fewties_k18_whole_few_and_one_holds
